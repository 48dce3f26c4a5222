/- A Clock of package clock in memory (PM, PC), and what New, Count, find, Live and Aborted return. Conditions: the Clock lies in memory. -/
import Derived.Test.YtpjjpjdamieeeaaKa
import Derived.Test.YtpjjpjdamieeeaaKg
namespace Go.Proofs.Ytpjjpjdamieeeaa
set_option maxRecDepth 100000
set_option linter.unusedVariables false
open Go.ChangeShapes Go.WideShapes Go.ChangeAt Go.RowKit

/-- A transaction's three cells. -/
def abd (x : Tx) : Bool := !x.live && decide (x.com = 0)
def tc (x : Tx) : List Value := [.int .i64 (x.mark : Nat), .int .i64 (x.com : Nat), .bool (abd x)]
def tcs (l : List Tx) : List Value := l.flatMap tc
def ics (L : List Int) : List Value := L.map (.int .i64)
theorem tc_len (l : List Tx) : ∀ x ∈ l, (tc x).length = 3 := fun x _ => rfl
theorem tcs_len (l : List Tx) : (tcs l).length = l.length * 3 := flat_len tc 3 l (tc_len l)
/-- L are the numbers of the live ones. -/
structure Lv (c : Ck) (L : List Int) : Prop where
  len : L.length = c.cnt
  mem : ∀ t, t ∈ L ↔ c.isLive t = true
  nd : L.Nodup
/-- The Clock in block a: its transactions at v1, the live ones at v2; all of it in blocks of F. -/
structure PM (F : Nat → Prop) (w : World) (a : Nat) (v1 v2 : Value) (l : List Tx) (L : List Int) (n : Nat) : Prop where
  lt : ∀ k, F k → k < w.heap.size
  fa : F a
  f1 : ∀ k, v1.ownBlock = some k → F k
  f2 : ∀ k, v2.ownBlock = some k → F k
  blk : w.heap[a]? = some (.cells #[v1, v2, .int .i64 (n : Nat)] 92 (0, 0))
  r1 : w.ownsRow 0 94 3 v1 l.length (tcs l)
  r2 : w.ownsRow 0 3 1 v2 L.length (ics L)
def PC (F : Nat → Prop) (w : World) (a : Nat) (c : Ck) : Prop := c.Ok ∧ ∃ v1 v2 L, Lv c L ∧ PM F w a v1 v2 c.l L c.n
section
variable {F F' G : Nat → Prop} {w w' : World} {a : Nat} {v1 v2 : Value} {l : List Tx} {L : List Int} {n : Nat} {c : Ck}
theorem PM.same (h : PM F w a v1 v2 l L n) (hF : ∀ k, F k → F' k) (hlt : ∀ k, F' k → k < w'.heap.size) (hw : ∀ k, F k → w'.heap[k]? = w.heap[k]?) : PM F' w' a v1 v2 l L n :=
  ⟨hlt, hF _ h.fa, fun k hk => hF k (h.f1 k hk), fun k hk => hF k (h.f2 k hk), (hw a h.fa).trans h.blk, own_same h.r1 (fun k hk => hw k (h.f1 k hk)), own_same h.r2 (fun k hk => hw k (h.f2 k hk))⟩
theorem PC.same (h : PC F w a c) (hF : ∀ k, F k → F' k) (hlt : ∀ k, F' k → k < w'.heap.size) (hw : ∀ k, F k → w'.heap[k]? = w.heap[k]?) : PC F' w' a c := by
  obtain ⟨hok, v1, v2, L, hl, h⟩ := h
  exact ⟨hok, v1, v2, L, hl, h.same hF hlt hw⟩
theorem PC.ok (h : PC F w a c) : c.Ok := h.1
theorem PC.lt (h : PC F w a c) : ∀ k, F k → k < w.heap.size := by obtain ⟨_, v1, v2, L, _, h⟩ := h; exact h.lt
theorem PC.chg (h : PC F w a c) (hc : Chg G w w') (hG : ∀ k, F k → ¬ G k) : PC F w' a c :=
  h.same (fun _ h => h) (fun k hk => Nat.lt_of_lt_of_le (h.lt k hk) hc.size) (fun k hk => hc.block k (h.lt k hk) (hG k hk))
theorem PC.below (h : PC F w a c) (hb : Below w.heap.size w w') : PC F w' a c := h.chg (Chg.below (F := fun _ => False) hb) (fun _ _ h => h)
theorem PM.below (h : PM F w a v1 v2 l L n) (hb : Below w.heap.size w w') : PM F w' a v1 v2 l L n :=
  h.same (fun _ h => h) (fun k hk => Nat.lt_of_lt_of_le (h.lt k hk) hb.size) (fun k hk => hb.block k (h.lt k hk))
theorem PC.wide (h : PC F w' a c) (hs : w.heap.size ≤ w'.heap.size) (F0 : Nat → Prop) (hF : ∀ k, F k → F0 k ∨ w.heap.size ≤ k) (h0 : ∀ k, F0 k → k < w.heap.size) : PC (Nu F0 w w') w' a c :=
  h.same (fun k hk => by rcases hF k hk with h1 | h1; exact .inl h1; exact .inr ⟨h1, h.lt k hk⟩) (fun k hk => by rcases hk with h1 | h1; exact Nat.lt_of_lt_of_le (h0 k h1) hs; exact h1.2) (fun _ _ => rfl)
theorem PC.drew (h : PC F w a c) : PC F w.drew a c := h.same (fun _ h => h) h.lt (fun _ _ => rfl)
theorem PC.drewN (h : PC F w a c) (k : Nat) : PC F (w.drewN k) a c := h.same (fun _ h => h) h.lt (fun _ _ => rfl)
/-- A method returns v, and leaves the Clock in block a in state c; of what was there only blocks of F may change. -/
def Does (F : Nat → Prop) (w : World) (a : Nat) (v : Value) (c : Ck) (e : Ending) (w' : World) : Prop := e = .returned v ∧ PC (Nu F w w') w' a c ∧ Chg F w w'
theorem does_of {v : Value} (h : PC F w' a c) (hc : Chg F w w') (h0 : ∀ k, F k → k < w.heap.size) : Does F w a v c (.returned v) w' :=
  ⟨rfl, h.wide hc.size F (fun _ h => .inl h) h0, hc⟩
theorem PM.cells (h : PM F w a v1 v2 l L n) : w.cell? ⟨a, 0, none⟩ = some v1 ∧ w.cell? ⟨a, 1, none⟩ = some v2 ∧ w.cell? ⟨a, 2, none⟩ = some (.int .i64 (n : Nat)) ∧ ∀ o, w.frozen? ⟨a, o, none⟩ = false := by
  have hb := h.blk
  refine ⟨?_, ?_, ?_, fun o => frozen_of_row w a o _ _ hb⟩ <;> rw [cell_of_row w a _ _ _ _ hb] <;> rfl
theorem PM.nb {v : Value} {e size m : Nat} {xs : List Value} (h : PM F w a v1 v2 l L n) (hv : w.ownsRow 0 e size v m xs) (he : e ≠ 92) : v.ownBlock ≠ some a := fun e' => by
  obtain ⟨cur, h1⟩ := own_type hv e'
  have := h.blk
  rw [h1] at this
  injection this with this; injection this with _ this; exact he this
theorem PM.n12 (h : PM F w a v1 v2 l L n) {k : Nat} (h1 : v1.ownBlock = some k) : v2.ownBlock ≠ some k := fun e' => by
  obtain ⟨cur, h1⟩ := own_type h.r1 h1
  obtain ⟨cur', h2⟩ := own_type h.r2 e'
  rw [h1] at h2
  injection h2 with h2; injection h2 with _ h2; cases h2
/-- Transaction k's cells. -/
theorem PM.row (h : PM F w a v1 v2 l L n) {k : Nat} (hk : k < l.length) : ∃ g cp, v1 = .slice (some ⟨g, 0, none⟩) l.length cp ∧ F g ∧ w.cell? ⟨g, k * 3, none⟩ = some (.int .i64 (l[k].mark : Nat)) ∧ w.cell? ⟨g, k * 3 + 1, none⟩ = some (.int .i64 (l[k].com : Nat)) ∧ w.cell? ⟨g, k * 3 + 2, none⟩ = some (.bool (abd l[k])) ∧ ∀ o, w.frozen? ⟨g, o, none⟩ = false := by
  obtain ⟨g, cp, rfl, hb, hlt⟩ := World.ownsRow.form h.r1 (by omega)
  have e : ∀ j, j < 3 → w.cell? ⟨g, k * 3 + j, none⟩ = (tc l[k])[j]? := fun j hj => by
    rw [World.ownsRow.cellAt h.r1 (k * 3 + j) (by omega)]
    exact flat_at tc 3 (tc_len l) k j hk hj
  exact ⟨g, cp, rfl, h.f1 g rfl, e 0 (by omega), e 1 (by omega), e 2 (by omega), fun o => World.ownsRow.frozenAt h.r1 o⟩
end
theorem PM.big {F : Nat → Prop} {w : World} {a : Nat} {v1 v2 : Value} {l : List Tx} {L : List Int} {n : Nat} (h : PM F w a v1 v2 l L n) : l.length ≤ 9223372036854775807 := by
  rcases h.r1.2 with ⟨_, h1⟩ | ⟨g, cp, cur, _, _, _, h2, h3, _⟩
  · omega
  · unfold maxLen at h3; omega
theorem has_split {c : Ck} {t : Int} : (c.has t = true ∧ ∃ k : Nat, t = ((k + 1 : Nat) : Int) ∧ k < c.l.length ∧ (∀ h : k < c.l.length, c.tx t = c.l[k])) ∨ (c.has t = false ∧ (t < 1 ∨ (c.l.length : Int) < t)) := by
  cases h : c.has t with
  | true =>
    have := Ck.has_iff.1 h
    refine .inl ⟨rfl, t.toNat - 1, by omega, by omega, fun hk => ?_⟩
    unfold Ck.tx
    rw [List.getD, List.getElem?_eq_getElem hk]; rfl
  | false =>
    refine .inr ⟨rfl, ?_⟩
    have h' : ¬ (1 ≤ t ∧ t ≤ (c.l.length : Int)) := fun e => by rw [Ck.has_iff.2 e] at h; cases h
    omega
theorem new_any (w : World) : Calls Try.prog 27 #[] w fun e w' => e = .returned (.pointer (some ⟨w.heap.size, 0, none⟩)) ∧ PC (fun k => k = w.heap.size) w' w.heap.size Ck.new ∧ Below w.heap.size w w' := by
  go_enter Try.func27, Try.ntmps27
  go_wp2
  go_ret
  have hm : PM (fun k => k = w.heap.size) (w.alloc (.cells #[.slice none 0 0, .slice none 0 0, .int .i64 0] 92)) w.heap.size (.slice none 0 0) (.slice none 0 0) [] [] 0 :=
    { lt := fun k hk => by subst hk; simp
      fa := rfl
      f1 := fun k hk => by simp [Value.ownBlock] at hk
      f2 := fun k hk => by simp [Value.ownBlock] at hk
      blk := heap_alloc_new w _
      r1 := World.ownsRow_nil _ _ _ _
      r2 := World.ownsRow_nil _ _ _ _ }
  have hv : Lv Ck.new [] := ⟨rfl, fun t => by simp [Ck.new, Ck.isLive, Ck.has]; intro h1; have := of_decide_eq_true h1; omega, List.nodup_nil⟩
  exact ⟨rfl, ⟨Ck.new_ok, _, _, [], hv, hm⟩, (Below.refl _ _).alloc (Nat.le_refl _) _⟩
def tv (x : Tx) : Value := .agg #[.int .i64 (x.mark : Nat), .int .i64 (x.com : Nat), .bool (abd x)]
def tv0 : Value := .agg #[.int .i64 0, .int .i64 0, .bool false]
section
variable {F : Nat → Prop} {w : World} {a : Nat} {c : Ck}
theorem find_none (h : PC F w a c) (t : Int) (ht : c.has t = false) :
    Calls Try.prog 66 #[.pointer (some ⟨a, 0, none⟩), .int .i64 t] w fun e w' => e = .returned (.tuple #[tv0, .bool false]) ∧ Below w.heap.size w w' := by
  obtain ⟨hok, v1, v2, L, hl, h⟩ := h
  have hb := (Below.refl w.heap.size w).alloc (Nat.le_refl _) (.cells #[.int .i64 0, .int .i64 0, .bool false] 94)
  obtain ⟨k0, k1, k2, kf⟩ := (h.below hb).cells
  obtain ⟨A, cp, rfl⟩ := own_slice h.r1
  have HB := Lib.hid hb
  clear h hl hok hb
  rcases has_split (c := c) (t := t) with ⟨h1, _⟩ | ⟨_, hs⟩
  · rw [h1] at ht; cases ht
  clear ht
  by_cases h1 : t < 1
  · clear hs
    go_enter Try.func66, Try.ntmps66
    go_wp2
    exact bodyPost_ret (v := .tuple #[tv0, .bool false]) (by simp [results, Try.results66, go_sem, tv0]) rfl ⟨rfl, HB.out⟩
  · have h2 : (c.l.length : Int) < t := by omega
    clear hs
    go_enter Try.func66, Try.ntmps66
    go_wp2
    exact bodyPost_ret (v := .tuple #[tv0, .bool false]) (by simp [results, Try.results66, go_sem, tv0]) rfl ⟨rfl, HB.out⟩
theorem find_nil (w : World) (t : Int) :
    Calls Try.prog 66 #[.pointer none, .int .i64 t] w fun e w' => e = .returned (.tuple #[tv0, .bool false]) ∧ Below w.heap.size w w' := by
  have HB := Lib.hid ((Below.refl w.heap.size w).alloc (Nat.le_refl _) (.cells #[.int .i64 0, .int .i64 0, .bool false] 94))
  go_enter Try.func66, Try.ntmps66
  go_wp2
  exact bodyPost_ret (v := .tuple #[tv0, .bool false]) (by simp [results, Try.results66, go_sem, tv0]) rfl ⟨rfl, HB.out⟩
theorem find_some (h : PC F w a c) (t : Int) (ht : c.has t = true) :
    Calls Try.prog 66 #[.pointer (some ⟨a, 0, none⟩), .int .i64 t] w fun e w' => e = .returned (.tuple #[tv (c.tx t), .bool true]) ∧ Below w.heap.size w w' := by
  obtain ⟨hok, v1, v2, L, hl, h⟩ := h
  have hb := (Below.refl w.heap.size w).alloc (Nat.le_refl _) (.cells #[.int .i64 0, .int .i64 0, .bool false] 94)
  have h' := h.below hb
  obtain ⟨k0, k1, k2, kf⟩ := h'.cells
  rcases has_split (c := c) (t := t) with ⟨_, k, rfl, hk, hx⟩ | ⟨h1, _⟩
  · rw [hx hk]
    obtain ⟨g, cp, rfl, _, q0, q1, q2, qf⟩ := h'.row hk
    have hbig : c.l.length ≤ 9223372036854775807 := PM.big h
    have HB := Lib.hid hb
    generalize c.l[k] = x at *
    clear h hl hok hb h' hx ht
    go_enter Try.func66, Try.ntmps66
    go_wp2
    exact bodyPost_ret (v := .tuple #[tv x, .bool true]) (by simp [results, Try.results66, go_sem, tv]) rfl ⟨rfl, (Below.refl _ _).alloc (Nat.le_refl _) _⟩
  · rw [h1] at ht; cases ht
end
theorem box_at {W w1 : World} {g : Nat} {cs : Array Value} {t : TypeId} (h : W.heap[g]? = some (.cells cs t (0, 0))) (hb : Below W.heap.size W w1) (o : Nat) : w1.cell? ⟨g, o, none⟩ = cs[o]? := by
  rw [hb.cell (p := ⟨g, o, none⟩) (block_lt h), cell_of_row W g o cs t (0, 0) h]
theorem heap_two (w : World) (A B : Obj) : ((w.alloc A).alloc B).heap[w.heap.size]? = some A ∧ ((w.alloc A).alloc B).heap[w.heap.size + 1]? = some B := by
  have hb := (Below.refl (w.alloc A).heap.size (w.alloc A)).alloc (Nat.le_refl _) B
  refine ⟨(hb.block w.heap.size (by simp)).trans (heap_alloc_new w A), ?_⟩
  have := heap_alloc_new (w.alloc A) B
  rwa [World.size_alloc] at this
def tcl (x : Tx) : Array Value := #[.int .i64 (x.mark : Nat), .int .i64 (x.com : Nat), .bool (abd x)]
theorem committed_any (x : Tx) (w : World) : Calls Try.prog 67 #[tv x] w fun e w' => e = .returned (.bool (decide (0 < x.com))) ∧ Below w.heap.size w w' := by
  unfold tv
  go_enter Try.func67, Try.ntmps67
  go_wp2
  go_ret
  exact ⟨ret_b (by simp), (Below.refl _ _).alloc (Nat.le_refl _) _⟩
theorem before_any (x y : Tx) (w : World) : Calls Try.prog 65 #[tv x, tv y] w fun e w' => e = .returned (.bool (decide (0 < x.com) && decide (x.com ≤ y.mark))) ∧ Below w.heap.size w w' := by
  have hc := Lib.hid (committed_any x)
  have hb := Lib.hid (((Below.refl w.heap.size w).alloc (Nat.le_refl _) (.cells #[.int .i64 (x.mark : Nat), .int .i64 (x.com : Nat), .bool (abd x)] 94)).alloc (by simp) (.cells #[.int .i64 (y.mark : Nat), .int .i64 (y.com : Nat), .bool (abd y)] 94))
  have h2 := Lib.hid (heap_two w (.cells #[.int .i64 (x.mark : Nat), .int .i64 (x.com : Nat), .bool (abd x)] 94) (.cells #[.int .i64 (y.mark : Nat), .int .i64 (y.com : Nat), .bool (abd y)] 94))
  unfold tv at *
  cases h0 : decide (0 < x.com) <;> rw [h0] at hc
  all_goals (
    go_enter Try.func65, Try.ntmps65
    go_wp2_with (go_at_call 67; (with_reducible refine (hc.out _).mono ?_); rintro e w1 ⟨rfl, hb1⟩; have e1 : w1.cell? ⟨w.heap.size, 1, none⟩ = some (.int .i64 (x.com : Nat)) := box_at h2.out.1 hb1 1; have e2 : w1.cell? ⟨w.heap.size + 1, 0, none⟩ = some (.int .i64 (y.mark : Nat)) := box_at h2.out.2 hb1 0; have HB := Lib.hid (hb.out.trans (hb1.mono hb.out.size)); clear hb1)
    go_ret
    exact ⟨ret_b (by simp), HB.out⟩)
theorem live_any (x : Tx) (hx : x.live = true → x.com = 0) (w : World) : Calls Try.prog 69 #[tv x] w fun e w' => e = .returned (.bool x.live) ∧ Below w.heap.size w w' := by
  have hc := Lib.hid (committed_any x)
  have hb := Lib.hid ((Below.refl w.heap.size w).alloc (Nat.le_refl _) (.cells #[.int .i64 (x.mark : Nat), .int .i64 (x.com : Nat), .bool (abd x)] 94))
  have h1 := Lib.hid (heap_alloc_new w (.cells #[.int .i64 (x.mark : Nat), .int .i64 (x.com : Nat), .bool (abd x)] 94))
  have HE : Hid (x.live = (!decide (0 < x.com) && !abd x)) := by
    simp only [Hid, abd]
    cases hl : x.live with
    | true => rw [hx hl]; rfl
    | false =>
      by_cases h0 : x.com = 0
      · rw [h0]; rfl
      · rw [decide_eq_true (show 0 < x.com by omega)]; rfl
  rw [HE.out]
  clear hx
  unfold tv at *
  cases h0 : decide (0 < x.com) <;> rw [h0] at hc
  all_goals (
    go_enter Try.func69, Try.ntmps69
    go_wp2_with (go_at_call 67; (with_reducible refine (hc.out _).mono ?_); rintro e w1 ⟨rfl, hb1⟩; have e1 : w1.cell? ⟨w.heap.size, 2, none⟩ = some (.bool (abd x)) := box_at h1.out hb1 2; have HB := Lib.hid (hb.out.trans (hb1.mono hb.out.size)); clear hb1)
    go_ret
    exact ⟨ret_b (by simp), HB.out⟩)
section
variable {F : Nat → Prop} {w : World} {a : Nat} {c : Ck}
theorem isLive_any (h : PC F w a c) (t : Int) :
    Calls Try.prog 52 #[.pointer (some ⟨a, 0, none⟩), .int .i64 t] w fun e w' => e = .returned (.bool (c.isLive t)) ∧ Below w.heap.size w w' := by
  cases ht : c.has t with
  | false =>
    have hf := Lib.hid (find_none h t ht)
    have e0 : c.isLive t = false := by simp [Ck.isLive, ht]
    rw [e0]
    unfold tv0 at hf
    clear h ht e0
    go_enter Try.func52, Try.ntmps52
    go_wp2_with (go_at_call 66; (with_reducible refine hf.out.mono ?_); rintro e w1 ⟨rfl, hb1⟩)
    go_ret
    exact ⟨rfl, hb1.alloc hb1.size _⟩
  | true =>
    have hf := Lib.hid (find_some h t ht)
    have hl := Lib.hid (live_any (c.tx t) (h.ok.fresh _ (Ck.tx_mem ht)))
    have e0 : c.isLive t = (c.tx t).live := by simp [Ck.isLive, ht]
    rw [e0]
    generalize c.tx t = x at *
    unfold tv at hf hl
    clear h ht e0
    go_enter Try.func52, Try.ntmps52
    go_wp2_with (first | (go_at_call 66; (with_reducible refine hf.out.mono ?_); rintro e w1 ⟨rfl, hb1⟩) | (go_at_call 69; (with_reducible refine (hl.out _).mono ?_); rintro e w2 ⟨rfl, hb2⟩))
    go_ret
    have hba := hb1.alloc hb1.size (.cells #[.int .i64 (x.mark : Nat), .int .i64 (x.com : Nat), .bool (abd x)] 94)
    exact ⟨rfl, hba.trans (hb2.mono hba.size)⟩
theorem live_nil (w : World) (t : Int) : Calls Try.prog 52 #[.pointer none, .int .i64 t] w fun e w' => e = .returned (.bool false) ∧ Below w.heap.size w w' := by
  have hf := Lib.hid (find_nil w t)
  unfold tv0 at hf
  go_enter Try.func52, Try.ntmps52
  go_wp2_with (go_at_call 66; (with_reducible refine hf.out.mono ?_); rintro e w1 ⟨rfl, hb1⟩)
  go_ret
  exact ⟨rfl, hb1.alloc hb1.size _⟩
end
end Go.Proofs.Ytpjjpjdamieeeaa
