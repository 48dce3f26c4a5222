/- A Cell of package cell in memory (CM, CC), and what New, Len, Check and Spare return. Conditions: the Cell and its Clock lie in memory. -/
import Derived.Test.YtpjjpjdamieeeaaPa
import Derived.Test.YtpjjpjdamieeeaaKi
namespace Go.Proofs.Ytpjjpjdamieeeaa
set_option maxRecDepth 100000
set_option linter.unusedVariables false
open Go.ChangeShapes Go.WideShapes Go.ChangeAt Go.RowKit
/-- A version's value as it is kept: that of a removal is not. -/
def kv (x : Ver Int) : Int := if x.g then 0 else x.v
def pv (x : Ver Int) : List Value := [.int .i64 x.w, .int .i64 (kv x), .bool x.g]
def pvs (l : List (Ver Int)) : List Value := l.flatMap pv
def pvA (x : Ver Int) : Value := .agg #[.int .i64 x.w, .int .i64 (kv x), .bool x.g]
theorem pv_len (l : List (Ver Int)) : ∀ x ∈ l, (pv x).length = 3 := fun x _ => rfl
theorem pvs_len (l : List (Ver Int)) : (pvs l).length = l.length * 3 := flat_len pv 3 l (pv_len l)
theorem pvs_app (l m : List (Ver Int)) : pvs (l ++ m) = pvs l ++ pvs m := by simp [pvs]
theorem pvs_take (l : List (Ver Int)) (i : Nat) (hi : i ≤ l.length) : (pvs l).take (i * 3) = pvs (l.take i) := by
  have e : l = l.take i ++ l.drop i := (List.take_append_drop i l).symm
  have hl : (pvs (l.take i)).length = i * 3 := by rw [pvs_len, List.length_take, Nat.min_eq_left hi]
  have e2 : pvs l = pvs (l.take i) ++ pvs (l.drop i) := by rw [← pvs_app, ← e]
  rw [e2, ← hl, List.take_left]
theorem pvs_drop (l : List (Ver Int)) (i : Nat) (hi : i ≤ l.length) : (pvs l).drop (i * 3) = pvs (l.drop i) := by
  have e : l = l.take i ++ l.drop i := (List.take_append_drop i l).symm
  have hl : (pvs (l.take i)).length = i * 3 := by rw [pvs_len, List.length_take, Nat.min_eq_left hi]
  have e2 : pvs l = pvs (l.take i) ++ pvs (l.drop i) := by rw [← pvs_app, ← e]
  rw [e2, ← hl, List.drop_left]
theorem pv_one (l : List (Ver Int)) : ∀ u ∈ pvs l, u.oneCell' = true := by
  intro u hu
  obtain ⟨x, _, hx⟩ := List.mem_flatMap.1 hu
  simp only [pv, List.mem_cons, List.not_mem_nil, or_false] at hx
  rcases hx with rfl | rfl | rfl <;> rfl
theorem pv_one1 (x : Ver Int) : ∀ u ∈ pv x, u.oneCell' = true := by
  intro u hx
  simp only [pv, List.mem_cons, List.not_mem_nil, or_false] at hx
  rcases hx with rfl | rfl | rfl <;> rfl
/-- The Cell in block a, its versions at v1; all of it in blocks of F. -/
structure CM (F : Nat → Prop) (w : World) (a : Nat) (v1 : Value) (l : List (Ver Int)) : Prop where
  lt : ∀ k, F k → k < w.heap.size
  fa : F a
  f1 : ∀ k, v1.ownBlock = some k → F k
  blk : w.heap[a]? = some (.cells #[v1] 87 (0, 0))
  r1 : ORow w 85 3 v1 l.length (pvs l)
def CC (F : Nat → Prop) (w : World) (a : Nat) (l : List (Ver Int)) : Prop := ∃ v1, CM F w a v1 l
section
variable {F F' G : Nat → Prop} {w w' : World} {a : Nat} {v1 : Value} {l : List (Ver Int)}
theorem CM.same (h : CM F w a v1 l) (hF : ∀ k, F k → F' k) (hlt : ∀ k, F' k → k < w'.heap.size) (hw : ∀ k, F k → w'.heap[k]? = w.heap[k]?) : CM F' w' a v1 l :=
  ⟨hlt, hF _ h.fa, fun k hk => hF k (h.f1 k hk), (hw a h.fa).trans h.blk, h.r1.same (fun k hk => hw k (h.f1 k hk))⟩
theorem CC.same (h : CC F w a l) (hF : ∀ k, F k → F' k) (hlt : ∀ k, F' k → k < w'.heap.size) (hw : ∀ k, F k → w'.heap[k]? = w.heap[k]?) : CC F' w' a l := by
  obtain ⟨v1, h⟩ := h
  exact ⟨v1, h.same hF hlt hw⟩
theorem CC.lt (h : CC F w a l) : ∀ k, F k → k < w.heap.size := by obtain ⟨v1, h⟩ := h; exact h.lt
theorem CC.chg (h : CC F w a l) (hc : Chg G w w') (hG : ∀ k, F k → ¬ G k) : CC F w' a l :=
  h.same (fun _ h => h) (fun k hk => Nat.lt_of_lt_of_le (h.lt k hk) hc.size) (fun k hk => hc.block k (h.lt k hk) (hG k hk))
theorem CC.below (h : CC F w a l) (hb : Below w.heap.size w w') : CC F w' a l := h.chg (Chg.below (F := fun _ => False) hb) (fun _ _ h => h)
theorem CM.below (h : CM F w a v1 l) (hb : Below w.heap.size w w') : CM F w' a v1 l :=
  h.same (fun _ h => h) (fun k hk => Nat.lt_of_lt_of_le (h.lt k hk) hb.size) (fun k hk => hb.block k (h.lt k hk))
theorem CC.wide (h : CC F w' a l) (hs : w.heap.size ≤ w'.heap.size) (F0 : Nat → Prop) (hF : ∀ k, F k → F0 k ∨ w.heap.size ≤ k) (h0 : ∀ k, F0 k → k < w.heap.size) : CC (Nu F0 w w') w' a l :=
  h.same (fun k hk => by rcases hF k hk with h1 | h1; exact .inl h1; exact .inr ⟨h1, h.lt k hk⟩) (fun k hk => by rcases hk with h1 | h1; exact Nat.lt_of_lt_of_le (h0 k h1) hs; exact h1.2) (fun _ _ => rfl)
/-- A method returns v, and leaves the Cell in block a with versions l; of what was there only blocks of F may change. -/
def DoesC (F : Nat → Prop) (w : World) (a : Nat) (v : Value) (l : List (Ver Int)) (e : Ending) (w' : World) : Prop := e = .returned v ∧ CC (Nu F w w') w' a l ∧ Chg F w w'
theorem doesC_of {v : Value} (h : CC F w' a l) (hc : Chg F w w') (h0 : ∀ k, F k → k < w.heap.size) : DoesC F w a v l (.returned v) w' :=
  ⟨rfl, h.wide hc.size F (fun _ h => .inl h) h0, hc⟩
theorem CM.cells (h : CM F w a v1 l) : w.cell? ⟨a, 0, none⟩ = some v1 ∧ ∀ o, w.frozen? ⟨a, o, none⟩ = false := by
  have hb := h.blk
  refine ⟨?_, fun o => frozen_of_row w a o _ _ hb⟩
  rw [cell_of_row w a _ _ _ _ hb]; rfl
theorem CM.cellsIn (h : CM F w a v1 l) (hba : w'.heap[a]? = w.heap[a]?) : w'.cell? ⟨a, 0, none⟩ = some v1 ∧ ∀ o, w'.frozen? ⟨a, o, none⟩ = false := by
  have ha := hba.trans h.blk
  refine ⟨?_, fun o => frozen_of_row w' a o _ _ ha⟩
  rw [cell_of_row w' a _ _ _ _ ha]; rfl
theorem orow_at {e : Nat} {g o c : Nat} (h : ORow w e 3 (.slice (some ⟨g, o, none⟩) l.length c) l.length (pvs l)) {k : Nat} (hk : k < l.length) : w.cell? ⟨g, o + k * 3, none⟩ = some (.int .i64 l[k].w) ∧ w.cell? ⟨g, o + k * 3 + 1, none⟩ = some (.int .i64 (kv l[k])) ∧ w.cell? ⟨g, o + k * 3 + 2, none⟩ = some (.bool l[k].g) ∧ ∀ j, w.frozen? ⟨g, j, none⟩ = false := by
  have e : ∀ j, j < 3 → w.cell? ⟨g, o + k * 3 + j, none⟩ = (pv l[k])[j]? := fun j hj => by
    rw [Nat.add_assoc, h.cellAt (k * 3 + j) (by omega)]
    exact flat_at pv 3 (pv_len l) k j hk hj
  exact ⟨e 0 (by omega), e 1 (by omega), e 2 (by omega), fun j => h.frozenAt j⟩
theorem CM.row (h : CM F w a v1 l) {k : Nat} (hk : k < l.length) : ∃ g o cp, v1 = .slice (some ⟨g, o, none⟩) l.length cp ∧ l.length ≤ cp ∧ F g ∧ w.cell? ⟨g, o + k * 3, none⟩ = some (.int .i64 l[k].w) ∧ w.cell? ⟨g, o + k * 3 + 1, none⟩ = some (.int .i64 (kv l[k])) ∧ w.cell? ⟨g, o + k * 3 + 2, none⟩ = some (.bool l[k].g) ∧ ∀ j, w.frozen? ⟨g, j, none⟩ = false := by
  obtain ⟨g, o, cp, rfl, hcp⟩ := h.r1.form (by omega)
  exact ⟨g, o, cp, rfl, hcp, h.f1 g rfl, orow_at h.r1 hk⟩
theorem CM.big (h : CM F w a v1 l) : l.length ≤ 9223372036854775807 := h.r1.big
/-- A row is laid into the Cell. -/
theorem CM.put {v' : Value} {l' : List (Ver Int)} (h : CM F w a v1 l) (hc : Chg F w w') (hba : w'.heap[a]? = w.heap[a]?) {n : Nat} (hr : ORow w' 85 3 v' n (pvs l')) (hnl : n = l'.length) (hn : ∀ k, v'.ownBlock = some k → F k ∨ w.heap.size ≤ k) :
    CM (Nu F w (w'.setCell ⟨a, 0, none⟩ v')) (w'.setCell ⟨a, 0, none⟩ v') a v' l' ∧ Chg F w (w'.setCell ⟨a, 0, none⟩ v') := by
  subst hnl
  have hz : (w'.setCell ⟨a, 0, none⟩ v').heap.size = w'.heap.size := by simp [World.setCell]
  have hs := hc.size
  have ha : w'.heap[a]? = some (.cells #[v1] 87 (0, 0)) := hba.trans h.blk
  have hn' : ∀ k, v'.ownBlock = some k → k ≠ a := fun k hk e => by
    obtain ⟨cur, h1⟩ := hr.type hk
    subst e
    rw [h1] at ha
    injection ha with ha; injection ha with _ ha; cases ha
  refine ⟨⟨fun k hk => ?_, .inl h.fa, fun k hk => ?_, ?_, hr.same (fun k hk => Below.heap_setCell w' _ v' k (hn' k hk))⟩, hc.grown (grown_set w' a 0 v') (fun k e => by injection e with e; subst e; exact .inl h.fa)⟩
  · rcases hk with hk | hk
    · rw [hz]; have := h.lt k hk; omega
    · exact hk.2
  · rcases hn k hk with h1 | h1
    · exact .inl h1
    · exact .inr ⟨h1, by rw [hz]; exact hr.lt k hk⟩
  · have := heap_setCell_same w' a 0 _ _ v' ha
    rw [this]; rfl
end
theorem cnew_any (w : World) : Calls Try.prog 34 #[] w fun e w' => e = .returned (.pointer (some ⟨w.heap.size, 0, none⟩)) ∧ CC (fun k => k = w.heap.size) w' w.heap.size [] ∧ Below w.heap.size w w' := by
  go_enter Try.func34, Try.ntmps34
  go_wp2
  go_ret
  have hm : CM (fun k => k = w.heap.size) (w.alloc (.cells #[.slice none 0 0] 87)) w.heap.size (.slice none 0 0) [] :=
    { lt := fun k hk => by subst hk; simp
      fa := rfl
      f1 := fun k hk => by simp [Value.ownBlock] at hk
      blk := heap_alloc_new w _
      r1 := orow_nil _ _ _ }
  exact ⟨rfl, ⟨_, hm⟩, (Below.refl _ _).alloc (Nat.le_refl _) _⟩
section
variable {F R : Nat → Prop} {w : World} {a b : Nat} {c : Ck} {l : List (Ver Int)}
theorem clen_any (h : CC F w a l) : Calls Try.prog 18 #[.pointer (some ⟨a, 0, none⟩)] w fun e w' => e = .returned (.int .i64 (l.length : Nat)) ∧ w = w' := by
  obtain ⟨v1, h⟩ := h
  obtain ⟨k0, kf⟩ := h.cells
  obtain ⟨A, cp, rfl⟩ := h.r1.slice
  clear h
  go_enter Try.func18, Try.ntmps18
  go_wp2
  go_ret
  exact ⟨rfl, rfl⟩
theorem clen_nil (w : World) : Calls Try.prog 18 #[.pointer none] w fun e w' => e = .returned (.int .i64 0) ∧ w = w' := by
  go_enter Try.func18, Try.ntmps18
  go_wp2
  go_ret
  exact ⟨rfl, rfl⟩
theorem ccheck_nil (w : World) (p : Value) (t : Int) : Calls Try.prog 17 #[.pointer none, p, .int .i64 t] w fun e w' => e = .returned (.int .i64 4) ∧ w = w' := by
  go_enter Try.func17, Try.ntmps17
  go_wp2
  go_ret
  exact ⟨rfl, rfl⟩
theorem ccheck_any (h : CC F w a l) (hr : PC R w b c) (t : Int) :
    Calls Try.prog 17 #[.pointer (some ⟨a, 0, none⟩), .pointer (some ⟨b, 0, none⟩), .int .i64 t] w fun e w' => e = .returned (.int .i64 (Ver.chk c t l)) ∧ Below w.heap.size w w' := by
  obtain ⟨v1, h⟩ := h
  obtain ⟨k0, kf⟩ := h.cells
  have HM := Lib.hid h
  have hbig := h.big
  have HS := Lib.hid (fun u => clashes_any hr t u)
  obtain ⟨A, cp, rfl⟩ := h.r1.slice
  clear h hr
  by_cases hz : l.length = 0
  · have e : l = [] := List.length_eq_zero_iff.1 hz
    subst e
    go_enter Try.func17, Try.ntmps17
    go_wp2
    go_ret
    exact ⟨rfl, Below.refl _ _⟩
  · obtain ⟨m, hm⟩ : ∃ m, l.length = m + 1 := ⟨l.length - 1, by omega⟩
    have hml : m < l.length := by omega
    obtain ⟨g, o, cp', hgg, _, _, q0, q1, q2, qf⟩ := HM.out.row hml
    injection hgg with hgg _ hcp
    subst hgg
    subst hcp
    have HC := HS.out l[m].w
    have HE : Hid (Ver.chk c t l = if c.clashes t l[m].w then 6 else 0) := by
      simp only [Hid]
      unfold Ver.chk
      rw [List.getLast?_eq_getElem?, show l.length - 1 = m by omega, List.getElem?_eq_getElem hml]
    rw [HE.out]
    have hi5 : IntKind.i64.wrap (m : Int) = (m : Int) := wrapI (by omega)
    have hi6 : ((m + 1 : Nat) : Int) - 1 = (m : Int) := by omega
    rw [hm] at k0 hbig
    have hm0 : (0 : Int) ≤ (m : Int) := by omega
    generalize l[m].w = xw at *
    clear HE HM HS hz hml hm q1 q2 qf
    cases hcl : c.clashes t xw
    all_goals (
      rw [hcl] at HC
      have HC := Lib.hid HC
      go_enter Try.func17, Try.ntmps17
      go_wp2_with (go_at_call 48; (with_reducible refine HC.out.mono ?_); rintro e w1 ⟨rfl, hb1⟩)
      go_ret
      exact ⟨rfl, hb1⟩)
/-! Spare. -/
theorem csp1_any (hr : PC R w b c) (x : Ver Int) {bx : Nat} (hbx : w.cell? ⟨bx, 0, none⟩ = some (.pointer (some ⟨b, 0, none⟩))) :
    Calls Try.prog 51 #[pvA x, .pointer (some ⟨bx, 0, none⟩)] w fun e w' => e = .returned (.bool (c.settled x.w)) ∧ Below w.heap.size w w' := by
  have hb := (Below.refl w.heap.size w).alloc (Nat.le_refl _) (.cells #[.int .i64 x.w, .int .i64 (kv x), .bool x.g] 85)
  have HS := Lib.hid (settled_any (hr.below hb) x.w)
  have HB := Lib.hid hb
  have hbx2 := (hb.cell (p := ⟨bx, 0, none⟩) (World.block_lt_of_cell? w _ hbx)).trans hbx
  clear hr hb hbx
  unfold pvA
  go_enter Try.func51, Try.ntmps51
  go_wp2_with (go_at_call 49; (with_reducible refine HS.out.mono ?_); rintro e w1 ⟨rfl, hb1⟩; have HB1 := Lib.hid (HB.out.trans (hb1.mono HB.out.size)); clear hb1)
  go_ret
  exact ⟨rfl, HB1.out⟩
end
end Go.Proofs.Ytpjjpjdamieeeaa
