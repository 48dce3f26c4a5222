/- A Clock of the reference (chapter 6) in memory (RM, RC), and what its methods return. Conditions: the Clock lies in memory. -/
import Derived.Test.YtpjjpjdamieeeaaKd
import Derived.Deep.RegionWith
namespace Go.Proofs.Ytpjjpjdamieeeaa
set_option maxRecDepth 100000
set_option linter.unusedVariables false
open Go.ChangeShapes Go.WideShapes Go.ChangeAt Go.RowKit
def rc (x : Tx) : List Value := [.int .i64 (x.mark : Nat), .int .i64 (x.com : Nat), .bool x.live]
def rcs (l : List Tx) : List Value := l.flatMap rc
theorem rc_len (l : List Tx) : ∀ x ∈ l, (rc x).length = 3 := fun x _ => rfl
theorem rcs_len (l : List Tx) : (rcs l).length = l.length * 3 := flat_len rc 3 l (rc_len l)
structure RM (F : Nat → Prop) (w : World) (a : Nat) (v1 : Value) (l : List Tx) (n : Nat) : Prop where
  lt : ∀ k, F k → k < w.heap.size
  fa : F a
  f1 : ∀ k, v1.ownBlock = some k → F k
  blk : w.heap[a]? = some (.cells #[v1, .int .i64 (n : Nat)] 65 (0, 0))
  r1 : w.ownsRow 0 79 3 v1 l.length (rcs l)
def RC (F : Nat → Prop) (w : World) (a : Nat) (c : Ck) : Prop := c.Ok ∧ ∃ v1, RM F w a v1 c.l c.n
section
variable {F F' G : Nat → Prop} {w w' : World} {a : Nat} {v1 : Value} {l : List Tx} {n : Nat} {c : Ck}
theorem RM.same (h : RM F w a v1 l n) (hF : ∀ k, F k → F' k) (hlt : ∀ k, F' k → k < w'.heap.size) (hw : ∀ k, F k → w'.heap[k]? = w.heap[k]?) : RM F' w' a v1 l n :=
  ⟨hlt, hF _ h.fa, fun k hk => hF k (h.f1 k hk), (hw a h.fa).trans h.blk, own_same h.r1 (fun k hk => hw k (h.f1 k hk))⟩
theorem RC.same (h : RC F w a c) (hF : ∀ k, F k → F' k) (hlt : ∀ k, F' k → k < w'.heap.size) (hw : ∀ k, F k → w'.heap[k]? = w.heap[k]?) : RC F' w' a c := by
  obtain ⟨hok, v1, h⟩ := h
  exact ⟨hok, v1, h.same hF hlt hw⟩
theorem RC.ok (h : RC F w a c) : c.Ok := h.1
theorem RC.lt (h : RC F w a c) : ∀ k, F k → k < w.heap.size := by obtain ⟨_, v1, h⟩ := h; exact h.lt
theorem RC.chg (h : RC F w a c) (hc : Chg G w w') (hG : ∀ k, F k → ¬ G k) : RC F w' a c :=
  h.same (fun _ h => h) (fun k hk => Nat.lt_of_lt_of_le (h.lt k hk) hc.size) (fun k hk => hc.block k (h.lt k hk) (hG k hk))
theorem RC.below (h : RC F w a c) (hb : Below w.heap.size w w') : RC F w' a c := h.chg (Chg.below (F := fun _ => False) hb) (fun _ _ h => h)
theorem RM.below (h : RM F w a v1 l n) (hb : Below w.heap.size w w') : RM F w' a v1 l n :=
  h.same (fun _ h => h) (fun k hk => Nat.lt_of_lt_of_le (h.lt k hk) hb.size) (fun k hk => hb.block k (h.lt k hk))
theorem RC.wide (h : RC F w' a c) (hs : w.heap.size ≤ w'.heap.size) (F0 : Nat → Prop) (hF : ∀ k, F k → F0 k ∨ w.heap.size ≤ k) (h0 : ∀ k, F0 k → k < w.heap.size) : RC (Nu F0 w w') w' a c :=
  h.same (fun k hk => by rcases hF k hk with h1 | h1; exact .inl h1; exact .inr ⟨h1, h.lt k hk⟩) (fun k hk => by rcases hk with h1 | h1; exact Nat.lt_of_lt_of_le (h0 k h1) hs; exact h1.2) (fun _ _ => rfl)
theorem RC.drewN (h : RC F w a c) (k : Nat) : RC F (w.drewN k) a c := h.same (fun _ h => h) h.lt (fun _ _ => rfl)
theorem RM.drew (h : RM F w a v1 l n) : RM F w.drew a v1 l n := h.same (fun _ h => h) h.lt (fun _ _ => rfl)
def DoesR (F : Nat → Prop) (w : World) (a : Nat) (v : Value) (c : Ck) (e : Ending) (w' : World) : Prop := e = .returned v ∧ RC (Nu F w w') w' a c ∧ Chg F w w'
theorem doesR_of {v : Value} (h : RC F w' a c) (hc : Chg F w w') (h0 : ∀ k, F k → k < w.heap.size) : DoesR F w a v c (.returned v) w' :=
  ⟨rfl, h.wide hc.size F (fun _ h => .inl h) h0, hc⟩
theorem RM.cells (h : RM F w a v1 l n) : w.cell? ⟨a, 0, none⟩ = some v1 ∧ w.cell? ⟨a, 1, none⟩ = some (.int .i64 (n : Nat)) ∧ ∀ o, w.frozen? ⟨a, o, none⟩ = false := by
  have hb := h.blk
  refine ⟨?_, ?_, fun o => frozen_of_row w a o _ _ hb⟩ <;> rw [cell_of_row w a _ _ _ _ hb] <;> rfl
theorem RM.nb {v : Value} {e size m : Nat} {xs : List Value} (h : RM F w a v1 l n) (hv : w.ownsRow 0 e size v m xs) (he : e ≠ 65) : v.ownBlock ≠ some a := fun e' => by
  obtain ⟨cur, h1⟩ := own_type hv e'
  have := h.blk
  rw [h1] at this
  injection this with this; injection this with _ this; exact he this
theorem RM.row (h : RM F w a v1 l n) {k : Nat} (hk : k < l.length) : ∃ g cp, v1 = .slice (some ⟨g, 0, none⟩) l.length cp ∧ F g ∧ w.cell? ⟨g, k * 3, none⟩ = some (.int .i64 (l[k].mark : Nat)) ∧ w.cell? ⟨g, k * 3 + 1, none⟩ = some (.int .i64 (l[k].com : Nat)) ∧ w.cell? ⟨g, k * 3 + 2, none⟩ = some (.bool l[k].live) ∧ ∀ o, w.frozen? ⟨g, o, none⟩ = false := by
  obtain ⟨g, cp, rfl, hb, hlt⟩ := World.ownsRow.form h.r1 (by omega)
  have e : ∀ j, j < 3 → w.cell? ⟨g, k * 3 + j, none⟩ = (rc l[k])[j]? := fun j hj => by
    rw [World.ownsRow.cellAt h.r1 (k * 3 + j) (by omega)]
    exact flat_at rc 3 (rc_len l) k j hk hj
  exact ⟨g, cp, rfl, h.f1 g rfl, e 0 (by omega), e 1 (by omega), e 2 (by omega), fun o => World.ownsRow.frozenAt h.r1 o⟩
theorem RM.big (h : RM F w a v1 l n) : l.length ≤ 9223372036854775807 := by
  rcases h.r1.2 with ⟨_, h1⟩ | ⟨g, cp, cur, _, _, _, h2, h3, _⟩
  · omega
  · unfold maxLen at h3; omega
end
section
variable {F : Nat → Prop} {w : World} {a : Nat} {c : Ck}
theorem is_any (h : RC F w a c) (t : Int) :
    Calls Try.prog 45 #[.pointer (some ⟨a, 0, none⟩), .int .i64 t] w fun e w' => e = .returned (.bool (c.has t)) ∧ w = w' := by
  obtain ⟨hok, v1, h⟩ := h
  obtain ⟨k0, k1, kf⟩ := h.cells
  obtain ⟨A, cp, rfl⟩ := own_slice h.r1
  have e : c.has t = (decide (1 ≤ t) && decide (t ≤ (c.l.length : Int))) := by unfold Ck.has; rw [Bool.decide_and]
  rw [e]
  clear h hok e
  by_cases h1 : 1 ≤ t
  · rw [decide_eq_true h1]
    go_enter Try.func45, Try.ntmps45
    go_wp2
    go_ret
    exact ⟨ret_b (by simp), rfl⟩
  · rw [decide_eq_false h1]
    go_enter Try.func45, Try.ntmps45
    go_wp2
    go_ret
    exact ⟨ret_b (by simp), rfl⟩
theorem rlive_any (h : RC F w a c) (t : Int) :
    Calls Try.prog 15 #[.pointer (some ⟨a, 0, none⟩), .int .i64 t] w fun e w' => e = .returned (.bool (c.isLive t)) ∧ w = w' := by
  have HI := is_any h t
  obtain ⟨hok, v1, h⟩ := h
  obtain ⟨k0, k1, kf⟩ := h.cells
  rcases has_split (c := c) (t := t) with ⟨p1, k, ht1, hk, hx⟩ | ⟨p1, _⟩
  · rw [p1] at HI
    have HI := Lib.hid HI
    have e : c.isLive t = c.l[k].live := by unfold Ck.isLive; rw [p1, hx hk]; rfl
    rw [e]
    obtain rfl : t = (k : Int) + 1 := by omega
    obtain ⟨g, cp, rfl, _, q0, q1, q2, qf⟩ := h.row hk
    have hbig := h.big
    have hi5 : IntKind.i64.wrap (k : Int) = (k : Int) := wrapI (by omega)
    generalize c.l[k] = x at *
    clear h hok e hx ht1 p1
    go_enter Try.func15, Try.ntmps15
    go_wp2_with (go_at_call 45; (with_reducible refine HI.out.mono ?_); rintro e w' ⟨rfl, rfl⟩)
    go_ret
    exact ⟨ret_b (by simp), rfl⟩
  · rw [p1] at HI
    have HI := Lib.hid HI
    have e : c.isLive t = false := by unfold Ck.isLive; rw [p1]; rfl
    rw [e]
    clear h hok e p1
    go_enter Try.func15, Try.ntmps15
    go_wp2_with (go_at_call 45; (with_reducible refine HI.out.mono ?_); rintro e w' ⟨rfl, rfl⟩)
    go_ret
    exact ⟨rfl, rfl⟩
end
end Go.Proofs.Ytpjjpjdamieeeaa
