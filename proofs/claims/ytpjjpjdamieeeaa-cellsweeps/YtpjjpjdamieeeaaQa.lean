/- The program's Clock and Cell and the reference's, side by side (Quad), each in blocks of its own, and what their methods do; begin of chapter 7's laws. Conditions: each contract names its own. -/
import Derived.Test.YtpjjpjdamieeeaaPj
import Derived.Test.YtpjjpjdamieeeaaNd
namespace Go.Proofs.Ytpjjpjdamieeeaa
set_option maxRecDepth 100000
set_option linter.unusedVariables false
open Go.ChangeShapes Go.WideShapes Go.ChangeAt Go.RowKit
/-- o says whose a block is: 1 the program's Clock, 2 its Cell, 3 the reference's Clock, 4 its Cell, 0 somebody else's. -/
structure QS (o : Nat → Nat) (G : Nat → Prop) (w wr : World) (a x d y : Nat) (c : Ck) (l : List (Ver Int)) (c' : Ck) (l' : List (Ver Int)) : Prop where
  pc : PC (fun k => o k = 1) wr a c
  cc : CC (fun k => o k = 2) wr x l
  rc : RC (fun k => o k = 3) wr d c'
  vc : VC (fun k => o k = 4) wr y l'
  g : ∀ k, G k → k < wr.heap.size ∧ o k = 0
  nw : ∀ k, o k ≠ 0 → w.heap.size ≤ k
  bl : Below w.heap.size w wr
def Quad (G : Nat → Prop) (w wr : World) (a x d y : Nat) (c : Ck) (l : List (Ver Int)) (c' : Ck) (l' : List (Ver Int)) : Prop := ∃ o, QS o G w wr a x d y c l c' l'
/-- What is new is i's. -/
def nx (o : Nat → Nat) (i : Nat) (wr w' : World) : Nat → Nat := fun k => if k < wr.heap.size then o k else if k < w'.heap.size then i else 0
section
variable {o : Nat → Nat} {i j k : Nat} {wr w' : World}
theorem nx_old (h : k < wr.heap.size) : nx o i wr w' k = o k := by unfold nx; rw [if_pos h]
theorem nx_new (h : ¬ k < wr.heap.size) (h2 : k < w'.heap.size) : nx o i wr w' k = i := by unfold nx; rw [if_neg h, if_pos h2]
theorem nx_lt (hs : wr.heap.size ≤ w'.heap.size) (hj : nx o i wr w' k = j) (h0 : j ≠ 0) : k < w'.heap.size := by
  by_cases h : k < wr.heap.size
  · omega
  · by_cases h2 : k < w'.heap.size
    · exact h2
    · unfold nx at hj; rw [if_neg h, if_neg h2] at hj; omega
theorem nx_nu (hF : ∀ k, o k = i → k < wr.heap.size) : ∀ k, Nu (fun k => o k = i) wr w' k → nx o i wr w' k = i := fun k hk => by
  rcases hk with hk | hk
  · rw [nx_old (hF k hk)]; exact hk
  · exact nx_new (by omega) hk.2
end
section
variable {o : Nat → Nat} {G G' : Nat → Prop} {w wr w' : World} {a x d y : Nat} {c c' c2 : Ck} {l l' l2 : List (Ver Int)} {v : Value} {e : Ending}
theorem QS.rest (h : QS o G w wr a x d y c l c' l') {i : Nat} (hi : i ≠ 0) (hc : Chg (fun k => o k = i) wr w') : (∀ k, G k → k < w'.heap.size ∧ nx o i wr w' k = 0) ∧ (∀ k, nx o i wr w' k ≠ 0 → w.heap.size ≤ k) ∧ Below w.heap.size w w' ∧ Keep G wr w' := by
  have hs := hc.size
  have hs2 := h.bl.size
  refine ⟨fun k hk => ⟨by have := (h.g k hk).1; omega, by rw [nx_old (h.g k hk).1]; exact (h.g k hk).2⟩, fun k hk => ?_, Chg.of_below h.bl hc (fun k hk => h.nw k (by show o k ≠ 0; have : o k = i := hk; omega)), hs, fun k hk => hc.block k (h.g k hk).1 (fun e => by have := (h.g k hk).2; have : o k = i := e; omega)⟩
  by_cases h1 : k < wr.heap.size
  · rw [nx_old h1] at hk; exact h.nw k hk
  · omega
theorem QS.p1 (h : QS o G w wr a x d y c l c' l') (hd : Does (fun k => o k = 1) wr a v c2 e w') : e = .returned v ∧ Quad G w w' a x d y c2 l c' l' ∧ Keep G wr w' := by
  obtain ⟨h1, h2, h3⟩ := hd
  have hs := h3.size
  obtain ⟨r1, r2, r3, r4⟩ := h.rest (by decide) h3
  refine ⟨h1, ⟨nx o 1 wr w', h2.same (nx_nu h.pc.lt) (fun k hk => nx_lt hs hk (by decide)) (fun _ _ => rfl), h.cc.same (fun k hk => by rw [nx_old (h.cc.lt k hk)]; exact hk) (fun k hk => nx_lt hs hk (by decide)) (fun k hk => h3.block k (h.cc.lt k hk) (fun e => by have : o k = 2 := hk; have : o k = 1 := e; omega)), h.rc.same (fun k hk => by rw [nx_old (h.rc.lt k hk)]; exact hk) (fun k hk => nx_lt hs hk (by decide)) (fun k hk => h3.block k (h.rc.lt k hk) (fun e => by have : o k = 3 := hk; have : o k = 1 := e; omega)), h.vc.same (fun k hk => by rw [nx_old (h.vc.lt k hk)]; exact hk) (fun k hk => nx_lt hs hk (by decide)) (fun k hk => h3.block k (h.vc.lt k hk) (fun e => by have : o k = 4 := hk; have : o k = 1 := e; omega)), r1, r2, r3⟩, r4⟩
theorem QS.p2 (h : QS o G w wr a x d y c l c' l') (hd : DoesC (fun k => o k = 2) wr x v l2 e w') : e = .returned v ∧ Quad G w w' a x d y c l2 c' l' ∧ Keep G wr w' := by
  obtain ⟨h1, h2, h3⟩ := hd
  have hs := h3.size
  obtain ⟨r1, r2, r3, r4⟩ := h.rest (by decide) h3
  refine ⟨h1, ⟨nx o 2 wr w', h.pc.same (fun k hk => by rw [nx_old (h.pc.lt k hk)]; exact hk) (fun k hk => nx_lt hs hk (by decide)) (fun k hk => h3.block k (h.pc.lt k hk) (fun e => by have : o k = 1 := hk; have : o k = 2 := e; omega)), h2.same (nx_nu h.cc.lt) (fun k hk => nx_lt hs hk (by decide)) (fun _ _ => rfl), h.rc.same (fun k hk => by rw [nx_old (h.rc.lt k hk)]; exact hk) (fun k hk => nx_lt hs hk (by decide)) (fun k hk => h3.block k (h.rc.lt k hk) (fun e => by have : o k = 3 := hk; have : o k = 2 := e; omega)), h.vc.same (fun k hk => by rw [nx_old (h.vc.lt k hk)]; exact hk) (fun k hk => nx_lt hs hk (by decide)) (fun k hk => h3.block k (h.vc.lt k hk) (fun e => by have : o k = 4 := hk; have : o k = 2 := e; omega)), r1, r2, r3⟩, r4⟩
theorem QS.p3 (h : QS o G w wr a x d y c l c' l') (hd : DoesR (fun k => o k = 3) wr d v c2 e w') : e = .returned v ∧ Quad G w w' a x d y c l c2 l' ∧ Keep G wr w' := by
  obtain ⟨h1, h2, h3⟩ := hd
  have hs := h3.size
  obtain ⟨r1, r2, r3, r4⟩ := h.rest (by decide) h3
  refine ⟨h1, ⟨nx o 3 wr w', h.pc.same (fun k hk => by rw [nx_old (h.pc.lt k hk)]; exact hk) (fun k hk => nx_lt hs hk (by decide)) (fun k hk => h3.block k (h.pc.lt k hk) (fun e => by have : o k = 1 := hk; have : o k = 3 := e; omega)), h.cc.same (fun k hk => by rw [nx_old (h.cc.lt k hk)]; exact hk) (fun k hk => nx_lt hs hk (by decide)) (fun k hk => h3.block k (h.cc.lt k hk) (fun e => by have : o k = 2 := hk; have : o k = 3 := e; omega)), h2.same (nx_nu h.rc.lt) (fun k hk => nx_lt hs hk (by decide)) (fun _ _ => rfl), h.vc.same (fun k hk => by rw [nx_old (h.vc.lt k hk)]; exact hk) (fun k hk => nx_lt hs hk (by decide)) (fun k hk => h3.block k (h.vc.lt k hk) (fun e => by have : o k = 4 := hk; have : o k = 3 := e; omega)), r1, r2, r3⟩, r4⟩
theorem QS.p4 (h : QS o G w wr a x d y c l c' l') (hd : DoesV (fun k => o k = 4) wr y v l2 e w') : e = .returned v ∧ Quad G w w' a x d y c l c' l2 ∧ Keep G wr w' := by
  obtain ⟨h1, h2, h3⟩ := hd
  have hs := h3.size
  obtain ⟨r1, r2, r3, r4⟩ := h.rest (by decide) h3
  refine ⟨h1, ⟨nx o 4 wr w', h.pc.same (fun k hk => by rw [nx_old (h.pc.lt k hk)]; exact hk) (fun k hk => nx_lt hs hk (by decide)) (fun k hk => h3.block k (h.pc.lt k hk) (fun e => by have : o k = 1 := hk; have : o k = 4 := e; omega)), h.cc.same (fun k hk => by rw [nx_old (h.cc.lt k hk)]; exact hk) (fun k hk => nx_lt hs hk (by decide)) (fun k hk => h3.block k (h.cc.lt k hk) (fun e => by have : o k = 2 := hk; have : o k = 4 := e; omega)), h.rc.same (fun k hk => by rw [nx_old (h.rc.lt k hk)]; exact hk) (fun k hk => nx_lt hs hk (by decide)) (fun k hk => h3.block k (h.rc.lt k hk) (fun e => by have : o k = 3 := hk; have : o k = 4 := e; omega)), h2.same (nx_nu h.vc.lt) (fun k hk => nx_lt hs hk (by decide)) (fun _ _ => rfl), r1, r2, r3⟩, r4⟩
theorem Quad.below (h : Quad G w wr a x d y c l c' l') (hb : Below wr.heap.size wr w') : Quad G w w' a x d y c l c' l' ∧ Keep G wr w' := by
  obtain ⟨o, h⟩ := h
  exact ⟨⟨o, h.pc.below hb, h.cc.below hb, h.rc.below hb, h.vc.below hb, fun k hk => ⟨Nat.lt_of_lt_of_le (h.g k hk).1 hb.size, (h.g k hk).2⟩, h.nw, h.bl.trans (hb.mono h.bl.size)⟩, hb.size, fun k hk => hb.block k (h.g k hk).1⟩
theorem Quad.all (h : Quad G w wr a x d y c l c' l') : Below w.heap.size w wr := by obtain ⟨o, h⟩ := h; exact h.bl
theorem Quad.ok (h : Quad G w wr a x d y c l c' l') : c.Ok := by obtain ⟨o, h⟩ := h; exact h.pc.ok
theorem Quad.less (h : Quad G w wr a x d y c l c' l') (hG : ∀ k, G' k → G k) : Quad G' w wr a x d y c l c' l' := by
  obtain ⟨o, h⟩ := h
  exact ⟨o, h.pc, h.cc, h.rc, h.vc, fun k hk => h.g k (hG k hk), h.nw, h.bl⟩
/-- A new block is kept apart, too. -/
theorem Quad.box (h : Quad G w wr a x d y c l c' l') (ob : Obj) : Quad (fun k => G k ∨ k = wr.heap.size) w (wr.alloc ob) a x d y c l c' l' := by
  have hb := (Below.refl wr.heap.size wr).alloc (Nat.le_refl _) ob
  obtain ⟨o, h⟩ := h
  have hsz : (wr.alloc ob).heap.size = wr.heap.size + 1 := by simp
  refine ⟨nx o 0 wr wr, h.pc.same (fun k hk => by rw [nx_old (h.pc.lt k hk)]; exact hk) (fun k hk => ?_) (fun k hk => hb.block k (h.pc.lt k hk)), h.cc.same (fun k hk => by rw [nx_old (h.cc.lt k hk)]; exact hk) (fun k hk => ?_) (fun k hk => hb.block k (h.cc.lt k hk)), h.rc.same (fun k hk => by rw [nx_old (h.rc.lt k hk)]; exact hk) (fun k hk => ?_) (fun k hk => hb.block k (h.rc.lt k hk)), h.vc.same (fun k hk => by rw [nx_old (h.vc.lt k hk)]; exact hk) (fun k hk => ?_) (fun k hk => hb.block k (h.vc.lt k hk)), fun k hk => ?_, fun k hk => ?_, h.bl.trans (hb.mono h.bl.size)⟩
  · have := nx_lt (Nat.le_refl _) hk (by decide); omega
  · have := nx_lt (Nat.le_refl _) hk (by decide); omega
  · have := nx_lt (Nat.le_refl _) hk (by decide); omega
  · have := nx_lt (Nat.le_refl _) hk (by decide); omega
  · rcases hk with hk | rfl
    · exact ⟨by have := (h.g k hk).1; omega, by rw [nx_old (h.g k hk).1]; exact (h.g k hk).2⟩
    · exact ⟨by omega, by unfold nx; rw [if_neg (by omega), if_neg (by omega)]⟩
  · have hlt := nx_lt (Nat.le_refl _) (j := nx o 0 wr wr k) rfl hk
    rw [nx_old hlt] at hk
    exact h.nw k hk
/-- A cell of a block that is kept apart is set. -/
theorem Quad.setG (h : Quad G w wr a x d y c l c' l') {z p : Nat} (hz : G z) (hw : w.heap.size ≤ z) (u : Value) : Quad G w (wr.setCell ⟨z, p, none⟩ u) a x d y c l c' l' := by
  obtain ⟨o, h⟩ := h
  have hsz : (wr.setCell ⟨z, p, none⟩ u).heap.size = wr.heap.size := by simp [World.setCell]
  have far : ∀ k, o k ≠ 0 → (wr.setCell ⟨z, p, none⟩ u).heap[k]? = wr.heap[k]? := fun k hk => Below.heap_setCell wr ⟨z, p, none⟩ u k (fun e => hk (by have e' : k = z := e; rw [e']; exact (h.g z hz).2))
  refine ⟨o, h.pc.same (fun _ h => h) (fun k hk => by rw [hsz]; exact h.pc.lt k hk) (fun k hk => far k (by have : o k = 1 := hk; omega)), h.cc.same (fun _ h => h) (fun k hk => by rw [hsz]; exact h.cc.lt k hk) (fun k hk => far k (by have : o k = 2 := hk; omega)), h.rc.same (fun _ h => h) (fun k hk => by rw [hsz]; exact h.rc.lt k hk) (fun k hk => far k (by have : o k = 3 := hk; omega)), h.vc.same (fun _ h => h) (fun k hk => by rw [hsz]; exact h.vc.lt k hk) (fun k hk => far k (by have : o k = 4 := hk; omega)), fun k hk => by rw [hsz]; exact h.g k hk, h.nw, below_set h.bl hw⟩
/-! The methods. -/
theorem q_begin (h : Quad G w wr a x d y c l c' l') (hn : c.l.length ≤ 900000) : Calls Try.prog 22 #[.pointer (some ⟨a, 0, none⟩)] wr fun e w' => e = .returned (.tuple #[.int .i64 c.begT, .int .i64 c.begE]) ∧ Quad G w w' a x d y c.beg l c' l' ∧ Keep G wr w' := by
  obtain ⟨o, h⟩ := h
  exact (begin_any h.pc hn).mono fun e w' he => h.p1 he
theorem q_commit (h : Quad G w wr a x d y c l c' l') (t : Int) (hn : c.n ≤ 900000) (hl : c.l.length ≤ 900000) : Calls Try.prog 24 #[.pointer (some ⟨a, 0, none⟩), .int .i64 t] wr fun e w' => e = .returned (.int .i64 (c.endE t)) ∧ Quad G w w' a x d y (c.comS t) l c' l' ∧ Keep G wr w' := by
  obtain ⟨o, h⟩ := h
  exact (commit_any h.pc t hn hl).mono fun e w' he => h.p1 he
theorem q_abort (h : Quad G w wr a x d y c l c' l') (t : Int) (hl : c.l.length ≤ 900000) : Calls Try.prog 25 #[.pointer (some ⟨a, 0, none⟩), .int .i64 t] wr fun e w' => e = .returned (.int .i64 (c.endE t)) ∧ Quad G w w' a x d y (c.abS t) l c' l' ∧ Keep G wr w' := by
  obtain ⟨o, h⟩ := h
  exact (abort_any h.pc t hl).mono fun e w' he => h.p1 he
theorem q_rbegin (h : Quad G w wr a x d y c l c' l') (hn : c'.l.length ≤ 900000) : Calls Try.prog 35 #[.pointer (some ⟨d, 0, none⟩)] wr fun e w' => e = .returned (.tuple #[.int .i64 c'.begT, .int .i64 c'.begE]) ∧ Quad G w w' a x d y c l c'.beg l' ∧ Keep G wr w' := by
  obtain ⟨o, h⟩ := h
  exact (rbegin_any h.rc hn).mono fun e w' he => h.p3 he
theorem q_rcommit (h : Quad G w wr a x d y c l c' l') (t : Int) (hn : c'.n ≤ 900000) (hl : c'.l.length ≤ 900000) : Calls Try.prog 36 #[.pointer (some ⟨d, 0, none⟩), .int .i64 t] wr fun e w' => e = .returned (.int .i64 (c'.endE t)) ∧ Quad G w w' a x d y c l (c'.comS t) l' ∧ Keep G wr w' := by
  obtain ⟨o, h⟩ := h
  exact (rcommit_any h.rc t hn hl).mono fun e w' he => h.p3 he
theorem q_rabort (h : Quad G w wr a x d y c l c' l') (t : Int) (hl : c'.l.length ≤ 900000) : Calls Try.prog 37 #[.pointer (some ⟨d, 0, none⟩), .int .i64 t] wr fun e w' => e = .returned (.int .i64 (c'.endE t)) ∧ Quad G w w' a x d y c l (c'.abS t) l' ∧ Keep G wr w' := by
  obtain ⟨o, h⟩ := h
  exact (rabort_any h.rc t hl).mono fun e w' he => h.p3 he
theorem q_rlive (h : Quad G w wr a x d y c l c' l') (t : Int) : Calls Try.prog 15 #[.pointer (some ⟨d, 0, none⟩), .int .i64 t] wr fun e w' => e = .returned (.bool (c'.isLive t)) ∧ wr = w' := by
  obtain ⟨o, h⟩ := h
  exact rlive_any h.rc t
theorem q_rcount (h : Quad G w wr a x d y c l c' l') : Calls Try.prog 21 #[.pointer (some ⟨d, 0, none⟩)] wr fun e w' => e = .returned (.int .i64 (c'.cnt : Nat)) ∧ wr = w' := by
  obtain ⟨o, h⟩ := h
  exact rcount_any h.rc
theorem q_write (h : Quad G w wr a x d y c l c' l') (t v : Int) (g : Bool) (hl : l.length ≤ 800000) : Calls Try.prog 23 #[.pointer (some ⟨x, 0, none⟩), .pointer (some ⟨a, 0, none⟩), .int .i64 t, .int .i64 v, .bool g] wr fun e w' => e = .returned (.int .i64 (Ver.chk c t l)) ∧ Quad G w w' a x d y c (Ver.wrS c t v g l) c' l' ∧ Keep G wr w' := by
  obtain ⟨o, h⟩ := h
  exact (cwrite_any h.cc h.pc t v g hl).mono fun e w' he => h.p2 he
theorem q_rwrite (h : Quad G w wr a x d y c l c' l') (t v : Int) (g : Bool) (hl : l'.length ≤ 800000) : Calls Try.prog 40 #[.pointer (some ⟨y, 0, none⟩), .pointer (some ⟨d, 0, none⟩), .int .i64 t, .int .i64 v, .bool g] wr fun e w' => e = .returned (.int .i64 (Ver.chk c' t l')) ∧ Quad G w w' a x d y c l c' (Ver.wrS c' t v g l') ∧ Keep G wr w' := by
  obtain ⟨o, h⟩ := h
  exact (vwrite_any h.vc h.rc t v g hl).mono fun e w' he => h.p4 he
theorem q_undo (h : Quad G w wr a x d y c l c' l') (t : Int) (hu : ∀ z ∈ l.drop (Ver.at? t l + 1), z.w ≠ t) (hl : l.length ≤ 900000) : Calls Try.prog 26 #[.pointer (some ⟨x, 0, none⟩), .int .i64 t] wr fun e w' => e = .returned (.tuple #[]) ∧ Quad G w w' a x d y c (Ver.undo t l) c' l' ∧ Keep G wr w' := by
  obtain ⟨o, h⟩ := h
  exact (cundo_any h.cc hu hl).mono fun e w' he => h.p2 he
theorem q_rundo (h : Quad G w wr a x d y c l c' l') (t : Int) (hl : l'.length ≤ 900000) : Calls Try.prog 38 #[.pointer (some ⟨y, 0, none⟩), .int .i64 t] wr fun e w' => e = .returned (.tuple #[]) ∧ Quad G w w' a x d y c l c' (Ver.undo t l') ∧ Keep G wr w' := by
  obtain ⟨o, h⟩ := h
  exact (vundo_any h.vc t hl).mono fun e w' he => h.p4 he
theorem q_sweep (h : Quad G w wr a x d y c l c' l') : Calls Try.prog 19 #[.pointer (some ⟨x, 0, none⟩), .pointer (some ⟨a, 0, none⟩)] wr fun e w' => e = .returned (.bool (Ver.spare c l)) ∧ Quad G w w' a x d y c (Ver.swS c l) c' l' ∧ Keep G wr w' := by
  obtain ⟨o, h⟩ := h
  exact (csweep_any h.cc h.pc).mono fun e w' he => h.p2 he
theorem q_rsweep (h : Quad G w wr a x d y c l c' l') (hl : l'.length ≤ 900000) : Calls Try.prog 42 #[.pointer (some ⟨y, 0, none⟩), .pointer (some ⟨d, 0, none⟩)] wr fun e w' => e = .returned (.bool (Ver.spare c' l')) ∧ Quad G w w' a x d y c l c' (Ver.swS c' l') ∧ Keep G wr w' := by
  obtain ⟨o, h⟩ := h
  exact (vsweep_any h.vc h.rc hl).mono fun e w' he => h.p4 he
theorem q_spare (h : Quad G w wr a x d y c l c' l') : Calls Try.prog 20 #[.pointer (some ⟨x, 0, none⟩), .pointer (some ⟨a, 0, none⟩)] wr fun e w' => e = .returned (.bool (Ver.spare c l)) ∧ Quad G w w' a x d y c l c' l' ∧ Keep G wr w' := by
  have h' := h
  obtain ⟨o, h⟩ := h
  exact (cspare_any h.cc h.pc).mono fun e w' he => ⟨he.1, h'.below he.2⟩
theorem q_rspare (h : Quad G w wr a x d y c l c' l') : Calls Try.prog 41 #[.pointer (some ⟨y, 0, none⟩), .pointer (some ⟨d, 0, none⟩)] wr fun e w' => e = .returned (.bool (Ver.spare c' l')) ∧ Quad G w w' a x d y c l c' l' ∧ Keep G wr w' := by
  have h' := h
  obtain ⟨o, h⟩ := h
  exact (vSpare_any h.vc h.rc).mono fun e w' he => ⟨he.1, h'.below he.2⟩
theorem q_check (h : Quad G w wr a x d y c l c' l') (t : Int) : Calls Try.prog 17 #[.pointer (some ⟨x, 0, none⟩), .pointer (some ⟨a, 0, none⟩), .int .i64 t] wr fun e w' => e = .returned (.int .i64 (Ver.chk c t l)) ∧ Quad G w w' a x d y c l c' l' ∧ Keep G wr w' := by
  have h' := h
  obtain ⟨o, h⟩ := h
  exact (ccheck_any h.cc h.pc t).mono fun e w' he => ⟨he.1, h'.below he.2⟩
theorem q_rcheck (h : Quad G w wr a x d y c l c' l') (t : Int) : Calls Try.prog 39 #[.pointer (some ⟨y, 0, none⟩), .pointer (some ⟨d, 0, none⟩), .int .i64 t] wr fun e w' => e = .returned (.int .i64 (Ver.chk c' t l')) ∧ Quad G w w' a x d y c l c' l' ∧ Keep G wr w' := by
  have h' := h
  obtain ⟨o, h⟩ := h
  exact (vcheck_any h.vc h.rc t).mono fun e w' he => ⟨he.1, h'.below he.2⟩
theorem q_read (h : Quad G w wr a x d y c l c' l') (t : Int) : Calls Try.prog 16 #[.pointer (some ⟨x, 0, none⟩), .pointer (some ⟨a, 0, none⟩), .int .i64 t] wr fun e w' => e = .returned (.tuple #[.int .i64 (Ver.rdV 0 (Ver.rdX c t l)), .bool (Ver.rdB (Ver.rdX c t l))]) ∧ Quad G w w' a x d y c l c' l' ∧ Keep G wr w' := by
  have h' := h
  obtain ⟨o, h⟩ := h
  exact (cread_any h.cc h.pc t).mono fun e w' he => ⟨he.1, h'.below he.2⟩
theorem q_rread (h : Quad G w wr a x d y c l c' l') (t : Int) : Calls Try.prog 43 #[.pointer (some ⟨y, 0, none⟩), .pointer (some ⟨d, 0, none⟩), .int .i64 t] wr fun e w' => e = .returned (.tuple #[.int .i64 (Ver.rdV 0 (Ver.rdX c' t l')), .bool (Ver.rdB (Ver.rdX c' t l'))]) ∧ wr = w' := by
  obtain ⟨o, h⟩ := h
  exact vread_any h.vc h.rc t
theorem q_len (h : Quad G w wr a x d y c l c' l') : Calls Try.prog 18 #[.pointer (some ⟨x, 0, none⟩)] wr fun e w' => e = .returned (.int .i64 (l.length : Nat)) ∧ wr = w' := by
  obtain ⟨o, h⟩ := h
  exact clen_any h.cc
end
/-! The law's world. -/
def WB (W : World) (z a x d y : Nat) (n : Int) : Prop := W.heap[z]? = some (.cells #[.pointer (some ⟨a, 0, none⟩), .pointer (some ⟨x, 0, none⟩), .pointer (some ⟨d, 0, none⟩), .pointer (some ⟨y, 0, none⟩), .int .i64 n] 35 (0, 0))
theorem WB.keep {G : Nat → Prop} {W W' : World} {z a x d y : Nat} {n : Int} (h : WB W z a x d y n) (hk : Keep G W W') (hz : G z) : WB W' z a x d y n := (hk.2 z hz).trans h
theorem WB.cells {W : World} {z a x d y : Nat} {n : Int} (h : WB W z a x d y n) : (W.cell? ⟨z, 0, none⟩ = some (.pointer (some ⟨a, 0, none⟩)) ∧ W.cell? ⟨z, 1, none⟩ = some (.pointer (some ⟨x, 0, none⟩)) ∧ W.cell? ⟨z, 2, none⟩ = some (.pointer (some ⟨d, 0, none⟩)) ∧ W.cell? ⟨z, 3, none⟩ = some (.pointer (some ⟨y, 0, none⟩))) ∧ W.cell? ⟨z, 4, none⟩ = some (.int .i64 n) ∧ ∀ o, W.frozen? ⟨z, o, none⟩ = false := by
  refine ⟨⟨?_, ?_, ?_, ?_⟩, ?_, fun o => frozen_of_row W z o _ _ h⟩ <;> exact (cell_of_row W z _ _ _ _ h).trans rfl
/-- All that a script's world is: the four objects and the block that names them. -/
structure Wd (w wr : World) (z a x d y : Nat) (c : Ck) (l : List (Ver Int)) (n : Int) : Prop where
  q : Quad (fun k => k = z) w wr a x d y c l c l
  b : WB wr z a x d y n
  nz : w.heap.size ≤ z
end Go.Proofs.Ytpjjpjdamieeeaa
