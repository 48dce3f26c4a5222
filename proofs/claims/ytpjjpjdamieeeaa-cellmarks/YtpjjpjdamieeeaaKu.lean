/- The program's Clock and the reference's side by side (Duo); what act of chapter 6's laws does in both; acts that came in, opened. Conditions: each contract names its own. -/
import Derived.Test.YtpjjpjdamieeeaaKi
import Derived.Test.YtpjjpjdamieeeaaKt
import Derived.Deep.RegionHeld3
import Derived.SizedLaws
namespace Go.Proofs.Ytpjjpjdamieeeaa
set_option maxRecDepth 100000
set_option linter.unusedVariables false
open Go.ChangeShapes Go.WideShapes Go.ChangeAt Go.RowKit
/-- The blocks of G are as they were. -/
def Keep (G : Nat → Prop) (w w' : World) : Prop := w.heap.size ≤ w'.heap.size ∧ ∀ k, G k → w'.heap[k]? = w.heap[k]?
theorem Keep.trans {G : Nat → Prop} {w w1 w2 : World} (h : Keep G w w1) (k : Keep G w1 w2) : Keep G w w2 := ⟨Nat.le_trans h.1 k.1, fun j hj => (k.2 j hj).trans (h.2 j hj)⟩
theorem Keep.of {G G' : Nat → Prop} {w w1 : World} (h : Keep G w w1) (hG : ∀ k, G' k → G k) : Keep G' w w1 := ⟨h.1, fun j hj => h.2 j (hG j hj)⟩
/-- Both Clocks, the program's in blocks of F, the reference's in blocks of R, apart from each other and from G, all newer than w. -/
structure DuoS (G F R : Nat → Prop) (w wr : World) (a b : Nat) (c x : Ck) : Prop where
  pc : PC F wr a c
  rc : RC R wr b x
  ap : ∀ k, F k → ¬ R k
  fG : ∀ k, F k → ¬ G k ∧ w.heap.size ≤ k
  rG : ∀ k, R k → ¬ G k ∧ w.heap.size ≤ k
  gl : ∀ k, G k → k < wr.heap.size
  bl : Below w.heap.size w wr
def Duo (G : Nat → Prop) (w wr : World) (a b : Nat) (c x : Ck) : Prop := ∃ F R, DuoS G F R w wr a b c x
section
variable {G G' F R : Nat → Prop} {w wr w' : World} {a b : Nat} {c c' x x' : Ck} {v : Value} {e : Ending}
theorem DuoS.left (h : DuoS G F R w wr a b c x) (hd : Does F wr a v c' e w') : e = .returned v ∧ Duo G w w' a b c' x ∧ Keep G wr w' := by
  obtain ⟨h1, h2, h3⟩ := hd
  have hs := h3.size
  refine ⟨h1, ⟨Nu F wr w', R, h2, h.rc.chg h3 (fun k hk hf => h.ap k hf hk), fun k hk hr => ?_, fun k hk => ?_, h.rG, fun k hk => by have := h.gl k hk; omega, Chg.of_below h.bl h3 (fun k hk => (h.fG k hk).2)⟩, hs, fun k hk => h3.block k (h.gl k hk) (fun hf => (h.fG k hf).1 hk)⟩
  · rcases hk with hk | hk
    · exact h.ap k hk hr
    · have := h.rc.lt k hr; omega
  · rcases hk with hk | hk
    · exact h.fG k hk
    · exact ⟨fun hg => by have := h.gl k hg; omega, by have := h.bl.size; omega⟩
theorem DuoS.right (h : DuoS G F R w wr a b c x) (hd : DoesR R wr b v x' e w') : e = .returned v ∧ Duo G w w' a b c x' ∧ Keep G wr w' := by
  obtain ⟨h1, h2, h3⟩ := hd
  have hs := h3.size
  refine ⟨h1, ⟨F, Nu R wr w', h.pc.chg h3 h.ap, h2, fun k hk hr => ?_, h.fG, fun k hk => ?_, fun k hk => by have := h.gl k hk; omega, Chg.of_below h.bl h3 (fun k hk => (h.rG k hk).2)⟩, hs, fun k hk => h3.block k (h.gl k hk) (fun hf => (h.rG k hf).1 hk)⟩
  · rcases hr with hr | hr
    · exact h.ap k hk hr
    · have := h.pc.lt k hk; omega
  · rcases hk with hk | hk
    · exact h.rG k hk
    · exact ⟨fun hg => by have := h.gl k hg; omega, by have := h.bl.size; omega⟩
theorem Duo.below (h : Duo G w wr a b c x) (hb : Below wr.heap.size wr w') : Duo G w w' a b c x ∧ Keep G wr w' := by
  obtain ⟨F, R, h⟩ := h
  exact ⟨⟨F, R, h.pc.below hb, h.rc.below hb, h.ap, h.fG, h.rG, fun k hk => Nat.lt_of_lt_of_le (h.gl k hk) hb.size, h.bl.trans (hb.mono h.bl.size)⟩, hb.size, fun k hk => hb.block k (h.gl k hk)⟩
theorem Duo.all (h : Duo G w wr a b c x) : Below w.heap.size w wr := by obtain ⟨F, R, h⟩ := h; exact h.bl
theorem Duo.ok (h : Duo G w wr a b c x) : c.Ok := by obtain ⟨F, R, h⟩ := h; exact h.pc.ok
theorem Duo.okx (h : Duo G w wr a b c x) : x.Ok := by obtain ⟨F, R, h⟩ := h; exact h.rc.ok
theorem Duo.less (h : Duo G w wr a b c x) (hG : ∀ k, G' k → G k) : Duo G' w wr a b c x := by
  obtain ⟨F, R, h⟩ := h
  exact ⟨F, R, h.pc, h.rc, h.ap, fun k hk => ⟨fun hg => (h.fG k hk).1 (hG k hg), (h.fG k hk).2⟩, fun k hk => ⟨fun hg => (h.rG k hk).1 (hG k hg), (h.rG k hk).2⟩, fun k hk => h.gl k (hG k hk), h.bl⟩
/-- A new block is kept apart, too. -/
theorem Duo.box (h : Duo G w wr a b c x) (o : Obj) : Duo (fun k => G k ∨ k = wr.heap.size) w (wr.alloc o) a b c x := by
  have hb := (Below.refl wr.heap.size wr).alloc (Nat.le_refl _) o
  obtain ⟨F, R, h⟩ := h
  refine ⟨F, R, h.pc.below hb, h.rc.below hb, h.ap, fun k hk => ⟨fun hg => ?_, (h.fG k hk).2⟩, fun k hk => ⟨fun hg => ?_, (h.rG k hk).2⟩, fun k hk => ?_, h.bl.trans (hb.mono h.bl.size)⟩
  · rcases hg with hg | rfl
    · exact (h.fG k hk).1 hg
    · have := h.pc.lt _ hk; omega
  · rcases hg with hg | rfl
    · exact (h.rG k hk).1 hg
    · have := h.rc.lt _ hk; omega
  · rw [World.size_alloc]
    rcases hk with hk | rfl
    · have := h.gl k hk; omega
    · omega
/-- As the laws make them. -/
theorem duo_new {w1 : World} (hb : Below w.heap.size w wr) (h1 : PC (fun k => k = wr.heap.size) w1 wr.heap.size Ck.new) (h2 : Below wr.heap.size wr w1) :
    Duo (fun _ => False) w (w1.alloc (.cells #[.slice none 0 0, .int .i64 0] 65)) wr.heap.size w1.heap.size Ck.new Ck.new := by
  have hb1 := (Below.refl w1.heap.size w1).alloc (Nat.le_refl _) (.cells #[.slice none 0 0, .int .i64 0] 65)
  have hs := h1.lt _ rfl
  have hs0 := hb.size
  have hm : RM (fun k => k = w1.heap.size) (w1.alloc (.cells #[.slice none 0 0, .int .i64 0] 65)) w1.heap.size (.slice none 0 0) [] 0 :=
    { lt := fun k hk => by subst hk; simp
      fa := rfl
      f1 := fun k hk => by simp [Value.ownBlock] at hk
      blk := heap_alloc_new w1 _
      r1 := World.ownsRow_nil _ _ _ _ }
  exact ⟨_, _, h1.below hb1, ⟨Ck.new_ok, _, hm⟩, fun k hk hr => by omega, fun k hk => ⟨id, by omega⟩, fun k hk => ⟨id, by omega⟩, fun k hk => absurd hk id, (hb.trans (h2.mono hs0)).trans (hb1.mono (by omega))⟩
theorem duo_begin (h : Duo G w wr a b c x) (hn : c.l.length ≤ 900000) : Calls Try.prog 22 #[.pointer (some ⟨a, 0, none⟩)] wr fun e w' => e = .returned (.tuple #[.int .i64 c.begT, .int .i64 c.begE]) ∧ Duo G w w' a b c.beg x ∧ Keep G wr w' := by
  obtain ⟨F, R, h⟩ := h
  exact (begin_any h.pc hn).mono fun e w' he => h.left he
theorem duo_rbegin (h : Duo G w wr a b c x) (hn : x.l.length ≤ 900000) : Calls Try.prog 35 #[.pointer (some ⟨b, 0, none⟩)] wr fun e w' => e = .returned (.tuple #[.int .i64 x.begT, .int .i64 x.begE]) ∧ Duo G w w' a b c x.beg ∧ Keep G wr w' := by
  obtain ⟨F, R, h⟩ := h
  exact (rbegin_any h.rc hn).mono fun e w' he => h.right he
theorem duo_commit (h : Duo G w wr a b c x) (t : Int) (hn : c.n ≤ 900000) (hl : c.l.length ≤ 900000) : Calls Try.prog 24 #[.pointer (some ⟨a, 0, none⟩), .int .i64 t] wr fun e w' => e = .returned (.int .i64 (c.endE t)) ∧ Duo G w w' a b (c.comS t) x ∧ Keep G wr w' := by
  obtain ⟨F, R, h⟩ := h
  exact (commit_any h.pc t hn hl).mono fun e w' he => h.left he
theorem duo_rcommit (h : Duo G w wr a b c x) (t : Int) (hn : x.n ≤ 900000) (hl : x.l.length ≤ 900000) : Calls Try.prog 36 #[.pointer (some ⟨b, 0, none⟩), .int .i64 t] wr fun e w' => e = .returned (.int .i64 (x.endE t)) ∧ Duo G w w' a b c (x.comS t) ∧ Keep G wr w' := by
  obtain ⟨F, R, h⟩ := h
  exact (rcommit_any h.rc t hn hl).mono fun e w' he => h.right he
theorem duo_abort (h : Duo G w wr a b c x) (t : Int) (hl : c.l.length ≤ 900000) : Calls Try.prog 25 #[.pointer (some ⟨a, 0, none⟩), .int .i64 t] wr fun e w' => e = .returned (.int .i64 (c.endE t)) ∧ Duo G w w' a b (c.abS t) x ∧ Keep G wr w' := by
  obtain ⟨F, R, h⟩ := h
  exact (abort_any h.pc t hl).mono fun e w' he => h.left he
theorem duo_rabort (h : Duo G w wr a b c x) (t : Int) (hl : x.l.length ≤ 900000) : Calls Try.prog 37 #[.pointer (some ⟨b, 0, none⟩), .int .i64 t] wr fun e w' => e = .returned (.int .i64 (x.endE t)) ∧ Duo G w w' a b c (x.abS t) ∧ Keep G wr w' := by
  obtain ⟨F, R, h⟩ := h
  exact (rabort_any h.rc t hl).mono fun e w' he => h.right he
theorem Duo.sys (h : Duo G w wr a b c x) : Sys w wr a c := by
  obtain ⟨F, R, h⟩ := h
  exact ⟨F, h.pc, fun k hk => (h.fG k hk).2, h.bl⟩
theorem Duo.ref (h : Duo G w wr a b c x) : ∃ R, RC R wr b x := by
  obtain ⟨F, R, h⟩ := h
  exact ⟨R, h.rc⟩
end
/-- What an act makes of a clock. -/
def actS (c : Ck) (kd t : Int) : Ck := if kd = 1 then c.beg else if kd = 2 then c.comS t else c.abS t
theorem beg_n (c : Ck) : c.beg.n = c.n := by unfold Ck.beg; split <;> rfl
theorem com_n1 (c : Ck) (t : Int) : (c.comS t).n ≤ c.n + 1 := by unfold Ck.comS; split <;> simp
theorem ab_n (c : Ck) (t : Int) : (c.abS t).n = c.n := by unfold Ck.abS; split <;> rfl
theorem actS_len (c : Ck) (kd t : Int) : (actS c kd t).l.length ≤ c.l.length + 1 ∧ (actS c kd t).n ≤ c.n + 1 := by
  unfold actS
  split
  · rw [Ck.beg_len, beg_n]; split <;> omega
  · split
    · rw [Ck.com_len]; have := com_n1 c t; omega
    · rw [Ck.ab_len, ab_n]; omega
theorem add_pos (a : Addr) (n : Nat) (h : 0 < n) : a.add n = ⟨a.block, a.off + n, none⟩ := by
  unfold Addr.add; split
  · omega
  · rfl
end Go.Proofs.Ytpjjpjdamieeeaa
