/- A Clock that a law has made, seen from the law's first world (Sys), and what known of chapter 6's laws returns: true. No condition. -/
import Derived.Test.YtpjjpjdamieeeaaKh
namespace Go.Proofs.Ytpjjpjdamieeeaa
set_option maxRecDepth 100000
set_option linter.unusedVariables false
open Go.ChangeShapes Go.WideShapes Go.ChangeAt Go.RowKit
/-- The Clock in block a is in state c, all of it newer than w; of what was there in w nothing has changed. -/
def Sys (w wr : World) (a : Nat) (c : Ck) : Prop := ∃ F, PC F wr a c ∧ (∀ k, F k → w.heap.size ≤ k) ∧ Below w.heap.size w wr
section
variable {w wr w' : World} {a : Nat} {c c' : Ck} {v : Value} {e : Ending}
theorem Sys.all (h : Sys w wr a c) : Below w.heap.size w wr := by obtain ⟨F, _, _, h⟩ := h; exact h
theorem Sys.ok (h : Sys w wr a c) : c.Ok := by obtain ⟨F, h, _, _⟩ := h; exact h.ok
theorem Sys.below (h : Sys w wr a c) (hb : Below wr.heap.size wr w') : Sys w w' a c := by
  obtain ⟨F, h1, h2, h3⟩ := h
  exact ⟨F, h1.below hb, h2, h3.trans (hb.mono h3.size)⟩
theorem Sys.drew (h : Sys w wr a c) : Sys w wr.drew a c := h.below (Below.refl _ _).drew
theorem Sys.next {F : Nat → Prop} (hb : Below w.heap.size w wr) (hF : ∀ k, F k → w.heap.size ≤ k) (h : Does F wr a v c' e w') : e = .returned v ∧ Sys w w' a c' := by
  obtain ⟨h1, h2, h3⟩ := h
  exact ⟨h1, Nu F wr w', h2, nu_ge hF hb.size, Chg.of_below hb h3 hF⟩
theorem sys_new (hb : Below w.heap.size w wr) : Calls Try.prog 27 #[] wr fun e w' => ∃ a, e = .returned (.pointer (some ⟨a, 0, none⟩)) ∧ Sys w w' a Ck.new :=
  (new_any wr).mono fun e w' ⟨h1, h2, h3⟩ => ⟨_, h1, _, h2, fun k hk => by subst hk; exact hb.size, hb.trans (h3.mono hb.size)⟩
theorem sys_begin (h : Sys w wr a c) (hn : c.l.length ≤ 900000) : Calls Try.prog 22 #[.pointer (some ⟨a, 0, none⟩)] wr fun e w' => e = .returned (.tuple #[.int .i64 c.begT, .int .i64 c.begE]) ∧ Sys w w' a c.beg := by
  obtain ⟨F, h1, h2, h3⟩ := h
  exact (begin_any h1 hn).mono fun e w' he => Sys.next h3 h2 he
theorem sys_commit (h : Sys w wr a c) (t : Int) (hn : c.n ≤ 900000) (hl : c.l.length ≤ 900000) : Calls Try.prog 24 #[.pointer (some ⟨a, 0, none⟩), .int .i64 t] wr fun e w' => e = .returned (.int .i64 (c.endE t)) ∧ Sys w w' a (c.comS t) := by
  obtain ⟨F, h1, h2, h3⟩ := h
  exact (commit_any h1 t hn hl).mono fun e w' he => Sys.next h3 h2 he
theorem sys_abort (h : Sys w wr a c) (t : Int) (hl : c.l.length ≤ 900000) : Calls Try.prog 25 #[.pointer (some ⟨a, 0, none⟩), .int .i64 t] wr fun e w' => e = .returned (.int .i64 (c.endE t)) ∧ Sys w w' a (c.abS t) := by
  obtain ⟨F, h1, h2, h3⟩ := h
  exact (abort_any h1 t hl).mono fun e w' he => Sys.next h3 h2 he
theorem sys_sees (h : Sys w wr a c) (t b : Int) : Calls Try.prog 47 #[.pointer (some ⟨a, 0, none⟩), .int .i64 t, .int .i64 b] wr fun e w' => e = .returned (.bool (c.sees t b)) ∧ Below wr.heap.size wr w' := by
  obtain ⟨F, h1, h2, h3⟩ := h
  exact sees_any h1 t b
theorem sys_clashes (h : Sys w wr a c) (t b : Int) : Calls Try.prog 48 #[.pointer (some ⟨a, 0, none⟩), .int .i64 t, .int .i64 b] wr fun e w' => e = .returned (.bool (c.clashes t b)) ∧ Below wr.heap.size wr w' := by
  obtain ⟨F, h1, h2, h3⟩ := h
  exact clashes_any h1 t b
theorem sys_settled (h : Sys w wr a c) (b : Int) : Calls Try.prog 49 #[.pointer (some ⟨a, 0, none⟩), .int .i64 b] wr fun e w' => e = .returned (.bool (c.settled b)) ∧ Below wr.heap.size wr w' := by
  obtain ⟨F, h1, h2, h3⟩ := h
  exact settled_any h1 b
theorem sys_live (h : Sys w wr a c) (b : Int) : Calls Try.prog 52 #[.pointer (some ⟨a, 0, none⟩), .int .i64 b] wr fun e w' => e = .returned (.bool (c.isLive b)) ∧ Below wr.heap.size wr w' := by
  obtain ⟨F, h1, h2, h3⟩ := h
  exact isLive_any h1 b
end
end Go.Proofs.Ytpjjpjdamieeeaa
