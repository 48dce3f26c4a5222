/- A Clock that a law has made, seen from the law's first world (Sys), and what known of chapter 6's laws returns: true. No condition. -/
import Derived.Test.YtpeecgieohbolaaKh
namespace Go.Proofs.Ytpeecgieohbolaa
set_option maxRecDepth 100000
set_option linter.unusedVariables false
open Go.ChangeShapes Go.WideShapes Go.ChangeAt Go.RowKit
/-- The Clock in block a is in state c, all of it newer than w; of what was there in w nothing has changed. -/
def Sys (w wr : World) (a : Nat) (c : Ck) : Prop := ∃ F, PC F wr a c ∧ (∀ k, F k → w.heap.size ≤ k) ∧ Below w.heap.size w wr
section
variable {w wr w' : World} {a : Nat} {c c' : Ck} {v : Value} {e : Ending}
theorem Sys.all (h : Sys w wr a c) : Below w.heap.size w wr := by obtain ⟨F, _, _, h⟩ := h; exact h
theorem Sys.ok (h : Sys w wr a c) : c.Ok := by obtain ⟨F, h, _, _⟩ := h; exact h.ok
theorem Sys.below (h : Sys w wr a c) (hb : Below wr.heap.size wr w') : Sys w w' a c := by
  obtain ⟨F, h1, h2, h3⟩ := h
  exact ⟨F, h1.below hb, h2, h3.trans (hb.mono h3.size)⟩
theorem Sys.drew (h : Sys w wr a c) : Sys w wr.drew a c := h.below (Below.refl _ _).drew
theorem Sys.next {F : Nat → Prop} (hb : Below w.heap.size w wr) (hF : ∀ k, F k → w.heap.size ≤ k) (h : Does F wr a v c' e w') : e = .returned v ∧ Sys w w' a c' := by
  obtain ⟨h1, h2, h3⟩ := h
  exact ⟨h1, Nu F wr w', h2, nu_ge hF hb.size, Chg.of_below hb h3 hF⟩
theorem sys_new (hb : Below w.heap.size w wr) : Calls Try.prog 9 #[] wr fun e w' => ∃ a, e = .returned (.pointer (some ⟨a, 0, none⟩)) ∧ Sys w w' a Ck.new :=
  (new_any wr).mono fun e w' ⟨h1, h2, h3⟩ => ⟨_, h1, _, h2, fun k hk => by subst hk; exact hb.size, hb.trans (h3.mono hb.size)⟩
theorem sys_begin (h : Sys w wr a c) (hn : c.l.length ≤ 900000) : Calls Try.prog 24 #[.pointer (some ⟨a, 0, none⟩)] wr fun e w' => e = .returned (.tuple #[.int .i64 c.begT, .int .i64 c.begE]) ∧ Sys w w' a c.beg := by
  obtain ⟨F, h1, h2, h3⟩ := h
  exact (begin_any h1 hn).mono fun e w' he => Sys.next h3 h2 he
theorem sys_commit (h : Sys w wr a c) (t : Int) (hn : c.n ≤ 900000) (hl : c.l.length ≤ 900000) : Calls Try.prog 26 #[.pointer (some ⟨a, 0, none⟩), .int .i64 t] wr fun e w' => e = .returned (.int .i64 (c.endE t)) ∧ Sys w w' a (c.comS t) := by
  obtain ⟨F, h1, h2, h3⟩ := h
  exact (commit_any h1 t hn hl).mono fun e w' he => Sys.next h3 h2 he
theorem sys_abort (h : Sys w wr a c) (t : Int) (hl : c.l.length ≤ 900000) : Calls Try.prog 27 #[.pointer (some ⟨a, 0, none⟩), .int .i64 t] wr fun e w' => e = .returned (.int .i64 (c.endE t)) ∧ Sys w w' a (c.abS t) := by
  obtain ⟨F, h1, h2, h3⟩ := h
  exact (abort_any h1 t hl).mono fun e w' he => Sys.next h3 h2 he
theorem sys_sees (h : Sys w wr a c) (t b : Int) : Calls Try.prog 19 #[.pointer (some ⟨a, 0, none⟩), .int .i64 t, .int .i64 b] wr fun e w' => e = .returned (.bool (c.sees t b)) ∧ Below wr.heap.size wr w' := by
  obtain ⟨F, h1, h2, h3⟩ := h
  exact sees_any h1 t b
theorem sys_clashes (h : Sys w wr a c) (t b : Int) : Calls Try.prog 21 #[.pointer (some ⟨a, 0, none⟩), .int .i64 t, .int .i64 b] wr fun e w' => e = .returned (.bool (c.clashes t b)) ∧ Below wr.heap.size wr w' := by
  obtain ⟨F, h1, h2, h3⟩ := h
  exact clashes_any h1 t b
theorem sys_settled (h : Sys w wr a c) (b : Int) : Calls Try.prog 17 #[.pointer (some ⟨a, 0, none⟩), .int .i64 b] wr fun e w' => e = .returned (.bool (c.settled b)) ∧ Below wr.heap.size wr w' := by
  obtain ⟨F, h1, h2, h3⟩ := h
  exact settled_any h1 b
theorem sys_live (h : Sys w wr a c) (b : Int) : Calls Try.prog 13 #[.pointer (some ⟨a, 0, none⟩), .int .i64 b] wr fun e w' => e = .returned (.bool (c.isLive b)) ∧ Below wr.heap.size wr w' := by
  obtain ⟨F, h1, h2, h3⟩ := h
  exact isLive_any h1 b
theorem sys_aborted (h : Sys w wr a c) (b : Int) : Calls Try.prog 15 #[.pointer (some ⟨a, 0, none⟩), .int .i64 b] wr fun e w' => e = .returned (.bool (c.isAb b)) ∧ Below wr.heap.size wr w' := by
  obtain ⟨F, h1, h2, h3⟩ := h
  exact aborted_any h1 b
theorem sys_count (h : Sys w wr a c) : Calls Try.prog 11 #[.pointer (some ⟨a, 0, none⟩)] wr fun e w' => e = .returned (.int .i64 (c.cnt : Nat)) ∧ Below wr.heap.size wr w' := by
  obtain ⟨F, h1, h2, h3⟩ := h
  exact (count_any h1).mono fun e w' ⟨h1, h2⟩ => ⟨h1, by subst h2; exact Below.refl _ _⟩
end
def kc : Ck := (Ck.new.beg.beg).comS 1
set_option maxHeartbeats 1000000 in
theorem known_any (w : World) : Calls Try.prog 23 #[] w fun e w' => e = .returned (.bool true) ∧ Below w.heap.size w w' := by
  have HN := Lib.hid (sys_new (Below.refl w.heap.size w))
  go_enter Try.func23, Try.ntmps23
  go_wp2_with fail
  (with_reducible refine HN.out.mono ?_)
  rintro e w1 ⟨a, rfl, h1⟩
  have C1 := Lib.hid (sys_begin h1 (by decide))
  rw [show Ck.new.begT = 1 from rfl, show Ck.new.begE = 0 from rfl] at C1
  clear h1 HN
  go_wp2_with fail
  (with_reducible refine C1.out.mono ?_)
  rintro e w2 ⟨rfl, h2⟩
  have C2 := Lib.hid (sys_begin h2 (by decide))
  rw [show Ck.new.beg.begT = 2 from rfl, show Ck.new.beg.begE = 0 from rfl] at C2
  clear h2 C1
  go_wp2_with fail
  (with_reducible refine C2.out.mono ?_)
  rintro e w3 ⟨rfl, h3⟩
  have C3 := Lib.hid (sys_commit h3 1 (by decide) (by decide))
  rw [show Ck.new.beg.beg.endE 1 = 0 from rfl] at C3
  clear h3 C2
  go_wp2_with fail
  (with_reducible refine C3.out.mono ?_)
  rintro e w4 ⟨rfl, h4⟩
  have H4 : Hid (Sys w w4 a kc) := h4
  have D1 := Lib.hid (fun W (h : Sys w W a kc) => sys_sees h 2 1)
  have D2 := Lib.hid (fun W (h : Sys w W a kc) => sys_clashes h 2 1)
  have D3 := Lib.hid (fun W (h : Sys w W a kc) => sys_settled h 1)
  have D4 := Lib.hid (fun W (h : Sys w W a kc) => sys_sees h 2 2)
  rw [show kc.sees 2 1 = false from rfl] at D1
  rw [show kc.clashes 2 1 = true from rfl] at D2
  rw [show kc.settled 1 = false from rfl] at D3
  rw [show kc.sees 2 2 = true from rfl] at D4
  clear h4 C3
  go_wp2_with (first
    | (go_at_call 21; (with_reducible refine (D2.out _ H5.out).mono ?_); rintro e w6 ⟨rfl, hb6⟩; have H6 := Lib.hid (H5.out.below hb6); clear hb6)
    | (go_at_call 17; (with_reducible refine (D3.out _ H6.out).mono ?_); rintro e w7 ⟨rfl, hb7⟩; have H7 := Lib.hid (H6.out.below hb7); clear hb7)
    | (go_at_call 19; (with_reducible refine (D4.out _ H7.out).mono ?_); rintro e w8 ⟨rfl, hb8⟩; have H8 := Lib.hid (H7.out.below hb8); clear hb8)
    | (go_at_call 19; (with_reducible refine (D1.out _ H4.out).mono ?_); rintro e w5 ⟨rfl, hb5⟩; have H5 := Lib.hid (H4.out.below hb5); clear hb5))
  go_ret
  exact ⟨rfl, H8.out.all⟩
end Go.Proofs.Ytpeecgieohbolaa
