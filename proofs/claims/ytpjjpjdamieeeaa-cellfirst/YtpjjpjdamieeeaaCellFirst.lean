/- Proved: ligaturelaw7.CellFirst returns true for every two ints and every bool. No condition. -/
import Derived.Test.YtpjjpjdamieeeaaRows
import Derived.Test.YtpjjpjdamieeeaaQb
import Derived.WalkKit
import Derived.ProofKit
import Derived.OpenShut
import Derived.ShutString
import Derived.ChangeOld
import Derived.Below
namespace Go.Proofs.Ytpjjpjdamieeeaa.cellFirst
set_option maxRecDepth 100000
open Go.ChangeShapes Go.WideShapes Go.ChangeAt Go.RowKit
open Go.ChangeMaps (open_string shut_string)
set_option linter.unusedVariables false
theorem own : ownKnob Try.prog.godebug = none := by kernel_rfl
theorem laidOut : laidOutB Try.prog = true := by kernel_rfl
def fC1 : Ck := Ck.new.beg
def fC2 : Ck := fC1.beg
def fC3 : Ck := fC2.comS 1
def fC4 : Ck := fC2.abS 1

set_option maxHeartbeats 4000000 in
theorem walk (a0 : Int) (a1 : Int) (a2 : Bool) (w : World) (w0 : (Lit.int .i64 a0).wf = true) (w1 : (Lit.int .i64 a1).wf = true) :
    Calls Try.prog 5 #[.int .i64 a0, .int .i64 a1, .bool a2] w fun e w' => e = .returned (.bool true) ∧ Below w.heap.size w w' := by
  cases a2
  · have HN := Lib.hid (begin7_any w)
    have DK := Lib.hid known7_any
    go_enter Try.func5, Try.ntmps5
    go_wp2_with fail
    (with_reducible refine HN.out.mono ?_)
    rintro e w1 ⟨zz, aa, xx, dd, yy, rfl, hwd⟩
    have H0 := Lib.hid hwd.wq
    clear hwd HN
    obtain ⟨⟨k0, k1, k2, k3⟩, _, _⟩ := H0.out.2.1.cells
    have C1 := Lib.hid (show Calls Try.prog 22 #[.pointer (some ⟨aa, 0, none⟩)] w1 (fun e w' => e = .returned (.tuple #[.int .i64 1, .int .i64 0]) ∧ Wq w w' zz aa xx dd yy fC1 [] Ck.new [] 0) from Wq.to H0.out (q_begin H0.out.1 (by decide)))
    go_wp2_with fail
    (with_reducible refine C1.out.mono ?_)
    rintro e w3 ⟨rfl, h1⟩
    have H1 := Lib.hid h1
    clear h1 C1 k0 k1 k2 k3 H0
    obtain ⟨⟨k0, k1, k2, k3⟩, _, _⟩ := H1.out.2.1.cells
    have C2 := Lib.hid (show Calls Try.prog 22 #[.pointer (some ⟨aa, 0, none⟩)] w3 (fun e w' => e = .returned (.tuple #[.int .i64 2, .int .i64 0]) ∧ Wq w w' zz aa xx dd yy fC2 [] Ck.new [] 0) from Wq.to H1.out (q_begin H1.out.1 (by decide)))
    go_wp2_with fail
    (with_reducible refine C2.out.mono ?_)
    rintro e w4 ⟨rfl, h2⟩
    have H2 := Lib.hid h2
    clear h2 C2 k0 k1 k2 k3 H1
    have HD := Lib.hid H2.out.drew
    have C3 := Lib.hid (show Calls Try.prog 23 #[.pointer (some ⟨xx, 0, none⟩), .pointer (some ⟨aa, 0, none⟩), .int .i64 1, .int .i64 a0, .bool false] w4.drew (fun e w' => e = .returned (.int .i64 0) ∧ Wq w w' zz aa xx dd yy fC2 [⟨1, a0, false⟩] Ck.new [] 0) from Wq.to HD.out (q_write HD.out.1 1 a0 false (by simp)))
    have hS0 := HD.out.2.1.cells.1
    go_wp2_with fail
    go_region_held3 (fun W => W.cell? ⟨zz, 0, none⟩ = some (.pointer (some ⟨aa, 0, none⟩)) ∧ W.cell? ⟨zz, 1, none⟩ = some (.pointer (some ⟨xx, 0, none⟩)) ∧ W.cell? ⟨zz, 2, none⟩ = some (.pointer (some ⟨dd, 0, none⟩)) ∧ W.cell? ⟨zz, 3, none⟩ = some (.pointer (some ⟨yy, 0, none⟩))) (first | exact hS0 | exact hS1)
      (first | (go_at_call 23; (with_reducible refine C3.out.mono ?_); rintro e w5 ⟨rfl, h3⟩; have H3 := Lib.hid h3; have hS1 := h3.2.1.cells.1; clear h3))
    clear hS0 hS1 C3 HD H2
    have HD := Lib.hid H3.out.drew
    have C4 := Lib.hid (show Calls Try.prog 23 #[.pointer (some ⟨xx, 0, none⟩), .pointer (some ⟨aa, 0, none⟩), .int .i64 2, .int .i64 a1, .bool false] w5.drew (fun e w' => e = .returned (.int .i64 6) ∧ Wq w w' zz aa xx dd yy fC2 [⟨1, a0, false⟩] Ck.new [] 0) from Wq.to HD.out (q_write HD.out.1 2 a1 false (by simp)))
    have hS0 := HD.out.2.1.cells.1
    go_wp2_with fail
    go_region_held3 (fun W => W.cell? ⟨zz, 0, none⟩ = some (.pointer (some ⟨aa, 0, none⟩)) ∧ W.cell? ⟨zz, 1, none⟩ = some (.pointer (some ⟨xx, 0, none⟩)) ∧ W.cell? ⟨zz, 2, none⟩ = some (.pointer (some ⟨dd, 0, none⟩)) ∧ W.cell? ⟨zz, 3, none⟩ = some (.pointer (some ⟨yy, 0, none⟩))) (first | exact hS0 | exact hS1)
      (first | (go_at_call 23; (with_reducible refine C4.out.mono ?_); rintro e w6 ⟨rfl, h4⟩; have H4 := Lib.hid h4; have hS1 := h4.2.1.cells.1; clear h4))
    clear hS0 hS1 C4 HD H3
    obtain ⟨⟨k0, k1, k2, k3⟩, _, _⟩ := H4.out.2.1.cells
    have C5 := Lib.hid (show Calls Try.prog 25 #[.pointer (some ⟨aa, 0, none⟩), .int .i64 1] w6 (fun e w' => e = .returned (.int .i64 0) ∧ Wq w w' zz aa xx dd yy fC4 [⟨1, a0, false⟩] Ck.new [] 0) from Wq.to H4.out (q_abort H4.out.1 1 (by decide)))
    go_wp2_with fail
    (with_reducible refine C5.out.mono ?_)
    rintro e w7 ⟨rfl, h5⟩
    have H5 := Lib.hid h5
    clear h5 C5 k0 k1 k2 k3 H4
    obtain ⟨⟨k0, k1, k2, k3⟩, _, _⟩ := H5.out.2.1.cells
    have C6 := Lib.hid (show Calls Try.prog 26 #[.pointer (some ⟨xx, 0, none⟩), .int .i64 1] w7 (fun e w' => e = .returned (.tuple #[]) ∧ Wq w w' zz aa xx dd yy fC4 [] Ck.new [] 0) from Wq.to H5.out (q_undo H5.out.1 1 (show ∀ y ∈ ([] : List (Ver Int)), y.w ≠ 1 from fun y hy => by cases hy) (by simp)))
    go_wp2_with fail
    (with_reducible refine C6.out.mono ?_)
    rintro e w8 ⟨rfl, h6⟩
    have H6 := Lib.hid h6
    clear h6 C6 k0 k1 k2 k3 H5
    have HD := Lib.hid H6.out.drew
    have C7 := Lib.hid (show Calls Try.prog 23 #[.pointer (some ⟨xx, 0, none⟩), .pointer (some ⟨aa, 0, none⟩), .int .i64 2, .int .i64 a1, .bool false] w8.drew (fun e w' => e = .returned (.int .i64 0) ∧ Wq w w' zz aa xx dd yy fC4 [⟨2, a1, false⟩] Ck.new [] 0) from Wq.to HD.out (q_write HD.out.1 2 a1 false (by simp)))
    have hS0 := HD.out.2.1.cells.1
    go_wp2_with fail
    go_region_held3 (fun W => W.cell? ⟨zz, 0, none⟩ = some (.pointer (some ⟨aa, 0, none⟩)) ∧ W.cell? ⟨zz, 1, none⟩ = some (.pointer (some ⟨xx, 0, none⟩)) ∧ W.cell? ⟨zz, 2, none⟩ = some (.pointer (some ⟨dd, 0, none⟩)) ∧ W.cell? ⟨zz, 3, none⟩ = some (.pointer (some ⟨yy, 0, none⟩))) (first | exact hS0 | exact hS1)
      (first | (go_at_call 23; (with_reducible refine C7.out.mono ?_); rintro e w9 ⟨rfl, h7⟩; have H7 := Lib.hid h7; have hS1 := h7.2.1.cells.1; clear h7))
    clear hS0 hS1 C7 HD H6
    have HD := Lib.hid H7.out.drew
    have C8 := Lib.hid (show Calls Try.prog 16 #[.pointer (some ⟨xx, 0, none⟩), .pointer (some ⟨aa, 0, none⟩), .int .i64 2] w9.drew (fun e w' => e = .returned (.tuple #[.int .i64 a1, .bool true]) ∧ Wq w w' zz aa xx dd yy fC4 [⟨2, a1, false⟩] Ck.new [] 0) from Wq.to HD.out (q_read HD.out.1 2))
    have hS0 := HD.out.2.1.cells.1
    go_wp2_with fail
    go_region_held3 (fun W => W.cell? ⟨zz, 0, none⟩ = some (.pointer (some ⟨aa, 0, none⟩)) ∧ W.cell? ⟨zz, 1, none⟩ = some (.pointer (some ⟨xx, 0, none⟩)) ∧ W.cell? ⟨zz, 2, none⟩ = some (.pointer (some ⟨dd, 0, none⟩)) ∧ W.cell? ⟨zz, 3, none⟩ = some (.pointer (some ⟨yy, 0, none⟩))) (first | exact hS0 | exact hS1)
      (first | (go_at_call 16; (with_reducible refine C8.out.mono ?_); rintro e w10 ⟨rfl, h8⟩; have H8 := Lib.hid h8; have hS1 := h8.2.1.cells.1; clear h8))
    clear hS0 hS1 C8 HD H7
    go_wp2_with (go_at_call 14; (with_reducible refine (DK.out _).mono ?_); rintro e w90 ⟨rfl, hb9⟩; have H90 := Lib.hid (H8.out.below hb9); clear hb9)
    go_ret
    exact ⟨rfl, H90.out.1.all⟩
  · have HN := Lib.hid (begin7_any w)
    have DK := Lib.hid known7_any
    go_enter Try.func5, Try.ntmps5
    go_wp2_with fail
    (with_reducible refine HN.out.mono ?_)
    rintro e w1 ⟨zz, aa, xx, dd, yy, rfl, hwd⟩
    have H0 := Lib.hid hwd.wq
    clear hwd HN
    obtain ⟨⟨k0, k1, k2, k3⟩, _, _⟩ := H0.out.2.1.cells
    have C1 := Lib.hid (show Calls Try.prog 22 #[.pointer (some ⟨aa, 0, none⟩)] w1 (fun e w' => e = .returned (.tuple #[.int .i64 1, .int .i64 0]) ∧ Wq w w' zz aa xx dd yy fC1 [] Ck.new [] 0) from Wq.to H0.out (q_begin H0.out.1 (by decide)))
    go_wp2_with fail
    (with_reducible refine C1.out.mono ?_)
    rintro e w3 ⟨rfl, h1⟩
    have H1 := Lib.hid h1
    clear h1 C1 k0 k1 k2 k3 H0
    obtain ⟨⟨k0, k1, k2, k3⟩, _, _⟩ := H1.out.2.1.cells
    have C2 := Lib.hid (show Calls Try.prog 22 #[.pointer (some ⟨aa, 0, none⟩)] w3 (fun e w' => e = .returned (.tuple #[.int .i64 2, .int .i64 0]) ∧ Wq w w' zz aa xx dd yy fC2 [] Ck.new [] 0) from Wq.to H1.out (q_begin H1.out.1 (by decide)))
    go_wp2_with fail
    (with_reducible refine C2.out.mono ?_)
    rintro e w4 ⟨rfl, h2⟩
    have H2 := Lib.hid h2
    clear h2 C2 k0 k1 k2 k3 H1
    have HD := Lib.hid H2.out.drew
    have C3 := Lib.hid (show Calls Try.prog 23 #[.pointer (some ⟨xx, 0, none⟩), .pointer (some ⟨aa, 0, none⟩), .int .i64 1, .int .i64 a0, .bool false] w4.drew (fun e w' => e = .returned (.int .i64 0) ∧ Wq w w' zz aa xx dd yy fC2 [⟨1, a0, false⟩] Ck.new [] 0) from Wq.to HD.out (q_write HD.out.1 1 a0 false (by simp)))
    have hS0 := HD.out.2.1.cells.1
    go_wp2_with fail
    go_region_held3 (fun W => W.cell? ⟨zz, 0, none⟩ = some (.pointer (some ⟨aa, 0, none⟩)) ∧ W.cell? ⟨zz, 1, none⟩ = some (.pointer (some ⟨xx, 0, none⟩)) ∧ W.cell? ⟨zz, 2, none⟩ = some (.pointer (some ⟨dd, 0, none⟩)) ∧ W.cell? ⟨zz, 3, none⟩ = some (.pointer (some ⟨yy, 0, none⟩))) (first | exact hS0 | exact hS1)
      (first | (go_at_call 23; (with_reducible refine C3.out.mono ?_); rintro e w5 ⟨rfl, h3⟩; have H3 := Lib.hid h3; have hS1 := h3.2.1.cells.1; clear h3))
    clear hS0 hS1 C3 HD H2
    have HD := Lib.hid H3.out.drew
    have C4 := Lib.hid (show Calls Try.prog 23 #[.pointer (some ⟨xx, 0, none⟩), .pointer (some ⟨aa, 0, none⟩), .int .i64 2, .int .i64 a1, .bool false] w5.drew (fun e w' => e = .returned (.int .i64 6) ∧ Wq w w' zz aa xx dd yy fC2 [⟨1, a0, false⟩] Ck.new [] 0) from Wq.to HD.out (q_write HD.out.1 2 a1 false (by simp)))
    have hS0 := HD.out.2.1.cells.1
    go_wp2_with fail
    go_region_held3 (fun W => W.cell? ⟨zz, 0, none⟩ = some (.pointer (some ⟨aa, 0, none⟩)) ∧ W.cell? ⟨zz, 1, none⟩ = some (.pointer (some ⟨xx, 0, none⟩)) ∧ W.cell? ⟨zz, 2, none⟩ = some (.pointer (some ⟨dd, 0, none⟩)) ∧ W.cell? ⟨zz, 3, none⟩ = some (.pointer (some ⟨yy, 0, none⟩))) (first | exact hS0 | exact hS1)
      (first | (go_at_call 23; (with_reducible refine C4.out.mono ?_); rintro e w6 ⟨rfl, h4⟩; have H4 := Lib.hid h4; have hS1 := h4.2.1.cells.1; clear h4))
    clear hS0 hS1 C4 HD H3
    obtain ⟨⟨k0, k1, k2, k3⟩, _, _⟩ := H4.out.2.1.cells
    have C5 := Lib.hid (show Calls Try.prog 24 #[.pointer (some ⟨aa, 0, none⟩), .int .i64 1] w6 (fun e w' => e = .returned (.int .i64 0) ∧ Wq w w' zz aa xx dd yy fC3 [⟨1, a0, false⟩] Ck.new [] 0) from Wq.to H4.out (q_commit H4.out.1 1 (by decide) (by decide)))
    go_wp2_with fail
    (with_reducible refine C5.out.mono ?_)
    rintro e w7 ⟨rfl, h5⟩
    have H5 := Lib.hid h5
    clear h5 C5 k0 k1 k2 k3 H4
    have HD := Lib.hid H5.out.drew
    have C6 := Lib.hid (show Calls Try.prog 16 #[.pointer (some ⟨xx, 0, none⟩), .pointer (some ⟨aa, 0, none⟩), .int .i64 2] w7.drew (fun e w' => e = .returned (.tuple #[.int .i64 0, .bool false]) ∧ Wq w w' zz aa xx dd yy fC3 [⟨1, a0, false⟩] Ck.new [] 0) from Wq.to HD.out (q_read HD.out.1 2))
    have hS0 := HD.out.2.1.cells.1
    go_wp2_with fail
    go_region_held3 (fun W => W.cell? ⟨zz, 0, none⟩ = some (.pointer (some ⟨aa, 0, none⟩)) ∧ W.cell? ⟨zz, 1, none⟩ = some (.pointer (some ⟨xx, 0, none⟩)) ∧ W.cell? ⟨zz, 2, none⟩ = some (.pointer (some ⟨dd, 0, none⟩)) ∧ W.cell? ⟨zz, 3, none⟩ = some (.pointer (some ⟨yy, 0, none⟩))) (first | exact hS0 | exact hS1)
      (first | (go_at_call 16; (with_reducible refine C6.out.mono ?_); rintro e w8 ⟨rfl, h6⟩; have H6 := Lib.hid h6; have hS1 := h6.2.1.cells.1; clear h6))
    clear hS0 hS1 C6 HD H5
    have HD := Lib.hid H6.out.drew
    have CW := Lib.hid (show Calls Try.prog 23 #[.pointer (some ⟨xx, 0, none⟩), .pointer (some ⟨aa, 0, none⟩), .int .i64 2, .int .i64 a1, .bool false] w8.drew (fun e w' => e = .returned (.int .i64 6) ∧ Wq w w' zz aa xx dd yy fC3 [⟨1, a0, false⟩] Ck.new [] 0) from Wq.to HD.out (q_write HD.out.1 2 a1 false (by simp)))
    have hS0 := HD.out.2.1.cells.1
    go_wp2_with fail
    go_region_held3 (fun W => W.cell? ⟨zz, 0, none⟩ = some (.pointer (some ⟨aa, 0, none⟩)) ∧ W.cell? ⟨zz, 1, none⟩ = some (.pointer (some ⟨xx, 0, none⟩)) ∧ W.cell? ⟨zz, 2, none⟩ = some (.pointer (some ⟨dd, 0, none⟩)) ∧ W.cell? ⟨zz, 3, none⟩ = some (.pointer (some ⟨yy, 0, none⟩))) (first | exact hS0 | exact hS1 | exact hS2)
      (first
        | (go_at_call 23; (with_reducible refine CW.out.mono ?_); rintro e w80 ⟨rfl, h80⟩; have H80 := Lib.hid h80; have hS1 := h80.2.1.cells.1; clear h80)
        | (go_at_call 14; (with_reducible refine (DK.out _).mono ?_); rintro e w90 ⟨rfl, hb9⟩; have H90 := Lib.hid (H80.out.below hb9); have hS2 := H90.out.2.1.cells.1; clear hb9))
    clear hS0 hS1 hS2 CW HD
    go_wp2
    go_ret
    exact ⟨rfl, H90.out.1.all⟩

set_option maxRecDepth 100000 in
theorem lifted (os : Os) (started : os.Started) (H : Type) (enc : TypeId × Value → H) :
    ReturnsInHanded {} Try.checked os 5 .any (Rows.cellFirstSpec.pre6 enc Try.prog Try.f5 Rows.cellFirstRow.domain false) (Rows.cellFirstSpec.post enc Try.prog Try.f5 false true false false) := by
  refine returnsInHanded_of_change (C := Try.checked) own started (by kernel_rfl) Try.func5
    (ChangeSpec.witness6 (enc := enc) (C := Try.checked) false ⟨#[], #[.int .i64 0, .int .i64 0, .bool false], []⟩ 8 (by kernel_rfl) (by kernel_rfl) (by kernel_rfl) (by kernel_rfl)) ?_
  intro W base args ds gs before hval0 hW hcnd _
  have hval : ∀ (j : Nat) t v, Try.f5.params[j]? = some t → args[j]? = some v → Value.okWide Try.prog W .any base t v := hval0
  have hW' := hW
  obtain ⟨p, q, hA0, hV, rfl, hfz, hnd⟩ := hW
  have hA : DataW.TrodAll enc Try.prog W 0 (fun _ => true) true Try.f5.params.toList args.toList ds p := hA0
  rw [Try.params5] at hA hval
  obtain ⟨v0, vs0, d0, ds0, p0, q0, hargs, rfl, rfl, h0, r0⟩ := trodAll_cons hA
  obtain ⟨v1, vs1, d1, ds1, p1, q1, rfl, rfl, rfl, h1, r1⟩ := trodAll_cons r0
  obtain ⟨v2, vs2, d2, ds2, p2, q2, rfl, rfl, rfl, h2, r2⟩ := trodAll_cons r1
  obtain ⟨rfl, rfl, rfl⟩ := trodAll_nil r2
  obtain rfl : args = #[v0, v1, v2] := by cases args; simp_all
  obtain ⟨rfl, rfl⟩ := trodVars_none hV
  obtain ⟨a0, rfl, rfl, rfl, w0⟩ := open_int Try.underlying3 (hval 0 3 v0 rfl rfl) h0
  obtain ⟨a1, rfl, rfl, rfl, w1⟩ := open_int Try.underlying3 (hval 1 3 v1 rfl rfl) h1
  obtain ⟨a2, rfl, rfl, rfl⟩ := open_bool Try.underlying4 (hval 2 4 v2 rfl rfl) h2
  clear hA0 hval0
  refine (walk a0 a1 a2 W w0 w1).mono fun e W' ⟨he, bel⟩ => ?_
  subst he
  exact ⟨_, rfl, _, _, _, [], _, [], hW', trodAll_mk1 (shut_bool Try.underlying4 _), (trodAll_cons_mk (shut_int Try.underlying3 w0) (trodAll_cons_mk (shut_int Try.underlying3 w1) (trodAll_cons_mk (shut_bool Try.underlying4 _) trodAll_mk0))), rfl, bel.frame _, fun h => by cases h⟩

theorem over : Rows.cellFirstRow.holds Try.pinned (OpenSpec.ofChange Rows.cellFirstSpec) :=
  OpenClaim.holds_of_wide 5 Try.f5 rfl rfl rfl rfl rfl rfl rfl ⟨rfl, rfl, rfl, rfl, rfl⟩ rfl rfl rfl rfl rfl (by kernel_rfl) Try.func5 (by kernel_rfl)
    (of_decide_eq_true (by kernel_rfl)) (by unfold Func.isWrapper; first | (rw [if_pos (by decide +kernel)]; kernel_rfl) | (rw [if_neg (by decide +kernel)]; exact ⟨rfl, rfl⟩))
    (fun os started H enc _ => lifted os started H enc)

theorem proved : Rows.CellFirstSaid := over
#print axioms proved
end Go.Proofs.Ytpjjpjdamieeeaa.cellFirst
