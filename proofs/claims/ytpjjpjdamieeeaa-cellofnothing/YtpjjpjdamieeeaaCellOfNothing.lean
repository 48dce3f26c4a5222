/- Proved: ligaturelaw7.CellOfNothing returns true for every two ints. No condition. -/
import Derived.Test.YtpjjpjdamieeeaaRows
import Derived.Test.YtpjjpjdamieeeaaPj
import Derived.WalkKit
import Derived.ProofKit
import Derived.OpenShut
import Derived.ShutString
import Derived.ChangeOld
import Derived.Below
namespace Go.Proofs.Ytpjjpjdamieeeaa.cellOfNothing
set_option maxRecDepth 100000
open Go.ChangeShapes Go.WideShapes Go.ChangeAt Go.RowKit
open Go.ChangeMaps (open_string shut_string)
set_option linter.unusedVariables false
theorem own : ownKnob Try.prog.godebug = none := by kernel_rfl
theorem laidOut : laidOutB Try.prog = true := by kernel_rfl
theorem each_nil (w : World) (fn : Nat) (bs : Array Value) : Calls Try.prog 32 #[.pointer none, .func (.func fn) #[] bs] w fun e w' => e = .returned (.tuple #[]) ∧ w = w' := by
  go_enter Try.func32, Try.ntmps32
  go_wp2
  refine bodyPost_ret (results_none rfl _ _ _) rfl ?_
  exact ⟨rfl, rfl⟩

set_option maxHeartbeats 4000000 in
theorem walk (a0 : Int) (a1 : Int) (w : World) (w0 : (Lit.int .i64 a0).wf = true) (w1 : (Lit.int .i64 a1).wf = true) :
    Calls Try.prog 7 #[.int .i64 a0, .int .i64 a1] w fun e w' => e = .returned (.bool true) ∧ Below w.heap.size w w' := by
  have HN := Lib.hid (new_any w)
  go_enter Try.func7, Try.ntmps7
  go_upto_region 4 with (go_at_call 27; (with_reducible refine HN.out.mono ?_); rintro e w1 ⟨rfl, h1, hb1⟩; have HB1 := Lib.hid hb1; clear h1 hb1)
  have hbv := (Below.refl w1.heap.size w1).alloc (Nat.le_refl _) (.cells #[.int .i64 0] 3)
  have HBV := Lib.hid (HB1.out.trans (hbv.mono HB1.out.size))
  have HBK := Lib.hid (heap_alloc_new w1 (.cells #[.int .i64 0] 3))
  generalize w1.alloc (.cells #[.int .i64 0] 3) = V at *
  clear hbv HN
  have HS := Lib.hid (fun W (hW : Below V.heap.size V W) => show W.cell? ⟨w1.heap.size, 0, none⟩ = some (.int .i64 0) from box_at HBK.out hW 0)
  have D1 := Lib.hid (fun W => cundo_nil W a0)
  have D2 := Lib.hid (fun W => each_nil W 33 #[.pointer (some ⟨w1.heap.size, 0, none⟩)])
  have D3 := Lib.hid (fun W => cread_nil W (some ⟨w.heap.size, 0, none⟩) a0)
  have D4 := Lib.hid (fun W => cwrite_nil W (some ⟨w.heap.size, 0, none⟩) a0 a1 false)
  have D5 := Lib.hid (fun W => ccheck_nil W (.pointer (some ⟨w.heap.size, 0, none⟩)) a0)
  have D6 := Lib.hid (fun W => cspare_nil W (some ⟨w.heap.size, 0, none⟩))
  have D7 := Lib.hid (fun W => csweep_nil W (some ⟨w.heap.size, 0, none⟩))
  have D8 := Lib.hid clen_nil
  have D9 := Lib.hid known7_any
  go_upto_region 7 with (first
    | (go_at_call 26; (with_reducible refine (D1.out _).mono ?_); rintro e w2 ⟨rfl, hb2⟩; have H2 := Lib.hid hb2; clear hb2)
    | (go_at_call 32; (with_reducible refine (D2.out _).mono ?_); rintro e w3 ⟨rfl, rfl⟩)
    | (go_at_call 16; (with_reducible refine (D3.out _).mono ?_); rintro e w4 ⟨rfl, hb4⟩; have H4 := Lib.hid (H2.out.trans (hb4.mono H2.out.size)).drew; clear hb4))
  clear D1 D2 D3
  have hS0 := HS.out _ H4.out
  go_region_held3 (fun W => W.cell? ⟨w1.heap.size, 0, none⟩ = some (.int .i64 0)) (first | exact hS0 | exact hS6 | exact hS7 | exact hS9)
    (first
      | (go_at_call 23; (with_reducible refine (D4.out _).mono ?_); rintro e w5 ⟨rfl, rfl⟩)
      | (go_at_call 17; (with_reducible refine (D5.out _).mono ?_); rintro e w5 ⟨rfl, rfl⟩)
      | (go_at_call 20; (with_reducible refine (D6.out _).mono ?_); rintro e w6 ⟨rfl, hb6⟩; have H6 := Lib.hid (H4.out.trans (hb6.mono H4.out.size)); have hS6 := HS.out _ H6.out; clear hb6)
      | (go_at_call 19; (with_reducible refine (D7.out _).mono ?_); rintro e w7 ⟨rfl, hb7⟩; have H7 := Lib.hid (H6.out.trans (hb7.mono H6.out.size)); have hS7 := HS.out _ H7.out; clear hb7)
      | (go_at_call 18; (with_reducible refine (D8.out _).mono ?_); rintro e w8 ⟨rfl, rfl⟩)
      | (go_at_call 14; (with_reducible refine (D9.out _).mono ?_); rintro e w9 ⟨rfl, hb9⟩; have H9 := Lib.hid (H7.out.trans (hb9.mono H7.out.size)); have hS9 := HS.out _ H9.out; clear hb9))
  clear hS0 hS6 hS7 hS9
  go_wp2
  go_ret
  exact ⟨rfl, HBV.out.trans (H9.out.mono HBV.out.size)⟩

set_option maxRecDepth 100000 in
theorem lifted (os : Os) (started : os.Started) (H : Type) (enc : TypeId × Value → H) :
    ReturnsInHanded {} Try.checked os 7 .any (Rows.cellOfNothingSpec.pre6 enc Try.prog Try.f7 Rows.cellOfNothingRow.domain false) (Rows.cellOfNothingSpec.post enc Try.prog Try.f7 false true false false) := by
  refine returnsInHanded_of_change (C := Try.checked) own started (by kernel_rfl) Try.func7
    (ChangeSpec.witness6 (enc := enc) (C := Try.checked) false ⟨#[], #[.int .i64 0, .int .i64 0], []⟩ 8 (by kernel_rfl) (by kernel_rfl) (by kernel_rfl) (by kernel_rfl)) ?_
  intro W base args ds gs before hval0 hW hcnd _
  have hval : ∀ (j : Nat) t v, Try.f7.params[j]? = some t → args[j]? = some v → Value.okWide Try.prog W .any base t v := hval0
  have hW' := hW
  obtain ⟨p, q, hA0, hV, rfl, hfz, hnd⟩ := hW
  have hA : DataW.TrodAll enc Try.prog W 0 (fun _ => true) true Try.f7.params.toList args.toList ds p := hA0
  rw [Try.params7] at hA hval
  obtain ⟨v0, vs0, d0, ds0, p0, q0, hargs, rfl, rfl, h0, r0⟩ := trodAll_cons hA
  obtain ⟨v1, vs1, d1, ds1, p1, q1, rfl, rfl, rfl, h1, r1⟩ := trodAll_cons r0
  obtain ⟨rfl, rfl, rfl⟩ := trodAll_nil r1
  obtain rfl : args = #[v0, v1] := by cases args; simp_all
  obtain ⟨rfl, rfl⟩ := trodVars_none hV
  obtain ⟨a0, rfl, rfl, rfl, w0⟩ := open_int Try.underlying3 (hval 0 3 v0 rfl rfl) h0
  obtain ⟨a1, rfl, rfl, rfl, w1⟩ := open_int Try.underlying3 (hval 1 3 v1 rfl rfl) h1
  clear hA0 hval0
  refine (walk a0 a1 W w0 w1).mono fun e W' ⟨he, bel⟩ => ?_
  subst he
  exact ⟨_, rfl, _, _, _, [], _, [], hW', trodAll_mk1 (shut_bool Try.underlying4 _), (trodAll_cons_mk (shut_int Try.underlying3 w0) (trodAll_cons_mk (shut_int Try.underlying3 w1) trodAll_mk0)), rfl, bel.frame _, fun h => by cases h⟩

theorem over : Rows.cellOfNothingRow.holds Try.pinned (OpenSpec.ofChange Rows.cellOfNothingSpec) :=
  OpenClaim.holds_of_wide 7 Try.f7 rfl rfl rfl rfl rfl rfl rfl ⟨rfl, rfl, rfl, rfl, rfl⟩ rfl rfl rfl rfl rfl (by kernel_rfl) Try.func7 (by kernel_rfl)
    (of_decide_eq_true (by kernel_rfl)) (by unfold Func.isWrapper; first | (rw [if_pos (by decide +kernel)]; kernel_rfl) | (rw [if_neg (by decide +kernel)]; exact ⟨rfl, rfl⟩))
    (fun os started H enc _ => lifted os started H enc)

theorem proved : Rows.CellOfNothingSaid := over
#print axioms proved
end Go.Proofs.Ytpjjpjdamieeeaa.cellOfNothing
