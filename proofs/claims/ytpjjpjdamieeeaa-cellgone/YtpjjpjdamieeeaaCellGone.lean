/- Proved: ligaturelaw7.CellGone returns true for every two ints. No condition. -/
import Derived.Test.YtpjjpjdamieeeaaRows
import Derived.Test.YtpjjpjdamieeeaaPj
import Derived.WalkKit
import Derived.ProofKit
import Derived.OpenShut
import Derived.ShutString
import Derived.ChangeOld
import Derived.Below
namespace Go.Proofs.Ytpjjpjdamieeeaa.cellGone
set_option maxRecDepth 100000
open Go.ChangeShapes Go.WideShapes Go.ChangeAt Go.RowKit
open Go.ChangeMaps (open_string shut_string)
set_option linter.unusedVariables false
theorem own : ownKnob Try.prog.godebug = none := by kernel_rfl
theorem laidOut : laidOutB Try.prog = true := by kernel_rfl
def gC1 : Ck := Ck.new.beg
def gC2 : Ck := gC1.comS 1
def gC3 : Ck := gC2.beg
def gC4 : Ck := gC3.beg
def gC5 : Ck := gC4.comS 3
def gC6 : Ck := gC5.beg

set_option maxHeartbeats 4000000 in
theorem walk (a0 : Int) (a1 : Int) (w : World) (w0 : (Lit.int .i64 a0).wf = true) (w1 : (Lit.int .i64 a1).wf = true) :
    Calls Try.prog 9 #[.int .i64 a0, .int .i64 a1] w fun e w' => e = .returned (.bool true) ∧ Below w.heap.size w w' := by
  have HN := Lib.hid (new_any w)
  go_enter Try.func9, Try.ntmps9
  go_wp2_with fail
  (with_reducible refine HN.out.mono ?_)
  rintro e w1 ⟨rfl, h1, hb1⟩
  have HN2 := Lib.hid (cnew_any w1)
  have HP := Lib.hid h1
  have HB1 := Lib.hid hb1
  clear h1 hb1 HN
  go_wp2_with fail
  (with_reducible refine HN2.out.mono ?_)
  rintro e w2 ⟨rfl, h2, hb2⟩
  have H0 := Lib.hid (two_new (G := noG) (Below.refl w.heap.size w) HP.out HB1.out h2 hb2 (fun k hk => hk.elim))
  clear h2 hb2 HN2 HP HB1
  obtain ⟨aa, haa⟩ : ∃ aa, aa = w.heap.size := ⟨_, rfl⟩
  obtain ⟨xx, hxx⟩ : ∃ xx, xx = w1.heap.size := ⟨_, rfl⟩
  rw [← haa, ← hxx] at H0
  rw [← haa, ← hxx]
  clear haa hxx
  have C1 := Lib.hid (show Calls Try.prog 22 #[.pointer (some ⟨aa, 0, none⟩)] w2 (fun e w' => e = .returned (.tuple #[.int .i64 1, .int .i64 0]) ∧ Two noG w w' aa xx gC1 [] ∧ Keep noG w2 w') from two_begin H0.out (by decide))
  go_wp2_with fail
  (with_reducible refine C1.out.mono ?_)
  rintro e w3 ⟨rfl, h1, _⟩
  have H1 := Lib.hid h1
  clear h1 C1 H0
  have C2 := Lib.hid (show Calls Try.prog 23 #[.pointer (some ⟨xx, 0, none⟩), .pointer (some ⟨aa, 0, none⟩), .int .i64 1, .int .i64 a0, .bool false] w3 (fun e w' => e = .returned (.int .i64 0) ∧ Two noG w w' aa xx gC1 [⟨1, a0, false⟩] ∧ Keep noG w3 w') from two_write H1.out 1 a0 false (by simp))
  go_wp2_with fail
  (with_reducible refine C2.out.mono ?_)
  rintro e w4 ⟨rfl, h2, _⟩
  have H2 := Lib.hid h2
  clear h2 C2 H1
  have C3 := Lib.hid (show Calls Try.prog 24 #[.pointer (some ⟨aa, 0, none⟩), .int .i64 1] w4 (fun e w' => e = .returned (.int .i64 0) ∧ Two noG w w' aa xx gC2 [⟨1, a0, false⟩] ∧ Keep noG w4 w') from two_commit H2.out 1 (by decide) (by decide))
  go_wp2_with fail
  (with_reducible refine C3.out.mono ?_)
  rintro e w5 ⟨rfl, h3, _⟩
  have H3 := Lib.hid h3
  clear h3 C3 H2
  have C4 := Lib.hid (show Calls Try.prog 22 #[.pointer (some ⟨aa, 0, none⟩)] w5 (fun e w' => e = .returned (.tuple #[.int .i64 2, .int .i64 0]) ∧ Two noG w w' aa xx gC3 [⟨1, a0, false⟩] ∧ Keep noG w5 w') from two_begin H3.out (by decide))
  go_wp2_with fail
  (with_reducible refine C4.out.mono ?_)
  rintro e w6 ⟨rfl, h4, _⟩
  have H4 := Lib.hid h4
  clear h4 C4 H3
  have C5 := Lib.hid (show Calls Try.prog 22 #[.pointer (some ⟨aa, 0, none⟩)] w6 (fun e w' => e = .returned (.tuple #[.int .i64 3, .int .i64 0]) ∧ Two noG w w' aa xx gC4 [⟨1, a0, false⟩] ∧ Keep noG w6 w') from two_begin H4.out (by decide))
  go_wp2_with fail
  (with_reducible refine C5.out.mono ?_)
  rintro e w7 ⟨rfl, h5, _⟩
  have H5 := Lib.hid h5
  clear h5 C5 H4
  have C6 := Lib.hid (show Calls Try.prog 23 #[.pointer (some ⟨xx, 0, none⟩), .pointer (some ⟨aa, 0, none⟩), .int .i64 3, .int .i64 0, .bool true] w7 (fun e w' => e = .returned (.int .i64 0) ∧ Two noG w w' aa xx gC4 [⟨1, a0, false⟩, ⟨3, 0, true⟩] ∧ Keep noG w7 w') from two_write H5.out 3 0 true (by simp))
  go_wp2_with fail
  (with_reducible refine C6.out.mono ?_)
  rintro e w8 ⟨rfl, h6, _⟩
  have H6 := Lib.hid h6
  clear h6 C6 H5
  have C7 := Lib.hid (show Calls Try.prog 16 #[.pointer (some ⟨xx, 0, none⟩), .pointer (some ⟨aa, 0, none⟩), .int .i64 3] w8 (fun e w' => e = .returned (.tuple #[.int .i64 0, .bool false]) ∧ Two noG w w' aa xx gC4 [⟨1, a0, false⟩, ⟨3, 0, true⟩] ∧ Keep noG w8 w') from two_read H6.out 3)
  go_wp2_with fail
  (with_reducible refine C7.out.mono ?_)
  rintro e w9 ⟨rfl, h7, _⟩
  have H7 := Lib.hid h7
  clear h7 C7 H6
  have C8 := Lib.hid (show Calls Try.prog 24 #[.pointer (some ⟨aa, 0, none⟩), .int .i64 3] w9 (fun e w' => e = .returned (.int .i64 0) ∧ Two noG w w' aa xx gC5 [⟨1, a0, false⟩, ⟨3, 0, true⟩] ∧ Keep noG w9 w') from two_commit H7.out 3 (by decide) (by decide))
  go_wp2_with fail
  (with_reducible refine C8.out.mono ?_)
  rintro e w10 ⟨rfl, h8, _⟩
  have H8 := Lib.hid h8
  clear h8 C8 H7
  have C9 := Lib.hid (show Calls Try.prog 16 #[.pointer (some ⟨xx, 0, none⟩), .pointer (some ⟨aa, 0, none⟩), .int .i64 2] w10 (fun e w' => e = .returned (.tuple #[.int .i64 a0, .bool true]) ∧ Two noG w w' aa xx gC5 [⟨1, a0, false⟩, ⟨3, 0, true⟩] ∧ Keep noG w10 w') from two_read H8.out 2)
  go_wp2_with fail
  (with_reducible refine C9.out.mono ?_)
  rintro e w11 ⟨rfl, h9, _⟩
  have H9 := Lib.hid h9
  clear h9 C9 H8
  have C10 := Lib.hid (show Calls Try.prog 22 #[.pointer (some ⟨aa, 0, none⟩)] w11 (fun e w' => e = .returned (.tuple #[.int .i64 4, .int .i64 0]) ∧ Two noG w w' aa xx gC6 [⟨1, a0, false⟩, ⟨3, 0, true⟩] ∧ Keep noG w11 w') from two_begin H9.out (by decide))
  go_wp2_with fail
  (with_reducible refine C10.out.mono ?_)
  rintro e w12 ⟨rfl, h10, _⟩
  have H10 := Lib.hid h10
  clear h10 C10 H9
  have C11 := Lib.hid (show Calls Try.prog 16 #[.pointer (some ⟨xx, 0, none⟩), .pointer (some ⟨aa, 0, none⟩), .int .i64 4] w12 (fun e w' => e = .returned (.tuple #[.int .i64 0, .bool false]) ∧ Two noG w w' aa xx gC6 [⟨1, a0, false⟩, ⟨3, 0, true⟩] ∧ Keep noG w12 w') from two_read H10.out 4)
  go_wp2_with fail
  (with_reducible refine C11.out.mono ?_)
  rintro e w13 ⟨rfl, h11, _⟩
  have H11 := Lib.hid h11
  clear h11 C11 H10
  have C12 := Lib.hid (show Calls Try.prog 23 #[.pointer (some ⟨xx, 0, none⟩), .pointer (some ⟨aa, 0, none⟩), .int .i64 4, .int .i64 a1, .bool false] w13 (fun e w' => e = .returned (.int .i64 0) ∧ Two noG w w' aa xx gC6 [⟨1, a0, false⟩, ⟨3, 0, true⟩, ⟨4, a1, false⟩] ∧ Keep noG w13 w') from two_write H11.out 4 a1 false (by simp))
  go_wp2_with fail
  (with_reducible refine C12.out.mono ?_)
  rintro e w14 ⟨rfl, h12, _⟩
  have H12 := Lib.hid h12
  clear h12 C12 H11
  have C13 := Lib.hid (show Calls Try.prog 16 #[.pointer (some ⟨xx, 0, none⟩), .pointer (some ⟨aa, 0, none⟩), .int .i64 4] w14 (fun e w' => e = .returned (.tuple #[.int .i64 a1, .bool true]) ∧ Two noG w w' aa xx gC6 [⟨1, a0, false⟩, ⟨3, 0, true⟩, ⟨4, a1, false⟩] ∧ Keep noG w14 w') from two_read H12.out 4)
  go_wp2_with fail
  (with_reducible refine C13.out.mono ?_)
  rintro e w15 ⟨rfl, h13, _⟩
  have H13 := Lib.hid h13
  clear h13 C13 H12
  have C14 := Lib.hid (show Calls Try.prog 23 #[.pointer (some ⟨xx, 0, none⟩), .pointer (some ⟨aa, 0, none⟩), .int .i64 2, .int .i64 a1, .bool false] w15 (fun e w' => e = .returned (.int .i64 6) ∧ Two noG w w' aa xx gC6 [⟨1, a0, false⟩, ⟨3, 0, true⟩, ⟨4, a1, false⟩] ∧ Keep noG w15 w') from two_write H13.out 2 a1 false (by simp))
  go_wp2_with fail
  (with_reducible refine C14.out.mono ?_)
  rintro e w16 ⟨rfl, h14, _⟩
  have H14 := Lib.hid h14
  clear h14 C14 H13
  have CK := Lib.hid (known7_any w16)
  go_wp2_with (go_at_call 14; (with_reducible refine CK.out.mono ?_); rintro e w9 ⟨rfl, hb9⟩; have H9 := Lib.hid ((H14.out.below hb9).1); clear hb9)
  go_ret
  exact ⟨rfl, H9.out.all⟩

set_option maxRecDepth 100000 in
theorem lifted (os : Os) (started : os.Started) (H : Type) (enc : TypeId × Value → H) :
    ReturnsInHanded {} Try.checked os 9 .any (Rows.cellGoneSpec.pre6 enc Try.prog Try.f9 Rows.cellGoneRow.domain false) (Rows.cellGoneSpec.post enc Try.prog Try.f9 false true false false) := by
  refine returnsInHanded_of_change (C := Try.checked) own started (by kernel_rfl) Try.func9
    (ChangeSpec.witness6 (enc := enc) (C := Try.checked) false ⟨#[], #[.int .i64 0, .int .i64 0], []⟩ 8 (by kernel_rfl) (by kernel_rfl) (by kernel_rfl) (by kernel_rfl)) ?_
  intro W base args ds gs before hval0 hW hcnd _
  have hval : ∀ (j : Nat) t v, Try.f9.params[j]? = some t → args[j]? = some v → Value.okWide Try.prog W .any base t v := hval0
  have hW' := hW
  obtain ⟨p, q, hA0, hV, rfl, hfz, hnd⟩ := hW
  have hA : DataW.TrodAll enc Try.prog W 0 (fun _ => true) true Try.f9.params.toList args.toList ds p := hA0
  rw [Try.params9] at hA hval
  obtain ⟨v0, vs0, d0, ds0, p0, q0, hargs, rfl, rfl, h0, r0⟩ := trodAll_cons hA
  obtain ⟨v1, vs1, d1, ds1, p1, q1, rfl, rfl, rfl, h1, r1⟩ := trodAll_cons r0
  obtain ⟨rfl, rfl, rfl⟩ := trodAll_nil r1
  obtain rfl : args = #[v0, v1] := by cases args; simp_all
  obtain ⟨rfl, rfl⟩ := trodVars_none hV
  obtain ⟨a0, rfl, rfl, rfl, w0⟩ := open_int Try.underlying3 (hval 0 3 v0 rfl rfl) h0
  obtain ⟨a1, rfl, rfl, rfl, w1⟩ := open_int Try.underlying3 (hval 1 3 v1 rfl rfl) h1
  clear hA0 hval0
  refine (walk a0 a1 W w0 w1).mono fun e W' ⟨he, bel⟩ => ?_
  subst he
  exact ⟨_, rfl, _, _, _, [], _, [], hW', trodAll_mk1 (shut_bool Try.underlying4 _), (trodAll_cons_mk (shut_int Try.underlying3 w0) (trodAll_cons_mk (shut_int Try.underlying3 w1) trodAll_mk0)), rfl, bel.frame _, fun h => by cases h⟩

theorem over : Rows.cellGoneRow.holds Try.pinned (OpenSpec.ofChange Rows.cellGoneSpec) :=
  OpenClaim.holds_of_wide 9 Try.f9 rfl rfl rfl rfl rfl rfl rfl ⟨rfl, rfl, rfl, rfl, rfl⟩ rfl rfl rfl rfl rfl (by kernel_rfl) Try.func9 (by kernel_rfl)
    (of_decide_eq_true (by kernel_rfl)) (by unfold Func.isWrapper; first | (rw [if_pos (by decide +kernel)]; kernel_rfl) | (rw [if_neg (by decide +kernel)]; exact ⟨rfl, rfl⟩))
    (fun os started H enc _ => lifted os started H enc)

theorem proved : Rows.CellGoneSaid := over
#print axioms proved
end Go.Proofs.Ytpjjpjdamieeeaa.cellGone
