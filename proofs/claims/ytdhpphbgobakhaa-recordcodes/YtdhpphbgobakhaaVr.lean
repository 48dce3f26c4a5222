/- What the reference's Is of chapter 2 returns: a contract, for every value. Condition: a string is of a length that Go allows. -/
import Derived.Test.YtdhpphbgobakhaaVi
import Derived.Deep.DeepCutAuto
import Derived.Test.YtdhpphbgobakhaaMo
namespace Go.Proofs.Ytdhpphbgobakhaa
set_option maxRecDepth 100000
open Go.ChangeShapes Go.WideShapes Go.ChangeAt Go.RowKit
open Fl (S IR nanB normN keyN NaNw cmpK)
open Val (cmpI cmpB cmpT ltT eqT V cmpV byteOk textOk blankB oddB isB plainB)
set_option linter.unusedSimpArgs false
def Odd (x : V) (W : World) (s : Value) (wx : World) : Prop := s = .bool (oddB x) ∧ ∃ n, wx = W.drewN n
theorem sameB_ff {x y : Nat} (h : x ≠ y) : sameB x y = false := by simpa [sameB] using h
theorem sameB_tt {x y : Nat} (h : x = y) : sameB x y = true := by simpa [sameB] using h
theorem isB_odd {x : V} (h : oddB x = true) : isB x = false := by simp [isB, h]
theorem isB_even {x : V} (h : oddB x = false) : isB x = (textOk x.t.data.toList && decide (0 ≤ x.k) && decide (x.k ≤ 4) && decide (x.t.size ≤ 12)) := by simp [isB, h]
theorem drewN_below {B : Nat} {a w : World} (h : Below B a w) (n : Nat) : Below B a (w.drewN n) := ⟨h.os, h.tape, h.output, h.size, h.block⟩
set_option maxHeartbeats 1000000 in
set_option maxRecDepth 100000 in
theorem ris_0 (b : Bool) (n : Int) (f : Nat) (t : ByteArray) (ht : t.size ≤ maxLen) (w : World) : Calls Try.prog 88 #[vv ⟨0, b, n, f, t⟩] w fun e w' => e = .returned (.bool (isB ⟨0, b, n, f, t⟩)) ∧ Below w.heap.size w w' := by
  unfold maxLen at ht
  go_enter Try.func88, Try.ntmps88
  go_upto_region 1 with fail
  go_cut [50] (fun s wx => Odd ⟨0, b, n, f, t⟩ (w.alloc (Obj.cells #[Value.int IntKind.i64 0, Value.bool b, Value.int IntKind.i64 n, Value.float FloatKind.f64 f, Value.string t] 47)) s wx)
  case first =>
    cases b
    · skip
      by_cases hn : n = 0
      · subst hn
        by_cases hf : f = 0
        · subst hf
          have hs : sameB 0 0 = true := rfl
          by_cases hz : t.size = 0
          · have hz1 : t.toList.isEmpty = true := by rw [isEmpty_size]; simpa using hz
            have hs2 : sameB 0 (normN 0) = true := by rw [Val.normN_zero]; rfl
            have He := Lib.hid (show oddB ⟨0, false, 0, 0, t⟩ = false by simp [oddB, bne, Val.normN_zero, hz])
            go_quiet (first | (go_at_call 87; exact quiet_eq (same_any _ _ _)) | (go_at_call 72; exact quiet_eq (rnorm_any _ _)))
            go_wp2_with fail
            go_meet
            exact ⟨by rw [He.out], nq, rfl⟩
          · have hz1 : t.toList.isEmpty = false := by rw [isEmpty_size]; simpa using hz
            have He := Lib.hid (show oddB ⟨0, false, 0, 0, t⟩ = true by simp [oddB, bne, Val.normN_zero, hz])
            go_quiet (first | (go_at_call 87; exact quiet_eq (same_any _ _ _)) | (go_at_call 72; exact quiet_eq (rnorm_any _ _)))
            go_wp2_with fail
            go_meet
            exact ⟨by rw [He.out], nq, rfl⟩
        · have hs := sameB_ff hf
          have He := Lib.hid (show oddB ⟨0, false, 0, f, t⟩ = true by simp [oddB, bne, Val.normN_zero, hf])
          go_quiet (first | (go_at_call 87; exact quiet_eq (same_any _ _ _)) | (go_at_call 72; exact quiet_eq (rnorm_any _ _)))
          go_wp2_with fail
          go_meet
          exact ⟨by rw [He.out], nq, rfl⟩
      · have hn1 : (n != 0) = true := by simpa using hn
        have He := Lib.hid (show oddB ⟨0, false, n, f, t⟩ = true by simp [oddB, bne, Val.normN_zero, hn])
        go_quiet (first | (go_at_call 87; exact quiet_eq (same_any _ _ _)) | (go_at_call 72; exact quiet_eq (rnorm_any _ _)))
        go_wp2_with fail
        go_meet
        exact ⟨by rw [He.out], nq, rfl⟩
    · skip
      have He := Lib.hid (show oddB ⟨0, true, n, f, t⟩ = true by simp [oddB, bne, Val.normN_zero])
      go_quiet (first | (go_at_call 87; exact quiet_eq (same_any _ _ _)) | (go_at_call 72; exact quiet_eq (rnorm_any _ _)))
      go_wp2_with fail
      go_meet
      exact ⟨by rw [He.out], nq, rfl⟩
  case rest =>
    obtain ⟨rfl, m, rfl⟩ := hcut
    cases ho : oddB ⟨0, b, n, f, t⟩
    · have HI := Lib.hid (isB_even ho)
      go_wp2
      go_loop [3] (fun i => ∃ q : Nat, q ≤ t.size ∧ i = .int .i64 q ∧ textOk (t.data.toList.take q) = true) (fun i => t.size - (intOf i).toNat)
      case atStart => exact ⟨0, Nat.zero_le _, rfl, rfl⟩
      case round =>
        obtain ⟨q, hq, rfl, htk⟩ := hrel
        have Ht := Lib.hid htk
        clear htk
        by_cases hlt : q < t.size
        · have hl : q < t.data.toList.length := by rw [Val.size_data]; exact hlt
          have HS := Lib.hid (Val.textOk_take t.data.toList q hl)
          by_cases g1 : 32 ≤ t[q].toNat
          · by_cases g2 : t[q].toNat ≤ 126
            · have HB := Lib.hid (show byteOk (t.data.toList[q]'hl) = true by rw [byte_at t q hlt]; simp [byteOk, g1, g2])
              go_wp2
              go_round
              case rel => exact ⟨q + 1, by omega, by go_num, by rw [HS.out, Ht.out, HB.out]; rfl⟩
              case measure => simp [intOf]; omega
            · have HB := Lib.hid (show byteOk (t.data.toList[q]'hl) = false by rw [byte_at t q hlt]; simp [byteOk, g1, g2])
              have HF := Lib.hid (Val.textOk_bad _ q hl HB.out)
              go_wp2
              go_ret
              exact ⟨ret_b (by rw [HI.out]; simp [HF.out]), drewN_below (one_box _ _) m⟩
          · have HB := Lib.hid (show byteOk (t.data.toList[q]'hl) = false by rw [byte_at t q hlt]; simp [byteOk, g1])
            have HF := Lib.hid (Val.textOk_bad _ q hl HB.out)
            go_wp2
            go_ret
            exact ⟨ret_b (by rw [HI.out]; simp [HF.out]), drewN_below (one_box _ _) m⟩
        · have HE := Lib.hid (show textOk t.data.toList = true by rw [← List.take_of_length_le (l := t.data.toList) (i := q) (by rw [Val.size_data]; omega)]; exact Ht.out)
          by_cases h12 : t.size ≤ 12
          · go_wp2
            go_ret
            exact ⟨ret_b (by rw [HI.out]; simp [HE.out, h12]; omega), drewN_below (one_box _ _) m⟩
          · go_wp2
            go_ret
            exact ⟨ret_b (by rw [HI.out]; simp [HE.out, h12]; omega), drewN_below (one_box _ _) m⟩
    · have HI := Lib.hid (isB_odd ho)
      go_wp2
      go_ret
      exact ⟨ret_b HI.out.symm, drewN_below (one_box _ _) m⟩
set_option maxHeartbeats 1000000 in
set_option maxRecDepth 100000 in
theorem ris_1 (b : Bool) (n : Int) (f : Nat) (t : ByteArray) (ht : t.size ≤ maxLen) (w : World) : Calls Try.prog 88 #[vv ⟨1, b, n, f, t⟩] w fun e w' => e = .returned (.bool (isB ⟨1, b, n, f, t⟩)) ∧ Below w.heap.size w w' := by
  unfold maxLen at ht
  go_enter Try.func88, Try.ntmps88
  go_upto_region 1 with fail
  go_cut [50] (fun s wx => Odd ⟨1, b, n, f, t⟩ (w.alloc (Obj.cells #[Value.int IntKind.i64 1, Value.bool b, Value.int IntKind.i64 n, Value.float FloatKind.f64 f, Value.string t] 47)) s wx)
  case first =>
    by_cases hn : n = 0
    · subst hn
      by_cases hf : f = 0
      · subst hf
        have hs : sameB 0 0 = true := rfl
        by_cases hz : t.size = 0
        · have hz1 : t.toList.isEmpty = true := by rw [isEmpty_size]; simpa using hz
          have hs2 : sameB 0 (normN 0) = true := by rw [Val.normN_zero]; rfl
          have He := Lib.hid (show oddB ⟨1, b, 0, 0, t⟩ = false by simp [oddB, bne, Val.normN_zero, hz])
          go_quiet (first | (go_at_call 87; exact quiet_eq (same_any _ _ _)) | (go_at_call 72; exact quiet_eq (rnorm_any _ _)))
          go_wp2_with fail
          go_meet
          exact ⟨by rw [He.out], nq, rfl⟩
        · have hz1 : t.toList.isEmpty = false := by rw [isEmpty_size]; simpa using hz
          have He := Lib.hid (show oddB ⟨1, b, 0, 0, t⟩ = true by simp [oddB, bne, Val.normN_zero, hz])
          go_quiet (first | (go_at_call 87; exact quiet_eq (same_any _ _ _)) | (go_at_call 72; exact quiet_eq (rnorm_any _ _)))
          go_wp2_with fail
          go_meet
          exact ⟨by rw [He.out], nq, rfl⟩
      · have hs := sameB_ff hf
        have He := Lib.hid (show oddB ⟨1, b, 0, f, t⟩ = true by simp [oddB, bne, Val.normN_zero, hf])
        go_quiet (first | (go_at_call 87; exact quiet_eq (same_any _ _ _)) | (go_at_call 72; exact quiet_eq (rnorm_any _ _)))
        go_wp2_with fail
        go_meet
        exact ⟨by rw [He.out], nq, rfl⟩
    · have hn1 : (n != 0) = true := by simpa using hn
      have He := Lib.hid (show oddB ⟨1, b, n, f, t⟩ = true by simp [oddB, bne, Val.normN_zero, hn])
      go_quiet (first | (go_at_call 87; exact quiet_eq (same_any _ _ _)) | (go_at_call 72; exact quiet_eq (rnorm_any _ _)))
      go_wp2_with fail
      go_meet
      exact ⟨by rw [He.out], nq, rfl⟩
  case rest =>
    obtain ⟨rfl, m, rfl⟩ := hcut
    cases ho : oddB ⟨1, b, n, f, t⟩
    · have HI := Lib.hid (isB_even ho)
      go_wp2
      go_loop [3] (fun i => ∃ q : Nat, q ≤ t.size ∧ i = .int .i64 q ∧ textOk (t.data.toList.take q) = true) (fun i => t.size - (intOf i).toNat)
      case atStart => exact ⟨0, Nat.zero_le _, rfl, rfl⟩
      case round =>
        obtain ⟨q, hq, rfl, htk⟩ := hrel
        have Ht := Lib.hid htk
        clear htk
        by_cases hlt : q < t.size
        · have hl : q < t.data.toList.length := by rw [Val.size_data]; exact hlt
          have HS := Lib.hid (Val.textOk_take t.data.toList q hl)
          by_cases g1 : 32 ≤ t[q].toNat
          · by_cases g2 : t[q].toNat ≤ 126
            · have HB := Lib.hid (show byteOk (t.data.toList[q]'hl) = true by rw [byte_at t q hlt]; simp [byteOk, g1, g2])
              go_wp2
              go_round
              case rel => exact ⟨q + 1, by omega, by go_num, by rw [HS.out, Ht.out, HB.out]; rfl⟩
              case measure => simp [intOf]; omega
            · have HB := Lib.hid (show byteOk (t.data.toList[q]'hl) = false by rw [byte_at t q hlt]; simp [byteOk, g1, g2])
              have HF := Lib.hid (Val.textOk_bad _ q hl HB.out)
              go_wp2
              go_ret
              exact ⟨ret_b (by rw [HI.out]; simp [HF.out]), drewN_below (one_box _ _) m⟩
          · have HB := Lib.hid (show byteOk (t.data.toList[q]'hl) = false by rw [byte_at t q hlt]; simp [byteOk, g1])
            have HF := Lib.hid (Val.textOk_bad _ q hl HB.out)
            go_wp2
            go_ret
            exact ⟨ret_b (by rw [HI.out]; simp [HF.out]), drewN_below (one_box _ _) m⟩
        · have HE := Lib.hid (show textOk t.data.toList = true by rw [← List.take_of_length_le (l := t.data.toList) (i := q) (by rw [Val.size_data]; omega)]; exact Ht.out)
          by_cases h12 : t.size ≤ 12
          · go_wp2
            go_ret
            exact ⟨ret_b (by rw [HI.out]; simp [HE.out, h12]; omega), drewN_below (one_box _ _) m⟩
          · go_wp2
            go_ret
            exact ⟨ret_b (by rw [HI.out]; simp [HE.out, h12]; omega), drewN_below (one_box _ _) m⟩
    · have HI := Lib.hid (isB_odd ho)
      go_wp2
      go_ret
      exact ⟨ret_b HI.out.symm, drewN_below (one_box _ _) m⟩
set_option maxHeartbeats 1000000 in
set_option maxRecDepth 100000 in
theorem ris_2 (b : Bool) (n : Int) (f : Nat) (t : ByteArray) (ht : t.size ≤ maxLen) (w : World) : Calls Try.prog 88 #[vv ⟨2, b, n, f, t⟩] w fun e w' => e = .returned (.bool (isB ⟨2, b, n, f, t⟩)) ∧ Below w.heap.size w w' := by
  unfold maxLen at ht
  go_enter Try.func88, Try.ntmps88
  go_upto_region 1 with fail
  go_cut [50] (fun s wx => Odd ⟨2, b, n, f, t⟩ (w.alloc (Obj.cells #[Value.int IntKind.i64 2, Value.bool b, Value.int IntKind.i64 n, Value.float FloatKind.f64 f, Value.string t] 47)) s wx)
  case first =>
    cases b
    · skip
      by_cases hf : f = 0
      · subst hf
        have hs : sameB 0 0 = true := rfl
        by_cases hz : t.size = 0
        · have hz1 : t.toList.isEmpty = true := by rw [isEmpty_size]; simpa using hz
          have hs2 : sameB 0 (normN 0) = true := by rw [Val.normN_zero]; rfl
          have He := Lib.hid (show oddB ⟨2, false, n, 0, t⟩ = false by simp [oddB, bne, Val.normN_zero, hz])
          go_quiet (first | (go_at_call 87; exact quiet_eq (same_any _ _ _)) | (go_at_call 72; exact quiet_eq (rnorm_any _ _)))
          go_wp2_with fail
          go_meet
          exact ⟨by rw [He.out], nq, rfl⟩
        · have hz1 : t.toList.isEmpty = false := by rw [isEmpty_size]; simpa using hz
          have He := Lib.hid (show oddB ⟨2, false, n, 0, t⟩ = true by simp [oddB, bne, Val.normN_zero, hz])
          go_quiet (first | (go_at_call 87; exact quiet_eq (same_any _ _ _)) | (go_at_call 72; exact quiet_eq (rnorm_any _ _)))
          go_wp2_with fail
          go_meet
          exact ⟨by rw [He.out], nq, rfl⟩
      · have hs := sameB_ff hf
        have He := Lib.hid (show oddB ⟨2, false, n, f, t⟩ = true by simp [oddB, bne, Val.normN_zero, hf])
        go_quiet (first | (go_at_call 87; exact quiet_eq (same_any _ _ _)) | (go_at_call 72; exact quiet_eq (rnorm_any _ _)))
        go_wp2_with fail
        go_meet
        exact ⟨by rw [He.out], nq, rfl⟩
    · skip
      have He := Lib.hid (show oddB ⟨2, true, n, f, t⟩ = true by simp [oddB, bne, Val.normN_zero])
      go_quiet (first | (go_at_call 87; exact quiet_eq (same_any _ _ _)) | (go_at_call 72; exact quiet_eq (rnorm_any _ _)))
      go_wp2_with fail
      go_meet
      exact ⟨by rw [He.out], nq, rfl⟩
  case rest =>
    obtain ⟨rfl, m, rfl⟩ := hcut
    cases ho : oddB ⟨2, b, n, f, t⟩
    · have HI := Lib.hid (isB_even ho)
      go_wp2
      go_loop [3] (fun i => ∃ q : Nat, q ≤ t.size ∧ i = .int .i64 q ∧ textOk (t.data.toList.take q) = true) (fun i => t.size - (intOf i).toNat)
      case atStart => exact ⟨0, Nat.zero_le _, rfl, rfl⟩
      case round =>
        obtain ⟨q, hq, rfl, htk⟩ := hrel
        have Ht := Lib.hid htk
        clear htk
        by_cases hlt : q < t.size
        · have hl : q < t.data.toList.length := by rw [Val.size_data]; exact hlt
          have HS := Lib.hid (Val.textOk_take t.data.toList q hl)
          by_cases g1 : 32 ≤ t[q].toNat
          · by_cases g2 : t[q].toNat ≤ 126
            · have HB := Lib.hid (show byteOk (t.data.toList[q]'hl) = true by rw [byte_at t q hlt]; simp [byteOk, g1, g2])
              go_wp2
              go_round
              case rel => exact ⟨q + 1, by omega, by go_num, by rw [HS.out, Ht.out, HB.out]; rfl⟩
              case measure => simp [intOf]; omega
            · have HB := Lib.hid (show byteOk (t.data.toList[q]'hl) = false by rw [byte_at t q hlt]; simp [byteOk, g1, g2])
              have HF := Lib.hid (Val.textOk_bad _ q hl HB.out)
              go_wp2
              go_ret
              exact ⟨ret_b (by rw [HI.out]; simp [HF.out]), drewN_below (one_box _ _) m⟩
          · have HB := Lib.hid (show byteOk (t.data.toList[q]'hl) = false by rw [byte_at t q hlt]; simp [byteOk, g1])
            have HF := Lib.hid (Val.textOk_bad _ q hl HB.out)
            go_wp2
            go_ret
            exact ⟨ret_b (by rw [HI.out]; simp [HF.out]), drewN_below (one_box _ _) m⟩
        · have HE := Lib.hid (show textOk t.data.toList = true by rw [← List.take_of_length_le (l := t.data.toList) (i := q) (by rw [Val.size_data]; omega)]; exact Ht.out)
          by_cases h12 : t.size ≤ 12
          · go_wp2
            go_ret
            exact ⟨ret_b (by rw [HI.out]; simp [HE.out, h12]; omega), drewN_below (one_box _ _) m⟩
          · go_wp2
            go_ret
            exact ⟨ret_b (by rw [HI.out]; simp [HE.out, h12]; omega), drewN_below (one_box _ _) m⟩
    · have HI := Lib.hid (isB_odd ho)
      go_wp2
      go_ret
      exact ⟨ret_b HI.out.symm, drewN_below (one_box _ _) m⟩
set_option maxHeartbeats 1000000 in
set_option maxRecDepth 100000 in
theorem ris_3 (b : Bool) (n : Int) (f : Nat) (t : ByteArray) (ht : t.size ≤ maxLen) (w : World) : Calls Try.prog 88 #[vv ⟨3, b, n, f, t⟩] w fun e w' => e = .returned (.bool (isB ⟨3, b, n, f, t⟩)) ∧ Below w.heap.size w w' := by
  unfold maxLen at ht
  go_enter Try.func88, Try.ntmps88
  go_upto_region 1 with fail
  go_cut [50] (fun s wx => Odd ⟨3, b, n, f, t⟩ (w.alloc (Obj.cells #[Value.int IntKind.i64 3, Value.bool b, Value.int IntKind.i64 n, Value.float FloatKind.f64 f, Value.string t] 47)) s wx)
  case first =>
    cases b
    · skip
      by_cases hn : n = 0
      · subst hn
        by_cases hz : t.size = 0
        · have hz1 : t.toList.isEmpty = true := by rw [isEmpty_size]; simpa using hz
          by_cases hg : normN f = f
          · have hs2 := sameB_tt hg.symm
            have Hg := Lib.hid hg
            have He := Lib.hid (show oddB ⟨3, false, 0, f, t⟩ = false by simp [oddB, bne, hg, hz])
            clear hg
            go_quiet (first | (go_at_call 87; exact quiet_eq (same_any _ _ _)) | (go_at_call 72; exact quiet_eq (rnorm_any _ _)))
            go_wp2_with fail
            go_meet
            exact ⟨by rw [He.out], nq, rfl⟩
          · have hs2 := sameB_ff (Ne.symm hg)
            have He := Lib.hid (show oddB ⟨3, false, 0, f, t⟩ = true by simp [oddB, bne, Val.normN_zero, hz, hg])
            go_quiet (first | (go_at_call 87; exact quiet_eq (same_any _ _ _)) | (go_at_call 72; exact quiet_eq (rnorm_any _ _)))
            go_wp2_with fail
            go_meet
            exact ⟨by rw [He.out], nq, rfl⟩
        · have hz1 : t.toList.isEmpty = false := by rw [isEmpty_size]; simpa using hz
          have He := Lib.hid (show oddB ⟨3, false, 0, f, t⟩ = true by simp [oddB, bne, Val.normN_zero, hz])
          go_quiet (first | (go_at_call 87; exact quiet_eq (same_any _ _ _)) | (go_at_call 72; exact quiet_eq (rnorm_any _ _)))
          go_wp2_with fail
          go_meet
          exact ⟨by rw [He.out], nq, rfl⟩
      · have hn1 : (n != 0) = true := by simpa using hn
        have He := Lib.hid (show oddB ⟨3, false, n, f, t⟩ = true by simp [oddB, bne, Val.normN_zero, hn])
        go_quiet (first | (go_at_call 87; exact quiet_eq (same_any _ _ _)) | (go_at_call 72; exact quiet_eq (rnorm_any _ _)))
        go_wp2_with fail
        go_meet
        exact ⟨by rw [He.out], nq, rfl⟩
    · skip
      have He := Lib.hid (show oddB ⟨3, true, n, f, t⟩ = true by simp [oddB, bne, Val.normN_zero])
      go_quiet (first | (go_at_call 87; exact quiet_eq (same_any _ _ _)) | (go_at_call 72; exact quiet_eq (rnorm_any _ _)))
      go_wp2_with fail
      go_meet
      exact ⟨by rw [He.out], nq, rfl⟩
  case rest =>
    obtain ⟨rfl, m, rfl⟩ := hcut
    cases ho : oddB ⟨3, b, n, f, t⟩
    · have HI := Lib.hid (isB_even ho)
      go_wp2
      go_loop [3] (fun i => ∃ q : Nat, q ≤ t.size ∧ i = .int .i64 q ∧ textOk (t.data.toList.take q) = true) (fun i => t.size - (intOf i).toNat)
      case atStart => exact ⟨0, Nat.zero_le _, rfl, rfl⟩
      case round =>
        obtain ⟨q, hq, rfl, htk⟩ := hrel
        have Ht := Lib.hid htk
        clear htk
        by_cases hlt : q < t.size
        · have hl : q < t.data.toList.length := by rw [Val.size_data]; exact hlt
          have HS := Lib.hid (Val.textOk_take t.data.toList q hl)
          by_cases g1 : 32 ≤ t[q].toNat
          · by_cases g2 : t[q].toNat ≤ 126
            · have HB := Lib.hid (show byteOk (t.data.toList[q]'hl) = true by rw [byte_at t q hlt]; simp [byteOk, g1, g2])
              go_wp2
              go_round
              case rel => exact ⟨q + 1, by omega, by go_num, by rw [HS.out, Ht.out, HB.out]; rfl⟩
              case measure => simp [intOf]; omega
            · have HB := Lib.hid (show byteOk (t.data.toList[q]'hl) = false by rw [byte_at t q hlt]; simp [byteOk, g1, g2])
              have HF := Lib.hid (Val.textOk_bad _ q hl HB.out)
              go_wp2
              go_ret
              exact ⟨ret_b (by rw [HI.out]; simp [HF.out]), drewN_below (one_box _ _) m⟩
          · have HB := Lib.hid (show byteOk (t.data.toList[q]'hl) = false by rw [byte_at t q hlt]; simp [byteOk, g1])
            have HF := Lib.hid (Val.textOk_bad _ q hl HB.out)
            go_wp2
            go_ret
            exact ⟨ret_b (by rw [HI.out]; simp [HF.out]), drewN_below (one_box _ _) m⟩
        · have HE := Lib.hid (show textOk t.data.toList = true by rw [← List.take_of_length_le (l := t.data.toList) (i := q) (by rw [Val.size_data]; omega)]; exact Ht.out)
          by_cases h12 : t.size ≤ 12
          · go_wp2
            go_ret
            exact ⟨ret_b (by rw [HI.out]; simp [HE.out, h12]; omega), drewN_below (one_box _ _) m⟩
          · go_wp2
            go_ret
            exact ⟨ret_b (by rw [HI.out]; simp [HE.out, h12]; omega), drewN_below (one_box _ _) m⟩
    · have HI := Lib.hid (isB_odd ho)
      go_wp2
      go_ret
      exact ⟨ret_b HI.out.symm, drewN_below (one_box _ _) m⟩
set_option maxHeartbeats 1000000 in
set_option maxRecDepth 100000 in
theorem ris_4 (b : Bool) (n : Int) (f : Nat) (t : ByteArray) (ht : t.size ≤ maxLen) (w : World) : Calls Try.prog 88 #[vv ⟨4, b, n, f, t⟩] w fun e w' => e = .returned (.bool (isB ⟨4, b, n, f, t⟩)) ∧ Below w.heap.size w w' := by
  unfold maxLen at ht
  go_enter Try.func88, Try.ntmps88
  go_upto_region 1 with fail
  go_cut [50] (fun s wx => Odd ⟨4, b, n, f, t⟩ (w.alloc (Obj.cells #[Value.int IntKind.i64 4, Value.bool b, Value.int IntKind.i64 n, Value.float FloatKind.f64 f, Value.string t] 47)) s wx)
  case first =>
    cases b
    · skip
      by_cases hn : n = 0
      · subst hn
        by_cases hf : f = 0
        · subst hf
          have hs : sameB 0 0 = true := rfl
          have hs2 : sameB 0 (normN 0) = true := by rw [Val.normN_zero]; rfl
          have He := Lib.hid (show oddB ⟨4, false, 0, 0, t⟩ = false by simp [oddB, bne, Val.normN_zero])
          go_quiet (first | (go_at_call 87; exact quiet_eq (same_any _ _ _)) | (go_at_call 72; exact quiet_eq (rnorm_any _ _)))
          go_wp2_with fail
          go_meet
          exact ⟨by rw [He.out], nq, rfl⟩
        · have hs := sameB_ff hf
          have He := Lib.hid (show oddB ⟨4, false, 0, f, t⟩ = true by simp [oddB, bne, Val.normN_zero, hf])
          go_quiet (first | (go_at_call 87; exact quiet_eq (same_any _ _ _)) | (go_at_call 72; exact quiet_eq (rnorm_any _ _)))
          go_wp2_with fail
          go_meet
          exact ⟨by rw [He.out], nq, rfl⟩
      · have hn1 : (n != 0) = true := by simpa using hn
        have He := Lib.hid (show oddB ⟨4, false, n, f, t⟩ = true by simp [oddB, bne, Val.normN_zero, hn])
        go_quiet (first | (go_at_call 87; exact quiet_eq (same_any _ _ _)) | (go_at_call 72; exact quiet_eq (rnorm_any _ _)))
        go_wp2_with fail
        go_meet
        exact ⟨by rw [He.out], nq, rfl⟩
    · skip
      have He := Lib.hid (show oddB ⟨4, true, n, f, t⟩ = true by simp [oddB, bne, Val.normN_zero])
      go_quiet (first | (go_at_call 87; exact quiet_eq (same_any _ _ _)) | (go_at_call 72; exact quiet_eq (rnorm_any _ _)))
      go_wp2_with fail
      go_meet
      exact ⟨by rw [He.out], nq, rfl⟩
  case rest =>
    obtain ⟨rfl, m, rfl⟩ := hcut
    cases ho : oddB ⟨4, b, n, f, t⟩
    · have HI := Lib.hid (isB_even ho)
      go_wp2
      go_loop [3] (fun i => ∃ q : Nat, q ≤ t.size ∧ i = .int .i64 q ∧ textOk (t.data.toList.take q) = true) (fun i => t.size - (intOf i).toNat)
      case atStart => exact ⟨0, Nat.zero_le _, rfl, rfl⟩
      case round =>
        obtain ⟨q, hq, rfl, htk⟩ := hrel
        have Ht := Lib.hid htk
        clear htk
        by_cases hlt : q < t.size
        · have hl : q < t.data.toList.length := by rw [Val.size_data]; exact hlt
          have HS := Lib.hid (Val.textOk_take t.data.toList q hl)
          by_cases g1 : 32 ≤ t[q].toNat
          · by_cases g2 : t[q].toNat ≤ 126
            · have HB := Lib.hid (show byteOk (t.data.toList[q]'hl) = true by rw [byte_at t q hlt]; simp [byteOk, g1, g2])
              go_wp2
              go_round
              case rel => exact ⟨q + 1, by omega, by go_num, by rw [HS.out, Ht.out, HB.out]; rfl⟩
              case measure => simp [intOf]; omega
            · have HB := Lib.hid (show byteOk (t.data.toList[q]'hl) = false by rw [byte_at t q hlt]; simp [byteOk, g1, g2])
              have HF := Lib.hid (Val.textOk_bad _ q hl HB.out)
              go_wp2
              go_ret
              exact ⟨ret_b (by rw [HI.out]; simp [HF.out]), drewN_below (one_box _ _) m⟩
          · have HB := Lib.hid (show byteOk (t.data.toList[q]'hl) = false by rw [byte_at t q hlt]; simp [byteOk, g1])
            have HF := Lib.hid (Val.textOk_bad _ q hl HB.out)
            go_wp2
            go_ret
            exact ⟨ret_b (by rw [HI.out]; simp [HF.out]), drewN_below (one_box _ _) m⟩
        · have HE := Lib.hid (show textOk t.data.toList = true by rw [← List.take_of_length_le (l := t.data.toList) (i := q) (by rw [Val.size_data]; omega)]; exact Ht.out)
          by_cases h12 : t.size ≤ 12
          · go_wp2
            go_ret
            exact ⟨ret_b (by rw [HI.out]; simp [HE.out, h12]; omega), drewN_below (one_box _ _) m⟩
          · go_wp2
            go_ret
            exact ⟨ret_b (by rw [HI.out]; simp [HE.out, h12]; omega), drewN_below (one_box _ _) m⟩
    · have HI := Lib.hid (isB_odd ho)
      go_wp2
      go_ret
      exact ⟨ret_b HI.out.symm, drewN_below (one_box _ _) m⟩
set_option maxHeartbeats 1000000 in
set_option maxRecDepth 100000 in
theorem ris_e (k : Int) (hk : k < 0 ∨ 4 < k) (b : Bool) (n : Int) (f : Nat) (t : ByteArray) (ht : t.size ≤ maxLen) (w : World) : Calls Try.prog 88 #[vv ⟨k, b, n, f, t⟩] w fun e w' => e = .returned (.bool (isB ⟨k, b, n, f, t⟩)) ∧ Below w.heap.size w w' := by
  unfold maxLen at ht
  have c0 : (k != 0) = true := by simp; omega
  have d0 : k ≠ 0 := by omega
  have c1 : (k != 1) = true := by simp; omega
  have d1 : k ≠ 1 := by omega
  have c2 : (k != 2) = true := by simp; omega
  have d2 : k ≠ 2 := by omega
  have c3 : (k != 3) = true := by simp; omega
  have d3 : k ≠ 3 := by omega
  have c4 : (k != 4) = true := by simp; omega
  have d4 : k ≠ 4 := by omega
  have HI := Lib.hid (Val.isB_else k b n f t hk)
  have Hk := Lib.hid hk
  clear hk
  go_enter Try.func88, Try.ntmps88
  go_upto_region 1 with fail
  go_cut [50] (fun s wx => Odd ⟨k, b, n, f, t⟩ (w.alloc (Obj.cells #[Value.int IntKind.i64 k, Value.bool b, Value.int IntKind.i64 n, Value.float FloatKind.f64 f, Value.string t] 47)) s wx)
  case first =>
    cases b
    · skip
      by_cases hn : n = 0
      · subst hn
        by_cases hf : f = 0
        · subst hf
          have hs : sameB 0 0 = true := rfl
          by_cases hz : t.size = 0
          · have hz1 : t.toList.isEmpty = true := by rw [isEmpty_size]; simpa using hz
            have hs2 : sameB 0 (normN 0) = true := by rw [Val.normN_zero]; rfl
            have He := Lib.hid (show oddB ⟨k, false, 0, 0, t⟩ = false by simp [oddB, bne, Val.normN_zero, d0, d1, d2, d3, d4, hz])
            go_quiet (first | (go_at_call 87; exact quiet_eq (same_any _ _ _)) | (go_at_call 72; exact quiet_eq (rnorm_any _ _)))
            go_wp2_with fail
            go_meet
            exact ⟨by rw [He.out], nq, rfl⟩
          · have hz1 : t.toList.isEmpty = false := by rw [isEmpty_size]; simpa using hz
            have He := Lib.hid (show oddB ⟨k, false, 0, 0, t⟩ = true by simp [oddB, bne, Val.normN_zero, d0, d1, d2, d3, d4, hz])
            go_quiet (first | (go_at_call 87; exact quiet_eq (same_any _ _ _)) | (go_at_call 72; exact quiet_eq (rnorm_any _ _)))
            go_wp2_with fail
            go_meet
            exact ⟨by rw [He.out], nq, rfl⟩
        · have hs := sameB_ff hf
          have He := Lib.hid (show oddB ⟨k, false, 0, f, t⟩ = true by simp [oddB, bne, Val.normN_zero, d0, d1, d2, d3, d4, hf])
          go_quiet (first | (go_at_call 87; exact quiet_eq (same_any _ _ _)) | (go_at_call 72; exact quiet_eq (rnorm_any _ _)))
          go_wp2_with fail
          go_meet
          exact ⟨by rw [He.out], nq, rfl⟩
      · have hn1 : (n != 0) = true := by simpa using hn
        have He := Lib.hid (show oddB ⟨k, false, n, f, t⟩ = true by simp [oddB, bne, Val.normN_zero, d0, d1, d2, d3, d4, hn])
        go_quiet (first | (go_at_call 87; exact quiet_eq (same_any _ _ _)) | (go_at_call 72; exact quiet_eq (rnorm_any _ _)))
        go_wp2_with fail
        go_meet
        exact ⟨by rw [He.out], nq, rfl⟩
    · skip
      have He := Lib.hid (show oddB ⟨k, true, n, f, t⟩ = true by simp [oddB, bne, Val.normN_zero, d0, d1, d2, d3, d4])
      go_quiet (first | (go_at_call 87; exact quiet_eq (same_any _ _ _)) | (go_at_call 72; exact quiet_eq (rnorm_any _ _)))
      go_wp2_with fail
      go_meet
      exact ⟨by rw [He.out], nq, rfl⟩
  case rest =>
    obtain ⟨rfl, m, rfl⟩ := hcut
    cases ho : oddB ⟨k, b, n, f, t⟩
    · go_wp2
      go_loop [3] (fun i => ∃ q : Nat, q ≤ t.size ∧ i = .int .i64 q) (fun i => t.size - (intOf i).toNat)
      case atStart => exact ⟨0, Nat.zero_le _, rfl⟩
      case round =>
        obtain ⟨q, hq, rfl⟩ := hrel
        by_cases hlt : q < t.size
        · by_cases g1 : 32 ≤ t[q].toNat
          · by_cases g2 : t[q].toNat ≤ 126
            · go_wp2
              go_round
              case rel => exact ⟨q + 1, by omega, by go_num⟩
              case measure => simp [intOf]; omega
            · go_wp2
              go_ret
              exact ⟨ret_b HI.out.symm, drewN_below (one_box _ _) m⟩
          · go_wp2
            go_ret
            exact ⟨ret_b HI.out.symm, drewN_below (one_box _ _) m⟩
        · rcases Hk.out with hk | hk
          · have e1 : decide (0 ≤ k) = false := by simp; omega
            go_wp2
            go_ret
            exact ⟨ret_b HI.out.symm, drewN_below (one_box _ _) m⟩
          · have e0 : decide (0 ≤ k) = true := by simp; omega
            have e1 : decide (k ≤ 4) = false := by simp; omega
            go_wp2
            go_ret
            exact ⟨ret_b HI.out.symm, drewN_below (one_box _ _) m⟩
    · go_wp2
      go_ret
      exact ⟨ret_b HI.out.symm, drewN_below (one_box _ _) m⟩
theorem ris_any (x : V) (ht : x.t.size ≤ maxLen) (w : World) : Calls Try.prog 88 #[vv x] w fun e w' => e = .returned (.bool (isB x)) ∧ Below w.heap.size w w' := by
  obtain ⟨k, b, n, f, t⟩ := x
  by_cases h0 : k = 0
  · subst h0; exact ris_0 b n f t ht w
  by_cases h1 : k = 1
  · subst h1; exact ris_1 b n f t ht w
  by_cases h2 : k = 2
  · subst h2; exact ris_2 b n f t ht w
  by_cases h3 : k = 3
  · subst h3; exact ris_3 b n f t ht w
  by_cases h4 : k = 4
  · subst h4; exact ris_4 b n f t ht w
  exact ris_e k (by omega) b n f t ht w
end Go.Proofs.Ytdhpphbgobakhaa
