/- What package value's Is (with blank, normal, plain) and the reference's Is, Exact return: contracts, each for every argument. Condition: words of float64 are below 2^64, strings are of a length that Go allows. -/
import Derived.Test.YtdhpphbgobakhaaVw
import Derived.Deep.RegionHeld3
import Derived.Deep.QuietTactic
import Derived.BigQuiet
namespace Go.Proofs.Ytdhpphbgobakhaa
set_option maxRecDepth 100000
open Go.ChangeShapes Go.WideShapes Go.ChangeAt Go.RowKit
open Fl (S IR nanB normN keyN NaNw cmpK)
open Val (cmpI cmpB cmpT ltT eqT V cmpV byteOk textOk blankB oddB isB plainB)
theorem byte_at (t : ByteArray) (k : Nat) (h : k < t.size) : byteOk (t.data.toList[k]'(by rw [Val.size_data]; exact h)) = byteOk t[k] := rfl
set_option maxHeartbeats 400000 in
theorem plain_any (t : ByteArray) (ht : t.size ≤ maxLen) (w : World) : Calls Try.prog 94 #[.string t] w fun e w' => e = .returned (.bool (plainB t)) ∧ w = w' := by
  unfold maxLen at ht
  by_cases h : t.size ≤ 12
  · have hd : decide (12 < t.size) = false := by simp; omega
    have Hp := Lib.hid (show plainB t = textOk t.data.toList by simp [plainB, h])
    go_enter Try.func94, Try.ntmps94
    go_wp2
    go_loop [9] (fun i => ∃ k : Nat, k ≤ t.size ∧ i = .int .i64 k ∧ textOk (t.data.toList.take k) = true) (fun i => t.size - (intOf i).toNat)
    case atStart => exact ⟨0, Nat.zero_le _, rfl, rfl⟩
    case round =>
      obtain ⟨k, hk, rfl, htk⟩ := hrel
      have Ht := Lib.hid htk
      clear htk
      by_cases hlt : k < t.size
      · have hl : k < t.data.toList.length := by rw [Val.size_data]; exact hlt
        have HS := Lib.hid (Val.textOk_take t.data.toList k hl)
        by_cases g1 : 32 ≤ t[k].toNat
        · by_cases g2 : t[k].toNat ≤ 126
          · have HB := Lib.hid (show byteOk (t.data.toList[k]'hl) = true by rw [byte_at t k hlt]; simp [byteOk, g1, g2])
            go_wp2
            go_round
            case rel => exact ⟨k + 1, by omega, by go_num, by rw [HS.out, Ht.out, HB.out]; rfl⟩
            case measure => simp [intOf]; omega
          · have HB := Lib.hid (show byteOk (t.data.toList[k]'hl) = false by rw [byte_at t k hlt]; simp [byteOk, g1, g2])
            have HF := Lib.hid (Val.textOk_bad _ k hl HB.out)
            go_wp2
            go_ret
            exact ⟨ret_b (by rw [Hp.out, HF.out]), rfl⟩
        · have HB := Lib.hid (show byteOk (t.data.toList[k]'hl) = false by rw [byte_at t k hlt]; simp [byteOk, g1])
          have HF := Lib.hid (Val.textOk_bad _ k hl HB.out)
          go_wp2
          go_ret
          exact ⟨ret_b (by rw [Hp.out, HF.out]), rfl⟩
      · have HE := Lib.hid (show textOk t.data.toList = true by rw [← List.take_of_length_le (l := t.data.toList) (i := k) (by rw [Val.size_data]; omega)]; exact Ht.out)
        go_wp2
        go_ret
        exact ⟨ret_b (by rw [Hp.out, HE.out]), rfl⟩
  · have hd : decide (12 < t.size) = true := by simp; omega
    have Hp := Lib.hid (show plainB t = false by simp [plainB, h])
    go_enter Try.func94, Try.ntmps94
    go_wp2
    go_ret
    exact ⟨ret_b Hp.out.symm, rfl⟩
theorem normal_any (f : Nat) (w : World) : Calls Try.prog 93 #[.float .f64 f] w fun e w' => e = .returned (.bool (normN f == f)) ∧ w = w' := by
  go_enter Try.func93, Try.ntmps93
  go_wp2_with fail
  refine (norm_any _ _).mono ?_
  rintro e w' ⟨rfl, rfl⟩
  go_wp2_with fail
  go_ret
  exact ⟨ret_b (by rw [Bool.eq_iff_iff]; simp; omega), rfl⟩
theorem size_ne {t : ByteArray} (h : t ≠ ⟨#[]⟩) : t.size ≠ 0 := by
  intro h0
  exact h (ByteArray.ext (Array.size_eq_zero_iff.1 h0))
theorem isEmpty_size (t : ByteArray) : t.toList.isEmpty = (t.size == 0) := by
  rw [ByteArray.toList_eq, Bool.eq_iff_iff, List.isEmpty_iff, ← List.length_eq_zero_iff, Val.size_data]; simp
set_option maxHeartbeats 400000 in
theorem blank_any (x : V) (w : World) : Calls Try.prog 92 #[vv x] w fun e w' => e = .returned (.bool (blankB x)) ∧ Below w.heap.size w w' := by
  obtain ⟨k, b, n, f, t⟩ := x
  cases b
  · by_cases hn : n = 0
    · subst hn
      by_cases hf : f = 0
      · subst hf
        by_cases ht : t = ⟨#[]⟩
        · subst ht
          go_enter Try.func92, Try.ntmps92
          go_wp2_with fail
          go_ret
          exact ⟨ret_b (by rfl), one_box _ _⟩
        · have h1 : t.toList.isEmpty = false := by rw [isEmpty_size]; simpa using size_ne ht
          have Hs := Lib.hid (size_ne ht)
          clear ht
          go_enter Try.func92, Try.ntmps92
          go_wp2_with fail
          go_ret
          exact ⟨ret_b (by simp [blankB, Hs.out]), one_box _ _⟩
      · have h1 : ((f : Int) == 0) = false := by simpa using hf
        have Hs := Lib.hid hf
        clear hf
        go_enter Try.func92, Try.ntmps92
        go_wp2_with fail
        go_ret
        exact ⟨ret_b (by simp [blankB, Hs.out]), one_box _ _⟩
    · have h1 : (n == 0) = false := by simpa using hn
      have Hs := Lib.hid hn
      clear hn
      go_enter Try.func92, Try.ntmps92
      go_wp2_with fail
      go_ret
      exact ⟨ret_b (by simp [blankB, Hs.out]), one_box _ _⟩
  · go_enter Try.func92, Try.ntmps92
    go_wp2_with fail
    go_ret
    exact ⟨ret_b (by rfl), one_box _ _⟩
set_option maxHeartbeats 400000 in
theorem vis_any (x : V) (ht : x.t.size ≤ maxLen) (w : World) : Calls Try.prog 77 #[vv x] w fun e w' => e = .returned (.bool (isB x)) ∧ Below w.heap.size w w' := by
  obtain ⟨k, b, n, f, t⟩ := x
  simp only at ht
  by_cases h0 : k = 0
  · subst h0
    go_enter Try.func77, Try.ntmps77
    go_wp2_with fail
    refine (blank_any ⟨0, b, n, f, t⟩ _).mono ?_
    rintro e w' ⟨rfl, hb⟩
    have Hb := Lib.hid hb
    clear hb
    go_wp2_with fail
    go_ret
    exact ⟨ret_b (Val.isB0 ..).symm, (two_boxes w _ _).trans (Hb.out.mono (by simp; omega))⟩
  · by_cases h1 : k = 1
    · subst h1
      go_enter Try.func77, Try.ntmps77
      go_wp2_with fail
      refine (blank_any ⟨1, false, n, f, t⟩ _).mono ?_
      rintro e w' ⟨rfl, hb⟩
      have Hb := Lib.hid hb
      clear hb
      go_wp2_with fail
      go_ret
      exact ⟨ret_b (Val.isB1 ..).symm, (two_boxes w _ _).trans (Hb.out.mono (by simp; omega))⟩
    · by_cases h2 : k = 2
      · subst h2
        go_enter Try.func77, Try.ntmps77
        go_wp2_with fail
        refine (blank_any ⟨2, b, 0, f, t⟩ _).mono ?_
        rintro e w' ⟨rfl, hb⟩
        have Hb := Lib.hid hb
        clear hb
        go_wp2_with fail
        go_ret
        exact ⟨ret_b (Val.isB2 ..).symm, (two_boxes w _ _).trans (Hb.out.mono (by simp; omega))⟩
      · by_cases h3 : k = 3
        · subst h3
          cases hB : blankB ⟨3, b, n, 0, t⟩
          · have He := Lib.hid (Val.isB3 b n f t)
            go_enter Try.func77, Try.ntmps77
            go_wp2_with fail
            refine (blank_any ⟨3, b, n, 0, t⟩ _).mono ?_
            rintro e w' ⟨rfl, hb⟩
            have Hb := Lib.hid hb
            clear hb
            go_wp2_with fail
            go_ret
            exact ⟨ret_b (by rw [He.out, hB]; rfl), (two_boxes w _ _).trans (Hb.out.mono (by simp; omega))⟩
          · have He := Lib.hid (Val.isB3 b n f t)
            go_enter Try.func77, Try.ntmps77
            go_wp2_with fail
            refine (blank_any ⟨3, b, n, 0, t⟩ _).mono ?_
            rintro e w' ⟨rfl, hb⟩
            have Hb := Lib.hid hb
            obtain ⟨hc, hf⟩ := bcell hb
            clear hb
            go_wp2_with fail
            refine (normal_any _ _).mono ?_
            rintro e w2 ⟨rfl, rfl⟩
            go_wp2_with fail
            go_ret
            exact ⟨ret_b (by rw [He.out, hB]; rfl), (two_boxes w _ _).trans (Hb.out.mono (by simp; omega))⟩
        · by_cases h4 : k = 4
          · subst h4
            cases hB : blankB ⟨4, b, n, f, ⟨#[]⟩⟩
            · have He := Lib.hid (Val.isB4 b n f t)
              go_enter Try.func77, Try.ntmps77
              go_wp2_with fail
              refine (blank_any ⟨4, b, n, f, ⟨#[]⟩⟩ _).mono ?_
              rintro e w' ⟨rfl, hb⟩
              have Hb := Lib.hid hb
              clear hb
              go_wp2_with fail
              go_ret
              exact ⟨ret_b (by rw [He.out, hB]; rfl), (two_boxes w _ _).trans (Hb.out.mono (by simp; omega))⟩
            · have He := Lib.hid (Val.isB4 b n f t)
              go_enter Try.func77, Try.ntmps77
              go_wp2_with fail
              refine (blank_any ⟨4, b, n, f, ⟨#[]⟩⟩ _).mono ?_
              rintro e w' ⟨rfl, hb⟩
              have Hb := Lib.hid hb
              obtain ⟨hc, hf⟩ := bcell hb
              clear hb
              go_wp2_with fail
              refine (plain_any _ ht _).mono ?_
              rintro e w2 ⟨rfl, rfl⟩
              go_wp2_with fail
              go_ret
              exact ⟨ret_b (by rw [He.out, hB]; rfl), (two_boxes w _ _).trans (Hb.out.mono (by simp; omega))⟩
          · have e0 : (k == 0) = false := by simpa using h0
            have e1 : (k == 1) = false := by simpa using h1
            have e2 : (k == 2) = false := by simpa using h2
            have e3 : (k == 3) = false := by simpa using h3
            have e4 : (k == 4) = false := by simpa using h4
            have He := Lib.hid (Val.isB_else k b n f t (by omega))
            clear h0 h1 h2 h3 h4
            go_enter Try.func77, Try.ntmps77
            go_wp2_with fail
            go_ret
            exact ⟨ret_b He.out.symm, two_boxes w _ _⟩
end Go.Proofs.Ytdhpphbgobakhaa
