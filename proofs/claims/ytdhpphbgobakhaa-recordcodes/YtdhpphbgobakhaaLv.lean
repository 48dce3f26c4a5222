/- What package leb's varint and key return: contracts. Condition: the bytes lie in memory. -/
import Derived.Test.YtdhpphbgobakhaaLr
namespace Go.Proofs.Ytdhpphbgobakhaa
set_option maxRecDepth 100000
set_option linter.unusedVariables false
open Go.ChangeShapes Go.WideShapes Go.ChangeAt Go.RowKit
open Lb
open Fl (S IR nanB normN keyN NaNw cmpK unkN ofB)
open Go.Lib (uvarint zigzag uvarint_small uvarint_big unzigzag)

theorem ret_2 {a b c d : Int} (h : a = b) (k : Value.int .i64 c = .int .i64 d) : Ending.returned (.tuple #[.int .u64 a, .int .i64 c]) = .returned (.tuple #[.int .u64 b, .int .i64 d]) := by rw [h, k]
set_option maxRecDepth 100000 in
set_option maxHeartbeats 1000000 in
theorem varint_any (A : Option Addr) (l : List UInt8) (c : Nat) (w : World) (h : BS w A l c) (hl : l.length ≤ 10000000) :
    Calls Try.prog 47 #[.slice A l.length c] w fun e w' => e = .returned (.tuple #[.int .u64 (((dv 0 l).getD (0, 0)).1 : Nat), .int .i64 (((dv 0 l).getD (0, 0)).2 : Nat)]) ∧ w = w' := by
  have H := Lib.hid h
  clear h
  go_enter Try.func47, Try.ntmps47
  go_wp2_with fail
  all_goals
    go_loop [4, 10] (fun z i => ∃ j acc : Nat, i = .int .i64 j ∧ z = .int .u64 acc ∧ j ≤ l.length ∧ j ≤ 10 ∧ Hid (acc < 128 ^ j ∧ dv 0 l = (dv j (l.drop j)).map fun p => (acc + 128 ^ j * p.1, j + p.2))) (fun _ i => 10 - (intOf i).toNat)
    case atStart => exact ⟨0, 0, rfl, rfl, by omega, by omega, by simp, by simp⟩
    case round =>
      obtain ⟨j, acc, rfl, rfl, hj, hj2, He⟩ := hrel
      by_cases hlt : j < l.length ∧ j < 10
      · obtain ⟨hlt1, hlt2⟩ := hlt
        obtain ⟨ad, rfl, hc⟩ := H.out.cells j hlt1
        have hb := u8lt l[j]
        obtain ⟨q, hq⟩ : ∃ q : Nat, l[j].toNat = q := ⟨_, rfl⟩
        rw [hq] at hc hb
        have Hq := Lib.hid hq
        clear hq
        have hlo := andNot128 ⟨q, hb⟩
        have htt := and128 ⟨q, hb⟩
        simp only at hlo htt
        have hlo2 : q % 128 < 128 := by omega
        have Hlo : Hid (l[j].toNat % 128 = q % 128) := by show _ = _; rw [Hq.out]
        obtain ⟨lo, hlq⟩ : ∃ lo : Nat, q % 128 = lo := ⟨_, rfl⟩
        rw [hlq] at hlo hlo2 Hlo
        have Hlq := Lib.hid hlq
        clear hlq
        by_cases hj9 : j = 9
        · have hk9 : ((j : Int) == 9) = true := by simp; omega
          have hj0 : 0 < j := by omega
          have Hj9 := Lib.hid hj9
          clear hj9
          by_cases h1 : 1 < lo
          · have Hd := Lib.hid (dv_over He.out.2 hlt1 ⟨Hj9.out, by rw [Hlo.out]; exact h1⟩)
            clear htt
            go_wp2_with fail
            go_ret2
            exact ⟨by rw [Hd.out]; rfl, rfl⟩
          · have Ho := Lib.hid (or_shl acc j lo He.out.1 hlo2 (.inr ⟨Hj9.out, by omega⟩))
            have Hb' : Hid (¬ (10 ≤ j ∨ (j = 9 ∧ 1 < l[j].toNat % 128))) := by show ¬ _; rw [Hlo.out]; omega
            by_cases h2 : 128 ≤ q
            · have ht : (bits BinOp.and IntKind.u8 (q : Int) 128 != 0) = true := by rw [htt]; simpa using h2
              clear htt
              have Hd := Lib.hid (dv_more l j acc hlt1 Hb'.out (by rw [Hq.out]; exact h2) He.out.2)
              go_wp2_with fail
              refine ⟨⟨j + 1, acc + 128 ^ j * lo, by go_num, by rw [Ho.out], by omega, by omega, acc_lt j acc lo He.out.1 hlo2, ?_⟩, by simp [intOf]; omega⟩
              rw [Hd.out, Hlo.out]
            · have ht : (bits BinOp.and IntKind.u8 (q : Int) 128 != 0) = false := by rw [htt]; simpa using h2
              clear htt
              by_cases h4 : lo = 0
              · have h5 : ((lo : Int) == 0) = true := by simp; omega
                have Hd := Lib.hid (dv_zero He.out.2 hlt1 (by rw [Hq.out]; exact h2) ⟨by have := Hj9.out; omega, by rw [Hq.out]; have := Hlq.out; omega⟩)
                clear h4
                go_wp2_with fail
                go_ret2
                exact ⟨by rw [Hd.out]; rfl, rfl⟩
              · have h5 : ((lo : Int) == 0) = false := by simp; omega
                have Hd := Lib.hid (dv_done He.out.2 hlt1 Hb'.out (by rw [Hq.out]; exact h2) (by rw [Hq.out]; have := Hlq.out; omega))
                clear h4
                go_wp2_with fail
                go_ret2
                exact ⟨by rw [Hd.out, Hlo.out]; exact ret_2 Ho.out (by go_num), rfl⟩
        · have hk9 : ((j : Int) == 9) = false := by simp; omega
          have Hj9 : Hid (j < 9) := by show j < 9; omega
          have Ho := Lib.hid (or_shl acc j lo He.out.1 hlo2 (.inl Hj9.out))
          have Hb' : Hid (¬ (10 ≤ j ∨ (j = 9 ∧ 1 < l[j].toNat % 128))) := by show ¬ _; omega
          clear hj9
          by_cases h2 : 128 ≤ q
          · have ht : (bits BinOp.and IntKind.u8 (q : Int) 128 != 0) = true := by rw [htt]; simpa using h2
            clear htt
            have Hd := Lib.hid (dv_more l j acc hlt1 Hb'.out (by rw [Hq.out]; exact h2) He.out.2)
            go_wp2_with fail
            refine ⟨⟨j + 1, acc + 128 ^ j * lo, by go_num, by rw [Ho.out], by omega, by omega, acc_lt j acc lo He.out.1 hlo2, ?_⟩, by simp [intOf]; omega⟩
            rw [Hd.out, Hlo.out]
          · have ht : (bits BinOp.and IntKind.u8 (q : Int) 128 != 0) = false := by rw [htt]; simpa using h2
            clear htt
            by_cases h3 : 0 < j
            · by_cases h4 : lo = 0
              · have h5 : ((lo : Int) == 0) = true := by simp; omega
                have Hd := Lib.hid (dv_zero He.out.2 hlt1 (by rw [Hq.out]; exact h2) ⟨h3, by rw [Hq.out]; have := Hlq.out; omega⟩)
                clear h4
                go_wp2_with fail
                go_ret2
                exact ⟨by rw [Hd.out]; rfl, rfl⟩
              · have h5 : ((lo : Int) == 0) = false := by simp; omega
                have Hd := Lib.hid (dv_done He.out.2 hlt1 Hb'.out (by rw [Hq.out]; exact h2) (by rw [Hq.out]; have := Hlq.out; omega))
                clear h4
                go_wp2_with fail
                go_ret2
                exact ⟨by rw [Hd.out, Hlo.out]; exact ret_2 Ho.out (by go_num), rfl⟩
            · have Hd := Lib.hid (dv_done He.out.2 hlt1 Hb'.out (by rw [Hq.out]; exact h2) (by omega))
              go_wp2_with fail
              go_ret2
              exact ⟨by rw [Hd.out, Hlo.out]; exact ret_2 Ho.out (by go_num), rfl⟩
      · have Hd := Lib.hid (dv_out He.out.2 (by omega))
        have hge : l.length ≤ j ∨ 10 ≤ j := by omega
        rcases hge with hge | hge
        all_goals first
          | (exfalso; omega)
          | (go_wp2_with fail
             go_ret2
             exact ⟨by rw [Hd.out]; rfl, rfl⟩)
set_option maxRecDepth 100000 in
theorem key_bytes (A : Option Addr) (l : List UInt8) (c : Nat) (w : World) (h : BS w A l c) (hl : l.length = 8) :
    Calls Try.prog 91 #[.slice A 8 c] w fun e w' => e = .returned (.int .u64 (be l : Nat)) ∧ w = w' := by
  have H := Lib.hid h
  have HL := Lib.hid hl
  clear h hl
  go_enter Try.func91, Try.ntmps91
  go_wp2
  go_loop [3, 8] (fun z i => ∃ j acc : Nat, i = .int .i64 j ∧ z = .int .u64 acc ∧ j ≤ 8 ∧ Hid (acc = be (l.take j))) (fun _ i => 8 - (intOf i).toNat)
  case atStart => exact ⟨0, 0, rfl, rfl, by omega, (show 0 = be (l.take 0) by simp [be])⟩
  case round =>
    obtain ⟨j, acc, rfl, rfl, hj, He⟩ := hrel
    by_cases hlt : j < 8
    · obtain ⟨ad, rfl, hc⟩ := H.out.cells j (by rw [HL.out]; omega)
      have Hj : Hid (j < l.length) := by show j < l.length; rw [HL.out]; omega
      have hb := u8lt (l[j]'Hj.out)
      have Ht := Lib.hid (be_take l j Hj.out)
      have Hlt := Lib.hid (be_lt l j (by have := Hj.out; omega))
      obtain ⟨q, hq⟩ : ∃ q : Nat, (l[j]'Hj.out).toNat = q := ⟨_, rfl⟩
      rw [hq] at hc hb Ht
      clear hq
      have Ho := Lib.hid (or_shl8 acc j q (by rw [He.out]; exact Hlt.out) hb hlt)
      go_wp2_with fail
      refine ⟨⟨j + 1, acc * 256 + q, by go_num, by rw [Ho.out], by omega, ?_⟩, by simp [intOf]; omega⟩
      show _ = _
      rw [Ht.out, He.out]
    · obtain rfl : j = 8 := by omega
      have hd := He.out
      rw [List.take_of_length_le (by rw [HL.out]; omega)] at hd
      subst hd
      go_wp2_with fail
      go_ret
      exact ⟨rfl, rfl⟩
end Go.Proofs.Ytdhpphbgobakhaa
