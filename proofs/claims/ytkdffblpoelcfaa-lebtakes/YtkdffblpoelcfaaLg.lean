/- What Str and Real of a Cursor of the reference do: contracts. Conditions: the cells of the Cursor, and of the bytes that it reads, lie in memory. -/
import Derived.Test.YtkdffblpoelcfaaLf
namespace Go.Proofs.Ytkdffblpoelcfaa
set_option linter.unusedVariables false
open Go.ChangeShapes Go.WideShapes Go.ChangeAt Go.RowKit
open Lb
open Fl (S IR nanB normN keyN NaNw cmpK unkN ofB)
open Go.Lib (uvarint zigzag uvarint_small uvarint_big unzigzag)

theorem rcstr_any (a : Nat) (g : Option Nat) (st : Option (List UInt8)) (w : World) (h : Cur w a g st) :
    Calls Try.prog 22 #[.pointer (some ⟨a, 0, none⟩)] w (Moves a g w (.string (bstr (resS st))) (nxtS st)) := by
  have H := Lib.hid (rcint_any a g st w h)
  clear h
  cases hn : nxtI st with
  | none =>
    rw [hn] at H
    have Hn := Lib.hid (show nxtS st = none ∧ resS st = [] by simp [nxtS, resS, hn])
    clear hn
    go_enter Try.func22, Try.ntmps22
    go_wp2_with fail
    refine H.out.mono ?_
    rintro e w1 ⟨rfl, hc1, hg1⟩
    have HC := Lib.hid hc1
    obtain ⟨h1, h2, h3, h4, k1, k2⟩ := hc1
    go_wp2_with fail
    refine (rfail_any a g _ _ HC.out).mono ?_
    rintro e w' ⟨rfl, hc, hg⟩
    go_wp2
    go_ret
    rw [Hn.out.1, Hn.out.2]
    exact ⟨rfl, hc, only_trans hg1 hg⟩
  | some l =>
    rw [hn] at H
    have Hn := Lib.hid hn
    clear hn
    obtain ⟨n, hrn⟩ : ∃ n : Int, resI st = n := ⟨_, rfl⟩
    rw [hrn] at H
    by_cases hf : 0 ≤ n ∧ n ≤ (l.length : Int)
    · obtain ⟨m, rfl⟩ : ∃ m : Nat, n = m := ⟨n.toNat, by omega⟩
      have hm : m ≤ l.length := by omega
      have HN := Lib.hid (show nxtS st = some (l.drop m) ∧ resS st = l.take m by
        have hff : fits (m : Int) l = true := by simp [fits]; omega
        unfold nxtS resS
        rw [Hn.out, hrn]
        simp [hff])
      clear hrn hf
      go_enter Try.func22, Try.ntmps22
      go_wp2_with fail
      refine H.out.mono ?_
      rintro e w1 ⟨rfl, hc1, hg1⟩
      have HC := Lib.hid hc1
      obtain ⟨h1, h2, h3, h4, A, c, k1, k2, k3, k4, k5⟩ := hc1
      have hcap := k3.cap
      have hcv := (k3.take m).conv m (by simp; omega)
      have Hst := Lib.hid (cur_step HC.out k3 k4 hm k5)
      have hsl := slice_from A l.length c m hm
      have hst := slice_to A l.length c m (by omega)
      clear k3 k4
      go_wp2_with fail
      go_ret
      rw [HN.out.1, HN.out.2]
      exact ⟨rfl, Hst.out, only_trans hg1 (grown_set _ _ _ _)⟩
    · have HN := Lib.hid (show nxtS st = none ∧ resS st = [] by
        have hff : fits n l = false := by simp [fits]; omega
        unfold nxtS resS
        rw [Hn.out, hrn]
        simp [hff])
      clear hrn
      have hf2 : n < 0 ∨ (0 ≤ n ∧ (l.length : Int) < n) := by omega
      clear hf
      rcases hf2 with hf2 | ⟨hf2, hf3⟩
      all_goals
        go_enter Try.func22, Try.ntmps22
        go_wp2_with fail
        refine H.out.mono ?_
        rintro e w1 ⟨rfl, hc1, hg1⟩
        have HC := Lib.hid hc1
        obtain ⟨h1, h2, h3, h4, A, c, k1, k2, k3, k4, k5⟩ := hc1
        clear k3 k4
        go_wp2_with fail
        refine (rfail_any a g _ _ HC.out).mono ?_
        rintro e w' ⟨rfl, hc, hg⟩
        go_wp2
        go_ret
        rw [HN.out.1, HN.out.2]
        exact ⟨rfl, hc, only_trans hg1 hg⟩
set_option maxRecDepth 100000 in
theorem rcreal_any (a : Nat) (g : Option Nat) (st : Option (List UInt8)) (w : World) (h : Cur w a g st) :
    Calls Try.prog 25 #[.pointer (some ⟨a, 0, none⟩)] w (Moves a g w (.float .f64 (resR st)) (nxtR st)) := by
  have H := Lib.hid h
  obtain ⟨h1, h2, h3, h4, h5⟩ := h
  cases st with
  | none =>
    obtain ⟨k1, k2⟩ := h5
    go_enter Try.func25, Try.ntmps25
    go_wp2_with fail
    refine (rfail_any a g _ _ H.out).mono ?_
    rintro e w' ⟨rfl, hc, hg⟩
    go_wp2
    go_ret
    exact ⟨rfl, hc, hg⟩
  | some l =>
    obtain ⟨A, c, k1, k2, k3, k4, k5⟩ := h5
    have K3 := Lib.hid k3
    have K4 := Lib.hid k4
    have hcap := k3.cap
    clear k3 k4
    by_cases h8 : l.length < 8
    · have Hn := Lib.hid (show nxtR (some l) = none ∧ resR (some l) = 0 by
        have : okR l = false := by simp [okR]; omega
        simp [nxtR, resR, this])
      go_enter Try.func25, Try.ntmps25
      go_wp2_with fail
      refine (rfail_any a g _ _ H.out).mono ?_
      rintro e w' ⟨rfl, hc, hg⟩
      go_wp2
      go_ret
      rw [Hn.out.1, Hn.out.2]
      exact ⟨rfl, hc, hg⟩
    · have h8' : 8 ≤ l.length := by omega
      have Hl8 := Lib.hid (show (l.take 8).length = 8 by simp; omega)
      have HO := Lib.hid (rof_any (be (l.take 8)) (be_lt8 (l.take 8) Hl8.out) w)
      have hsl := slice_from A l.length c 8 h8'
      have e8 : ((8 : Nat) : Int) = 8 := rfl
      rw [e8] at hsl
      have Hsl := Lib.hid hsl
      clear e8 h8 hsl
      go_enter Try.func25, Try.ntmps25
      go_wp2_with fail
      go_loop [3, 4] (fun z i => ∃ j acc : Nat, i = .int .i64 j ∧ z = .int .u64 acc ∧ j ≤ 8 ∧ Hid (acc = be (l.take j))) (fun _ i => 8 - (intOf i).toNat)
      case atStart => exact ⟨0, 0, rfl, rfl, by omega, (show 0 = be (l.take 0) by simp [be])⟩
      case round =>
        obtain ⟨j, acc, rfl, rfl, hj, He⟩ := hrel
        by_cases hlt : j < 8
        · have hj2 : j < l.length := by omega
          obtain ⟨ad, hA, hc⟩ := K3.out.cells j hj2
          subst hA
          have hb := u8lt l[j]
          have Ht := Lib.hid (be_take l j hj2)
          have Hlt := Lib.hid (be_lt l j (by omega))
          obtain ⟨q, hq⟩ : ∃ q : Nat, l[j].toNat = q := ⟨_, rfl⟩
          rw [hq] at hc hb Ht
          clear hq
          have Ho := Lib.hid (or_shl8 acc j q (by rw [He.out]; exact Hlt.out) hb hlt)
          go_wp2_with fail
          refine ⟨⟨j + 1, acc * 256 + q, by go_num, by rw [Ho.out], by omega, ?_⟩, by simp [intOf]; omega⟩
          show _ = _
          rw [Ht.out, He.out]
        · obtain rfl : j = 8 := by omega
          have hd := He.out
          subst hd
          have hsl := Hsl.out
          cases ho : ofB (be (l.take 8)) with
          | false =>
            have Hn := Lib.hid (show nxtR (some l) = none ∧ resR (some l) = 0 by
              have : okR l = false := by simp [okR, ho]
              simp [nxtR, resR, this])
            rw [ho, ofF_no _ ho] at HO
            clear ho
            go_wp2_with fail
            refine HO.out.mono ?_
            rintro e w' ⟨rfl, rfl⟩
            go_wp2_with fail
            refine (rfail_any a g _ _ H.out).mono ?_
            rintro e w' ⟨rfl, hc, hg⟩
            go_wp2
            go_ret
            rw [Hn.out.1, Hn.out.2]
            exact ⟨rfl, hc, hg⟩
          | true =>
            have Hn := Lib.hid (show nxtR (some l) = some (l.drop 8) ∧ resR (some l) = unkN (be (l.take 8)) by
              have : okR l = true := by simp [okR, ho]; omega
              simp [nxtR, resR, this])
            rw [ho, ofF_yes _ ho] at HO
            clear ho
            have Hst := Lib.hid (cur_step H.out K3.out K4.out h8' k5)
            go_wp2_with fail
            refine HO.out.mono ?_
            rintro e w' ⟨rfl, rfl⟩
            go_wp2_with fail
            go_ret
            rw [Hn.out.1, Hn.out.2]
            exact ⟨rfl, Hst.out, grown_set _ _ _ _⟩
end Go.Proofs.Ytkdffblpoelcfaa
