/- The program's within, IsName, ascending, Weight and IsEdge of chapter 10: contracts. Condition: strings are of a length that Go allows. -/
import Derived.Test.YtdhpphbgobakhaaYd
namespace Go.Proofs.Ytdhpphbgobakhaa
set_option maxRecDepth 100000
set_option linter.unusedVariables false
open Go.ChangeShapes Go.WideShapes Go.ChangeAt Go.RowKit
open Fl (S)
open Val (V cmpV isB ltT)
def witB (n lo hi : Int) : Bool := decide (lo ≤ n) && decide (n ≤ hi)
theorem within_any (n lo hi : Int) (w : World) : Calls Try.prog 35 #[.int .i64 n, .int .i64 lo, .int .i64 hi] w fun e w' => e = .returned (.bool (witB n lo hi)) ∧ w = w' := by
  by_cases h : lo ≤ n
  · have HR := Lib.hid (show witB n lo hi = decide (n ≤ hi) by unfold witB; rw [decide_eq_true h]; rfl)
    by_cases h2 : n ≤ hi
    · have HQ := Lib.hid (show witB n lo hi = true by rw [HR.out, decide_eq_true h2])
      go_enter Try.func35, Try.ntmps35
      go_wp2
      go_ret
      exact ⟨ret_b HQ.out.symm, rfl⟩
    · have HQ := Lib.hid (show witB n lo hi = false by rw [HR.out, decide_eq_false h2])
      go_enter Try.func35, Try.ntmps35
      go_wp2
      go_ret
      exact ⟨ret_b HQ.out.symm, rfl⟩
  · have HR := Lib.hid (show witB n lo hi = false by unfold witB; rw [decide_eq_false h]; rfl)
    go_enter Try.func35, Try.ntmps35
    go_wp2
    go_ret
    exact ⟨ret_b HR.out.symm, rfl⟩
theorem pname_any (s : ByteArray) (hs : s.size ≤ maxLen) (w : World) : Calls Try.prog 33 #[.string s] w fun e w' => e = .returned (.bool (nameB s)) ∧ w = w' := by
  unfold maxLen at hs
  have HD : Hid (nameB s = (lowB s.data.toList && (decide (1 ≤ s.size) && decide (s.size ≤ 8)))) := rfl
  have HW := Lib.hid (fun W => within_any (s.size : Int) 1 8 W)
  have hsz : (decide (1 ≤ s.size) && decide (s.size ≤ 8)) = witB (s.size : Int) 1 8 := by unfold witB; congr 1 <;> exact decide_eq_decide.2 (by omega)
  cases hw : witB (s.size : Int) 1 8 with
  | false =>
    have HN := Lib.hid (show nameB s = false by
      rw [HD.out, hsz, hw]; simp)
    rw [hw] at HW
    clear hw hsz
    go_enter Try.func33, Try.ntmps33
    go_wp2_with fail
    refine (HW.out _).mono ?_
    rintro e w1 ⟨rfl, rfl⟩
    go_wp2
    go_ret
    exact ⟨ret_b HN.out.symm, rfl⟩
  | true =>
    have HN := Lib.hid (show nameB s = lowB s.data.toList by
      rw [HD.out, hsz, hw]; simp)
    rw [hw] at HW
    clear hw hsz
    go_enter Try.func33, Try.ntmps33
    go_wp2_with fail
    refine (HW.out _).mono ?_
    rintro e w1 ⟨rfl, rfl⟩
    go_wp2
    go_loop [10] (fun i => ∃ k : Nat, k ≤ s.size ∧ i = .int .i64 k ∧ lowB (s.data.toList.take k) = true) (fun i => s.size - (intOf i).toNat)
    case atStart => exact ⟨0, Nat.zero_le _, rfl, rfl⟩
    case round =>
      obtain ⟨k, hk, rfl, htk⟩ := hrel
      have Ht := Lib.hid htk
      clear htk
      by_cases hlt : k < s.size
      · have hl : k < s.data.toList.length := by rw [Val.size_data]; exact hlt
        have HS := Lib.hid (lowB_take s.data.toList k hl)
        by_cases g1 : 97 ≤ s[k].toNat
        · by_cases g2 : s[k].toNat ≤ 122
          · have HB := Lib.hid (show lowByte (s.data.toList[k]'hl) = true by rw [low_at s k hlt]; simp [lowByte, g1, g2])
            go_wp2
            go_round
            case rel => exact ⟨k + 1, by omega, by go_num, by rw [HS.out, Ht.out, HB.out]; rfl⟩
            case measure => simp [intOf]; omega
          · have HB := Lib.hid (show lowByte (s.data.toList[k]'hl) = false by rw [low_at s k hlt]; simp [lowByte, g1, g2])
            have HF := Lib.hid (lowB_bad _ k hl HB.out)
            go_wp2
            go_ret
            exact ⟨ret_b (by rw [HN.out, HF.out]), rfl⟩
        · have HB := Lib.hid (show lowByte (s.data.toList[k]'hl) = false by rw [low_at s k hlt]; simp [lowByte, g1])
          have HF := Lib.hid (lowB_bad _ k hl HB.out)
          go_wp2
          go_ret
          exact ⟨ret_b (by rw [HN.out, HF.out]), rfl⟩
      · have HE := Lib.hid (show lowB s.data.toList = true by rw [← List.take_of_length_le (l := s.data.toList) (i := k) (by rw [Val.size_data]; omega)]; exact Ht.out)
        go_wp2
        go_ret
        exact ⟨ret_b (by rw [HN.out, HE.out]), rfl⟩
theorem pweight_any (x : Nat) (w : World) : Calls Try.prog 82 #[.float .f64 x] w fun e w' => e = .returned (.bool (geW x)) ∧ w = w' := by
  go_enter Try.func82, Try.ntmps82
  go_wp2
  all_goals (go_ret; exact ⟨rfl, rfl⟩)
theorem pedge_any (e : Eg) (hs : e.t.size ≤ maxLen) (w : World) : Calls Try.prog 63 #[egv e] w fun r w' => r = .returned (.bool (edgeB e)) ∧ Below w.heap.size w w' := by
  obtain ⟨a, b, t, f⟩ := e
  have HD : Hid (edgeB ⟨a, b, t, f⟩ = (witB a 1 24 && witB b 1 24 && nameB t && geW f)) := by
    simp only [Hid]
    show (decide (1 ≤ a) && decide (a ≤ 24) && decide (1 ≤ b) && decide (b ≤ 24) && nameB t && geW f) = _
    unfold witB
    simp only [Bool.and_assoc]
  have HN := Lib.hid (fun W => pname_any t hs W)
  have HW := Lib.hid (fun W => pweight_any f W)
  have HA := Lib.hid (fun W => within_any a 1 24 W)
  have HB := Lib.hid (fun W => within_any b 1 24 W)
  clear hs
  cases h1 : witB a 1 24 with
  | false =>
    have HE := Lib.hid (show edgeB ⟨a, b, t, f⟩ = false by rw [HD.out, h1]; rfl)
    rw [h1] at HA
    clear h1 HB
    go_enter Try.func63, Try.ntmps63
    go_wp2_with (go_at_call 35; (with_reducible refine (HA.out _).mono ?_); rintro e w1 ⟨rfl, rfl⟩)
    go_ret
    exact ⟨ret_b HE.out.symm, one_box w _⟩
  | true =>
    rw [h1] at HA
    cases h2 : witB b 1 24 with
    | false =>
      have HE := Lib.hid (show edgeB ⟨a, b, t, f⟩ = false by rw [HD.out, h1, h2]; rfl)
      rw [h2] at HB
      clear h1 h2
      go_enter Try.func63, Try.ntmps63
      go_wp2_with fail
      (with_reducible refine (HA.out _).mono ?_); rintro e w1 ⟨rfl, rfl⟩
      go_wp2_with fail
      (with_reducible refine (HB.out _).mono ?_); rintro e w1 ⟨rfl, rfl⟩
      go_wp2_with fail
      go_ret
      exact ⟨ret_b HE.out.symm, one_box w _⟩
    | true =>
      rw [h2] at HB
      have HQ := Lib.hid (show edgeB ⟨a, b, t, f⟩ = (nameB t && geW f) by rw [HD.out, h1, h2]; rfl)
      clear h1 h2
      cases hn : nameB t with
      | false =>
        rw [hn] at HN HQ
        clear hn
        go_enter Try.func63, Try.ntmps63
        go_wp2_with fail
        (with_reducible refine (HA.out _).mono ?_); rintro e w1 ⟨rfl, rfl⟩
        go_wp2_with fail
        (with_reducible refine (HB.out _).mono ?_); rintro e w1 ⟨rfl, rfl⟩
        go_wp2_with fail
        (with_reducible refine (HN.out _).mono ?_); rintro e w1 ⟨rfl, rfl⟩
        go_wp2_with fail
        go_ret
        exact ⟨ret_b HQ.out.symm, one_box w _⟩
      | true =>
        rw [hn] at HN HQ
        clear hn
        generalize geW f = g at *
        go_enter Try.func63, Try.ntmps63
        go_wp2_with fail
        (with_reducible refine (HA.out _).mono ?_); rintro e w1 ⟨rfl, rfl⟩
        go_wp2_with fail
        (with_reducible refine (HB.out _).mono ?_); rintro e w1 ⟨rfl, rfl⟩
        go_wp2_with fail
        (with_reducible refine (HN.out _).mono ?_); rintro e w1 ⟨rfl, rfl⟩
        go_wp2_with fail
        (with_reducible refine (HW.out _).mono ?_); rintro e w1 ⟨rfl, rfl⟩
        go_wp2_with fail
        go_ret
        exact ⟨ret_b HQ.out.symm, one_box w _⟩
theorem nle_of_lt {y x : ByteArray} (h : ltT y x = true) : Op.bytesLess x.toList y.toList = false ∧ (x.toList == y.toList) = false := by
  unfold Val.ltT at h
  refine ⟨Bool.eq_false_iff.2 (Val.lt_asy _ _ h), ?_⟩
  rw [beq_eq_false_iff_ne]
  intro e
  rw [e] at h
  exact Val.lt_irr _ h
theorem le_of_nlt {y x : ByteArray} (h : ltT y x = false) : Op.bytesLess x.toList y.toList = true ∨ (Op.bytesLess x.toList y.toList = false ∧ (x.toList == y.toList) = true) := by
  unfold Val.ltT at h
  cases hb : Op.bytesLess x.toList y.toList with
  | true => exact .inl rfl
  | false => exact .inr ⟨rfl, by rw [beq_iff_eq]; exact Val.lt_tri _ _ (by rw [hb]; decide) (by rw [h]; decide)⟩
/-- Do names rise? -/
def ascB (l : List ByteArray) : Bool := (List.range l.length).all (labB l)
theorem pasc_any (A : Option Addr) (ls : List ByteArray) (c : Nat) (w : World) (h : Row .string w A ls) (hs : ∀ x, x ∈ ls → x.size ≤ maxLen) (hl : ls.length ≤ 1000000) :
    Calls Try.prog 58 #[.slice A ls.length c] w fun e w' => e = .returned (.bool (ascB ls)) ∧ w = w' := by
  have HD : Hid (ascB ls = (List.range ls.length).all (labB ls)) := rfl
  have HR := Lib.hid h
  have HO := Lib.hid hs
  clear h hs
  go_enter Try.func58, Try.ntmps58
  go_wp2
  go_loopw [7] (fun i wr => ∃ k : Nat, k ≤ ls.length ∧ i = .int .i64 (k : Nat) ∧ Hid ((List.range k).all (labB ls) = true) ∧ w = wr) (fun i _ => ls.length - (intOf i).toNat)
  case atStart => exact ⟨0, Nat.zero_le _, rfl, rfl, rfl⟩
  case round =>
    obtain ⟨k, hk, rfl, HA, rfl⟩ := hrel
    by_cases hlt : k < ls.length
    · obtain ⟨ad, e1, hc⟩ := HR.out k hlt
      subst e1
      have HSz := Lib.hid (HO.out _ (List.getElem_mem hlt))
      have HGD := Lib.hid (getD_at ls k ⟨#[]⟩ hlt)
      have HUP := Lib.hid (all_up (labB ls) k)
      have hi5 : IntKind.i64.wrap (k : Int) = (k : Int) := wrap_small (show k ≤ 9223372036854775807 by omega)
      have hi0 : (0 : Int) ≤ (k : Int) := by omega
      have HNM := Lib.hid (pname_any ls[k] HSz.out w)
      cases hn : nameB ls[k] with
      | false =>
        have HF := Lib.hid (show ascB ls = false by rw [HD.out, all_bad hlt (show labB ls k = false by unfold labB; rw [HGD.out, hn]; rfl)])
        rw [hn] at HNM
        generalize ls[k] = x at *
        clear hn
        go_wp2_with fail
        (with_reducible refine HNM.out.mono ?_); rintro e w1 ⟨rfl, rfl⟩
        go_wp2
        go_ret
        exact ⟨ret_b HF.out.symm, rfl⟩
      | true =>
        rw [hn] at HNM
        cases k with
        | zero =>
          have HU := Lib.hid (show (List.range (0 + 1)).all (labB ls) = true by rw [HUP.out, HA.out]; unfold labB; rw [HGD.out, hn]; rfl)
          generalize ls[0] = x at *
          have hc0 : w.cell? ad = some (.string x) := by rw [← Addr.add_zero' ad]; exact hc
          clear hn
          go_wp2_with fail
          (with_reducible refine HNM.out.mono ?_); rintro e w1 ⟨rfl, rfl⟩
          go_wp2
          exact ⟨⟨1, by omega, by go_num, HU.out, by first | rfl | trivial⟩, by simp [intOf]; omega⟩
        | succ m =>
          obtain ⟨ad2, e2, hc2⟩ := HR.out m (show m < ls.length by omega)
          injection e2 with e2
          subst e2
          have HGM := Lib.hid (getD_at ls m ⟨#[]⟩ (by omega))
          have hj5 : IntKind.i64.wrap (m : Int) = (m : Int) := wrap_small (show m ≤ 9223372036854775807 by omega)
          have hj0 : (0 : Int) ≤ (m : Int) := by omega
          have hi6 : IntKind.i64.wrap ((m : Int) + 1) = (m : Int) + 1 := hi5
          have hi7 : (0 : Int) ≤ (m : Int) + 1 := by omega
          have hi8 : ((m : Int) + 1).toNat = m + 1 := by omega
          have hi9 : (m : Int) + 1 < (ls.length : Int) := by omega
          have hc : w.cell? ⟨ad.block, ad.off + (m + 1), none⟩ = some (.string ls[m + 1]) := by rw [← addr_pos ad (m + 1) (by omega)]; exact hc
          have hc2 : w.cell? (ad.add m) = some (.string ls[m]) := hc2
          cases hc3 : ltT ls[m] ls[m + 1] with
          | true =>
            have HU := Lib.hid (show (List.range (m + 1 + 1)).all (labB ls) = true by rw [HUP.out, HA.out]; unfold labB; rw [HGD.out, hn, Nat.add_sub_cancel, HGM.out, hc3]; simp)
            obtain ⟨q1, q2⟩ := nle_of_lt hc3
            generalize ls[m + 1] = x at *
            generalize ls[m] = y at *
            clear hn hi5 hi0 hc3
            go_wp2_with fail
            (with_reducible refine HNM.out.mono ?_); rintro e w1 ⟨rfl, rfl⟩
            go_wp2
            exact ⟨⟨m + 2, by omega, by go_num, HU.out, by first | rfl | trivial⟩, by simp [intOf]; omega⟩
          | false =>
            have HF := Lib.hid (show ascB ls = false by rw [HD.out, all_bad hlt (show labB ls (m + 1) = false by unfold labB; rw [HGD.out, hn, Nat.add_sub_cancel, HGM.out, hc3]; simp)])
            have hq := le_of_nlt hc3
            generalize ls[m + 1] = x at *
            generalize ls[m] = y at *
            clear hn hi5 hi0 hc3
            rcases hq with q1 | ⟨q1, q2⟩
            all_goals
              go_wp2_with fail
              (with_reducible refine HNM.out.mono ?_); rintro e w1 ⟨rfl, rfl⟩
              go_wp2
              go_ret
              exact ⟨ret_b HF.out.symm, rfl⟩
    · have HE := Lib.hid (show ascB ls = true by rw [HD.out, ← show k = ls.length by omega]; exact HA.out)
      go_wp2
      go_ret
      exact ⟨ret_b HE.out.symm, rfl⟩
end Go.Proofs.Ytdhpphbgobakhaa
