/- What Settled of a Clock of package clock returns, and what Begin, Commit and Abort make of it. Conditions: the Clock lies in memory. -/
import Derived.Test.YtpjjpjdamieeeaaKc
import Derived.Deep.RegionWith
namespace Go.Proofs.Ytpjjpjdamieeeaa
set_option maxRecDepth 100000
set_option linter.unusedVariables false
open Go.ChangeShapes Go.WideShapes Go.ChangeAt Go.RowKit
section
variable {F : Nat → Prop} {w : World} {a : Nat} {c : Ck}
theorem settled_yes (h : PC F w a c) (b : Int) (hb : c.has b = true) (h0 : 0 < (c.tx b).com) :
    Calls Try.prog 49 #[.pointer (some ⟨a, 0, none⟩), .int .i64 b] w fun e w' => e = .returned (.bool (c.settled b)) ∧ Below w.heap.size w w' := by
  have hf := Lib.hid (find_some h b hb)
  have hc := Lib.hid (committed_any (c.tx b))
  obtain ⟨hok, v1, v2, L, hl, hm⟩ := h
  have HM := Lib.hid hm
  have HL := Lib.hid hl
  have HS : Hid (c.settled b = L.all (fun t => decide ((c.tx b).com ≤ (c.tx t).mark))) := by
    simp only [Hid]
    unfold Ck.settled
    rw [hb, decide_eq_true h0]
    simp only [Bool.true_and]
    rw [Bool.eq_iff_iff, List.all_eq_true, List.all_eq_true]
    constructor
    · intro hx t ht
      have h1 := (hl.mem t).1 ht
      obtain ⟨h2, h3⟩ := Ck.live_has h1
      have := hx _ (Ck.tx_mem h2)
      rw [h3] at this
      simpa using this
    · intro hx x hxm
      obtain ⟨i, hi, rfl⟩ := List.getElem_of_mem hxm
      cases hlv : c.l[i].live with
      | false => rfl
      | true =>
        have e : c.tx ((i + 1 : Nat) : Int) = c.l[i] := by unfold Ck.tx; rw [List.getD, show ((i + 1 : Nat) : Int).toNat - 1 = i by omega, List.getElem?_eq_getElem hi]; rfl
        have hh : c.has ((i + 1 : Nat) : Int) = true := Ck.has_iff.2 (by omega)
        have := hx _ ((hl.mem ((i + 1 : Nat) : Int)).2 (by unfold Ck.isLive; rw [hh, e, hlv]; rfl))
        rw [e] at this
        simpa using this
  rw [decide_eq_true h0] at hc
  obtain ⟨A, cp, rfl⟩ := own_slice hm.r2
  have hbefore := Lib.hid (fun (t : Int) => before_any (c.tx b) (c.tx t))
  have hbig := Lib.hid hm.big
  rw [HS.out]
  have H0 := Lib.hid h0
  generalize c.tx b = x at *
  clear hl hm h0 hb HS hok
  unfold tv at *
  go_enter Try.func49, Try.ntmps49
  go_wp2_with (first
    | (go_at_call 66; (with_reducible refine hf.out.mono ?_); rintro e w1 ⟨rfl, hb1⟩; have HB1 := Lib.hid (hb1.alloc hb1.size (.cells #[.int .i64 (x.mark : Nat), .int .i64 (x.com : Nat), .bool (abd x)] 94)); clear hb1)
    | (go_at_call 67; (with_reducible refine (hc.out _).mono ?_); rintro e w2 ⟨rfl, hb2⟩; have HB2 := Lib.hid (HB1.out.trans (hb2.mono HB1.out.size)); have q0 := (HM.out.below HB2.out).cells.2.1; have N2 := Lib.hid hb2; clear hb2))
  have HW := Lib.hid (heap_alloc_new w1 (.cells #[.int .i64 (x.mark : Nat), .int .i64 (x.com : Nat), .bool (abd x)] 94))
  clear hf hc HB2
  go_loopw [8, 27] (fun _ i wr => ∃ k : Nat, k ≤ L.length ∧ i = .int .i64 k ∧ Hid (Below (w1.alloc (.cells #[.int .i64 (x.mark : Nat), .int .i64 (x.com : Nat), .bool (abd x)] 94)).heap.size (w1.alloc (.cells #[.int .i64 (x.mark : Nat), .int .i64 (x.com : Nat), .bool (abd x)] 94)) wr) ∧ Hid (∀ j (hj : j < L.length), j < k → x.com ≤ (c.tx L[j]).mark)) (fun _ i _ => L.length - (intOf i).toNat)
  case atStart => exact ⟨0, Nat.zero_le _, rfl, N2.out, fun j hj h => absurd h (by omega)⟩
  case round =>
    obtain ⟨k, hk, rfl, HB, HA⟩ := hrel
    have HBW := Lib.hid (HB1.out.trans (HB.out.mono HB1.out.size))
    have hm := HM.out.below HBW.out
    by_cases hlt : k < L.length
    · obtain ⟨g, cp', hv, _, hcell⟩ := hm.liveAt hlt
      injection hv with hA _ hcp
      subst hA
      subst hcp
      have hlv := (HL.out.mem L[k]).1 (List.getElem_mem hlt)
      obtain ⟨hhas, _⟩ := Ck.live_has hlv
      rcases has_split (c := c) (t := L[k]) with ⟨_, m, hm1, hm2, hx⟩ | ⟨h1, _⟩
      case inr => rw [h1] at hhas; cases hhas
      obtain ⟨g1, c1, rfl, _, r0, r1, r2, rf⟩ := hm.row hm2
      have p0 := hm.cells.1
      have j0 := box_at HW.out HB.out 0
      have j1 := box_at HW.out HB.out 1
      have j2 := box_at HW.out HB.out 2
      simp only [List.getElem?_toArray, List.getElem?_cons_zero, List.getElem?_cons_succ] at j0 j1 j2
      have hbf := hbefore.out L[k]
      have HX := Lib.hid (hx hm2)
      have HE : Hid (c.tx L[k] = c.l[m]) := hx hm2
      rw [hx hm2] at hbf
      rw [hm1] at hcell
      have HM1 := Lib.hid hm1
      have hbigm := hbig.out
      have hLb : L.length ≤ 9223372036854775807 := by have := HL.out.len; have := Ck.cnt_le c; omega
      have hi5 : IntKind.i64.wrap (m : Int) = (m : Int) := wrapI (by omega)
      generalize c.l[m] = y at *
      have HBF := Lib.hid hbf
      clear hbf hx hm hlv hhas hm1
      by_cases hle : x.com ≤ y.mark
      · have HBF' := HBF.out
        rw [decide_eq_true H0.out, decide_eq_true hle] at HBF'
        have HBG := Lib.hid HBF'
        clear HBF' HBF
        go_wp2_with fail
        go_still_tail 9, (by kernel_rfl)
        change wpList _ _ _ _ _ wr.drew
        go_wp2_with (go_at_call 65; (with_reducible refine (HBG.out _).mono ?_); rintro e w4 ⟨rfl, hb4⟩; have HB4 := Lib.hid ((HB.out.drew).trans (hb4.mono HB.out.size)); clear hb4)
        go_roundw
        case rel =>
          have HA2 : Hid (∀ j (hj : j < L.length), j < k + 1 → x.com ≤ (c.tx L[j]).mark) := fun j hj h => by
            by_cases e : j = k
            · subst e; rw [HE.out]; exact hle
            · exact HA.out j hj (by omega)
          exact ⟨k + 1, by omega, by go_num, HB4.out, HA2.out⟩
        case measure => simp [intOf]; omega
      · have HBF' := HBF.out
        rw [decide_eq_true H0.out, decide_eq_false hle] at HBF'
        have HBG := Lib.hid HBF'
        clear HBF' HBF
        go_wp2_with fail
        go_still_tail 9, (by kernel_rfl)
        change wpList _ _ _ _ _ wr.drew
        go_wp2_with (go_at_call 65; (with_reducible refine (HBG.out _).mono ?_); rintro e w4 ⟨rfl, hb4⟩; have HB4 := Lib.hid ((HB.out.drew).trans (hb4.mono HB.out.size)); clear hb4)
        go_ret
        refine ⟨ret_b ?_, HB1.out.trans (HB4.out.mono HB1.out.size)⟩
        symm
        rw [List.all_eq_false]
        exact ⟨L[k], List.getElem_mem hlt, by rw [HE.out]; simpa using hle⟩
    · obtain rfl : k = L.length := by omega
      go_wp2
      go_ret
      refine ⟨ret_b ?_, HBW.out⟩
      symm
      rw [List.all_eq_true]
      intro t ht
      obtain ⟨j, hj, rfl⟩ := List.getElem_of_mem ht
      exact decide_eq_true (HA.out j hj hj)
theorem settled_any (h : PC F w a c) (b : Int) :
    Calls Try.prog 49 #[.pointer (some ⟨a, 0, none⟩), .int .i64 b] w fun e w' => e = .returned (.bool (c.settled b)) ∧ Below w.heap.size w w' := by
  by_cases hb : c.has b = true
  · by_cases h0 : 0 < (c.tx b).com
    · exact settled_yes h b hb h0
    · have e : c.settled b = false := by simp [Ck.settled, h0]
      rw [e]
      exact settled_no (find_some h b hb) (fun _ => by omega)
  · have hb' : c.has b = false := by simpa using hb
    have e : c.settled b = false := by simp [Ck.settled, hb']
    rw [e]
    exact settled_no (x := t0) (find_none h b hb') (fun h => by cases h)
end
end Go.Proofs.Ytpjjpjdamieeeaa
