/- Proved: ligaturelaw6.ClockOrder returns true for every two ints. No condition. -/
import Derived.Test.YtpeecgieohbolaaRows
import Derived.Test.YtpeecgieohbolaaKx
import Derived.WalkKit
import Derived.ProofKit
import Derived.OpenShut
import Derived.ShutString
import Derived.ChangeOld
import Derived.Below
namespace Go.Proofs.Ytpeecgieohbolaa.clockOrder
set_option maxRecDepth 100000
open Go.ChangeShapes Go.WideShapes Go.ChangeAt Go.RowKit
open Go.ChangeMaps (open_string shut_string)
set_option linter.unusedVariables false
theorem own : ownKnob Try.prog.godebug = none := by kernel_rfl
theorem laidOut : laidOutB Try.prog = true := by kernel_rfl

set_option maxHeartbeats 8000000 in
theorem walk (a0 : Int) (a1 : Int) (w : World) (w0 : (Lit.int .i64 a0).wf = true) (w1 : (Lit.int .i64 a1).wf = true) :
    Calls Try.prog 7 #[.int .i64 a0, .int .i64 a1] w fun e w' => e = .returned (.bool true) ∧ Below w.heap.size w w' := by
  by_cases hbad : a0 < 1 ∨ 20 < a0 ∨ a1 < 0 ∨ a0 < a1
  · rcases (show a0 < 1 ∨ (1 ≤ a0 ∧ 20 < a0) ∨ (1 ≤ a0 ∧ a0 ≤ 20 ∧ a1 < 0) ∨ (1 ≤ a0 ∧ a0 ≤ 20 ∧ 0 ≤ a1 ∧ a0 < a1) by omega) with q | ⟨q, q'⟩ | ⟨q, q', q''⟩ | ⟨q, q', q'', q3⟩
    all_goals (
      clear hbad
      go_enter Try.func7, Try.ntmps7
      go_wp2
      go_ret
      exact ⟨rfl, Below.refl _ _⟩)
  · obtain ⟨n, rfl⟩ : ∃ n : Nat, a0 = n := ⟨a0.toNat, by omega⟩
    obtain ⟨k, rfl⟩ : ∃ k : Nat, a1 = k := ⟨a1.toNat, by omega⟩
    have hn1 : 1 ≤ n := by omega
    have hn20 : n ≤ 20 := by omega
    have hkn : k ≤ n := by omega
    clear hbad
    have HN := Lib.hid (new_any w)
    have DK := Lib.hid known_any
    go_enter Try.func7, Try.ntmps7
    go_wp2_with (go_at_call 9; (with_reducible refine HN.out.mono ?_); rintro e w1 ⟨rfl, h1, hb1⟩; have H1 : Hid (SysR w w1 w.heap.size (O1 0) (.slice none 0 0) []) := sysR_new h1 (fun k hk => by omega) hb1; clear h1 hb1)
    clear HN
    go_loopw [6, 7, 8, 9, 10] (fun r v i _ _ wr => ∃ j : Nat, j ≤ n ∧ i = .int .i64 (j : Nat) ∧ ((j ≤ k ∧ r = .int .i64 0 ∧ Hid (SysR w wr w.heap.size (O1 j) v ((List.range j).map (num k)))) ∨ (k < j ∧ r = .int .i64 ((k : Int) + 1) ∧ Hid (SysR w wr w.heap.size (O2 k j) v ((List.range j).map (num k)))))) (fun _ _ i _ _ _ => n - (intOf i).toNat)
    case atStart => exact ⟨0, Nat.zero_le _, rfl, .inl ⟨Nat.zero_le _, rfl, H1.out⟩⟩
    case round =>
      obtain ⟨j, hj, rfl, hrel⟩ := hrel
      clear H1
      by_cases hlt : j < n
      · have HNX : Hid ((List.range (j + 1)).map (num k) = (List.range j).map (num k) ++ [num k j]) := by simp only [Hid]; rw [List.range_succ, List.map_append]; rfl
        have HLL : Hid (((List.range j).map (num k)).length ≤ 20) := by simp only [Hid]; rw [List.length_map, List.length_range]; omega
        rcases hrel with ⟨hjk, rfl, HS⟩ | ⟨hjk, rfl, HS⟩
        · by_cases hjk2 : j < k
          · have hne : ((j : Int) == (k : Int)) = false := by rw [beq_eq_false_iff_ne]; omega
            obtain ⟨o1, o2, o3, o4⟩ := O1_next j
            have hnum : num k j = (j : Int) + 1 := by unfold num; rw [if_pos hjk2]
            rw [hnum] at HNX
            have C1 := Lib.hid (sysR_begin HS.out (by rw [O1_len]; omega))
            rw [o3, o4] at C1
            have C2 := Lib.hid (fun W (h : SysR w W w.heap.size (O1 j).beg u7 ((List.range j).map (num k))) => sysR_commit h ((j : Int) + 1) (by rw [show (O1 j).beg.n = j by unfold Ck.beg; split <;> rfl]; omega) (by rw [Ck.beg_len, O1_len]; split <;> omega))
            rw [o1, o2] at C2
            clear o1 o2 o3 o4 hnum
            generalize (List.range j).map (num k) = L at *
            go_wp2_with (first
              | (go_at_call 24; (with_reducible refine C1.out.mono ?_); rintro e w2 ⟨rfl, h2⟩; have H2 := Lib.hid h2; clear h2)
              | (go_at_call 26; (with_reducible refine (C2.out _ H2.out).mono ?_); rintro e w3 ⟨rfl, h3⟩; have H3 := Lib.hid h3; have HB3 := Lib.hid ((Below.refl w3.heap.size w3).alloc (Nat.le_refl _) (.cells #[.int .i64 ((j : Int) + 1)] 3)); have HR3 := Lib.hid (h3.below HB3.out).row; have HC3 := Lib.hid (new_int w3 ((j : Int) + 1) 3); clear h3)
              | (refine wp_own 46 3 _ 1 8 Try.underlying46 infoI rfl (by decide) (by decide) rfl (.tmp 56) (.tmp 58) rfl _ _ (ics L) HR3.out rfl ⟨w3.heap.size, 0, none⟩ 1 1 [.int .i64 ((j : Int) + 1)] rfl rfl HC3.out (fun u hu => by rw [List.mem_singleton] at hu; subst hu; rfl) (by have := HLL.out; omega) ?_; intro v4 w4 hr4 hg4 ho4; have H4 := Lib.hid (H3.out.app HB3.out hr4 hg4 ho4); clear hr4 hg4 ho4))
            exact ⟨⟨j + 1, by omega, by go_num, .inl ⟨by omega, rfl, by rw [HNX.out]; exact H4.out⟩⟩, by simp [intOf]; omega⟩
          · obtain rfl : j = k := by omega
            obtain ⟨_, _, p3, p4⟩ := O1_next j
            obtain ⟨o1, o2, o3, o4⟩ := O2_next j j (Nat.le_refl _)
            have hnum : num j j = (j : Int) + 2 := by unfold num; rw [if_neg (by omega)]
            rw [hnum] at HNX
            have C0 := Lib.hid (sysR_begin HS.out (by rw [O1_len]; omega))
            rw [p3, p4, O1_beg] at C0
            have C1 := Lib.hid (fun W (h : SysR w W w.heap.size (O2 j j) u7 ((List.range j).map (num j))) => sysR_begin h (by rw [O2_len _ _ (Nat.le_refl _)]; omega))
            rw [o3, o4] at C1
            have C2 := Lib.hid (fun W (h : SysR w W w.heap.size (O2 j j).beg u7 ((List.range j).map (num j))) => sysR_commit h ((j : Int) + 2) (by rw [show (O2 j j).beg.n = j by unfold Ck.beg; split <;> rfl]; omega) (by rw [Ck.beg_len, O2_len _ _ (Nat.le_refl _)]; split <;> omega))
            rw [o1, o2] at C2
            clear o1 o2 o3 o4 p3 p4 hnum hjk hjk2
            generalize (List.range j).map (num j) = L at *
            go_wp2_with (first
              | (go_at_call 24; (with_reducible refine (C1.out _ H1.out).mono ?_); rintro e w2 ⟨rfl, h2⟩; have H2 := Lib.hid h2; clear h2)
              | (go_at_call 24; (with_reducible refine C0.out.mono ?_); rintro e w5 ⟨rfl, h1⟩; have H1 := Lib.hid h1; clear h1)
              | (go_at_call 26; (with_reducible refine (C2.out _ H2.out).mono ?_); rintro e w3 ⟨rfl, h3⟩; have H3 := Lib.hid h3; have HB3 := Lib.hid ((Below.refl w3.heap.size w3).alloc (Nat.le_refl _) (.cells #[.int .i64 ((j : Int) + 2)] 3)); have HR3 := Lib.hid (h3.below HB3.out).row; have HC3 := Lib.hid (new_int w3 ((j : Int) + 2) 3); clear h3)
              | (refine wp_own 46 3 _ 1 8 Try.underlying46 infoI rfl (by decide) (by decide) rfl (.tmp 56) (.tmp 58) rfl _ _ (ics L) HR3.out rfl ⟨w3.heap.size, 0, none⟩ 1 1 [.int .i64 ((j : Int) + 2)] rfl rfl HC3.out (fun u hu => by rw [List.mem_singleton] at hu; subst hu; rfl) (by have := HLL.out; omega) ?_; intro v4 w4 hr4 hg4 ho4; have H4 := Lib.hid (H3.out.app HB3.out hr4 hg4 ho4); clear hr4 hg4 ho4))
            exact ⟨⟨j + 1, by omega, by go_num, .inr ⟨by omega, rfl, by rw [HNX.out]; exact H4.out⟩⟩, by simp [intOf]; omega⟩
        · have hne : ((j : Int) == (k : Int)) = false := by rw [beq_eq_false_iff_ne]; omega
          obtain ⟨o1, o2, o3, o4⟩ := O2_next k j (by omega)
          have hnum : num k j = (j : Int) + 2 := by unfold num; rw [if_neg (by omega)]
          rw [hnum] at HNX
          have C1 := Lib.hid (sysR_begin HS.out (by rw [O2_len _ _ (by omega)]; omega))
          rw [o3, o4] at C1
          have C2 := Lib.hid (fun W (h : SysR w W w.heap.size (O2 k j).beg u7 ((List.range j).map (num k))) => sysR_commit h ((j : Int) + 2) (by rw [show (O2 k j).beg.n = j by unfold Ck.beg; split <;> rfl]; omega) (by rw [Ck.beg_len, O2_len _ _ (by omega)]; split <;> omega))
          rw [o1, o2] at C2
          clear o1 o2 o3 o4 hnum
          generalize (List.range j).map (num k) = L at *
          go_wp2_with (first
            | (go_at_call 24; (with_reducible refine C1.out.mono ?_); rintro e w2 ⟨rfl, h2⟩; have H2 := Lib.hid h2; clear h2)
            | (go_at_call 26; (with_reducible refine (C2.out _ H2.out).mono ?_); rintro e w3 ⟨rfl, h3⟩; have H3 := Lib.hid h3; have HB3 := Lib.hid ((Below.refl w3.heap.size w3).alloc (Nat.le_refl _) (.cells #[.int .i64 ((j : Int) + 2)] 3)); have HR3 := Lib.hid (h3.below HB3.out).row; have HC3 := Lib.hid (new_int w3 ((j : Int) + 2) 3); clear h3)
            | (refine wp_own 46 3 _ 1 8 Try.underlying46 infoI rfl (by decide) (by decide) rfl (.tmp 56) (.tmp 58) rfl _ _ (ics L) HR3.out rfl ⟨w3.heap.size, 0, none⟩ 1 1 [.int .i64 ((j : Int) + 2)] rfl rfl HC3.out (fun u hu => by rw [List.mem_singleton] at hu; subst hu; rfl) (by have := HLL.out; omega) ?_; intro v4 w4 hr4 hg4 ho4; have H4 := Lib.hid (H3.out.app HB3.out hr4 hg4 ho4); clear hr4 hg4 ho4))
          exact ⟨⟨j + 1, by omega, by go_num, .inr ⟨by omega, rfl, by rw [HNX.out]; exact H4.out⟩⟩, by simp [intOf]; omega⟩
      · obtain rfl : j = n := by omega
        obtain ⟨L, hL⟩ : ∃ L, L = (List.range j).map (num k) := ⟨_, rfl⟩
        rw [← hL] at hrel
        have HLL : Hid (L.length = j ∧ ∀ (i : Nat) (hi : i < L.length), L[i] = num k i) := by
          subst hL
          exact ⟨by simp, fun i hi => by simp⟩
        clear hL hlt
        rcases hrel with ⟨hjk, rfl, HS⟩ | ⟨hjk, rfl, HS⟩
        · obtain rfl : k = j := by omega
          obtain ⟨_, _, p3, p4⟩ := O1_next k
          have C0 := Lib.hid (sysR_begin HS.out (by rw [O1_len]; omega))
          rw [p3, p4, O1_beg] at C0
          clear p3 p4 hjk
          go_wp2_with (go_at_call 24; (with_reducible refine C0.out.mono ?_); rintro e w5 ⟨rfl, h1⟩; have H1 := Lib.hid h1; clear h1)
          clear C0 HS
          have hK : k ≤ k := by omega
          have D1 := Lib.hid (fun W (h : SysR w W w.heap.size (O2 k k) u7 L) t u => sys_sees h.to t u)
          have D2 := Lib.hid (fun W (h : SysR w W w.heap.size (O2 k k) u7 L) t => sys_settled h.to t)
          have D3 := Lib.hid (fun W (h : SysR w W w.heap.size (O2 k k) u7 L) t u => sys_clashes h.to t u)
          have D4 := Lib.hid (fun W (h : SysR w W w.heap.size (O2 k k) u7 L) => sys_live h.to ((k : Int) + 1))
          rw [O2_live hK] at D4
          obtain ⟨A7, c7, hu7⟩ := own_slice H1.out.row
          subst hu7
          go_loopw [11] (fun i wr => ∃ q : Nat, q ≤ k ∧ i = .int .i64 (q : Nat) ∧ Hid (SysR w wr w.heap.size (O2 k k) (.slice A7 L.length c7) L)) (fun i _ => k - (intOf i).toNat)
          case atStart => exact ⟨0, Nat.zero_le _, rfl, H1.out⟩
          case round =>
            obtain ⟨q, hq, rfl, HQ⟩ := hrel
            by_cases hlt2 : q < k
            · have hql : q < L.length := by have := HLL.out.1; omega
              obtain ⟨g, cp', hv, _, hgl⟩ := World.ownsRow.form HQ.out.row (by omega)
              injection hv with hA _ hcp
              subst hA
              subst hcp
              have hcell := World.ownsRow.cellAt HQ.out.row q (by omega)
              simp only [ics, List.getElem?_map, List.getElem?_eq_getElem hql, Option.map_some, HLL.out.2 q hql] at hcell
              have E1 := Lib.hid (D1.out _ HQ.out ((k : Int) + 1) (num k q))
              have E2 := Lib.hid (fun W (h : SysR w W w.heap.size (O2 k k) (.slice (some ⟨g, 0, none⟩) L.length c7) L) => D2.out W h (num k q))
              have E3 := Lib.hid (fun W (h : SysR w W w.heap.size (O2 k k) (.slice (some ⟨g, 0, none⟩) L.length c7) L) => D3.out W h ((k : Int) + 1) (num k q))
              rw [O2_sees hK hlt2] at E1
              rw [O2_settled hK hlt2] at E2
              rw [O2_clashes hK hlt2] at E3
              have HGL := Lib.hid hgl
              have HCE := Lib.hid hcell
              generalize num k q = nq at *
              clear hgl
              by_cases hqk : q < k
              · rw [decide_eq_true hqk] at E1 E2
                rw [decide_eq_false (show ¬ k ≤ q by omega)] at E3
                have hx : ¬ k ≤ q := by omega
                go_wp2_with (first
                  | (go_at_call 19; (with_reducible refine E1.out.mono ?_); rintro e w5 ⟨rfl, h5⟩; have H5 := Lib.hid (HQ.out.below h5); have B5 := Lib.hid h5; have hcell5 : w5.cell? ⟨g, q, none⟩ = some (.int .i64 nq) := (h5.cell (p := ⟨g, q, none⟩) HGL.out).trans HCE.out; clear h5)
                  | (go_at_call 17; (with_reducible refine (E2.out _ H5.out).mono ?_); rintro e w6 ⟨rfl, h6⟩; have H6 := Lib.hid (H5.out.below h6); have hcell6 : w6.cell? ⟨g, q, none⟩ = some (.int .i64 nq) := ((B5.out.trans (h6.mono B5.out.size)).cell (p := ⟨g, q, none⟩) HGL.out).trans HCE.out; clear h6)
                  | (go_at_call 21; (with_reducible refine (E3.out _ H6.out).mono ?_); rintro e w7 ⟨rfl, h7⟩; have H7 := Lib.hid (H6.out.below h7); clear h7))
                exact ⟨⟨q + 1, by omega, by go_num, H7.out⟩, by simp [intOf]; omega⟩
              · exact absurd hlt2 hqk
            · obtain rfl : q = k := by omega
              go_wp2_with (first
                | (go_at_call 13; (with_reducible refine (D4.out _ HQ.out).mono ?_); rintro e w5 ⟨rfl, h5⟩; have H5 := Lib.hid (HQ.out.below h5); clear h5)
                | (go_at_call 23; (with_reducible refine (DK.out _).mono ?_); rintro e w8 ⟨rfl, hb8⟩; have H8 := Lib.hid (H5.out.below hb8); clear hb8))
              go_ret
              exact ⟨rfl, H8.out.all⟩
        · have hne : ((k : Int) == (j : Int)) = false := by rw [beq_eq_false_iff_ne]; omega
          go_wp2
          have hK : k ≤ j := by omega
          have D1 := Lib.hid (fun W (h : SysR w W w.heap.size (O2 k j) u7 L) t u => sys_sees h.to t u)
          have D2 := Lib.hid (fun W (h : SysR w W w.heap.size (O2 k j) u7 L) t => sys_settled h.to t)
          have D3 := Lib.hid (fun W (h : SysR w W w.heap.size (O2 k j) u7 L) t u => sys_clashes h.to t u)
          have D4 := Lib.hid (fun W (h : SysR w W w.heap.size (O2 k j) u7 L) => sys_live h.to ((k : Int) + 1))
          rw [O2_live hK] at D4
          obtain ⟨A7, c7, hu7⟩ := own_slice HS.out.row
          subst hu7
          go_loopw [11] (fun i wr => ∃ q : Nat, q ≤ j ∧ i = .int .i64 (q : Nat) ∧ Hid (SysR w wr w.heap.size (O2 k j) (.slice A7 L.length c7) L)) (fun i _ => j - (intOf i).toNat)
          case atStart => exact ⟨0, Nat.zero_le _, rfl, HS.out⟩
          case round =>
            obtain ⟨q, hq, rfl, HQ⟩ := hrel
            by_cases hlt2 : q < j
            · have hql : q < L.length := by have := HLL.out.1; omega
              obtain ⟨g, cp', hv, _, hgl⟩ := World.ownsRow.form HQ.out.row (by omega)
              injection hv with hA _ hcp
              subst hA
              subst hcp
              have hcell := World.ownsRow.cellAt HQ.out.row q (by omega)
              simp only [ics, List.getElem?_map, List.getElem?_eq_getElem hql, Option.map_some, HLL.out.2 q hql] at hcell
              have E1 := Lib.hid (D1.out _ HQ.out ((k : Int) + 1) (num k q))
              have E2 := Lib.hid (fun W (h : SysR w W w.heap.size (O2 k j) (.slice (some ⟨g, 0, none⟩) L.length c7) L) => D2.out W h (num k q))
              have E3 := Lib.hid (fun W (h : SysR w W w.heap.size (O2 k j) (.slice (some ⟨g, 0, none⟩) L.length c7) L) => D3.out W h ((k : Int) + 1) (num k q))
              rw [O2_sees hK hlt2] at E1
              rw [O2_settled hK hlt2] at E2
              rw [O2_clashes hK hlt2] at E3
              have HGL := Lib.hid hgl
              have HCE := Lib.hid hcell
              generalize num k q = nq at *
              clear hgl
              by_cases hqk : q < k
              · rw [decide_eq_true hqk] at E1 E2
                rw [decide_eq_false (show ¬ k ≤ q by omega)] at E3
                have hx : ¬ k ≤ q := by omega
                go_wp2_with (first
                  | (go_at_call 19; (with_reducible refine E1.out.mono ?_); rintro e w5 ⟨rfl, h5⟩; have H5 := Lib.hid (HQ.out.below h5); have B5 := Lib.hid h5; have hcell5 : w5.cell? ⟨g, q, none⟩ = some (.int .i64 nq) := (h5.cell (p := ⟨g, q, none⟩) HGL.out).trans HCE.out; clear h5)
                  | (go_at_call 17; (with_reducible refine (E2.out _ H5.out).mono ?_); rintro e w6 ⟨rfl, h6⟩; have H6 := Lib.hid (H5.out.below h6); have hcell6 : w6.cell? ⟨g, q, none⟩ = some (.int .i64 nq) := ((B5.out.trans (h6.mono B5.out.size)).cell (p := ⟨g, q, none⟩) HGL.out).trans HCE.out; clear h6)
                  | (go_at_call 21; (with_reducible refine (E3.out _ H6.out).mono ?_); rintro e w7 ⟨rfl, h7⟩; have H7 := Lib.hid (H6.out.below h7); clear h7))
                exact ⟨⟨q + 1, by omega, by go_num, H7.out⟩, by simp [intOf]; omega⟩
              · rw [decide_eq_false hqk] at E1 E2
                rw [decide_eq_true (show k ≤ q by omega)] at E3
                have hx : k ≤ q := by omega
                go_wp2_with (first
                  | (go_at_call 19; (with_reducible refine E1.out.mono ?_); rintro e w5 ⟨rfl, h5⟩; have H5 := Lib.hid (HQ.out.below h5); have B5 := Lib.hid h5; have hcell5 : w5.cell? ⟨g, q, none⟩ = some (.int .i64 nq) := (h5.cell (p := ⟨g, q, none⟩) HGL.out).trans HCE.out; clear h5)
                  | (go_at_call 17; (with_reducible refine (E2.out _ H5.out).mono ?_); rintro e w6 ⟨rfl, h6⟩; have H6 := Lib.hid (H5.out.below h6); have hcell6 : w6.cell? ⟨g, q, none⟩ = some (.int .i64 nq) := ((B5.out.trans (h6.mono B5.out.size)).cell (p := ⟨g, q, none⟩) HGL.out).trans HCE.out; clear h6)
                  | (go_at_call 21; (with_reducible refine (E3.out _ H6.out).mono ?_); rintro e w7 ⟨rfl, h7⟩; have H7 := Lib.hid (H6.out.below h7); clear h7))
                exact ⟨⟨q + 1, by omega, by go_num, H7.out⟩, by simp [intOf]; omega⟩
            · obtain rfl : q = j := by omega
              go_wp2_with (first
                | (go_at_call 13; (with_reducible refine (D4.out _ HQ.out).mono ?_); rintro e w5 ⟨rfl, h5⟩; have H5 := Lib.hid (HQ.out.below h5); clear h5)
                | (go_at_call 23; (with_reducible refine (DK.out _).mono ?_); rintro e w8 ⟨rfl, hb8⟩; have H8 := Lib.hid (H5.out.below hb8); clear hb8))
              go_ret
              exact ⟨rfl, H8.out.all⟩

set_option maxRecDepth 100000 in
theorem lifted (os : Os) (started : os.Started) (H : Type) (enc : TypeId × Value → H) :
    ReturnsInHanded {} Try.checked os 7 .any (Rows.clockOrderSpec.pre6 enc Try.prog Try.f7 Rows.clockOrderRow.domain false) (Rows.clockOrderSpec.post enc Try.prog Try.f7 false true false false) := by
  refine returnsInHanded_of_change (C := Try.checked) own started (by kernel_rfl) Try.func7
    (ChangeSpec.witness6 (enc := enc) (C := Try.checked) false ⟨#[], #[.int .i64 0, .int .i64 0], []⟩ 8 (by kernel_rfl) (by kernel_rfl) (by kernel_rfl) (by kernel_rfl)) ?_
  intro W base args ds gs before hval0 hW hcnd _
  have hval : ∀ (j : Nat) t v, Try.f7.params[j]? = some t → args[j]? = some v → Value.okWide Try.prog W .any base t v := hval0
  have hW' := hW
  obtain ⟨p, q, hA0, hV, rfl, hfz, hnd⟩ := hW
  have hA : DataW.TrodAll enc Try.prog W 0 (fun _ => true) true Try.f7.params.toList args.toList ds p := hA0
  rw [Try.params7] at hA hval
  obtain ⟨v0, vs0, d0, ds0, p0, q0, hargs, rfl, rfl, h0, r0⟩ := trodAll_cons hA
  obtain ⟨v1, vs1, d1, ds1, p1, q1, rfl, rfl, rfl, h1, r1⟩ := trodAll_cons r0
  obtain ⟨rfl, rfl, rfl⟩ := trodAll_nil r1
  obtain rfl : args = #[v0, v1] := by cases args; simp_all
  obtain ⟨rfl, rfl⟩ := trodVars_none hV
  obtain ⟨a0, rfl, rfl, rfl, w0⟩ := open_int Try.underlying3 (hval 0 3 v0 rfl rfl) h0
  obtain ⟨a1, rfl, rfl, rfl, w1⟩ := open_int Try.underlying3 (hval 1 3 v1 rfl rfl) h1
  clear hA0 hval0
  refine (walk a0 a1 W w0 w1).mono fun e W' ⟨he, bel⟩ => ?_
  subst he
  exact ⟨_, rfl, _, _, _, [], _, [], hW', trodAll_mk1 (shut_bool Try.underlying4 _), (trodAll_cons_mk (shut_int Try.underlying3 w0) (trodAll_cons_mk (shut_int Try.underlying3 w1) trodAll_mk0)), rfl, bel.frame _, fun h => by cases h⟩

theorem over : Rows.clockOrderRow.holds Try.pinned (OpenSpec.ofChange Rows.clockOrderSpec) :=
  OpenClaim.holds_of_wide 7 Try.f7 rfl rfl rfl rfl rfl rfl rfl ⟨rfl, rfl, rfl, rfl, rfl⟩ rfl rfl rfl rfl rfl (by kernel_rfl) Try.func7 (by kernel_rfl)
    (of_decide_eq_true (by kernel_rfl)) (by unfold Func.isWrapper; first | (rw [if_pos (by decide +kernel)]; kernel_rfl) | (rw [if_neg (by decide +kernel)]; exact ⟨rfl, rfl⟩))
    (fun os started H enc _ => lifted os started H enc)

theorem proved : Rows.ClockOrderSaid := over
#print axioms proved
end Go.Proofs.Ytpeecgieohbolaa.clockOrder
