/- ligaturelaw6.ClockPlays, walked: it returns true for every slice of acts. No condition. -/
import Derived.Test.YtpeecgieohbolaaKu
namespace Go.Proofs.Ytpeecgieohbolaa
set_option maxRecDepth 100000
set_option linter.unusedVariables false
open Go.ChangeShapes Go.WideShapes Go.ChangeAt Go.RowKit
set_option maxHeartbeats 8000000 in
theorem plays_any {w : World} (A : Option Addr) (l : List Act6) (cp : Nat) (hs : SlK w ⟨A, l, cp⟩) :
    Calls Try.prog 3 #[.slice A l.length cp] w fun e w' => e = .returned (.bool true) ∧ Below w.heap.size w w' := by
  have HS := Lib.hid hs
  clear hs
  by_cases hbig : 10000 < l.length
  · have hb2 : (10000 : Int) < (l.length : Int) := by omega
    go_enter Try.func3, Try.ntmps3
    go_wp2
    go_ret
    exact ⟨rfl, Below.refl _ _⟩
  · have hb2 : (l.length : Int) ≤ 10000 := by omega
    have hlen : l.length ≤ 10000 := by omega
    clear hbig
    have HN := Lib.hid (new_any w)
    have DK := Lib.hid known_any
    go_enter Try.func3, Try.ntmps3
    go_wp2_with (go_at_call 9; (with_reducible refine HN.out.mono ?_); rintro e w1 ⟨rfl, h1, hb1⟩; have H1 := Lib.hid (duo_new (Below.refl _ _) h1 hb1); clear h1 hb1)
    clear HN
    go_loopw [5, 6] (fun n i wr => ∃ (k m : Nat) (c : Ck), k ≤ l.length ∧ k ≤ 60 ∧ m ≤ k ∧ n = .int .i64 (m : Nat) ∧ i = .int .i64 (k : Nat) ∧ Hid (c.l.length ≤ k ∧ c.n ≤ k) ∧ Hid (Duo (fun _ => False) w wr w.heap.size w1.heap.size c c)) (fun _ i _ => 60 - (intOf i).toNat)
    case atStart => exact ⟨0, 0, Ck.new, Nat.zero_le _, by omega, by omega, rfl, rfl, ⟨by decide, by decide⟩, H1.out⟩
    case round =>
      obtain ⟨k, m, c, hk, hk60, hmk, rfl, rfl, HC, HD⟩ := hrel
      clear H1
      by_cases hlt : k < l.length ∧ k < 60
      · obtain ⟨hl1, hl2⟩ := hlt
        obtain ⟨ad, pk, hA, hpk, hcc⟩ := act6_at HS.out (k := k) hl1
        simp only at hA hcc hpk
        subst hA
        obtain ⟨x, hx⟩ : ∃ x, x = l[k] := ⟨_, rfl⟩
        rw [← hx] at hcc
        have HCC := Lib.hid hcc
        obtain ⟨c0, c1⟩ := hcc wr HD.out.all
        have HA := Lib.hid (act_any HD.out x.kind x.t (by have := HC.out; omega) (by have := HC.out; omega))
        have HL := Lib.hid (actS_len c x.kind x.t)
        clear hx hcc
        obtain ⟨kd, tt⟩ := x
        simp only at c0 c1 HA HL HCC
        obtain ⟨c', hc'⟩ : ∃ c', c' = actS c kd tt := ⟨_, rfl⟩
        rw [← hc'] at HA HL
        clear hc'
        have C1 := Lib.hid (fun W (h : Duo (fun _ => False) w W w.heap.size w1.heap.size c' c') => sys_count h.sys)
        have C2 := Lib.hid (fun W (h : Duo (fun _ => False) w W w.heap.size w1.heap.size c' c') => (show Calls Try.prog 12 #[.pointer (some ⟨w1.heap.size, 0, none⟩)] W _ from by obtain ⟨R, hr⟩ := h.ref; exact rcount_any hr))
        have HB : Hid (c'.l.length ≤ k + 1 ∧ c'.n ≤ k + 1) := by have h1 := HC.out; have h2 := HL.out; exact ⟨by omega, by omega⟩
        by_cases hk1 : kd = 1
        · subst hk1
          go_wp2_with (first
            | (go_at_call 10; (with_reducible refine HA.out.mono ?_); rintro e w2 ⟨rfl, h2, e2⟩; have H2 := Lib.hid h2; obtain ⟨d0, d1⟩ := HCC.out w2 h2.all; clear h2 e2)
            | (go_at_call 11; (with_reducible refine (C1.out _ H2.out).mono ?_); rintro e w3 ⟨rfl, h3⟩; have H3 := Lib.hid (H2.out.below h3).1; clear h3)
            | (go_at_call 12; (with_reducible refine (C2.out _ H3.out).mono ?_); rintro e w4 ⟨rfl, rfl⟩))
          exact ⟨⟨k + 1, m + 1, c', by omega, by omega, by omega, by go_num, by go_num, HB.out, H3.out⟩, by simp [intOf]; omega⟩
        · have hq1 : (kd == 1) = false := by simpa using hk1
          go_wp2_with (first
            | (go_at_call 10; (with_reducible refine HA.out.mono ?_); rintro e w2 ⟨rfl, h2, e2⟩; have H2 := Lib.hid h2; obtain ⟨d0, d1⟩ := HCC.out w2 h2.all; clear h2 e2)
            | (go_at_call 11; (with_reducible refine (C1.out _ H2.out).mono ?_); rintro e w3 ⟨rfl, h3⟩; have H3 := Lib.hid (H2.out.below h3).1; clear h3)
            | (go_at_call 12; (with_reducible refine (C2.out _ H3.out).mono ?_); rintro e w4 ⟨rfl, rfl⟩))
          exact ⟨⟨k + 1, m, c', by omega, by omega, by omega, rfl, by go_num, HB.out, H3.out⟩, by simp [intOf]; omega⟩
      · have hend : ¬ k < l.length ∨ (k < l.length ∧ k = 60) := by omega
        have D1 := Lib.hid (fun W (h : Duo (fun _ => False) w W w.heap.size w1.heap.size c c) t => sys_live h.sys t)
        have D2 := Lib.hid (fun W (h : Duo (fun _ => False) w W w.heap.size w1.heap.size c c) t => (show Calls Try.prog 14 #[.pointer (some ⟨w1.heap.size, 0, none⟩), .int .i64 t] W _ from by obtain ⟨R, hr⟩ := h.ref; exact rlive_any hr t))
        have D3 := Lib.hid (fun W (h : Duo (fun _ => False) w W w.heap.size w1.heap.size c c) t => sys_aborted h.sys t)
        have D4 := Lib.hid (fun W (h : Duo (fun _ => False) w W w.heap.size w1.heap.size c c) t => (show Calls Try.prog 16 #[.pointer (some ⟨w1.heap.size, 0, none⟩), .int .i64 t] W _ from by obtain ⟨R, hr⟩ := h.ref; exact raborted_any hr t))
        have D5 := Lib.hid (fun W (h : Duo (fun _ => False) w W w.heap.size w1.heap.size c c) t => sys_settled h.sys t)
        have D6 := Lib.hid (fun W (h : Duo (fun _ => False) w W w.heap.size w1.heap.size c c) t => (show Calls Try.prog 18 #[.pointer (some ⟨w1.heap.size, 0, none⟩), .int .i64 t] W _ from by obtain ⟨R, hr⟩ := h.ref; exact rsettled_any hr t))
        have D7 := Lib.hid (fun W (h : Duo (fun _ => False) w W w.heap.size w1.heap.size c c) t u => sys_sees h.sys t u)
        have D8 := Lib.hid (fun W (h : Duo (fun _ => False) w W w.heap.size w1.heap.size c c) t u => (show Calls Try.prog 20 #[.pointer (some ⟨w1.heap.size, 0, none⟩), .int .i64 t, .int .i64 u] W _ from by obtain ⟨R, hr⟩ := h.ref; exact rsees_any hr t u))
        have D9 := Lib.hid (fun W (h : Duo (fun _ => False) w W w.heap.size w1.heap.size c c) t u => sys_clashes h.sys t u)
        have D10 := Lib.hid (fun W (h : Duo (fun _ => False) w W w.heap.size w1.heap.size c c) t u => (show Calls Try.prog 22 #[.pointer (some ⟨w1.heap.size, 0, none⟩), .int .i64 t, .int .i64 u] W _ from by obtain ⟨R, hr⟩ := h.ref; exact rclashes_any hr t u))
        clear hlt HC
        rcases hend with h1 | ⟨h1, h2⟩
        case' inr => subst h2
        all_goals (
          go_wp2
          go_loopw [7, 8] (fun z _ wr => ∃ p : Nat, p ≤ m + 3 ∧ z = .int .i64 ((p : Int) - 1) ∧ Hid (Duo (fun _ => False) w wr w.heap.size w1.heap.size c c)) (fun z _ _ => m + 3 - ((intOf z) + 1).toNat)
          case atStart => exact ⟨0, by omega, by go_num, HD.out⟩
          case round =>
            obtain ⟨p, hp, rfl, HE⟩ := hrel
            by_cases hle : p ≤ m + 2
            · have hle2 : (p : Int) - 1 ≤ (m : Int) + 1 := by omega
              generalize hz : (p : Int) - 1 = z at *
              have HZ := Lib.hid hz
              have hz2 : z ≤ 100 ∧ -1 ≤ z := by omega
              clear hz
              go_wp2_with (first
                | (go_at_call 13; (with_reducible refine (D1.out _ HE.out _).mono ?_); rintro e w3 ⟨rfl, h3⟩; have H3 := Lib.hid (HE.out.below h3).1; clear h3)
                | (go_at_call 14; (with_reducible refine (D2.out _ H3.out _).mono ?_); rintro e w4 ⟨rfl, rfl⟩)
                | (go_at_call 15; (with_reducible refine (D3.out _ H3.out _).mono ?_); rintro e w4 ⟨rfl, h4⟩; have H4 := Lib.hid (H3.out.below h4).1; clear h4)
                | (go_at_call 16; (with_reducible refine (D4.out _ H4.out _).mono ?_); rintro e w5 ⟨rfl, rfl⟩)
                | (go_at_call 17; (with_reducible refine (D5.out _ H4.out _).mono ?_); rintro e w5 ⟨rfl, h5⟩; have H5 := Lib.hid (H4.out.below h5).1; clear h5)
                | (go_at_call 18; (with_reducible refine (D6.out _ H5.out _).mono ?_); rintro e w6 ⟨rfl, h6⟩; have H6 := Lib.hid (H5.out.below h6).1; clear h6))
              have HZ1 : Hid (z + 1 = ((p + 1 : Nat) : Int) - 1) := by simp only [Hid]; have := HZ.out; omega
              clear H3 H4 H5
              go_loopw [8] (fun z2 wr => ∃ q : Nat, q ≤ m + 3 ∧ z2 = .int .i64 ((q : Int) - 1) ∧ Hid (Duo (fun _ => False) w wr w.heap.size w1.heap.size c c)) (fun z2 _ => m + 3 - ((intOf z2) + 1).toNat)
              case atStart => exact ⟨0, by omega, by go_num, H6.out⟩
              case round =>
                obtain ⟨q, hq, rfl, HF⟩ := hrel
                clear H6
                by_cases hqe : q ≤ m + 2
                · have hqe2 : (q : Int) - 1 ≤ (m : Int) + 1 := by omega
                  generalize hy : (q : Int) - 1 = y at *
                  have HY := Lib.hid hy
                  have hy2 : y ≤ 100 ∧ -1 ≤ y := by omega
                  have HY1 : Hid (y + 1 = ((q + 1 : Nat) : Int) - 1) := by simp only [Hid]; omega
                  clear hy
                  go_wp2_with (first
                    | (go_at_call 19; (with_reducible refine (D7.out _ HF.out _ _).mono ?_); rintro e w3 ⟨rfl, h3⟩; have H3 := Lib.hid (HF.out.below h3).1; clear h3)
                    | (go_at_call 20; (with_reducible refine (D8.out _ H3.out _ _).mono ?_); rintro e w4 ⟨rfl, rfl⟩)
                    | (go_at_call 21; (with_reducible refine (D9.out _ H3.out _ _).mono ?_); rintro e w4 ⟨rfl, h4⟩; have H4 := Lib.hid (H3.out.below h4).1; clear h4)
                    | (go_at_call 22; (with_reducible refine (D10.out _ H4.out _ _).mono ?_); rintro e w5 ⟨rfl, h5⟩; have H5 := Lib.hid (H4.out.below h5).1; clear h5))
                  exact ⟨⟨q + 1, by omega, by rw [HY1.out], H5.out⟩, by simp [intOf]; have := HY.out; omega⟩
                · obtain rfl : q = m + 3 := by omega
                  have hqe2 : ¬ ((m + 3 : Nat) : Int) - 1 ≤ (m : Int) + 1 := by omega
                  go_wp2
                  exact ⟨⟨p + 1, by omega, by rw [HZ1.out], HF.out⟩, by simp [intOf]; have := HZ.out; omega⟩
            · obtain rfl : p = m + 3 := by omega
              have hle2 : ¬ ((m + 3 : Nat) : Int) - 1 ≤ (m : Int) + 1 := by omega
              go_wp2_with (go_at_call 23; (with_reducible refine (DK.out _).mono ?_); rintro e w8 ⟨rfl, hb8⟩; have H8 := Lib.hid (HE.out.below hb8).1; clear hb8)
              go_ret
              exact ⟨rfl, H8.out.all⟩)
end Go.Proofs.Ytpeecgieohbolaa
