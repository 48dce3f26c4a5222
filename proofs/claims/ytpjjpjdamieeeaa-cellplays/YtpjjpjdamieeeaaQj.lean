/- ligaturelaw7.CellPlays, walked: it returns true for every slice of acts. No condition. -/
import Derived.Test.YtpjjpjdamieeeaaQi
namespace Go.Proofs.Ytpjjpjdamieeeaa
set_option maxRecDepth 100000
set_option linter.unusedVariables false
open Go.ChangeShapes Go.WideShapes Go.ChangeAt Go.RowKit
set_option maxHeartbeats 8000000 in
theorem plays7_any {w : World} (A : Option Addr) (al : List Act7) (cp : Nat) (hs : SlK7 w ⟨A, al, cp⟩) :
    Calls Try.prog 3 #[.slice A al.length cp] w fun e w' => e = .returned (.bool true) ∧ Below w.heap.size w w' := by
  have HS := Lib.hid hs
  clear hs
  by_cases hbig : 10000 < al.length
  · have hb2 : (10000 : Int) < (al.length : Int) := by omega
    go_enter Try.func3, Try.ntmps3
    go_wp2
    go_ret
    exact ⟨rfl, Below.refl _ _⟩
  · have hb2 : (al.length : Int) ≤ 10000 := by omega
    have hlen : al.length ≤ 10000 := by omega
    clear hbig
    have HN := Lib.hid (begin7_any w)
    have DK := Lib.hid known7_any
    go_enter Try.func3, Try.ntmps3
    go_wp2_with (go_at_call 11; (with_reducible refine HN.out.mono ?_); rintro e w1 ⟨z, a, x, d, y, rfl, hwd⟩; have H1 := Lib.hid hwd; clear hwd)
    clear HN
    go_loopw [4] (fun i wr => ∃ (k : Nat) (c : Ck) (l : List (Ver Int)) (n : Int), k ≤ al.length ∧ k ≤ 60 ∧ i = .int .i64 (k : Nat) ∧ Hid (Gd c l n k) ∧ Hid (Wd w wr z a x d y c l n)) (fun i _ => 60 - (intOf i).toNat)
    case atStart => exact ⟨0, Ck.new, [], 0, Nat.zero_le _, by omega, rfl, gd_new, H1.out⟩
    case round =>
      obtain ⟨k, c, l, n, hk, hk60, rfl, HG, HD⟩ := hrel
      clear H1
      by_cases hlt : k < al.length ∧ k < 60
      · obtain ⟨hl1, hl2⟩ := hlt
        obtain ⟨ad, pk, hA, hpk, hcc⟩ := act7_at HS.out (k := k) hl1
        simp only at hA hcc hpk
        subst hA
        obtain ⟨q, hq⟩ : ∃ q, q = al[k] := ⟨_, rfl⟩
        rw [← hq] at hcc
        obtain ⟨c0, c1, c2, c3⟩ := hcc wr HD.out.q.all
        have HA := Lib.hid (act7_any HD.out HG.out.inv q.kind q.t q.v q.g (by have := HG.out.cn; omega) (by have := HG.out.cl; omega) (by have := HG.out.vl; omega))
        have HL := Lib.hid (gd_step HG.out HD.out.q.ok q.kind q.t q.v q.g)
        clear hq hcc
        obtain ⟨kd, tt, vv, gg⟩ := q
        simp only at c0 c1 c2 c3 HA HL
        have HK := Lib.hid (fun W (hW : Wd w W z a x d y (aC c kd tt) (aL c kd tt vv gg l) (aN c kd n)) => alike_any hW HL.out (by omega))
        go_wp2_with (first
          | (go_at_call 12; (with_reducible refine HA.out.mono ?_); rintro e w2 ⟨rfl, h2⟩; have H2 := Lib.hid h2; clear h2)
          | (go_at_call 13; (with_reducible refine (HK.out _ H2.out).mono ?_); rintro e w3 ⟨rfl, hb3⟩; have H3 := Lib.hid (H2.out.wq.below hb3).wd; clear hb3))
        exact ⟨⟨k + 1, _, _, _, by omega, by omega, by go_num, HL.out, H3.out⟩, by simp [intOf]; omega⟩
      · have hend : ¬ k < al.length ∨ (k < al.length ∧ k = 60) := by omega
        clear hlt
        rcases hend with h1 | ⟨h1, h2⟩
        case' inr => subst h2
        all_goals (
          go_wp2_with (go_at_call 14; (with_reducible refine (DK.out _).mono ?_); rintro e w9 ⟨rfl, hb9⟩; have H9 := Lib.hid (HD.out.wq.below hb9); clear hb9)
          go_ret
          exact ⟨rfl, H9.out.1.all⟩)
end Go.Proofs.Ytpjjpjdamieeeaa
