/- may of chapter 9's laws. No condition. -/
import Derived.Test.YtmbbmgkbhfnchaaUo
namespace Go.Proofs.Ytmbbmgkbhfnchaa
set_option maxRecDepth 100000
set_option linter.unusedVariables false
open Go.ChangeShapes Go.WideShapes Go.ChangeAt Go.RowKit
open Fl (S)
open Val (V cmpV cmpI isB)
/-- Are the first 120 acts' values values? -/
def mayB (l : List Act9) : Bool := (l.take 120).all (fun a => isB a.x.v)
theorem mayB_bad {l : List Act9} {k : Nat} (h : k < l.length) (h2 : k < 120) (hb : isB l[k].x.v = false) : mayB l = false := by
  unfold mayB
  rw [List.all_eq_false]
  refine ⟨l[k], ?_, by rw [hb]; decide⟩
  rw [List.mem_take_iff_getElem]
  exact ⟨k, by omega, rfl⟩
theorem mayB_good {l : List Act9} {n : Nat} (hn : ¬ n < l.length ∨ ¬ n < 120) (h : ∀ k (hk : k < l.length), k < n → isB l[k].x.v = true) : mayB l = true := by
  unfold mayB
  rw [List.all_eq_true]
  intro a ha
  rw [List.mem_take_iff_getElem] at ha
  obtain ⟨k, hk, rfl⟩ := ha
  exact h k (by omega) (by omega)
theorem mayB_at {l : List Act9} (h : mayB l = true) {k : Nat} (hk : k < l.length) (h2 : k < 120) : isB l[k].x.v = true := by
  cases hb : isB l[k].x.v with
  | true => rfl
  | false => rw [mayB_bad hk h2 hb] at h; cases h
/-- In whatever world that has grown the acts read the same. -/
theorem SlK9.below {w w' : World} {s : Sl Act9} (h : SlK9 w s) (hb : Below w.heap.size w w') : SlK9 w' s := fun k hk => by
  obtain ⟨ad, e, c0, c1, c2, c3, c4, c5, c6, ok⟩ := h k hk
  exact ⟨ad, e, (hb.cell (World.block_lt_of_cell? w _ c0)).trans c0, (hb.cell (World.block_lt_of_cell? w _ c1)).trans c1, (hb.cell (World.block_lt_of_cell? w _ c2)).trans c2, (hb.cell (World.block_lt_of_cell? w _ c3)).trans c3, (hb.cell (World.block_lt_of_cell? w _ c4)).trans c4, (hb.cell (World.block_lt_of_cell? w _ c5)).trans c5, (hb.cell (World.block_lt_of_cell? w _ c6)).trans c6, ok⟩
set_option maxHeartbeats 2000000 in
theorem may9_any {w : World} (A : Option Addr) (l : List Act9) (cp : Nat) (hs : SlK9 w ⟨A, l, cp⟩) (hlen : l.length ≤ 10000) :
    Calls Try.prog 9 #[.slice A l.length cp] w fun e w' => e = .returned (.bool (mayB l)) ∧ Below w.heap.size w w' := by
  have HS := Lib.hid hs
  clear hs
  have hb2 : (l.length : Int) ≤ 10000 := by omega
  go_enter Try.func9, Try.ntmps9
  go_wp2
  go_loopw [3] (fun i wr => ∃ k : Nat, k ≤ l.length ∧ k ≤ 120 ∧ i = .int .i64 (k : Nat) ∧ Hid (∀ j (hj : j < l.length), j < k → isB l[j].x.v = true) ∧ Hid (Below w.heap.size w wr)) (fun i _ => 120 - (intOf i).toNat)
  case atStart => exact ⟨0, Nat.zero_le _, by omega, rfl, fun j hj h => absurd h (by omega), Below.refl _ _⟩
  case round =>
    obtain ⟨k, hk, hk2, rfl, HA, HB⟩ := hrel
    by_cases hlt : k < l.length ∧ k < 120
    · obtain ⟨hl1, hl2⟩ := hlt
      obtain ⟨ad, pk, hA, hpk, hok, hcc⟩ := act9_at HS.out (k := k) hl1
      simp only at hA hcc hpk hok
      subst hA
      have HF := Lib.hid (fun h => mayB_bad (l := l) hl1 hl2 h)
      have HG : Hid (isB l[k].x.v = true → ∀ j (hj : j < l.length), j < k + 1 → isB l[j].x.v = true) := by
        intro h j hj hjk
        rcases Nat.lt_or_eq_of_le (Nat.lt_succ_iff.1 hjk) with h1 | h1
        · exact HA.out j hj h1
        · subst h1; exact h
      have HIS := Lib.hid (fun W => ris_any l[k].x.v hok.t W)
      obtain ⟨c0, c1, c2, c3, c4, c5, c6⟩ := hcc _ HB.out
      clear hcc hok
      obtain ⟨x, hx⟩ : ∃ x, x = l[k] := ⟨_, rfl⟩
      rw [← hx] at c0 c1 c2 c3 c4 c5 c6 HF HG HIS
      clear hx
      obtain ⟨kd, ⟨⟨xk, xb, xn, xf, xt⟩, xi⟩⟩ := x
      simp only at c0 c1 c2 c3 c4 c5 c6 HF HG HIS
      cases hi : isB ⟨xk, xb, xn, xf, xt⟩
      · simp only [hi] at HIS HF
        go_wp2_with (go_at_call 21; (with_reducible refine (HIS.out _).mono ?_); rintro e w2 ⟨rfl, hb⟩; have B2 := Lib.hid hb; clear hb)
        go_ret
        exact ⟨ret_b (HF.out trivial).symm, HB.out.trans (B2.out.mono HB.out.size)⟩
      · simp only [hi] at HIS HG
        go_wp2_with (go_at_call 21; (with_reducible refine (HIS.out _).mono ?_); rintro e w2 ⟨rfl, hb⟩; have B2 := Lib.hid hb; clear hb)
        exact ⟨⟨k + 1, by omega, by omega, by go_num, HG.out trivial, HB.out.trans (B2.out.mono HB.out.size)⟩, by simp [intOf]; omega⟩
    · have HE := Lib.hid (mayB_good (n := k) (by omega) HA.out)
      have hend : ¬ k < l.length ∨ (k < l.length ∧ k = 120) := by omega
      clear hlt
      rcases hend with h1 | ⟨h1, h2⟩
      · go_wp2
        go_ret
        exact ⟨ret_b HE.out.symm, HB.out⟩
      · subst h2
        go_wp2
        go_ret
        exact ⟨ret_b HE.out.symm, HB.out⟩
/-- may, whatever the acts' number. -/
theorem may9_all {w : World} (A : Option Addr) (l : List Act9) (cp : Nat) (hs : SlK9 w ⟨A, l, cp⟩) :
    Calls Try.prog 9 #[.slice A l.length cp] w fun e w' => e = .returned (.bool (decide (l.length ≤ 10000) && mayB l)) ∧ Below w.heap.size w w' := by
  by_cases h : l.length ≤ 10000
  · rw [decide_eq_true h, Bool.true_and]
    exact may9_any A l cp hs h
  · rw [decide_eq_false h, Bool.false_and]
    have hb2 : (10000 : Int) < (l.length : Int) := by omega
    go_enter Try.func9, Try.ntmps9
    go_wp2
    go_ret
    exact ⟨rfl, Below.refl _ _⟩
end Go.Proofs.Ytmbbmgkbhfnchaa
