/- What Sweep and Undo of package cell make of a Cell. Conditions: the Cell and its Clock lie in memory. -/
import Derived.Test.YtpjjpjdamieeeaaPc
namespace Go.Proofs.Ytpjjpjdamieeeaa
set_option maxRecDepth 100000
set_option linter.unusedVariables false
open Go.ChangeShapes Go.WideShapes Go.ChangeAt Go.RowKit
section
variable {F R : Nat → Prop} {w : World} {a b : Nat} {c : Ck} {l : List (Ver Int)}
theorem csweep_nil (w : World) (q : Option Addr) : Calls Try.prog 19 #[.pointer none, .pointer q] w fun e w' => e = .returned (.bool false) ∧ Below w.heap.size w w' := by
  have HS := Lib.hid (cspare_nil w q)
  go_enter Try.func19, Try.ntmps19
  go_wp2_with (go_at_call 20; (with_reducible refine HS.out.mono ?_); rintro e w1 ⟨rfl, hb1⟩)
  go_ret
  exact ⟨rfl, hb1⟩
/-- The front is cleared and cut off. -/
theorem CM.cut {y : Ver Int} {r : List (Ver Int)} {g o cp : Nat} (h : CM F w a (.slice (some ⟨g, o, none⟩) (r.length + 1) cp) (y :: r)) :
    ∃ A n c', (cp = 1 → A = ⟨g, o, none⟩ ∧ n = 0 ∧ c' = 0 ∧ r = []) ∧ (cp ≠ 1 → A = ⟨g, o + 3, none⟩ ∧ n = r.length ∧ c' = cp - 1) ∧ CM F ((w.setCells g o [.int .i64 0, .int .i64 0, .bool false]).setCell ⟨a, 0, none⟩ (.slice (some A) n c')) a (.slice (some A) n c') r ∧ Chg F w ((w.setCells g o [.int .i64 0, .int .i64 0, .bool false]).setCell ⟨a, 0, none⟩ (.slice (some A) n c'))
      ∧ (w.setCells g o [.int .i64 0, .int .i64 0, .bool false]).cell? ⟨a, 0, none⟩ = some (.slice (some ⟨g, o, none⟩) (r.length + 1) cp) ∧ ∀ j, (w.setCells g o [.int .i64 0, .int .i64 0, .bool false]).frozen? ⟨a, j, none⟩ = false := by
  have hst := ORow.storeds (o := o) [.int .i64 0, .int .i64 0, .bool false] w (pvs (y :: r)) 0 h.r1 (by simp; omega)
  simp only [Nat.add_zero] at hst
  obtain ⟨h1, h2⟩ := hst
  generalize hV : w.setCells g o [.int .i64 0, .int .i64 0, .bool false] = V at *
  have hne : g ≠ a := fun e => by
    obtain ⟨cur, q⟩ := h.r1.type (k := g) rfl
    have := h.blk
    rw [← e, q] at this
    injection this with this; injection this with _ this; cases this
  have hba : V.heap[a]? = w.heap[a]? := h2.block a (h.lt a h.fa) (fun e => by injection e with e; exact hne e.symm)
  have hc : Chg F w V := (Chg.refl F w).grown h2 (fun k e => by injection e with e; subst e; exact .inl (h.f1 g rfl))
  have hin := h.cellsIn hba
  have e3 : splice (pvs (y :: r)) 0 [.int .i64 0, .int .i64 0, .bool false] = pvs (⟨0, 0, false⟩ :: r) := by
    simp [splice, pvs, pv, kv]
  rw [e3] at h1
  have ht := tail_row (y := ⟨0, 0, false⟩) (r := r) (W := V) (g := g) (o := o) (cp := cp) h1
  have same : ∀ A n c', CM (Nu F w (V.setCell ⟨a, 0, none⟩ (.slice (some A) n c'))) (V.setCell ⟨a, 0, none⟩ (.slice (some A) n c')) a (.slice (some A) n c') r → CM F (V.setCell ⟨a, 0, none⟩ (.slice (some A) n c')) a (.slice (some A) n c') r := fun A n c' hm => hm.same (fun k hk => by
    rcases hk with hk | hk
    · exact hk
    · have hz : (V.setCell ⟨a, 0, none⟩ (.slice (some A) n c')).heap.size = V.heap.size := by simp [World.setCell]
      have hz2 : V.heap.size = w.heap.size := by rw [← hV]; simp [World.setCells, World.setCell]
      omega) (fun k hk => hm.lt k (.inl hk)) (fun _ _ => rfl)
  by_cases hc1 : cp = 1
  · obtain ⟨hr, hrow⟩ := ht.1 hc1
    subst hr
    have hp := h.put hc hba (l' := []) hrow rfl (fun k hk => .inl (h.f1 k hk))
    exact ⟨⟨g, o, none⟩, 0, 0, fun _ => ⟨rfl, rfl, rfl, rfl⟩, fun h => absurd hc1 h, same _ _ _ hp.1, hp.2, hin⟩
  · have hp := h.put hc hba (l' := r) (ht.2 hc1) rfl (fun k hk => .inl (h.f1 k hk))
    exact ⟨⟨g, o + 3, none⟩, r.length, cp - 1, fun h => absurd h hc1, fun _ => ⟨rfl, rfl, rfl⟩, same _ _ _ hp.1, hp.2, hin⟩
theorem csweep_any (h : CC F w a l) (hr : PC R w b c) :
    Calls Try.prog 19 #[.pointer (some ⟨a, 0, none⟩), .pointer (some ⟨b, 0, none⟩)] w (DoesC F w a (.bool (Ver.spare c l)) (Ver.swS c l)) := by
  have H := Lib.hid h
  have HS := cspare_any h hr
  unfold Ver.swS
  cases hsp : Ver.spare c l with
  | false =>
    rw [hsp] at HS
    simp only [Bool.false_eq_true, if_false] at HS ⊢
    have HS := Lib.hid HS
    clear hsp h hr
    go_enter Try.func19, Try.ntmps19
    go_wp2_with (go_at_call 20; (with_reducible refine HS.out.mono ?_); rintro e w1 ⟨rfl, hb1⟩)
    go_ret
    exact doesC_of (H.out.below hb1) (Chg.below hb1) H.out.lt
  | true =>
    rw [hsp] at HS
    simp only [if_true] at HS ⊢
    have HS := Lib.hid HS
    cases l with
    | nil => cases hsp
    | cons y r =>
      obtain ⟨v1, hm⟩ := h
      obtain ⟨g, o, cp, hv, hcp, _⟩ := hm.row (k := 0) (by simp)
      rw [List.length_cons] at hv hcp
      subst hv
      have HM := Lib.hid (fun W (hW : Below w.heap.size w W) => hm.below hW)
      have h1l : (1 : Int) ≤ (r.length : Int) + 1 := by omega
      have h1c : 1 ≤ cp := by omega
      have h1z : 0 < r.length + 1 := by omega
      rw [List.tail_cons]
      clear hsp hr hm
      by_cases hc1 : cp = 1
      case' neg => have hc2 : ¬ cp - 1 = 0 := by omega
      all_goals (
        go_enter Try.func19, Try.ntmps19
        go_upto_region 4 with (go_at_call 20; (with_reducible refine HS.out.mono ?_); rintro e W ⟨rfl, hb1⟩; have HB1 := Lib.hid hb1; obtain ⟨k0, kf⟩ := (HM.out W hb1).cells; obtain ⟨q0, q1, q2, qf⟩ := orow_at (HM.out W hb1).r1 (k := 0) (by simp); simp only [Nat.zero_mul, Nat.add_zero] at q0 q1 q2; clear hb1)
        rw [show (((W.setCell ⟨g, o, none⟩ (.int .i64 0)).setCell ⟨g, o + 1, none⟩ (.int .i64 0)).setCell ⟨g, o + 2, none⟩ (.bool false)) = W.setCells g o [.int .i64 0, .int .i64 0, .bool false] from rfl]
        have HM1 := Lib.hid (HM.out W HB1.out)
        clear k0 kf q0 q1 q2 qf)
      · obtain ⟨A, n, c', _, hA, hCM, hCH, j0, jf⟩ := HM1.out.cut
        obtain ⟨rfl, rfl, rfl⟩ := hA hc1
        have HCM := Lib.hid hCM
        have HCH := Lib.hid hCH
        clear hA hCM hCH
        generalize W.setCells g o [.int .i64 0, .int .i64 0, .bool false] = V at *
        go_wp2
        go_ret
        exact doesC_of ⟨_, HCM.out⟩ ((Chg.below HB1.out).trans (HCH.out.mono (fun k hk => .inl hk))) H.out.lt
      · subst hc1
        obtain ⟨A, n, c', hA, _, hCM, hCH, j0, jf⟩ := HM1.out.cut
        obtain ⟨rfl, rfl, rfl, rfl⟩ := hA rfl
        have HCM := Lib.hid hCM
        have HCH := Lib.hid hCH
        clear hA hCM hCH
        generalize W.setCells g o [.int .i64 0, .int .i64 0, .bool false] = V at *
        go_wp2
        go_ret
        exact doesC_of ⟨_, HCM.out⟩ ((Chg.below HB1.out).trans (HCH.out.mono (fun k hk => .inl hk))) H.out.lt
end
end Go.Proofs.Ytpjjpjdamieeeaa
