/- What Aborted, Sees, Clashes, Settled and Count of the reference's Clock return. Conditions: the Clock lies in memory. -/
import Derived.Test.YtpjjpjdamieeeaaKr
namespace Go.Proofs.Ytpjjpjdamieeeaa
set_option maxRecDepth 100000
set_option linter.unusedVariables false
open Go.ChangeShapes Go.WideShapes Go.ChangeAt Go.RowKit
theorem zero_beq (m : Nat) : ((m : Int) == 0) = decide (m = 0) := by
  by_cases h : m = 0
  · subst h; rfl
  · rw [decide_eq_false h, beq_eq_false_iff_ne]; omega
section
variable {F : Nat → Prop} {w : World} {a : Nat} {c : Ck}
theorem rsees_any (h : RC F w a c) (t b : Int) :
    Calls Try.prog 62 #[.pointer (some ⟨a, 0, none⟩), .int .i64 t, .int .i64 b] w fun e w' => e = .returned (.bool (c.sees t b)) ∧ w = w' := by
  have HI := is_any h t
  have HJ := is_any h b
  obtain ⟨hok, v1, h⟩ := h
  obtain ⟨k0, k1, kf⟩ := h.cells
  rcases has_split (c := c) (t := t) with ⟨p1, k, ht1, hk, hx⟩ | ⟨p1, _⟩
  · rw [p1] at HI
    have HI := Lib.hid HI
    rcases has_split (c := c) (t := b) with ⟨p2, m, hb1, hm, hy⟩ | ⟨p2, _⟩
    · rw [p2] at HJ
      have HJ := Lib.hid HJ
      have e : c.sees t b = (decide (t = b) || (decide (0 < c.l[m].com) && decide (c.l[m].com ≤ c.l[k].mark))) := by unfold Ck.sees; rw [p1, p2, hx hk, hy hm]; rfl
      rw [e]
      obtain rfl : t = (k : Int) + 1 := by omega
      obtain rfl : b = (m : Int) + 1 := by omega
      obtain ⟨g, cp, rfl, _, q0, q1, q2, qf⟩ := h.row hk
      obtain ⟨g', cp', hgg, _, r0, r1, r2, rf⟩ := h.row hm
      injection hgg with hgg _ _
      injection hgg with hgg
      injection hgg with hgg
      subst hgg
      have hbig := h.big
      have hi5 : IntKind.i64.wrap (k : Int) = (k : Int) := wrapI (by omega)
      have hi6 : IntKind.i64.wrap (m : Int) = (m : Int) := wrapI (by omega)
      have HKM : Hid (((k : Int) + 1 = (m : Int) + 1) ↔ k = m) := by simp only [Hid]; omega
      generalize c.l[k] = x at *
      generalize c.l[m] = y at *
      clear h hok e hx hy ht1 hb1 p1 p2
      by_cases hkm : (k : Int) + 1 = (m : Int) + 1
      · rw [decide_eq_true hkm]
        have d1 : ((k : Int) + 1 == (m : Int) + 1) = true := by rw [hkm]; simp
        have d2 : ((k : Int) == (m : Int)) = true := by rw [beq_iff_eq]; omega
        go_enter Try.func62, Try.ntmps62
        go_wp2_with (first
          | (go_at_call 45; (with_reducible refine HI.out.mono ?_); rintro e w' ⟨rfl, rfl⟩)
          | (go_at_call 45; (with_reducible refine HJ.out.mono ?_); rintro e w' ⟨rfl, rfl⟩))
        go_ret
        exact ⟨ret_b (by simp), rfl⟩
      · rw [decide_eq_false hkm]
        have d1 : ((k : Int) + 1 == (m : Int) + 1) = false := by rw [beq_eq_false_iff_ne]; exact hkm
        have d2 : ((k : Int) == (m : Int)) = false := by rw [beq_eq_false_iff_ne]; omega
        by_cases h0 : 0 < y.com
        · rw [decide_eq_true h0]
          go_enter Try.func62, Try.ntmps62
          go_wp2_with (first
            | (go_at_call 45; (with_reducible refine HI.out.mono ?_); rintro e w' ⟨rfl, rfl⟩)
            | (go_at_call 45; (with_reducible refine HJ.out.mono ?_); rintro e w' ⟨rfl, rfl⟩))
          go_ret
          exact ⟨ret_b (by simp), rfl⟩
        · rw [decide_eq_false h0]
          go_enter Try.func62, Try.ntmps62
          go_wp2_with (first
            | (go_at_call 45; (with_reducible refine HI.out.mono ?_); rintro e w' ⟨rfl, rfl⟩)
            | (go_at_call 45; (with_reducible refine HJ.out.mono ?_); rintro e w' ⟨rfl, rfl⟩))
          go_ret
          exact ⟨ret_b (by simp), rfl⟩
    · rw [p2] at HJ
      have HJ := Lib.hid HJ
      have e : c.sees t b = false := by unfold Ck.sees; rw [p1, p2]; rfl
      rw [e]
      clear h hok e p1 p2 hx ht1
      go_enter Try.func62, Try.ntmps62
      go_wp2_with (first
        | (go_at_call 45; (with_reducible refine HI.out.mono ?_); rintro e w' ⟨rfl, rfl⟩)
        | (go_at_call 45; (with_reducible refine HJ.out.mono ?_); rintro e w' ⟨rfl, rfl⟩))
      go_ret
      exact ⟨rfl, rfl⟩
  · rw [p1] at HI
    have HI := Lib.hid HI
    have e : c.sees t b = false := by unfold Ck.sees; rw [p1]; rfl
    rw [e]
    clear h hok e p1 HJ
    go_enter Try.func62, Try.ntmps62
    go_wp2_with (go_at_call 45; (with_reducible refine HI.out.mono ?_); rintro e w' ⟨rfl, rfl⟩)
    go_ret
    exact ⟨rfl, rfl⟩
theorem rcount_any (h : RC F w a c) :
    Calls Try.prog 21 #[.pointer (some ⟨a, 0, none⟩)] w fun e w' => e = .returned (.int .i64 (c.cnt : Nat)) ∧ w = w' := by
  obtain ⟨hok, v1, h⟩ := h
  obtain ⟨k0, k1, kf⟩ := h.cells
  have HM := Lib.hid h
  have hbig := h.big
  obtain ⟨A, cp, rfl⟩ := own_slice h.r1
  clear h hok
  go_enter Try.func21, Try.ntmps21
  go_wp2
  go_loopw [3, 4] (fun n i wr => ∃ k : Nat, k ≤ c.l.length ∧ n = .int .i64 (((c.l.take k).countP (·.live) : Nat) : Int) ∧ i = .int .i64 k ∧ wr = w) (fun _ i _ => c.l.length - (intOf i).toNat)
  case atStart => exact ⟨0, Nat.zero_le _, by simp, rfl, rfl⟩
  case round =>
    obtain ⟨k, hk, rfl, rfl, rfl⟩ := hrel
    by_cases hlt : k < c.l.length
    · obtain ⟨g, cp', hgg, _, q0, q1, q2, qf⟩ := HM.out.row hlt
      injection hgg with hgg _ hcp
      subst hgg
      subst hcp
      have HT : Hid ((c.l.take (k + 1)).countP (·.live) = (c.l.take k).countP (·.live) + if c.l[k].live then 1 else 0) := by
        simp only [Hid]
        rw [List.take_add_one, List.getElem?_eq_getElem hlt, Option.toList_some, List.countP_append, List.countP_singleton]
      have hcl : (c.l.take k).countP (·.live) ≤ 9223372036854775806 := by
        have := List.countP_le_length (p := fun x : Tx => x.live) (l := c.l.take k)
        rw [List.length_take] at this
        omega
      generalize (c.l.take k).countP (·.live) = m at *
      generalize c.l[k] = x at *
      cases hlv : x.live with
      | true =>
        rw [hlv] at HT q2
        go_wp2
        exact ⟨⟨k + 1, by omega, by rw [HT.out]; simp, by go_num, trivial⟩, by simp [intOf]; omega⟩
      | false =>
        rw [hlv] at HT q2
        go_wp2
        exact ⟨⟨k + 1, by omega, by rw [HT.out]; simp, by go_num, trivial⟩, by simp [intOf]; omega⟩
    · obtain rfl : k = c.l.length := by omega
      go_wp2
      go_ret
      exact ⟨by rw [List.take_length]; rfl, rfl⟩
theorem rclashes_any (h : RC F w a c) (t b : Int) :
    Calls Try.prog 60 #[.pointer (some ⟨a, 0, none⟩), .int .i64 t, .int .i64 b] w fun e w' => e = .returned (.bool (c.clashes t b)) ∧ Below w.heap.size w w' := by
  have HI := is_any h t
  have HJ := is_any h b
  obtain ⟨hok, v1, h⟩ := h
  obtain ⟨k0, k1, kf⟩ := h.cells
  rcases has_split (c := c) (t := t) with ⟨p1, k, ht1, hk, hx⟩ | ⟨p1, _⟩
  · rw [p1] at HI
    have HI := Lib.hid HI
    rcases has_split (c := c) (t := b) with ⟨p2, m, hb1, hm, hy⟩ | ⟨p2, _⟩
    · rw [p2] at HJ
      have HJ := Lib.hid HJ
      have e : c.clashes t b = (!decide (t = b) && (c.l[m].live || decide (c.l[k].mark < c.l[m].com))) := by unfold Ck.clashes; rw [p1, p2, hx hk, hy hm]; rfl
      rw [e]
      obtain rfl : t = (k : Int) + 1 := by omega
      obtain rfl : b = (m : Int) + 1 := by omega
      obtain ⟨g, cp, rfl, _, q0, q1, q2, qf⟩ := h.row hk
      obtain ⟨g', cp', hgg, _, r0, r1, r2, rf⟩ := h.row hm
      injection hgg with hgg _ _
      injection hgg with hgg
      injection hgg with hgg
      subst hgg
      have hbig := h.big
      have hi5 : IntKind.i64.wrap (k : Int) = (k : Int) := wrapI (by omega)
      have hi6 : IntKind.i64.wrap (m : Int) = (m : Int) := wrapI (by omega)
      generalize c.l[k] = x at *
      generalize c.l[m] = y at *
      clear h hok e hx hy ht1 hb1 p1 p2
      by_cases hkm : (k : Int) + 1 = (m : Int) + 1
      · rw [decide_eq_true hkm]
        have d1 : ((k : Int) + 1 == (m : Int) + 1) = true := by rw [hkm]; simp
        have d2 : ((k : Int) == (m : Int)) = true := by rw [beq_iff_eq]; omega
        go_enter Try.func60, Try.ntmps60
        go_wp2_with (first
          | (go_at_call 45; (with_reducible refine HI.out.mono ?_); rintro e w' ⟨rfl, rfl⟩)
          | (go_at_call 45; (with_reducible refine HJ.out.mono ?_); rintro e w' ⟨rfl, rfl⟩))
        go_ret
        exact ⟨ret_b (by simp), Below.refl _ _⟩
      · rw [decide_eq_false hkm]
        have d1 : ((k : Int) + 1 == (m : Int) + 1) = false := by rw [beq_eq_false_iff_ne]; exact hkm
        have d2 : ((k : Int) == (m : Int)) = false := by rw [beq_eq_false_iff_ne]; omega
        generalize y.live = lv at *
        cases lv
        all_goals (
          go_enter Try.func60, Try.ntmps60
          go_wp2_with (first
            | (go_at_call 45; (with_reducible refine HI.out.mono ?_); rintro e w' ⟨rfl, rfl⟩)
            | (go_at_call 45; (with_reducible refine HJ.out.mono ?_); rintro e w' ⟨rfl, rfl⟩))
          go_quiet (fail)
          go_wp2
          go_ret
          exact ⟨ret_b (by simp), below_drewN (Below.refl _ _) _⟩)
    · rw [p2] at HJ
      have HJ := Lib.hid HJ
      have e : c.clashes t b = false := by unfold Ck.clashes; rw [p1, p2]; rfl
      rw [e]
      clear h hok e p1 p2 hx ht1
      go_enter Try.func60, Try.ntmps60
      go_wp2_with (first
        | (go_at_call 45; (with_reducible refine HI.out.mono ?_); rintro e w' ⟨rfl, rfl⟩)
        | (go_at_call 45; (with_reducible refine HJ.out.mono ?_); rintro e w' ⟨rfl, rfl⟩))
      go_ret
      exact ⟨rfl, Below.refl _ _⟩
  · rw [p1] at HI
    have HI := Lib.hid HI
    have e : c.clashes t b = false := by unfold Ck.clashes; rw [p1]; rfl
    rw [e]
    clear h hok e p1 HJ
    go_enter Try.func60, Try.ntmps60
    go_wp2_with (go_at_call 45; (with_reducible refine HI.out.mono ?_); rintro e w' ⟨rfl, rfl⟩)
    go_ret
    exact ⟨rfl, Below.refl _ _⟩
theorem rsettled_any (h : RC F w a c) (b : Int) :
    Calls Try.prog 73 #[.pointer (some ⟨a, 0, none⟩), .int .i64 b] w fun e w' => e = .returned (.bool (c.settled b)) ∧ Below w.heap.size w w' := by
  have HJ := is_any h b
  obtain ⟨hok, v1, h⟩ := h
  obtain ⟨k0, k1, kf⟩ := h.cells
  rcases has_split (c := c) (t := b) with ⟨p2, m, hb1, hm, hy⟩ | ⟨p2, _⟩
  · rw [p2] at HJ
    have HJ := Lib.hid HJ
    have e : c.settled b = (decide (0 < c.l[m].com) && c.l.all (fun x => !x.live || decide (c.l[m].com ≤ x.mark))) := by unfold Ck.settled; rw [p2, hy hm]; rfl
    rw [e]
    obtain rfl : b = (m : Int) + 1 := by omega
    obtain ⟨g, cp, rfl, _, r0, r1, r2, rf⟩ := h.row hm
    have HM := Lib.hid h
    have hbig := h.big
    have hi6 : IntKind.i64.wrap (m : Int) = (m : Int) := wrapI (by omega)
    obtain ⟨y, hyy⟩ : ∃ y, y = c.l[m] := ⟨_, rfl⟩
    rw [← hyy] at r0 r1 r2 ⊢
    have HY := Lib.hid hyy
    clear h hok e hy hb1 p2 hyy
    by_cases h0 : 0 < y.com
    · rw [decide_eq_true h0]
      have d0 : ((y.com : Int) == 0) = false := by rw [beq_eq_false_iff_ne]; omega
      go_enter Try.func73, Try.ntmps73
      go_wp2_with (go_at_call 45; (with_reducible refine HJ.out.mono ?_); rintro e w' ⟨rfl, rfl⟩)
      clear k0 k1 kf r0 r1 r2 rf
      go_loopw [5] (fun i wr => ∃ k : Nat, k ≤ c.l.length ∧ i = .int .i64 k ∧ Hid (Below w.heap.size w wr) ∧ Hid (∀ j (hj : j < c.l.length), j < k → c.l[j].live = true → y.com ≤ c.l[j].mark)) (fun i _ => c.l.length - (intOf i).toNat)
      case atStart => exact ⟨0, Nat.zero_le _, rfl, Below.refl _ _, fun j hj h => absurd h (by omega)⟩
      case round =>
        obtain ⟨k, hk, rfl, HB, HA⟩ := hrel
        have hmm := HM.out.below HB.out
        obtain ⟨k0, k1, kf⟩ := hmm.cells
        by_cases hlt : k < c.l.length
        · obtain ⟨g', cp', hgg, _, q0, q1, q2, qf⟩ := hmm.row hlt
          injection hgg with hgg _ hcp
          injection hgg with hgg
          injection hgg with hgg
          subst hgg
          subst hcp
          obtain ⟨g', cp', hgg, _, r0, r1, r2, rf⟩ := hmm.row hm
          injection hgg with hgg _ hcp
          injection hgg with hgg
          injection hgg with hgg
          subst hgg
          subst hcp
          rw [← HY.out] at r0 r1 r2
          obtain ⟨x, hx⟩ : ∃ x, x = c.l[k] := ⟨_, rfl⟩
          rw [← hx] at q0 q1 q2
          have HXK := Lib.hid hx
          clear hx hmm
          obtain ⟨lv, hlv⟩ : ∃ lv, lv = x.live := ⟨_, rfl⟩
          rw [← hlv] at q2
          have HLV := Lib.hid hlv
          clear hlv
          cases lv with
          | false =>
            have HA2 : Hid (∀ j (hj : j < c.l.length), j < k + 1 → c.l[j].live = true → y.com ≤ c.l[j].mark) := fun j hj h h' => by
              by_cases e : j = k
              · subst e; rw [← HXK.out, ← HLV.out] at h'; cases h'
              · exact HA.out j hj (by omega) h'
            go_wp2_with fail
            go_quiet (fail)
            have HB2 := Lib.hid (below_drewN HB.out nq)
            clear k0 k1 kf q0 q1 q2 qf r0 r1 r2 rf
            go_wp2
            exact ⟨⟨k + 1, by omega, by go_num, HB2.out, HA2.out⟩, by simp [intOf]; omega⟩
          | true =>
            by_cases hle : y.com ≤ x.mark
            · have HA2 : Hid (∀ j (hj : j < c.l.length), j < k + 1 → c.l[j].live = true → y.com ≤ c.l[j].mark) := fun j hj h h' => by
                by_cases e : j = k
                · subst e; rw [← HXK.out]; exact hle
                · exact HA.out j hj (by omega) h'
              have hle2 : ¬ x.mark < y.com := by omega
              go_wp2_with fail
              go_quiet (fail)
              have HB2 := Lib.hid (below_drewN HB.out nq)
              clear k0 k1 kf q0 q1 q2 qf r0 r1 r2 rf
              go_wp2
              exact ⟨⟨k + 1, by omega, by go_num, HB2.out, HA2.out⟩, by simp [intOf]; omega⟩
            · have hle2 : x.mark < y.com := by omega
              go_wp2_with fail
              go_quiet (fail)
              have HB2 := Lib.hid (below_drewN HB.out nq)
              clear k0 k1 kf q0 q1 q2 qf r0 r1 r2 rf
              go_wp2
              go_ret
              refine ⟨ret_b ?_, HB2.out⟩
              symm
              rw [Bool.true_and, List.all_eq_false]
              refine ⟨x, by rw [HXK.out]; exact List.getElem_mem hlt, ?_⟩
              rw [← HLV.out]
              simpa using hle2
        · obtain rfl : k = c.l.length := by omega
          clear hmm
          go_wp2
          go_ret
          refine ⟨ret_b ?_, HB.out⟩
          symm
          rw [Bool.true_and, List.all_eq_true]
          intro x hx
          obtain ⟨j, hj, rfl⟩ := List.getElem_of_mem hx
          cases hl : c.l[j].live with
          | false => rfl
          | true => simpa using HA.out j hj hj hl
    · rw [decide_eq_false h0]
      have d0 : ((y.com : Int) == 0) = true := by rw [beq_iff_eq]; omega
      go_enter Try.func73, Try.ntmps73
      go_wp2_with (go_at_call 45; (with_reducible refine HJ.out.mono ?_); rintro e w' ⟨rfl, rfl⟩)
      go_ret
      exact ⟨rfl, Below.refl _ _⟩
  · rw [p2] at HJ
    have HJ := Lib.hid HJ
    have e : c.settled b = false := by unfold Ck.settled; rw [p2]; rfl
    rw [e]
    clear h hok e p2
    go_enter Try.func73, Try.ntmps73
    go_wp2_with (go_at_call 45; (with_reducible refine HJ.out.mono ?_); rintro e w' ⟨rfl, rfl⟩)
    go_ret
    exact ⟨rfl, Below.refl _ _⟩
end
end Go.Proofs.Ytpjjpjdamieeeaa
