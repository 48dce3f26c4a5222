/- Proved: ligaturelaw4.DrumBounds returns true for every three ints. No condition. -/
import Derived.Test.YtghpjeaecdcgeaaRows
import Derived.Test.YtghpjeaecdcgeaaDk
import Derived.Lib.MinMax
import Derived.WalkKit
import Derived.ProofKit
import Derived.OpenShut
import Derived.ShutString
import Derived.ChangeOld
import Derived.Below
namespace Go.Proofs.Ytghpjeaecdcgeaa.drumBounds
open Go.ChangeShapes Go.WideShapes Go.ChangeAt Go.RowKit
open Go.ChangeMaps (open_string shut_string)
set_option linter.unusedVariables false
theorem own : ownKnob Try.prog.godebug = none := by kernel_rfl
theorem laidOut : laidOutB Try.prog = true := by kernel_rfl
def sev (k m : Nat) : List UInt8 := List.replicate k 7 ++ List.replicate (m - k) 0
theorem sev_len {k m : Nat} (h : k ≤ m) : (sev k m).length = m := by simp [sev]; omega
theorem sev_step {k m : Nat} (h : k < m) : (bcs (sev k m)).set k (.int .u8 7) = bcs (sev (k + 1) m) := by
  unfold sev
  obtain ⟨r, hr⟩ : ∃ r, m - k = r + 1 := ⟨m - k - 1, by omega⟩
  rw [hr, show m - (k + 1) = r by omega, List.replicate_succ, bcs_append, List.set_append_right _ _ (by simp [bcs_len])]
  rw [show k - (bcs (List.replicate k 7)).length = 0 by simp [bcs_len], List.replicate_succ', bcs_append, bcs_append, List.append_assoc]
  rfl
theorem sev_full (m : Nat) : sev m m = List.replicate m 7 := by simp [sev]
theorem pad_sev {m : Nat} (h : m ≤ 64) (k : Nat) (hk : k < (pad (List.replicate m 7)).length) : (pad (List.replicate m 7))[k] = if k < m then 7 else 0 := by
  have e : (pad (List.replicate m 7))[k]? = some (if k < m then 7 else 0) := by
    rw [pad_len (by simpa using h)] at hk
    unfold pad
    by_cases hkm : k < m
    · rw [List.getElem?_append_left (by simpa using hkm)]; simp [hkm]
    · rw [List.getElem?_append_right (by simp; omega)]
      simp only [List.length_replicate, List.getElem?_replicate]
      rw [if_pos (by omega), if_neg hkm]
  rw [List.getElem?_eq_getElem hk] at e
  exact Option.some.inj e

set_option maxHeartbeats 2000000 in
set_option maxRecDepth 100000 in
theorem walk (a0 : Int) (a1 : Int) (a2 : Int) (w : World) (w0 : (Lit.int .i64 a0).wf = true) (w1 : (Lit.int .i64 a1).wf = true) (w2 : (Lit.int .i64 a2).wf = true) :
    Calls Try.prog 6 #[.int .i64 a0, .int .i64 a1, .int .i64 a2] w fun e w' => e = .returned (.bool true) ∧ Below w.heap.size w w' := by
  by_cases hbad : a2 < 0 ∨ 200 < a2
  · rcases hbad with h | h
    · go_enter Try.func6, Try.ntmps6
      go_wp2
      go_ret
      exact ⟨rfl, Below.refl _ _⟩
    · go_enter Try.func6, Try.ntmps6
      go_wp2
      all_goals (go_ret; exact ⟨rfl, Below.refl _ _⟩)
  · obtain ⟨m, rfl⟩ : ∃ m : Nat, a2 = m := ⟨a2.toNat, by omega⟩
    have hm : m ≤ 200 := by omega
    clear hbad
    have he : min (max a0 0) 200 = ((many a0 : Nat) : Int) := by unfold many; omega
    have Hn := Lib.hid (nwS_len a0)
    have HR := Lib.hid (show runsB (nwS a0) = true from rfl)
    obtain ⟨i0, hi0, hz0, hz1, hz2⟩ := info_parts infoB
    go_enter Try.func6, Try.ntmps6
    go_wp2_with fail
    refine (new_any a0 w).mono ?_
    rintro e w1 ⟨a, rfl, hp1, hb1⟩
    have HB1 := Lib.hid hb1
    have HF1 := Lib.hid (nu_ge (F := fun _ => False) (w := w) (w' := w1) (B := w.heap.size) (fun _ h => absurd h id) (Nat.le_refl _))
    have HP1 := Lib.hid hp1
    have hz1' := hb1.size
    clear hp1 hb1
    generalize Nu (fun _ => False) w w1 = F1 at *
    have HPE := Lib.hid (show (nwS a0).pend = [] from rfl)
    generalize nwS a0 = s0 at *
    generalize many a0 = M at *
    go_wp2_with (at_make; refine wpList_make_full _ rfl _ _ _ rfl w1.heap.size 5 i0 _ 1 Try.underlying28 hi0 hz0 hz1 _ _ _ _ m rfl rfl (by omega) (by omega) (by rw [hz2]; omega) (by unfold maxLen; omega) (Nat.le_refl _) ?_)
    intro w2 ho2 hg2
    have hb12 : Below w1.heap.size w1 w2 := (Below.refl _ _).grown hg2 (Nat.le_refl _) (fun k e => by cases e)
    have HP2 := Lib.hid (HP1.out.below hb12)
    have HB2 := Lib.hid (HB1.out.trans (hb12.mono hz1'))
    have HO2 : Hid (Own w1.heap.size w2 (.slice (some ⟨w1.heap.size, 0, none⟩) m m) (sev 0 m)) := by
      simp only [Hid, Own, sev_len (Nat.zero_le m)]
      have e : (madeCells #[Value.int .u8 0] m).toList = bcs (sev 0 m) := by rw [toList_madeCells_one]; simp [sev, bcs]
      rw [← e]
      simpa using ho2
    have hz2' := hb12.size
    have HLT := Lib.hid HP1.out.lt
    clear ho2 hg2 hb12 HP1 HB1
    go_wp2
    go_loopw [10] (fun i wr => ∃ k : Nat, k ≤ m ∧ i = .int .i64 k ∧ Hid (Own w1.heap.size wr (.slice (some ⟨w1.heap.size, 0, none⟩) m m) (sev k m)) ∧ Hid (Below w1.heap.size w2 wr)) (fun i _ => m - (intOf i).toNat)
    case atStart => exact ⟨0, Nat.zero_le _, rfl, HO2.out, Below.refl _ _⟩
    case round =>
      obtain ⟨k, hk, rfl, HO3, HB3⟩ := hrel
      clear HO2
      by_cases hlt : k < m
      · have hown : wr.ownsRow w1.heap.size 5 1 (.slice (some ⟨w1.heap.size, 0, none⟩) m m) m (bcs (sev k m)) := by
          have := HO3.out
          unfold Own at this
          rwa [sev_len hk] at this
        have hcl : (bcs (sev k m)).length = m := by rw [bcs_len, sev_len hk]
        have hcc : wr.cell? ⟨w1.heap.size, k, none⟩ = some ((bcs (sev k m))[k]'(by omega)) := by
          rw [hown.cellAt k (by omega)]
          exact List.getElem?_eq_getElem _
        have hff := hown.frozenAt k
        have hst := hown.stored k (.int .u8 7)
        have HST : Hid (Own w1.heap.size (wr.setCell ⟨w1.heap.size, k, none⟩ (.int .u8 7)) (.slice (some ⟨w1.heap.size, 0, none⟩) m m) (sev (k + 1) m)) := by
          simp only [Hid, Own]
          rw [sev_len (by omega), ← sev_step hlt]
          exact hst.1
        have HB4 := Lib.hid (HB3.out.setCell (p := ⟨w1.heap.size, k, none⟩) (Nat.le_refl _) (.int .u8 7))
        generalize (bcs (sev k m))[k]'(by omega) = u at hcc
        clear hown hcl hst
        go_wp2
        refine ⟨⟨k + 1, by omega, by go_num, HST.out, HB4.out⟩, by simp [intOf]; omega⟩
      · obtain rfl : k = m := by omega
        have HP3 := Lib.hid (HP2.out.chg (Chg.of_base HB3.out) (fun j hj => by have := HLT.out j hj; omega))
        have HB5 := Lib.hid (HB2.out.trans (HB3.out.mono hz1'))
        have hsl := sev_len (Nat.le_refl k)
        have hw := write_any HP3.out a1 _ _ _ (own_bs HO3.out) (fun ad e => .inr (by injection e with e; subst e; intro hf; have := HLT.out _ hf; simp at this)) (by rw [HPE.out]; decide)
        rw [hsl] at hw
        have HW := Lib.hid hw
        have HNL := Lib.hid ((wrS_len s0 a1 (sev k k)).trans Hn.out)
        have hfits : fits s0 a1 (sev k k) = decide (0 ≤ a1 ∧ a1 < M ∧ k ≤ 64) := by simp only [fits, Hn.out, hsl]
        clear hw hsl hk hlt
        by_cases hf : 0 ≤ a1 ∧ a1 < M ∧ k ≤ 64
        · rw [decide_eq_true hf] at hfits
          have he0 : wrE s0 a1 (sev k k) = 0 := by simp [wrE, HR.out, hfits]
          rw [he0] at HW
          obtain ⟨f1, f2, f3⟩ := hf
          have hrd : rdL (wrS s0 a1 (sev k k)) a1 = pad (List.replicate k 7) := by
            have e1 : wrS s0 a1 (sev k k) = put (ticked s0) a1.toNat (pad (sev k k)) := by simp [wrS, HR.out, hfits]
            have e2 : there (wrS s0 a1 (sev k k)) a1 = true := by simp only [there, HNL.out, decide_eq_true_eq]; exact ⟨f1, f2⟩
            unfold rdL
            rw [e2, e1, sev_full]
            have e3 : a1.toNat < (ticked s0).now.length := by
              have : (ticked s0).now.length = M := Hn.out
              omega
            simp [put, List.getD, e3]
          have HRD := Lib.hid hrd
          have HPL := Lib.hid (pad_len (p := List.replicate k 7) (by simpa using f3))
          have HPS := Lib.hid (pad_sev f3)
          clear hfits he0 hrd
          generalize wrS s0 a1 (sev k k) = s1 at *
          go_wp2_with fail
          refine HW.out.mono ?_
          rintro e w3 ⟨rfl, hp3, hc3⟩
          have hz3 := hc3.size
          have HB6 := Lib.hid (Chg.of_below HB5.out hc3 HF1.out)
          have HP4 := Lib.hid hp3
          clear hp3 hc3
          generalize Nu F1 wr w3 = F2 at *
          have HLN := Lib.hid (len_any HP4.out)
          rw [HNL.out] at HLN
          go_wp2_with fail
          refine HLN.out.mono ?_
          rintro e w' ⟨rfl, rfl⟩
          go_wp2_with fail
          refine (read_any HP4.out a1).mono ?_
          rintro e w4 ⟨v4, rfl, ho4, hb4⟩
          rw [HRD.out] at ho4
          obtain ⟨g4, c4, rfl, hg4, hg42, hc4⟩ := own_at ho4 (by rw [HPL.out]; decide)
          rw [HPL.out]
          have HB7 := Lib.hid (HB6.out.trans (hb4.mono HB6.out.size))
          have HC4 := Lib.hid hc4
          clear ho4 hb4 hc4
          go_wp2
          go_loopw [14] (fun i wr => ∃ j : Nat, j ≤ 64 ∧ i = .int .i64 j ∧ Hid (wr = w4)) (fun i _ => 64 - (intOf i).toNat)
          case atStart => exact ⟨0, by omega, rfl, rfl⟩
          case round =>
            obtain ⟨j, hj, rfl, HE⟩ := hrel
            obtain rfl : wr = w4 := HE.out
            by_cases hj64 : j < 64
            · have hc := HC4.out j (by rw [HPL.out]; exact hj64)
              rw [HPS.out] at hc
              by_cases hjk : j < k
              · rw [if_pos hjk] at hc
                change wr.cell? ⟨g4, j, none⟩ = some (.int .u8 7) at hc
                go_wp2
                refine ⟨⟨j + 1, by omega, by go_num, trivial⟩, by simp [intOf]; omega⟩
              · rw [if_neg hjk] at hc
                change wr.cell? ⟨g4, j, none⟩ = some (.int .u8 0) at hc
                go_wp2
                refine ⟨⟨j + 1, by omega, by go_num, trivial⟩, by simp [intOf]; omega⟩
            · obtain rfl : j = 64 := by omega
              go_wp2_with fail
              refine (known_any _).mono ?_
              rintro e w5 ⟨rfl, hb5⟩
              go_wp2
              go_ret
              exact ⟨rfl, HB7.out.trans (hb5.mono HB7.out.size)⟩
        · rw [decide_eq_false hf] at hfits
          have he0 : wrE s0 a1 (sev k k) = 1 := by simp [wrE, HR.out, hfits]
          rw [he0] at HW
          have HPN : Hid ((wrS s0 a1 (sev k k)).pend.length = 0) := by simp [Hid, wrS, hfits, ticked, HPE.out]
          clear hfits he0
          generalize wrS s0 a1 (sev k k) = s1 at *
          rcases (show a1 < 0 ∨ (0 ≤ a1 ∧ (M : Int) ≤ a1) ∨ (0 ≤ a1 ∧ a1 < M ∧ 64 < k) by omega) with f | ⟨f, f'⟩ | ⟨f, f', f''⟩
          all_goals (
            clear hf
            try have hd : decide ((k : Int) ≤ 64) = false := by simp; omega
            go_wp2_with fail
            refine HW.out.mono ?_
            rintro e w3 ⟨rfl, hp3, hc3⟩
            have HB6 := Lib.hid (Chg.of_below HB5.out hc3 HF1.out)
            have HP4 := Lib.hid hp3
            clear hp3 hc3
            generalize Nu F1 wr w3 = F2 at *
            have HLN := Lib.hid (len_any HP4.out)
            rw [HNL.out] at HLN
            have HWN := Lib.hid (waiting_any HP4.out)
            rw [HPN.out] at HWN
            go_wp2_with fail
            refine HLN.out.mono ?_
            rintro e w' ⟨rfl, rfl⟩
            go_wp2_with fail
            refine HWN.out.mono ?_
            rintro e w' ⟨rfl, rfl⟩
            go_wp2_with fail
            refine (known_any _).mono ?_
            rintro e w5 ⟨rfl, hb5⟩
            go_wp2
            go_ret
            exact ⟨rfl, HB6.out.trans (hb5.mono HB6.out.size)⟩)

set_option maxRecDepth 100000 in
theorem lifted (os : Os) (started : os.Started) (H : Type) (enc : TypeId × Value → H) :
    ReturnsInHanded {} Try.checked os 6 .any (Rows.drumBoundsSpec.pre6 enc Try.prog Try.f6 Rows.drumBoundsRow.domain false) (Rows.drumBoundsSpec.post enc Try.prog Try.f6 false true false false) := by
  refine returnsInHanded_of_change (C := Try.checked) own started (by kernel_rfl) Try.func6
    (ChangeSpec.witness6 (enc := enc) (C := Try.checked) false ⟨#[], #[.int .i64 0, .int .i64 0, .int .i64 0], []⟩ 8 (by kernel_rfl) (by kernel_rfl) (by kernel_rfl) (by kernel_rfl)) ?_
  intro W base args ds gs before hval0 hW hcnd _
  have hval : ∀ (j : Nat) t v, Try.f6.params[j]? = some t → args[j]? = some v → Value.okWide Try.prog W .any base t v := hval0
  have hW' := hW
  obtain ⟨p, q, hA0, hV, rfl, hfz, hnd⟩ := hW
  have hA : DataW.TrodAll enc Try.prog W 0 (fun _ => true) true Try.f6.params.toList args.toList ds p := hA0
  rw [Try.params6] at hA hval
  obtain ⟨v0, vs0, d0, ds0, p0, q0, hargs, rfl, rfl, h0, r0⟩ := trodAll_cons hA
  obtain ⟨v1, vs1, d1, ds1, p1, q1, rfl, rfl, rfl, h1, r1⟩ := trodAll_cons r0
  obtain ⟨v2, vs2, d2, ds2, p2, q2, rfl, rfl, rfl, h2, r2⟩ := trodAll_cons r1
  obtain ⟨rfl, rfl, rfl⟩ := trodAll_nil r2
  obtain rfl : args = #[v0, v1, v2] := by cases args; simp_all
  obtain ⟨rfl, rfl⟩ := trodVars_none hV
  obtain ⟨a0, rfl, rfl, rfl, w0⟩ := open_int Try.underlying3 (hval 0 3 v0 rfl rfl) h0
  obtain ⟨a1, rfl, rfl, rfl, w1⟩ := open_int Try.underlying3 (hval 1 3 v1 rfl rfl) h1
  obtain ⟨a2, rfl, rfl, rfl, w2⟩ := open_int Try.underlying3 (hval 2 3 v2 rfl rfl) h2
  clear hA0 hval0
  refine (walk a0 a1 a2 W w0 w1 w2).mono fun e W' ⟨he, bel⟩ => ?_
  subst he
  exact ⟨_, rfl, _, _, _, [], _, [], hW', trodAll_mk1 (shut_bool Try.underlying4 _), (trodAll_cons_mk (shut_int Try.underlying3 w0) (trodAll_cons_mk (shut_int Try.underlying3 w1) (trodAll_cons_mk (shut_int Try.underlying3 w2) trodAll_mk0))), rfl, bel.frame _, fun h => by cases h⟩

theorem over : Rows.drumBoundsRow.holds Try.pinned (OpenSpec.ofChange Rows.drumBoundsSpec) :=
  OpenClaim.holds_of_wide 6 Try.f6 rfl rfl rfl rfl rfl rfl rfl ⟨rfl, rfl, rfl, rfl, rfl⟩ rfl rfl rfl rfl rfl (by kernel_rfl) Try.func6 (by kernel_rfl)
    (of_decide_eq_true (by kernel_rfl)) (by unfold Func.isWrapper; first | (rw [if_pos (by decide +kernel)]; kernel_rfl) | (rw [if_neg (by decide +kernel)]; exact ⟨rfl, rfl⟩))
    (fun os started H enc _ => lifted os started H enc)

theorem proved : Rows.DrumBoundsSaid := over
#print axioms proved
end Go.Proofs.Ytghpjeaecdcgeaa.drumBounds
