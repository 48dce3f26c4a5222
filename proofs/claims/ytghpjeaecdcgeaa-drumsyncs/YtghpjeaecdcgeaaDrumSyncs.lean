/- Proved: ligaturelaw4.DrumSyncs returns true for every slice of bytes and slice of bools, and leaves its arguments as they were. No condition. -/
import Derived.Test.YtghpjeaecdcgeaaRows
import Derived.Test.YtghpjeaecdcgeaaDo
import Derived.Test.YtghpjeaecdcgeaaDk
import Derived.BigQuiet
import Derived.Deep.QuietTactic
import Derived.WalkKit
import Derived.ProofKit
import Derived.OpenShut
import Derived.ShutString
import Derived.ChangeOld
import Derived.Below
namespace Go.Proofs.Ytghpjeaecdcgeaa.drumSyncs
open Go.ChangeShapes Go.WideShapes Go.ChangeAt Go.RowKit
open Go.ChangeMaps (open_string shut_string)
set_option linter.unusedVariables false
theorem own : ownKnob Try.prog.godebug = none := by kernel_rfl
theorem laidOut : laidOutB Try.prog = true := by kernel_rfl
def snow (l : List UInt8) (k : Nat) : List (List UInt8) := (List.range l.length).map fun i => if i < k then pad [l.getD i 0] else zsec
def spnd (l : List UInt8) (k : Nat) : List (Nat × List UInt8) := (List.range k).map fun i => (i, pad [l.getD i 0])
def syn (l : List UInt8) (k : Nat) : DS := ⟨snow l k, List.replicate l.length zsec, spnd l k, some none⟩
theorem snow_len (l : List UInt8) (k : Nat) : (snow l k).length = l.length := by simp [snow]
theorem syn_zero (l : List UInt8) (h : l.length ≤ 60) : nwS (l.length : Nat) = syn l 0 := by
  have e : many (l.length : Nat) = l.length := by unfold many; omega
  have e2 : snow l 0 = List.replicate l.length zsec := by simp [snow, List.map_const']
  unfold nwS fresh syn
  rw [e, e2]
  rfl
theorem snow_step (l : List UInt8) (k : Nat) (hk : k < l.length) : (snow l k).set k (pad [l[k]]) = snow l (k + 1) := by
  apply List.ext_getElem?
  intro i
  rw [List.getElem?_set]
  simp only [snow_len]
  by_cases hi : k = i
  · subst hi
    rw [if_pos rfl, if_pos hk]
    simp only [snow, List.getElem?_map, List.getElem?_range hk, Option.map_some]
    rw [if_pos (by omega), getD_at hk]
  · rw [if_neg hi]
    by_cases hl : i < l.length
    · simp only [snow, List.getElem?_map, List.getElem?_range hl, Option.map_some]
      by_cases hik : i < k
      · rw [if_pos hik, if_pos (by omega)]
      · rw [if_neg hik, if_neg (by omega)]
    · rw [List.getElem?_eq_none (by rw [snow_len]; omega), List.getElem?_eq_none (by rw [snow_len]; omega)]
theorem spnd_step (l : List UInt8) (k : Nat) (hk : k < l.length) : spnd l (k + 1) = spnd l k ++ [(k, pad [l[k]])] := by
  simp only [spnd, List.range_succ, List.map_append, List.map_cons, List.map_nil, getD_at hk]
theorem syn_step (l : List UInt8) (k : Nat) (hk : k < l.length) : wrS (syn l k) (k : Nat) [l[k]] = syn l (k + 1) := by
  have e : (syn l k).now.length = l.length := snow_len l k
  have e1 : fits (syn l k) (k : Nat) [l[k]] = true := by simp only [fits, e, decide_eq_true_eq]; simp; omega
  have e2 : runsB (syn l k) = true := rfl
  unfold wrS
  rw [e1, e2]
  simp only [Bool.and_self, if_true]
  rw [show ((k : Nat) : Int).toNat = k by omega]
  show (⟨(snow l k).set k (pad [l[k]]), _, spnd l k ++ [(k, pad [l[k]])], some none⟩ : DS) = _
  rw [snow_step l k hk, ← spnd_step l k hk]
  rfl
theorem syn_pend (l : List UInt8) (k : Nat) : (syn l k).pend.length = k := by simp [syn, spnd]
theorem snow_get (l : List UInt8) (k : Nat) (hk : k < l.length) : rdL (fresh (snow l l.length)) (k : Nat) = pad [l[k]] := by
  have e : there (fresh (snow l l.length)) (k : Nat) = true := by simp only [there, fresh, snow_len, decide_eq_true_eq]; omega
  unfold rdL
  rw [e, if_pos rfl, show ((k : Nat) : Int).toNat = k by omega]
  simp only [fresh]
  rw [getD_at (by rw [snow_len]; exact hk)]
  simp only [snow, List.getElem_map, List.getElem_range]
  rw [if_pos hk, getD_at hk]

set_option maxHeartbeats 2000000 in
set_option maxRecDepth 100000 in
theorem walk (a0 : Sl UInt8) (a1 : Sl Bool) (w : World) (w0 : SlB w a0) (w1 : SlT w a1) :
    Calls Try.prog 9 #[slv a0, slv a1] w fun e w' => e = .returned (.bool true) ∧ Below w.heap.size w w' := by
  obtain ⟨A, l, c⟩ := a0
  obtain ⟨K, keep, kc⟩ := a1
  have H0 : Hid (BS w A l c) := w0
  have H1 : Hid (Row .bool w K keep) := w1
  clear w0 w1
  unfold slv
  simp only
  by_cases hbig : 60 < l.length ∨ 100 < keep.length
  · by_cases hb : 60 < l.length
    · clear hbig
      go_enter Try.func9, Try.ntmps9
      go_wp2
      go_ret
      exact ⟨rfl, Below.refl _ _⟩
    · have hk : 100 < keep.length := by omega
      clear hbig
      go_enter Try.func9, Try.ntmps9
      go_wp2
      all_goals (go_ret; exact ⟨rfl, Below.refl _ _⟩)
  · have hl60 : l.length ≤ 60 := by omega
    have hk100 : keep.length ≤ 100 := by omega
    clear hbig
    have hn := new_any (l.length : Nat) w
    rw [syn_zero l hl60] at hn
    have HN := Lib.hid hn
    clear hn
    go_enter Try.func9, Try.ntmps9
    go_wp2_with fail
    refine HN.out.mono ?_
    rintro e w1 ⟨a, rfl, hp1, hb1⟩
    have HB1 := Lib.hid hb1
    have HF1 := Lib.hid (nu_ge (F := fun _ => False) (w := w) (w' := w1) (B := w.heap.size) (fun _ h => absurd h id) (Nat.le_refl _))
    have HP1 := Lib.hid hp1
    clear hp1 hb1 HN
    generalize Nu (fun _ => False) w w1 = F1 at *
    go_wp2
    go_loopw [6] (fun i wr => ∃ (k : Nat) (F : Nat → Prop), k ≤ l.length ∧ i = .int .i64 k ∧ Hid (PD F wr a (syn l k)) ∧ Hid (∀ j, F j → w.heap.size ≤ j) ∧ Hid (Below w.heap.size w wr)) (fun i _ => l.length - (intOf i).toNat)
    case atStart => exact ⟨0, F1, Nat.zero_le _, rfl, HP1.out, HF1.out, HB1.out⟩
    case round =>
      obtain ⟨k, F, hk, rfl, HP, HF, HB⟩ := hrel
      clear HP1 HF1 HB1
      have hz := HB.out.size
      by_cases hlt : k < l.length
      · obtain ⟨ad, rfl, hc⟩ := H0.out.cells k hlt
        have hcr : wr.cell? (ad.add k) = some (.int .u8 (l[k].toNat : Nat)) := (HB.out.cell (World.block_lt_of_cell? w _ hc)).trans hc
        have hba := (Below.refl wr.heap.size wr).alloc (Nat.le_refl _) (.cells #[.int .u8 (l[k].toNat : Nat)] 5)
        have HPA := Lib.hid (HP.out.below hba)
        have HAR := Lib.hid (bs_new wr 5 [l[k]] #[.int .u8 (l[k].toNat : Nat)] (0, 0) rfl)
        have hw := write_any HPA.out (k : Nat) _ [l[k]] 1 HAR.out (fun ad e => .inr (by injection e with e; subst e; intro hf; have := HP.out.lt _ hf; simp at this)) (by rw [syn_pend]; omega)
        rw [syn_step l k hlt] at hw
        have HW := Lib.hid hw
        have HBA := Lib.hid (HB.out.alloc hz (.cells #[.int .u8 (l[k].toNat : Nat)] 5))
        clear hw hba HPA HAR hc
        generalize wrE (syn l k) (k : Nat) [l[k]] = er at *
        generalize l[k] = b at *
        go_wp2_with fail
        refine HW.out.mono ?_
        rintro e w2 ⟨rfl, hp2, hc2⟩
        have hz2 := hc2.size
        simp only [World.size_alloc] at hz2
        have HB2 := Lib.hid (Chg.of_below HBA.out hc2 HF.out)
        have HF2 := Lib.hid (nu_ge (F := F) (w := wr.alloc (.cells #[.int .u8 (b.toNat : Nat)] 5)) (w' := w2) (B := w.heap.size) HF.out (by simp; omega))
        have HP2 := Lib.hid hp2
        clear hp2 hc2 hcr HW HBA HP HF
        generalize Nu F (wr.alloc (.cells #[.int .u8 (b.toNat : Nat)] 5)) w2 = F2 at *
        go_wp2
        refine ⟨⟨k + 1, F2, by omega, by go_num, HP2.out, HF2.out, HB2.out⟩, by simp [intOf]; omega⟩
      · obtain rfl : k = l.length := by omega
        go_wp2_with fail
        refine (sync_any HP.out).mono ?_
        rintro e w2 ⟨rfl, hp2, hc2⟩
        change PD _ w2 a ⟨snow l l.length, snow l l.length, [], some none⟩ at hp2
        rw [show syE (syn l l.length) = 0 from rfl]
        have hz2 := hc2.size
        have HB2 := Lib.hid (Chg.of_below HB.out hc2 HF.out)
        have HP2 : Hid (PD (Nu F wr w2) w2 a (fresh (snow l l.length))) := hp2
        clear hp2 hc2 HP HF
        generalize Nu F wr w2 = F2 at *
        have HK2 : Hid (Row .bool w2 K keep) := fun i hi => by
          obtain ⟨kd, e, hkc⟩ := H1.out i hi
          exact ⟨kd, e, (HB2.out.cell (World.block_lt_of_cell? w _ hkc)).trans hkc⟩
        go_wp2_with fail
        refine (crash_any HP2.out K keep kc HK2.out (Nat.zero_le _)).mono ?_
        rintro e w3 ⟨a', rfl, hp3, hb3⟩
        change PD _ w3 a' (fresh (snow l l.length)) at hp3
        have HP3 := Lib.hid hp3
        have HD3 := Lib.hid (HP2.out.below hb3)
        have HB3 := Lib.hid (HB2.out.trans (hb3.mono HB2.out.size))
        clear hp3 hb3 HB HP2 HB2
        generalize Nu (fun _ => False) w2 w3 = F3 at *
        go_wp2
        go_loopw [9] (fun i wr => ∃ (k : Nat), k ≤ l.length ∧ i = .int .i64 k ∧ Hid (PD F3 wr a' (fresh (snow l l.length))) ∧ Hid (PD F2 wr a (fresh (snow l l.length))) ∧ Hid (Below w.heap.size w wr)) (fun i _ => l.length - (intOf i).toNat)
        case atStart => exact ⟨0, Nat.zero_le _, rfl, HP3.out, HD3.out, HB3.out⟩
        case round =>
          obtain ⟨k, hk, rfl, HP, HD, HB⟩ := hrel
          clear HP3 HD3 HB3
          by_cases hlt : k < l.length
          · obtain ⟨ad, rfl, hc⟩ := H0.out.cells k hlt
            have hrd := read_any HP.out (k : Nat)
            rw [snow_get l k hlt] at hrd
            have HRD := Lib.hid hrd
            have hp64 : (pad [l[k]]).length = 64 := pad_len (by simp)
            have HP64 := Lib.hid hp64
            have HC := Lib.hid hc
            clear hrd hp64 hc
            generalize l[k] = b at *
            go_wp2_with fail
            refine HRD.out.mono ?_
            rintro e w4 ⟨v4, rfl, ho4, hb4⟩
            obtain ⟨g4, c4, rfl, hg4, hg42, hc4⟩ := own_at ho4 (by rw [HP64.out]; decide)
            have hc40 := hc4 0 (by rw [HP64.out]; decide)
            change w4.cell? ⟨g4, 0, none⟩ = some (.int .u8 (b.toNat : Nat)) at hc40
            rw [HP64.out]
            have HB4 := Lib.hid (HB.out.trans (hb4.mono HB.out.size))
            have HP4 := Lib.hid (HP.out.below hb4)
            have HD4 := Lib.hid (HD.out.below hb4)
            have hcl : w4.cell? (ad.add k) = some (.int .u8 (b.toNat : Nat)) := (HB4.out.cell (World.block_lt_of_cell? w _ HC.out)).trans HC.out
            clear ho4 hb4 hc4 HRD HC
            go_wp2_with fail
            go_quiet (fail)
            go_wp2
            refine ⟨⟨k + 1, by omega, by go_num, HP4.out.drewN _, HD4.out.drewN _, below_drewN HB4.out _⟩, by simp [intOf]; omega⟩
          · obtain rfl : k = l.length := by omega
            have HWT := Lib.hid (waiting_any HD.out)
            go_wp2_with fail
            refine HWT.out.mono ?_
            rintro e w' ⟨rfl, rfl⟩
            rw [show (fresh (snow l l.length)).pend.length = 0 from rfl]
            go_wp2_with fail
            refine (known_any _).mono ?_
            rintro e w5 ⟨rfl, hb5⟩
            go_wp2
            go_ret
            exact ⟨rfl, HB.out.trans (hb5.mono HB.out.size)⟩

set_option maxRecDepth 100000 in
theorem lifted (os : Os) (started : os.Started) (H : Type) (enc : TypeId × Value → H) :
    ReturnsInHanded {} Try.checked os 9 .any (Rows.drumSyncsSpec.pre6 enc Try.prog Try.f9 Rows.drumSyncsRow.domain false) (Rows.drumSyncsSpec.post enc Try.prog Try.f9 false true false false) := by
  refine returnsInHanded_of_change (C := Try.checked) own started (by kernel_rfl) Try.func9
    (ChangeSpec.witness6 (enc := enc) (C := Try.checked) false ⟨#[], #[.slice none 0 0, .slice none 0 0], []⟩ 8 (by kernel_rfl) (by kernel_rfl) (by kernel_rfl) (by kernel_rfl)) ?_
  intro W base args ds gs before hval0 hW hcnd _
  have hval : ∀ (j : Nat) t v, Try.f9.params[j]? = some t → args[j]? = some v → Value.okWide Try.prog W .any base t v := hval0
  have hW' := hW
  obtain ⟨p, q, hA0, hV, rfl, hfz, hnd⟩ := hW
  have hA : DataW.TrodAll enc Try.prog W 0 (fun _ => true) true Try.f9.params.toList args.toList ds p := hA0
  rw [Try.params9] at hA hval
  obtain ⟨v0, vs0, d0, ds0, p0, q0, hargs, rfl, rfl, h0, r0⟩ := trodAll_cons hA
  obtain ⟨v1, vs1, d1, ds1, p1, q1, rfl, rfl, rfl, h1, r1⟩ := trodAll_cons r0
  obtain ⟨rfl, rfl, rfl⟩ := trodAll_nil r1
  obtain rfl : args = #[v0, v1] := by cases args; simp_all
  obtain ⟨rfl, rfl⟩ := trodVars_none hV
  have k0 := h0
  have lt0 : ∀ x ∈ p0, x.block < W.heap.size := by obtain ⟨m, hm⟩ := k0; exact DataW.trod_lt m _ _ _ hm
  obtain ⟨a0, rfl, w0⟩ := open_bytes (hval 0 28 v0 rfl rfl) h0
  have k1 := h1
  have lt1 : ∀ x ∈ p1, x.block < W.heap.size := by obtain ⟨m, hm⟩ := k1; exact DataW.trod_lt m _ _ _ hm
  obtain ⟨a1, rfl, w1⟩ := open_bools (hval 1 29 v1 rfl rfl) h1
  clear hA0 hval0
  refine (walk a0 a1 W w0 w1).mono fun e W' ⟨he, bel⟩ => ?_
  subst he
  exact ⟨_, rfl, _, _, _, [], _, [], hW', trodAll_mk1 (shut_bool Try.underlying4 _), (trodAll_cons_mk (Below.trod laidOut (by kernel_rfl) (of_decide_eq_true (by kernel_rfl)) k0 bel lt0) (trodAll_cons_mk (Below.trod laidOut (by kernel_rfl) (of_decide_eq_true (by kernel_rfl)) k1 bel lt1) trodAll_mk0)), rfl, bel.frame _, fun h => by cases h⟩

theorem over : Rows.drumSyncsRow.holds Try.pinned (OpenSpec.ofChange Rows.drumSyncsSpec) :=
  OpenClaim.holds_of_wide 9 Try.f9 rfl rfl rfl rfl rfl rfl rfl ⟨rfl, rfl, rfl, rfl, rfl⟩ rfl rfl rfl rfl rfl (by kernel_rfl) Try.func9 (by kernel_rfl)
    (of_decide_eq_true (by kernel_rfl)) (by unfold Func.isWrapper; first | (rw [if_pos (by decide +kernel)]; kernel_rfl) | (rw [if_neg (by decide +kernel)]; exact ⟨rfl, rfl⟩))
    (fun os started H enc _ => lifted os started H enc)

theorem proved : Rows.DrumSyncsSaid := over
#print axioms proved
end Go.Proofs.Ytghpjeaecdcgeaa.drumSyncs
