/- Proved: ligaturelaw4.DrumOrder returns true for every slice of bytes and slice of bools, and leaves its arguments as they were. No condition. -/
import Derived.Test.YtghpjeaecdcgeaaRows
import Derived.Test.YtghpjeaecdcgeaaDo
import Derived.Test.YtghpjeaecdcgeaaDk
import Derived.WalkKit
import Derived.ProofKit
import Derived.OpenShut
import Derived.ShutString
import Derived.ChangeOld
import Derived.Below
namespace Go.Proofs.Ytghpjeaecdcgeaa.drumOrder
open Go.ChangeShapes Go.WideShapes Go.ChangeAt Go.RowKit
open Go.ChangeMaps (open_string shut_string)
set_option linter.unusedVariables false
theorem own : ownKnob Try.prog.godebug = none := by kernel_rfl
theorem laidOut : laidOutB Try.prog = true := by kernel_rfl
def pnd (l : List UInt8) : List (Nat × List UInt8) := l.map fun b => (0, pad [b])
def ord (l : List UInt8) (k : Nat) : DS := ⟨[if k = 0 then zsec else pad [l.getD (k - 1) 0]], [zsec], pnd (l.take k), some none⟩
def want (l : List UInt8) (keep : List Bool) : Nat → UInt8
  | 0 => 0
  | k + 1 => if keep.getD k false then l.getD k 0 else want l keep k
theorem ord_step (l : List UInt8) (k : Nat) (hk : k < l.length) : wrS (ord l k) 0 [l[k]] = ord l (k + 1) := by
  have e : (ord l k).now.length = 1 := rfl
  have e1 : fits (ord l k) 0 [l[k]] = true := by simp [fits, e]
  have e2 : runsB (ord l k) = true := rfl
  unfold wrS
  rw [e1, e2]
  simp only [Bool.and_self, if_true]
  have h1 : pnd (l.take (k + 1)) = pnd (l.take k) ++ [(0, pad [l[k]])] := by
    rw [List.take_add_one, List.getElem?_eq_getElem hk]
    simp only [pnd, List.map_append]
    rfl
  have h2 : l.getD k 0 = l[k] := getD_at hk
  unfold ord
  rw [h1, if_neg (show ¬ k + 1 = 0 by omega), show k + 1 - 1 = k by omega, h2]
  rfl
theorem ord_err (l : List UInt8) (k : Nat) (b : UInt8) : wrE (ord l k) 0 [b] = 0 := by
  have e : (ord l k).now.length = 1 := rfl
  have e1 : fits (ord l k) 0 [b] = true := by simp [fits, e]
  have e2 : runsB (ord l k) = true := rfl
  simp [wrE, e1, e2]
theorem pad_zero : pad [0] = zsec := rfl
theorem ord_crs (l : List UInt8) (keep : List Bool) : ∀ k, k ≤ l.length → crs keep (pnd l) [zsec] k = [pad [want l keep k]]
  | 0, _ => rfl
  | k + 1, hk => by
    have ih := ord_crs l keep k (by omega)
    have e : (pnd l).getD k (0, []) = (0, pad [l.getD k 0]) := by simp [pnd, List.getD, show k < l.length by omega]
    rw [crs, ih, e, want]
    split <;> rfl
theorem ord_read (l : List UInt8) (keep : List Bool) : rdL (crS (ord l l.length) keep) 0 = pad [want l keep l.length] := by
  have e : crL (ord l l.length) keep = [pad [want l keep l.length]] := by
    have := ord_crs l keep l.length (Nat.le_refl _)
    unfold crL
    simp only [ord, List.take_length]
    rw [show (pnd l).length = l.length by simp [pnd]]
    exact this
  unfold crS rdL fresh
  rw [e]
  rfl
theorem ord_pend (l : List UInt8) (k : Nat) (hk : k ≤ l.length) : (ord l k).pend.length = k := by simp [ord, pnd]; omega

set_option maxHeartbeats 2000000 in
set_option maxRecDepth 100000 in
theorem walk (a0 : Sl UInt8) (a1 : Sl Bool) (w : World) (w0 : SlB w a0) (w1 : SlT w a1) :
    Calls Try.prog 8 #[slv a0, slv a1] w fun e w' => e = .returned (.bool true) ∧ Below w.heap.size w w' := by
  obtain ⟨A, l, c⟩ := a0
  obtain ⟨K, keep, kc⟩ := a1
  have H0 : Hid (BS w A l c) := w0
  have H1 : Hid (Row .bool w K keep) := w1
  clear w0 w1
  unfold slv
  simp only
  by_cases hbig : 60 < l.length ∨ 100 < keep.length
  · by_cases hb : 60 < l.length
    · clear hbig
      go_enter Try.func8, Try.ntmps8
      go_wp2
      go_ret
      exact ⟨rfl, Below.refl _ _⟩
    · have hk : 100 < keep.length := by omega
      clear hbig
      go_enter Try.func8, Try.ntmps8
      go_wp2
      all_goals (go_ret; exact ⟨rfl, Below.refl _ _⟩)
  · have hl60 : l.length ≤ 60 := by omega
    have hk100 : keep.length ≤ 100 := by omega
    clear hbig
    go_enter Try.func8, Try.ntmps8
    go_wp2_with fail
    refine (new_any 1 w).mono ?_
    rintro e w1 ⟨a, rfl, hp1, hb1⟩
    have HB1 := Lib.hid hb1
    have HF1 := Lib.hid (nu_ge (F := fun _ => False) (w := w) (w' := w1) (B := w.heap.size) (fun _ h => absurd h id) (Nat.le_refl _))
    have HP1 : Hid (PD _ w1 a (ord l 0)) := hp1
    clear hp1 hb1
    generalize Nu (fun _ => False) w w1 = F1 at *
    go_wp2
    go_loopw [6, 7] (fun x i wr => ∃ (k : Nat) (F : Nat → Prop), k ≤ l.length ∧ i = .int .i64 k ∧ x = .int .u8 ((want l keep k).toNat : Nat) ∧ Hid (PD F wr a (ord l k)) ∧ Hid (∀ j, F j → w.heap.size ≤ j) ∧ Hid (Below w.heap.size w wr)) (fun _ i _ => l.length - (intOf i).toNat)
    case atStart => exact ⟨0, F1, Nat.zero_le _, rfl, rfl, HP1.out, HF1.out, HB1.out⟩
    case round =>
      obtain ⟨k, F, hk, rfl, rfl, HP, HF, HB⟩ := hrel
      clear HP1 HF1 HB1
      have hz := HB.out.size
      by_cases hlt : k < l.length
      · obtain ⟨ad, rfl, hc⟩ := H0.out.cells k hlt
        have hcr : wr.cell? (ad.add k) = some (.int .u8 (l[k].toNat : Nat)) := (HB.out.cell (World.block_lt_of_cell? w _ hc)).trans hc
        have hba := (Below.refl wr.heap.size wr).alloc (Nat.le_refl _) (.cells #[.int .u8 (l[k].toNat : Nat)] 5)
        have HPA := Lib.hid (HP.out.below hba)
        have HAR := Lib.hid (bs_new wr 5 [l[k]] #[.int .u8 (l[k].toNat : Nat)] (0, 0) rfl)
        have hw := write_any HPA.out 0 _ [l[k]] 1 HAR.out (fun ad e => .inr (by injection e with e; subst e; intro hf; have := HP.out.lt _ hf; simp at this)) (by rw [ord_pend l k hk]; omega)
        rw [ord_err, ord_step l k hlt] at hw
        have HW := Lib.hid hw
        have HBA := Lib.hid (HB.out.alloc hz (.cells #[.int .u8 (l[k].toNat : Nat)] 5))
        have HC := Lib.hid hc
        clear hw hba HPA HAR hc
        have Hg : Hid (l.getD k 0 = l[k]) := getD_at hlt
        generalize hlk : l[k] = b at *
        go_wp2_with fail
        refine HW.out.mono ?_
        rintro e w2 ⟨rfl, hp2, hc2⟩
        have hz2 := hc2.size
        simp only [World.size_alloc] at hz2
        have HB2 := Lib.hid (Chg.of_below HBA.out hc2 HF.out)
        have HF2 := Lib.hid (nu_ge (F := F) (w := wr.alloc (.cells #[.int .u8 (b.toNat : Nat)] 5)) (w' := w2) (B := w.heap.size) HF.out (by simp; omega))
        have HP2 := Lib.hid hp2
        have hcr2 : w2.cell? (ad.add k) = some (.int .u8 (b.toNat : Nat)) := (HB2.out.cell (World.block_lt_of_cell? w _ HC.out)).trans HC.out
        clear hp2 hc2 hcr HW HBA HC HP HF
        generalize Nu F (wr.alloc (.cells #[.int .u8 (b.toNat : Nat)] 5)) w2 = F2 at *
        by_cases hkl : k < keep.length
        · obtain ⟨kd, rfl, hkc⟩ := H1.out k hkl
          have hkc2 : w2.cell? (kd.add k) = some (.bool keep[k]) := (HB2.out.cell (World.block_lt_of_cell? w _ hkc)).trans hkc
          have Hkd : Hid (keep.getD k false = keep[k]) := getD_at hkl
          clear hkc
          cases hkb : keep[k] with
          | true =>
            rw [hkb] at hkc2 Hkd
            have Hw : Hid (want l keep (k + 1) = b) := by simp only [Hid, want, Hkd.out, Hg.out, if_true]
            go_wp2
            refine ⟨⟨k + 1, F2, by omega, by go_num, by rw [Hw.out], HP2.out, HF2.out, HB2.out⟩, by simp [intOf]; omega⟩
          | false =>
            rw [hkb] at hkc2 Hkd
            have Hw : Hid (want l keep (k + 1) = want l keep k) := by simp only [Hid]; rw [want, Hkd.out]; rfl
            go_wp2
            refine ⟨⟨k + 1, F2, by omega, by go_num, by rw [Hw.out], HP2.out, HF2.out, HB2.out⟩, by simp [intOf]; omega⟩
        · have Hkd : Hid (keep.getD k false = false) := getD_past (by omega)
          have Hw : Hid (want l keep (k + 1) = want l keep k) := by simp only [Hid]; rw [want, Hkd.out]; rfl
          go_wp2
          refine ⟨⟨k + 1, F2, by omega, by go_num, by rw [Hw.out], HP2.out, HF2.out, HB2.out⟩, by simp [intOf]; omega⟩
      · obtain rfl : k = l.length := by omega
        have HK1 : Hid (Row .bool wr K keep) := fun i hi => by
          obtain ⟨kd, e, hkc⟩ := H1.out i hi
          exact ⟨kd, e, (HB.out.cell (World.block_lt_of_cell? w _ hkc)).trans hkc⟩
        go_wp2_with fail
        refine (crash_any HP.out K keep kc HK1.out (by rw [ord_pend l _ hk]; omega)).mono ?_
        rintro e w2 ⟨a', rfl, hp2, hb2⟩
        have HP2 := Lib.hid hp2
        have HD2 := Lib.hid (HP.out.below hb2)
        have HB2 := Lib.hid (HB.out.trans (hb2.mono hz))
        clear hp2 hb2
        go_wp2_with fail
        refine (read_any HP2.out 0).mono ?_
        rintro e w3 ⟨v3, rfl, ho3, hb3⟩
        rw [ord_read] at ho3
        have hp64 : (pad [want l keep l.length]).length = 64 := pad_len (by simp)
        obtain ⟨g3, c3, rfl, hg3, hg32, hc3⟩ := own_at ho3 (by rw [hp64]; decide)
        have hc30 := hc3 0 (by rw [hp64]; decide)
        change w3.cell? ⟨g3, 0, none⟩ = some (.int .u8 ((want l keep l.length).toNat : Nat)) at hc30
        rw [hp64]
        have HD3 := Lib.hid (waiting_any (HD2.out.below hb3))
        rw [ord_pend l _ hk] at HD3
        have HB3 := Lib.hid (HB2.out.trans (hb3.mono HB2.out.size))
        clear ho3 hb3 hc3 hp64
        generalize want l keep l.length = b at *
        go_wp2_with fail
        refine HD3.out.mono ?_
        rintro e w' ⟨rfl, rfl⟩
        go_wp2_with fail
        refine (known_any _).mono ?_
        rintro e w5 ⟨rfl, hb5⟩
        go_wp2
        go_ret
        exact ⟨rfl, HB3.out.trans (hb5.mono HB3.out.size)⟩

set_option maxRecDepth 100000 in
theorem lifted (os : Os) (started : os.Started) (H : Type) (enc : TypeId × Value → H) :
    ReturnsInHanded {} Try.checked os 8 .any (Rows.drumOrderSpec.pre6 enc Try.prog Try.f8 Rows.drumOrderRow.domain false) (Rows.drumOrderSpec.post enc Try.prog Try.f8 false true false false) := by
  refine returnsInHanded_of_change (C := Try.checked) own started (by kernel_rfl) Try.func8
    (ChangeSpec.witness6 (enc := enc) (C := Try.checked) false ⟨#[], #[.slice none 0 0, .slice none 0 0], []⟩ 8 (by kernel_rfl) (by kernel_rfl) (by kernel_rfl) (by kernel_rfl)) ?_
  intro W base args ds gs before hval0 hW hcnd _
  have hval : ∀ (j : Nat) t v, Try.f8.params[j]? = some t → args[j]? = some v → Value.okWide Try.prog W .any base t v := hval0
  have hW' := hW
  obtain ⟨p, q, hA0, hV, rfl, hfz, hnd⟩ := hW
  have hA : DataW.TrodAll enc Try.prog W 0 (fun _ => true) true Try.f8.params.toList args.toList ds p := hA0
  rw [Try.params8] at hA hval
  obtain ⟨v0, vs0, d0, ds0, p0, q0, hargs, rfl, rfl, h0, r0⟩ := trodAll_cons hA
  obtain ⟨v1, vs1, d1, ds1, p1, q1, rfl, rfl, rfl, h1, r1⟩ := trodAll_cons r0
  obtain ⟨rfl, rfl, rfl⟩ := trodAll_nil r1
  obtain rfl : args = #[v0, v1] := by cases args; simp_all
  obtain ⟨rfl, rfl⟩ := trodVars_none hV
  have k0 := h0
  have lt0 : ∀ x ∈ p0, x.block < W.heap.size := by obtain ⟨m, hm⟩ := k0; exact DataW.trod_lt m _ _ _ hm
  obtain ⟨a0, rfl, w0⟩ := open_bytes (hval 0 28 v0 rfl rfl) h0
  have k1 := h1
  have lt1 : ∀ x ∈ p1, x.block < W.heap.size := by obtain ⟨m, hm⟩ := k1; exact DataW.trod_lt m _ _ _ hm
  obtain ⟨a1, rfl, w1⟩ := open_bools (hval 1 29 v1 rfl rfl) h1
  clear hA0 hval0
  refine (walk a0 a1 W w0 w1).mono fun e W' ⟨he, bel⟩ => ?_
  subst he
  exact ⟨_, rfl, _, _, _, [], _, [], hW', trodAll_mk1 (shut_bool Try.underlying4 _), (trodAll_cons_mk (Below.trod laidOut (by kernel_rfl) (of_decide_eq_true (by kernel_rfl)) k0 bel lt0) (trodAll_cons_mk (Below.trod laidOut (by kernel_rfl) (of_decide_eq_true (by kernel_rfl)) k1 bel lt1) trodAll_mk0)), rfl, bel.frame _, fun h => by cases h⟩

theorem over : Rows.drumOrderRow.holds Try.pinned (OpenSpec.ofChange Rows.drumOrderSpec) :=
  OpenClaim.holds_of_wide 8 Try.f8 rfl rfl rfl rfl rfl rfl rfl ⟨rfl, rfl, rfl, rfl, rfl⟩ rfl rfl rfl rfl rfl (by kernel_rfl) Try.func8 (by kernel_rfl)
    (of_decide_eq_true (by kernel_rfl)) (by unfold Func.isWrapper; first | (rw [if_pos (by decide +kernel)]; kernel_rfl) | (rw [if_neg (by decide +kernel)]; exact ⟨rfl, rfl⟩))
    (fun os started H enc _ => lifted os started H enc)

theorem proved : Rows.DrumOrderSaid := over
#print axioms proved
end Go.Proofs.Ytghpjeaecdcgeaa.drumOrder
