/- Proved: ligaturelaw5.RedoBig returns true for every int, byte, int and slice of bools, and leaves its arguments as they were. No condition. -/
import Derived.Test.YtembonenaoineaaRows
import Derived.Test.YtembonenaoineaaGm
import Derived.Test.YtembonenaoineaaGn
import Derived.WalkKit
import Derived.ProofKit
import Derived.OpenShut
import Derived.ShutString
import Derived.ChangeOld
import Derived.Below
namespace Go.Proofs.Ytembonenaoineaa.redoBig
set_option maxRecDepth 100000
open Go.ChangeShapes Go.WideShapes Go.ChangeAt Go.RowKit
open Go.ChangeMaps (open_string shut_string)
set_option linter.unusedVariables false
theorem own : ownKnob Try.prog.godebug = none := by kernel_rfl
theorem laidOut : laidOutB Try.prog = true := by kernel_rfl

set_option maxHeartbeats 8000000 in
set_option maxRecDepth 100000 in
theorem walk (a0 : Int) (a1 : Int) (a2 : Int) (a3 : Sl Bool) (w : World) (w0 : (Lit.int .i64 a0).wf = true) (w1 : (Lit.int .u8 a1).wf = true) (w2 : (Lit.int .i64 a2).wf = true) (w3 : SlT w a3) :
    Calls Try.prog 9 #[.int .i64 a0, .int .u8 a1, .int .i64 a2, slv a3] w fun e w' => e = .returned (.bool true) ∧ Below w.heap.size w w' := by
  obtain ⟨K, keep, kc⟩ := a3
  have H1 : Hid (Row .bool w K keep) := w3
  have hc8 : 0 ≤ a1 ∧ a1 ≤ 255 := by simpa [Lit.wf, IntKind.min, IntKind.max, IntKind.signed, IntKind.bits] using w1
  obtain ⟨f0, f1⟩ := (show -9223372036854775808 ≤ a2 ∧ a2 ≤ 9223372036854775807 by simpa [Lit.wf, IntKind.min, IntKind.max, IntKind.signed, IntKind.bits] using w2)
  obtain ⟨c0, c1⟩ := hc8
  clear w1 w0 w2 w3
  unfold slv
  simp only
  by_cases hbad : a0 < 0 ∨ 3000 < a0 ∨ a2 < 0 ∨ 80 < a2 ∨ 100 < keep.length
  · rcases (show a0 < 0 ∨ (0 ≤ a0 ∧ 3000 < a0) ∨ (0 ≤ a0 ∧ a0 ≤ 3000 ∧ a2 < 0) ∨ (0 ≤ a0 ∧ a0 ≤ 3000 ∧ 0 ≤ a2 ∧ 80 < a2) ∨ (0 ≤ a0 ∧ a0 ≤ 3000 ∧ 0 ≤ a2 ∧ a2 ≤ 80 ∧ 100 < keep.length) by omega) with q | ⟨q, q'⟩ | ⟨q, q', q''⟩ | ⟨q, q', q'', q3⟩ | ⟨q, q', q'', q3, q4⟩
    all_goals (
      clear hbad
      go_enter Try.func9, Try.ntmps9
      go_wp2
      go_ret
      exact ⟨rfl, Below.refl _ _⟩)
  · obtain ⟨n, rfl⟩ : ∃ n : Nat, a0 = n := ⟨a0.toNat, by omega⟩
    have hn : n ≤ 3000 := by omega
    have hf0 : 0 ≤ a2 := by omega
    have hf80 : a2 ≤ 80 := by omega
    have hk100 : keep.length ≤ 100 := by omega
    clear hbad
    obtain ⟨i0, hi0, hz0, hz1, hz2⟩ := info_parts infoB
    go_enter Try.func9, Try.ntmps9
    go_wp2_with fail
    refine (new_any 120 w).mono ?_
    rintro e w1 ⟨a, rfl, hp1, hb1⟩
    have HB1 := Lib.hid hb1
    have HF1 := Lib.hid (nu_ge (F := fun _ => False) (w := w) (w' := w1) (B := w.heap.size) (fun _ h => absurd h id) (Nat.le_refl _))
    have HP1 := Lib.hid hp1
    have HR := Lib.hid (rst_new 120 (by omega) (by omega))
    have HN : Hid ((nwS ((120 : Nat) : Int)).now.length = 120) := by simp only [Hid]; rw [nwS_len]; decide
    change Hid (PD _ w1 a (nwS ((120 : Nat) : Int))) at HP1
    clear hp1 hb1
    generalize Nu (fun _ => False) w w1 = F1 at *
    generalize nwS ((120 : Nat) : Int) = s1 at *
    go_wp2_with fail
    refine (open_rst HP1.out HR.out.rest (by simp)).mono ?_
    rintro e w2 ⟨hb2, c, v, rfl, hl2, hc2, hrs2⟩
    obtain ⟨A2, c2, rfl, _, _, _⟩ := hrs2.open
    have HS2 := Lib.hid (sys_open HB1.out HP1.out HF1.out hb2 hl2 hc2)
    clear hb2 hl2 hc2 hrs2 HP1 HB1 HF1
    go_wp2_with (at_make; refine wpList_make_full _ rfl _ _ _ rfl w2.heap.size 5 i0 _ 1 Try.underlying36 hi0 hz0 hz1 _ _ _ _ n rfl rfl (by omega) (by omega) (by rw [hz2]; omega) (by unfold maxLen; omega) (Nat.le_refl _) ?_)
    intro w3 ho hg
    have hb3 : Below w2.heap.size w2 w3 := (Below.refl _ _).grown hg (Nat.le_refl _) (fun k e => by cases e)
    have HO3 : Hid (Own w2.heap.size w3 (.slice (some ⟨w2.heap.size, 0, none⟩) n n) (List.replicate n 0)) := by
      show Own _ _ _ _
      unfold Own
      rw [List.length_replicate, ← made_bytes]; exact ho
    have HS3 := Lib.hid (HS2.out.below hb3)
    have HL2 := Lib.hid HS2.out.pd.lt
    have hcl := HS2.out.lm.lt
    have hw2 := HS2.out.bl.size
    clear ho hg hb3 HS2
    generalize w2.heap.size = g at *
    go_wp2
    go_loopw [14] (fun i wr => ∃ (k : Nat) (l : List UInt8), k ≤ n ∧ i = .int .i64 k ∧ Hid (l.length = n) ∧ Hid (Own g wr (.slice (some ⟨g, 0, none⟩) n n) l) ∧ Hid (Sys w wr F1 a c s1 ⟨hd0, 0, false⟩)) (fun i _ => n - (intOf i).toNat)
    case atStart => exact ⟨0, List.replicate n 0, Nat.zero_le _, rfl, by simp [Hid], HO3.out, HS3.out⟩
    case round =>
      clear HO3 HS3
      obtain ⟨k, l, hkn, rfl, HLN, HO, HS⟩ := hrel
      by_cases hlt : k < n
      · obtain ⟨gg, cc, hv, _, _, hcs⟩ := own_at HO.out (by rw [HLN.out]; omega)
        injection hv with hv _ _
        injection hv with hv
        injection hv with hv
        subst hv
        have hck := hcs k (by rw [HLN.out]; exact hlt)
        have hfk := own_frozen HO.out HLN.out k
        clear hcs
        go_wp2
        obtain ⟨b, hb⟩ := u8_of_int (x := (a1 + (k : Int)) % 256) (by omega) (by omega)
        rw [hb]
        refine ⟨⟨k + 1, l.set k b, by omega, by go_num, by simp only [Hid]; rw [List.length_set]; exact HLN.out, own_set HO.out HLN.out k b, ?_⟩, by simp [intOf]; omega⟩
        exact sys_chg HS.out (G := fun q => q = g) ((Chg.refl _ _).grown (grown_set _ g k _) (fun q e => by injection e with e; exact .inl e.symm)) (fun q hq e => by have := HL2.out q hq; omega) (by omega) (fun q e => by omega)
      · obtain rfl : k = n := by omega
        go_wp2_with fail
        refine (fuse_any HS.out.pd a2 f0 f1).mono ?_
        rintro e w4 hd4
        have HS4 := Lib.hid (HS.out.does hd4)
        have ho4 := own_chg HO.out hd4.2.2 (fun q hq hf => by simp [Value.ownBlock] at hq; subst hq; have := HL2.out g hf; omega)
        have hz4 := hd4.2.2.size
        have hgw : g < wr.heap.size := (World.ownsRow.lt HO.out g rfl).2
        have HNF : Hid (¬ Nu F1 wr w4 g) := fun hf => by
          rcases hf with hf | hf
          · have := HL2.out g hf; omega
          · omega
        obtain ⟨rfl, _, _⟩ := hd4
        have HO4 := Lib.hid ho4
        have HR4 := Lib.hid (HR.out.fuse (n := a2) f1)
        have HN4 : Hid ((fzS s1 a2).now.length = 120) := HN.out
        generalize fzS s1 a2 = s4 at *
        generalize Nu F1 wr w4 = F4 at *
        have hbk : bk s4.now = 59 := by unfold bk; rw [HN4.out]
        have hep := encS_two (p := l) (by rw [HLN.out]; omega)
        rw [HLN.out] at hep
        have HAP := Lib.hid (app_rst HS4.out HR4.out (some ⟨g, 0, none⟩) l k (own_bs HO4.out) (by rw [HLN.out]; omega) (by rw [hbk]; show ([] ++ Lb.encS l).length ≤ _; rw [List.nil_append]; omega) (by decide))
        rw [HLN.out] at HAP
        clear ho4 hbk hep HS HO HR
        go_wp2_with fail
        refine HAP.out.mono ?_
        rintro e w5 ⟨E, s', L', rfl, hs5, hc5, hst⟩
        have HS5 := Lib.hid hs5
        have HO5 := Lib.hid (own_chg HO4.out hc5 (fun q hq hf => by
          simp [Value.ownBlock] at hq
          subst hq
          rcases hf with hf | hf
          · exact HNF.out hf
          · omega))
        have HST := Lib.hid hst
        have hpn : s'.pend.length ≤ 1000 := by have := hst.pend; rw [HR4.out.rest.pend] at this; simp at this; omega
        have HCR := Lib.hid (crash_any hs5.pd K keep kc (row_below' H1.out hs5.bl) hpn)
        have H4' : Hid (4 ≤ s'.now.length) := by simp only [Hid]; rw [hst.len, HN4.out]; decide
        clear hs5 hc5 hst hpn HAP HO4
        go_wp2_with fail
        refine HCR.out.mono ?_
        rintro e w6 ⟨a6, rfl, hp6, hb6⟩
        have HB6 := Lib.hid (HS5.out.bl.trans (hb6.mono HS5.out.bl.size))
        have HO6 := Lib.hid (HO5.out.below hb6)
        have HP6 := Lib.hid hp6
        clear hp6 hb6 HCR
        generalize Nu (fun _ => False) w5 w6 = F6 at *
        by_cases hE : E = 0
        · subst hE
          obtain ⟨hd, hr6, _⟩ := rst_crash HST.out.ok H4'.out (HST.out.all keep rfl)
          have HOP := Lib.hid (open_rst HP6.out hr6.rest (fun q hq => by simp [esOf] at hq; subst hq; rw [HLN.out]; omega))
          change Hid (Calls _ _ _ _ fun e w' => _ ∧ ∃ c v, _ ∧ _ ∧ _ ∧ Rs _ _ w' v [l]) at HOP
          clear hr6
          go_wp2_with fail
          refine HOP.out.mono ?_
          rintro e w7 ⟨hb7, c7, v7, rfl, _, _, hrs7⟩
          obtain ⟨A7, cc7, rfl, hes7, _, _⟩ := hrs7.open
          have hb8 := (Below.refl w7.heap.size w7).alloc (Nat.le_refl _) (.cells #[.slice (some ⟨g, 0, none⟩) k k] 36)
          have HB8 := Lib.hid ((HB6.out.trans (hb7.mono HB6.out.size)).alloc (HB6.out.trans (hb7.mono HB6.out.size)).size (.cells #[.slice (some ⟨g, 0, none⟩) k k] 36))
          have hcell := cell_new1 w7 (.slice (some ⟨g, 0, none⟩) k k) 36
          rw [show (.slice (some ⟨g, 0, none⟩) k k : Value) = .slice (some ⟨g, 0, none⟩) l.length k by rw [HLN.out]] at hcell
          have hes8 := es_one hcell (own_bs ((HO6.out.below hb7).below (by rw [HLN.out]; exact hb8)))
          have HRO := Lib.hid (rows_any A7 [l] cc7 _ [l] 1 (hes7.below (by rw [HLN.out]; exact hb8)) hes8 (by simp))
          rw [HLN.out, show decide ([l] = [l]) = true by simp] at HRO
          change Hid (Calls _ _ #[.slice _ 1 _, .slice _ 1 1] _ _) at HRO
          clear hb7 hrs7 hes7 hb8 hcell hes8 HOP
          go_wp2_with fail
          refine HRO.out.mono ?_
          rintro e w9 ⟨rfl, hb9⟩
          have HB9 := Lib.hid (HB8.out.trans (hb9.mono HB8.out.size))
          clear hb9 HRO
          go_wp2_with fail
          refine (known5_any _).mono ?_
          rintro e w10 ⟨rfl, hb10⟩
          have HB10 := Lib.hid (HB9.out.trans (hb10.mono HB9.out.size))
          clear hb10
          go_wp2
          go_ret
          exact ⟨rfl, HB10.out⟩
        · obtain ⟨rfl, _⟩ := HST.out.gone HR4.out hE
          clear hE
          rcases HST.out.left keep with hleft | hleft
          · obtain ⟨hd, hr6, _⟩ := rst_crash HST.out.ok H4'.out hleft
            have HOP := Lib.hid (open_rst HP6.out hr6.rest (fun q hq => by simp at hq))
            clear hr6 hleft
            go_wp2_with fail
            refine HOP.out.mono ?_
            rintro e w7 ⟨hb7, c7, v7, rfl, _, _, hrs7⟩
            obtain ⟨A7, cc7, rfl, _, _, _⟩ := hrs7.open
            have HB7 := Lib.hid (HB6.out.trans (hb7.mono HB6.out.size))
            clear hb7 hrs7 HOP
            go_wp2_with fail
            refine (known5_any _).mono ?_
            rintro e w10 ⟨rfl, hb10⟩
            have HB10 := Lib.hid (HB7.out.trans (hb10.mono HB7.out.size))
            clear hb10
            go_wp2
            go_ret
            exact ⟨rfl, HB10.out⟩
          · obtain ⟨hd, hr6, _⟩ := rst_crash HST.out.ok H4'.out hleft
            have HOP := Lib.hid (open_rst HP6.out hr6.rest (fun q hq => by simp [esOf] at hq; subst hq; rw [HLN.out]; omega))
            change Hid (Calls _ _ _ _ fun e w' => _ ∧ ∃ c v, _ ∧ _ ∧ _ ∧ Rs _ _ w' v [l]) at HOP
            clear hr6 hleft
            go_wp2_with fail
            refine HOP.out.mono ?_
            rintro e w7 ⟨hb7, c7, v7, rfl, _, _, hrs7⟩
            obtain ⟨A7, cc7, rfl, hes7, _, _⟩ := hrs7.open
            have hb8 := (Below.refl w7.heap.size w7).alloc (Nat.le_refl _) (.cells #[.slice (some ⟨g, 0, none⟩) k k] 36)
            have HB8 := Lib.hid ((HB6.out.trans (hb7.mono HB6.out.size)).alloc (HB6.out.trans (hb7.mono HB6.out.size)).size (.cells #[.slice (some ⟨g, 0, none⟩) k k] 36))
            have hcell := cell_new1 w7 (.slice (some ⟨g, 0, none⟩) k k) 36
            rw [show (.slice (some ⟨g, 0, none⟩) k k : Value) = .slice (some ⟨g, 0, none⟩) l.length k by rw [HLN.out]] at hcell
            have hes8 := es_one hcell (own_bs ((HO6.out.below hb7).below (by rw [HLN.out]; exact hb8)))
            have HRO := Lib.hid (rows_any A7 [l] cc7 _ [l] 1 (hes7.below (by rw [HLN.out]; exact hb8)) hes8 (by simp))
            rw [HLN.out, show decide ([l] = [l]) = true by simp] at HRO
            change Hid (Calls _ _ #[.slice _ 1 _, .slice _ 1 1] _ _) at HRO
            clear hb7 hrs7 hes7 hb8 hcell hes8 HOP
            go_wp2_with fail
            refine HRO.out.mono ?_
            rintro e w9 ⟨rfl, hb9⟩
            have HB9 := Lib.hid (HB8.out.trans (hb9.mono HB8.out.size))
            clear hb9 HRO
            go_wp2_with fail
            refine (known5_any _).mono ?_
            rintro e w10 ⟨rfl, hb10⟩
            have HB10 := Lib.hid (HB9.out.trans (hb10.mono HB9.out.size))
            clear hb10
            go_wp2
            go_ret
            exact ⟨rfl, HB10.out⟩

set_option maxRecDepth 100000 in
theorem lifted (os : Os) (started : os.Started) (H : Type) (enc : TypeId × Value → H) :
    ReturnsInHanded {} Try.checked os 9 .any (Rows.redoBigSpec.pre6 enc Try.prog Try.f9 Rows.redoBigRow.domain false) (Rows.redoBigSpec.post enc Try.prog Try.f9 false true false false) := by
  refine returnsInHanded_of_change (C := Try.checked) own started (by kernel_rfl) Try.func9
    (ChangeSpec.witness6 (enc := enc) (C := Try.checked) false ⟨#[], #[.int .i64 0, .int .u8 0, .int .i64 0, .slice none 0 0], []⟩ 8 (by kernel_rfl) (by kernel_rfl) (by kernel_rfl) (by kernel_rfl)) ?_
  intro W base args ds gs before hval0 hW hcnd _
  have hval : ∀ (j : Nat) t v, Try.f9.params[j]? = some t → args[j]? = some v → Value.okWide Try.prog W .any base t v := hval0
  have hW' := hW
  obtain ⟨p, q, hA0, hV, rfl, hfz, hnd⟩ := hW
  have hA : DataW.TrodAll enc Try.prog W 0 (fun _ => true) true Try.f9.params.toList args.toList ds p := hA0
  rw [Try.params9] at hA hval
  obtain ⟨v0, vs0, d0, ds0, p0, q0, hargs, rfl, rfl, h0, r0⟩ := trodAll_cons hA
  obtain ⟨v1, vs1, d1, ds1, p1, q1, rfl, rfl, rfl, h1, r1⟩ := trodAll_cons r0
  obtain ⟨v2, vs2, d2, ds2, p2, q2, rfl, rfl, rfl, h2, r2⟩ := trodAll_cons r1
  obtain ⟨v3, vs3, d3, ds3, p3, q3, rfl, rfl, rfl, h3, r3⟩ := trodAll_cons r2
  obtain ⟨rfl, rfl, rfl⟩ := trodAll_nil r3
  obtain rfl : args = #[v0, v1, v2, v3] := by cases args; simp_all
  obtain ⟨rfl, rfl⟩ := trodVars_none hV
  obtain ⟨a0, rfl, rfl, rfl, w0⟩ := open_int Try.underlying3 (hval 0 3 v0 rfl rfl) h0
  obtain ⟨a1, rfl, rfl, rfl, w1⟩ := open_int Try.underlying5 (hval 1 5 v1 rfl rfl) h1
  obtain ⟨a2, rfl, rfl, rfl, w2⟩ := open_int Try.underlying3 (hval 2 3 v2 rfl rfl) h2
  have k3 := h3
  have lt3 : ∀ x ∈ p3, x.block < W.heap.size := by obtain ⟨m, hm⟩ := k3; exact DataW.trod_lt m _ _ _ hm
  obtain ⟨a3, rfl, w3⟩ := open_bools (hval 3 37 v3 rfl rfl) h3
  clear hA0 hval0
  refine (walk a0 a1 a2 a3 W w0 w1 w2 w3).mono fun e W' ⟨he, bel⟩ => ?_
  subst he
  exact ⟨_, rfl, _, _, _, [], _, [], hW', trodAll_mk1 (shut_bool Try.underlying4 _), (trodAll_cons_mk (shut_int Try.underlying3 w0) (trodAll_cons_mk (shut_int Try.underlying5 w1) (trodAll_cons_mk (shut_int Try.underlying3 w2) (trodAll_cons_mk (Below.trod laidOut (by kernel_rfl) (of_decide_eq_true (by kernel_rfl)) k3 bel lt3) trodAll_mk0)))), rfl, bel.frame _, fun h => by cases h⟩

theorem over : Rows.redoBigRow.holds Try.pinned (OpenSpec.ofChange Rows.redoBigSpec) :=
  OpenClaim.holds_of_wide 9 Try.f9 rfl rfl rfl rfl rfl rfl rfl ⟨rfl, rfl, rfl, rfl, rfl⟩ rfl rfl rfl rfl rfl (by kernel_rfl) Try.func9 (by kernel_rfl)
    (of_decide_eq_true (by kernel_rfl)) (by unfold Func.isWrapper; first | (rw [if_pos (by decide +kernel)]; kernel_rfl) | (rw [if_neg (by decide +kernel)]; exact ⟨rfl, rfl⟩))
    (fun os started H enc _ => lifted os started H enc)

theorem proved : Rows.RedoBigSaid := over
#print axioms proved
end Go.Proofs.Ytembonenaoineaa.redoBig
