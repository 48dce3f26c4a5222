/- Proved: ligaturelaw4.DrumOwn returns true for every slice of bytes, and leaves its argument as it was. No condition. -/
import Derived.Test.YtghpjeaecdcgeaaRows
import Derived.Test.YtghpjeaecdcgeaaDk
import Derived.BigQuiet
import Derived.Deep.QuietTactic
import Derived.Lib.QuietBelow
import Derived.WalkKit
import Derived.ProofKit
import Derived.OpenShut
import Derived.ShutString
import Derived.ChangeOld
import Derived.Below
namespace Go.Proofs.Ytghpjeaecdcgeaa.drumOwn
open Go.ChangeShapes Go.WideShapes Go.ChangeAt Go.RowKit
open Go.ChangeMaps (open_string shut_string)
set_option linter.unusedVariables false
theorem own : ownKnob Try.prog.godebug = none := by kernel_rfl
theorem laidOut : laidOutB Try.prog = true := by kernel_rfl
theorem q_below {P : Program} {f : FuncId} {args : Array Value} {W : World} {v : Value} (h : Calls P f args W fun e w' => e = .returned v ∧ W = w') : Calls P f args W fun e w' => e = .returned v ∧ Below W.heap.size W w' :=
  h.mono fun e w' ⟨he, hw⟩ => ⟨he, hw ▸ Below.refl _ _⟩
theorem size_one {i : TypeId} (h : Try.prog.elem 28 = i) (hi : i = 5) (W : World) : (sizeOf (Try.prog.elem 28)).run Try.prog W = .ok 1 W := by
  obtain ⟨i0, hi0, hz0, hz1, hz2⟩ := info_parts infoB
  rw [h, hi]
  simp [sizeOf, typeInfo, hi0, hz1]
theorem cut_to (A : Option Addr) (n c s : Nat) (h : s ≤ c) (W : World) :
    (Instr.slice 28 (.slice A n c) none (some (.int .i64 (s : Nat))) none).run Try.prog W = .ok (.slice A s c) W := by
  have ht : Try.prog.underlying 28 = some (.slice (Try.prog.elem 28)) := by kernel_rfl
  rw [run_slice_h W _ A n c ht .i64 s (by omega) (by omega), size_one rfl (by kernel_rfl)]
  simp [sliced, Result.andThen]
  cases A <;> simp [Addr.add]
theorem take_pad (p : List UInt8) : (pad p).take p.length = p := by simp [pad]

set_option maxHeartbeats 2000000 in
set_option maxRecDepth 100000 in
theorem walk (a0 : Sl UInt8) (w : World) (w0 : SlB w a0) :
    Calls Try.prog 7 #[slv a0] w fun e w' => e = .returned (.bool true) ∧ Below w.heap.size w w' := by
  obtain ⟨A, p, c⟩ := a0
  have H0 : Hid (BS w A p c) := w0
  clear w0
  unfold slv
  simp only
  by_cases hbig : p.length < 1 ∨ 64 < p.length
  · by_cases hb : p.length < 1
    · clear hbig
      go_enter Try.func7, Try.ntmps7
      go_wp2
      go_ret
      exact ⟨rfl, Below.refl _ _⟩
    · have hk : 64 < p.length := by omega
      clear hbig
      go_enter Try.func7, Try.ntmps7
      go_wp2
      all_goals (go_ret; exact ⟨rfl, Below.refl _ _⟩)
  · have hp1 : 1 ≤ p.length := by omega
    have hp64 : p.length ≤ 64 := by omega
    clear hbig
    have Hpl := Lib.hid (pad_len hp64)
    have Htp := Lib.hid (take_pad p)
    have Hwe := Lib.hid (show wrE (nwS 1) 0 p = 0 by
      have e : (nwS 1).now.length = 1 := rfl
      have e1 : fits (nwS 1) 0 p = true := by simp only [fits, e, decide_eq_true_eq]; omega
      simp [wrE, e1, show runsB (nwS 1) = true from rfl])
    have Hrd := Lib.hid (show rdL (wrS (nwS 1) 0 p) 0 = pad p by
      have e : (nwS 1).now.length = 1 := rfl
      have e1 : fits (nwS 1) 0 p = true := by simp only [fits, e, decide_eq_true_eq]; omega
      have e2 : wrS (nwS 1) 0 p = put (ticked (nwS 1)) 0 (pad p) := by simp [wrS, e1, show runsB (nwS 1) = true from rfl]
      rw [e2]; rfl)
    go_enter Try.func7, Try.ntmps7
    go_wp2_with fail
    refine (new_any 1 w).mono ?_
    rintro e w1 ⟨a, rfl, hpd1, hb1⟩
    have HB1 := Lib.hid hb1
    have HF1 := Lib.hid (nu_ge (F := fun _ => False) (w := w) (w' := w1) (B := w.heap.size) (fun _ h => absurd h id) (Nat.le_refl _))
    have HP1 := Lib.hid hpd1
    have hz1 := hb1.size
    clear hpd1 hb1
    generalize Nu (fun _ => False) w w1 = F1 at *
    have HLT := Lib.hid HP1.out.lt
    have HBS1 := Lib.hid ((H0.out.below HB1.out).below ((Below.refl w1.heap.size w1).alloc (Nat.le_refl _) (.cells #[] 5)))
    have HE := Lib.hid (show Own w1.heap.size (w1.alloc (.cells #[] 5)) (.slice (some ⟨w1.heap.size, 0, none⟩) 0 0) [] from World.ownsRow_made w1 #[] 0 (Nat.le_refl _) (by unfold maxLen; omega) rfl)
    go_wp2_with (at_builtin; refine wp_app rfl _ _ rfl w1.heap.size _ [] HE.out rfl A p _ c rfl rfl HBS1.out (by simp; omega) (by simp) ?_)
    intro v2 w2 ho2 hb2
    have hb12 : Below w1.heap.size w1 w2 := ((Below.refl w1.heap.size w1).alloc (Nat.le_refl _) _).trans hb2
    have HB2 := Lib.hid (HB1.out.trans (hb12.mono hz1))
    have HP2 := Lib.hid (HP1.out.below hb12)
    obtain ⟨g, cg, rfl, hg, hglt, hcg⟩ := own_at ho2 hp1
    have hfz := World.ownsRow.frozenAt ho2 0
    have hw := write_any HP2.out 0 _ p cg (own_bs ho2) (fun ad e => .inr (by injection e with e; subst e; intro hf; have := HLT.out _ hf; simp at this; omega)) (by decide)
    rw [Hwe.out] at hw
    have HW := Lib.hid hw
    have hc0 := hcg 0 hp1
    have hz2 := hb12.size
    clear ho2 hb2 hb12 hcg hw HP1 HE HBS1
    go_wp2_with fail
    refine HW.out.mono ?_
    rintro e w3 ⟨rfl, hp3, hc3⟩
    have hng : ¬ F1 g := fun hf => by have := HLT.out _ hf; omega
    have hcb := hc3.block g hglt hng
    have hc30 : w3.cell? ⟨g, 0, none⟩ = _ := (World.cell?_of_block (w := w2) (a := ⟨g, 0, none⟩) hcb).trans hc0
    have hf30 : w3.frozen? ⟨g, 0, none⟩ = false := (World.frozen?_of_block (w := w2) (a := ⟨g, 0, none⟩) hcb).trans hfz
    have HB3 := Lib.hid (Chg.of_below HB2.out hc3 HF1.out)
    have HP3 := Lib.hid hp3
    have HNG : Hid (¬ Nu F1 w2 w3 g) := fun h => by rcases h with h | h; exact hng h; omega
    have hz3 := hc3.size
    clear hp3 hc3 hcb hc0 hfz hng HW HP2
    generalize Nu F1 w2 w3 = F2 at *
    generalize wrS (nwS 1) 0 p = s1 at *
    generalize p[0] = p0 at *
    have HP4 : ∀ u, Hid (PD F2 (w3.setCell ⟨g, 0, none⟩ u) a s1) := fun u => HP3.out.chg (chg_set (F := fun k => k = g) rfl 0 u) (fun k hk e => by subst e; exact HNG.out hk)
    have HB4 : ∀ u, Hid (Below w.heap.size w (w3.setCell ⟨g, 0, none⟩ u)) := fun u => HB3.out.setCell (p := ⟨g, 0, none⟩) (by simp; omega) u
    go_wp2_with fail
    refine (read_any (HP4 _).out 0).mono ?_
    rintro e w5 ⟨v5, rfl, ho5, hb5⟩
    rw [Hrd.out] at ho5
    have hcap5 := Hpl.out
    obtain ⟨g5, c5, rfl, hg5, hg5lt, hcg5⟩ := own_at ho5 (by omega)
    have hbs5 := own_bs ho5
    have hfz5 := World.ownsRow.frozenAt ho5 0
    obtain ⟨q0, hc50⟩ : ∃ q0 : UInt8, w5.cell? ⟨g5, 0, none⟩ = some (.int .u8 (q0.toNat : Nat)) := ⟨_, hcg5 0 (by omega)⟩
    have hg5' : w3.heap.size ≤ g5 := by simpa [World.setCell] using hg5
    have hcc5 := hbs5.cap
    rw [Hpl.out] at hcc5
    have HT5 := Lib.hid (hbs5.take p.length)
    rw [Htp.out] at HT5
    rw [Hpl.out]
    have HB5 := Lib.hid ((HB4 _).out.trans (hb5.mono (HB4 _).out.size))
    have HP5 := Lib.hid ((HP4 _).out.below hb5)
    have HA5 := Lib.hid (H0.out.below HB5.out)
    have hst := cut_to (some ⟨g5, 0, none⟩) 64 c5 p.length (by omega)
    have hv1 : ∀ m, (convert 28 9 (.slice (some ⟨g5, 0, none⟩) p.length c5)).run Try.prog (w5.drewN m) = .ok (.string (bstr p)) (w5.drewN m) := fun m => (HT5.out.drewN m).conv _ rfl
    have hv2 : ∀ m, (convert 28 9 (.slice A p.length c)).run Try.prog (w5.drewN m) = .ok (.string (bstr p)) (w5.drewN m) := fun m => (HA5.out.drewN m).conv _ rfl
    have HLT3 := Lib.hid HP3.out.lt
    clear ho5 hb5 hbs5 hcg5 hcap5 hg5 hc30 hf30 HP4 HB4 HP3 HB3
    go_wp2_with fail
    go_quiet (fail)
    have hc6 : (w5.drewN nq).cell? ⟨g5, 0, none⟩ = some (.int .u8 (q0.toNat : Nat)) := hc50
    have hf6 : (w5.drewN nq).frozen? ⟨g5, 0, none⟩ = false := hfz5
    have HP6 : ∀ u, Hid (PD F2 ((w5.drewN nq).setCell ⟨g5, 0, none⟩ u) a s1) := fun u => (HP5.out.drewN nq).chg (chg_set (F := fun k => k = g5) rfl 0 u) (fun k hk e => by subst e; have := HLT3.out _ hk; omega)
    have HB6 : ∀ u, Hid (Below w.heap.size w ((w5.drewN nq).setCell ⟨g5, 0, none⟩ u)) := fun u => (below_drewN HB5.out nq).setCell (p := ⟨g5, 0, none⟩) (by simp; omega) u
    clear hv1 hv2 hst hc50 hfz5 HT5
    generalize w5.drewN nq = w6 at *
    go_wp2_with fail
    refine (read_any (HP6 _).out 0).mono ?_
    rintro e w7 ⟨v7, rfl, ho7, hb7⟩
    rw [Hrd.out] at ho7
    have hcap7 := Hpl.out
    obtain ⟨g7, c7, rfl, hg7, hg7lt, hcg7⟩ := own_at ho7 (by omega)
    have hbs7 := own_bs ho7
    have hcc7 := hbs7.cap
    rw [Hpl.out] at hcc7
    have HT7 := Lib.hid (hbs7.take p.length)
    rw [Htp.out] at HT7
    rw [Hpl.out]
    have HB7 := Lib.hid ((HB6 _).out.trans (hb7.mono (HB6 _).out.size))
    have HA7 := Lib.hid (H0.out.below HB7.out)
    have hst := cut_to (some ⟨g7, 0, none⟩) 64 c7 p.length (by omega)
    have hv1 : ∀ d os, (convert 28 9 (.slice (some ⟨g7, 0, none⟩) p.length c7)).run Try.prog (Sort.grow (redrawn w7 d) os) = .ok (.string (bstr p)) (Sort.grow (redrawn w7 d) os) := fun d os => (HT7.out.below (below_regrown w7 d os)).conv _ rfl
    have hv2 : ∀ d os, (convert 28 9 (.slice A p.length c)).run Try.prog (Sort.grow (redrawn w7 d) os) = .ok (.string (bstr p)) (Sort.grow (redrawn w7 d) os) := fun d os => (HA7.out.below (below_regrown w7 d os)).conv _ rfl
    clear ho7 hb7 hbs7 hcg7 hcap7 hg7 hc6 hf6 HP6 HB6
    go_wp2_with fail
    refine (fuse_nil _ 1).mono ?_
    rintro e w' ⟨rfl, rfl⟩
    go_wp2_with fail
    refine wp_region_quiet_below (by kernel_rfl) (by kernel_rfl) ?_
    repeat (quiet_step ((first
      | (go_at_call 13; with_reducible exact Calls.regrown_of (q_below (write_nil _ 0 (.slice A p.length c))))
      | (go_at_call 15; with_reducible exact Calls.regrown_of (q_below (sync_nil _)))
      | (go_at_call 19; with_reducible exact Calls.regrown_of (q_below (crash_nil _ (.slice none 0 0))))
      | (go_at_call 25; with_reducible exact Calls.regrown_of (q_below (len_nil _)))
      | (go_at_call 23; with_reducible exact Calls.regrown_of (q_below (waiting_nil _)))
      | (go_at_call 24; with_reducible exact Calls.regrown_of (q_below (read_nil _ 0)))
      | (go_at_call 22; with_reducible exact Calls.regrown_of (known_any _)))))
    refine wpQuiet_nil ?_
    intro _ hw'
    obtain ⟨⟨dq, osq⟩, hw''⟩ := hw'
    subst hw''
    have HB8 := Lib.hid (HB7.out.trans ((below_regrown w7 dq osq).mono HB7.out.size))
    go_wp2_with fail
    go_ret
    exact ⟨rfl, HB8.out⟩

set_option maxRecDepth 100000 in
theorem lifted (os : Os) (started : os.Started) (H : Type) (enc : TypeId × Value → H) :
    ReturnsInHanded {} Try.checked os 7 .any (Rows.drumOwnSpec.pre6 enc Try.prog Try.f7 Rows.drumOwnRow.domain false) (Rows.drumOwnSpec.post enc Try.prog Try.f7 false true false false) := by
  refine returnsInHanded_of_change (C := Try.checked) own started (by kernel_rfl) Try.func7
    (ChangeSpec.witness6 (enc := enc) (C := Try.checked) false ⟨#[], #[.slice none 0 0], []⟩ 8 (by kernel_rfl) (by kernel_rfl) (by kernel_rfl) (by kernel_rfl)) ?_
  intro W base args ds gs before hval0 hW hcnd _
  have hval : ∀ (j : Nat) t v, Try.f7.params[j]? = some t → args[j]? = some v → Value.okWide Try.prog W .any base t v := hval0
  have hW' := hW
  obtain ⟨p, q, hA0, hV, rfl, hfz, hnd⟩ := hW
  have hA : DataW.TrodAll enc Try.prog W 0 (fun _ => true) true Try.f7.params.toList args.toList ds p := hA0
  rw [Try.params7] at hA hval
  obtain ⟨v0, vs0, d0, ds0, p0, q0, hargs, rfl, rfl, h0, r0⟩ := trodAll_cons hA
  obtain ⟨rfl, rfl, rfl⟩ := trodAll_nil r0
  obtain rfl : args = #[v0] := by cases args; simp_all
  obtain ⟨rfl, rfl⟩ := trodVars_none hV
  have k0 := h0
  have lt0 : ∀ x ∈ p0, x.block < W.heap.size := by obtain ⟨m, hm⟩ := k0; exact DataW.trod_lt m _ _ _ hm
  obtain ⟨a0, rfl, w0⟩ := open_bytes (hval 0 28 v0 rfl rfl) h0
  clear hA0 hval0
  refine (walk a0 W w0).mono fun e W' ⟨he, bel⟩ => ?_
  subst he
  exact ⟨_, rfl, _, _, _, [], _, [], hW', trodAll_mk1 (shut_bool Try.underlying4 _), (trodAll_cons_mk (Below.trod laidOut (by kernel_rfl) (of_decide_eq_true (by kernel_rfl)) k0 bel lt0) trodAll_mk0), rfl, bel.frame _, fun h => by cases h⟩

theorem over : Rows.drumOwnRow.holds Try.pinned (OpenSpec.ofChange Rows.drumOwnSpec) :=
  OpenClaim.holds_of_wide 7 Try.f7 rfl rfl rfl rfl rfl rfl rfl ⟨rfl, rfl, rfl, rfl, rfl⟩ rfl rfl rfl rfl rfl (by kernel_rfl) Try.func7 (by kernel_rfl)
    (of_decide_eq_true (by kernel_rfl)) (by unfold Func.isWrapper; first | (rw [if_pos (by decide +kernel)]; kernel_rfl) | (rw [if_neg (by decide +kernel)]; exact ⟨rfl, rfl⟩))
    (fun os started H enc _ => lifted os started H enc)

theorem proved : Rows.DrumOwnSaid := over
#print axioms proved
end Go.Proofs.Ytghpjeaecdcgeaa.drumOwn
