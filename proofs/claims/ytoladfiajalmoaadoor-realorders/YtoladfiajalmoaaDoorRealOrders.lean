/- Proved: ligaturelaw1.RealOrders returns true for all uint64 a, b and c, and leaves its arguments as they were; the card ties the library tables that its road names to the program's text. No condition of ours. -/
import Derived.Test.YtoladfiajalmoaaDoorDr
import Derived.Test.YtoladfiajalmoaaDoorRef
namespace Go.Proofs.YtoladfiajalmoaaDoor.realOrders
open Fl (S IR nanB normN keyN NaNw cmpK unkN ofB)
open Go.ChangeShapes Go.WideShapes Go.ChangeAt Go.RowKit
set_option linter.unusedVariables false

theorem walk (a0 : Int) (a1 : Int) (a2 : Int) (w0 : (Lit.int .u64 a0).wf = true) (w1 : (Lit.int .u64 a1).wf = true) (w2 : (Lit.int .u64 a2).wf = true) (w : World) (hT : w.cell? ⟨4, 15, none⟩ = some (.int .u8 4)) :
    Calls Tryd.prog 4 #[.int .u64 a0, .int .u64 a1, .int .u64 a2] w fun e w' => e = .returned (.bool true) ∧ Below w.heap.size w w' := by
  obtain ⟨x, rfl, hx⟩ := u64_nat w0
  obtain ⟨y, rfl, hy⟩ := u64_nat w1
  obtain ⟨z, rfl, hz⟩ := u64_nat w2
  have HT := Lib.hid hT
  clear hT
  have bd1 := Fl.cmpK_bd (keyN x) (keyN y)
  have bd2 := Fl.cmpK_bd (keyN y) (keyN x)
  have hsw : (cmpK (keyN x) (keyN y) != -cmpK (keyN y) (keyN x)) = false := by rw [Fl.cmpK_swap (keyN x) (keyN y)]; simp
  have hxx : (cmpK (keyN x) (keyN x) != 0) = false := by rw [Fl.cmpK_self]; rfl
  have hkx := Fl.keyN_lt x hx
  have hky := Fl.keyN_lt y hy
  have HL := Lib.hid (less_key x y hx hy)
  have hfin : ((cmpK (keyN x) (keyN y) == 0) == (hexL (keyN x) 16 == hexL (keyN y) 16)) = true := by
    have := hex_inj (keyN x) (keyN y) hkx hky
    rw [beq_iff_eq, Bool.eq_iff_iff, beq_iff_eq, beq_iff_eq, this]
    unfold cmpK; split <;> (try split) <;> omega
  clear hkx hky
  have htr : decide (cmpK (keyN x) (keyN y) ≤ 0) = true → decide (cmpK (keyN y) (keyN z) ≤ 0) = true → decide (0 < cmpK (keyN x) (keyN z)) = false := by
    intro h1 h2
    have g1 := of_decide_eq_true h1
    have g2 := of_decide_eq_true h2
    have e1 : keyN x ≤ keyN y := by unfold cmpK at g1; split at g1 <;> (try split at g1) <;> omega
    have e2 : keyN y ≤ keyN z := by unfold cmpK at g2; split at g2 <;> (try split at g2) <;> omega
    apply decide_eq_false
    unfold cmpK; split <;> (try split) <;> omega
  have Htr := Lib.hid htr
  clear htr
  go_enter Tryd.func4, Tryd.ntmps4
  go_wp2_with fail
  refine (cmp_any _ _ hx hy _).mono ?_
  rintro e w' ⟨rfl, rfl⟩
  go_wp2_with fail
  refine (cmp_any _ _ hy hz _).mono ?_
  rintro e w' ⟨rfl, rfl⟩
  go_wp2_with fail
  refine (cmp_any _ _ hx hz _).mono ?_
  rintro e w' ⟨rfl, rfl⟩
  go_wp2_with fail
  refine (cmp_any _ _ hy hx _).mono ?_
  rintro e w' ⟨rfl, rfl⟩
  go_wp2_with fail
  refine (cmp_any _ _ hx hx _).mono ?_
  rintro e w' ⟨rfl, rfl⟩
  have h3 : (cmpK (keyN x) (keyN y) ≤ 0 ∧ cmpK (keyN y) (keyN z) ≤ 0 ∧ cmpK (keyN x) (keyN z) ≤ 0) ∨ (cmpK (keyN x) (keyN y) ≤ 0 ∧ 0 < cmpK (keyN y) (keyN z)) ∨ 0 < cmpK (keyN x) (keyN y) := by
    by_cases g1 : cmpK (keyN x) (keyN y) ≤ 0
    · by_cases g2 : cmpK (keyN y) (keyN z) ≤ 0
      · have := of_decide_eq_false (Htr.out (decide_eq_true g1) (decide_eq_true g2))
        exact .inl ⟨g1, g2, by omega⟩
      · exact .inr (.inl ⟨g1, by omega⟩)
    · exact .inr (.inr (by omega))
  have h4 : ((FloatKind.f64.format.order x y == some .lt) = true ∧ (cmpK (keyN x) (keyN y) != -1) = false) ∨ (FloatKind.f64.format.order x y == some .lt) = false := by
    cases g : (FloatKind.f64.format.order x y == some .lt)
    · exact .inr rfl
    · exact .inl ⟨rfl, by rw [Fl.cmpK_lo (HL.out g)]; rfl⟩
  rcases h4 with ⟨g1, g2⟩ | g1
  all_goals rcases h3 with ⟨g3, g4, g5⟩ | ⟨g3, g4⟩ | g3
  all_goals
    go_wp2_with fail
    refine (text_any _ hx _ HT.out).mono ?_
    rintro e w3 ⟨rfl, hb⟩
    go_wp2_with fail
    refine (text_any _ hy _ ((hb.cell (World.block_lt_of_cell? w _ HT.out)).trans HT.out)).mono ?_
    rintro e w4 ⟨rfl, hb2⟩
    go_wp2_with fail
    refine (known_any _).mono ?_
    rintro e w' ⟨rfl, rfl⟩
    go_wp2_with fail
    go_ret
    exact ⟨rfl, hb.trans (hb2.mono hb.size)⟩

theorem contract (H : Type) (enc : TypeId × Value → H) (W : World) (base : Nat) (args : Array Value) (ds gs : List (DataW H)) (before : List MemPlace)
    (hval : ∀ (j : Nat) t v, Tryd.f4.params[j]? = some t → args[j]? = some v → Value.okWide Tryd.prog W .any base t v)
    (hW : DataW.Whole enc Tryd.prog Tryd.f4.params.toList Rows.realOrdersSpec.vars false W args.toList ds gs before) (hL : laidMetH Tryd.prog Rows.realOrdersRow.laid W) :
    Calls Tryd.prog 4 args W fun e W' => ∃ v, e = .returned v ∧ Rows.realOrdersSpec.post enc Tryd.prog Tryd.f4 false true false false W args v W' := by
  have hW' := hW
  obtain ⟨p, q, hA0, hV, rfl, hfz, hnd⟩ := hW
  have hA : DataW.TrodAll enc Tryd.prog W 0 (fun _ => true) true Tryd.f4.params.toList args.toList ds p := hA0
  rw [Tryd.params4] at hA hval
  obtain ⟨v0, vs0, d0, ds0, p0, q0, hargs, rfl, rfl, h0, r0⟩ := trodAll_cons hA
  obtain ⟨v1, vs1, d1, ds1, p1, q1, rfl, rfl, rfl, h1, r1⟩ := trodAll_cons r0
  obtain ⟨v2, vs2, d2, ds2, p2, q2, rfl, rfl, rfl, h2, r2⟩ := trodAll_cons r1
  obtain ⟨rfl, rfl, rfl⟩ := trodAll_nil r2
  obtain rfl : args = #[v0, v1, v2] := by cases args; simp_all
  obtain ⟨rfl, rfl⟩ := trodVars_none hV
  obtain ⟨a0, rfl, rfl, rfl, w0⟩ := open_int Tryd.underlying22 (hval 0 22 v0 rfl rfl) h0
  obtain ⟨a1, rfl, rfl, rfl, w1⟩ := open_int Tryd.underlying22 (hval 1 22 v1 rfl rfl) h1
  obtain ⟨a2, rfl, rfl, rfl, w2⟩ := open_int Tryd.underlying22 (hval 2 22 v2 rfl rfl) h2
  clear hA0
  refine (walk a0 a1 a2 w0 w1 w2 W (Dr.cell hL)).mono fun e W' ⟨he, bel⟩ => ?_
  subst he
  exact ⟨_, rfl, _, _, _, [], _, [], hW', trodAll_mk1 (shut_bool Tryd.underlying4 _), (trodAll_cons_mk (shut_int Tryd.underlying22 w0) (trodAll_cons_mk (shut_int Tryd.underlying22 w1) (trodAll_cons_mk (shut_int Tryd.underlying22 w2) trodAll_mk0))), rfl, bel.frame _, fun h => by cases h⟩
theorem laid_met (os : Os) : laidMet Tryd.prog Rows.realOrdersRow.laid ((Dr.laidWorld os).forCall (fun _ _ => 0) ⟨#[], #[.int .u64 0, .int .u64 0, .int .u64 0], []⟩).memory :=
  laidMet_of_run' 8 (by kernel_rfl) (by kernel_rfl)
theorem reads (os : Os) {H : Type} (enc : TypeId × Value → H) : ∃ places, DataW.whole enc Tryd.prog ((Dr.laidWorld os).forCall (fun _ _ => 0) ⟨#[], #[.int .u64 0, .int .u64 0, .int .u64 0], []⟩).memory Tryd.f4.params.toList Rows.realOrdersSpec.vars false #[Value.int .u64 0, Value.int .u64 0, Value.int .u64 0].toList 8 = some ([.lit (.int .u64 0), .lit (.int .u64 0), .lit (.int .u64 0)], [], places) :=
  ⟨[], by kernel_rfl⟩
set_option maxRecDepth 100000 in
theorem lifted (os : Os) (started : os.Started) (H : Type) (enc : TypeId × Value → H) (F : Stop.Interp) :
    ReturnsInHanded {} Tryd.checked os 4 .any ((OpenSpec.ofChange Rows.realOrdersSpec).preRow enc Tryd.prog Tryd.f4 Rows.realOrdersRow.domain false Rows.realOrdersRow.laid) (((OpenSpec.ofChange Rows.realOrdersSpec).at F).post enc Tryd.prog Tryd.f4 false true false false) := by
  obtain ⟨places, hx⟩ := reads os enc
  refine returnsInHanded_of_row (C := Tryd.checked) (s := OpenSpec.ofChange Rows.realOrdersSpec) Dr.own started (by kernel_rfl) Tryd.func4
    (witness_row_at (enc := enc) (C := Tryd.checked) false (Dr.laidWorld os) #[.int .u64 0, .int .u64 0, .int .u64 0] rfl (by kernel_rfl) (by kernel_rfl) (by kernel_rfl)
      (OpenSpec.preRow_of_cond 8 hx (by kernel_rfl) (fun k hk => by cases hk) (by kernel_rfl) (laid_met os))) ?_
  intro W base args ds gs before hval hW _ _ _ hL _ _
  exact contract H enc W base args ds gs before hval hW hL
theorem said : Rows.RealOrdersSaid :=
  OpenClaim.holds_of_cond 4 Tryd.f4 rfl rfl rfl rfl rfl rfl rfl ⟨rfl, rfl, rfl, rfl, rfl⟩ rfl rfl rfl rfl rfl (by kernel_rfl) Tryd.func4 (by kernel_rfl)
    (of_decide_eq_true (by kernel_rfl)) (by unfold Func.isWrapper; first | (rw [if_pos (by decide +kernel)]; kernel_rfl) | (rw [if_neg (by decide +kernel)]; exact ⟨rfl, rfl⟩))
    (fun os started H enc _ F => by rw [OpenClaim.pre_eq_preRow]; exact lifted os started H enc F)
theorem plain (f : FuncId) (fn : Func) (hf : Tryd.pinned.checked.prog.funcNamed Rows.realOrdersRow.func = some f) (hfn : Tryd.pinned.checked.prog.funcs[f]? = some fn) :
    false = Tryd.pinned.checked.prog.looks [] ∧ ∀ (j : Nat) t, fn.params[j]? = some t → Tryd.pinned.checked.prog.wantsStandIn t = false := by
  obtain rfl : f = 4 := Option.some.inj ((show Tryd.prog.funcNamed Rows.realOrdersRow.func = some 4 by kernel_rfl).symm.trans hf) |>.symm
  obtain rfl : fn = Tryd.f4 := (Option.some.inj (Tryd.func4.symm.trans hfn)).symm
  refine ⟨by kernel_rfl, fun j t ht => ?_⟩
  rw [Tryd.params4] at ht
  have hm := Array.mem_of_getElem? ht
  simp at hm
  subst hm
  exact (show Tryd.prog.wantsStandIn 22 = false by kernel_rfl)
theorem proved : Rows.RealOrdersCardSaid :=
  Claim7.holds_tied_plain_at .later [] _ _ _ _ said (fun _ h => by cases h) (by kernel_rfl) (fun _ h => by cases h) realOrders_row_tie rfl ⟨rfl, rfl⟩ (by kernel_rfl) rfl plain (by kernel_rfl)
#print axioms proved
end Go.Proofs.YtoladfiajalmoaaDoor.realOrders
