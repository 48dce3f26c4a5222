/- What Cut of the program's Lists makes of it. Conditions: the Lists lie in memory. -/
import Derived.Test.YtfmbogpbhchelaaTf
namespace Go.Proofs.Ytfmbogpbhchelaa
set_option maxRecDepth 100000
set_option linter.unusedVariables false
open Go.ChangeShapes Go.WideShapes Go.ChangeAt Go.RowKit
section
variable {F F0 S S' : Nat → Prop} {w wr w' : World} {a : Nat} {m1 m2 : Option Nat} {g g' : Gh} {KM KM' : List It} {KE KE' : List Int} {I : List It}
theorem pcut_no (h : PL F w a I) (l i : Int) (hx : It.has I l i = false) : Calls Try.prog 12 #[pt a, .int .i64 l, .int .i64 i] w fun e w' => e = .returned (.bool false) ∧ w = w' := by
  have HH := phas_any h l i
  rw [hx] at HH
  have HH := Lib.hid HH
  clear h hx
  go_enter Try.func12, Try.ntmps12
  go_wp2_with (go_at_call 20; (with_reducible refine HH.out.mono ?_); rintro e w1 ⟨rfl, rfl⟩)
  go_ret
  exact ⟨rfl, rfl⟩
theorem LM.some (h : LM F w a m1 m2 g KM KE I) {x : It} (hx : x ∈ I) : ∃ b1 b2, m1 = some b1 ∧ m2 = some b2 := by
  cases m1 with
  | none =>
    have e : KM = [] := h.p1
    subst e
    exact absurd ((h.inv.km x).2 hx) (by simp)
  | some b1 =>
    cases m2 with
    | none => have := h.both; cases this
    | some b2 => exact ⟨b1, b2, rfl, rfl⟩
theorem LS.looks (h : LS F0 w wr a m1 m2 g KM KE S) (l : Int) : (Instr.lookup 42 (.map m2) (.int .i64 l) false).run Try.prog wr = .ok (if l ∈ KE then pt (g.en l) else .pointer none) wr := h.1.p2.look finds_int undM l
theorem fin_cut {x : It} (h : Inv g KM KE (I.erase x)) (hf : ∀ m, m ∈ KE → ∃ z, z ∈ I ∧ z.l = m) (hx : x ∈ I) {l : Int} (e : x.l = l) : (¬ g.nx (g.en l) = g.en l → ∀ m, m ∈ KE → ∃ z, z ∈ I.erase x ∧ z.l = m) ∧ (g.nx (g.en l) = g.en l → l ∈ KE → (∀ z, z ∈ I.erase x → z.l ≠ l) ∧ ∀ m, m ∈ KE.erase l → ∃ z, z ∈ I.erase x ∧ z.l = m) := by
  have other : ∀ m, m ∈ KE → m ≠ l → ∃ z, z ∈ I.erase x ∧ z.l = m := fun m hm hne => by
    obtain ⟨z, h1, h2⟩ := hf m hm
    exact ⟨z, (List.mem_erase_of_ne (fun e1 => hne (by rw [← h2, e1, e]))).2 h1, h2⟩
  refine ⟨fun hn m hm => ?_, fun hn hl => ⟨(h.alone hl).1 hn, fun m hm => ?_⟩⟩
  · by_cases e1 : m = l
    · subst e1
      apply Classical.byContradiction
      intro hc
      exact hn ((h.alone hm).2 (fun z hz e2 => hc ⟨z, hz, e2⟩))
    · exact other m hm e1
  · have := h.ke.mem_erase_iff.1 hm
    exact other m this.2 this.1
set_option maxHeartbeats 1000000 in
theorem pcut_yes (h : PL F w a I) (l i : Int) (hx : It.has I l i = true) : Calls Try.prog 12 #[pt a, .int .i64 l, .int .i64 i] w fun e w' => e = .returned (.bool true) ∧ PL (Nu F w w') w' a (It.cut I l i) ∧ Chg F w w' := by
  have HH := phas_any h l i
  rw [hx] at HH
  have HH := Lib.hid HH
  have hxI := It.has_iff.1 hx
  obtain ⟨m1, m2, g, KM, KE, h, hf⟩ := h
  have H0 := Lib.hid h.lt
  have hlk := h.look1 l i
  rw [if_pos hxI] at hlk
  obtain ⟨b1, b2, rfl, rfl⟩ := h.some hxI
  have HKL := Lib.hid (h.inv.sub _ hxI)
  have HKM := Lib.hid ((h.inv.km _).2 hxI)
  have HI := Lib.hid (h.inv.del hxI)
  have HF := Lib.hid (fin_cut HI.out hf hxI (l := l) rfl)
  have hb : Bl g KE I (g.blk ⟨l, i⟩) := .inl ⟨_, hxI, rfl⟩
  have HR := Lib.hid (remove_any h.nd hb (h.inv.pv_bl hb).1 (h.inv.nx_bl hb) (h.inv.pv_ne hxI))
  have HS := Lib.hid h.ls
  obtain ⟨k0, k1, kf⟩ := h.cells
  have HBS := Lib.hid (show ∀ b, Bl (g.del (g.blk ⟨l, i⟩)) KE (I.erase ⟨l, i⟩) b → Bl g KE I b from fun b hb => by
    rcases hb with ⟨x, h1, h2⟩ | h1
    · exact .inl ⟨x, List.mem_of_mem_erase h1, h2⟩
    · exact .inr h1)
  have HEN := Lib.hid (show Bl g KE I ((g.del (g.blk ⟨l, i⟩)).en l) from .inr ⟨l, HKL.out, rfl⟩)
  have HEX := Lib.hid (show Bl g KE I ((g.del (g.blk ⟨l, i⟩)).nx ((g.del (g.blk ⟨l, i⟩)).en l)) from HBS.out _ (HI.out.nx_bl (.inr ⟨l, HKL.out, rfl⟩)))
  clear h hx hxI hf hb
  go_enter Try.func12, Try.ntmps12
  go_upto_region 4 with (first | (go_at_call 20; (with_reducible refine HH.out.mono ?_); rintro e w1 ⟨rfl, rfl⟩) | (go_at_call 25; (with_reducible refine HR.out.mono ?_); rintro e w1 ⟨rfl, hnd, hc, hz⟩; have HN := Lib.hid hnd; have HC := Lib.hid hc; clear hnd hc hz))
  have HS1 := Lib.hid (LS.nodes (g' := g.del (g.blk ⟨l, i⟩)) HS.out H0.out HN.out HC.out (fun b hb => .inl hb) (fun _ _ => rfl) (fun _ _ => rfl))
  clear HH HR HS HN HC k0 k1 kf hlk
  obtain ⟨k0, k1, kf⟩ := HS1.out.1.cells
  generalize g.del (g.blk ⟨l, i⟩) = g2 at *
  generalize Bl g KE I = S at *
  go_upto_region 5 with (at_delete; refine wp_mdrop rfl (.tmp 25) (.tmp 28) rfl finds_it undK HS1.out.1.p1 ⟨l, i⟩ HKM.out rfl rfl ?_; intro w2 hp2 hg2; have HS2 := Lib.hid (HS1.out.links (g' := g2) H0.out hp2 hg2 (fun _ _ => rfl) rfl rfl rfl rfl); clear hp2 hg2)
  clear k0 k1 kf HS1
  obtain ⟨k0, k1, kf⟩ := HS2.out.1.cells
  have hlk := HS2.out.looks l
  rw [if_pos HKL.out] at hlk
  obtain ⟨c0, c1, c2, cf⟩ := HS2.out.1.nd.cells HEN.out
  have heq := ptr_eql (HS2.out.1.nd _ HEX.out) (HS2.out.1.nd _ HEN.out)
  by_cases e : g2.nx (g2.en l) = g2.en l
  · rw [decide_eq_true e] at heq
    have HE := Lib.hid (HF.out.2 e HKL.out)
    clear e
    generalize g2.nx (g2.en l) = nn at *
    go_upto_region 8 with (at_delete; refine wp_mdrop rfl (.tmp 44) (.tmp 45) rfl finds_int undM HS2.out.1.p2 l HKL.out rfl rfl ?_; intro w3 hp3 hg3; have HS3 := Lib.hid (HS2.out.endings (g' := g2) H0.out hp3 hg3 (fun _ _ => rfl) rfl rfl rfl rfl); clear hp3 hg3)
    clear k0 k1 kf hlk c0 c1 c2 cf heq
    go_wp2
    go_ret
    exact ⟨rfl, ⟨_, _, g2, _, _, HS3.out.1.lm (HI.out.strike HE.out.1) (fun b hb => HBS.out b (by
      rcases hb with h1 | ⟨m, h1, h2⟩
      · exact .inl h1
      · exact .inr ⟨m, List.mem_of_mem_erase h1, h2⟩)), HE.out.2⟩, HS3.out.2⟩
  · rw [decide_eq_false e] at heq
    have HE := Lib.hid (HF.out.1 e)
    clear e
    generalize g2.nx (g2.en l) = nn at *
    go_wp2
    go_ret
    exact ⟨rfl, ⟨_, _, g2, _, _, HS2.out.1.lm HI.out HBS.out, HE.out⟩, HS2.out.2⟩
end
end Go.Proofs.Ytfmbogpbhchelaa
