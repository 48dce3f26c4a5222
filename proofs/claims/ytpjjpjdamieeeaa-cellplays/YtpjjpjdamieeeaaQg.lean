/- What the closure of alike, of chapter 7's laws, makes of its boxes; slices.Clone at versions; Each of package cell with that closure. Conditions: each contract names its own. -/
import Derived.Test.YtpjjpjdamieeeaaQd
import Derived.Test.YtpjjpjdamieeeaaNk
import Derived.Deep.RegionHeld3
namespace Go.Proofs.Ytpjjpjdamieeeaa
set_option maxRecDepth 100000
set_option linter.unusedVariables false
open Go.ChangeShapes Go.WideShapes Go.ChangeAt Go.RowKit
theorem skp_ge (l : List (Ver Int)) (k : Nat) : k ≤ skp l k := by unfold skp; omega
/-- Where all from k to i are gone and i is not, i is the next. -/
theorem skp_to {l : List (Ver Int)} {i : Nat} (hi : i < l.length) (hg : l[i].g = false) : ∀ (m k : Nat), k + m = i → (∀ j (hj : j < l.length), k ≤ j → j < i → l[j].g = true) → skp l k = i
  | 0, k, hk, _ => by
    obtain rfl : k = i := by omega
    exact skp_stop (fun _ => hg)
  | m + 1, k, hk, h => by
    rw [skp_at (show k < l.length by omega) (h k (by omega) (Nat.le_refl _) (by omega))]
    exact skp_to hi hg m (k + 1) (by omega) (fun j hj h1 h2 => h j hj (by omega) h2)
section
variable {w w' : World} {bk bg bw q y k : Nat} {V : Nat → Prop} {l : List (Ver Int)}
set_option maxHeartbeats 4000000 in
theorem told_any (h : Bx w bk bg bw q y k true V l) (v : Int) (hl : l.length ≤ 900000) (hs : skp l k < l.length) (hv : l[skp l k].v = v) :
    Calls Try.prog 44 #[.int .i64 v, .pointer (some ⟨bk, 0, none⟩), .pointer (some ⟨bw, 0, none⟩), .pointer (some ⟨bg, 0, none⟩)] w fun e w' => e = .returned (.tuple #[]) ∧ Bx w' bk bg bw q y (skp l k + 1) true V l ∧ Chg (fun j => j = bk ∨ j = bg) w w' := by
  have H := Lib.hid h
  have HSL : Hid (∀ j, skp l k = skp l j → j < l.length) := fun j e => by have := skp_ge l j; omega
  have HV : Hid (∀ j (hj : j < l.length), skp l k = j → l[j].v = v) := fun j hj e => by subst e; exact hv
  clear h hs hv
  go_enter Try.func44, Try.ntmps44
  go_wp2_with fail
  go_loopw [] (fun wr => ∃ j : Nat, j ≤ 900000 + l.length ∧ Hid (Bx wr bk bg bw q y j true V l) ∧ Hid (skp l k = skp l j) ∧ Hid (Chg (fun j => j = bk ∨ j = bg) w wr)) (fun wr => match wr.cell? ⟨bk, 0, none⟩ with | some (.int _ j) => l.length - j.toNat | _ => 0)
  case atStart => exact ⟨k, by have := HSL.out k rfl; omega, H.out, rfl, Chg.refl _ _⟩
  case round =>
    obtain ⟨j, hj, HB, HK, HC⟩ := hrel
    obtain ⟨c1, c2, c3, c4, f1, f2⟩ := HB.out.cells
    obtain ⟨v1, hm⟩ := HB.out.vc
    obtain ⟨k0, kf⟩ := hm.cells
    have HM := Lib.hid hm
    obtain ⟨A, cp, rfl⟩ := own_slice hm.r1
    clear hm
    have hlt : j < l.length := HSL.out j HK.out
    obtain ⟨g, cp', hgg, _, q0, q1, q2⟩ := HM.out.row hlt
    injection hgg with hgg _ hcp
    subst hgg
    subst hcp
    have hi5 : IntKind.i64.wrap (j : Int) = (j : Int) := wrapI (by omega)
    clear q0
    cases hgo : l[j].g with
    | true =>
      rw [hgo] at q2
      have HK2 := Lib.hid (HK.out.trans (skp_at hlt hgo))
      clear hgo q1
      go_wp2_with fail
      go_quiet (fail)
      have HBn := Lib.hid (HB.out.drewN nq)
      clear c1 c2 c3 c4 f1 f2 k0 kf q2
      obtain ⟨c1, c2, c3, c4, f1, f2⟩ := HBn.out.cells
      have HB2 : Hid (Bx ((wr.drewN nq).setCell ⟨bk, 0, none⟩ (.int .i64 ((j : Int) + 1))) bk bg bw q y (j + 1) true V l) := HBn.out.setK (j + 1)
      have HC2 : Hid (Chg (fun j => j = bk ∨ j = bg) w ((wr.drewN nq).setCell ⟨bk, 0, none⟩ (.int .i64 ((j : Int) + 1)))) := (HC.out.grown (w2 := wr.drewN nq) (row := none) ⟨rfl, rfl, rfl, Nat.le_refl _, fun _ _ _ => rfl⟩ (fun k e => by cases e)).grown (grown_set _ bk 0 (.int .i64 ((j : Int) + 1))) (fun k e => by injection e with e; subst e; exact .inl (.inl rfl))
      go_wp2
      refine ⟨⟨j + 1, by omega, HB2.out, HK2.out, HC2.out⟩, ?_⟩
      have e1 := HB2.out.cells.1
      have e2 := HB.out.cells.1
      rw [e1, e2]
      simp
      omega
    | false =>
      rw [hgo] at q2
      have HSK : Hid (skp l k = j) := HK.out.trans (skp_stop (fun _ => hgo))
      rw [HV.out j hlt HSK.out] at q1
      have HPW := Lib.hid q1
      have HQW := Lib.hid k0
      clear hgo
      go_wp2_with fail
      go_quiet (fail)
      have HBn := Lib.hid (HB.out.drewN nq)
      have q1n : (wr.drewN nq).cell? ⟨g, j * 3 + 1, none⟩ = some (.int .i64 v) := HPW.out
      have k0n : (wr.drewN nq).cell? ⟨y, 0, none⟩ = some (.slice (some ⟨g, 0, none⟩) l.length cp) := HQW.out
      clear c1 c2 c3 c4 f1 f2 k0 kf q2 q1
      obtain ⟨c1, c2, c3, c4, f1, f2⟩ := HBn.out.cells
      have HCn : Hid (Chg (fun j => j = bk ∨ j = bg) w (wr.drewN nq)) := HC.out.grown (w2 := wr.drewN nq) (row := none) ⟨rfl, rfl, rfl, Nat.le_refl _, fun _ _ _ => rfl⟩ (fun k e => by cases e)
      have HMn : Hid (VM V (wr.drewN nq) y (.slice (some ⟨g, 0, none⟩) l.length cp) l) := HM.out.same (fun _ h => h) HM.out.lt (fun _ _ => rfl)
      generalize wr.drewN nq = W at *
      obtain ⟨d1, d2, d3, d4, d5, d6⟩ := (HBn.out.setG true).cells
      have HTE := Lib.hid (told_end (g2 := true) HBn.out HCn.out)
      have hS0 : W.drew.cell? ⟨bk, 0, none⟩ = some (.int .i64 (j : Nat)) ∧ W.drew.cell? ⟨bg, 0, none⟩ = some (.bool true) ∧ W.drew.cell? ⟨bw, 0, none⟩ = some (.pointer (some ⟨q, 0, none⟩)) ∧ W.drew.cell? ⟨q, 3, none⟩ = some (.pointer (some ⟨y, 0, none⟩)) ∧ W.drew.cell? ⟨y, 0, none⟩ = some (.slice (some ⟨g, 0, none⟩) l.length cp) ∧ W.drew.cell? ⟨g, j * 3 + 1, none⟩ = some (.int .i64 v) := ⟨c1, c2, c3, c4, k0n, q1n⟩
      have hyb : y ≠ bg := fun e => HBn.out.ng (by rw [← e]; exact HMn.out.fa)
      have hgb : g ≠ bg := fun e => HBn.out.ng (by rw [← e]; exact HMn.out.f1 g rfl)
      have hS1 : (W.setCell ⟨bg, 0, none⟩ (.bool true)).cell? ⟨bk, 0, none⟩ = some (.int .i64 (j : Nat)) ∧ (W.setCell ⟨bg, 0, none⟩ (.bool true)).cell? ⟨bg, 0, none⟩ = some (.bool true) ∧ (W.setCell ⟨bg, 0, none⟩ (.bool true)).cell? ⟨bw, 0, none⟩ = some (.pointer (some ⟨q, 0, none⟩)) ∧ (W.setCell ⟨bg, 0, none⟩ (.bool true)).cell? ⟨q, 3, none⟩ = some (.pointer (some ⟨y, 0, none⟩)) ∧ (W.setCell ⟨bg, 0, none⟩ (.bool true)).cell? ⟨y, 0, none⟩ = some (.slice (some ⟨g, 0, none⟩) l.length cp) ∧ (W.setCell ⟨bg, 0, none⟩ (.bool true)).cell? ⟨g, j * 3 + 1, none⟩ = some (.int .i64 v) :=
        ⟨d1, d2, d3, d4, (World.cell?_of_block (Below.heap_setCell W ⟨bg, 0, none⟩ _ y hyb)).trans k0n, (World.cell?_of_block (Below.heap_setCell W ⟨bg, 0, none⟩ _ g hgb)).trans q1n⟩
      go_wp2_with fail
      go_region_held3 (fun W' => W'.cell? ⟨bk, 0, none⟩ = some (.int .i64 (j : Nat)) ∧ W'.cell? ⟨bg, 0, none⟩ = some (.bool true) ∧ W'.cell? ⟨bw, 0, none⟩ = some (.pointer (some ⟨q, 0, none⟩)) ∧ W'.cell? ⟨q, 3, none⟩ = some (.pointer (some ⟨y, 0, none⟩)) ∧ W'.cell? ⟨y, 0, none⟩ = some (.slice (some ⟨g, 0, none⟩) l.length cp) ∧ W'.cell? ⟨g, j * 3 + 1, none⟩ = some (.int .i64 v)) (first | exact hS0 | exact hS1) (fail)
      all_goals (
        go_wp2
        go_end0
        rw [HSK.out]
        exact ⟨rfl, HTE.out⟩)
end
end Go.Proofs.Ytpjjpjdamieeeaa
