/- ligaturelaw8.ChainAgain, walked. Conditions: the contracts of Prog8. -/
import Derived.Test.YtfmbogpbhchelaaSh
import Derived.Deep.RegionHeld3
namespace Go.Proofs.Ytfmbogpbhchelaa
set_option maxRecDepth 100000
set_option linter.unusedVariables false
open Go.ChangeShapes Go.WideShapes Go.ChangeAt Go.RowKit
/-- Cut and added again. -/
theorem again_I {I : List It} (hn : I.Nodup) (l x : Int) : It.has (It.cut I l x) l x = false ∧ It.add (It.cut I l x) l x = ⟨l, x⟩ :: It.cut I l x := by
  have h0 : It.has (It.cut I l x) l x = false := by
    cases hh : It.has (It.cut I l x) l x with
    | false => rfl
    | true =>
      have := It.has_iff.1 hh
      unfold It.cut at this
      exact absurd this (List.Nodup.not_mem_erase hn)
  refine ⟨h0, ?_⟩
  unfold It.add
  rw [h0]; rfl
structure Ag (I : List It) (k : Nat) : Prop where
  nd : I.Nodup
  al : ∀ x ∈ I, x.l = 4
  ln : I.length ≤ k
theorem Ag.next {I : List It} {k : Nat} (h : Ag I k) (x : Int) : Ag (⟨4, x⟩ :: It.cut I 4 x) (k + 1) := by
  have h0 := (again_I h.nd 4 x).1
  refine ⟨List.nodup_cons.2 ⟨fun hm => (by rw [It.has_iff.2 hm] at h0; cases h0), It.cut_nodup h.nd 4 x⟩, fun y hy => ?_, ?_⟩
  · rcases List.mem_cons.1 hy with rfl | hy
    · rfl
    · exact h.al y (List.mem_of_mem_erase hy)
  · have := It.cut_len_le I 4 x
    have := h.ln
    rw [List.length_cons]; omega
section
variable {PL : (Nat → Prop) → World → Nat → List It → Prop}
set_option maxHeartbeats 4000000 in
theorem again8_any (hP : Prog8 PL) {w : World} (A : Option Addr) (L : List Int) (cp : Nat) (hA : Row (.int .i64) w A L) :
    Calls Try.prog 8 #[.slice A L.length cp] w fun e w' => e = .returned (.bool true) ∧ Below w.heap.size w w' := by
  have HA := Lib.hid hA
  clear hA
  by_cases hbad : L.length < 1 ∨ 100 < L.length
  · rcases (show L.length < 1 ∨ (1 ≤ L.length ∧ 100 < L.length) by omega) with q | ⟨q, q'⟩
    all_goals (
      clear hbad
      go_enter Try.func8, Try.ntmps8
      go_wp2
      go_ret
      exact ⟨rfl, Below.refl _ _⟩)
  · have h1 : 1 ≤ L.length := by omega
    have h100 : L.length ≤ 100 := by omega
    clear hbad
    obtain ⟨ad, hA, _⟩ := HA.out 0 h1
    subst hA
    have HI := Lib.hid (fun wr (hb : Below w.heap.size w wr) k (hk : k < L.length) => show wr.cell? (ad.add k) = some (.int .i64 L[k]) by
      obtain ⟨ad', e, h⟩ := (HA.out.below hb) k hk
      injection e with e
      subst e; exact h)
    have HN := Lib.hid (s8_new (G := noG) hP (Below.refl w.heap.size w) (fun k hk => hk.elim))
    have DK := Lib.hid (fun W => known8_any hP W)
    go_enter Try.func8, Try.ntmps8
    go_wp2_with (go_at_call 9; (with_reducible refine HN.out.mono ?_); rintro e w1 ⟨a, rfl, h1', _⟩; have H1 := Lib.hid h1'; clear h1')
    clear HN
    go_loopw [4, 5] (fun i _ wr => ∃ (k : Nat) (I : List It), k ≤ L.length ∧ i = .int .i64 (k : Nat) ∧ Hid (Ag I k) ∧ Hid (k = 0 ∨ ∃ (h : k - 1 < L.length) (J : List It), 1 ≤ k ∧ I = ⟨4, L[k - 1]⟩ :: J) ∧ Hid (S8 PL noG w wr a I)) (fun i _ _ => L.length - (intOf i).toNat)
    case atStart => exact ⟨0, [], Nat.zero_le _, rfl, ⟨List.nodup_nil, fun x hx => (by cases hx), Nat.le_refl _⟩, .inl rfl, H1.out⟩
    case round =>
      obtain ⟨k, I, hk, rfl, HG, HH, HS⟩ := hrel
      clear H1
      by_cases hlt : k < L.length
      · have hcl := HI.out wr HS.out.all k hlt
        have HCL := Lib.hid (fun W (hW : Below w.heap.size w W) => HI.out W hW k hlt)
        obtain ⟨x, hx⟩ : ∃ x, x = L[k] := ⟨_, rfl⟩
        have HXX := Lib.hid hx
        rw [← hx] at hcl HCL
        clear hx
        have hIl := HG.out.ln
        have C1 := Lib.hid (s8_cut hP HS.out 4 x (by omega))
        obtain ⟨e1, e2⟩ := again_I HG.out.nd 4 x
        have hJl := It.cut_len_le I 4 x
        have C2 := fun W (hW : S8 PL noG w W a (It.cut I 4 x)) => s8_add hP hW 4 x (by omega)
        rw [e1, e2] at C2
        have C2 := Lib.hid C2
        have HG2 := Lib.hid (HG.out.next x)
        have hwk : It.walk (⟨4, x⟩ :: It.cut I 4 x) 4 = x :: It.walk (It.cut I 4 x) 4 := by rw [It.walk_cons, if_pos rfl]
        have hhs : It.has (⟨4, x⟩ :: It.cut I 4 x) 4 x = true := It.has_iff.2 (by simp)
        have C3 := fun W (hW : S8 PL noG w W a (⟨4, x⟩ :: It.cut I 4 x)) => s8_walk hP hW 4 (by rw [List.length_cons]; omega)
        have C4 := fun W (hW : S8 PL noG w W a (⟨4, x⟩ :: It.cut I 4 x)) => s8_has hP hW 4 x (by rw [List.length_cons]; omega)
        rw [hwk] at C3
        rw [hhs] at C4
        have C3 := Lib.hid C3
        have C4 := Lib.hid C4
        have hi5 : IntKind.i64.wrap (k : Int) = (k : Int) := wrapI (by omega)
        clear e1 e2 hwk hhs hIl hJl
        generalize It.cut I 4 x = J at *
        generalize It.walk J 4 = M at *
        generalize It.has I 4 x = bb at *
        go_upto_region 13 with (first
          | (go_at_call 12; (with_reducible refine C1.out.mono ?_); rintro e w2 ⟨rfl, h2, _⟩; have H2 := Lib.hid h2; have hcl2 := HCL.out _ h2.all; clear h2)
          | (go_at_call 10; (with_reducible refine (C2.out _ H2.out).mono ?_); rintro e w3 ⟨rfl, h3, _⟩; have H3 := Lib.hid h3; clear h3)
          | (go_at_call 16; (with_reducible refine (C3.out _ H3.out).mono ?_); rintro e w4 ⟨A4, c4, rfl, hn4, hb4⟩; have HN4 := Lib.hid hn4.r; have H4 := Lib.hid (S8.below hP H3.out hb4); clear hn4 hb4))
        obtain ⟨bd, hA4, d0⟩ := HN4.out 0 (by simp)
        subst hA4
        rw [Addr.add_zero'] at d0
        simp only [List.getElem_cons_zero] at d0
        have HD0 := Lib.hid (fun W (hW : Below w4.heap.size w4 W) => (hW.cell (World.block_lt_of_cell? w4 _ d0)).trans d0)
        have HB4d := Lib.hid (Below.refl w4.heap.size w4).drew
        have H4d := Lib.hid (S8.below hP H4.out HB4d.out)
        have C5 := Lib.hid (C4.out _ H4d.out)
        have hS0 : w4.drew.cell? bd = some (.int .i64 x) ∧ w4.drew.cell? (ad.add k) = some (.int .i64 x) := ⟨HD0.out _ HB4d.out, HCL.out _ H4d.out.all⟩
        have hml : ((M.length : Int) + 1 == 0) = false := by rw [beq_eq_false_iff_ne]; omega
        have hml2 : ¬ (M.length : Int) + 1 = 0 := by omega
        clear hcl hcl2 d0
        go_region_held3 (fun V => V.cell? bd = some (.int .i64 x) ∧ V.cell? (ad.add k) = some (.int .i64 x)) (first | exact hS0 | exact hS1)
          (first | (go_at_call 20; (with_reducible refine C5.out.mono ?_); rintro e w6 ⟨rfl, hb6⟩; have H6 := Lib.hid (S8.below hP H4d.out hb6); have hS1 : w6.cell? bd = some (.int .i64 x) ∧ w6.cell? (ad.add k) = some (.int .i64 x) := ⟨HD0.out _ (HB4d.out.trans hb6), HCL.out _ H6.out.all⟩; clear hb6))
        clear hS0 hS1
        go_wp2
        exact ⟨⟨k + 1, _, by omega, by go_num, HG2.out, .inr ⟨by omega, J, by omega, by rw [HXX.out]; rfl⟩, H6.out⟩, by simp [intOf]; omega⟩
      · obtain rfl : k = L.length := by omega
        rcases HH.out with h0 | ⟨hk1, J, _, hIJ⟩
        · omega
        obtain ⟨x, hx⟩ : ∃ x, x = L[L.length - 1] := ⟨_, rfl⟩
        have HCL := Lib.hid (fun W (hW : Below w.heap.size w W) => HI.out W hW (L.length - 1) hk1)
        rw [← hx] at hIJ HCL
        clear hx
        have hIl := HG.out.ln
        have hwk : It.walk I 4 = x :: It.walk J 4 := by rw [hIJ, It.walk_cons, if_pos rfl]
        have hal := It.walk_all I 4 HG.out.al
        have C1 := s8_back hP HS.out 4 (by omega)
        have C2 := fun W (hW : S8 PL noG w W a I) => s8_len hP hW (by omega)
        rw [hwk] at C1 hal
        rw [hal] at C2
        rw [List.length_cons] at C1 C2
        have C1 := Lib.hid C1
        have C2 := Lib.hid C2
        have hM100 : (It.walk J 4).length ≤ 100 := by rw [List.length_cons] at hal; omega
        clear hwk hal hIl hIJ
        generalize It.walk J 4 = M at *
        go_upto_region 16 with (go_at_call 17; (with_reducible refine C1.out.mono ?_); rintro e w4 ⟨A4, c4, rfl, hn4, hb4⟩; have HN4 := Lib.hid hn4.r; have H4 := Lib.hid (S8.below hP HS.out hb4); clear hn4 hb4)
        obtain ⟨bd, hA4, d0⟩ := HN4.out M.length (by simp)
        subst hA4
        have e0 : ((x :: M).reverse)[M.length]'(by simp) = x := by simp
        rw [e0] at d0
        have HD0 := Lib.hid (fun W (hW : Below w4.heap.size w4 W) => (hW.cell (World.block_lt_of_cell? w4 _ d0)).trans d0)
        have HB4d := Lib.hid (Below.refl w4.heap.size w4).drew
        have H4d := Lib.hid (S8.below hP H4.out HB4d.out)
        have C5 := Lib.hid (C2.out _ H4d.out)
        obtain ⟨q, hq⟩ : ∃ q, q = L.length - 1 := ⟨_, rfl⟩
        rw [← hq] at HCL
        have hwm : IntKind.i64.wrap (M.length : Int) = (M.length : Int) := wrapI (by omega)
        have hwm1 : IntKind.i64.wrap ((M.length : Int) + 1 - 1) = (M.length : Int) := by rw [show (M.length : Int) + 1 - 1 = (M.length : Int) by omega]; exact hwm
        have hwl : IntKind.i64.wrap ((L.length : Int) - 1) = (q : Int) := by rw [show (L.length : Int) - 1 = (q : Int) by omega]; exact wrapI (by omega)
        have hq0 : (0 : Int) ≤ (q : Int) := by omega
        have hq1 : (q : Int) < (L.length : Int) := by omega
        have hm0 : (0 : Int) ≤ (M.length : Int) := by omega
        have hm1 : (M.length : Int) < (M.length : Int) + 1 := by omega
        have hM1 : (0 : Int) < (M.length : Int) + 1 := by omega
        have hM2 : 0 < M.length + 1 := by omega
        clear hq
        have hS0 : w4.drew.cell? (bd.add M.length) = some (.int .i64 x) ∧ w4.drew.cell? (ad.add q) = some (.int .i64 x) := ⟨HD0.out _ HB4d.out, HCL.out _ H4d.out.all⟩
        clear d0 e0
        go_region_held3 (fun V => V.cell? (bd.add M.length) = some (.int .i64 x) ∧ V.cell? (ad.add q) = some (.int .i64 x)) (first | exact hS0 | exact hS1 | exact hS2)
          (first
            | (go_at_call 19; (with_reducible refine C5.out.mono ?_); rintro e w6 ⟨rfl, hb6⟩; have HB6 := Lib.hid (HB4d.out.trans hb6); have H6 := Lib.hid (S8.below hP H4d.out hb6); have hS1 : w6.cell? (bd.add M.length) = some (.int .i64 x) ∧ w6.cell? (ad.add q) = some (.int .i64 x) := ⟨HD0.out _ HB6.out, HCL.out _ H6.out.all⟩; clear hb6)
            | (go_at_call 21; (with_reducible refine (DK.out _).mono ?_); rintro e w7 ⟨rfl, hb7⟩; have H7 := Lib.hid (S8.below hP H6.out hb7); have hS2 : w7.cell? (bd.add M.length) = some (.int .i64 x) ∧ w7.cell? (ad.add q) = some (.int .i64 x) := ⟨HD0.out _ (HB6.out.trans (hb7.mono HB6.out.size)), HCL.out _ H7.out.all⟩; clear hb7))
        clear hS0 hS1 hS2
        go_wp2
        go_ret
        exact ⟨ret_b (by simp), H7.out.all⟩
end
end Go.Proofs.Ytfmbogpbhchelaa
