/- What Add of the reference's Tree makes of it. Conditions: the Tree lies in memory, its entries are valid, fewer than 900,000. -/
import Derived.Test.YtmbbmgkbhfnchaaUg
import Derived.Test.YtmbbmgkbhfnchaaKr
import Derived.Deep.RegionHeld3
namespace Go.Proofs.Ytmbbmgkbhfnchaa
set_option maxRecDepth 100000
set_option linter.unusedVariables false
open Go.ChangeShapes Go.WideShapes Go.ChangeAt Go.RowKit
open Fl (S)
open Val (V cmpV cmpI isB)
/-- A row of our own, in a world of which nothing that was there in u has changed. -/
structure AR (u W : World) (v : Value) (L : List En) : Prop where
  r : RE u.heap.size W v L
  b : Below u.heap.size u W
section
variable {u W W' : World} {v v' : Value} {L M : List En}
theorem AR.app (h : AR u W v L) {n : Nat} {xs : List Value} (hr : W'.ownsRow 0 34 6 v' n xs) (hn : n = (L ++ M).length) (hx : xs = ecs (L ++ M)) (hg : W.grownBy W' v.ownBlock) (ho : v'.ownBlock = v.ownBlock ∨ v'.ownBlock = some W.heap.size) : AR u W' v' (L ++ M) := by
  subst hn; subst hx
  refine ⟨⟨hr, fun k hk => ?_⟩, h.b.grown hg h.b.size h.r.n⟩
  rcases ho with e | e
  · exact h.r.n k (by rw [← e]; exact hk)
  · rw [e] at hk; injection hk with hk; have := h.b.size; omega
theorem AR.below (h : AR u W v L) (hb : Below W.heap.size W W') : AR u W' v L := ⟨h.r.below hb, h.b.trans (hb.mono h.b.size)⟩
theorem AR.keep (h : AR u W v L) {row : Option Nat} (hg : W.grownBy W' row) (hne : ∀ k, v.ownBlock = some k → row ≠ some k) (hb : Below u.heap.size u W') : AR u W' v L :=
  ⟨⟨own_same h.r.r (fun k hk => hg.block k (World.ownsRow.lt h.r.r k hk).2 (fun e => hne k hk e.symm)), h.r.n⟩, hb⟩
theorem ar_none (u W : World) (hb : Below u.heap.size u W) : AR u (W.alloc (.cells #[] 34)) (.slice (some ⟨W.heap.size, 0, none⟩) 0 0) [] :=
  ⟨⟨World.ownsRow_made W #[] 0 (Nat.zero_le _) (by unfold maxLen; omega) rfl, fun k hk => by simp [Value.ownBlock] at hk; have := hb.size; omega⟩, hb.alloc hb.size _⟩
theorem ar_one (u W : World) (hb : Below u.heap.size u W) (x : En) : AR u (W.alloc (.cells #[.int .i64 x.v.k, .bool x.v.b, .int .i64 x.v.n, .float .f64 x.v.f, .string x.v.t, .int .i64 x.i] 34)) (.slice (some ⟨W.heap.size, 0, none⟩) 1 1) [x] :=
  ⟨⟨one_entry W x, fun k hk => by simp [Value.ownBlock] at hk; have := hb.size; omega⟩, hb.alloc hb.size _⟩
end
section
variable {F : Nat → Prop} {w w' : World} {a : Nat} {I : List En}
set_option maxHeartbeats 4000000 in
theorem radd9_any (h : TC F w a I) (x : En) (hx : EOk x) (hl : I.length ≤ 900000) :
    Calls Try.prog 12 #[.pointer (some ⟨a, 0, none⟩), ev x] w (DoesT F w a (.bool (!hasE I x)) (insE I x)) := by
  have hb := (Below.refl w.heap.size w).alloc (Nat.le_refl _) (.cells #[.int .i64 x.v.k, .bool x.v.b, .int .i64 x.v.n, .float .f64 x.v.f, .string x.v.t, .int .i64 x.i] 34)
  have HV0 := Lib.hid hb
  have H0 := Lib.hid h.lt
  have HV := Lib.hid (h.below hb)
  have HA := rat_any (h.below hb) x hx.2
  have HXB := Lib.hid (box_entry w x)
  obtain ⟨b0, b1, b2, b3, b4, b5⟩ := box_entry w x
  simp only [Nat.zero_add] at b0 b1 b2 b3 b4 b5
  obtain ⟨v1, h1⟩ := h
  have HOI := Lib.hid h1.ok
  clear h1 hb
  cases hh : hasE I x with
  | true =>
    rw [hh] at HA
    have HA := Lib.hid HA
    have HE : Hid (insE I x = I) := by simp only [Hid]; unfold insE; rw [hh]; rfl
    rw [HE.out]
    clear hh hx HXB
    generalize atE I x = k at *
    obtain ⟨⟨xk, xb, xn, xf, xt⟩, xi⟩ := x
    go_enter Try.func12, Try.ntmps12
    go_wp2_with (go_at_call 29; (with_reducible refine HA.out.mono ?_); rintro e u1 ⟨rfl, hb1⟩; have HB1 := Lib.hid hb1; clear hb1)
    go_ret
    exact doesT_of (HV.out.below HB1.out) (Chg.below (bnext HV0.out HB1.out)) H0.out
  | false =>
    rw [hh] at HA
    have HA := Lib.hid HA
    have HE : Hid (insE I x = (I.take (atE I x) ++ [x]) ++ I.drop (atE I x)) := by simp only [Hid]; unfold insE; rw [hh]; simp
    rw [HE.out]
    have hi := atE_le I x
    have HOK : Hid (∀ y, y ∈ (I.take (atE I x) ++ [x]) ++ I.drop (atE I x) → EOk y) := fun y hy => by
      rcases List.mem_append.1 hy with h1 | h1
      · rcases List.mem_append.1 h1 with h1 | h1
        · exact HOI.out y (List.mem_of_mem_take h1)
        · rw [List.mem_singleton] at h1; rw [h1]; exact hx
      · exact HOI.out y (List.mem_of_mem_drop h1)
    clear hh hx HE
    generalize atE I x = i at *
    go_enter Try.func12, Try.ntmps12
    go_upto_region 3 with (go_at_call 29; (with_reducible refine HA.out.mono ?_); rintro e u1 ⟨rfl, hb1⟩; have HB1 := Lib.hid hb1; clear hb1)
    have HBW := Lib.hid (bnext HV0.out HB1.out)
    have h1 := HV.out.below HB1.out
    have HXU := Lib.hid (HXB.out.below HB1.out)
    clear HA HV b0 b1 b2 b3 b4 b5 HB1 HV0 HXB
    obtain ⟨v1, hm⟩ := h1
    have HM := Lib.hid hm
    have HS := Lib.hid (fun W (hW : Below u1.heap.size u1 W) => show W.cell? ⟨a, 0, none⟩ = some v1 ∧ W.cell? ⟨w.heap.size, 0, none⟩ = some (.int .i64 x.v.k) ∧ W.cell? ⟨w.heap.size, 1, none⟩ = some (.bool x.v.b) ∧ W.cell? ⟨w.heap.size, 2, none⟩ = some (.int .i64 x.v.n) ∧ W.cell? ⟨w.heap.size, 3, none⟩ = some (.float .f64 x.v.f) ∧ W.cell? ⟨w.heap.size, 4, none⟩ = some (.string x.v.t) ∧ W.cell? ⟨w.heap.size, 5, none⟩ = some (.int .i64 x.i) from by
      have hq := HXU.out.below hW
      obtain ⟨c0, c1, c2, c3, c4, c5⟩ := hq
      simp only [Nat.zero_add] at c0 c1 c2 c3 c4 c5
      exact ⟨(hm.below hW).cells.1, c0, c1, c2, c3, c4, c5⟩)
    have B0 := Lib.hid ((Below.refl u1.heap.size u1).drew)
    have hS0 := HS.out _ B0.out
    have XE : Hid (AR u1 (u1.drew.alloc (.cells #[] 34)) (.slice (some ⟨u1.heap.size, 0, none⟩) 0 0) []) := ar_none u1 u1.drew B0.out
    have XB : Hid (AR u1 (u1.drew.alloc (.cells #[.int .i64 x.v.k, .bool x.v.b, .int .i64 x.v.n, .float .f64 x.v.f, .string x.v.t, .int .i64 x.i] 34)) (.slice (some ⟨u1.heap.size, 0, none⟩) 1 1) [x]) := ar_one u1 u1.drew B0.out x
    have XEB : Hid (AR u1 ((u1.drew.alloc (.cells #[] 34)).alloc (.cells #[.int .i64 x.v.k, .bool x.v.b, .int .i64 x.v.n, .float .f64 x.v.f, .string x.v.t, .int .i64 x.i] 34)) (.slice (some ⟨u1.heap.size + 1, 0, none⟩) 1 1) [x]) := by
      have := ar_one u1 (u1.drew.alloc (.cells #[] 34)) XE.out.b x
      rw [show (u1.drew.alloc (.cells #[] 34)).heap.size = u1.heap.size + 1 by simp] at this
      exact this
    have XBE : Hid (AR u1 ((u1.drew.alloc (.cells #[.int .i64 x.v.k, .bool x.v.b, .int .i64 x.v.n, .float .f64 x.v.f, .string x.v.t, .int .i64 x.i] 34)).alloc (.cells #[] 34)) (.slice (some ⟨u1.heap.size + 1, 0, none⟩) 0 0) []) := by
      have := ar_none u1 (u1.drew.alloc (.cells #[.int .i64 x.v.k, .bool x.v.b, .int .i64 x.v.n, .float .f64 x.v.f, .string x.v.t, .int .i64 x.i] 34)) XB.out.b
      rw [show (u1.drew.alloc (.cells #[.int .i64 x.v.k, .bool x.v.b, .int .i64 x.v.n, .float .f64 x.v.f, .string x.v.t, .int .i64 x.i] 34)).heap.size = u1.heap.size + 1 by simp] at this
      exact this
    have XEk := Lib.hid (XE.out.below ((Below.refl _ _).alloc (Nat.le_refl _) (.cells #[.int .i64 x.v.k, .bool x.v.b, .int .i64 x.v.n, .float .f64 x.v.f, .string x.v.t, .int .i64 x.i] 34)))
    have XBk := Lib.hid (XB.out.below ((Below.refl _ _).alloc (Nat.le_refl _) (.cells #[] 34)))
    have HLEN : Hid ((I.take i).length = i) := by simp only [Hid]; rw [List.length_take]; omega
    have HDR : Hid ((I.drop i).length = I.length - i) := by simp only [Hid]; rw [List.length_drop]
    have HN1 : Hid (0 + i = ([] ++ I.take i : List En).length) := by simp only [Hid]; rw [List.nil_append, HLEN.out, Nat.zero_add]
    have HN2 : Hid (i + 1 = (I.take i ++ [x]).length) := by simp only [Hid]; rw [List.length_append, HLEN.out]; rfl
    have HN3 : Hid (i + 1 + (I.length - i) = ((I.take i ++ [x]) ++ I.drop i).length) := by simp only [Hid]; rw [List.length_append, ← HN2.out, HDR.out]
    clear hm
    rcases HM.out.r1.2 with ⟨hv, h0⟩ | ⟨g, cp, cur, hv, _, hg1, hg2, hg3, hg4, hg5⟩
    · have hI : I = [] := List.length_eq_zero_iff.1 h0
      subst hI
      subst hv
      have hi0 : i = 0 := by simpa using hi
      subst hi0
      have HRW := Lib.hid (fun W (hW : Below u1.heap.size u1 W) => show W.ownsRow 0 34 6 (.slice none 0 0) 0 (ecs (([] : List En).take 0)) from World.ownsRow_nil _ _ _ _)
      clear h0
      refine region_E (by kernel_rfl) (fun W => W.cell? ⟨a, 0, none⟩ = some (.slice none 0 0) ∧ W.cell? ⟨w.heap.size, 0, none⟩ = some (.int .i64 x.v.k) ∧ W.cell? ⟨w.heap.size, 1, none⟩ = some (.bool x.v.b) ∧ W.cell? ⟨w.heap.size, 2, none⟩ = some (.int .i64 x.v.n) ∧ W.cell? ⟨w.heap.size, 3, none⟩ = some (.float .f64 x.v.f) ∧ W.cell? ⟨w.heap.size, 4, none⟩ = some (.string x.v.t) ∧ W.cell? ⟨w.heap.size, 5, none⟩ = some (.int .i64 x.i)) 21 (fun iv => ?_)
      refine AnyE.take (i := 0) (oi := ⟨some 15, .move (.tmp 0), _, _, _, none⟩) (v := (.pointer (some ⟨a, 0, none⟩))) iv rfl (by decide) (of_decide_eq_true (by kernel_rfl)) (by kernel_rfl) (by kernel_rfl) (by kernel_rfl) (by kernel_rfl) (by kernel_rfl) (fun _ _ _ h => h) (Or.inl ⟨by rfl, fun W _ => by go_simp⟩) hS0 (fun iv => ?_)
      refine AnyE.take (i := 2) (oi := ⟨some 17, .move (.tmp 0), _, _, _, none⟩) (v := (.pointer (some ⟨a, 0, none⟩))) iv rfl (by decide) (of_decide_eq_true (by kernel_rfl)) (by kernel_rfl) (by kernel_rfl) (by kernel_rfl) (by kernel_rfl) (by kernel_rfl) (fun _ _ _ h => h) (Or.inl ⟨by rfl, fun W _ => by go_simp⟩) hS0 (fun iv => ?_)
      refine AnyE.take (i := 3) (oi := ⟨some 18, .nilCheck (.tmp 17), _, _, _, none⟩) (v := (.pointer (some ⟨a, 0, none⟩))) iv rfl (by decide) (of_decide_eq_true (by kernel_rfl)) (by kernel_rfl) (by kernel_rfl) (by kernel_rfl) (by kernel_rfl) (by kernel_rfl) (fun _ _ _ h => h) (Or.inl ⟨by rfl, fun W _ => by go_simp⟩) hS0 (fun iv => ?_)
      refine AnyE.take (i := 4) (oi := ⟨some 19, .fieldAddr 29 (.tmp 18) 0, _, _, _, none⟩) (v := (.pointer (some ⟨a, 0, none⟩))) iv rfl (by decide) (of_decide_eq_true (by kernel_rfl)) (by kernel_rfl) (by kernel_rfl) (by kernel_rfl) (by kernel_rfl) (by kernel_rfl) (fun _ _ _ h => h) (Or.inl ⟨by rfl, fun W _ => by go_simp⟩) hS0 (fun iv => ?_)
      refine AnyE.take (i := 5) (oi := ⟨some 20, .load 27 (.tmp 19), _, _, _, none⟩) (v := (.slice none 0 0)) iv rfl (by decide) (of_decide_eq_true (by kernel_rfl)) (by kernel_rfl) (by kernel_rfl) (by kernel_rfl) (by kernel_rfl) (by kernel_rfl) (fun _ _ _ h => h) (Or.inl ⟨by rfl, fun W hW => by obtain ⟨q0, q1, q2, q3, q4, q5, q6⟩ := hW; go_simp⟩) hS0 (fun iv => ?_)
      refine AnyE.take (i := 6) (oi := ⟨some 21, .move (.tmp 5), _, _, _, none⟩) (v := (.int .i64 0)) iv rfl (by decide) (of_decide_eq_true (by kernel_rfl)) (by kernel_rfl) (by kernel_rfl) (by kernel_rfl) (by kernel_rfl) (by kernel_rfl) (fun _ _ _ h => h) (Or.inl ⟨by rfl, fun W _ => by go_simp⟩) hS0 (fun iv => ?_)
      refine AnyE.take (i := 7) (oi := ⟨some 22, .slice 27 (.tmp 20) none (some (.tmp 21)) none, _, _, _, none⟩) (v := (.slice none 0 0)) iv rfl (by decide) (of_decide_eq_true (by kernel_rfl)) (by kernel_rfl) (by kernel_rfl) (by kernel_rfl) (by kernel_rfl) (by kernel_rfl) (fun _ _ _ h => h) (Or.inl ⟨by rfl, fun W _ => by go_simp⟩) hS0 (fun iv => ?_)
      refine AnyE.take (i := 9) (oi := ⟨some 24, .load 34 (.tmp 3), _, _, _, none⟩) (v := ev x) iv rfl (by decide) (of_decide_eq_true (by kernel_rfl)) (by kernel_rfl) (by kernel_rfl) (by kernel_rfl) (by kernel_rfl) (by kernel_rfl) (fun _ _ _ h => h) (Or.inl ⟨by rfl, fun W hW => by obtain ⟨q0, q1, q2, q3, q4, q5, q6⟩ := hW; go_simp⟩) hS0 (fun iv => ?_)
      refine AnyE.take (i := 12) (oi := ⟨some 27, .move (.tmp 0), _, _, _, none⟩) (v := (.pointer (some ⟨a, 0, none⟩))) iv rfl (by decide) (of_decide_eq_true (by kernel_rfl)) (by kernel_rfl) (by kernel_rfl) (by kernel_rfl) (by kernel_rfl) (by kernel_rfl) (fun _ _ _ h => h) (Or.inl ⟨by rfl, fun W _ => by go_simp⟩) hS0 (fun iv => ?_)
      refine AnyE.take (i := 13) (oi := ⟨some 28, .nilCheck (.tmp 27), _, _, _, none⟩) (v := (.pointer (some ⟨a, 0, none⟩))) iv rfl (by decide) (of_decide_eq_true (by kernel_rfl)) (by kernel_rfl) (by kernel_rfl) (by kernel_rfl) (by kernel_rfl) (by kernel_rfl) (fun _ _ _ h => h) (Or.inl ⟨by rfl, fun W _ => by go_simp⟩) hS0 (fun iv => ?_)
      refine AnyE.take (i := 14) (oi := ⟨some 29, .fieldAddr 29 (.tmp 28) 0, _, _, _, none⟩) (v := (.pointer (some ⟨a, 0, none⟩))) iv rfl (by decide) (of_decide_eq_true (by kernel_rfl)) (by kernel_rfl) (by kernel_rfl) (by kernel_rfl) (by kernel_rfl) (by kernel_rfl) (fun _ _ _ h => h) (Or.inl ⟨by rfl, fun W _ => by go_simp⟩) hS0 (fun iv => ?_)
      refine AnyE.take (i := 15) (oi := ⟨some 30, .load 27 (.tmp 29), _, _, _, none⟩) (v := (.slice none 0 0)) iv rfl (by decide) (of_decide_eq_true (by kernel_rfl)) (by kernel_rfl) (by kernel_rfl) (by kernel_rfl) (by kernel_rfl) (by kernel_rfl) (fun _ _ _ h => h) (Or.inl ⟨by rfl, fun W hW => by obtain ⟨q0, q1, q2, q3, q4, q5, q6⟩ := hW; go_simp⟩) hS0 (fun iv => ?_)
      refine AnyE.take (i := 16) (oi := ⟨some 31, .move (.tmp 5), _, _, _, none⟩) (v := (.int .i64 0)) iv rfl (by decide) (of_decide_eq_true (by kernel_rfl)) (by kernel_rfl) (by kernel_rfl) (by kernel_rfl) (by kernel_rfl) (by kernel_rfl) (fun _ _ _ h => h) (Or.inl ⟨by rfl, fun W _ => by go_simp⟩) hS0 (fun iv => ?_)
      refine AnyE.take (i := 17) (oi := ⟨some 32, .slice 27 (.tmp 30) (some (.tmp 31)) none none, _, _, _, none⟩) (v := (.slice none 0 0)) iv rfl (by decide) (of_decide_eq_true (by kernel_rfl)) (by kernel_rfl) (by kernel_rfl) (by kernel_rfl) (by kernel_rfl) (by kernel_rfl) (fun _ _ _ h => h) (Or.inl ⟨by rfl, fun W _ => by go_simp⟩) hS0 (fun iv => ?_)
      refine AnyE.ready (rs := [1, 10]) (by kernel_rfl) (by simp) (AllE.cons (o := ⟨some 16, .buildSlice 27 0 #[], _, _, _, none⟩) rfl rfl (fun K hK => ?_) (AllE.cons (o := ⟨some 25, .buildSlice 27 1 #[(0, .tmp 24)], _, _, _, none⟩) rfl rfl (fun K hK => ?_) AllE.nil))
      · go_simp
        with_reducible refine hK _ _ ?_
        refine ⟨fun _ => HS.out _ XE.out.b, ?_⟩
        clear hK K
        refine AnyE.ready (rs := [8, 10]) (by kernel_rfl) (by simp) (AllE.cons (o := ⟨some 23, .call { callee := .builtin .append, args := #[.tmp 16, .tmp 22], argTypes := #[27, 27] }, _, _, _, none⟩) rfl rfl (fun K hK => ?_) (AllE.cons (o := ⟨some 25, .buildSlice 27 1 #[(0, .tmp 24)], _, _, _, none⟩) rfl rfl (fun K hK => ?_) AllE.nil))
        · refine own_wp_row 27 34 _ 6 56 Try.underlying27 infoEn rfl (by decide) (by decide) (.tmp 16) (.tmp 22) rfl _ _ 0 0 [] (ecs (([] : List En).take 0)) XE.out.r.r rfl (HRW.out _ XE.out.b) rfl (ec_one _) (by omega) ?_
          intro v2 w2 hr2 hg2 ho2
          have A1 : Hid (AR u1 w2 v2 (([] : List En).take 0)) := XE.out.app (M := ([] : List En).take 0) hr2 HN1.out rfl hg2 ho2
          have R1 : Hid (w2.ownsRow 0 34 6 v2 0 (ecs (([] : List En).take 0))) := by have := A1.out.r.r; rw [HLEN.out] at this; exact this
          have XN := Lib.hid (ar_one u1 w2 A1.out.b x)
          have R1k : Hid ((w2.alloc (.cells #[.int .i64 x.v.k, .bool x.v.b, .int .i64 x.v.n, .float .f64 x.v.f, .string x.v.t, .int .i64 x.i] 34)).ownsRow 0 34 6 v2 0 (ecs (([] : List En).take 0))) := own_same R1.out (fun k hk => ((Below.refl w2.heap.size w2).alloc (Nat.le_refl _) (.cells #[.int .i64 x.v.k, .bool x.v.b, .int .i64 x.v.n, .float .f64 x.v.f, .string x.v.t, .int .i64 x.i] 34)).block k (World.ownsRow.lt R1.out k hk).2)
          have A1k := Lib.hid (A1.out.below ((Below.refl _ _).alloc (Nat.le_refl _) (.cells #[.int .i64 x.v.k, .bool x.v.b, .int .i64 x.v.n, .float .f64 x.v.f, .string x.v.t, .int .i64 x.i] 34)))
          clear hr2 hg2 ho2
          with_reducible refine hK _ _ ?_
          refine ⟨fun _ => HS.out _ A1.out.b, ?_⟩
          clear hK K
          refine AnyE.ready (rs := [10]) (by kernel_rfl) (by simp) (AllE.cons (o := ⟨some 25, .buildSlice 27 1 #[(0, .tmp 24)], _, _, _, none⟩) rfl rfl (fun K hK => ?_) AllE.nil)
          go_simp
          with_reducible refine hK _ _ ?_
          refine ⟨fun _ => HS.out _ XN.out.b, ?_⟩
          clear hK K
          refine AnyE.ready (rs := [11]) (by kernel_rfl) (by simp) (AllE.cons (o := ⟨some 26, .call { callee := .builtin .append, args := #[.tmp 23, .tmp 25], argTypes := #[27, 27] }, _, _, _, none⟩) rfl rfl (fun K hK => ?_) AllE.nil)
          refine own_wp_row 27 34 _ 6 56 Try.underlying27 infoEn rfl (by decide) (by decide) (.tmp 23) (.tmp 25) rfl _ _ 0 1 (ecs (([] : List En).take 0)) (ecs [x]) R1k.out rfl XN.out.r.r rfl (ec_one _) (by omega) ?_
          intro v3 w3 hr3 hg3 ho3
          have A2 : Hid (AR u1 w3 v3 (([] : List En).take 0 ++ [x])) := A1k.out.app (M := [x]) hr3 HN2.out (ecs_app _ _).symm hg3 ho3
          have R2 : Hid (w3.ownsRow 0 34 6 v3 (0 + 1) (ecs (([] : List En).take 0 ++ [x]))) := by have := A2.out.r.r; rw [← HN2.out] at this; exact this
          clear hr3 hg3 ho3
          with_reducible refine hK _ _ ?_
          refine ⟨fun _ => HS.out _ A2.out.b, ?_⟩
          clear hK K
          refine AnyE.ready (rs := [18]) (by kernel_rfl) (by simp) (AllE.cons (o := ⟨some 33, .call { callee := .builtin .append, args := #[.tmp 26, .tmp 32], argTypes := #[27, 27] }, _, _, _, none⟩) rfl rfl (fun K hK => ?_) AllE.nil)
          refine own_wp_row 27 34 _ 6 56 Try.underlying27 infoEn rfl (by decide) (by decide) (.tmp 26) (.tmp 32) rfl _ _ (0 + 1) 0 (ecs (([] : List En).take 0 ++ [x])) [] R2.out rfl (World.ownsRow_nil _ _ _ _) rfl (fun u hu => by cases hu) (by omega) ?_
          intro v4 w4 hr4 hg4 ho4
          have A3 : Hid (AR u1 w4 v4 ((([] : List En).take 0 ++ [x]) ++ ([] : List En).drop 0)) := A2.out.app (M := ([] : List En).drop 0) hr4 rfl rfl hg4 ho4
          have hba := A3.out.b.block a (HM.out.lt a HM.out.fa)
          obtain ⟨j0, jf⟩ := HM.out.cellsIn hba
          have HP := Lib.hid (HM.out.put (Chg.below A3.out.b) hba A3.out.r.r rfl (fun k hk => .inr (A3.out.r.n k hk)) HOK.out)
          obtain ⟨A4, c4, rfl⟩ := own_slice hr4
          clear hr4 hg4 ho4 hba
          with_reducible refine hK _ _ ?_
          refine ⟨fun _ => HS.out _ A3.out.b, ?_⟩
          clear hK K
          refine AnyE.ready (rs := [19]) (by kernel_rfl) (by simp) (AllE.cons (o := ⟨some 34, .nilCheck (.tmp 15), _, _, _, none⟩) rfl rfl (fun K hK => ?_) AllE.nil)
          go_simp
          with_reducible refine hK _ _ ?_
          refine ⟨fun _ => HS.out _ A3.out.b, ?_⟩
          clear hK K
          refine AnyE.ready (rs := [20]) (by kernel_rfl) (by simp) (AllE.cons (o := ⟨some 35, .fieldAddr 29 (.tmp 34) 0, _, _, _, none⟩) rfl rfl (fun K hK => ?_) AllE.nil)
          go_simp
          with_reducible refine hK _ _ ?_
          refine ⟨fun _ => HS.out _ A3.out.b, ?_⟩
          clear hK K
          refine AnyE.ready (rs := [21]) (by kernel_rfl) (by simp) (AllE.cons (o := ⟨none, .store 27 (.tmp 35) (.tmp 33), _, _, _, none⟩) rfl rfl (fun K hK => ?_) AllE.nil)
          go_simp
          with_reducible refine hK _ _ ?_
          refine ⟨fun h => absurd rfl h, ?_⟩
          clear hK K
          refine AnyE.done (by kernel_rfl) ?_ _
          clear j0 jf
          go_wp2
          go_ret
          exact doesT_later H0.out HBW.out ⟨rfl, ⟨_, HP.out.1⟩, HP.out.2⟩
        · go_simp
          with_reducible refine hK _ _ ?_
          refine ⟨fun _ => HS.out _ XEB.out.b, ?_⟩
          clear hK K
          refine AnyE.ready (rs := [8]) (by kernel_rfl) (by simp) (AllE.cons (o := ⟨some 23, .call { callee := .builtin .append, args := #[.tmp 16, .tmp 22], argTypes := #[27, 27] }, _, _, _, none⟩) rfl rfl (fun K hK => ?_) AllE.nil)
          refine own_wp_row 27 34 _ 6 56 Try.underlying27 infoEn rfl (by decide) (by decide) (.tmp 16) (.tmp 22) rfl _ _ 0 0 [] (ecs (([] : List En).take 0)) XEk.out.r.r rfl (HRW.out _ XEB.out.b) rfl (ec_one _) (by omega) ?_
          intro v2 w2 hr2 hg2 ho2
          have A1 : Hid (AR u1 w2 v2 (([] : List En).take 0)) := XEk.out.app (M := ([] : List En).take 0) hr2 HN1.out rfl hg2 ho2
          have R1 : Hid (w2.ownsRow 0 34 6 v2 0 (ecs (([] : List En).take 0))) := by have := A1.out.r.r; rw [HLEN.out] at this; exact this
          have XK := Lib.hid (XEB.out.keep hg2 (fun k hk => by simp [Value.ownBlock] at hk ⊢; omega) A1.out.b)
          clear hr2 hg2 ho2
          with_reducible refine hK _ _ ?_
          refine ⟨fun _ => HS.out _ A1.out.b, ?_⟩
          clear hK K
          refine AnyE.ready (rs := [11]) (by kernel_rfl) (by simp) (AllE.cons (o := ⟨some 26, .call { callee := .builtin .append, args := #[.tmp 23, .tmp 25], argTypes := #[27, 27] }, _, _, _, none⟩) rfl rfl (fun K hK => ?_) AllE.nil)
          refine own_wp_row 27 34 _ 6 56 Try.underlying27 infoEn rfl (by decide) (by decide) (.tmp 23) (.tmp 25) rfl _ _ 0 1 (ecs (([] : List En).take 0)) (ecs [x]) R1.out rfl XK.out.r.r rfl (ec_one _) (by omega) ?_
          intro v3 w3 hr3 hg3 ho3
          have A2 : Hid (AR u1 w3 v3 (([] : List En).take 0 ++ [x])) := A1.out.app (M := [x]) hr3 HN2.out (ecs_app _ _).symm hg3 ho3
          have R2 : Hid (w3.ownsRow 0 34 6 v3 (0 + 1) (ecs (([] : List En).take 0 ++ [x]))) := by have := A2.out.r.r; rw [← HN2.out] at this; exact this
          clear hr3 hg3 ho3
          with_reducible refine hK _ _ ?_
          refine ⟨fun _ => HS.out _ A2.out.b, ?_⟩
          clear hK K
          refine AnyE.ready (rs := [18]) (by kernel_rfl) (by simp) (AllE.cons (o := ⟨some 33, .call { callee := .builtin .append, args := #[.tmp 26, .tmp 32], argTypes := #[27, 27] }, _, _, _, none⟩) rfl rfl (fun K hK => ?_) AllE.nil)
          refine own_wp_row 27 34 _ 6 56 Try.underlying27 infoEn rfl (by decide) (by decide) (.tmp 26) (.tmp 32) rfl _ _ (0 + 1) 0 (ecs (([] : List En).take 0 ++ [x])) [] R2.out rfl (World.ownsRow_nil _ _ _ _) rfl (fun u hu => by cases hu) (by omega) ?_
          intro v4 w4 hr4 hg4 ho4
          have A3 : Hid (AR u1 w4 v4 ((([] : List En).take 0 ++ [x]) ++ ([] : List En).drop 0)) := A2.out.app (M := ([] : List En).drop 0) hr4 rfl rfl hg4 ho4
          have hba := A3.out.b.block a (HM.out.lt a HM.out.fa)
          obtain ⟨j0, jf⟩ := HM.out.cellsIn hba
          have HP := Lib.hid (HM.out.put (Chg.below A3.out.b) hba A3.out.r.r rfl (fun k hk => .inr (A3.out.r.n k hk)) HOK.out)
          obtain ⟨A4, c4, rfl⟩ := own_slice hr4
          clear hr4 hg4 ho4 hba
          with_reducible refine hK _ _ ?_
          refine ⟨fun _ => HS.out _ A3.out.b, ?_⟩
          clear hK K
          refine AnyE.ready (rs := [19]) (by kernel_rfl) (by simp) (AllE.cons (o := ⟨some 34, .nilCheck (.tmp 15), _, _, _, none⟩) rfl rfl (fun K hK => ?_) AllE.nil)
          go_simp
          with_reducible refine hK _ _ ?_
          refine ⟨fun _ => HS.out _ A3.out.b, ?_⟩
          clear hK K
          refine AnyE.ready (rs := [20]) (by kernel_rfl) (by simp) (AllE.cons (o := ⟨some 35, .fieldAddr 29 (.tmp 34) 0, _, _, _, none⟩) rfl rfl (fun K hK => ?_) AllE.nil)
          go_simp
          with_reducible refine hK _ _ ?_
          refine ⟨fun _ => HS.out _ A3.out.b, ?_⟩
          clear hK K
          refine AnyE.ready (rs := [21]) (by kernel_rfl) (by simp) (AllE.cons (o := ⟨none, .store 27 (.tmp 35) (.tmp 33), _, _, _, none⟩) rfl rfl (fun K hK => ?_) AllE.nil)
          go_simp
          with_reducible refine hK _ _ ?_
          refine ⟨fun h => absurd rfl h, ?_⟩
          clear hK K
          refine AnyE.done (by kernel_rfl) ?_ _
          clear j0 jf
          go_wp2
          go_ret
          exact doesT_later H0.out HBW.out ⟨rfl, ⟨_, HP.out.1⟩, HP.out.2⟩
      · go_simp
        with_reducible refine hK _ _ ?_
        refine ⟨fun _ => HS.out _ XB.out.b, ?_⟩
        clear hK K
        refine AnyE.ready (rs := [1]) (by kernel_rfl) (by simp) (AllE.cons (o := ⟨some 16, .buildSlice 27 0 #[], _, _, _, none⟩) rfl rfl (fun K hK => ?_) AllE.nil)
        go_simp
        with_reducible refine hK _ _ ?_
        refine ⟨fun _ => HS.out _ XBE.out.b, ?_⟩
        clear hK K
        refine AnyE.ready (rs := [8]) (by kernel_rfl) (by simp) (AllE.cons (o := ⟨some 23, .call { callee := .builtin .append, args := #[.tmp 16, .tmp 22], argTypes := #[27, 27] }, _, _, _, none⟩) rfl rfl (fun K hK => ?_) AllE.nil)
        refine own_wp_row 27 34 _ 6 56 Try.underlying27 infoEn rfl (by decide) (by decide) (.tmp 16) (.tmp 22) rfl _ _ 0 0 [] (ecs (([] : List En).take 0)) XBE.out.r.r rfl (HRW.out _ XBE.out.b) rfl (ec_one _) (by omega) ?_
        intro v2 w2 hr2 hg2 ho2
        have A1 : Hid (AR u1 w2 v2 (([] : List En).take 0)) := XBE.out.app (M := ([] : List En).take 0) hr2 HN1.out rfl hg2 ho2
        have R1 : Hid (w2.ownsRow 0 34 6 v2 0 (ecs (([] : List En).take 0))) := by have := A1.out.r.r; rw [HLEN.out] at this; exact this
        have XK := Lib.hid (XBk.out.keep hg2 (fun k hk => by simp [Value.ownBlock] at hk ⊢; omega) A1.out.b)
        clear hr2 hg2 ho2
        with_reducible refine hK _ _ ?_
        refine ⟨fun _ => HS.out _ A1.out.b, ?_⟩
        clear hK K
        refine AnyE.ready (rs := [11]) (by kernel_rfl) (by simp) (AllE.cons (o := ⟨some 26, .call { callee := .builtin .append, args := #[.tmp 23, .tmp 25], argTypes := #[27, 27] }, _, _, _, none⟩) rfl rfl (fun K hK => ?_) AllE.nil)
        refine own_wp_row 27 34 _ 6 56 Try.underlying27 infoEn rfl (by decide) (by decide) (.tmp 23) (.tmp 25) rfl _ _ 0 1 (ecs (([] : List En).take 0)) (ecs [x]) R1.out rfl XK.out.r.r rfl (ec_one _) (by omega) ?_
        intro v3 w3 hr3 hg3 ho3
        have A2 : Hid (AR u1 w3 v3 (([] : List En).take 0 ++ [x])) := A1.out.app (M := [x]) hr3 HN2.out (ecs_app _ _).symm hg3 ho3
        have R2 : Hid (w3.ownsRow 0 34 6 v3 (0 + 1) (ecs (([] : List En).take 0 ++ [x]))) := by have := A2.out.r.r; rw [← HN2.out] at this; exact this
        clear hr3 hg3 ho3
        with_reducible refine hK _ _ ?_
        refine ⟨fun _ => HS.out _ A2.out.b, ?_⟩
        clear hK K
        refine AnyE.ready (rs := [18]) (by kernel_rfl) (by simp) (AllE.cons (o := ⟨some 33, .call { callee := .builtin .append, args := #[.tmp 26, .tmp 32], argTypes := #[27, 27] }, _, _, _, none⟩) rfl rfl (fun K hK => ?_) AllE.nil)
        refine own_wp_row 27 34 _ 6 56 Try.underlying27 infoEn rfl (by decide) (by decide) (.tmp 26) (.tmp 32) rfl _ _ (0 + 1) 0 (ecs (([] : List En).take 0 ++ [x])) [] R2.out rfl (World.ownsRow_nil _ _ _ _) rfl (fun u hu => by cases hu) (by omega) ?_
        intro v4 w4 hr4 hg4 ho4
        have A3 : Hid (AR u1 w4 v4 ((([] : List En).take 0 ++ [x]) ++ ([] : List En).drop 0)) := A2.out.app (M := ([] : List En).drop 0) hr4 rfl rfl hg4 ho4
        have hba := A3.out.b.block a (HM.out.lt a HM.out.fa)
        obtain ⟨j0, jf⟩ := HM.out.cellsIn hba
        have HP := Lib.hid (HM.out.put (Chg.below A3.out.b) hba A3.out.r.r rfl (fun k hk => .inr (A3.out.r.n k hk)) HOK.out)
        obtain ⟨A4, c4, rfl⟩ := own_slice hr4
        clear hr4 hg4 ho4 hba
        with_reducible refine hK _ _ ?_
        refine ⟨fun _ => HS.out _ A3.out.b, ?_⟩
        clear hK K
        refine AnyE.ready (rs := [19]) (by kernel_rfl) (by simp) (AllE.cons (o := ⟨some 34, .nilCheck (.tmp 15), _, _, _, none⟩) rfl rfl (fun K hK => ?_) AllE.nil)
        go_simp
        with_reducible refine hK _ _ ?_
        refine ⟨fun _ => HS.out _ A3.out.b, ?_⟩
        clear hK K
        refine AnyE.ready (rs := [20]) (by kernel_rfl) (by simp) (AllE.cons (o := ⟨some 35, .fieldAddr 29 (.tmp 34) 0, _, _, _, none⟩) rfl rfl (fun K hK => ?_) AllE.nil)
        go_simp
        with_reducible refine hK _ _ ?_
        refine ⟨fun _ => HS.out _ A3.out.b, ?_⟩
        clear hK K
        refine AnyE.ready (rs := [21]) (by kernel_rfl) (by simp) (AllE.cons (o := ⟨none, .store 27 (.tmp 35) (.tmp 33), _, _, _, none⟩) rfl rfl (fun K hK => ?_) AllE.nil)
        go_simp
        with_reducible refine hK _ _ ?_
        refine ⟨fun h => absurd rfl h, ?_⟩
        clear hK K
        refine AnyE.done (by kernel_rfl) ?_ _
        clear j0 jf
        go_wp2
        go_ret
        exact doesT_later H0.out HBW.out ⟨rfl, ⟨_, HP.out.1⟩, HP.out.2⟩
    · subst hv
      have hcap : I.length ≤ cp := hg2
      have hglt := block_lt hg1
      have HRW := Lib.hid (fun W (hW : Below u1.heap.size u1 W) => show W.ownsRow 0 34 6 (.slice (some ⟨g, 0, none⟩) i cp) i (ecs (I.take i)) from by
        have := own_take (HM.out.below hW).r1 hi
        rw [ecs_take I i hi] at this
        exact this)
      have HCD : Hid (∀ W, Below u1.heap.size u1 W → ∀ j u, (ecs (I.drop i))[j]? = some u → W.cell? ((⟨g, i * 6, none⟩ : Addr).add j) = some u) := fun W hW j u hj => by
        rw [Addr.add_lit]
        have hjl : j < (I.drop i).length * 6 := by
          rcases Nat.lt_or_ge j ((I.drop i).length * 6) with h | h
          · exact h
          · rw [List.getElem?_eq_none (by rw [ecs_len]; exact h)] at hj; cases hj
        rw [List.length_drop] at hjl
        rw [hW.cell (p := ⟨g, i * 6 + j, none⟩) hglt, World.ownsRow.cellAt HM.out.r1 _ (by omega)]
        have e2 : ecs I = ecs (I.take i) ++ ecs (I.drop i) := by rw [← ecs_app, List.take_append_drop]
        rw [e2, List.getElem?_append_right (by rw [ecs_len, List.length_take]; omega), ecs_len, List.length_take, Nat.min_eq_left (by omega), show i * 6 + j - i * 6 = j by omega]
        exact hj
      have HDL : Hid ((ecs (I.drop i)).length = (I.length - i) * 6) := by simp only [Hid]; rw [ecs_len, List.length_drop]
      have hicp : i ≤ cp := by omega
      have h0i : (0 : Int) ≤ (i : Int) := by omega
      have hi3 : (i : Int) ≤ (I.length : Int) := by omega
      clear hg1 hg3 hg4 hg5
      by_cases hce : cp = i
      · have hln : I.length = i := by omega
        have HND : Hid (I.drop i = []) := by simp only [Hid]; rw [List.drop_of_length_le (by omega)]
        have HLN := Lib.hid hln
        clear hln
        subst hce
        refine region_E (by kernel_rfl) (fun W => W.cell? ⟨a, 0, none⟩ = some (.slice (some ⟨g, 0, none⟩) I.length cp) ∧ W.cell? ⟨w.heap.size, 0, none⟩ = some (.int .i64 x.v.k) ∧ W.cell? ⟨w.heap.size, 1, none⟩ = some (.bool x.v.b) ∧ W.cell? ⟨w.heap.size, 2, none⟩ = some (.int .i64 x.v.n) ∧ W.cell? ⟨w.heap.size, 3, none⟩ = some (.float .f64 x.v.f) ∧ W.cell? ⟨w.heap.size, 4, none⟩ = some (.string x.v.t) ∧ W.cell? ⟨w.heap.size, 5, none⟩ = some (.int .i64 x.i)) 21 (fun iv => ?_)
        refine AnyE.take (i := 0) (oi := ⟨some 15, .move (.tmp 0), _, _, _, none⟩) (v := (.pointer (some ⟨a, 0, none⟩))) iv rfl (by decide) (of_decide_eq_true (by kernel_rfl)) (by kernel_rfl) (by kernel_rfl) (by kernel_rfl) (by kernel_rfl) (by kernel_rfl) (fun _ _ _ h => h) (Or.inl ⟨by rfl, fun W _ => by go_simp⟩) hS0 (fun iv => ?_)
        refine AnyE.take (i := 2) (oi := ⟨some 17, .move (.tmp 0), _, _, _, none⟩) (v := (.pointer (some ⟨a, 0, none⟩))) iv rfl (by decide) (of_decide_eq_true (by kernel_rfl)) (by kernel_rfl) (by kernel_rfl) (by kernel_rfl) (by kernel_rfl) (by kernel_rfl) (fun _ _ _ h => h) (Or.inl ⟨by rfl, fun W _ => by go_simp⟩) hS0 (fun iv => ?_)
        refine AnyE.take (i := 3) (oi := ⟨some 18, .nilCheck (.tmp 17), _, _, _, none⟩) (v := (.pointer (some ⟨a, 0, none⟩))) iv rfl (by decide) (of_decide_eq_true (by kernel_rfl)) (by kernel_rfl) (by kernel_rfl) (by kernel_rfl) (by kernel_rfl) (by kernel_rfl) (fun _ _ _ h => h) (Or.inl ⟨by rfl, fun W _ => by go_simp⟩) hS0 (fun iv => ?_)
        refine AnyE.take (i := 4) (oi := ⟨some 19, .fieldAddr 29 (.tmp 18) 0, _, _, _, none⟩) (v := (.pointer (some ⟨a, 0, none⟩))) iv rfl (by decide) (of_decide_eq_true (by kernel_rfl)) (by kernel_rfl) (by kernel_rfl) (by kernel_rfl) (by kernel_rfl) (by kernel_rfl) (fun _ _ _ h => h) (Or.inl ⟨by rfl, fun W _ => by go_simp⟩) hS0 (fun iv => ?_)
        refine AnyE.take (i := 5) (oi := ⟨some 20, .load 27 (.tmp 19), _, _, _, none⟩) (v := (.slice (some ⟨g, 0, none⟩) I.length cp)) iv rfl (by decide) (of_decide_eq_true (by kernel_rfl)) (by kernel_rfl) (by kernel_rfl) (by kernel_rfl) (by kernel_rfl) (by kernel_rfl) (fun _ _ _ h => h) (Or.inl ⟨by rfl, fun W hW => by obtain ⟨q0, q1, q2, q3, q4, q5, q6⟩ := hW; go_simp⟩) hS0 (fun iv => ?_)
        refine AnyE.take (i := 6) (oi := ⟨some 21, .move (.tmp 5), _, _, _, none⟩) (v := (.int .i64 (cp : Nat))) iv rfl (by decide) (of_decide_eq_true (by kernel_rfl)) (by kernel_rfl) (by kernel_rfl) (by kernel_rfl) (by kernel_rfl) (by kernel_rfl) (fun _ _ _ h => h) (Or.inl ⟨by rfl, fun W _ => by go_simp⟩) hS0 (fun iv => ?_)
        refine AnyE.take (i := 7) (oi := ⟨some 22, .slice 27 (.tmp 20) none (some (.tmp 21)) none, _, _, _, none⟩) (v := (.slice (some ⟨g, 0, none⟩) cp cp)) iv rfl (by decide) (of_decide_eq_true (by kernel_rfl)) (by kernel_rfl) (by kernel_rfl) (by kernel_rfl) (by kernel_rfl) (by kernel_rfl) (fun _ _ _ h => h) (Or.inl ⟨by rfl, fun W _ => by go_simp⟩) hS0 (fun iv => ?_)
        refine AnyE.take (i := 9) (oi := ⟨some 24, .load 34 (.tmp 3), _, _, _, none⟩) (v := ev x) iv rfl (by decide) (of_decide_eq_true (by kernel_rfl)) (by kernel_rfl) (by kernel_rfl) (by kernel_rfl) (by kernel_rfl) (by kernel_rfl) (fun _ _ _ h => h) (Or.inl ⟨by rfl, fun W hW => by obtain ⟨q0, q1, q2, q3, q4, q5, q6⟩ := hW; go_simp⟩) hS0 (fun iv => ?_)
        refine AnyE.take (i := 12) (oi := ⟨some 27, .move (.tmp 0), _, _, _, none⟩) (v := (.pointer (some ⟨a, 0, none⟩))) iv rfl (by decide) (of_decide_eq_true (by kernel_rfl)) (by kernel_rfl) (by kernel_rfl) (by kernel_rfl) (by kernel_rfl) (by kernel_rfl) (fun _ _ _ h => h) (Or.inl ⟨by rfl, fun W _ => by go_simp⟩) hS0 (fun iv => ?_)
        refine AnyE.take (i := 13) (oi := ⟨some 28, .nilCheck (.tmp 27), _, _, _, none⟩) (v := (.pointer (some ⟨a, 0, none⟩))) iv rfl (by decide) (of_decide_eq_true (by kernel_rfl)) (by kernel_rfl) (by kernel_rfl) (by kernel_rfl) (by kernel_rfl) (by kernel_rfl) (fun _ _ _ h => h) (Or.inl ⟨by rfl, fun W _ => by go_simp⟩) hS0 (fun iv => ?_)
        refine AnyE.take (i := 14) (oi := ⟨some 29, .fieldAddr 29 (.tmp 28) 0, _, _, _, none⟩) (v := (.pointer (some ⟨a, 0, none⟩))) iv rfl (by decide) (of_decide_eq_true (by kernel_rfl)) (by kernel_rfl) (by kernel_rfl) (by kernel_rfl) (by kernel_rfl) (by kernel_rfl) (fun _ _ _ h => h) (Or.inl ⟨by rfl, fun W _ => by go_simp⟩) hS0 (fun iv => ?_)
        refine AnyE.take (i := 15) (oi := ⟨some 30, .load 27 (.tmp 29), _, _, _, none⟩) (v := (.slice (some ⟨g, 0, none⟩) I.length cp)) iv rfl (by decide) (of_decide_eq_true (by kernel_rfl)) (by kernel_rfl) (by kernel_rfl) (by kernel_rfl) (by kernel_rfl) (by kernel_rfl) (fun _ _ _ h => h) (Or.inl ⟨by rfl, fun W hW => by obtain ⟨q0, q1, q2, q3, q4, q5, q6⟩ := hW; go_simp⟩) hS0 (fun iv => ?_)
        refine AnyE.take (i := 16) (oi := ⟨some 31, .move (.tmp 5), _, _, _, none⟩) (v := (.int .i64 (cp : Nat))) iv rfl (by decide) (of_decide_eq_true (by kernel_rfl)) (by kernel_rfl) (by kernel_rfl) (by kernel_rfl) (by kernel_rfl) (by kernel_rfl) (fun _ _ _ h => h) (Or.inl ⟨by rfl, fun W _ => by go_simp⟩) hS0 (fun iv => ?_)
        refine AnyE.take (i := 17) (oi := ⟨some 32, .slice 27 (.tmp 30) (some (.tmp 31)) none none, _, _, _, none⟩) (v := (.slice (some ⟨g, 0, none⟩) 0 0)) iv rfl (by decide) (of_decide_eq_true (by kernel_rfl)) (by kernel_rfl) (by kernel_rfl) (by kernel_rfl) (by kernel_rfl) (by kernel_rfl) (fun _ _ _ h => h) (Or.inl ⟨by rfl, fun W _ => by go_simp⟩) hS0 (fun iv => ?_)
        refine AnyE.ready (rs := [1, 10]) (by kernel_rfl) (by simp) (AllE.cons (o := ⟨some 16, .buildSlice 27 0 #[], _, _, _, none⟩) rfl rfl (fun K hK => ?_) (AllE.cons (o := ⟨some 25, .buildSlice 27 1 #[(0, .tmp 24)], _, _, _, none⟩) rfl rfl (fun K hK => ?_) AllE.nil))
        · go_simp
          with_reducible refine hK _ _ ?_
          refine ⟨fun _ => HS.out _ XE.out.b, ?_⟩
          clear hK K
          refine AnyE.ready (rs := [8, 10]) (by kernel_rfl) (by simp) (AllE.cons (o := ⟨some 23, .call { callee := .builtin .append, args := #[.tmp 16, .tmp 22], argTypes := #[27, 27] }, _, _, _, none⟩) rfl rfl (fun K hK => ?_) (AllE.cons (o := ⟨some 25, .buildSlice 27 1 #[(0, .tmp 24)], _, _, _, none⟩) rfl rfl (fun K hK => ?_) AllE.nil))
          · refine own_wp_row 27 34 _ 6 56 Try.underlying27 infoEn rfl (by decide) (by decide) (.tmp 16) (.tmp 22) rfl _ _ 0 cp [] (ecs (I.take cp)) XE.out.r.r rfl (HRW.out _ XE.out.b) rfl (ec_one _) (by omega) ?_
            intro v2 w2 hr2 hg2 ho2
            have A1 : Hid (AR u1 w2 v2 (I.take cp)) := XE.out.app (M := I.take cp) hr2 HN1.out rfl hg2 ho2
            have R1 : Hid (w2.ownsRow 0 34 6 v2 cp (ecs (I.take cp))) := by have := A1.out.r.r; rw [HLEN.out] at this; exact this
            have XN := Lib.hid (ar_one u1 w2 A1.out.b x)
            have R1k : Hid ((w2.alloc (.cells #[.int .i64 x.v.k, .bool x.v.b, .int .i64 x.v.n, .float .f64 x.v.f, .string x.v.t, .int .i64 x.i] 34)).ownsRow 0 34 6 v2 cp (ecs (I.take cp))) := own_same R1.out (fun k hk => ((Below.refl w2.heap.size w2).alloc (Nat.le_refl _) (.cells #[.int .i64 x.v.k, .bool x.v.b, .int .i64 x.v.n, .float .f64 x.v.f, .string x.v.t, .int .i64 x.i] 34)).block k (World.ownsRow.lt R1.out k hk).2)
            have A1k := Lib.hid (A1.out.below ((Below.refl _ _).alloc (Nat.le_refl _) (.cells #[.int .i64 x.v.k, .bool x.v.b, .int .i64 x.v.n, .float .f64 x.v.f, .string x.v.t, .int .i64 x.i] 34)))
            clear hr2 hg2 ho2
            with_reducible refine hK _ _ ?_
            refine ⟨fun _ => HS.out _ A1.out.b, ?_⟩
            clear hK K
            refine AnyE.ready (rs := [10]) (by kernel_rfl) (by simp) (AllE.cons (o := ⟨some 25, .buildSlice 27 1 #[(0, .tmp 24)], _, _, _, none⟩) rfl rfl (fun K hK => ?_) AllE.nil)
            go_simp
            with_reducible refine hK _ _ ?_
            refine ⟨fun _ => HS.out _ XN.out.b, ?_⟩
            clear hK K
            refine AnyE.ready (rs := [11]) (by kernel_rfl) (by simp) (AllE.cons (o := ⟨some 26, .call { callee := .builtin .append, args := #[.tmp 23, .tmp 25], argTypes := #[27, 27] }, _, _, _, none⟩) rfl rfl (fun K hK => ?_) AllE.nil)
            refine own_wp_row 27 34 _ 6 56 Try.underlying27 infoEn rfl (by decide) (by decide) (.tmp 23) (.tmp 25) rfl _ _ cp 1 (ecs (I.take cp)) (ecs [x]) R1k.out rfl XN.out.r.r rfl (ec_one _) (by omega) ?_
            intro v3 w3 hr3 hg3 ho3
            have A2 : Hid (AR u1 w3 v3 (I.take cp ++ [x])) := A1k.out.app (M := [x]) hr3 HN2.out (ecs_app _ _).symm hg3 ho3
            have R2 : Hid (w3.ownsRow 0 34 6 v3 (cp + 1) (ecs (I.take cp ++ [x]))) := by have := A2.out.r.r; rw [← HN2.out] at this; exact this
            clear hr3 hg3 ho3
            with_reducible refine hK _ _ ?_
            refine ⟨fun _ => HS.out _ A2.out.b, ?_⟩
            clear hK K
            refine AnyE.ready (rs := [18]) (by kernel_rfl) (by simp) (AllE.cons (o := ⟨some 33, .call { callee := .builtin .append, args := #[.tmp 26, .tmp 32], argTypes := #[27, 27] }, _, _, _, none⟩) rfl rfl (fun K hK => ?_) AllE.nil)
            refine own_wp 27 34 _ 6 56 Try.underlying27 infoEn rfl (by decide) (by decide) (.tmp 26) (.tmp 32) rfl _ (cp + 1) (ecs (I.take cp ++ [x])) R2.out rfl ⟨g, 0, none⟩ 0 0 [] rfl rfl (fun j u hj => by cases hj) (fun u hu => by cases hu) (by omega) ?_
            intro v4 w4 hr4 hg4 ho4
            have A3 : Hid (AR u1 w4 v4 ((I.take cp ++ [x]) ++ I.drop cp)) := A2.out.app (M := I.drop cp) hr4 (by rw [← HN3.out]; have := HLN.out; omega) (by rw [HND.out, List.append_nil, List.append_nil]) hg4 ho4
            have hba := A3.out.b.block a (HM.out.lt a HM.out.fa)
            obtain ⟨j0, jf⟩ := HM.out.cellsIn hba
            have HP := Lib.hid (HM.out.put (Chg.below A3.out.b) hba A3.out.r.r rfl (fun k hk => .inr (A3.out.r.n k hk)) HOK.out)
            obtain ⟨A4, c4, rfl⟩ := own_slice hr4
            clear hr4 hg4 ho4 hba
            with_reducible refine hK _ _ ?_
            refine ⟨fun _ => HS.out _ A3.out.b, ?_⟩
            clear hK K
            refine AnyE.ready (rs := [19]) (by kernel_rfl) (by simp) (AllE.cons (o := ⟨some 34, .nilCheck (.tmp 15), _, _, _, none⟩) rfl rfl (fun K hK => ?_) AllE.nil)
            go_simp
            with_reducible refine hK _ _ ?_
            refine ⟨fun _ => HS.out _ A3.out.b, ?_⟩
            clear hK K
            refine AnyE.ready (rs := [20]) (by kernel_rfl) (by simp) (AllE.cons (o := ⟨some 35, .fieldAddr 29 (.tmp 34) 0, _, _, _, none⟩) rfl rfl (fun K hK => ?_) AllE.nil)
            go_simp
            with_reducible refine hK _ _ ?_
            refine ⟨fun _ => HS.out _ A3.out.b, ?_⟩
            clear hK K
            refine AnyE.ready (rs := [21]) (by kernel_rfl) (by simp) (AllE.cons (o := ⟨none, .store 27 (.tmp 35) (.tmp 33), _, _, _, none⟩) rfl rfl (fun K hK => ?_) AllE.nil)
            go_simp
            with_reducible refine hK _ _ ?_
            refine ⟨fun h => absurd rfl h, ?_⟩
            clear hK K
            refine AnyE.done (by kernel_rfl) ?_ _
            clear j0 jf
            go_wp2
            go_ret
            exact doesT_later H0.out HBW.out ⟨rfl, ⟨_, HP.out.1⟩, HP.out.2⟩
          · go_simp
            with_reducible refine hK _ _ ?_
            refine ⟨fun _ => HS.out _ XEB.out.b, ?_⟩
            clear hK K
            refine AnyE.ready (rs := [8]) (by kernel_rfl) (by simp) (AllE.cons (o := ⟨some 23, .call { callee := .builtin .append, args := #[.tmp 16, .tmp 22], argTypes := #[27, 27] }, _, _, _, none⟩) rfl rfl (fun K hK => ?_) AllE.nil)
            refine own_wp_row 27 34 _ 6 56 Try.underlying27 infoEn rfl (by decide) (by decide) (.tmp 16) (.tmp 22) rfl _ _ 0 cp [] (ecs (I.take cp)) XEk.out.r.r rfl (HRW.out _ XEB.out.b) rfl (ec_one _) (by omega) ?_
            intro v2 w2 hr2 hg2 ho2
            have A1 : Hid (AR u1 w2 v2 (I.take cp)) := XEk.out.app (M := I.take cp) hr2 HN1.out rfl hg2 ho2
            have R1 : Hid (w2.ownsRow 0 34 6 v2 cp (ecs (I.take cp))) := by have := A1.out.r.r; rw [HLEN.out] at this; exact this
            have XK := Lib.hid (XEB.out.keep hg2 (fun k hk => by simp [Value.ownBlock] at hk ⊢; omega) A1.out.b)
            clear hr2 hg2 ho2
            with_reducible refine hK _ _ ?_
            refine ⟨fun _ => HS.out _ A1.out.b, ?_⟩
            clear hK K
            refine AnyE.ready (rs := [11]) (by kernel_rfl) (by simp) (AllE.cons (o := ⟨some 26, .call { callee := .builtin .append, args := #[.tmp 23, .tmp 25], argTypes := #[27, 27] }, _, _, _, none⟩) rfl rfl (fun K hK => ?_) AllE.nil)
            refine own_wp_row 27 34 _ 6 56 Try.underlying27 infoEn rfl (by decide) (by decide) (.tmp 23) (.tmp 25) rfl _ _ cp 1 (ecs (I.take cp)) (ecs [x]) R1.out rfl XK.out.r.r rfl (ec_one _) (by omega) ?_
            intro v3 w3 hr3 hg3 ho3
            have A2 : Hid (AR u1 w3 v3 (I.take cp ++ [x])) := A1.out.app (M := [x]) hr3 HN2.out (ecs_app _ _).symm hg3 ho3
            have R2 : Hid (w3.ownsRow 0 34 6 v3 (cp + 1) (ecs (I.take cp ++ [x]))) := by have := A2.out.r.r; rw [← HN2.out] at this; exact this
            clear hr3 hg3 ho3
            with_reducible refine hK _ _ ?_
            refine ⟨fun _ => HS.out _ A2.out.b, ?_⟩
            clear hK K
            refine AnyE.ready (rs := [18]) (by kernel_rfl) (by simp) (AllE.cons (o := ⟨some 33, .call { callee := .builtin .append, args := #[.tmp 26, .tmp 32], argTypes := #[27, 27] }, _, _, _, none⟩) rfl rfl (fun K hK => ?_) AllE.nil)
            refine own_wp 27 34 _ 6 56 Try.underlying27 infoEn rfl (by decide) (by decide) (.tmp 26) (.tmp 32) rfl _ (cp + 1) (ecs (I.take cp ++ [x])) R2.out rfl ⟨g, 0, none⟩ 0 0 [] rfl rfl (fun j u hj => by cases hj) (fun u hu => by cases hu) (by omega) ?_
            intro v4 w4 hr4 hg4 ho4
            have A3 : Hid (AR u1 w4 v4 ((I.take cp ++ [x]) ++ I.drop cp)) := A2.out.app (M := I.drop cp) hr4 (by rw [← HN3.out]; have := HLN.out; omega) (by rw [HND.out, List.append_nil, List.append_nil]) hg4 ho4
            have hba := A3.out.b.block a (HM.out.lt a HM.out.fa)
            obtain ⟨j0, jf⟩ := HM.out.cellsIn hba
            have HP := Lib.hid (HM.out.put (Chg.below A3.out.b) hba A3.out.r.r rfl (fun k hk => .inr (A3.out.r.n k hk)) HOK.out)
            obtain ⟨A4, c4, rfl⟩ := own_slice hr4
            clear hr4 hg4 ho4 hba
            with_reducible refine hK _ _ ?_
            refine ⟨fun _ => HS.out _ A3.out.b, ?_⟩
            clear hK K
            refine AnyE.ready (rs := [19]) (by kernel_rfl) (by simp) (AllE.cons (o := ⟨some 34, .nilCheck (.tmp 15), _, _, _, none⟩) rfl rfl (fun K hK => ?_) AllE.nil)
            go_simp
            with_reducible refine hK _ _ ?_
            refine ⟨fun _ => HS.out _ A3.out.b, ?_⟩
            clear hK K
            refine AnyE.ready (rs := [20]) (by kernel_rfl) (by simp) (AllE.cons (o := ⟨some 35, .fieldAddr 29 (.tmp 34) 0, _, _, _, none⟩) rfl rfl (fun K hK => ?_) AllE.nil)
            go_simp
            with_reducible refine hK _ _ ?_
            refine ⟨fun _ => HS.out _ A3.out.b, ?_⟩
            clear hK K
            refine AnyE.ready (rs := [21]) (by kernel_rfl) (by simp) (AllE.cons (o := ⟨none, .store 27 (.tmp 35) (.tmp 33), _, _, _, none⟩) rfl rfl (fun K hK => ?_) AllE.nil)
            go_simp
            with_reducible refine hK _ _ ?_
            refine ⟨fun h => absurd rfl h, ?_⟩
            clear hK K
            refine AnyE.done (by kernel_rfl) ?_ _
            clear j0 jf
            go_wp2
            go_ret
            exact doesT_later H0.out HBW.out ⟨rfl, ⟨_, HP.out.1⟩, HP.out.2⟩
        · go_simp
          with_reducible refine hK _ _ ?_
          refine ⟨fun _ => HS.out _ XB.out.b, ?_⟩
          clear hK K
          refine AnyE.ready (rs := [1]) (by kernel_rfl) (by simp) (AllE.cons (o := ⟨some 16, .buildSlice 27 0 #[], _, _, _, none⟩) rfl rfl (fun K hK => ?_) AllE.nil)
          go_simp
          with_reducible refine hK _ _ ?_
          refine ⟨fun _ => HS.out _ XBE.out.b, ?_⟩
          clear hK K
          refine AnyE.ready (rs := [8]) (by kernel_rfl) (by simp) (AllE.cons (o := ⟨some 23, .call { callee := .builtin .append, args := #[.tmp 16, .tmp 22], argTypes := #[27, 27] }, _, _, _, none⟩) rfl rfl (fun K hK => ?_) AllE.nil)
          refine own_wp_row 27 34 _ 6 56 Try.underlying27 infoEn rfl (by decide) (by decide) (.tmp 16) (.tmp 22) rfl _ _ 0 cp [] (ecs (I.take cp)) XBE.out.r.r rfl (HRW.out _ XBE.out.b) rfl (ec_one _) (by omega) ?_
          intro v2 w2 hr2 hg2 ho2
          have A1 : Hid (AR u1 w2 v2 (I.take cp)) := XBE.out.app (M := I.take cp) hr2 HN1.out rfl hg2 ho2
          have R1 : Hid (w2.ownsRow 0 34 6 v2 cp (ecs (I.take cp))) := by have := A1.out.r.r; rw [HLEN.out] at this; exact this
          have XK := Lib.hid (XBk.out.keep hg2 (fun k hk => by simp [Value.ownBlock] at hk ⊢; omega) A1.out.b)
          clear hr2 hg2 ho2
          with_reducible refine hK _ _ ?_
          refine ⟨fun _ => HS.out _ A1.out.b, ?_⟩
          clear hK K
          refine AnyE.ready (rs := [11]) (by kernel_rfl) (by simp) (AllE.cons (o := ⟨some 26, .call { callee := .builtin .append, args := #[.tmp 23, .tmp 25], argTypes := #[27, 27] }, _, _, _, none⟩) rfl rfl (fun K hK => ?_) AllE.nil)
          refine own_wp_row 27 34 _ 6 56 Try.underlying27 infoEn rfl (by decide) (by decide) (.tmp 23) (.tmp 25) rfl _ _ cp 1 (ecs (I.take cp)) (ecs [x]) R1.out rfl XK.out.r.r rfl (ec_one _) (by omega) ?_
          intro v3 w3 hr3 hg3 ho3
          have A2 : Hid (AR u1 w3 v3 (I.take cp ++ [x])) := A1.out.app (M := [x]) hr3 HN2.out (ecs_app _ _).symm hg3 ho3
          have R2 : Hid (w3.ownsRow 0 34 6 v3 (cp + 1) (ecs (I.take cp ++ [x]))) := by have := A2.out.r.r; rw [← HN2.out] at this; exact this
          clear hr3 hg3 ho3
          with_reducible refine hK _ _ ?_
          refine ⟨fun _ => HS.out _ A2.out.b, ?_⟩
          clear hK K
          refine AnyE.ready (rs := [18]) (by kernel_rfl) (by simp) (AllE.cons (o := ⟨some 33, .call { callee := .builtin .append, args := #[.tmp 26, .tmp 32], argTypes := #[27, 27] }, _, _, _, none⟩) rfl rfl (fun K hK => ?_) AllE.nil)
          refine own_wp 27 34 _ 6 56 Try.underlying27 infoEn rfl (by decide) (by decide) (.tmp 26) (.tmp 32) rfl _ (cp + 1) (ecs (I.take cp ++ [x])) R2.out rfl ⟨g, 0, none⟩ 0 0 [] rfl rfl (fun j u hj => by cases hj) (fun u hu => by cases hu) (by omega) ?_
          intro v4 w4 hr4 hg4 ho4
          have A3 : Hid (AR u1 w4 v4 ((I.take cp ++ [x]) ++ I.drop cp)) := A2.out.app (M := I.drop cp) hr4 (by rw [← HN3.out]; have := HLN.out; omega) (by rw [HND.out, List.append_nil, List.append_nil]) hg4 ho4
          have hba := A3.out.b.block a (HM.out.lt a HM.out.fa)
          obtain ⟨j0, jf⟩ := HM.out.cellsIn hba
          have HP := Lib.hid (HM.out.put (Chg.below A3.out.b) hba A3.out.r.r rfl (fun k hk => .inr (A3.out.r.n k hk)) HOK.out)
          obtain ⟨A4, c4, rfl⟩ := own_slice hr4
          clear hr4 hg4 ho4 hba
          with_reducible refine hK _ _ ?_
          refine ⟨fun _ => HS.out _ A3.out.b, ?_⟩
          clear hK K
          refine AnyE.ready (rs := [19]) (by kernel_rfl) (by simp) (AllE.cons (o := ⟨some 34, .nilCheck (.tmp 15), _, _, _, none⟩) rfl rfl (fun K hK => ?_) AllE.nil)
          go_simp
          with_reducible refine hK _ _ ?_
          refine ⟨fun _ => HS.out _ A3.out.b, ?_⟩
          clear hK K
          refine AnyE.ready (rs := [20]) (by kernel_rfl) (by simp) (AllE.cons (o := ⟨some 35, .fieldAddr 29 (.tmp 34) 0, _, _, _, none⟩) rfl rfl (fun K hK => ?_) AllE.nil)
          go_simp
          with_reducible refine hK _ _ ?_
          refine ⟨fun _ => HS.out _ A3.out.b, ?_⟩
          clear hK K
          refine AnyE.ready (rs := [21]) (by kernel_rfl) (by simp) (AllE.cons (o := ⟨none, .store 27 (.tmp 35) (.tmp 33), _, _, _, none⟩) rfl rfl (fun K hK => ?_) AllE.nil)
          go_simp
          with_reducible refine hK _ _ ?_
          refine ⟨fun h => absurd rfl h, ?_⟩
          clear hK K
          refine AnyE.done (by kernel_rfl) ?_ _
          clear j0 jf
          go_wp2
          go_ret
          exact doesT_later H0.out HBW.out ⟨rfl, ⟨_, HP.out.1⟩, HP.out.2⟩
      · refine region_E (by kernel_rfl) (fun W => W.cell? ⟨a, 0, none⟩ = some (.slice (some ⟨g, 0, none⟩) I.length cp) ∧ W.cell? ⟨w.heap.size, 0, none⟩ = some (.int .i64 x.v.k) ∧ W.cell? ⟨w.heap.size, 1, none⟩ = some (.bool x.v.b) ∧ W.cell? ⟨w.heap.size, 2, none⟩ = some (.int .i64 x.v.n) ∧ W.cell? ⟨w.heap.size, 3, none⟩ = some (.float .f64 x.v.f) ∧ W.cell? ⟨w.heap.size, 4, none⟩ = some (.string x.v.t) ∧ W.cell? ⟨w.heap.size, 5, none⟩ = some (.int .i64 x.i)) 21 (fun iv => ?_)
        refine AnyE.take (i := 0) (oi := ⟨some 15, .move (.tmp 0), _, _, _, none⟩) (v := (.pointer (some ⟨a, 0, none⟩))) iv rfl (by decide) (of_decide_eq_true (by kernel_rfl)) (by kernel_rfl) (by kernel_rfl) (by kernel_rfl) (by kernel_rfl) (by kernel_rfl) (fun _ _ _ h => h) (Or.inl ⟨by rfl, fun W _ => by go_simp⟩) hS0 (fun iv => ?_)
        refine AnyE.take (i := 2) (oi := ⟨some 17, .move (.tmp 0), _, _, _, none⟩) (v := (.pointer (some ⟨a, 0, none⟩))) iv rfl (by decide) (of_decide_eq_true (by kernel_rfl)) (by kernel_rfl) (by kernel_rfl) (by kernel_rfl) (by kernel_rfl) (by kernel_rfl) (fun _ _ _ h => h) (Or.inl ⟨by rfl, fun W _ => by go_simp⟩) hS0 (fun iv => ?_)
        refine AnyE.take (i := 3) (oi := ⟨some 18, .nilCheck (.tmp 17), _, _, _, none⟩) (v := (.pointer (some ⟨a, 0, none⟩))) iv rfl (by decide) (of_decide_eq_true (by kernel_rfl)) (by kernel_rfl) (by kernel_rfl) (by kernel_rfl) (by kernel_rfl) (by kernel_rfl) (fun _ _ _ h => h) (Or.inl ⟨by rfl, fun W _ => by go_simp⟩) hS0 (fun iv => ?_)
        refine AnyE.take (i := 4) (oi := ⟨some 19, .fieldAddr 29 (.tmp 18) 0, _, _, _, none⟩) (v := (.pointer (some ⟨a, 0, none⟩))) iv rfl (by decide) (of_decide_eq_true (by kernel_rfl)) (by kernel_rfl) (by kernel_rfl) (by kernel_rfl) (by kernel_rfl) (by kernel_rfl) (fun _ _ _ h => h) (Or.inl ⟨by rfl, fun W _ => by go_simp⟩) hS0 (fun iv => ?_)
        refine AnyE.take (i := 5) (oi := ⟨some 20, .load 27 (.tmp 19), _, _, _, none⟩) (v := (.slice (some ⟨g, 0, none⟩) I.length cp)) iv rfl (by decide) (of_decide_eq_true (by kernel_rfl)) (by kernel_rfl) (by kernel_rfl) (by kernel_rfl) (by kernel_rfl) (by kernel_rfl) (fun _ _ _ h => h) (Or.inl ⟨by rfl, fun W hW => by obtain ⟨q0, q1, q2, q3, q4, q5, q6⟩ := hW; go_simp⟩) hS0 (fun iv => ?_)
        refine AnyE.take (i := 6) (oi := ⟨some 21, .move (.tmp 5), _, _, _, none⟩) (v := (.int .i64 (i : Nat))) iv rfl (by decide) (of_decide_eq_true (by kernel_rfl)) (by kernel_rfl) (by kernel_rfl) (by kernel_rfl) (by kernel_rfl) (by kernel_rfl) (fun _ _ _ h => h) (Or.inl ⟨by rfl, fun W _ => by go_simp⟩) hS0 (fun iv => ?_)
        refine AnyE.take (i := 7) (oi := ⟨some 22, .slice 27 (.tmp 20) none (some (.tmp 21)) none, _, _, _, none⟩) (v := (.slice (some ⟨g, 0, none⟩) i cp)) iv rfl (by decide) (of_decide_eq_true (by kernel_rfl)) (by kernel_rfl) (by kernel_rfl) (by kernel_rfl) (by kernel_rfl) (by kernel_rfl) (fun _ _ _ h => h) (Or.inl ⟨by rfl, fun W _ => by go_simp⟩) hS0 (fun iv => ?_)
        refine AnyE.take (i := 9) (oi := ⟨some 24, .load 34 (.tmp 3), _, _, _, none⟩) (v := ev x) iv rfl (by decide) (of_decide_eq_true (by kernel_rfl)) (by kernel_rfl) (by kernel_rfl) (by kernel_rfl) (by kernel_rfl) (by kernel_rfl) (fun _ _ _ h => h) (Or.inl ⟨by rfl, fun W hW => by obtain ⟨q0, q1, q2, q3, q4, q5, q6⟩ := hW; go_simp⟩) hS0 (fun iv => ?_)
        refine AnyE.take (i := 12) (oi := ⟨some 27, .move (.tmp 0), _, _, _, none⟩) (v := (.pointer (some ⟨a, 0, none⟩))) iv rfl (by decide) (of_decide_eq_true (by kernel_rfl)) (by kernel_rfl) (by kernel_rfl) (by kernel_rfl) (by kernel_rfl) (by kernel_rfl) (fun _ _ _ h => h) (Or.inl ⟨by rfl, fun W _ => by go_simp⟩) hS0 (fun iv => ?_)
        refine AnyE.take (i := 13) (oi := ⟨some 28, .nilCheck (.tmp 27), _, _, _, none⟩) (v := (.pointer (some ⟨a, 0, none⟩))) iv rfl (by decide) (of_decide_eq_true (by kernel_rfl)) (by kernel_rfl) (by kernel_rfl) (by kernel_rfl) (by kernel_rfl) (by kernel_rfl) (fun _ _ _ h => h) (Or.inl ⟨by rfl, fun W _ => by go_simp⟩) hS0 (fun iv => ?_)
        refine AnyE.take (i := 14) (oi := ⟨some 29, .fieldAddr 29 (.tmp 28) 0, _, _, _, none⟩) (v := (.pointer (some ⟨a, 0, none⟩))) iv rfl (by decide) (of_decide_eq_true (by kernel_rfl)) (by kernel_rfl) (by kernel_rfl) (by kernel_rfl) (by kernel_rfl) (by kernel_rfl) (fun _ _ _ h => h) (Or.inl ⟨by rfl, fun W _ => by go_simp⟩) hS0 (fun iv => ?_)
        refine AnyE.take (i := 15) (oi := ⟨some 30, .load 27 (.tmp 29), _, _, _, none⟩) (v := (.slice (some ⟨g, 0, none⟩) I.length cp)) iv rfl (by decide) (of_decide_eq_true (by kernel_rfl)) (by kernel_rfl) (by kernel_rfl) (by kernel_rfl) (by kernel_rfl) (by kernel_rfl) (fun _ _ _ h => h) (Or.inl ⟨by rfl, fun W hW => by obtain ⟨q0, q1, q2, q3, q4, q5, q6⟩ := hW; go_simp⟩) hS0 (fun iv => ?_)
        refine AnyE.take (i := 16) (oi := ⟨some 31, .move (.tmp 5), _, _, _, none⟩) (v := (.int .i64 (i : Nat))) iv rfl (by decide) (of_decide_eq_true (by kernel_rfl)) (by kernel_rfl) (by kernel_rfl) (by kernel_rfl) (by kernel_rfl) (by kernel_rfl) (fun _ _ _ h => h) (Or.inl ⟨by rfl, fun W _ => by go_simp⟩) hS0 (fun iv => ?_)
        refine AnyE.take (i := 17) (oi := ⟨some 32, .slice 27 (.tmp 30) (some (.tmp 31)) none none, _, _, _, none⟩) (v := (.slice (some ⟨g, i * 6, none⟩) (I.length - i) (cp - i))) iv rfl (by decide) (of_decide_eq_true (by kernel_rfl)) (by kernel_rfl) (by kernel_rfl) (by kernel_rfl) (by kernel_rfl) (by kernel_rfl) (fun _ _ _ h => h) (Or.inl ⟨by rfl, fun W _ => by go_simp⟩) hS0 (fun iv => ?_)
        refine AnyE.ready (rs := [1, 10]) (by kernel_rfl) (by simp) (AllE.cons (o := ⟨some 16, .buildSlice 27 0 #[], _, _, _, none⟩) rfl rfl (fun K hK => ?_) (AllE.cons (o := ⟨some 25, .buildSlice 27 1 #[(0, .tmp 24)], _, _, _, none⟩) rfl rfl (fun K hK => ?_) AllE.nil))
        · go_simp
          with_reducible refine hK _ _ ?_
          refine ⟨fun _ => HS.out _ XE.out.b, ?_⟩
          clear hK K
          refine AnyE.ready (rs := [8, 10]) (by kernel_rfl) (by simp) (AllE.cons (o := ⟨some 23, .call { callee := .builtin .append, args := #[.tmp 16, .tmp 22], argTypes := #[27, 27] }, _, _, _, none⟩) rfl rfl (fun K hK => ?_) (AllE.cons (o := ⟨some 25, .buildSlice 27 1 #[(0, .tmp 24)], _, _, _, none⟩) rfl rfl (fun K hK => ?_) AllE.nil))
          · refine own_wp_row 27 34 _ 6 56 Try.underlying27 infoEn rfl (by decide) (by decide) (.tmp 16) (.tmp 22) rfl _ _ 0 i [] (ecs (I.take i)) XE.out.r.r rfl (HRW.out _ XE.out.b) rfl (ec_one _) (by omega) ?_
            intro v2 w2 hr2 hg2 ho2
            have A1 : Hid (AR u1 w2 v2 (I.take i)) := XE.out.app (M := I.take i) hr2 HN1.out rfl hg2 ho2
            have R1 : Hid (w2.ownsRow 0 34 6 v2 i (ecs (I.take i))) := by have := A1.out.r.r; rw [HLEN.out] at this; exact this
            have XN := Lib.hid (ar_one u1 w2 A1.out.b x)
            have R1k : Hid ((w2.alloc (.cells #[.int .i64 x.v.k, .bool x.v.b, .int .i64 x.v.n, .float .f64 x.v.f, .string x.v.t, .int .i64 x.i] 34)).ownsRow 0 34 6 v2 i (ecs (I.take i))) := own_same R1.out (fun k hk => ((Below.refl w2.heap.size w2).alloc (Nat.le_refl _) (.cells #[.int .i64 x.v.k, .bool x.v.b, .int .i64 x.v.n, .float .f64 x.v.f, .string x.v.t, .int .i64 x.i] 34)).block k (World.ownsRow.lt R1.out k hk).2)
            have A1k := Lib.hid (A1.out.below ((Below.refl _ _).alloc (Nat.le_refl _) (.cells #[.int .i64 x.v.k, .bool x.v.b, .int .i64 x.v.n, .float .f64 x.v.f, .string x.v.t, .int .i64 x.i] 34)))
            clear hr2 hg2 ho2
            with_reducible refine hK _ _ ?_
            refine ⟨fun _ => HS.out _ A1.out.b, ?_⟩
            clear hK K
            refine AnyE.ready (rs := [10]) (by kernel_rfl) (by simp) (AllE.cons (o := ⟨some 25, .buildSlice 27 1 #[(0, .tmp 24)], _, _, _, none⟩) rfl rfl (fun K hK => ?_) AllE.nil)
            go_simp
            with_reducible refine hK _ _ ?_
            refine ⟨fun _ => HS.out _ XN.out.b, ?_⟩
            clear hK K
            refine AnyE.ready (rs := [11]) (by kernel_rfl) (by simp) (AllE.cons (o := ⟨some 26, .call { callee := .builtin .append, args := #[.tmp 23, .tmp 25], argTypes := #[27, 27] }, _, _, _, none⟩) rfl rfl (fun K hK => ?_) AllE.nil)
            refine own_wp_row 27 34 _ 6 56 Try.underlying27 infoEn rfl (by decide) (by decide) (.tmp 23) (.tmp 25) rfl _ _ i 1 (ecs (I.take i)) (ecs [x]) R1k.out rfl XN.out.r.r rfl (ec_one _) (by omega) ?_
            intro v3 w3 hr3 hg3 ho3
            have A2 : Hid (AR u1 w3 v3 (I.take i ++ [x])) := A1k.out.app (M := [x]) hr3 HN2.out (ecs_app _ _).symm hg3 ho3
            have R2 : Hid (w3.ownsRow 0 34 6 v3 (i + 1) (ecs (I.take i ++ [x]))) := by have := A2.out.r.r; rw [← HN2.out] at this; exact this
            clear hr3 hg3 ho3
            with_reducible refine hK _ _ ?_
            refine ⟨fun _ => HS.out _ A2.out.b, ?_⟩
            clear hK K
            refine AnyE.ready (rs := [18]) (by kernel_rfl) (by simp) (AllE.cons (o := ⟨some 33, .call { callee := .builtin .append, args := #[.tmp 26, .tmp 32], argTypes := #[27, 27] }, _, _, _, none⟩) rfl rfl (fun K hK => ?_) AllE.nil)
            refine own_wp 27 34 _ 6 56 Try.underlying27 infoEn rfl (by decide) (by decide) (.tmp 26) (.tmp 32) rfl _ (i + 1) (ecs (I.take i ++ [x])) R2.out rfl ⟨g, i * 6, none⟩ (I.length - i) (cp - i) (ecs (I.drop i)) rfl HDL.out (HCD.out _ A2.out.b) (ec_one _) (by omega) ?_
            intro v4 w4 hr4 hg4 ho4
            have A3 : Hid (AR u1 w4 v4 ((I.take i ++ [x]) ++ I.drop i)) := A2.out.app (M := I.drop i) hr4 HN3.out (ecs_app _ _).symm hg4 ho4
            have hba := A3.out.b.block a (HM.out.lt a HM.out.fa)
            obtain ⟨j0, jf⟩ := HM.out.cellsIn hba
            have HP := Lib.hid (HM.out.put (Chg.below A3.out.b) hba A3.out.r.r rfl (fun k hk => .inr (A3.out.r.n k hk)) HOK.out)
            obtain ⟨A4, c4, rfl⟩ := own_slice hr4
            clear hr4 hg4 ho4 hba
            with_reducible refine hK _ _ ?_
            refine ⟨fun _ => HS.out _ A3.out.b, ?_⟩
            clear hK K
            refine AnyE.ready (rs := [19]) (by kernel_rfl) (by simp) (AllE.cons (o := ⟨some 34, .nilCheck (.tmp 15), _, _, _, none⟩) rfl rfl (fun K hK => ?_) AllE.nil)
            go_simp
            with_reducible refine hK _ _ ?_
            refine ⟨fun _ => HS.out _ A3.out.b, ?_⟩
            clear hK K
            refine AnyE.ready (rs := [20]) (by kernel_rfl) (by simp) (AllE.cons (o := ⟨some 35, .fieldAddr 29 (.tmp 34) 0, _, _, _, none⟩) rfl rfl (fun K hK => ?_) AllE.nil)
            go_simp
            with_reducible refine hK _ _ ?_
            refine ⟨fun _ => HS.out _ A3.out.b, ?_⟩
            clear hK K
            refine AnyE.ready (rs := [21]) (by kernel_rfl) (by simp) (AllE.cons (o := ⟨none, .store 27 (.tmp 35) (.tmp 33), _, _, _, none⟩) rfl rfl (fun K hK => ?_) AllE.nil)
            go_simp
            with_reducible refine hK _ _ ?_
            refine ⟨fun h => absurd rfl h, ?_⟩
            clear hK K
            refine AnyE.done (by kernel_rfl) ?_ _
            clear j0 jf
            go_wp2
            go_ret
            exact doesT_later H0.out HBW.out ⟨rfl, ⟨_, HP.out.1⟩, HP.out.2⟩
          · go_simp
            with_reducible refine hK _ _ ?_
            refine ⟨fun _ => HS.out _ XEB.out.b, ?_⟩
            clear hK K
            refine AnyE.ready (rs := [8]) (by kernel_rfl) (by simp) (AllE.cons (o := ⟨some 23, .call { callee := .builtin .append, args := #[.tmp 16, .tmp 22], argTypes := #[27, 27] }, _, _, _, none⟩) rfl rfl (fun K hK => ?_) AllE.nil)
            refine own_wp_row 27 34 _ 6 56 Try.underlying27 infoEn rfl (by decide) (by decide) (.tmp 16) (.tmp 22) rfl _ _ 0 i [] (ecs (I.take i)) XEk.out.r.r rfl (HRW.out _ XEB.out.b) rfl (ec_one _) (by omega) ?_
            intro v2 w2 hr2 hg2 ho2
            have A1 : Hid (AR u1 w2 v2 (I.take i)) := XEk.out.app (M := I.take i) hr2 HN1.out rfl hg2 ho2
            have R1 : Hid (w2.ownsRow 0 34 6 v2 i (ecs (I.take i))) := by have := A1.out.r.r; rw [HLEN.out] at this; exact this
            have XK := Lib.hid (XEB.out.keep hg2 (fun k hk => by simp [Value.ownBlock] at hk ⊢; omega) A1.out.b)
            clear hr2 hg2 ho2
            with_reducible refine hK _ _ ?_
            refine ⟨fun _ => HS.out _ A1.out.b, ?_⟩
            clear hK K
            refine AnyE.ready (rs := [11]) (by kernel_rfl) (by simp) (AllE.cons (o := ⟨some 26, .call { callee := .builtin .append, args := #[.tmp 23, .tmp 25], argTypes := #[27, 27] }, _, _, _, none⟩) rfl rfl (fun K hK => ?_) AllE.nil)
            refine own_wp_row 27 34 _ 6 56 Try.underlying27 infoEn rfl (by decide) (by decide) (.tmp 23) (.tmp 25) rfl _ _ i 1 (ecs (I.take i)) (ecs [x]) R1.out rfl XK.out.r.r rfl (ec_one _) (by omega) ?_
            intro v3 w3 hr3 hg3 ho3
            have A2 : Hid (AR u1 w3 v3 (I.take i ++ [x])) := A1.out.app (M := [x]) hr3 HN2.out (ecs_app _ _).symm hg3 ho3
            have R2 : Hid (w3.ownsRow 0 34 6 v3 (i + 1) (ecs (I.take i ++ [x]))) := by have := A2.out.r.r; rw [← HN2.out] at this; exact this
            clear hr3 hg3 ho3
            with_reducible refine hK _ _ ?_
            refine ⟨fun _ => HS.out _ A2.out.b, ?_⟩
            clear hK K
            refine AnyE.ready (rs := [18]) (by kernel_rfl) (by simp) (AllE.cons (o := ⟨some 33, .call { callee := .builtin .append, args := #[.tmp 26, .tmp 32], argTypes := #[27, 27] }, _, _, _, none⟩) rfl rfl (fun K hK => ?_) AllE.nil)
            refine own_wp 27 34 _ 6 56 Try.underlying27 infoEn rfl (by decide) (by decide) (.tmp 26) (.tmp 32) rfl _ (i + 1) (ecs (I.take i ++ [x])) R2.out rfl ⟨g, i * 6, none⟩ (I.length - i) (cp - i) (ecs (I.drop i)) rfl HDL.out (HCD.out _ A2.out.b) (ec_one _) (by omega) ?_
            intro v4 w4 hr4 hg4 ho4
            have A3 : Hid (AR u1 w4 v4 ((I.take i ++ [x]) ++ I.drop i)) := A2.out.app (M := I.drop i) hr4 HN3.out (ecs_app _ _).symm hg4 ho4
            have hba := A3.out.b.block a (HM.out.lt a HM.out.fa)
            obtain ⟨j0, jf⟩ := HM.out.cellsIn hba
            have HP := Lib.hid (HM.out.put (Chg.below A3.out.b) hba A3.out.r.r rfl (fun k hk => .inr (A3.out.r.n k hk)) HOK.out)
            obtain ⟨A4, c4, rfl⟩ := own_slice hr4
            clear hr4 hg4 ho4 hba
            with_reducible refine hK _ _ ?_
            refine ⟨fun _ => HS.out _ A3.out.b, ?_⟩
            clear hK K
            refine AnyE.ready (rs := [19]) (by kernel_rfl) (by simp) (AllE.cons (o := ⟨some 34, .nilCheck (.tmp 15), _, _, _, none⟩) rfl rfl (fun K hK => ?_) AllE.nil)
            go_simp
            with_reducible refine hK _ _ ?_
            refine ⟨fun _ => HS.out _ A3.out.b, ?_⟩
            clear hK K
            refine AnyE.ready (rs := [20]) (by kernel_rfl) (by simp) (AllE.cons (o := ⟨some 35, .fieldAddr 29 (.tmp 34) 0, _, _, _, none⟩) rfl rfl (fun K hK => ?_) AllE.nil)
            go_simp
            with_reducible refine hK _ _ ?_
            refine ⟨fun _ => HS.out _ A3.out.b, ?_⟩
            clear hK K
            refine AnyE.ready (rs := [21]) (by kernel_rfl) (by simp) (AllE.cons (o := ⟨none, .store 27 (.tmp 35) (.tmp 33), _, _, _, none⟩) rfl rfl (fun K hK => ?_) AllE.nil)
            go_simp
            with_reducible refine hK _ _ ?_
            refine ⟨fun h => absurd rfl h, ?_⟩
            clear hK K
            refine AnyE.done (by kernel_rfl) ?_ _
            clear j0 jf
            go_wp2
            go_ret
            exact doesT_later H0.out HBW.out ⟨rfl, ⟨_, HP.out.1⟩, HP.out.2⟩
        · go_simp
          with_reducible refine hK _ _ ?_
          refine ⟨fun _ => HS.out _ XB.out.b, ?_⟩
          clear hK K
          refine AnyE.ready (rs := [1]) (by kernel_rfl) (by simp) (AllE.cons (o := ⟨some 16, .buildSlice 27 0 #[], _, _, _, none⟩) rfl rfl (fun K hK => ?_) AllE.nil)
          go_simp
          with_reducible refine hK _ _ ?_
          refine ⟨fun _ => HS.out _ XBE.out.b, ?_⟩
          clear hK K
          refine AnyE.ready (rs := [8]) (by kernel_rfl) (by simp) (AllE.cons (o := ⟨some 23, .call { callee := .builtin .append, args := #[.tmp 16, .tmp 22], argTypes := #[27, 27] }, _, _, _, none⟩) rfl rfl (fun K hK => ?_) AllE.nil)
          refine own_wp_row 27 34 _ 6 56 Try.underlying27 infoEn rfl (by decide) (by decide) (.tmp 16) (.tmp 22) rfl _ _ 0 i [] (ecs (I.take i)) XBE.out.r.r rfl (HRW.out _ XBE.out.b) rfl (ec_one _) (by omega) ?_
          intro v2 w2 hr2 hg2 ho2
          have A1 : Hid (AR u1 w2 v2 (I.take i)) := XBE.out.app (M := I.take i) hr2 HN1.out rfl hg2 ho2
          have R1 : Hid (w2.ownsRow 0 34 6 v2 i (ecs (I.take i))) := by have := A1.out.r.r; rw [HLEN.out] at this; exact this
          have XK := Lib.hid (XBk.out.keep hg2 (fun k hk => by simp [Value.ownBlock] at hk ⊢; omega) A1.out.b)
          clear hr2 hg2 ho2
          with_reducible refine hK _ _ ?_
          refine ⟨fun _ => HS.out _ A1.out.b, ?_⟩
          clear hK K
          refine AnyE.ready (rs := [11]) (by kernel_rfl) (by simp) (AllE.cons (o := ⟨some 26, .call { callee := .builtin .append, args := #[.tmp 23, .tmp 25], argTypes := #[27, 27] }, _, _, _, none⟩) rfl rfl (fun K hK => ?_) AllE.nil)
          refine own_wp_row 27 34 _ 6 56 Try.underlying27 infoEn rfl (by decide) (by decide) (.tmp 23) (.tmp 25) rfl _ _ i 1 (ecs (I.take i)) (ecs [x]) R1.out rfl XK.out.r.r rfl (ec_one _) (by omega) ?_
          intro v3 w3 hr3 hg3 ho3
          have A2 : Hid (AR u1 w3 v3 (I.take i ++ [x])) := A1.out.app (M := [x]) hr3 HN2.out (ecs_app _ _).symm hg3 ho3
          have R2 : Hid (w3.ownsRow 0 34 6 v3 (i + 1) (ecs (I.take i ++ [x]))) := by have := A2.out.r.r; rw [← HN2.out] at this; exact this
          clear hr3 hg3 ho3
          with_reducible refine hK _ _ ?_
          refine ⟨fun _ => HS.out _ A2.out.b, ?_⟩
          clear hK K
          refine AnyE.ready (rs := [18]) (by kernel_rfl) (by simp) (AllE.cons (o := ⟨some 33, .call { callee := .builtin .append, args := #[.tmp 26, .tmp 32], argTypes := #[27, 27] }, _, _, _, none⟩) rfl rfl (fun K hK => ?_) AllE.nil)
          refine own_wp 27 34 _ 6 56 Try.underlying27 infoEn rfl (by decide) (by decide) (.tmp 26) (.tmp 32) rfl _ (i + 1) (ecs (I.take i ++ [x])) R2.out rfl ⟨g, i * 6, none⟩ (I.length - i) (cp - i) (ecs (I.drop i)) rfl HDL.out (HCD.out _ A2.out.b) (ec_one _) (by omega) ?_
          intro v4 w4 hr4 hg4 ho4
          have A3 : Hid (AR u1 w4 v4 ((I.take i ++ [x]) ++ I.drop i)) := A2.out.app (M := I.drop i) hr4 HN3.out (ecs_app _ _).symm hg4 ho4
          have hba := A3.out.b.block a (HM.out.lt a HM.out.fa)
          obtain ⟨j0, jf⟩ := HM.out.cellsIn hba
          have HP := Lib.hid (HM.out.put (Chg.below A3.out.b) hba A3.out.r.r rfl (fun k hk => .inr (A3.out.r.n k hk)) HOK.out)
          obtain ⟨A4, c4, rfl⟩ := own_slice hr4
          clear hr4 hg4 ho4 hba
          with_reducible refine hK _ _ ?_
          refine ⟨fun _ => HS.out _ A3.out.b, ?_⟩
          clear hK K
          refine AnyE.ready (rs := [19]) (by kernel_rfl) (by simp) (AllE.cons (o := ⟨some 34, .nilCheck (.tmp 15), _, _, _, none⟩) rfl rfl (fun K hK => ?_) AllE.nil)
          go_simp
          with_reducible refine hK _ _ ?_
          refine ⟨fun _ => HS.out _ A3.out.b, ?_⟩
          clear hK K
          refine AnyE.ready (rs := [20]) (by kernel_rfl) (by simp) (AllE.cons (o := ⟨some 35, .fieldAddr 29 (.tmp 34) 0, _, _, _, none⟩) rfl rfl (fun K hK => ?_) AllE.nil)
          go_simp
          with_reducible refine hK _ _ ?_
          refine ⟨fun _ => HS.out _ A3.out.b, ?_⟩
          clear hK K
          refine AnyE.ready (rs := [21]) (by kernel_rfl) (by simp) (AllE.cons (o := ⟨none, .store 27 (.tmp 35) (.tmp 33), _, _, _, none⟩) rfl rfl (fun K hK => ?_) AllE.nil)
          go_simp
          with_reducible refine hK _ _ ?_
          refine ⟨fun h => absurd rfl h, ?_⟩
          clear hK K
          refine AnyE.done (by kernel_rfl) ?_ _
          clear j0 jf
          go_wp2
          go_ret
          exact doesT_later H0.out HBW.out ⟨rfl, ⟨_, HP.out.1⟩, HP.out.2⟩
end
end Go.Proofs.Ytmbbmgkbhfnchaa
