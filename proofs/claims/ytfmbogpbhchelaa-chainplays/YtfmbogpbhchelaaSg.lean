/- ligaturelaw8.ChainOfNothing, walked. Conditions: the contracts of Prog8. -/
import Derived.Test.YtfmbogpbhchelaaSf
namespace Go.Proofs.Ytfmbogpbhchelaa
set_option maxRecDepth 100000
set_option linter.unusedVariables false
open Go.ChangeShapes Go.WideShapes Go.ChangeAt Go.RowKit
section
variable {PL : (Nat → Prop) → World → Nat → List It → Prop}
theorem one_has (l i : Int) : It.has [] l i = false := by simp [It.has]
theorem one_add (l i : Int) : It.add [] l i = [⟨l, i⟩] := by simp [It.add, It.has]
theorem one_walk (l i : Int) : It.walk [⟨l, i⟩] l = [i] := by simp [It.walk]
set_option maxHeartbeats 2000000 in
theorem ofNothing8_any (hP : Prog8 PL) (w : World) (l i : Int) :
    Calls Try.prog 6 #[.int .i64 l, .int .i64 i] w fun e w' => e = .returned (.bool true) ∧ Below w.heap.size w w' := by
  have HN := Lib.hid (s8_new (G := noG) hP (Below.refl w.heap.size w) (fun k hk => hk.elim))
  go_enter Try.func6, Try.ntmps6
  go_wp2_with fail
  (with_reducible refine HN.out.mono ?_)
  rintro e w1 ⟨a, rfl, h1, _⟩
  have C1 := s8_add hP h1 l i (by simp)
  rw [one_has, one_add] at C1
  have C1 := Lib.hid (show Calls Try.prog 10 #[.pointer (some ⟨a, 0, none⟩), .int .i64 l, .int .i64 i] w1 (fun e w' => e = .returned (.bool true) ∧ S8 PL noG w w' a [⟨l, i⟩] ∧ Keep noG w1 w') from C1)
  clear h1 HN
  go_wp2_with fail
  (with_reducible refine C1.out.mono ?_)
  rintro e w2 ⟨rfl, h2, _⟩
  have HWK := Lib.hid (fun W (hW : S8 PL noG w W a [⟨l, i⟩]) => show Calls Try.prog 16 #[.pointer (some ⟨a, 0, none⟩), .int .i64 l] W (fun e w' => ∃ A c, e = .returned (.slice A 1 c) ∧ NR W.heap.size w' A [i] ∧ Below W.heap.size W w') by
    have := s8_walk hP hW l (by simp)
    rw [one_walk] at this
    exact this)
  have H2 := Lib.hid h2
  have C2 := Lib.hid (HWK.out _ h2)
  clear h2 C1
  go_wp2_with fail
  (with_reducible refine C2.out.mono ?_)
  rintro e w3 ⟨A, cA, rfl, hn3, hb3⟩
  obtain ⟨ad, hA, c3⟩ := hn3.r 0 (by simp)
  subst hA
  have f3 := hn3.z ad rfl 0 (by simp)
  have hB : w2.heap.size ≤ ad.block := by
    rcases hn3.n ad rfl with h | h
    · cases h
    · exact h
  rw [Addr.add_zero'] at c3 f3
  simp only [List.getElem_cons_zero] at c3
  have H3 : Hid (∀ u, S8 PL noG w (w3.setCell ad u) a [⟨l, i⟩]) := fun u => S8.below hP H2.out (hb3.setCell (p := ad) hB u)
  clear hn3 hb3 C2
  go_upto_region 9 with fail
  have H4 := Lib.hid (H3.out (.int .i64 (wrap64 (i + 1))))
  clear c3 f3 hB H3
  generalize w3.setCell ad (.int .i64 (wrap64 (i + 1))) = W4 at *
  have C4 := Lib.hid (HWK.out _ H4.out)
  go_wp2_with fail
  (with_reducible refine C4.out.mono ?_)
  rintro e w5 ⟨B, cB, rfl, hn5, hb5⟩
  have H5 := Lib.hid (S8.below hP H4.out hb5)
  have hb6 := (Below.refl w5.heap.size w5).alloc (Nat.le_refl _) (.cells #[.int .i64 i] 3)
  have C5 := same_below B (some ⟨w5.heap.size, 0, none⟩) [i] [i] cB 1 (w5.alloc (.cells #[.int .i64 i] 3)) (hn5.r.below hb6) (row_new (.int .i64) w5 3 [i] _ rfl) (by simp)
  rw [decide_eq_true rfl] at C5
  have C5 := Lib.hid (show Calls Try.prog 15 #[.slice B 1 cB, .slice (some ⟨w5.heap.size, 0, none⟩) 1 1] (w5.alloc (.cells #[.int .i64 i] 3)) _ from C5)
  have H6 := Lib.hid (S8.below hP H5.out hb6)
  have D1 := Lib.hid (fun W => hP.addN W l i)
  have D2 := Lib.hid (fun W => hP.cutN W l i)
  have D3 := Lib.hid (fun W => hP.hasN W l i)
  have D4 := Lib.hid (fun W => hP.walkN W l)
  have D5 := Lib.hid (fun W => hP.backN W l)
  have D6 := Lib.hid hP.lenN
  have D7 := Lib.hid (fun W => known8_any hP W)
  clear hn5 hb5 hb6 C4
  go_wp2_with (first
    | (go_at_call 15; (with_reducible refine C5.out.mono ?_); rintro e w7 ⟨rfl, hb7⟩; have H7 := Lib.hid (S8.below hP H6.out hb7); clear hb7)
    | (go_at_call 10; (with_reducible refine (D1.out _).mono ?_); rintro e w8 ⟨rfl, hb8⟩; have H8 := Lib.hid (S8.below hP H7.out hb8); clear hb8)
    | (go_at_call 12; (with_reducible refine (D2.out _).mono ?_); rintro e w9 ⟨rfl, hb9⟩; have H9 := Lib.hid (S8.below hP H8.out hb9); clear hb9)
    | (go_at_call 20; (with_reducible refine (D3.out _).mono ?_); rintro e w10 ⟨rfl, hb10⟩; have H10 := Lib.hid (S8.below hP H9.out hb10); clear hb10)
    | (go_at_call 16; (with_reducible refine (D4.out _).mono ?_); rintro e w11 ⟨⟨A4, c4, rfl⟩, hb11⟩; have H11 := Lib.hid (S8.below hP H10.out hb11); clear hb11)
    | (go_at_call 17; (with_reducible refine (D5.out _).mono ?_); rintro e w12 ⟨⟨A5, c5, rfl⟩, hb12⟩; have H12 := Lib.hid (S8.below hP H11.out hb12); clear hb12)
    | (go_at_call 19; (with_reducible refine (D6.out _).mono ?_); rintro e w13 ⟨rfl, hb13⟩; have H13 := Lib.hid (S8.below hP H12.out hb13); clear hb13)
    | (go_at_call 21; (with_reducible refine (D7.out _).mono ?_); rintro e w14 ⟨rfl, hb14⟩; have H14 := Lib.hid (S8.below hP H13.out hb14); clear hb14))
  go_ret
  exact ⟨rfl, H14.out.all⟩
end
end Go.Proofs.Ytfmbogpbhchelaa
