/- ligaturelaw8.ChainApart, walked. Conditions: the contracts of Prog8. -/
import Derived.Test.YtfmbogpbhchelaaSi
namespace Go.Proofs.Ytfmbogpbhchelaa
set_option maxRecDepth 100000
set_option linter.unusedVariables false
open Go.ChangeShapes Go.WideShapes Go.ChangeAt Go.RowKit
/-- Two Lists that a law has made. -/
def T8 (PL : (Nat → Prop) → World → Nat → List It → Prop) (w wr : World) (a b : Nat) (I J : List It) : Prop := ∃ F G, PL F wr a I ∧ PL G wr b J ∧ (∀ k, F k → ¬ G k ∧ w.heap.size ≤ k) ∧ (∀ k, G k → w.heap.size ≤ k) ∧ Below w.heap.size w wr
section
variable {PL : (Nat → Prop) → World → Nat → List It → Prop} {w wr w' : World} {a b : Nat} {I J : List It}
theorem T8.all (h : T8 PL w wr a b I J) : Below w.heap.size w wr := by obtain ⟨F, G, _, _, _, _, h⟩ := h; exact h
theorem T8.swap (h : T8 PL w wr a b I J) : T8 PL w wr b a J I := by
  obtain ⟨F, G, h1, h2, h3, h4, h5⟩ := h
  exact ⟨G, F, h2, h1, fun k hk => ⟨fun hf => (h3 k hf).1 hk, h4 k hk⟩, fun k hk => (h3 k hk).2, h5⟩
theorem T8.below (hP : Prog8 PL) (h : T8 PL w wr a b I J) (hb : Below wr.heap.size wr w') : T8 PL w w' a b I J := by
  obtain ⟨F, G, h1, h2, h3, h4, h5⟩ := h
  exact ⟨F, G, hP.same h1 (fun _ h => h) (fun k hk => Nat.lt_of_lt_of_le (hP.lt h1 k hk) hb.size) (fun k hk => hb.block k (hP.lt h1 k hk)), hP.same h2 (fun _ h => h) (fun k hk => Nat.lt_of_lt_of_le (hP.lt h2 k hk) hb.size) (fun k hk => hb.block k (hP.lt h2 k hk)), h3, h4, h5.trans (hb.mono h5.size)⟩
/-- One of the two, beside the blocks of the other. -/
theorem T8.open (hP : Prog8 PL) (h : T8 PL w wr a b I J) : ∃ G, S8 PL G w wr a I ∧ ∀ w' I', S8 PL G w w' a I' → Keep G wr w' → T8 PL w w' a b I' J := by
  obtain ⟨F, G, h1, h2, h3, h4, h5⟩ := h
  refine ⟨G, ⟨F, h1, h3, hP.lt h2, h5⟩, fun w' I' ⟨F', g1, g2, g3, g4⟩ hk => ⟨F', G, g1, hP.same h2 (fun _ h => h) g3 hk.2, g2, h4, g4⟩⟩
theorem t8_new (hP : Prog8 PL) (h : S8 PL noG w wr b J) : Calls Try.prog 9 #[] wr fun e w' => ∃ a, e = .returned (.pointer (some ⟨a, 0, none⟩)) ∧ T8 PL w w' a b [] J := by
  obtain ⟨G, h1, h2, h3, h4⟩ := h
  refine (hP.new wr).mono fun e w' ⟨a, F, g1, g2, g3, g4⟩ => ⟨a, g1, F, G, g2, hP.same h1 (fun _ h => h) (fun k hk => Nat.lt_of_lt_of_le (hP.lt h1 k hk) g4.size) (fun k hk => g4.block k (hP.lt h1 k hk)), fun k hk => ⟨fun hg => by have := hP.lt h1 k hg; have := g3 k hk; omega, by have := g3 k hk; have := h4.size; omega⟩, fun k hk => (h2 k hk).2, h4.trans (g4.mono h4.size)⟩
theorem t8_add (hP : Prog8 PL) (h : T8 PL w wr a b I J) (l i : Int) (hl : I.length ≤ 100000) : Calls Try.prog 10 #[.pointer (some ⟨a, 0, none⟩), .int .i64 l, .int .i64 i] wr fun e w' => e = .returned (.bool (!It.has I l i)) ∧ T8 PL w w' a b (It.add I l i) J := by
  obtain ⟨G, h1, h2⟩ := T8.open hP h
  exact (s8_add hP h1 l i hl).mono fun e w' he => ⟨he.1, h2 _ _ he.2.1 he.2.2⟩
theorem t8_cut (hP : Prog8 PL) (h : T8 PL w wr a b I J) (l i : Int) (hl : I.length ≤ 100000) : Calls Try.prog 12 #[.pointer (some ⟨a, 0, none⟩), .int .i64 l, .int .i64 i] wr fun e w' => e = .returned (.bool (It.has I l i)) ∧ T8 PL w w' a b (It.cut I l i) J := by
  obtain ⟨G, h1, h2⟩ := T8.open hP h
  exact (s8_cut hP h1 l i hl).mono fun e w' he => ⟨he.1, h2 _ _ he.2.1 he.2.2⟩
theorem T8.one (hP : Prog8 PL) (h : T8 PL w wr a b I J) : ∃ G, S8 PL G w wr a I := by
  obtain ⟨G, h1, h2⟩ := T8.open hP h
  exact ⟨G, h1⟩
theorem t8_walk (hP : Prog8 PL) (h : T8 PL w wr a b I J) (l : Int) (hl : I.length ≤ 100000) : Calls Try.prog 16 #[.pointer (some ⟨a, 0, none⟩), .int .i64 l] wr fun e w' => ∃ A c, e = .returned (.slice A (It.walk I l).length c) ∧ NR wr.heap.size w' A (It.walk I l) ∧ Below wr.heap.size wr w' := by
  obtain ⟨G, h1⟩ := T8.one hP h
  exact s8_walk hP h1 l hl
theorem t8_len (hP : Prog8 PL) (h : T8 PL w wr a b I J) (hl : I.length ≤ 100000) : Calls Try.prog 19 #[.pointer (some ⟨a, 0, none⟩)] wr fun e w' => e = .returned (.int .i64 (I.length : Nat)) ∧ Below wr.heap.size wr w' := by
  obtain ⟨G, h1⟩ := T8.one hP h
  exact s8_len hP h1 hl
/-- What holds of the two while the law adds and cuts. -/
structure Apart (I J : List It) (k m : Nat) : Prop where
  wk : It.walk I 1 = It.walk J 1
  al : ∀ x ∈ I, x.l = 1 ∨ x.l = 2
  ln : I.length ≤ k
  lm : J.length ≤ m
theorem Apart.add2 {k m : Nat} (h : Apart I J k m) (x : Int) : Apart (It.add I 2 x) J (k + 1) m := by
  refine ⟨?_, fun y hy => ?_, ?_, h.lm⟩
  · rw [It.walk_add, if_neg (by simp)]; exact h.wk
  · unfold It.add at hy
    split at hy
    · exact h.al y hy
    · rcases List.mem_cons.1 hy with rfl | hy
      · exact .inr rfl
      · exact h.al y hy
  · have := It.add_len_le I 2 x
    have := h.ln
    omega
theorem Apart.cut2 {k m : Nat} (h : Apart I J k m) (x : Int) : Apart (It.cut I 2 x) J k m := by
  refine ⟨?_, fun y hy => h.al y (List.mem_of_mem_erase hy), ?_, h.lm⟩
  · rw [It.walk_cut_other I (by decide) x]; exact h.wk
  · have := It.cut_len_le I 2 x
    have := h.ln
    omega
theorem Apart.both {k : Nat} (h : Apart I I k k) (x : Int) : Apart (It.add I 1 x) (It.add I 1 x) (k + 1) (k + 1) := by
  have hl := It.add_len_le I 1 x
  have := h.ln
  refine ⟨rfl, fun y hy => ?_, by omega, by omega⟩
  unfold It.add at hy
  split at hy
  · exact h.al y hy
  · rcases List.mem_cons.1 hy with rfl | hy
    · exact .inl rfl
    · exact h.al y hy
set_option maxHeartbeats 4000000 in
theorem apart8_any (hP : Prog8 PL) {w : World} (A B C : Option Addr) (L M N : List Int) (ca cb cc : Nat) (hA : Row (.int .i64) w A L) (hB : Row (.int .i64) w B M) (hC : Row (.int .i64) w C N) :
    Calls Try.prog 4 #[.slice A L.length ca, .slice B M.length cb, .slice C N.length cc] w fun e w' => e = .returned (.bool true) ∧ Below w.heap.size w w' := by
  have HA := Lib.hid (fun W (hW : Below w.heap.size w W) => hA.below hW)
  have HB := Lib.hid (fun W (hW : Below w.heap.size w W) => hB.below hW)
  have HC := Lib.hid (fun W (hW : Below w.heap.size w W) => hC.below hW)
  clear hA hB hC
  by_cases hbad : 100 < L.length ∨ 100 < M.length ∨ 100 < N.length
  · rcases (show 100 < L.length ∨ (L.length ≤ 100 ∧ 100 < M.length) ∨ (L.length ≤ 100 ∧ M.length ≤ 100 ∧ 100 < N.length) by omega) with q | ⟨q, q'⟩ | ⟨q, q', q''⟩
    all_goals (
      clear hbad
      go_enter Try.func4, Try.ntmps4
      go_wp2
      go_ret
      exact ⟨rfl, Below.refl _ _⟩)
  · have h1 : L.length ≤ 100 := by omega
    have h2 : M.length ≤ 100 := by omega
    have h3 : N.length ≤ 100 := by omega
    clear hbad
    have HN := Lib.hid (s8_new (G := noG) hP (Below.refl w.heap.size w) (fun k hk => hk.elim))
    have DK := Lib.hid (fun W => known8_any hP W)
    go_enter Try.func4, Try.ntmps4
    go_wp2_with (first
      | (have _ := HN; go_at_call 9; (with_reducible refine HN.out.mono ?_); rintro e w1 ⟨a, rfl, h1', _⟩; have CN := Lib.hid (t8_new hP h1'); clear h1' HN)
      | (have _ := CN; go_at_call 9; (with_reducible refine CN.out.mono ?_); rintro e w2 ⟨b, rfl, h2'⟩; have H2 := Lib.hid h2'.swap; clear h2' CN))
    go_loopw [9] (fun i wr => ∃ (k : Nat) (I : List It), k ≤ L.length ∧ i = .int .i64 (k : Nat) ∧ Hid (Apart I I k k) ∧ Hid (T8 PL w wr a b I I)) (fun i _ => L.length - (intOf i).toNat)
    case atStart => exact ⟨0, [], Nat.zero_le _, rfl, ⟨rfl, fun x hx => (by cases hx), Nat.le_refl _, Nat.le_refl _⟩, H2.out⟩
    case round =>
      obtain ⟨k, I, hk, rfl, HG, HS⟩ := hrel
      clear H2
      by_cases hlt : k < L.length
      · obtain ⟨ad, hA, hc⟩ := HA.out wr HS.out.all k hlt
        subst hA
        have HCC := Lib.hid (fun W (hW : Below w.heap.size w W) => (show W.cell? (ad.add k) = some (.int .i64 L[k]) by
          obtain ⟨ad', e, h⟩ := HA.out W hW k hlt
          injection e with e
          subst e; exact h))
        obtain ⟨x, hx⟩ : ∃ x, x = L[k] := ⟨_, rfl⟩
        rw [← hx] at hc HCC
        clear hx
        have hIl := HG.out.ln
        have HG2 := Lib.hid (HG.out.both x)
        have C1 := Lib.hid (t8_add hP HS.out 1 x (by omega))
        have C2 := Lib.hid (fun W (hW : T8 PL w W a b (It.add I 1 x) I) => (t8_add hP hW.swap 1 x (by omega)))
        generalize It.has I 1 x = hh at C1 C2
        clear hIl
        go_wp2_with (first
          | (have _ := hc; go_at_call 10; (with_reducible refine C1.out.mono ?_); rintro e w3 ⟨rfl, h4⟩; have hc3 := HCC.out _ h4.all; have C3 := Lib.hid (C2.out _ h4); clear h4 hc)
          | (have _ := hc3; go_at_call 10; (with_reducible refine C3.out.mono ?_); rintro e w4 ⟨rfl, h5⟩; have H5 := Lib.hid h5.swap; clear h5 hc3))
        exact ⟨⟨k + 1, _, by omega, by go_num, HG2.out, H5.out⟩, by simp [intOf]; omega⟩
      · obtain rfl : k = L.length := by omega
        obtain ⟨J, hJ⟩ : ∃ J, J = I := ⟨_, rfl⟩
        have HS0 : Hid (T8 PL w wr a b I J) := by simp only [Hid]; rw [hJ]; exact HS.out
        have HG0 : Hid (Apart I J (L.length + 0) L.length) := by simp only [Hid]; rw [hJ]; exact HG.out
        clear HS HG hJ
        go_wp2
        go_loopw [10] (fun i wr => ∃ (k : Nat) (I : List It), k ≤ M.length ∧ i = .int .i64 (k : Nat) ∧ Hid (Apart I J (L.length + k) L.length) ∧ Hid (T8 PL w wr a b I J)) (fun i _ => M.length - (intOf i).toNat)
        case atStart => exact ⟨0, I, Nat.zero_le _, rfl, HG0.out, HS0.out⟩
        case round =>
          clear HS0 HG0
          obtain ⟨k, I, hk, rfl, HG, HS⟩ := hrel
          by_cases hlt : k < M.length
          · obtain ⟨ad, hA, hc⟩ := HB.out wr HS.out.all k hlt
            subst hA
            obtain ⟨x, hx⟩ : ∃ x, x = M[k] := ⟨_, rfl⟩
            rw [← hx] at hc
            clear hx
            have hIl := HG.out.ln
            have HG2 := Lib.hid (HG.out.add2 x)
            have C1 := Lib.hid (t8_add hP HS.out 2 x (by omega))
            clear hIl
            go_wp2_with (go_at_call 10; (with_reducible refine C1.out.mono ?_); rintro e w3 ⟨rfl, h4⟩; have H4 := Lib.hid h4; clear h4 hc)
            exact ⟨⟨k + 1, _, by omega, by go_num, HG2.out, H4.out⟩, by simp [intOf]; omega⟩
          · obtain rfl : k = M.length := by omega
            go_wp2
            go_loopw [11] (fun i wr => ∃ (k : Nat) (I : List It), k ≤ N.length ∧ i = .int .i64 (k : Nat) ∧ Hid (Apart I J (L.length + M.length) L.length) ∧ Hid (T8 PL w wr a b I J)) (fun i _ => N.length - (intOf i).toNat)
            case atStart => exact ⟨0, I, Nat.zero_le _, rfl, HG.out, HS.out⟩
            case round =>
              clear HS HG
              obtain ⟨k, I, hk, rfl, HG, HS⟩ := hrel
              have hIl := HG.out.ln
              have hJl := HG.out.lm
              by_cases hlt : k < N.length
              · obtain ⟨ad, hA, hc⟩ := HC.out wr HS.out.all k hlt
                subst hA
                obtain ⟨x, hx⟩ : ∃ x, x = N[k] := ⟨_, rfl⟩
                rw [← hx] at hc
                clear hx
                have HG2 := Lib.hid (HG.out.cut2 x)
                have C1 := Lib.hid (t8_cut hP HS.out 2 x (by omega))
                clear hIl hJl
                go_wp2_with (go_at_call 12; (with_reducible refine C1.out.mono ?_); rintro e w3 ⟨rfl, h4⟩; have H4 := Lib.hid h4; clear h4 hc)
                exact ⟨⟨k + 1, _, by omega, by go_num, HG2.out, H4.out⟩, by simp [intOf]; omega⟩
              · obtain rfl : k = N.length := by omega
                have hsum := It.walk_sum I HG.out.al
                have hw1 := HG.out.wk
                rw [hw1] at hsum
                have CW := fun W (hW : T8 PL w W a b I J) => t8_walk hP hW 1 (by omega)
                have CD := fun W (hW : T8 PL w W a b I J) => t8_walk hP hW.swap 1 (by omega)
                have CV := fun W (hW : T8 PL w W a b I J) => t8_walk hP hW 2 (by omega)
                have CL := fun W (hW : T8 PL w W a b I J) => t8_len hP hW (by omega)
                rw [hw1] at CW
                rw [hsum] at CL
                have HX := Lib.hid (fun W W' (hW : T8 PL w W a b I J) (hb : Below W.heap.size W W') => T8.below hP hW hb)
                have hl1 := It.walk_len_le J 1
                have hl2 := It.walk_len_le I 2
                generalize It.walk J 1 = P at *
                generalize It.walk I 2 = Q at *
                have hP1 : P.length ≤ 100 := by omega
                have hQ1 : Q.length ≤ 300 := by omega
                have CW := Lib.hid CW
                have CD := Lib.hid CD
                have CV := Lib.hid CV
                have CL := Lib.hid CL
                have CS := Lib.hid (fun (A B : Option Addr) cA cB (W : World) (hA : Row (.int .i64) W A P) (hB : Row (.int .i64) W B P) => (show Calls Try.prog 15 #[.slice A P.length cA, .slice B P.length cB] W (fun e w' => e = .returned (.bool true) ∧ Below W.heap.size W w') by
                  have := same_below A B P P cA cB W hA hB (by omega)
                  rw [decide_eq_true rfl] at this
                  exact this))
                have hwS : IntKind.i64.wrap ((P.length : Int) + (Q.length : Int)) = (P.length : Int) + (Q.length : Int) := wrapI (by omega)
                clear hsum hw1 hl1 hl2 hIl hJl HG
                go_wp2_with (first
                  | (have _ := HS; go_at_call 16; (with_reducible refine (CW.out _ HS.out).mono ?_); rintro e w3 ⟨A3, c3, rfl, hn3, hb3⟩; have HN3 := Lib.hid hn3.r; have H3 := Lib.hid (HX.out _ _ HS.out hb3); clear hn3 hb3 HS)
                  | (have _ := H3; go_at_call 16; (with_reducible refine (CD.out _ H3.out).mono ?_); rintro e w4 ⟨A4, c4, rfl, hn4, hb4⟩; have HN4 := Lib.hid hn4.r; have HN3' := Lib.hid (HN3.out.below hb4); have H4 := Lib.hid (HX.out _ _ H3.out hb4); clear hn4 hb4 H3 HN3)
                  | (have _ := H4; go_at_call 15; (with_reducible refine (CS.out _ _ _ _ _ HN3'.out HN4.out).mono ?_); rintro e w5 ⟨rfl, hb5⟩; have H5 := Lib.hid (HX.out _ _ H4.out hb5); clear hb5 H4 HN3' HN4)
                  | (have _ := H5; go_at_call 19; (with_reducible refine (CL.out _ H5.out).mono ?_); rintro e w6 ⟨rfl, hb6⟩; have H6 := Lib.hid (HX.out _ _ H5.out hb6); clear hb6 H5)
                  | (have _ := H6; go_at_call 16; (with_reducible refine (CD.out _ H6.out).mono ?_); rintro e w7 ⟨A7, c7, rfl, hn7, hb7⟩; have H7 := Lib.hid (HX.out _ _ H6.out hb7); clear hn7 hb7 H6)
                  | (have _ := H7; go_at_call 16; (with_reducible refine (CV.out _ H7.out).mono ?_); rintro e w8 ⟨A8, c8, rfl, hn8, hb8⟩; have H8 := Lib.hid (HX.out _ _ H7.out hb8); clear hn8 hb8 H7)
                  | (have _ := H8; go_at_call 21; (with_reducible refine (DK.out _).mono ?_); rintro e w9 ⟨rfl, hb9⟩; have H9 := Lib.hid (HX.out _ _ H8.out hb9); clear hb9 H8))
                go_ret
                exact ⟨ret_b (by simp), H9.out.all⟩
end
end Go.Proofs.Ytfmbogpbhchelaa
