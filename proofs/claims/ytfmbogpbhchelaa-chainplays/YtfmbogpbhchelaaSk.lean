/- ligaturelaw8.ChainMiddle, walked. Conditions: the contracts of Prog8. -/
import Derived.Test.YtfmbogpbhchelaaSj
namespace Go.Proofs.Ytfmbogpbhchelaa
set_option maxRecDepth 100000
set_option linter.unusedVariables false
open Go.ChangeShapes Go.WideShapes Go.ChangeAt Go.RowKit
/-- The items of list 3 while the law adds; what it wants. -/
def mI (n : Nat) : List It := (List.range n).reverse.map fun (j : Nat) => ⟨3, (j : Int)⟩
def mw (n k : Nat) : List Int := zs ((List.range n).reverse.filter fun j => j != k)
theorem mI_len (n : Nat) : (mI n).length = n := by simp [mI]
theorem mI_mem {n j : Nat} : (⟨3, (j : Int)⟩ : It) ∈ mI n ↔ j < n := by
  unfold mI
  rw [List.mem_map]
  constructor
  · rintro ⟨k, hk, e⟩
    injection e with _ e
    have : k = j := by omega
    subst this; simpa using hk
  · intro h
    exact ⟨j, by simpa using h, rfl⟩
theorem mI_add (n : Nat) : It.has (mI n) 3 (n : Nat) = false ∧ It.add (mI n) 3 (n : Nat) = mI (n + 1) := by
  have h0 : It.has (mI n) 3 (n : Nat) = false := by
    cases hh : It.has (mI n) 3 (n : Nat) with
    | false => rfl
    | true =>
      have := mI_mem.1 (It.has_iff.1 hh)
      omega
  refine ⟨h0, ?_⟩
  unfold It.add
  rw [h0]
  simp only [Bool.false_eq_true, if_false]
  unfold mI
  rw [List.range_succ, List.reverse_append, List.reverse_singleton, List.map_append]
  simp
theorem mw_step {j k : Nat} (h : j ≠ k) : mw (j + 1) k = (j : Int) :: mw j k := by
  unfold mw
  rw [List.range_succ, List.reverse_append, List.reverse_singleton, List.filter_append]
  have e : [j].filter (fun x => x != k) = [j] := by simp [h]
  rw [e]
  rfl
theorem mw_same (k : Nat) : mw (k + 1) k = mw k k := by
  unfold mw
  rw [List.range_succ, List.reverse_append, List.reverse_singleton, List.filter_append]
  have e : [k].filter (fun x => x != k) = [] := by simp
  rw [e]
  rfl
theorem mw_len (n k : Nat) : (mw n k).length ≤ n := by
  unfold mw zs
  rw [List.length_map]
  refine Nat.le_trans (List.length_filter_le _ _) ?_
  simp
theorem erase_map3 (l : List Nat) (j : Nat) : (l.map fun (k : Nat) => (⟨3, (k : Int)⟩ : It)).erase ⟨3, (j : Int)⟩ = (l.erase j).map fun (k : Nat) => (⟨3, (k : Int)⟩ : It) := by
  induction l with
  | nil => rfl
  | cons k l ih =>
    rw [List.map_cons, List.erase_cons, List.erase_cons]
    by_cases e : k = j
    · subst e; rw [if_pos (by simp), if_pos (by simp)]
    · rw [if_neg (by simp; omega), if_neg (by simpa using e), List.map_cons, ih]
/-- One is cut. -/
theorem mI_cut {n k : Nat} (hk : k < n) : It.has (mI n) 3 (k : Nat) = true ∧ ∃ K, It.cut (mI n) 3 (k : Nat) = K ∧ K.length ≤ n ∧ It.has K 3 (k : Nat) = false ∧ It.cut K 3 (k : Nat) = K ∧ It.walk K 3 = mw n k ∧ It.add K 3 (k : Nat) = ⟨3, (k : Int)⟩ :: K := by
  have hx : It.cut (mI n) 3 (k : Nat) = ((List.range n).reverse.filter fun j => j != k).map fun (j : Nat) => (⟨3, (j : Int)⟩ : It) := by
    unfold It.cut mI
    rw [erase_map3, (rng_nodup n).erase_eq_filter]
  have hno : (⟨3, (k : Int)⟩ : It) ∉ ((List.range n).reverse.filter fun j => j != k).map fun (j : Nat) => (⟨3, (j : Int)⟩ : It) := by
    intro hm
    obtain ⟨j, hj, e⟩ := List.mem_map.1 hm
    injection e with _ e
    have e : j = k := by omega
    subst e
    have := (List.mem_filter.1 hj).2
    simp at this
  have h0 : It.has (((List.range n).reverse.filter fun j => j != k).map fun (j : Nat) => (⟨3, (j : Int)⟩ : It)) 3 (k : Nat) = false := by
    cases hh : It.has (((List.range n).reverse.filter fun j => j != k).map fun (j : Nat) => (⟨3, (j : Int)⟩ : It)) 3 (k : Nat) with
    | false => rfl
    | true => exact absurd (It.has_iff.1 hh) hno
  refine ⟨It.has_iff.2 (mI_mem.2 hk), _, hx, ?_, h0, ?_, ?_, ?_⟩
  · rw [List.length_map]
    refine Nat.le_trans (List.length_filter_le _ _) ?_
    simp
  · unfold It.cut
    exact List.erase_of_not_mem hno
  · unfold It.walk
    rw [List.filter_eq_self.2 (fun x hx => by obtain ⟨j, _, rfl⟩ := List.mem_map.1 hx; simp)]
    unfold mw zs
    rw [List.map_map]
    rfl
  · unfold It.add
    rw [h0]; rfl
/-- A Lists that the law has made, beside a row of ints of its own. -/
def M8 (PL : (Nat → Prop) → World → Nat → List It → Prop) (w wr : World) (a : Nat) (I : List It) (v : Value) (M : List Int) : Prop := ∃ G, S8 PL G w wr a I ∧ RI w.heap.size wr v M ∧ ∀ g, v.ownBlock = some g → G g
section
variable {PL : (Nat → Prop) → World → Nat → List It → Prop} {w wr w' : World} {a : Nat} {I : List It} {v v' : Value} {M M' : List Int}
theorem M8.all (h : M8 PL w wr a I v M) : Below w.heap.size w wr := by obtain ⟨G, h, _⟩ := h; exact h.all
theorem M8.ri (h : M8 PL w wr a I v M) : RI w.heap.size wr v M := by obtain ⟨G, _, h, _⟩ := h; exact h
theorem M8.start (h : S8 PL noG w wr a I) : M8 PL w wr a I (.slice none 0 0) [] := ⟨noG, h, RI.nil _ _, fun g hg => by simp [Value.ownBlock] at hg⟩
theorem M8.below (hP : Prog8 PL) (h : M8 PL w wr a I v M) (hb : Below wr.heap.size wr w') : M8 PL w w' a I v M := by
  obtain ⟨G, h1, h2, h3⟩ := h
  exact ⟨G, S8.below hP h1 hb, h2.below hb, h3⟩
theorem M8.put (hP : Prog8 PL) (h : M8 PL w wr a I v M) (hb : Below wr.heap.size wr w') (hr : RI wr.heap.size w' v' M') : M8 PL w w' a I v' M' := by
  obtain ⟨G, ⟨F, g1, g2, g3, g4⟩, h2, h3⟩ := h
  have hs := g4.size
  refine ⟨fun k => wr.heap.size ≤ k ∧ k < w'.heap.size, ⟨F, hP.same g1 (fun _ h => h) (fun k hk => Nat.lt_of_lt_of_le (hP.lt g1 k hk) hb.size) (fun k hk => hb.block k (hP.lt g1 k hk)), fun k hk => ⟨fun hg => by have := hP.lt g1 k hk; omega, (g2 k hk).2⟩, fun k hk => hk.2, g4.trans (hb.mono g4.size)⟩, ⟨hr.r, fun k hk => Nat.le_trans hs (hr.n k hk)⟩, fun g hg => ⟨hr.n g hg, (World.ownsRow.lt hr.r g hg).2⟩⟩
theorem M8.keep {G : Nat → Prop} (h2 : RI w.heap.size wr v M) (h3 : ∀ g, v.ownBlock = some g → G g) {I' : List It} (h : S8 PL G w w' a I') (hk : Keep G wr w') : M8 PL w w' a I' v M :=
  ⟨G, h, ⟨own_same h2.r (fun k hk' => hk.2 k (h3 k hk')), h2.n⟩, h3⟩
theorem m8_add (hP : Prog8 PL) (h : M8 PL w wr a I v M) (l i : Int) (hl : I.length ≤ 100000) : Calls Try.prog 10 #[.pointer (some ⟨a, 0, none⟩), .int .i64 l, .int .i64 i] wr fun e w' => e = .returned (.bool (!It.has I l i)) ∧ M8 PL w w' a (It.add I l i) v M := by
  obtain ⟨G, h1, h2, h3⟩ := h
  exact (s8_add hP h1 l i hl).mono fun e w' he => ⟨he.1, M8.keep h2 h3 he.2.1 he.2.2⟩
theorem m8_cut (hP : Prog8 PL) (h : M8 PL w wr a I v M) (l i : Int) (hl : I.length ≤ 100000) : Calls Try.prog 12 #[.pointer (some ⟨a, 0, none⟩), .int .i64 l, .int .i64 i] wr fun e w' => e = .returned (.bool (It.has I l i)) ∧ M8 PL w w' a (It.cut I l i) v M := by
  obtain ⟨G, h1, h2, h3⟩ := h
  exact (s8_cut hP h1 l i hl).mono fun e w' he => ⟨he.1, M8.keep h2 h3 he.2.1 he.2.2⟩
theorem m8_walk (hP : Prog8 PL) (h : M8 PL w wr a I v M) (l : Int) (hl : I.length ≤ 100000) : Calls Try.prog 16 #[.pointer (some ⟨a, 0, none⟩), .int .i64 l] wr fun e w' => ∃ A c, e = .returned (.slice A (It.walk I l).length c) ∧ NR wr.heap.size w' A (It.walk I l) ∧ Below wr.heap.size wr w' := by
  obtain ⟨G, h1, _⟩ := h
  exact s8_walk hP h1 l hl
theorem m8_back (hP : Prog8 PL) (h : M8 PL w wr a I v M) (l : Int) (hl : I.length ≤ 100000) : Calls Try.prog 17 #[.pointer (some ⟨a, 0, none⟩), .int .i64 l] wr fun e w' => ∃ A c, e = .returned (.slice A (It.walk I l).length c) ∧ NR wr.heap.size w' A (It.walk I l).reverse ∧ Below wr.heap.size wr w' := by
  obtain ⟨G, h1, _⟩ := h
  exact s8_back hP h1 l hl
end
theorem one_int (W : World) (x : Int) (t : TypeId) : (W.alloc (.cells #[.int .i64 x] t)).ownsRow 0 t 1 (.slice (some ⟨W.heap.size, 0, none⟩) 1 1) 1 (ics [x]) :=
  World.ownsRow_lit W #[.int .i64 x] 1 (Nat.zero_le _) (by unfold maxLen; omega) rfl
/-- What append([]int{x}, M...) has made. -/
theorem ahead_ri {W W3 W4 : World} {x : Int} {M : List Int} {v4 : Value} (hb : Below W.heap.size W W3) (hr : W4.ownsRow 0 3 1 v4 (1 + M.length) (ics [x] ++ ics M)) (hg : W3.grownBy W4 (Value.slice (some ⟨W.heap.size, 0, none⟩) 1 1).ownBlock) (ho : v4.ownBlock = (Value.slice (some ⟨W.heap.size, 0, none⟩) 1 1).ownBlock ∨ v4.ownBlock = some W3.heap.size) : RI W.heap.size W4 v4 (x :: M) ∧ Below W.heap.size W W4 := by
  refine ⟨⟨?_, fun k hk => ?_⟩, hb.grown hg hb.size (fun k hk => by simp [Value.ownBlock] at hk; omega)⟩
  · rw [List.length_cons, Nat.add_comm]; exact hr
  · have hs := hb.size
    rcases ho with e | e <;> rw [e] at hk <;> simp [Value.ownBlock] at hk <;> omega
section
variable {PL : (Nat → Prop) → World → Nat → List It → Prop}
set_option maxHeartbeats 4000000 in
theorem middle8_any (hP : Prog8 PL) (w : World) (a0 a1 : Int) :
    Calls Try.prog 5 #[.int .i64 a0, .int .i64 a1] w fun e w' => e = .returned (.bool true) ∧ Below w.heap.size w w' := by
  by_cases hbad : a0 < 1 ∨ 50 < a0 ∨ a1 < 0 ∨ a0 ≤ a1
  · rcases (show a0 < 1 ∨ (1 ≤ a0 ∧ 50 < a0) ∨ (1 ≤ a0 ∧ a0 ≤ 50 ∧ a1 < 0) ∨ (1 ≤ a0 ∧ a0 ≤ 50 ∧ 0 ≤ a1 ∧ a0 ≤ a1) by omega) with q | ⟨q, q'⟩ | ⟨q, q', q''⟩ | ⟨q, q', q'', q3⟩
    all_goals (
      clear hbad
      go_enter Try.func5, Try.ntmps5
      go_wp2
      go_ret
      exact ⟨rfl, Below.refl _ _⟩)
  · obtain ⟨n, rfl⟩ : ∃ n : Nat, a0 = n := ⟨a0.toNat, by omega⟩
    obtain ⟨k, rfl⟩ : ∃ k : Nat, a1 = k := ⟨a1.toNat, by omega⟩
    have hn50 : n ≤ 50 := by omega
    have hn1 : 1 ≤ n := by omega
    have hkn : k < n := by omega
    clear hbad
    have HN := Lib.hid (s8_new (G := noG) hP (Below.refl w.heap.size w) (fun k hk => hk.elim))
    have DK := Lib.hid (fun W => known8_any hP W)
    go_enter Try.func5, Try.ntmps5
    go_wp2_with (go_at_call 9; (with_reducible refine HN.out.mono ?_); rintro e w1 ⟨a, rfl, h1, _⟩; have H1 : Hid (M8 PL w w1 a (mI 0) (.slice none 0 0) (mw 0 k)) := M8.start h1; clear h1)
    clear HN
    go_loopw [6, 7] (fun v i wr => ∃ j : Nat, j ≤ n ∧ i = .int .i64 (j : Nat) ∧ Hid (M8 PL w wr a (mI j) v (mw j k))) (fun _ i _ => n - (intOf i).toNat)
    case atStart => exact ⟨0, Nat.zero_le _, rfl, H1.out⟩
    case round =>
      obtain ⟨j, hj, rfl, HS⟩ := hrel
      clear H1
      have hML := mw_len j k
      obtain ⟨A5, c5, hv5⟩ := own_slice HS.out.ri.r
      subst hv5
      by_cases hlt : j < n
      · obtain ⟨e1, e2⟩ := mI_add j
        have C1 := m8_add hP HS.out 3 (j : Nat) (by rw [mI_len]; omega)
        rw [e1, e2] at C1
        have C1 := Lib.hid C1
        clear e1 e2
        by_cases hd : j = k
        · subst hd
          have HM := Lib.hid (mw_same j)
          go_wp2_with (go_at_call 10; (with_reducible refine C1.out.mono ?_); rintro e w2 ⟨rfl, h2⟩; have H2 := Lib.hid h2; clear h2)
          exact ⟨⟨j + 1, by omega, by go_num, by rw [HM.out]; exact H2.out⟩, by simp [intOf]; omega⟩
        · have HM := Lib.hid (mw_step hd)
          have hq : ((j : Int) == (k : Int)) = false := by rw [beq_eq_false_iff_ne]; omega
          have hq2 : ¬ (j : Int) = (k : Int) := by omega
          generalize mw j k = M at *
          clear HS hd
          go_wp2_with (first
            | (have _ := C1; go_at_call 10; (with_reducible refine C1.out.mono ?_); rintro e w2 ⟨rfl, h2⟩; have H2 := Lib.hid h2; have hb3 := (Below.refl w2.heap.size w2).alloc (Nat.le_refl _) (.cells #[.int .i64 (j : Nat)] 3); have HB3 := Lib.hid hb3; have HR3 := Lib.hid (h2.ri.below hb3); have HE := Lib.hid (one_int w2 (j : Nat) 3); clear h2 hb3 C1)
            | (have _ := HE; refine wp_own_row 32 3 _ 1 8 Try.underlying32 infoI rfl (by decide) (by decide) rfl _ _ rfl _ _ 1 M.length (ics [(j : Int)]) (ics M) HE.out rfl HR3.out.r rfl (ics_one _) (by omega) ?_; intro v4 w4 hr4 hg4 ho4; have HP4 := Lib.hid (ahead_ri HB3.out hr4 hg4 ho4); have H4 := Lib.hid (M8.put hP H2.out HP4.out.2 HP4.out.1); clear hr4 hg4 ho4))
          exact ⟨⟨j + 1, by omega, by go_num, by rw [HM.out]; exact H4.out⟩, by simp [intOf]; omega⟩
      · obtain rfl : j = n := by omega
        obtain ⟨e1, K, e2, hKl, e3, e4, e5, e6⟩ := mI_cut hkn
        have C1 := m8_cut hP HS.out 3 (k : Nat) (by rw [mI_len]; omega)
        rw [e1, e2] at C1
        generalize mw j k = M at *
        have C2 := fun W (h : M8 PL w W a K (.slice A5 M.length c5) M) => m8_cut hP h 3 (k : Nat) (by omega)
        rw [e3, e4] at C2
        have CW := fun W (h : M8 PL w W a K (.slice A5 M.length c5) M) => m8_walk hP h 3 (by omega)
        have CB := fun W (h : M8 PL w W a K (.slice A5 M.length c5) M) => m8_back hP h 3 (by omega)
        rw [e5] at CW CB
        have CA := fun W (h : M8 PL w W a K (.slice A5 M.length c5) M) => m8_add hP h 3 (k : Nat) (by omega)
        rw [e3, e6] at CA
        have CV := fun W (h : M8 PL w W a (⟨3, (k : Int)⟩ :: K) (.slice A5 M.length c5) M) => m8_walk hP h 3 (by rw [List.length_cons]; omega)
        rw [It.walk_cons, if_pos rfl, e5, List.length_cons] at CV
        have HX := Lib.hid (fun (I : List It) W W' (hW : M8 PL w W a I (.slice A5 M.length c5) M) (hb : Below W.heap.size W W') => M8.below hP hW hb)
        have C1 := Lib.hid C1
        have C2 := Lib.hid C2
        have CW := Lib.hid CW
        have CB := Lib.hid CB
        have CA := Lib.hid CA
        have CV := Lib.hid CV
        have HR := Lib.hid (fun (I : List It) W (hW : M8 PL w W a I (.slice A5 M.length c5) M) => (row_own hW.ri.r : Row (.int .i64) W A5 M))
        have CS := Lib.hid (fun (A B : Option Addr) cA cB (W : World) (hA : Row (.int .i64) W A M) (hB : Row (.int .i64) W B M) => (show Calls Try.prog 15 #[.slice A M.length cA, .slice B M.length cB] W (fun e w' => e = .returned (.bool true) ∧ Below W.heap.size W w') by
          have := same_below A B M M cA cB W hA hB (by omega)
          rw [decide_eq_true rfl] at this
          exact this))
        have CS2 := Lib.hid (fun (A B : Option Addr) cA cB (W : World) (hA : Row (.int .i64) W A M.reverse) (hB : Row (.int .i64) W B M.reverse) => (show Calls Try.prog 15 #[.slice A M.length cA, .slice B M.length cB] W (fun e w' => e = .returned (.bool true) ∧ Below W.heap.size W w') by
          have := same_below A B M.reverse M.reverse cA cB W hA hB (by rw [List.length_reverse]; omega)
          rw [decide_eq_true rfl, List.length_reverse] at this
          exact this))
        have CS3 := Lib.hid (fun (A B : Option Addr) cA cB (W : World) (hA : Row (.int .i64) W A ((k : Int) :: M)) (hB : Row (.int .i64) W B ((k : Int) :: M)) => (show Calls Try.prog 15 #[.slice A (M.length + 1) cA, .slice B (M.length + 1) cB] W (fun e w' => e = .returned (.bool true) ∧ Below W.heap.size W w') by
          have := same_below A B ((k : Int) :: M) ((k : Int) :: M) cA cB W hA hB (by rw [List.length_cons]; omega)
          rw [decide_eq_true rfl, List.length_cons] at this
          exact this))
        have CT := Lib.hid (fun (I : List It) (W : World) (hW : M8 PL w W a I (.slice A5 M.length c5) M) => turned_any A5 M c5 W (HR.out I W hW) (by omega))
        clear e1 e2 e3 e4 e5 e6
        go_wp2_with (first
          | (have _ := HS; go_at_call 12; (with_reducible refine C1.out.mono ?_); rintro e w2 ⟨rfl, h2⟩; have H2 := Lib.hid h2; clear h2 HS C1)
          | (have _ := H2; go_at_call 12; (with_reducible refine (C2.out _ H2.out).mono ?_); rintro e w3 ⟨rfl, h3⟩; have H3 := Lib.hid h3; clear h3 H2 C2)
          | (have _ := H3; go_at_call 16; (with_reducible refine (CW.out _ H3.out).mono ?_); rintro e w4 ⟨A4, c4, rfl, hn4, hb4⟩; have HN4 := Lib.hid hn4.r; have H4 := Lib.hid (HX.out _ _ _ H3.out hb4); clear hn4 hb4 H3)
          | (have _ := H4; go_at_call 15; (with_reducible refine (CS.out _ _ _ _ _ HN4.out (HR.out _ _ H4.out)).mono ?_); rintro e w5 ⟨rfl, hb5⟩; have H5 := Lib.hid (HX.out _ _ _ H4.out hb5); clear hb5 H4 HN4)
          | (have _ := H5; go_at_call 17; (with_reducible refine (CB.out _ H5.out).mono ?_); rintro e w6 ⟨A6, c6, rfl, hn6, hb6⟩; have HN6 := Lib.hid hn6.r; have H6 := Lib.hid (HX.out _ _ _ H5.out hb6); clear hn6 hb6 H5)
          | (have _ := H6; go_at_call 18; (with_reducible refine (CT.out _ _ H6.out).mono ?_); rintro e w7 ⟨v7, rfl, hr7, hb7⟩; obtain ⟨A7, c7, hv7, hrr7⟩ := hr7.row; rw [List.length_reverse] at hv7; subst hv7; have HN7 := Lib.hid (HN6.out.below hb7); have HN8 := Lib.hid hrr7; have H7 := Lib.hid (HX.out _ _ _ H6.out hb7); clear hr7 hb7 hrr7 H6 HN6)
          | (have _ := H7; go_at_call 15; (with_reducible refine (CS2.out _ _ _ _ _ HN7.out HN8.out).mono ?_); rintro e w8 ⟨rfl, hb8⟩; have H8 := Lib.hid (HX.out _ _ _ H7.out hb8); clear hb8 H7 HN7 HN8)
          | (have _ := H8; go_at_call 10; (with_reducible refine (CA.out _ H8.out).mono ?_); rintro e w9 ⟨rfl, h9⟩; have H9 := Lib.hid h9; clear h9 H8 CA)
          | (have _ := H9; go_at_call 16; (with_reducible refine (CV.out _ H9.out).mono ?_); rintro e w10 ⟨A10, c10, rfl, hn10, hb10⟩; have HN10 := Lib.hid hn10.r; have H10 := Lib.hid (HX.out _ _ _ H9.out hb10); have hb11 := (Below.refl w10.heap.size w10).alloc (Nat.le_refl _) (.cells #[.int .i64 (k : Nat)] 3); have HB11 := Lib.hid hb11; have HR11 := Lib.hid (H10.out.ri.below hb11); have HE := Lib.hid (one_int w10 (k : Nat) 3); clear hn10 hb10 hb11 H9)
          | (have _ := HE; refine wp_own_row 32 3 _ 1 8 Try.underlying32 infoI rfl (by decide) (by decide) rfl _ _ rfl _ _ 1 M.length (ics [(k : Int)]) (ics M) HE.out rfl HR11.out.r rfl (ics_one _) (by omega) ?_; intro v12 w12 hr12 hg12 ho12; have HP12 := Lib.hid (ahead_ri HB11.out hr12 hg12 ho12); obtain ⟨A12, c12, hv12, hrr12⟩ := HP12.out.1.row; rw [List.length_cons] at hv12; subst hv12; have HN12 := Lib.hid hrr12; have HN11 := Lib.hid (HN10.out.below HP12.out.2); have H12 := Lib.hid (HX.out _ _ _ H10.out HP12.out.2); clear hr12 hg12 ho12 hrr12 HE H10 HN10)
          | (have _ := H12; go_at_call 15; (with_reducible refine (CS3.out _ _ _ _ _ HN11.out HN12.out).mono ?_); rintro e w13 ⟨rfl, hb13⟩; have H13 := Lib.hid (HX.out _ _ _ H12.out hb13); clear hb13 H12)
          | (have _ := H13; go_at_call 21; (with_reducible refine (DK.out _).mono ?_); rintro e w14 ⟨rfl, hb14⟩; have H14 := Lib.hid (HX.out _ _ _ H13.out hb14); clear hb14 H13))
        go_ret
        exact ⟨rfl, H14.out.all⟩
end
end Go.Proofs.Ytfmbogpbhchelaa
