/- ligaturelaw8.ChainMany, walked. Conditions: the contracts of Prog8. -/
import Derived.Test.YtfmbogpbhchelaaSg
namespace Go.Proofs.Ytfmbogpbhchelaa
set_option maxRecDepth 100000
set_option linter.unusedVariables false
open Go.ChangeShapes Go.WideShapes Go.ChangeAt Go.RowKit
/-- The numbers below n, the greatest first, without those below i that s divides. -/
def dn (n s i : Nat) : List Nat := (List.range n).reverse.filter (fun j => !(decide (j % s = 0) && decide (j < i)))
def dI (n s i : Nat) : List It := (dn n s i).map fun (j : Nat) => ⟨9, (j : Int)⟩
theorem dI_walk (n s i : Nat) : It.walk (dI n s i) 9 = (dn n s i).map (fun (j : Nat) => (j : Int)) := by
  unfold It.walk dI
  rw [List.filter_eq_self.2 (fun x hx => by obtain ⟨j, _, rfl⟩ := List.mem_map.1 hx; simp)]
  simp
theorem dn_mem {n s i j : Nat} : j ∈ dn n s i ↔ j < n ∧ ¬ (j % s = 0 ∧ j < i) := by
  unfold dn
  simp only [List.mem_filter, List.mem_reverse, List.mem_range, Bool.not_eq_true', Bool.and_eq_false_iff, decide_eq_false_iff_not]
  constructor
  · rintro ⟨h1, h2⟩
    exact ⟨h1, fun h => by rcases h2 with h2 | h2; exact h2 h.1; exact h2 h.2⟩
  · rintro ⟨h1, h2⟩
    refine ⟨h1, ?_⟩
    by_cases h3 : j % s = 0
    · exact .inr (fun h4 => h2 ⟨h3, h4⟩)
    · exact .inl h3
theorem rng_nodup : ∀ n, (List.range n).reverse.Nodup
  | 0 => List.nodup_nil
  | n + 1 => by
    rw [List.range_succ, List.reverse_append, List.reverse_singleton, List.singleton_append, List.nodup_cons]
    exact ⟨by simp, rng_nodup n⟩
theorem dn_nodup (n s i : Nat) : (dn n s i).Nodup := List.Pairwise.filter _ (rng_nodup n)
theorem dI_mem {n s i : Nat} {j : Nat} : (⟨9, (j : Int)⟩ : It) ∈ dI n s i ↔ j ∈ dn n s i := by
  unfold dI
  rw [List.mem_map]
  constructor
  · rintro ⟨k, hk, e⟩
    injection e with _ e
    have : k = j := by omega
    subst this; exact hk
  · intro h
    exact ⟨j, h, rfl⟩
theorem dI_len (n s i : Nat) : (dI n s i).length ≤ n := by
  unfold dI dn
  rw [List.length_map]
  refine Nat.le_trans (List.length_filter_le _ _) ?_
  simp
/-- One more is added. -/
theorem dI_add (n s : Nat) : It.has (dI n s 0) 9 (n : Nat) = false ∧ It.add (dI n s 0) 9 (n : Nat) = dI (n + 1) s 0 := by
  have h0 : It.has (dI n s 0) 9 (n : Nat) = false := by
    cases hh : It.has (dI n s 0) 9 (n : Nat) with
    | false => rfl
    | true =>
      have := (dn_mem.1 (dI_mem.1 (It.has_iff.1 hh))).1
      omega
  refine ⟨h0, ?_⟩
  unfold It.add
  rw [h0]
  simp only [Bool.false_eq_true, if_false]
  unfold dI dn
  rw [List.range_succ, List.reverse_append, List.reverse_singleton, List.filter_append, List.map_append]
  simp
theorem erase_map (l : List Nat) (j : Nat) : (l.map fun (k : Nat) => (⟨9, (k : Int)⟩ : It)).erase ⟨9, (j : Int)⟩ = (l.erase j).map fun (k : Nat) => (⟨9, (k : Int)⟩ : It) := by
  induction l with
  | nil => rfl
  | cons k l ih =>
    rw [List.map_cons, List.erase_cons, List.erase_cons]
    by_cases e : k = j
    · subst e; rw [if_pos (by simp), if_pos (by simp)]
    · rw [if_neg (by simp; omega), if_neg (by simpa using e), List.map_cons, ih]
/-- The next multiple is cut. -/
theorem dI_cut {n s i : Nat} (hs : 1 ≤ s) (hi : i % s = 0) (hn : i < n) : It.has (dI n s i) 9 (i : Nat) = true ∧ It.cut (dI n s i) 9 (i : Nat) = dI n s (i + s) := by
  refine ⟨It.has_iff.2 (dI_mem.2 (dn_mem.2 ⟨hn, fun h => absurd h.2 (by omega)⟩)), ?_⟩
  unfold It.cut dI
  rw [erase_map, (dn_nodup n s i).erase_eq_filter]
  congr 1
  unfold dn
  rw [List.filter_filter]
  apply List.filter_congr
  intro j hj
  have hmul : j % s = 0 → i < j → j < i + s → False := fun h1 h2 h3 => by
    have h4 : (j - i) % s = 0 := by
      obtain ⟨p, hp⟩ := Nat.dvd_of_mod_eq_zero h1
      obtain ⟨q, hq⟩ := Nat.dvd_of_mod_eq_zero hi
      rw [hp, hq, ← Nat.mul_sub]
      exact Nat.mul_mod_right _ _
    have h5 := Nat.mod_eq_of_lt (show j - i < s by omega)
    omega
  rw [Bool.eq_iff_iff]
  simp only [Bool.and_eq_true, bne_iff_ne, Bool.not_eq_true', Bool.and_eq_false_iff, decide_eq_false_iff_not]
  by_cases h1 : j % s = 0
  · constructor
    · rintro ⟨h2, h3⟩
      refine .inr (fun h4 => ?_)
      rcases h3 with h3 | h3
      · exact h3 h1
      · exact hmul h1 (by omega) h4
    · intro h2
      rcases h2 with h2 | h2
      · exact absurd h1 h2
      · exact ⟨by omega, .inr (by omega)⟩
  · exact ⟨fun _ => .inl h1, fun _ => ⟨fun e => h1 (by rw [e]; exact hi), .inl h1⟩⟩
/-- Those that stay, from the greatest down to k. -/
def wn (n s k : Nat) : List Nat := ((List.range n).drop k).reverse.filter (fun j => decide (j % s ≠ 0))
theorem wn_step {n s k : Nat} (hk : k < n) : wn n s k = wn n s (k + 1) ++ (if k % s ≠ 0 then [k] else []) := by
  unfold wn
  have e : (List.range n).drop k = k :: (List.range n).drop (k + 1) := by
    rw [← List.getElem_cons_drop (h := by simpa using hk)]
    simp
  rw [e, List.reverse_cons, List.filter_append]
  congr 1
  by_cases h : k % s = 0
  · simp [h]
  · simp [h]
theorem wn_all {n s i : Nat} (hi : n ≤ i) : wn n s 0 = dn n s i := by
  unfold wn dn
  rw [List.drop_zero]
  apply List.filter_congr
  intro j hj
  have : j < n := by simpa using hj
  rw [decide_eq_true (show j < i by omega)]
  simp
theorem wn_len (n s k : Nat) : (wn n s k).length ≤ n := by
  unfold wn
  refine Nat.le_trans (List.length_filter_le _ _) ?_
  simp
def zs (l : List Nat) : List Int := l.map fun (j : Nat) => (j : Int)
section
variable {PL : (Nat → Prop) → World → Nat → List It → Prop}
set_option maxHeartbeats 4000000 in
theorem many8_any (hP : Prog8 PL) (w : World) (a0 a1 : Int) :
    Calls Try.prog 7 #[.int .i64 a0, .int .i64 a1] w fun e w' => e = .returned (.bool true) ∧ Below w.heap.size w w' := by
  by_cases hbad : a0 < 0 ∨ 300 < a0 ∨ a1 < 1 ∨ 50 < a1
  · rcases (show a0 < 0 ∨ (0 ≤ a0 ∧ 300 < a0) ∨ (0 ≤ a0 ∧ a0 ≤ 300 ∧ a1 < 1) ∨ (0 ≤ a0 ∧ a0 ≤ 300 ∧ 1 ≤ a1 ∧ 50 < a1) by omega) with q | ⟨q, q'⟩ | ⟨q, q', q''⟩ | ⟨q, q', q'', q3⟩
    all_goals (
      clear hbad
      go_enter Try.func7, Try.ntmps7
      go_wp2
      go_ret
      exact ⟨rfl, Below.refl _ _⟩)
  · obtain ⟨n, rfl⟩ : ∃ n : Nat, a0 = n := ⟨a0.toNat, by omega⟩
    obtain ⟨s, rfl⟩ : ∃ s : Nat, a1 = s := ⟨a1.toNat, by omega⟩
    have hn300 : n ≤ 300 := by omega
    have hs1 : 1 ≤ s := by omega
    have hs50 : s ≤ 50 := by omega
    have hs0 : ¬ (s : Int) = 0 := by omega
    clear hbad
    have HN := Lib.hid (s8_new (G := noG) hP (Below.refl w.heap.size w) (fun k hk => hk.elim))
    have DK := Lib.hid (fun W => known8_any hP W)
    go_enter Try.func7, Try.ntmps7
    go_wp2_with (go_at_call 9; (with_reducible refine HN.out.mono ?_); rintro e w1 ⟨a, rfl, h1, _⟩; have H1 : Hid (S8 PL noG w w1 a (dI 0 s 0)) := h1; clear h1)
    clear HN
    go_loopw [7] (fun i wr => ∃ k : Nat, k ≤ n ∧ i = .int .i64 (k : Nat) ∧ Hid (S8 PL noG w wr a (dI k s 0))) (fun i _ => n - (intOf i).toNat)
    case atStart => exact ⟨0, Nat.zero_le _, rfl, H1.out⟩
    case round =>
      obtain ⟨k, hk, rfl, HS⟩ := hrel
      clear H1
      by_cases hlt : k < n
      · obtain ⟨e1, e2⟩ := dI_add k s
        have C1 := s8_add hP HS.out 9 (k : Nat) (by have := dI_len k s 0; omega)
        rw [e1, e2] at C1
        have C1 := Lib.hid C1
        clear e1 e2
        go_wp2_with (go_at_call 10; (with_reducible refine C1.out.mono ?_); rintro e w2 ⟨rfl, h2, _⟩; have H2 := Lib.hid h2; clear h2)
        exact ⟨⟨k + 1, by omega, by go_num, H2.out⟩, by simp [intOf]; omega⟩
      · obtain rfl : k = n := by omega
        go_wp2
        go_loopw [8] (fun i wr => ∃ j : Nat, j ≤ k + 50 ∧ i = .int .i64 (j : Nat) ∧ j % s = 0 ∧ Hid (S8 PL noG w wr a (dI k s j))) (fun i _ => k + 50 - (intOf i).toNat)
        case atStart => exact ⟨0, Nat.zero_le _, rfl, Nat.zero_mod _, HS.out⟩
        case round =>
          obtain ⟨j, hj, rfl, hjs, HJ⟩ := hrel
          clear HS
          by_cases hlt2 : j < k
          · obtain ⟨e1, e2⟩ := dI_cut hs1 hjs hlt2
            have C1 := s8_cut hP HJ.out 9 (j : Nat) (by have := dI_len k s j; omega)
            rw [e1, e2] at C1
            have C1 := Lib.hid C1
            have hw1 : IntKind.i64.wrap ((j : Int) + (s : Int)) = ((j + s : Nat) : Int) := by rw [show (j : Int) + (s : Int) = ((j + s : Nat) : Int) by omega]; exact wrapI (by omega)
            have hmod : Hid ((j + s) % s = 0) := by simp only [Hid]; rw [Nat.add_mod_right]; exact hjs
            clear e1 e2
            go_wp2_with (go_at_call 12; (with_reducible refine C1.out.mono ?_); rintro e w2 ⟨rfl, h2, _⟩; have H2 := Lib.hid h2; clear h2)
            exact ⟨⟨j + s, by omega, by go_num, hmod.out, H2.out⟩, by simp [intOf]; omega⟩
          · go_wp2
            obtain ⟨W0, hW0⟩ : ∃ W0, W0 = wr := ⟨_, rfl⟩
            rw [← hW0] at HJ
            rw [← hW0]
            clear hW0
            go_loopw [6, 9] (fun v i wr => ∃ m : Nat, m ≤ k ∧ i = .int .i64 ((m : Int) - 1) ∧ Hid (RI W0.heap.size wr v (zs (wn k s m))) ∧ Hid (Below W0.heap.size W0 wr)) (fun _ i _ => ((intOf i) + 1).toNat)
            case atStart => exact ⟨k, Nat.le_refl _, by go_num, by simp only [Hid]; rw [show wn k s k = [] by unfold wn; rw [List.drop_of_length_le (by simp)]; rfl]; exact RI.nil _ _, Below.refl _ _⟩
            case round =>
              obtain ⟨m, hm, rfl, HR, HB⟩ := hrel
              by_cases hz : m = 0
              · subst hz
                have hwn := wn_all (n := k) (s := s) (i := j) (by omega)
                rw [hwn] at HR
                have hwk := dI_walk k s j
                have HSj := Lib.hid (fun W (hW : Below W0.heap.size W0 W) => S8.below hP HJ.out hW)
                have hle := dI_len k s j
                have hll : (dI k s j).length = (zs (dn k s j)).length := by unfold dI zs; rw [List.length_map, List.length_map]
                obtain ⟨L, hL⟩ : ∃ L, L = zs (dn k s j) := ⟨_, rfl⟩
                have hwk2 : It.walk (dI k s j) 9 = L := by rw [hwk, hL]; rfl
                have CW := s8_walk hP (HSj.out _ HB.out) 9 (by omega)
                have CB := fun W (hW : Below W0.heap.size W0 W) => s8_back hP (HSj.out W hW) 9 (by omega)
                have CL := fun W (hW : Below W0.heap.size W0 W) => s8_len hP (HSj.out W hW) (by omega)
                rw [← hL] at HR hll
                rw [hwk2] at CW CB
                rw [hll] at CL
                have hL300 : L.length ≤ 300 := by omega
                have CW := Lib.hid CW
                have CB := Lib.hid CB
                have CL := Lib.hid CL
                obtain ⟨A6, c6, hv6, hr6⟩ := HR.out.row
                subst hv6
                have HR6 := Lib.hid (fun W (hW : Below wr.heap.size wr W) => hr6.below hW)
                have CS := Lib.hid (fun (A : Option Addr) cA (W : World) (hA : Row (.int .i64) W A L) (hW : Below wr.heap.size wr W) => (show Calls Try.prog 15 #[.slice A L.length cA, .slice A6 L.length c6] W (fun e w' => e = .returned (.bool true) ∧ Below W.heap.size W w') by
                  have := same_below A A6 L L cA c6 W hA (HR6.out W hW) (by omega)
                  rwa [decide_eq_true rfl] at this))
                have CS2 := Lib.hid (fun (A B : Option Addr) cA cB (W : World) (hA : Row (.int .i64) W A L.reverse) (hB : Row (.int .i64) W B L.reverse) => (show Calls Try.prog 15 #[.slice A L.length cA, .slice B L.length cB] W (fun e w' => e = .returned (.bool true) ∧ Below W.heap.size W w') by
                  have := same_below A B L.reverse L.reverse cA cB W hA hB (by rw [List.length_reverse]; omega)
                  rw [decide_eq_true rfl, List.length_reverse] at this
                  exact this))
                have CT := Lib.hid (fun (W : World) (hW : Below wr.heap.size wr W) => turned_any A6 L c6 W (HR6.out W hW) (by omega))
                clear hwk hwk2 hL hll hwn hle hr6
                go_wp2_with (first
                  | (go_at_call 16; (with_reducible refine CW.out.mono ?_); rintro e w2 ⟨A7, c7, rfl, hn7, hb7⟩; have HN7 := Lib.hid hn7.r; have HB7 := Lib.hid hb7; clear hn7 hb7)
                  | (have _ := HN9; go_at_call 15; (with_reducible refine (CS2.out _ _ _ _ _ HN9.out HN10.out).mono ?_); rintro e w6 ⟨rfl, hb11⟩; have HB11 := Lib.hid (HB10.out.trans (hb11.mono HB10.out.size)); clear hb11)
                  | (go_at_call 15; (with_reducible refine (CS.out _ _ _ HN7.out HB7.out).mono ?_); rintro e w3 ⟨rfl, hb8⟩; have HB8 := Lib.hid (HB7.out.trans (hb8.mono HB7.out.size)); clear hb8)
                  | (go_at_call 17; (with_reducible refine (CB.out _ (HB.out.trans (HB8.out.mono HB.out.size))).mono ?_); rintro e w4 ⟨A9, c9, rfl, hn9, hb9⟩; have HX9 := Lib.hid hn9.r; have HB9 := Lib.hid (HB8.out.trans (hb9.mono HB8.out.size)); clear hn9 hb9)
                  | (go_at_call 18; (with_reducible refine (CT.out _ HB9.out).mono ?_); rintro e w5 ⟨v10, rfl, hr10, hb10⟩; obtain ⟨A10, c10, hv10, hrr10⟩ := hr10.row; rw [List.length_reverse] at hv10; subst hv10; have HN9 := Lib.hid (HX9.out.below hb10); have HN10 := Lib.hid hrr10; have HB10 := Lib.hid (HB9.out.trans (hb10.mono HB9.out.size)); clear hr10 hb10 hrr10)
                  | (go_at_call 19; (with_reducible refine (CL.out _ (HB.out.trans (HB11.out.mono HB.out.size))).mono ?_); rintro e w7 ⟨rfl, hb12⟩; have HB12 := Lib.hid (HB11.out.trans (hb12.mono HB11.out.size)); clear hb12)
                  | (go_at_call 21; (with_reducible refine (DK.out _).mono ?_); rintro e w8 ⟨rfl, hb13⟩; have HB13 := Lib.hid (HB12.out.trans (hb13.mono HB12.out.size)); clear hb13))
                go_ret
                exact ⟨rfl, HJ.out.all.trans ((HB.out.trans (HB13.out.mono HB.out.size)).mono HJ.out.all.size)⟩
              · obtain ⟨p, rfl⟩ : ∃ p, m = p + 1 := ⟨m - 1, by omega⟩
                have hpk : p < k := by omega
                have hmm : ((p + 1 : Nat) : Int) - 1 = (p : Int) := by omega
                rw [hmm]
                have hp0 : (0 : Int) ≤ (p : Int) := by omega
                have HST := wn_step (s := s) hpk
                have htm : (p : Int).tmod (s : Int) = ((p % s : Nat) : Int) := by rw [Int.tmod_eq_emod_of_nonneg (by omega)]; omega
                obtain ⟨A5, c5, hv5⟩ := own_slice HR.out.r
                subst hv5
                clear hmm
                by_cases hd : p % s = 0
                · rw [hd] at htm
                  rw [if_neg (by rw [hd]; simp), List.append_nil] at HST
                  have HST := Lib.hid HST
                  have htm : (p : Int).tmod (s : Int) = 0 := htm
                  clear hd
                  go_wp2
                  exact ⟨⟨p, by omega, by go_num, by rw [HST.out]; exact HR.out, HB.out⟩, by simp [intOf]⟩
                · have hq : (((p % s : Nat) : Int) == 0) = false := by rw [beq_eq_false_iff_ne]; omega
                  rw [if_pos hd] at HST
                  have HST := Lib.hid HST
                  obtain ⟨M, hM⟩ : ∃ M, M = zs (wn k s (p + 1)) := ⟨_, rfl⟩
                  have HZ : Hid (zs (wn k s p) = M ++ [(p : Int)]) := by simp only [Hid]; rw [HST.out, hM]; unfold zs; rw [List.map_append]; rfl
                  have HMl : Hid (M.length ≤ 300) := by simp only [Hid]; rw [hM]; unfold zs; rw [List.length_map]; have := wn_len k s (p + 1); omega
                  rw [← hM] at HR
                  have hml : M.length = (zs (wn k s (p + 1))).length := by rw [hM]
                  rw [← hml]
                  clear hM hml
                  have hb3 := (Below.refl wr.heap.size wr).alloc (Nat.le_refl _) (.cells #[.int .i64 (p : Nat)] 3)
                  have HB3 := Lib.hid (HB.out.trans (hb3.mono HB.out.size))
                  have HR3 := Lib.hid (HR.out.below hb3)
                  have HC3 := Lib.hid (cell_one_new wr (.int .i64 (p : Nat)) 3)
                  clear hb3 hd
                  go_wp2_with (refine wp_own 32 3 _ 1 8 Try.underlying32 infoI rfl (by decide) (by decide) rfl (.tmp 55) (.tmp 57) rfl _ _ (ics M) HR3.out.r rfl ⟨wr.heap.size, 0, none⟩ 1 1 [.int .i64 (p : Nat)] rfl rfl HC3.out (fun u hu => by rw [List.mem_singleton] at hu; subst hu; rfl) (by have := HMl.out; omega) ?_; intro v4 w4 hr4 hg4 ho4; have HR4 := Lib.hid (HR3.out.app HB3.out.size hr4 ho4); have HB4 := Lib.hid (HB3.out.grown hg4 HB3.out.size HR.out.n); clear hr4 hg4 ho4)
                  exact ⟨⟨p, by omega, by go_num, by rw [HZ.out]; exact HR4.out, HB4.out⟩, by simp [intOf]⟩
end
end Go.Proofs.Ytfmbogpbhchelaa
