/- ligaturelaw9.TreeAlike, walked: it returns true for all ints. Conditions: the contracts of Prog9. -/
import Derived.Test.YtmbbmgkbhfnchaaUw
import Derived.Test.YtmbbmgkbhfnchaaXa
import Derived.Test.YtmbbmgkbhfnchaaUo
import Derived.Deep.RegionHeld3
namespace Go.Proofs.Ytmbbmgkbhfnchaa
set_option maxRecDepth 100000
set_option linter.unusedVariables false
open Go.ChangeShapes Go.WideShapes Go.ChangeAt Go.RowKit
open Fl (S)
open Val (V cmpV cmpI isB)
def nV (v : Int) : V := ⟨2, false, v, 0, ⟨#[]⟩⟩
def nE (v i : Int) : En := ⟨nV v, i⟩
theorem nV_ok (v : Int) : isB (nV v) = true ∧ (nV v).f < 2 * S := by
  refine ⟨?_, by show (0 : Nat) < 2 * S; unfold S; omega⟩
  unfold isB Val.oddB nV
  simp [Val.textOk, Val.normN_zero]
  exact ⟨rfl, by decide⟩
theorem nE_ok (v i : Int) : EOk (nE v i) := nV_ok v
theorem nV_cmp (v : Int) : cmpV (nV v) (nV v) = 0 := Cmpr.self' Val.cmprV _
/-- I holds the value v with the IDs ks. -/
def Alike (v : Int) (I : List En) (ks : List Int) : Prop := (∀ x, x ∈ I ↔ ∃ i, i ∈ ks ∧ x = nE v i) ∧ I.length = ks.length
section
variable {v : Int} {I : List En} {ks : List Int}
theorem al_has (h : Alike v I ks) (hs : Srt I) (i : Int) : hasE I (nE v i) = decide (i ∈ ks) := by
  rw [Bool.eq_iff_iff, hasE_iff hs (nE_ok v i), h.1, decide_eq_true_iff]
  constructor
  · rintro ⟨j, hj, e⟩
    have : i = j := congrArg En.i e
    rw [this]; exact hj
  · exact fun hi => ⟨i, hi, rfl⟩
theorem al_ins (h : Alike v I ks) (hs : Srt I) (i : Int) : Alike v (insE I (nE v i)) (if i ∈ ks then ks else ks ++ [i]) := by
  have hh := al_has h hs i
  by_cases hi : i ∈ ks
  · rw [if_pos hi]
    rw [decide_eq_true hi] at hh
    unfold insE
    rw [hh]
    exact h
  · rw [if_neg hi]
    rw [decide_eq_false hi] at hh
    refine ⟨fun x => ?_, ?_⟩
    · unfold insE
      rw [hh]
      simp only [Bool.false_eq_true, if_false, List.mem_append, List.mem_cons, List.not_mem_nil, or_false]
      have hm : x ∈ I ↔ x ∈ I.take (atE I (nE v i)) ∨ x ∈ I.drop (atE I (nE v i)) := by
        conv => lhs; rw [← List.take_append_drop (atE I (nE v i)) I]
        exact List.mem_append
      constructor
      · rintro (h1 | h1 | h1)
        · obtain ⟨j, hj, e⟩ := (h.1 x).1 (hm.2 (.inl h1)); exact ⟨j, .inl hj, e⟩
        · exact ⟨i, .inr rfl, h1⟩
        · obtain ⟨j, hj, e⟩ := (h.1 x).1 (hm.2 (.inr h1)); exact ⟨j, .inl hj, e⟩
      · rintro ⟨j, hj | hj, e⟩
        · rcases hm.1 ((h.1 x).2 ⟨j, hj, e⟩) with h1 | h1
          · exact .inl h1
          · exact .inr (.inr h1)
        · subst hj; exact .inr (.inl e)
    · rw [insE_len, hh, List.length_append, h.2]; simp
theorem al_rng (h : Alike v I ks) : rngE I (nV v) (nV v) = I := by
  unfold rngE
  rw [List.filter_eq_self]
  intro x hx
  obtain ⟨i, _, rfl⟩ := (h.1 x).1 hx
  rw [show (nE v i).v = nV v from rfl, nV_cmp]
  rfl
theorem al_at (h : Alike v I ks) {j : Nat} (hj : j < I.length) : I[j].i ∈ ks := by
  obtain ⟨i, hi, e⟩ := (h.1 _).1 (List.getElem_mem hj)
  rw [e]; exact hi
theorem al_up (h : Alike v I ks) (hs : Srt I) {j : Nat} (hj : j + 1 < I.length) : I[j].i < I[j + 1].i := by
  obtain ⟨i, _, e⟩ := (h.1 _).1 (List.getElem_mem (show j < I.length by omega))
  obtain ⟨i2, _, e2⟩ := (h.1 _).1 (List.getElem_mem hj)
  have h1 := (List.pairwise_iff_getElem.1 hs.1) j (j + 1) (by omega) hj (by omega)
  rw [e, e2] at h1 ⊢
  unfold En.cmp at h1
  rw [show (nE v i).v = nV v from rfl, show (nE v i2).v = nV v from rfl, nV_cmp, if_pos rfl] at h1
  show i < i2
  have h2 : cmpI i i2 < 0 := h1
  unfold cmpI at h2
  split at h2
  · assumption
  · split at h2 <;> omega
end
/-- The law's Tree and its map. -/
def AL (PT : (Nat → Prop) → World → Nat → List En → Prop) (w wr : World) (a mb : Nat) (v : Int) (I J : List En) (ks : List Int) : Prop := S9 PT (fun k => k = mb) w wr a J ∧ MB wr mb ks ∧ w.heap.size ≤ mb ∧ Alike v I ks ∧ Srt I
section
variable {PT : (Nat → Prop) → World → Nat → List En → Prop} {w wr w' : World} {a mb : Nat} {v : Int} {I J : List En} {ks : List Int}
theorem AL.below (hP : Prog9 PT) (h : AL PT w wr a mb v I J ks) (hb : Below wr.heap.size wr w') : AL PT w w' a mb v I J ks :=
  ⟨S9.below hP h.1 hb, h.2.1.same (hb.block _ h.2.1.lt), h.2.2⟩
theorem al_add (hP : Prog9 PT) (h : AL PT w wr a mb v I I ks) (i : Int) (hl : I.length ≤ 1000) : Calls Try.prog 11 #[.pointer (some ⟨a, 0, none⟩), ev (nE v i)] wr fun e w' => e = .returned (.bool (!decide (i ∈ ks))) ∧ AL PT w w' a mb v I (insE I (nE v i)) ks := by
  obtain ⟨h1, h2, h3, h4, h5⟩ := h
  refine (s9_add hP h1 (nE v i) (nE_ok v i) (by omega)).mono ?_
  rintro e w' ⟨g1, g2, g3⟩
  rw [al_has h4 h5] at g1
  exact ⟨g1, g2, h2.same (g3.2 _ rfl), h3, h4, h5⟩
theorem al_put (hP : Prog9 PT) {i : Int} (h : AL PT w wr a mb v I (insE I (nE v i)) ks) : ∃ w', (Instr.mapUpdate 54 (.map (some mb)) (.int .i64 i) (.bool true)).run Try.prog wr = .ok () w' ∧ AL PT w w' a mb v (insE I (nE v i)) (insE I (nE v i)) (if i ∈ ks then ks else ks ++ [i]) := by
  obtain ⟨⟨F, f1, f2, f3, f4⟩, h2, h3, h4, h5⟩ := h
  obtain ⟨w', r1, r2, r3⟩ := h2.store i
  have hs := r3.size
  have hs4 := f4.size
  refine ⟨w', r1, ⟨F, hP.same f1 (fun _ h => h) (fun k hk => Nat.lt_of_lt_of_le (hP.lt f1 k hk) hs) (fun k hk => r3.block k (hP.lt f1 k hk) (fun e => (f2 k hk).1 (by injection e))), f2, fun k hk => Nat.lt_of_lt_of_le (f3 k hk) hs, f4.grown r3 hs4 (fun k e => by injection e with e; omega)⟩, r2, h3, al_ins h4 h5 i, insE_srt h5 (nE_ok v i)⟩
theorem al_start (hP : Prog9 PT) {w1 : World} (h : S9 PT noG9 w w1 a []) (v : Int) : AL PT w (w1.alloc (.map #[] 0)) a w1.heap.size v [] [] [] := by
  have hb := (Below.refl w1.heap.size w1).alloc (Nat.le_refl _) (.map #[] 0)
  have hz : (w1.alloc (.map #[] 0)).heap.size = w1.heap.size + 1 := by simp
  obtain ⟨F, f1, f2, f3, f4⟩ := h
  refine ⟨⟨F, hP.same f1 (fun _ h => h) (fun k hk => Nat.lt_of_lt_of_le (hP.lt f1 k hk) hb.size) (fun k hk => hb.block k (hP.lt f1 k hk)), fun k hk => ⟨fun e => ?_, (f2 k hk).2⟩, fun k hk => by omega, f4.trans (hb.mono f4.size)⟩, mb_made w1, f4.size, ⟨fun x => ?_, rfl⟩, Srt.nil⟩
  · have := hP.lt f1 k hk; omega
  · constructor
    · intro h; cases h
    · rintro ⟨i, h, _⟩; cases h
set_option maxHeartbeats 1600000 in
theorem alike9_any (hP : Prog9 PT) {w : World} (A : Option Addr) (l : List Int) (cp : Nat) (hs : SlI .i64 w ⟨A, l, cp⟩) (v : Int) :
    Calls Try.prog 8 #[.slice A l.length cp, .int .i64 v] w fun e w' => e = .returned (.bool true) ∧ Below w.heap.size w w' := by
  have HP := Lib.hid hP
  have HS := Lib.hid hs
  have HNU := Lib.hid (fun W => num_any v W)
  clear hs hP
  by_cases hbig : 100 < l.length
  · have hb2 : (100 : Int) < (l.length : Int) := by omega
    go_enter Try.func8, Try.ntmps8
    go_wp2
    go_ret
    exact ⟨rfl, Below.refl _ _⟩
  · have hb2 : (l.length : Int) ≤ 100 := by omega
    have hlen : l.length ≤ 100 := by omega
    clear hbig
    have HN := Lib.hid (s9_new (G := noG9) HP.out (Below.refl w.heap.size w) (fun k hk => hk.elim))
    have KN := Lib.hid (known9_any HP.out)
    have hmm := run_makeMap (P := Try.prog) 54
    go_enter Try.func8, Try.ntmps8
    go_wp2_with (go_at_call 10; (with_reducible refine HN.out.mono ?_); rintro e w1 ⟨a, rfl, h1, hb1⟩; have H1 := Lib.hid h1; clear h1 hb1)
    have H2 := Lib.hid (al_start HP.out H1.out v)
    generalize w1.alloc (.map #[] 0) = w2 at *
    generalize w1.heap.size = mb at *
    clear HN H1 hmm
    go_loopw [7] (fun i wr => ∃ (k : Nat) (I : List En) (ks : List Int), k ≤ l.length ∧ i = .int .i64 (k : Nat) ∧ Hid (I.length ≤ k) ∧ Hid (AL PT w wr a mb v I I ks)) (fun i _ => l.length - (intOf i).toNat)
    case atStart => exact ⟨0, [], [], Nat.zero_le _, rfl, Nat.le_refl _, H2.out⟩
    case round =>
      obtain ⟨k, I, ks, hk, rfl, HI, HD⟩ := hrel
      by_cases hlt : k < l.length
      · obtain ⟨ad, hA, hc⟩ := (HS.out.below HD.out.1.all) k hlt
        simp only at hA hc
        subst hA
        have HC := Lib.hid (fun W (hW : Below w.heap.size w W) => show W.cell? (ad.add k) = some (.int .i64 l[k]) from by
          obtain ⟨ad2, h1, h2⟩ := (HS.out.below hW) k hlt
          injection h1 with h1
          subst h1
          exact h2)
        generalize l[k] = z at *
        obtain ⟨q, hq⟩ : ∃ q, q = decide (z ∈ ks) := ⟨_, rfl⟩
        have HL := Lib.hid (fun W (h : MB W mb ks) => show (Instr.lookup 54 (.map (some mb)) (.int .i64 z) false).run Try.prog W = .ok (.bool q) W from by rw [hq]; exact h.look z)
        have HIL := Lib.hid (show I.length ≤ 100 by have := HI.out; omega)
        have C1 := Lib.hid (fun W (h : AL PT w W a mb v I I ks) => show Calls Try.prog 11 #[.pointer (some ⟨a, 0, none⟩), ev ⟨⟨2, false, v, 0, ⟨#[]⟩⟩, z⟩] W (fun e w' => e = .returned (.bool (!q)) ∧ AL PT w w' a mb v I (insE I (nE v z)) ks) from by have := al_add HP.out h z (by have := HIL.out; omega); rw [← hq] at this; exact this)
        have C2 := Lib.hid (fun W (h : AL PT w W a mb v I (insE I (nE v z)) ks) => al_put HP.out h)
        have HJ := Lib.hid (show (insE I (nE v z)).length ≤ I.length + 1 from by rw [insE_len]; split <;> omega)
        clear hq hc
        go_upto_region 10 with fail
        have hd := HD.out.below HP.out (Below.refl wr.heap.size wr).drew
        have HD0 := Lib.hid hd
        have hS0 := And.intro (HC.out _ hd.1.all) (HL.out _ hd.2.1)
        clear hd
        go_region_held3 (fun W => W.cell? (ad.add k) = some (.int .i64 z) ∧ (Instr.lookup 54 (.map (some mb)) (.int .i64 z) false).run Try.prog W = .ok (.bool q) W) (first | exact hS0 | exact hS3 | exact hS4)
          (first
            | (go_at_call 11; (with_reducible refine (C1.out _ H3.out).mono ?_); rintro e w4 ⟨rfl, h4⟩; have H4 := Lib.hid h4; have hS4 := And.intro (HC.out _ h4.1.all) (HL.out _ h4.2.1); clear h4)
            | (go_at_call 27; (with_reducible refine (HNU.out _).mono ?_); rintro e w3 ⟨rfl, hb⟩; have h3 := HD0.out.below HP.out hb; have H3 := Lib.hid h3; have hS3 := And.intro (HC.out _ h3.1.all) (HL.out _ h3.2.1); clear h3 hb))
        all_goals
          obtain ⟨kc, _⟩ := hS4
          obtain ⟨w5, hrun, h5⟩ := C2.out _ H4.out
          have H5 := Lib.hid h5
          clear hS0 hS3 h5
          go_wp2
          exact ⟨⟨k + 1, _, _, by omega, by go_num, (by simp only [Hid]; have h1 := HJ.out; have h2 := HI.out; omega), H5.out⟩, by simp [intOf]; omega⟩
      · have HIL := Lib.hid (show I.length ≤ 100 by have := HI.out; omega)
        have HRG := Lib.hid (fun W (hb : Below wr.heap.size wr W) => show Calls Try.prog 22 #[.pointer (some ⟨a, 0, none⟩), vv ⟨2, false, v, 0, ⟨#[]⟩⟩, vv ⟨2, false, v, 0, ⟨#[]⟩⟩] W (fun e w' => ∃ A c, e = .returned (.slice A I.length c) ∧ ERow w' A I ∧ Below W.heap.size W w') from by
          have h := s9_range HP.out (HD.out.below HP.out hb).1 (nV v) (nV v) (nV_ok v).1 (nV_ok v).2 (nV_ok v).1 (nV_ok v).2 (by have := HIL.out; omega)
          rw [al_rng HD.out.2.2.2.1] at h
          exact h)
        have HLN := Lib.hid (fun W (hb : Below wr.heap.size wr W) => s9_len HP.out (HD.out.below HP.out hb).1 (by have := HIL.out; omega))
        have HML := Lib.hid (fun W (hb : Below wr.heap.size wr W) => show ∀ ty, (Builtin.len_ #[54] ty #[.map (some mb)]).run Try.prog W = .ok (.int .i64 (I.length : Nat)) W from fun ty => by have := (HD.out.below HP.out hb).2.1.len ty; rw [← HD.out.2.2.2.1.2] at this; exact this)
        have HLK := Lib.hid (fun W (hb : Below wr.heap.size wr W) j (hj : j < I.length) => show (Instr.lookup 54 (.map (some mb)) (.int .i64 I[j].i) false).run Try.prog W = .ok (.bool true) W from by have := (HD.out.below HP.out hb).2.1.look I[j].i; rw [decide_eq_true (al_at HD.out.2.2.2.1 hj)] at this; exact this)
        have HUP := Lib.hid (fun j (hj : j + 1 < I.length) => al_up HD.out.2.2.2.1 HD.out.2.2.2.2 hj)
        have hend : ¬ k < l.length := hlt
        go_wp2_with (first
          | (go_at_call 22; (with_reducible refine (HRG.out _ B4.out).mono ?_); rintro e w5 ⟨A5, c5, rfl, hr, hb⟩; have R5 := Lib.hid hr; have B5 := Lib.hid (bnext B4.out hb); clear hr hb)
          | (go_at_call 27; have _ := B3; (with_reducible refine (HNU.out _).mono ?_); rintro e w4 ⟨rfl, hb⟩; have B4 := Lib.hid (bnext B3.out hb); clear hb)
          | (go_at_call 27; (with_reducible refine (HNU.out _).mono ?_); rintro e w3 ⟨rfl, hb⟩; have B3 := Lib.hid hb; clear hb))
        clear HRG HNU H2
        go_loopw [9] (fun i wx => ∃ j : Nat, j ≤ I.length ∧ i = .int .i64 (j : Nat) ∧ Hid (Below w5.heap.size w5 wx)) (fun i _ => I.length - (intOf i).toNat)
        case atStart => exact ⟨0, Nat.zero_le _, rfl, Below.refl _ _⟩
        case round =>
          obtain ⟨j, hj, rfl, HX⟩ := hrel
          by_cases hjl : j < I.length
          · have HB6 := Lib.hid (bnext B5.out HX.out)
            obtain ⟨ad, pk, hA, hp, he⟩ := (R5.out.below HX.out) j hjl
            subst hA
            have c5 := he.c5
            have hlk := fun n => HLK.out (wr.drewN n) (below_drewN HB6.out n) j hjl
            have hi5 : IntKind.i64.wrap (j : Int) = (j : Int) := wrapI (by have := HIL.out; omega)
            have hi0 : (0 : Int) ≤ (j : Int) := by omega
            cases j with
            | zero => as_aux_lemma =>
              generalize I[0].i = z at *
              clear he HLK HUP HML HLN
              go_upto_region 17 with fail
              go_quiet (fail)
              go_wp2
              exact ⟨⟨1, by omega, by go_num, below_drewN HX.out _⟩, by simp [intOf]; omega⟩
            | succ m => as_aux_lemma =>
              obtain ⟨ad2, pk2, hA2, hp2, he2⟩ := (R5.out.below HX.out) m (by omega)
              injection hA2 with hA2
              subst hA2
              have d5 := he2.c5
              have hup := HUP.out m hjl
              have hm100 : m ≤ 100 := by have := HIL.out; omega
              have hj1 : IntKind.i64.wrap (m : Int) = (m : Int) := wrapI (by have := HIL.out; omega)
              have hj0 : (0 : Int) ≤ (m : Int) := by omega
              generalize I[m + 1].i = z at *
              generalize I[m].i = y at *
              have hzy : ¬ z ≤ y := by omega
              clear he he2 hup HLK HUP HML HLN
              go_upto_region 17 with fail
              go_quiet (fail)
              clear hi5 hj1
              go_wp2
              exact ⟨⟨m + 2, by omega, by go_num, below_drewN HX.out _⟩, by simp [intOf]; omega⟩
          · as_aux_lemma =>
            obtain rfl : j = I.length := by omega
            have HB6 := Lib.hid (bnext B5.out HX.out)
            have hml := HML.out _ HB6.out
            have HL6 := Lib.hid (HLN.out _ HB6.out)
            clear hend
            go_wp2_with (first
              | (go_at_call 20; (with_reducible refine (KN.out _).mono ?_); rintro e w8 ⟨rfl, hb⟩; have B8 := Lib.hid (bnext B7.out hb); clear hb)
              | (go_at_call 18; (with_reducible refine HL6.out.mono ?_); rintro e w7 ⟨rfl, hb⟩; have B7 := Lib.hid (bnext HB6.out hb); have hml2 := HML.out _ B7.out; clear hb))
            go_ret
            exact ⟨rfl, bnext HD.out.1.all B8.out⟩
end
end Go.Proofs.Ytmbbmgkbhfnchaa
