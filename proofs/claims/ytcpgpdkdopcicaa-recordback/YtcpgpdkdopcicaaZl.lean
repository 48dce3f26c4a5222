/- The walk of the law RecordReals of chapter 10. Condition: the arguments are words of 64 bits. -/
import Derived.Test.YtcpgpdkdopcicaaZr
namespace Go.Proofs.Ytcpgpdkdopcicaa
set_option maxRecDepth 100000
set_option linter.unusedVariables false
open Go.ChangeShapes Go.WideShapes Go.ChangeAt Go.RowKit
open Fl (S cmpK keyN normN)
open Val (V cmpV isB ltT)
open Lb
def rlP (f : Nat) : Pr := ⟨⟨#[120]⟩, ⟨3, false, 0, f, ⟨#[]⟩⟩⟩
def rlN (f : Nat) : Nd := ⟨[], [rlP f]⟩
def rlE (f : Nat) : Eg := ⟨1, 1, ⟨#[101]⟩, f⟩
def rlW (f x : Nat) : List Wr := [⟨false, 1, false, rlN x, zE⟩, ⟨true, 1, false, zN, rlE f⟩]
theorem rlV_is (f : Nat) (h : normN f = f) : isB ⟨3, false, 0, f, ⟨#[]⟩⟩ = true := by
  rw [Val.isB3, h]; simp [Val.blankB]; rfl
theorem rlN_ok (f : Nat) (h : normN f = f) : nodeB (rlN f) = true := by
  unfold nodeB rlN
  have e : (List.range 1).all (prpB [rlP f]) = true := by
    simp [List.range_succ, prpB, rlP, rlV_is f h]
    decide +kernel
  show ((List.range 0).all _ && (List.range 1).all (prpB [rlP f]) && _) = true
  rw [e]; rfl
theorem rlE_eq (f : Nat) : edgeB (rlE f) = geW f := by
  show (decide ((1 : Int) ≤ 1) && decide ((1 : Int) ≤ 24) && decide ((1 : Int) ≤ 1) && decide ((1 : Int) ≤ 24) && nameB ⟨#[101]⟩ && geW f) = _
  rw [show nameB ⟨#[101]⟩ = true by decide +kernel]
  simp
theorem rl_may (f x : Nat) (h : normN x = x) (hf : geW f = true) : mayB 1 1 (rlW f x) = true := by
  have hz : zeroE zE = true := by decide +kernel
  have he : emptyN zN = true := by decide +kernel
  have hn := rlN_ok x h
  have hg : edgeB (rlE f) = true := by rw [rlE_eq, hf]
  have w0 : writeB 1 1 ⟨false, 1, false, rlN x, zE⟩ = true := by unfold writeB; simp [hz, hn]
  have w1 : writeB 1 1 ⟨true, 1, false, zN, rlE f⟩ = true := by unfold writeB; simp [he, hg]
  unfold mayB
  show (_ && (List.range 2).all (mayW 1 1 (rlW f x))) = true
  have e : (List.range 2).all (mayW 1 1 (rlW f x)) = (mayW 1 1 (rlW f x) 0 && mayW 1 1 (rlW f x) 1) := by simp [List.range_succ]
  rw [e]
  have m0 : mayW 1 1 (rlW f x) 0 = true := by unfold mayW rlW; simp [w0]
  have m1 : mayW 1 1 (rlW f x) 1 = true := by unfold mayW rlW; simp [w1, twinB]
  rw [m0, m1]; rfl
theorem rl_in (f x : Nat) (hf : f < 2 * S) (hx : x < 2 * S) : ∀ y ∈ rlW f x, WOk y ∧ WrIn y := by
  intro y hy
  simp [rlW] at hy
  have z : (0 : Nat) ≤ maxLen := Nat.zero_le _
  have o1 : (1 : Nat) ≤ maxLen := by decide
  rcases hy with rfl | rfl
  · refine ⟨⟨⟨by simp [rlN], by simp [rlN], (fun x hx => by simp [rlN] at hx), fun p hp => ?_⟩, z⟩, ?_, by simp [In64], zE_in⟩
    · simp [rlN] at hp; subst hp; exact ⟨o1, z⟩
    · intro p hp; simp [rlN] at hp; subst hp; exact ⟨by simp [rlP, In64], hx⟩
  · exact ⟨⟨ok_zero, o1⟩, zN_in, by simp [In64], by simp [rlE, In64], by simp [rlE, In64], hf⟩
theorem decP_enc {nn ne : Int} {l : List Wr} (h : mayB nn ne l = true) (hi : ∀ x ∈ l, WrIn x) {e : Ending} {w' : World} (hd : DecP (encA nn ne l) e w') : ∃ A c L, e = .returned (.tuple #[.int .i64 nn, .int .i64 ne, .slice A L.length c, .int .i64 0]) ∧ L.map (·.1) = l ∧ WRow w' A L := by
  unfold DecP at hd
  rw [decB_enc true h hi] at hd
  exact hd
set_option maxHeartbeats 4000000 in
theorem reals10_any (a b : Nat) (ha : a < 2 * S) (hb : b < 2 * S) (w : World) : Calls Try.prog 6 #[.int .u64 (a : Nat), .int .u64 (b : Nat)] w fun e w' => e = .returned (.bool true) ∧ Below w.heap.size w w' := by
  have HKN := Lib.hid (fun W => known10_any W)
  have HNM := Lib.hid (fun W => rnorm_any b W)
  have hx := Fl.normN_normN b
  have hxl := Fl.normN_lt b hb
  obtain ⟨x, hxe⟩ : ∃ x, normN b = x := ⟨_, rfl⟩
  rw [hxe] at hx hxl HNM
  clear hxe
  have HED := Lib.hid (fun W => pedge_any (rlE a) (by show (1 : Nat) ≤ maxLen; decide) W)
  rw [rlE_eq] at HED
  obtain ⟨V, hV⟩ : ∃ V, V = ((w.alloc (.cells #[.string ⟨#[120]⟩, .int .i64 3, .bool false, .int .i64 0, .float .f64 x, .string ⟨#[]⟩] 55)).alloc (.cells #[.slice none 0 0, .slice (some ⟨w.heap.size, 0, none⟩) 1 1] 42)).alloc (.cells #[.int .i64 1, .int .i64 1, .string ⟨#[101]⟩, .float .f64 a] 45) := ⟨_, rfl⟩
  have z1 : (w.alloc (.cells #[.string ⟨#[120]⟩, .int .i64 3, .bool false, .int .i64 0, .float .f64 x, .string ⟨#[]⟩] 55)).heap.size = w.heap.size + 1 := by simp
  have z2 : ((w.alloc (.cells #[.string ⟨#[120]⟩, .int .i64 3, .bool false, .int .i64 0, .float .f64 x, .string ⟨#[]⟩] 55)).alloc (.cells #[.slice none 0 0, .slice (some ⟨w.heap.size, 0, none⟩) 1 1] 42)).heap.size = w.heap.size + 1 + 1 := by simp
  have b0 : BX V w.heap.size 55 #[.string ⟨#[120]⟩, .int .i64 3, .bool false, .int .i64 0, .float .f64 x, .string ⟨#[]⟩] := by rw [hV]; exact ((bx_new w _ _).below (one_box _ _)).below (one_box _ _)
  have b1 : BX V (w.heap.size + 1) 42 #[.slice none 0 0, .slice (some ⟨w.heap.size, 0, none⟩) 1 1] := by rw [hV, ← z1]; exact (bx_new _ _ _).below (one_box _ _)
  have b2 : BX V (w.heap.size + 1 + 1) 45 #[.int .i64 1, .int .i64 1, .string ⟨#[101]⟩, .float .f64 a] := by rw [hV, ← z2]; exact bx_new _ _ _
  have hal : Below w.heap.size w V := by rw [hV]; exact bnext (bnext (one_box w _) (one_box _ _)) (one_box _ _)
  have HAL := Lib.hid hal
  have HBX := Lib.hid (fun W (hW : Below V.heap.size V W) => And.intro (b0.below hW) (And.intro (b1.below hW) (b2.below hW)))
  have HAT := Lib.hid (fun W (hW : Below V.heap.size V W) => show NdAt W (rlN x) ⟨none, 0, some ⟨w.heap.size, 0, none⟩, 1⟩ from ⟨fun k hk => absurd hk (by simp [rlN]), fun k hk => by
    have hk0 : k = 0 := by simp [rlN] at hk; exact hk
    subst hk0
    have q := b0.below hW
    exact ⟨_, ⟨w.heap.size, 0, none⟩, rfl, by rw [Addr.add_lit], ⟨(q.cell 0).trans rfl, (q.cell 1).trans rfl, (q.cell 2).trans rfl, (q.cell 3).trans rfl, (q.cell 4).trans rfl, (q.cell 5).trans rfl⟩⟩⟩)
  have hin := rl_in a x ha hxl
  have HND := Lib.hid (fun W (hW : Below V.heap.size V W) => pnode_any (rlN x) ⟨none, 0, some ⟨w.heap.size, 0, none⟩, 1⟩ W (HAT.out W hW) (hin ⟨false, 1, false, rlN x, zE⟩ (by simp [rlW])).1.n)
  rw [rlN_ok x hx] at HND
  clear z1 z2 b0 b1 b2 hal
  go_enter Try.func6, Try.ntmps6
  go_upto_region 4 with (go_at_call 19; (with_reducible refine (HNM.out _).mono ?_); rintro e w1 ⟨rfl, rfl⟩)
  rw [← hV]
  clear hV HNM
  obtain ⟨p0, p1, p2⟩ := HBX.out V (Below.refl _ _)
  have e0 := p1.cell 0; have e1 := p1.cell 1
  have f0 := p2.cell 0; have f1 := p2.cell 1; have f2 := p2.cell 2; have f3 := p2.cell 3
  simp only [List.getElem?_toArray, List.getElem?_cons_zero, List.getElem?_cons_succ] at e0 e1 f0 f1 f2 f3
  clear p0 p1 p2
  have hge : (FloatKind.f64.format.order a 0 == some .gt || FloatKind.f64.format.order a 0 == some .eq) = geW a := rfl
  cases hg : geW a with
  | false =>
    rw [hg] at HED hge
    clear hg hin HAT
    unfold rlE at HED
    unfold rlN at HND
    go_wp2_with fail
    refine (HED.out _).mono ?_
    rintro e w2 ⟨rfl, hb2⟩
    have B2 := Lib.hid hb2
    obtain ⟨q0, q1, q2⟩ := HBX.out _ hb2
    have g0 := q1.cell 0; have g1 := q1.cell 1
    simp only [List.getElem?_toArray, List.getElem?_cons_zero, List.getElem?_cons_succ] at g0 g1
    clear q0 q1 q2 hb2
    go_wp2_with fail
    refine (HND.out _ B2.out).mono ?_
    rintro e w3 ⟨rfl, hb3⟩
    have B3 := Lib.hid (bnext HAL.out (bnext B2.out hb3))
    clear hb3
    go_wp2_with fail
    refine (HKN.out _).mono ?_
    rintro e w4 ⟨rfl, hb4⟩
    have B4 := Lib.hid (bnext B3.out hb4)
    clear hb4
    go_wp2
    go_ret
    exact ⟨rfl, B4.out⟩
  | true =>
    have hmay := rl_may a x hx hg
    rw [hg] at HED hge
    have HEN := Lib.hid (fun W (hW : Below V.heap.size V W) => show Calls Try.prog 11 #[.int .i64 1, .int .i64 1, .slice (some ⟨W.heap.size, 0, none⟩) 2 2] (W.alloc (.cells #[.bool false, .int .i64 1, .bool false, .slice none 0 0, .slice (some ⟨w.heap.size, 0, none⟩) 1 1, .int .i64 0, .int .i64 0, .string ⟨#[]⟩, .float .f64 0, .bool true, .int .i64 1, .bool false, .slice none 0 0, .slice none 0 0, .int .i64 1, .int .i64 1, .string ⟨#[101]⟩, .float .f64 a] 47)) (fun e w' => EncP (W.alloc (.cells #[.bool false, .int .i64 1, .bool false, .slice none 0 0, .slice (some ⟨w.heap.size, 0, none⟩) 1 1, .int .i64 0, .int .i64 0, .string ⟨#[]⟩, .float .f64 0, .bool true, .int .i64 1, .bool false, .slice none 0 0, .slice none 0 0, .int .i64 1, .int .i64 1, .string ⟨#[101]⟩, .float .f64 a] 47)).heap.size 1 1 (rlW a x) e w' ∧ Below W.heap.size W w') from by
      have hal := one_box W (.cells #[.bool false, .int .i64 1, .bool false, .slice none 0 0, .slice (some ⟨w.heap.size, 0, none⟩) 1 1, .int .i64 0, .int .i64 0, .string ⟨#[]⟩, .float .f64 0, .bool true, .int .i64 1, .bool false, .slice none 0 0, .slice none 0 0, .int .i64 1, .int .i64 1, .string ⟨#[101]⟩, .float .f64 a] 47)
      have hrow : WRow (W.alloc (.cells #[.bool false, .int .i64 1, .bool false, .slice none 0 0, .slice (some ⟨w.heap.size, 0, none⟩) 1 1, .int .i64 0, .int .i64 0, .string ⟨#[]⟩, .float .f64 0, .bool true, .int .i64 1, .bool false, .slice none 0 0, .slice none 0 0, .int .i64 1, .int .i64 1, .string ⟨#[101]⟩, .float .f64 a] 47)) (some ⟨W.heap.size, 0, none⟩) [((⟨false, 1, false, rlN x, zE⟩ : Wr), (⟨none, 0, some ⟨w.heap.size, 0, none⟩, 1⟩ : Ns)), (⟨true, 1, false, zN, rlE a⟩, zS)] := by
        have h1 := World.ownsRow_lit (base := 0) (e := 47) (size := 9) W #[.bool false, .int .i64 1, .bool false, .slice none 0 0, .slice (some ⟨w.heap.size, 0, none⟩) 1 1, .int .i64 0, .int .i64 0, .string ⟨#[]⟩, .float .f64 0, .bool true, .int .i64 1, .bool false, .slice none 0 0, .slice none 0 0, .int .i64 1, .int .i64 1, .string ⟨#[101]⟩, .float .f64 a] 2 (Nat.zero_le _) (by unfold maxLen; omega) rfl
        refine wrow_own (c := 2) ?_ (fun y hy => ?_)
        · have hcs : wcs [((⟨false, 1, false, rlN x, zE⟩ : Wr), (⟨none, 0, some ⟨w.heap.size, 0, none⟩, 1⟩ : Ns)), (⟨true, 1, false, zN, rlE a⟩, zS)] = (#[.bool false, .int .i64 1, .bool false, .slice none 0 0, .slice (some ⟨w.heap.size, 0, none⟩) 1 1, .int .i64 0, .int .i64 0, .string ⟨#[]⟩, .float .f64 0, .bool true, .int .i64 1, .bool false, .slice none 0 0, .slice none 0 0, .int .i64 1, .int .i64 1, .string ⟨#[101]⟩, .float .f64 a] : Array Value).toList := by simp [wcs, rlN, rlE, zN, zE, zS]
          rw [hcs]
          exact h1
        · simp at hy
          rcases hy with rfl | rfl
          · exact (HAT.out W hW).below hal
          · exact nd_zero _
      have h2 := penc_any 1 1 (some ⟨W.heap.size, 0, none⟩) 2 _ _ hrow (fun y hy => by simp at hy; rcases hy with rfl | rfl; exact (hin _ (by simp [rlW])).1; exact (hin _ (by simp [rlW])).1) (fun y hy => by simp at hy; rcases hy with rfl | rfl; exact (hin _ (by simp [rlW])).2; exact (hin _ (by simp [rlW])).2) (by simp)
      exact h2.mono fun e w' ⟨h3, h4⟩ => ⟨h3, bnext hal h4⟩)
    have HEP : Hid (∀ B e w', EncP B 1 1 (rlW a x) e w' → ∃ A c, e = .returned (.tuple #[.slice A (encA 1 1 (rlW a x)).length c, .int .i64 0]) ∧ Own B w' (.slice A (encA 1 1 (rlW a x)).length c) (encA 1 1 (rlW a x)) ∧ (encA 1 1 (rlW a x)).length ≤ 15000) := by
      intro B e w' h
      unfold EncP at h
      rw [if_pos hmay] at h
      exact h
    have HDP := Lib.hid (fun e w' (h : DecP (encA 1 1 (rlW a x)) e w') => decP_enc hmay (fun y hy => (hin y hy).2) h)
    generalize encA 1 1 (rlW a x) = en at *
    clear hg hin HAT hmay
    unfold rlE at HED
    unfold rlN at HND
    go_wp2_with fail
    refine (HED.out _).mono ?_
    rintro e w2 ⟨rfl, hb2⟩
    have B2 := Lib.hid hb2
    obtain ⟨q0, q1, q2⟩ := HBX.out _ hb2
    have g0 := q1.cell 0; have g1 := q1.cell 1
    simp only [List.getElem?_toArray, List.getElem?_cons_zero, List.getElem?_cons_succ] at g0 g1
    clear q0 q1 q2 hb2
    go_wp2_with fail
    refine (HND.out _ B2.out).mono ?_
    rintro e w3 ⟨rfl, hb3⟩
    have B3 := Lib.hid (bnext B2.out hb3)
    obtain ⟨q0, q1, q2⟩ := HBX.out _ B3.out
    have i0 := q1.cell 0; have i1 := q1.cell 1
    have j0 := q2.cell 0; have j1 := q2.cell 1; have j2 := q2.cell 2; have j3 := q2.cell 3
    simp only [List.getElem?_toArray, List.getElem?_cons_zero, List.getElem?_cons_succ] at i0 i1 j0 j1 j2 j3
    clear q0 q1 q2 hb3
    go_wp2_with fail
    refine (HEN.out _ B3.out).mono ?_
    rintro e w4 ⟨hp, hb4⟩
    obtain ⟨A, c, rfl, ho, hle⟩ := HEP.out _ _ _ hp
    obtain ⟨A1, c1, e1, hbs, _⟩ := ho.open
    injection e1 with e1 _ e2
    subst e1
    subst e2
    have HDC := Lib.hid (pdec_any A en c w4 hbs (by omega))
    have B4 := Lib.hid (bnext (bnext HAL.out B3.out) hb4)
    clear hp ho hbs hb4
    go_wp2_with fail
    refine HDC.out.mono ?_
    rintro e w5 ⟨hd, hb5⟩
    obtain ⟨A2, c2, L, rfl, hL, hrow⟩ := HDP.out _ _ hd
    have B5 := Lib.hid (bnext B4.out hb5)
    clear hd hb5
    match L, hL, hrow with
    | [(x0, s0), (x1, s1)], hL, hrow =>
      simp only [List.map_cons, List.map_nil, rlW, List.cons.injEq, and_true] at hL
      obtain ⟨rfl, rfl⟩ := hL
      obtain ⟨ad, pk, rfl, hpk, hw, hn⟩ := hrow 0 (by simp)
      obtain ⟨ad2, pk2, e2, hpk2, hw2, _⟩ := hrow 1 (by simp)
      injection e2 with e2
      subst e2
      obtain ⟨ad3, pk3, hs0, hpk3, hpp⟩ := hn.r2 0 (by simp [rlN])
      have e0 : pk = ad := by rw [← hpk]; exact Addr.add_zero' ad
      have e3 : pk3 = ad3 := by rw [← hpk3]; exact Addr.add_zero' ad3
      have e2 : pk2 = ⟨ad.block, ad.off + 9, none⟩ := by rw [← hpk2]; exact addr_pos ad (1 * 9) (by omega)
      subst e0
      subst e3
      subst e2
      have k4 : w5.cell? ⟨pk.block, pk.off + 4, none⟩ = some (.slice s0.pa 1 s0.pc) := hw.c4
      have hs1 : s0.pa = some pk3 := hs0
      rw [hs1] at k4
      have k5 : w5.cell? ⟨pk3.block, pk3.off + 4, none⟩ = some (.float .f64 x) := hpp.c4
      have k8 : w5.cell? ⟨pk.block, pk.off + 9 + 8, none⟩ = some (.float .f64 a) := hw2.c8
      have k4b : w5.cell? ⟨pk.block, pk.off + 3 + 1, none⟩ = some (.slice (some pk3) 1 s0.pc) := k4
      have k5b : w5.cell? ⟨pk3.block, pk3.off + 1 + 3, none⟩ = some (.float .f64 x) := k5
      have k8b : w5.cell? ⟨pk.block, pk.off + 9 + 5 + 3, none⟩ = some (.float .f64 a) := k8
      have HS1 := Lib.hid (fun W => same_any x x W)
      have HS2 := Lib.hid (fun W => same_any a a W)
      rw [show sameB x x = true by unfold sameB; simp] at HS1
      rw [show sameB a a = true by unfold sameB; simp] at HS2
      clear hpk hpk2 hpk3 hw hw2 hn hpp hrow hs0 hs1
      simp only [List.length_cons, List.length_nil]
      go_wp2_with (first
        | (go_at_call 16; refine (HKN.out _).mono ?_; rintro e w6 ⟨rfl, hb6⟩; have B6 := Lib.hid (bnext B5.out hb6); clear hb6)
        | (go_at_call 22; (first | (with_reducible refine (HS1.out _).mono ?_) | (with_reducible refine (HS2.out _).mono ?_)); rintro e w6 ⟨rfl, rfl⟩))
      go_ret
      exact ⟨rfl, B6.out⟩
end Go.Proofs.Ytcpgpdkdopcicaa
