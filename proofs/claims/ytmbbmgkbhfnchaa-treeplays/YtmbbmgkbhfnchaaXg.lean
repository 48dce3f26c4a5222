/- join and del of the program's nodes. Conditions: the nodes lie in memory, apart from one another, sorted; the entries are valid; depths are small. -/
import Derived.Test.YtmbbmgkbhfnchaaXf
namespace Go.Proofs.Ytmbbmgkbhfnchaa
set_option maxRecDepth 100000
set_option linter.unusedVariables false
open Go.ChangeShapes Go.WideShapes Go.ChangeAt Go.RowKit
open Fl (S)
open Val (V cmpV cmpI isB)
/-- What del makes of a tree of depth d. -/
def DelP (w : World) (d : Nat) (B : List Nat) (L : List En) (x : En) (e : Ending) (w' : World) : Prop := ∃ p' d' B', e = .returned (.tuple #[po p', .bool (hasE L x)]) ∧ TN w' d' p' B' (delE L x) ∧ B'.Nodup ∧ d ≤ d' + 1 ∧ d' ≤ d ∧ (∀ k, k ∈ B' → k ∈ B) ∧ Chg (fun k => k ∈ B) w w'
section
variable {w w' w2 : World} {b : Nat} {y : En} {l r p p2 : Option Nat} {d dl dr d0 d2 : Nat} {Bl Br B B2 : List Nat} {Ll Lr L L2 : List En}
theorem join_end {c : Nat} {z : En} {gl gr p2 : Option Nat} (hl : TN w dl l Bl Ll) (hn : (Bl ++ Br).Nodup) (h1 : dl ≤ 200000) (h2 : dr ≤ 200000) (h3 : dl ≤ dr + 1) (h4 : dr ≤ dl + 1) (hd1 : dr ≤ d2 + 1) (hd2 : d2 ≤ dr)
    (e1 : Br = c :: B2) (e2 : Lr = z :: L2) (ht : TN w2 d2 p2 B2 L2) (hg : NA w2 c z gl gr d0) (hch : Chg (fun k => k ∈ Br) w w2) : Calls Try.prog 39 #[pt c] ((w2.setCell ⟨c, 6, none⟩ (po l)).setCell ⟨c, 7, none⟩ (po p2)) (JoinP w (max dl dr) (Bl ++ Br) (Ll ++ Lr)) := by
  subst e1; subst e2
  obtain ⟨n1, n2, n3, n4, n5⟩ := nodup_mid hn
  have hs : ∀ k, k ≠ c → ((w2.setCell ⟨c, 6, none⟩ (po l)).setCell ⟨c, 7, none⟩ (po p2)).heap[k]? = w2.heap[k]? := fun k hk => (heap_setCell_other _ ⟨c, 7, none⟩ k (po p2) hk).trans (heap_setCell_other w2 ⟨c, 6, none⟩ k (po l) hk)
  have hl2 := (hl.chg hch (fun k h5 h6 => by
    rcases List.mem_cons.1 h6 with rfl | h6
    · exact n3 h5
    · exact n5 k h5 h6)).same (w' := (w2.setCell ⟨c, 6, none⟩ (po l)).setCell ⟨c, 7, none⟩ (po p2)) (fun k hk => hs k (fun e => n3 (e ▸ hk)))
  have ht2 := ht.same (w' := (w2.setCell ⟨c, 6, none⟩ (po l)).setCell ⟨c, 7, none⟩ (po p2)) (fun k hk => hs k (fun e => n4 (e ▸ hk)))
  have hc2 : Chg (fun k => k ∈ Bl ++ c :: B2) w ((w2.setCell ⟨c, 6, none⟩ (po l)).setCell ⟨c, 7, none⟩ (po p2)) := chg_set (F := fun k => k ∈ Bl ++ c :: B2) (chg_set (F := fun k => k ∈ Bl ++ c :: B2) (hch.weak (fun k h => List.mem_append_right _ h)) (by simp) _ _) (by simp) _ _
  refine (balance_any ((hg.setL l).setR p2) hl2 ht2 hn (by omega) (by omega) (by omega) (by omega)).mono ?_
  rintro e w' ⟨p', d', rfl, t1, t2, t3, t4, t5⟩
  refine ⟨p', d', rfl, t1, ?_, ?_, hc2.then t5⟩
  · by_cases hx : dl ≤ d2 + 1 ∧ d2 ≤ dl + 1
    · have := t4 hx; omega
    · omega
  · by_cases hx : dl ≤ d2 + 1 ∧ d2 ≤ dl + 1
    · have := t4 hx; omega
    · omega
theorem join_any (hl : TN w dl l Bl Ll) (hr : TN w dr r Br Lr) (hn : (Bl ++ Br).Nodup) (h1 : dl ≤ 200000) (h2 : dr ≤ 200000) (h3 : dl ≤ dr + 1) (h4 : dr ≤ dl + 1) : Calls Try.prog 41 #[po l, po r] w (JoinP w (max dl dr) (Bl ++ Br) (Ll ++ Lr)) := by
  have HL := Lib.hid hl
  have HN := Lib.hid hn
  have HD : Hid (dl ≤ 200000 ∧ dr ≤ 200000 ∧ dl ≤ dr + 1 ∧ dr ≤ dl + 1) := ⟨h1, h2, h3, h4⟩
  cases r with
  | none =>
    obtain ⟨rfl, rfl, rfl⟩ := hr.nil
    clear hl hr hn h1 h2 h3 h4
    rw [po_none]
    go_enter Try.func41, Try.ntmps41
    go_wp2
    go_ret
    exact ⟨l, dl, rfl, by rw [List.append_nil, List.append_nil]; exact HL.out, by omega, by omega, Chg.refl _ _⟩
  | some b =>
    have HC := Lib.hid (cut_any dr w b Br Lr hr (List.nodup_append.1 hn).2.1 h2)
    clear hl hr hn h1 h2 h3 h4
    rw [po_some]
    go_enter Try.func41, Try.ntmps41
    go_wp2_with (first
      | (go_at_call 39; (with_reducible refine (HJ.out).mono ?_); rintro e w4 ⟨p4, d4, rfl, h4⟩; have H4 := Lib.hid h4; clear h4)
      | (go_at_call 51; (with_reducible refine (HC.out).mono ?_); rintro e w2 ⟨p2, d2, g, B2, z, L2, gl, gr, d0, rfl, e1, e2, ht, hd1, hd2, hg, hch⟩; have HJ := Lib.hid (join_end HL.out HN.out HD.out.1 HD.out.2.1 HD.out.2.2.1 HD.out.2.2.2 hd1 hd2 e1 e2 ht hg hch); obtain ⟨_, _, _, _, _, _, q6, q7, _, qf⟩ := hg.cells; clear e1 e2 ht hd1 hd2 hg hch))
    go_ret
    exact ⟨p4, d4, rfl, H4.out⟩
theorem del_nil (x : En) (w : World) : Calls Try.prog 30 #[po none, ev x] w (DelP w 0 [] [] x) := by
  obtain ⟨⟨k, b, n, f, t⟩, i⟩ := x
  rw [po_none]
  go_enter Try.func30, Try.ntmps30
  go_wp2
  go_ret2
  exact ⟨none, 0, [], rfl, tn_none _, List.nodup_nil, by omega, by omega, fun k hk => hk, Chg.below (one_box w _)⟩
theorem sub_nodup {A : List Nat} (hn : (Bl ++ b :: Br).Nodup) (h : A.Nodup) (hs : ∀ k, k ∈ A → k ∈ Bl) : (A ++ b :: Br).Nodup := by
  rw [List.nodup_append] at hn ⊢
  exact ⟨h, hn.2.1, fun a ha c hc => hn.2.2 a (hs a ha) c hc⟩
theorem sub_nodup2 {A : List Nat} (hn : (Bl ++ b :: Br).Nodup) (h : A.Nodup) (hs : ∀ k, k ∈ A → k ∈ Br) : (Bl ++ b :: A).Nodup := by
  rw [List.nodup_append, List.nodup_cons] at hn ⊢
  refine ⟨hn.1, ⟨fun hb => hn.2.1.1 (hs b hb), h⟩, fun a ha c hc => hn.2.2 a ha c ?_⟩
  rcases List.mem_cons.1 hc with rfl | hc
  · simp
  · exact List.mem_cons_of_mem _ (hs c hc)
theorem del_lo_end {w1 : World} {x : En} {p4 : Option Nat} {d4 : Nat} (hn : (Bl ++ b :: Br).Nodup) (hb : Below w.heap.size w w1) (hc : En.cmp x y < 0) (h2 : B2.Nodup ∧ (∀ k, k ∈ B2 → k ∈ Bl) ∧ Chg (fun k => k ∈ Bl) w1 w2) (h : TN w' d4 p4 (B2 ++ b :: Br) (delE Ll x ++ y :: Lr) ∧ d ≤ d4 + 1 ∧ d4 ≤ d ∧ Chg (fun k => k ∈ B2 ++ b :: Br) w2 w') :
    DelP w d (Bl ++ b :: Br) (Ll ++ y :: Lr) x (.returned (.tuple #[po p4, .bool (hasE Ll x)])) w' := by
  obtain ⟨g1, g2, g3, g4⟩ := h
  have hs : ∀ k, k ∈ B2 ++ b :: Br → k ∈ Bl ++ b :: Br := fun k hk => by
    rcases List.mem_append.1 hk with hk | hk
    · exact List.mem_append_left _ (h2.2.1 k hk)
    · exact List.mem_append_right _ hk
  exact ⟨p4, d4, B2 ++ b :: Br, by rw [hasE_lo hc], by rw [delE_lo hc]; exact g1, sub_nodup hn h2.1 h2.2.1, g2, g3, hs, (Chg.below hb).then ((h2.2.2.weak (fun k hk => List.mem_append_left _ hk)).then (g4.weak hs))⟩
theorem del_hi_end {w1 : World} {x : En} {p4 : Option Nat} {d4 : Nat} (hn : (Bl ++ b :: Br).Nodup) (hb : Below w.heap.size w w1) (ho : Srt (Ll ++ y :: Lr)) (hc : 0 < En.cmp x y) (h2 : B2.Nodup ∧ (∀ k, k ∈ B2 → k ∈ Br) ∧ Chg (fun k => k ∈ Br) w1 w2) (h : TN w' d4 p4 (Bl ++ b :: B2) (Ll ++ y :: delE Lr x) ∧ d ≤ d4 + 1 ∧ d4 ≤ d ∧ Chg (fun k => k ∈ Bl ++ b :: B2) w2 w') :
    DelP w d (Bl ++ b :: Br) (Ll ++ y :: Lr) x (.returned (.tuple #[po p4, .bool (hasE Lr x)])) w' := by
  obtain ⟨g1, g2, g3, g4⟩ := h
  have hs : ∀ k, k ∈ Bl ++ b :: B2 → k ∈ Bl ++ b :: Br := fun k hk => by
    rcases List.mem_append.1 hk with hk | hk
    · exact List.mem_append_left _ hk
    · rcases List.mem_cons.1 hk with rfl | hk
      · simp
      · exact List.mem_append_right _ (List.mem_cons_of_mem _ (h2.2.1 k hk))
  exact ⟨p4, d4, Bl ++ b :: B2, by rw [hasE_hi ho hc], by rw [delE_hi ho hc]; exact g1, sub_nodup2 hn h2.1 h2.2.1, g2, g3, hs, (Chg.below hb).then ((h2.2.2.weak (fun k hk => List.mem_append_right _ (List.mem_cons_of_mem _ hk))).then (g4.weak hs))⟩
theorem cut_mid (hn : (Bl ++ b :: Br).Nodup) : (Bl ++ Br).Nodup := by
  rw [List.nodup_append, List.nodup_cons] at hn
  rw [List.nodup_append]
  exact ⟨hn.1, hn.2.1.2, fun a ha c hc => hn.2.2 a ha c (List.mem_cons_of_mem _ hc)⟩
/-- The entry goes to the left. -/
theorem del_lo (hb : NA w b y l r (max dl dr + 1)) (hl : TN w dl l Bl Ll) (hr : TN w dr r Br Lr) (hn : (Bl ++ b :: Br).Nodup) (hs : Srt (Ll ++ y :: Lr)) (h1 : dl ≤ 200000) (h2 : dr ≤ 200000) (h3 : dl ≤ dr + 1) (h4 : dr ≤ dl + 1) (x : En) (hx : EOk x) (hc : En.cmp x y < 0)
    (ih : ∀ W, TN W dl l Bl Ll → Calls Try.prog 30 #[po l, ev x] W (DelP W dl Bl Ll x)) :
    Calls Try.prog 30 #[pt b, ev x] w (DelP w (max dl dr + 1) (Bl ++ b :: Br) (Ll ++ y :: Lr) x) := by
  have HCP := Lib.hid (fun W => ecompare_any x y hx.2 hs.mid.2 W)
  have HB := Lib.hid hb
  have HL := Lib.hid hl
  have HR := Lib.hid hr
  have HN := Lib.hid hn
  have HS := Lib.hid hs
  have HD : Hid (dl ≤ 200000 ∧ dr ≤ 200000 ∧ dl ≤ dr + 1 ∧ dr ≤ dl + 1) := ⟨h1, h2, h3, h4⟩
  have IH := Lib.hid ih
  have HXB := Lib.hid (box_entry w x)
  have HXW := Lib.hid ((Below.refl w.heap.size w).alloc (Nat.le_refl _) (.cells #[.int .i64 x.v.k, .bool x.v.b, .int .i64 x.v.n, .float .f64 x.v.f, .string x.v.t, .int .i64 x.i] 34))
  obtain ⟨c, hcc⟩ : ∃ c, c = En.cmp x y := ⟨_, rfl⟩
  rw [← hcc] at HCP hc
  have HCC : Hid (En.cmp x y < 0) := by rw [hcc] at hc; exact hc
  clear hcc hb hl hr hn hs h1 h2 h3 h4 hx ih
  obtain ⟨⟨xk, xb, xn, xf, xt⟩, xi⟩ := x
  obtain ⟨⟨yk, yb, yn, yf, yt⟩, yi⟩ := y
  simp only at HXW HXB
  go_enter Try.func30, Try.ntmps30
  go_upto_region 4 with fail
  generalize w.alloc (.cells #[.int .i64 xk, .bool xb, .int .i64 xn, .float .f64 xf, .string xt, .int .i64 xi] 34) = u at *
  obtain ⟨x0, x1, x2, x3, x4, x5⟩ := HXB.out
  simp only [Nat.zero_add] at x0 x1 x2 x3 x4 x5
  obtain ⟨k0, k1, k2, k3, k4, k5, k6, k7, k8, kf⟩ := (HB.out.below HXW.out).cells
  simp only at k0 k1 k2 k3 k4 k5
  go_still_tail 5, (by kernel_rfl)
  change wpList _ _ _ _ _ u.drew
  go_wp2_with (go_at_call 38; (with_reducible refine (HCP.out _).mono ?_); rintro e w1 ⟨rfl, hb1⟩; have HU := Lib.hid ((Below.refl u.heap.size u).drew.trans hb1); have HB1 := Lib.hid (bnext HXW.out HU.out); clear hb1)
  have hx1 := HXB.out.below HU.out
  have hn1 := HB.out.below HB1.out
  have hl1 := HL.out.below HB1.out
  have HI := Lib.hid (IH.out w1.drew (hl1.same (fun _ _ => rfl)))
  have HN1 := Lib.hid hn1
  clear x0 x1 x2 x3 x4 x5 k0 k1 k2 k3 k4 k5 k6 k7 k8 kf HXB HCP IH
  obtain ⟨x0, x1, x2, x3, x4, x5⟩ := hx1
  simp only [Nat.zero_add] at x0 x1 x2 x3 x4 x5
  obtain ⟨_, _, _, _, _, _, k6, _, _, kf⟩ := hn1.cells
  clear hl1 hn1
  go_upto_region 7 with fail
  have HBN : Hid (b ∉ Bl) := (nodup_mid HN.out).2.2.1
  go_region_with (go_at_call 30; (with_reducible refine (HI.out).mono ?_); rintro e w2 ⟨p2, d2, B2, rfl, ht, hnd, hd1, hd2, hk, hch0⟩; have hch := (Chg.refl _ w1).drew.then hch0; have H2 := Lib.hid (And.intro hnd (And.intro hk hch)); have hn2 := HN1.out.chg hch HBN.out; have HM := Lib.hid (del_lo_mid hn2 ht ((HR.out.below HB1.out).chg hch (fun k h5 h6 => (nodup_mid HN.out).2.2.2.2 k h6 h5)) (sub_nodup HN.out hnd hk) hd1 hd2 (by have := HD.out; omega) (by have := HD.out; omega) HD.out.2.2.1 HD.out.2.2.2); obtain ⟨_, _, _, _, _, _, q6, _, _, qf⟩ := hn2.cells; clear ht hnd hd1 hd2 hk hch hch0 hn2)
  all_goals
    clear x0 x1 x2 x3 x4 x5 k6 kf q6 qf
    go_wp2_with (go_at_call 39; (with_reducible refine (HM.out).mono ?_); rintro e w4 ⟨p4, d4, rfl, h4⟩; have H4 := Lib.hid h4; clear h4)
    go_ret2
    exact del_lo_end HN.out HB1.out HCC.out H2.out H4.out
/-- The entry goes to the right. -/
theorem del_hi (hb : NA w b y l r (max dl dr + 1)) (hl : TN w dl l Bl Ll) (hr : TN w dr r Br Lr) (hn : (Bl ++ b :: Br).Nodup) (hs : Srt (Ll ++ y :: Lr)) (h1 : dl ≤ 200000) (h2 : dr ≤ 200000) (h3 : dl ≤ dr + 1) (h4 : dr ≤ dl + 1) (x : En) (hx : EOk x) (hc : 0 < En.cmp x y)
    (ih : ∀ W, TN W dr r Br Lr → Calls Try.prog 30 #[po r, ev x] W (DelP W dr Br Lr x)) :
    Calls Try.prog 30 #[pt b, ev x] w (DelP w (max dl dr + 1) (Bl ++ b :: Br) (Ll ++ y :: Lr) x) := by
  have HCP := Lib.hid (fun W => ecompare_any x y hx.2 hs.mid.2 W)
  have HB := Lib.hid hb
  have HL := Lib.hid hl
  have HR := Lib.hid hr
  have HN := Lib.hid hn
  have HS := Lib.hid hs
  have HD : Hid (dl ≤ 200000 ∧ dr ≤ 200000 ∧ dl ≤ dr + 1 ∧ dr ≤ dl + 1) := ⟨h1, h2, h3, h4⟩
  have IH := Lib.hid ih
  have HXB := Lib.hid (box_entry w x)
  have HXW := Lib.hid ((Below.refl w.heap.size w).alloc (Nat.le_refl _) (.cells #[.int .i64 x.v.k, .bool x.v.b, .int .i64 x.v.n, .float .f64 x.v.f, .string x.v.t, .int .i64 x.i] 34))
  obtain ⟨c, hcc⟩ : ∃ c, c = En.cmp x y := ⟨_, rfl⟩
  rw [← hcc] at HCP hc
  have HCC : Hid (0 < En.cmp x y) := by rw [hcc] at hc; exact hc
  have hc2 : ¬ c < 0 := by omega
  clear hcc hb hl hr hn hs h1 h2 h3 h4 hx ih
  obtain ⟨⟨xk, xb, xn, xf, xt⟩, xi⟩ := x
  obtain ⟨⟨yk, yb, yn, yf, yt⟩, yi⟩ := y
  simp only at HXW HXB
  go_enter Try.func30, Try.ntmps30
  go_upto_region 4 with fail
  generalize w.alloc (.cells #[.int .i64 xk, .bool xb, .int .i64 xn, .float .f64 xf, .string xt, .int .i64 xi] 34) = u at *
  obtain ⟨x0, x1, x2, x3, x4, x5⟩ := HXB.out
  simp only [Nat.zero_add] at x0 x1 x2 x3 x4 x5
  obtain ⟨k0, k1, k2, k3, k4, k5, k6, k7, k8, kf⟩ := (HB.out.below HXW.out).cells
  simp only at k0 k1 k2 k3 k4 k5
  go_still_tail 5, (by kernel_rfl)
  change wpList _ _ _ _ _ u.drew
  go_wp2_with (go_at_call 38; (with_reducible refine (HCP.out _).mono ?_); rintro e w1 ⟨rfl, hb1⟩; have HU := Lib.hid ((Below.refl u.heap.size u).drew.trans hb1); have HB1 := Lib.hid (bnext HXW.out HU.out); clear hb1)
  have hx1 := HXB.out.below HU.out
  have hn1 := HB.out.below HB1.out
  have hl1 := HR.out.below HB1.out
  have HI := Lib.hid (IH.out w1.drew (hl1.same (fun _ _ => rfl)))
  have HN1 := Lib.hid hn1
  clear x0 x1 x2 x3 x4 x5 k0 k1 k2 k3 k4 k5 k6 k7 k8 kf HXB HCP IH
  obtain ⟨x0, x1, x2, x3, x4, x5⟩ := hx1
  simp only [Nat.zero_add] at x0 x1 x2 x3 x4 x5
  obtain ⟨_, _, _, _, _, _, _, k6, _, kf⟩ := hn1.cells
  clear hl1 hn1
  go_upto_region 9 with fail
  have HBN : Hid (b ∉ Br) := (nodup_mid HN.out).2.2.2.1
  go_region_with (go_at_call 30; (with_reducible refine (HI.out).mono ?_); rintro e w2 ⟨p2, d2, B2, rfl, ht, hnd, hd1, hd2, hk, hch0⟩; have hch := (Chg.refl _ w1).drew.then hch0; have H2 := Lib.hid (And.intro hnd (And.intro hk hch)); have hn2 := HN1.out.chg hch HBN.out; have HM := Lib.hid (del_hi_mid hn2 ((HL.out.below HB1.out).chg hch (fun k h5 h6 => (nodup_mid HN.out).2.2.2.2 k h5 h6)) ht (sub_nodup2 HN.out hnd hk) hd1 hd2 (by have := HD.out; omega) (by have := HD.out; omega) HD.out.2.2.1 HD.out.2.2.2); obtain ⟨_, _, _, _, _, _, _, q6, _, qf⟩ := hn2.cells; clear ht hnd hd1 hd2 hk hch hch0 hn2)
  all_goals
    clear x0 x1 x2 x3 x4 x5 k6 kf q6 qf
    go_wp2_with (go_at_call 39; (with_reducible refine (HM.out).mono ?_); rintro e w4 ⟨p4, d4, rfl, h4⟩; have H4 := Lib.hid h4; clear h4)
    go_ret2
    exact del_hi_end HN.out HB1.out HS.out HCC.out H2.out H4.out
/-- The entry is there. -/
theorem del_eq (hb : NA w b y l r (max dl dr + 1)) (hl : TN w dl l Bl Ll) (hr : TN w dr r Br Lr) (hn : (Bl ++ b :: Br).Nodup) (hs : Srt (Ll ++ y :: Lr)) (h1 : dl ≤ 200000) (h2 : dr ≤ 200000) (h3 : dl ≤ dr + 1) (h4 : dr ≤ dl + 1) (x : En) (hx : EOk x) (hc : En.cmp x y = 0) :
    Calls Try.prog 30 #[pt b, ev x] w (DelP w (max dl dr + 1) (Bl ++ b :: Br) (Ll ++ y :: Lr) x) := by
  have HCP := Lib.hid (fun W => ecompare_any x y hx.2 hs.mid.2 W)
  rw [hc] at HCP
  have HB := Lib.hid hb
  have HN := Lib.hid hn
  have HE := Lib.hid (And.intro (hasE_mid hs hc) (delE_mid hs hc))
  have HBL := Lib.hid (fun W (hW : Below w.heap.size w W) => join_any (hl.below hW) (hr.below hW) (cut_mid hn) h1 h2 h3 h4)
  have HD : Hid (dl ≤ dr + 1 ∧ dr ≤ dl + 1) := ⟨h3, h4⟩
  have HXB := Lib.hid (box_entry w x)
  have HXW := Lib.hid ((Below.refl w.heap.size w).alloc (Nat.le_refl _) (.cells #[.int .i64 x.v.k, .bool x.v.b, .int .i64 x.v.n, .float .f64 x.v.f, .string x.v.t, .int .i64 x.i] 34))
  clear hb hl hr hn hs h1 h2 h3 h4 hx hc
  obtain ⟨⟨xk, xb, xn, xf, xt⟩, xi⟩ := x
  obtain ⟨⟨yk, yb, yn, yf, yt⟩, yi⟩ := y
  simp only at HXW HXB
  go_enter Try.func30, Try.ntmps30
  go_upto_region 4 with fail
  generalize w.alloc (.cells #[.int .i64 xk, .bool xb, .int .i64 xn, .float .f64 xf, .string xt, .int .i64 xi] 34) = u at *
  obtain ⟨x0, x1, x2, x3, x4, x5⟩ := HXB.out
  simp only [Nat.zero_add] at x0 x1 x2 x3 x4 x5
  obtain ⟨k0, k1, k2, k3, k4, k5, k6, k7, k8, kf⟩ := (HB.out.below HXW.out).cells
  simp only at k0 k1 k2 k3 k4 k5
  go_still_tail 5, (by kernel_rfl)
  change wpList _ _ _ _ _ u.drew
  go_wp2_with (go_at_call 38; (with_reducible refine (HCP.out _).mono ?_); rintro e w1 ⟨rfl, hb1⟩; have HU := Lib.hid ((Below.refl u.heap.size u).drew.trans hb1); have HB1 := Lib.hid (bnext HXW.out HU.out); clear hb1)
  have hn1 := HB.out.below HB1.out
  clear x0 x1 x2 x3 x4 x5 k0 k1 k2 k3 k4 k5 k6 k7 k8 kf HXB HCP
  obtain ⟨_, _, _, _, _, _, k6, k7, _, kf⟩ := hn1.cells
  have HJ := Lib.hid (HBL.out w1.drew HB1.out.drew)
  clear hn1 HBL
  go_upto_region 5 with fail
  go_still_tail 8, (by kernel_rfl)
  change wpList _ _ _ _ _ w1.drew
  go_wp2_with (go_at_call 41; (with_reducible refine (HJ.out).mono ?_); rintro e w4 ⟨p4, d4, rfl, h4⟩; have H4 := Lib.hid h4; clear h4)
  go_ret2
  obtain ⟨g1, g2, g3, g4⟩ := H4.out
  have hs : ∀ k, k ∈ Bl ++ Br → k ∈ Bl ++ b :: Br := fun k hk => by
    rcases List.mem_append.1 hk with hk | hk
    · exact List.mem_append_left _ hk
    · exact List.mem_append_right _ (List.mem_cons_of_mem _ hk)
  exact ⟨p4, d4, Bl ++ Br, (by rw [HE.out.1]; rfl), by rw [HE.out.2]; exact g1, cut_mid HN.out, by omega, by omega, hs, (Chg.below HB1.out.drew).then (g4.weak hs)⟩
theorem del_any (x : En) (hx : EOk x) : ∀ (d : Nat) (w : World) (p : Option Nat) (B : List Nat) (L : List En), TN w d p B L → B.Nodup → Srt L → d ≤ 200000 → Calls Try.prog 30 #[po p, ev x] w (DelP w d B L x) := by
  intro d
  induction d using Nat.strongRecOn with
  | _ d ih =>
    intro w p B L h hn hs hd
    cases p with
    | none =>
      obtain ⟨rfl, rfl, rfl⟩ := h.nil
      exact del_nil x w
    | some b =>
      obtain ⟨y, l, r, dl, dr, Bl, Br, Ll, Lr, rfl, h3, h4, rfl, rfl, hb, hl, hr⟩ := h.node
      obtain ⟨n1, n2, _, _, _⟩ := nodup_mid hn
      rw [po_some]
      rcases Int.lt_trichotomy (En.cmp x y) 0 with hc | hc | hc
      · exact del_lo hb hl hr hn hs (by omega) (by omega) h3 h4 x hx hc (fun W hW => ih dl (by omega) W l Bl Ll hW n1 hs.left (by omega))
      · exact del_eq hb hl hr hn hs (by omega) (by omega) h3 h4 x hx hc
      · exact del_hi hb hl hr hn hs (by omega) (by omega) h3 h4 x hx hc (fun W hW => ih dr (by omega) W r Br Lr hW n2 hs.right (by omega))
end
end Go.Proofs.Ytmbbmgkbhfnchaa
