/- The order of two entries; add of the program's nodes. Conditions: the nodes lie in memory, apart from one another, sorted; the entries are valid; depths are small. -/
import Derived.Test.YtmbbmgkbhfnchaaXd
import Derived.Test.YtmbbmgkbhfnchaaUd
namespace Go.Proofs.Ytmbbmgkbhfnchaa
set_option maxRecDepth 100000
set_option linter.unusedVariables false
open Go.ChangeShapes Go.WideShapes Go.ChangeAt Go.RowKit
open Fl (S)
open Val (V cmpV cmpI isB)
theorem ecompare_any (x y : En) (hx : x.v.f < 2 * S) (hy : y.v.f < 2 * S) (w : World) : Calls Try.prog 38 #[ev x, ev y] w fun e w' => e = .returned (.int .i64 (En.cmp x y)) ∧ Below w.heap.size w w' := by
  have HC := Lib.hid (fun W => vcmp_any x.v y.v hx hy W)
  obtain ⟨⟨k, b, n, f, t⟩, i⟩ := x
  obtain ⟨⟨k2, b2, n2, f2, t2⟩, i2⟩ := y
  simp only at hx hy
  obtain ⟨c, hc⟩ : ∃ c, c = cmpV ⟨k, b, n, f, t⟩ ⟨k2, b2, n2, f2, t2⟩ := ⟨_, rfl⟩
  have HE : Hid (En.cmp ⟨⟨k, b, n, f, t⟩, i⟩ ⟨⟨k2, b2, n2, f2, t2⟩, i2⟩ = if c = 0 then cmpI i i2 else c) := by simp only [Hid]; rw [hc]; rfl
  rw [← hc] at HC
  rw [HE.out]
  clear HE hc hx hy
  by_cases h0 : c = 0
  · subst h0
    rw [if_pos rfl]
    go_enter Try.func38, Try.ntmps38
    go_wp2_with (first
      | (go_at_call 46; (with_reducible refine (compareI_any _ _ _).mono ?_); rintro e w2 ⟨rfl, rfl⟩)
      | (go_at_call 43; (with_reducible refine (HC.out _).mono ?_); rintro e w1 ⟨rfl, hb⟩; obtain ⟨hcl, hcf⟩ := bcell hb; have HB := Lib.hid hb; clear hb))
    go_ret
    exact ⟨rfl, (two_boxes w _ _).trans (HB.out.mono (by simp; omega))⟩
  · rw [if_neg h0]
    have hq : (c != 0) = true := by simpa using h0
    go_enter Try.func38, Try.ntmps38
    go_wp2_with (go_at_call 43; (with_reducible refine (HC.out _).mono ?_); rintro e w1 ⟨rfl, hb⟩; obtain ⟨hcl, hcf⟩ := bcell hb; have HB := Lib.hid hb; clear hb)
    go_ret
    exact ⟨rfl, (two_boxes w _ _).trans (HB.out.mono (by simp; omega))⟩
/-- What add makes of a tree of depth d. -/
def AddP (w : World) (d : Nat) (B : List Nat) (L : List En) (x : En) (e : Ending) (w' : World) : Prop := ∃ p' d' B', e = .returned (.tuple #[po p', .bool (!hasE L x)]) ∧ TN w' d' p' B' (insE L x) ∧ B'.Nodup ∧ d ≤ d' ∧ d' ≤ d + 1 ∧ (∀ k, k ∈ B' → k ∈ B ∨ w.heap.size ≤ k) ∧ Chg (fun k => k ∈ B) w w'
section
variable {w w' : World} {b : Nat} {y : En} {l r p : Option Nat} {d dl dr : Nat} {Bl Br B : List Nat} {Ll Lr L : List En}
theorem add_nil (x : En) (w : World) : Calls Try.prog 28 #[po none, ev x] w (AddP w 0 [] [] x) := by
  obtain ⟨⟨k, b, n, f, t⟩, i⟩ := x
  rw [po_none]
  go_enter Try.func28, Try.ntmps28
  go_wp2
  go_ret2
  have hz : (w.alloc (.cells #[.int .i64 k, .bool b, .int .i64 n, .float .f64 f, .string t, .int .i64 i] 34)).heap.size = w.heap.size + 1 := by simp
  have ha : NA ((w.alloc (.cells #[.int .i64 k, .bool b, .int .i64 n, .float .f64 f, .string t, .int .i64 i] 34)).alloc (.cells (nc ⟨⟨k, b, n, f, t⟩, i⟩ none none 1) 72)) (w.heap.size + 1) ⟨⟨k, b, n, f, t⟩, i⟩ none none 1 := by
    have := heap_alloc_new (w.alloc (.cells #[.int .i64 k, .bool b, .int .i64 n, .float .f64 f, .string t, .int .i64 i] 34)) (.cells (nc ⟨⟨k, b, n, f, t⟩, i⟩ none none 1) 72)
    rw [hz] at this
    exact this
  exact ⟨some (w.heap.size + 1), 1, [w.heap.size + 1], rfl, tn_mk (Bl := []) (Br := []) (Ll := []) (Lr := []) ha (tn_none _) (tn_none _) (Nat.zero_le _) (Nat.zero_le _), by simp, Nat.zero_le _, Nat.le_refl _, (fun k hk => .inr (by rw [show k = w.heap.size + 1 from by simpa using hk]; exact Nat.le_succ _)), Chg.below (two_boxes w _ _)⟩
/-- What balance makes of a node whose one side has been added to, seen from the world ahead of that. -/
def AddM (w : World) (d : Nat) (B : List Nat) (L : List En) (e : Ending) (w' : World) : Prop := ∃ p' d' B', e = .returned (po p') ∧ TN w' d' p' B' L ∧ B'.Nodup ∧ d ≤ d' ∧ d' ≤ d + 1 ∧ (∀ k, k ∈ B' → k ∈ B ∨ w.heap.size ≤ k) ∧ Chg (fun k => k ∈ B) w w'
theorem add_lo_mid {w1 w2 : World} {d0 d2 : Nat} {p2 : Option Nat} {B2 : List Nat} {L2 : List En} (hb : NA w1 b y l r d0) (hr : TN w1 dr r Br Lr) (hn : (Bl ++ b :: Br).Nodup) (ht : TN w2 d2 p2 B2 L2) (hnd : B2.Nodup) (g1 : dl ≤ d2) (g2 : d2 ≤ dl + 1) (hk : ∀ k, k ∈ B2 → k ∈ Bl ∨ w1.heap.size ≤ k) (hch : Chg (fun k => k ∈ Bl) w1 w2)
    (h1 : dl ≤ 200000) (h2 : dr ≤ 200000) (h3 : dl ≤ dr + 1) (h4 : dr ≤ dl + 1) : Calls Try.prog 39 #[pt b] (w2.setCell ⟨b, 6, none⟩ (po p2)) (AddM w1 (max dl dr + 1) (Bl ++ b :: Br) (L2 ++ y :: Lr)) := by
  obtain ⟨n1, n2, n3, n4, n5⟩ := nodup_mid hn
  have hblt := hb.lt
  have b2 : b ∉ B2 := fun h => by
    rcases hk b h with h | h
    · exact n3 h
    · omega
  have bd : ∀ k, k ∈ B2 → k ∉ Br := fun k h h5 => by
    rcases hk k h with h | h
    · exact n5 k h h5
    · have := hr.lt k h5; omega
  have hn2 : (B2 ++ b :: Br).Nodup := by
    rw [List.nodup_append, List.nodup_cons]
    refine ⟨hnd, ⟨n4, n2⟩, fun a ha c hc e => ?_⟩
    subst e
    rcases List.mem_cons.1 hc with rfl | hc
    · exact b2 ha
    · exact bd a ha hc
  have hb2 := (hb.chg hch n3).setL p2
  have hs : ∀ k, k ≠ b → (w2.setCell ⟨b, 6, none⟩ (po p2)).heap[k]? = w2.heap[k]? := fun k hk => heap_setCell_other w2 ⟨b, 6, none⟩ k (po p2) hk
  have ht2 := ht.same (w' := w2.setCell ⟨b, 6, none⟩ (po p2)) (fun k hk => hs k (fun e => b2 (e ▸ hk)))
  have hr2 := (hr.chg hch (fun k h1 h2 => n5 k h2 h1)).same (w' := w2.setCell ⟨b, 6, none⟩ (po p2)) (fun k hk => hs k (fun e => n4 (e ▸ hk)))
  have hc2 : Chg (fun k => k ∈ Bl ++ b :: Br) w1 (w2.setCell ⟨b, 6, none⟩ (po p2)) := chg_set (F := fun k => k ∈ Bl ++ b :: Br) (hch.weak (fun k h => List.mem_append_left _ h)) (by simp) _ _
  refine (balance_any hb2 ht2 hr2 hn2 (by omega) (by omega) (by omega) (by omega)).mono ?_
  rintro e w' ⟨p', d', rfl, t1, t2, t3, t4, t5⟩
  refine ⟨p', d', _, rfl, t1, hn2, ?_, ?_, fun k h => ?_, hc2.trans (t5.weak fun k h => ?_)⟩
  · by_cases hx : d2 ≤ dr + 1 ∧ dr ≤ d2 + 1
    · have := t4 hx; omega
    · omega
  · by_cases hx : d2 ≤ dr + 1 ∧ dr ≤ d2 + 1
    · have := t4 hx; omega
    · omega
  · rcases List.mem_append.1 h with h | h
    · rcases hk k h with h | h
      · exact .inl (by simp [h])
      · exact .inr h
    · exact .inl (List.mem_append_right _ h)
  · rcases List.mem_append.1 h with h | h
    · rcases hk k h with h5 | h5
      · exact .inl (by simp [h5])
      · exact .inr ⟨h5, by have := ht2.lt k h; exact this⟩
    · exact .inl (List.mem_append_right _ h)
theorem add_lo_end {w1 : World} {x : En} {p4 : Option Nat} {d4 : Nat} {B4 : List Nat} (hb : Below w.heap.size w w1) (hc : En.cmp x y < 0) (h : TN w' d4 p4 B4 (insE Ll x ++ y :: Lr) ∧ B4.Nodup ∧ d ≤ d4 ∧ d4 ≤ d + 1 ∧ (∀ k, k ∈ B4 → k ∈ B ∨ w1.heap.size ≤ k) ∧ Chg (fun k => k ∈ B) w1 w') :
    AddP w d B (Ll ++ y :: Lr) x (.returned (.tuple #[po p4, .bool (!hasE Ll x)])) w' := by
  obtain ⟨g1, g2, g3, g4, g5, g6⟩ := h
  refine ⟨p4, d4, B4, by rw [hasE_lo hc], by rw [insE_lo hc]; exact g1, g2, g3, g4, fun k hk => (g5 k hk).elim .inl (fun h => .inr (Nat.le_trans hb.size h)), ?_⟩
  exact (Chg.below hb).then g6
theorem add_hi_mid {w1 w2 : World} {d0 d2 : Nat} {p2 : Option Nat} {B2 : List Nat} {L2 : List En} (hb : NA w1 b y l r d0) (hl : TN w1 dl l Bl Ll) (hn : (Bl ++ b :: Br).Nodup) (ht : TN w2 d2 p2 B2 L2) (hnd : B2.Nodup) (g1 : dr ≤ d2) (g2 : d2 ≤ dr + 1) (hk : ∀ k, k ∈ B2 → k ∈ Br ∨ w1.heap.size ≤ k) (hch : Chg (fun k => k ∈ Br) w1 w2)
    (h1 : dl ≤ 200000) (h2 : dr ≤ 200000) (h3 : dl ≤ dr + 1) (h4 : dr ≤ dl + 1) : Calls Try.prog 39 #[pt b] (w2.setCell ⟨b, 7, none⟩ (po p2)) (AddM w1 (max dl dr + 1) (Bl ++ b :: Br) (Ll ++ y :: L2)) := by
  obtain ⟨n1, n2, n3, n4, n5⟩ := nodup_mid hn
  have hblt := hb.lt
  have b2 : b ∉ B2 := fun h => by
    rcases hk b h with h | h
    · exact n4 h
    · omega
  have bd : ∀ k, k ∈ B2 → k ∉ Bl := fun k h h5 => by
    rcases hk k h with h | h
    · exact n5 k h5 h
    · have := hl.lt k h5; omega
  have hn2 : (Bl ++ b :: B2).Nodup := by
    rw [List.nodup_append, List.nodup_cons]
    refine ⟨n1, ⟨b2, hnd⟩, fun a ha c hc e => ?_⟩
    subst e
    rcases List.mem_cons.1 hc with rfl | hc
    · exact n3 ha
    · exact bd a hc ha
  have hb2 := (hb.chg hch n4).setR p2
  have hs : ∀ k, k ≠ b → (w2.setCell ⟨b, 7, none⟩ (po p2)).heap[k]? = w2.heap[k]? := fun k hk => heap_setCell_other w2 ⟨b, 7, none⟩ k (po p2) hk
  have ht2 := ht.same (w' := w2.setCell ⟨b, 7, none⟩ (po p2)) (fun k hk => hs k (fun e => b2 (e ▸ hk)))
  have hl2 := (hl.chg hch (fun k h1 h2 => n5 k h1 h2)).same (w' := w2.setCell ⟨b, 7, none⟩ (po p2)) (fun k hk => hs k (fun e => n3 (e ▸ hk)))
  have hc2 : Chg (fun k => k ∈ Bl ++ b :: Br) w1 (w2.setCell ⟨b, 7, none⟩ (po p2)) := chg_set (F := fun k => k ∈ Bl ++ b :: Br) (hch.weak (fun k h => List.mem_append_right _ (List.mem_cons_of_mem _ h))) (by simp) _ _
  refine (balance_any hb2 hl2 ht2 hn2 (by omega) (by omega) (by omega) (by omega)).mono ?_
  rintro e w' ⟨p', d', rfl, t1, t2, t3, t4, t5⟩
  refine ⟨p', d', _, rfl, t1, hn2, ?_, ?_, fun k h => ?_, hc2.trans (t5.weak fun k h => ?_)⟩
  · by_cases hx : dl ≤ d2 + 1 ∧ d2 ≤ dl + 1
    · have := t4 hx; omega
    · omega
  · by_cases hx : dl ≤ d2 + 1 ∧ d2 ≤ dl + 1
    · have := t4 hx; omega
    · omega
  · rcases List.mem_append.1 h with h | h
    · exact .inl (by simp [h])
    · rcases List.mem_cons.1 h with h | h
      · exact .inl (by simp [h])
      · rcases hk k h with h | h
        · exact .inl (by simp [h])
        · exact .inr h
  · rcases List.mem_append.1 h with h | h
    · exact .inl (by simp [h])
    · rcases List.mem_cons.1 h with h | h
      · exact .inl (by simp [h])
      · rcases hk k h with h5 | h5
        · exact .inl (by simp [h5])
        · exact .inr ⟨h5, by have := ht2.lt k h; exact this⟩
theorem add_hi_end {w1 : World} {x : En} {p4 : Option Nat} {d4 : Nat} {B4 : List Nat} (hb : Below w.heap.size w w1) (hs : Srt (Ll ++ y :: Lr)) (hc : 0 < En.cmp x y) (h : TN w' d4 p4 B4 (Ll ++ y :: insE Lr x) ∧ B4.Nodup ∧ d ≤ d4 ∧ d4 ≤ d + 1 ∧ (∀ k, k ∈ B4 → k ∈ B ∨ w1.heap.size ≤ k) ∧ Chg (fun k => k ∈ B) w1 w') :
    AddP w d B (Ll ++ y :: Lr) x (.returned (.tuple #[po p4, .bool (!hasE Lr x)])) w' := by
  obtain ⟨g1, g2, g3, g4, g5, g6⟩ := h
  refine ⟨p4, d4, B4, by rw [hasE_hi hs hc], by rw [insE_hi hs hc]; exact g1, g2, g3, g4, fun k hk => (g5 k hk).elim .inl (fun h => .inr (Nat.le_trans hb.size h)), ?_⟩
  exact (Chg.below hb).then g6
/-- The entry goes to the left. -/
theorem add_lo (hb : NA w b y l r (max dl dr + 1)) (hl : TN w dl l Bl Ll) (hr : TN w dr r Br Lr) (hn : (Bl ++ b :: Br).Nodup) (hs : Srt (Ll ++ y :: Lr)) (h1 : dl ≤ 200000) (h2 : dr ≤ 200000) (h3 : dl ≤ dr + 1) (h4 : dr ≤ dl + 1) (x : En) (hx : EOk x) (hc : En.cmp x y < 0)
    (ih : ∀ W, TN W dl l Bl Ll → Calls Try.prog 28 #[po l, ev x] W (AddP W dl Bl Ll x)) :
    Calls Try.prog 28 #[pt b, ev x] w (AddP w (max dl dr + 1) (Bl ++ b :: Br) (Ll ++ y :: Lr) x) := by
  have HCP := Lib.hid (fun W => ecompare_any x y hx.2 hs.mid.2 W)
  have HB := Lib.hid hb
  have HL := Lib.hid hl
  have HR := Lib.hid hr
  have HN := Lib.hid hn
  have HS := Lib.hid hs
  have HD : Hid (dl ≤ 200000 ∧ dr ≤ 200000 ∧ dl ≤ dr + 1 ∧ dr ≤ dl + 1) := ⟨h1, h2, h3, h4⟩
  have IH := Lib.hid ih
  have HXB := Lib.hid (box_entry w x)
  have HXW := Lib.hid ((Below.refl w.heap.size w).alloc (Nat.le_refl _) (.cells #[.int .i64 x.v.k, .bool x.v.b, .int .i64 x.v.n, .float .f64 x.v.f, .string x.v.t, .int .i64 x.i] 34))
  obtain ⟨c, hcc⟩ : ∃ c, c = En.cmp x y := ⟨_, rfl⟩
  rw [← hcc] at HCP hc
  have HCC : Hid (En.cmp x y < 0) := by rw [hcc] at hc; exact hc
  clear hcc hb hl hr hn hs h1 h2 h3 h4 hx ih
  obtain ⟨⟨xk, xb, xn, xf, xt⟩, xi⟩ := x
  obtain ⟨⟨yk, yb, yn, yf, yt⟩, yi⟩ := y
  simp only at HXW HXB
  go_enter Try.func28, Try.ntmps28
  go_upto_region 4 with fail
  generalize w.alloc (.cells #[.int .i64 xk, .bool xb, .int .i64 xn, .float .f64 xf, .string xt, .int .i64 xi] 34) = u at *
  obtain ⟨x0, x1, x2, x3, x4, x5⟩ := HXB.out
  simp only [Nat.zero_add] at x0 x1 x2 x3 x4 x5
  obtain ⟨k0, k1, k2, k3, k4, k5, k6, k7, k8, kf⟩ := (HB.out.below HXW.out).cells
  simp only at k0 k1 k2 k3 k4 k5
  go_still_tail 5, (by kernel_rfl)
  change wpList _ _ _ _ _ u.drew
  go_wp2_with (go_at_call 38; (with_reducible refine (HCP.out _).mono ?_); rintro e w1 ⟨rfl, hb1⟩; have HU := Lib.hid ((Below.refl u.heap.size u).drew.trans hb1); have HB1 := Lib.hid (bnext HXW.out HU.out); clear hb1)
  have hx1 := HXB.out.below HU.out
  have hn1 := HB.out.below HB1.out
  have hl1 := HL.out.below HB1.out
  have HI := Lib.hid (IH.out w1.drew (hl1.same (fun _ _ => rfl)))
  have HN1 := Lib.hid hn1
  clear x0 x1 x2 x3 x4 x5 k0 k1 k2 k3 k4 k5 k6 k7 k8 kf HXB HCP IH
  obtain ⟨x0, x1, x2, x3, x4, x5⟩ := hx1
  simp only [Nat.zero_add] at x0 x1 x2 x3 x4 x5
  obtain ⟨_, _, _, _, _, _, k6, _, _, kf⟩ := hn1.cells
  clear hl1 hn1
  go_upto_region 6 with fail
  have HBN : Hid (b ∉ Bl) := (nodup_mid HN.out).2.2.1
  go_region_with (go_at_call 28; (with_reducible refine (HI.out).mono ?_); rintro e w2 ⟨p2, d2, B2, rfl, ht, hnd, hd1, hd2, hk, hch0⟩; have hch := (Chg.refl _ w1).drew.then hch0; have H2 := Lib.hid (add_lo_mid HN1.out (HR.out.below HB1.out) HN.out ht hnd hd1 hd2 hk hch HD.out.1 HD.out.2.1 HD.out.2.2.1 HD.out.2.2.2); have hn2 := HN1.out.chg hch HBN.out; obtain ⟨_, _, _, _, _, _, q6, _, _, qf⟩ := hn2.cells; clear ht hnd hd1 hd2 hk hch hch0 hn2)
  all_goals
    clear x0 x1 x2 x3 x4 x5 k6 kf q6 qf
    go_wp2_with (go_at_call 39; (with_reducible refine (H2.out).mono ?_); rintro e w4 ⟨p4, d4, B4, rfl, h4⟩; have H4 := Lib.hid h4; clear h4)
    go_ret2
    exact add_lo_end HB1.out HCC.out H4.out
/-- The entry goes to the right. -/
theorem add_hi (hb : NA w b y l r (max dl dr + 1)) (hl : TN w dl l Bl Ll) (hr : TN w dr r Br Lr) (hn : (Bl ++ b :: Br).Nodup) (hs : Srt (Ll ++ y :: Lr)) (h1 : dl ≤ 200000) (h2 : dr ≤ 200000) (h3 : dl ≤ dr + 1) (h4 : dr ≤ dl + 1) (x : En) (hx : EOk x) (hc : 0 < En.cmp x y)
    (ih : ∀ W, TN W dr r Br Lr → Calls Try.prog 28 #[po r, ev x] W (AddP W dr Br Lr x)) :
    Calls Try.prog 28 #[pt b, ev x] w (AddP w (max dl dr + 1) (Bl ++ b :: Br) (Ll ++ y :: Lr) x) := by
  have HCP := Lib.hid (fun W => ecompare_any x y hx.2 hs.mid.2 W)
  have HB := Lib.hid hb
  have HL := Lib.hid hl
  have HR := Lib.hid hr
  have HN := Lib.hid hn
  have HS := Lib.hid hs
  have HD : Hid (dl ≤ 200000 ∧ dr ≤ 200000 ∧ dl ≤ dr + 1 ∧ dr ≤ dl + 1) := ⟨h1, h2, h3, h4⟩
  have IH := Lib.hid ih
  have HXB := Lib.hid (box_entry w x)
  have HXW := Lib.hid ((Below.refl w.heap.size w).alloc (Nat.le_refl _) (.cells #[.int .i64 x.v.k, .bool x.v.b, .int .i64 x.v.n, .float .f64 x.v.f, .string x.v.t, .int .i64 x.i] 34))
  obtain ⟨c, hcc⟩ : ∃ c, c = En.cmp x y := ⟨_, rfl⟩
  rw [← hcc] at HCP hc
  have HCC : Hid (0 < En.cmp x y) := by rw [hcc] at hc; exact hc
  have hc2 : ¬ c < 0 := by omega
  clear hcc hb hl hr hn hs h1 h2 h3 h4 hx ih
  obtain ⟨⟨xk, xb, xn, xf, xt⟩, xi⟩ := x
  obtain ⟨⟨yk, yb, yn, yf, yt⟩, yi⟩ := y
  simp only at HXW HXB
  go_enter Try.func28, Try.ntmps28
  go_upto_region 4 with fail
  generalize w.alloc (.cells #[.int .i64 xk, .bool xb, .int .i64 xn, .float .f64 xf, .string xt, .int .i64 xi] 34) = u at *
  obtain ⟨x0, x1, x2, x3, x4, x5⟩ := HXB.out
  simp only [Nat.zero_add] at x0 x1 x2 x3 x4 x5
  obtain ⟨k0, k1, k2, k3, k4, k5, k6, k7, k8, kf⟩ := (HB.out.below HXW.out).cells
  simp only at k0 k1 k2 k3 k4 k5
  go_still_tail 5, (by kernel_rfl)
  change wpList _ _ _ _ _ u.drew
  go_wp2_with (go_at_call 38; (with_reducible refine (HCP.out _).mono ?_); rintro e w1 ⟨rfl, hb1⟩; have HU := Lib.hid ((Below.refl u.heap.size u).drew.trans hb1); have HB1 := Lib.hid (bnext HXW.out HU.out); clear hb1)
  have hx1 := HXB.out.below HU.out
  have hn1 := HB.out.below HB1.out
  have hl1 := HR.out.below HB1.out
  have HI := Lib.hid (IH.out w1.drew (hl1.same (fun _ _ => rfl)))
  have HN1 := Lib.hid hn1
  clear x0 x1 x2 x3 x4 x5 k0 k1 k2 k3 k4 k5 k6 k7 k8 kf HXB HCP IH
  obtain ⟨x0, x1, x2, x3, x4, x5⟩ := hx1
  simp only [Nat.zero_add] at x0 x1 x2 x3 x4 x5
  obtain ⟨_, _, _, _, _, _, _, k6, _, kf⟩ := hn1.cells
  clear hl1 hn1
  go_upto_region 8 with fail
  have HBN : Hid (b ∉ Br) := (nodup_mid HN.out).2.2.2.1
  go_region_with (go_at_call 28; (with_reducible refine (HI.out).mono ?_); rintro e w2 ⟨p2, d2, B2, rfl, ht, hnd, hd1, hd2, hk, hch0⟩; have hch := (Chg.refl _ w1).drew.then hch0; have H2 := Lib.hid (add_hi_mid HN1.out (HL.out.below HB1.out) HN.out ht hnd hd1 hd2 hk hch HD.out.1 HD.out.2.1 HD.out.2.2.1 HD.out.2.2.2); have hn2 := HN1.out.chg hch HBN.out; obtain ⟨_, _, _, _, _, _, _, q6, _, qf⟩ := hn2.cells; clear ht hnd hd1 hd2 hk hch hch0 hn2)
  all_goals
    clear x0 x1 x2 x3 x4 x5 k6 kf q6 qf
    go_wp2_with (go_at_call 39; (with_reducible refine (H2.out).mono ?_); rintro e w4 ⟨p4, d4, B4, rfl, h4⟩; have H4 := Lib.hid h4; clear h4)
    go_ret2
    exact add_hi_end HB1.out HS.out HCC.out H4.out
/-- The entry is there. -/
theorem add_eq (hb : NA w b y l r (max dl dr + 1)) (hl : TN w dl l Bl Ll) (hr : TN w dr r Br Lr) (hn : (Bl ++ b :: Br).Nodup) (hs : Srt (Ll ++ y :: Lr)) (h1 : dl ≤ 200000) (h2 : dr ≤ 200000) (h3 : dl ≤ dr + 1) (h4 : dr ≤ dl + 1) (x : En) (hx : EOk x) (hc : En.cmp x y = 0) :
    Calls Try.prog 28 #[pt b, ev x] w (AddP w (max dl dr + 1) (Bl ++ b :: Br) (Ll ++ y :: Lr) x) := by
  have HCP := Lib.hid (fun W => ecompare_any x y hx.2 hs.mid.2 W)
  rw [hc] at HCP
  have HB := Lib.hid hb
  have HN := Lib.hid hn
  have HE := Lib.hid (And.intro (hasE_mid hs hc) (insE_mid hs hc))
  have HBL := Lib.hid (fun W (hW : Below w.heap.size w W) => balance_any (hb.below hW) (hl.below hW) (hr.below hW) hn (by omega) (by omega) (by omega) (by omega))
  have HD : Hid (dl ≤ dr + 1 ∧ dr ≤ dl + 1) := ⟨h3, h4⟩
  have HXB := Lib.hid (box_entry w x)
  have HXW := Lib.hid ((Below.refl w.heap.size w).alloc (Nat.le_refl _) (.cells #[.int .i64 x.v.k, .bool x.v.b, .int .i64 x.v.n, .float .f64 x.v.f, .string x.v.t, .int .i64 x.i] 34))
  clear hb hl hr hn hs h1 h2 h3 h4 hx hc
  obtain ⟨⟨xk, xb, xn, xf, xt⟩, xi⟩ := x
  obtain ⟨⟨yk, yb, yn, yf, yt⟩, yi⟩ := y
  simp only at HXW HXB
  go_enter Try.func28, Try.ntmps28
  go_upto_region 4 with fail
  generalize w.alloc (.cells #[.int .i64 xk, .bool xb, .int .i64 xn, .float .f64 xf, .string xt, .int .i64 xi] 34) = u at *
  obtain ⟨x0, x1, x2, x3, x4, x5⟩ := HXB.out
  simp only [Nat.zero_add] at x0 x1 x2 x3 x4 x5
  obtain ⟨k0, k1, k2, k3, k4, k5, k6, k7, k8, kf⟩ := (HB.out.below HXW.out).cells
  simp only at k0 k1 k2 k3 k4 k5
  go_still_tail 5, (by kernel_rfl)
  change wpList _ _ _ _ _ u.drew
  go_wp2_with (first
    | (go_at_call 39; (with_reducible refine (HBL.out _ HB1.out).mono ?_); rintro e w4 ⟨p4, d4, rfl, h4⟩; have H4 := Lib.hid h4; clear h4)
    | (go_at_call 38; (with_reducible refine (HCP.out _).mono ?_); rintro e w1 ⟨rfl, hb1⟩; have HU := Lib.hid ((Below.refl u.heap.size u).drew.trans hb1); have HB1 := Lib.hid (bnext HXW.out HU.out); clear hb1))
  go_ret2
  obtain ⟨g1, g2, g3, g4, g5⟩ := H4.out
  have g6 := g4 HD.out
  exact ⟨p4, d4, _, by rw [HE.out.1]; rfl, by rw [HE.out.2]; exact g1, HN.out, by omega, by omega, fun k hk => .inl hk, (Chg.below HB1.out).then g5⟩
theorem add_any (x : En) (hx : EOk x) : ∀ (d : Nat) (w : World) (p : Option Nat) (B : List Nat) (L : List En), TN w d p B L → B.Nodup → Srt L → d ≤ 200000 → Calls Try.prog 28 #[po p, ev x] w (AddP w d B L x) := by
  intro d
  induction d using Nat.strongRecOn with
  | _ d ih =>
    intro w p B L h hn hs hd
    cases p with
    | none =>
      obtain ⟨rfl, rfl, rfl⟩ := h.nil
      exact add_nil x w
    | some b =>
      obtain ⟨y, l, r, dl, dr, Bl, Br, Ll, Lr, rfl, h3, h4, rfl, rfl, hb, hl, hr⟩ := h.node
      obtain ⟨n1, n2, _, _, _⟩ := nodup_mid hn
      rw [po_some]
      rcases Int.lt_trichotomy (En.cmp x y) 0 with hc | hc | hc
      · exact add_lo hb hl hr hn hs (by omega) (by omega) h3 h4 x hx hc (fun W hW => ih dl (by omega) W l Bl Ll hW n1 hs.left (by omega))
      · exact add_eq hb hl hr hn hs (by omega) (by omega) h3 h4 x hx hc
      · exact add_hi hb hl hr hn hs (by omega) (by omega) h3 h4 x hx hc (fun W hW => ih dr (by omega) W r Br Lr hW n2 hs.right (by omega))
end
end Go.Proofs.Ytmbbmgkbhfnchaa
