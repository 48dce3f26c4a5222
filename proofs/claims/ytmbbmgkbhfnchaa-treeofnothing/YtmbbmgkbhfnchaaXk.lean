/- Add and Del of the program's Tree; it keeps what chapter 9's laws ask (prog9). Conditions: the Tree lies in memory; the entry is valid; at most 100,000 entries. -/
import Derived.Test.YtmbbmgkbhfnchaaXj
namespace Go.Proofs.Ytmbbmgkbhfnchaa
set_option maxRecDepth 100000
set_option linter.unusedVariables false
open Go.ChangeShapes Go.WideShapes Go.ChangeAt Go.RowKit
open Fl (S)
open Val (V cmpV cmpI isB)
section
variable {F F' : Nat → Prop} {w w' w2 : World} {a : Nat} {p p2 : Option Nat} {d d2 : Nat} {B B2 : List Nat} {L L2 : List En} {x : En}
/-- The root is laid into the Tree, its number of entries stays. -/
theorem pm_root (h : PM F w a p d B L) (ht : TN w2 d2 p2 B2 L2) (hn : B2.Nodup) (hk : ∀ k, k ∈ B2 → k ∈ B ∨ w.heap.size ≤ k) (hc : Chg (fun k => k ∈ B) w w2) (hs : Srt L2) (hl : L2.length = L.length) :
    PT (Nu F w (w2.setCell ⟨a, 0, none⟩ (po p2))) (w2.setCell ⟨a, 0, none⟩ (po p2)) a L2 ∧ Chg F w (w2.setCell ⟨a, 0, none⟩ (po p2)) := by
  have hz : (w2.setCell ⟨a, 0, none⟩ (po p2)).heap.size = w2.heap.size := by simp [World.setCell]
  have ha : w2.heap[a]? = some (.cells #[po p, .int .i64 (L.length : Nat)] 59 (0, 0)) := (hc.block a (h.lt a h.fa) h.na).trans h.blk
  have hcF : Chg F w w2 := hc.weak (fun k hk => h.fb k hk)
  have na2 : a ∉ B2 := fun hm => by
    rcases hk a hm with h1 | h1
    · exact h.na h1
    · have := h.lt a h.fa; omega
  refine ⟨⟨p2, d2, B2, fun k hkk => ?_, .inl h.fa, fun k hkk => ?_, na2, ?_, ht.same (fun k hkk => heap_setCell_other w2 ⟨a, 0, none⟩ k (po p2) (fun e => na2 (by have e : k = a := e; rw [← e]; exact hkk))), hn, hs⟩, chg_set hcF h.fa _ _⟩
  · rcases hkk with h1 | h1
    · rw [hz]; exact Nat.lt_of_lt_of_le (h.lt k h1) hc.size
    · exact h1.2
  · rcases hk k hkk with h1 | h1
    · exact .inl (h.fb k h1)
    · exact .inr ⟨h1, by rw [hz]; exact ht.lt k hkk⟩
  · have := heap_setCell_same w2 a 0 _ _ (po p2) ha
    rw [this, hl]; rfl
/-- The root and the number of entries are laid into the Tree. -/
theorem pm_both (h : PM F w a p d B L) (ht : TN w2 d2 p2 B2 L2) (hn : B2.Nodup) (hk : ∀ k, k ∈ B2 → k ∈ B ∨ w.heap.size ≤ k) (hc : Chg (fun k => k ∈ B) w w2) (hs : Srt L2) {v : Int} (hv : v = (L2.length : Nat)) :
    PT (Nu F w ((w2.setCell ⟨a, 0, none⟩ (po p2)).setCell ⟨a, 1, none⟩ (.int .i64 v))) ((w2.setCell ⟨a, 0, none⟩ (po p2)).setCell ⟨a, 1, none⟩ (.int .i64 v)) a L2 ∧ Chg F w ((w2.setCell ⟨a, 0, none⟩ (po p2)).setCell ⟨a, 1, none⟩ (.int .i64 v)) := by
  subst hv
  have hz : ((w2.setCell ⟨a, 0, none⟩ (po p2)).setCell ⟨a, 1, none⟩ (.int .i64 (L2.length : Nat))).heap.size = w2.heap.size := by simp [World.setCell]
  have ha : w2.heap[a]? = some (.cells #[po p, .int .i64 (L.length : Nat)] 59 (0, 0)) := (hc.block a (h.lt a h.fa) h.na).trans h.blk
  have hcF : Chg F w w2 := hc.weak (fun k hk => h.fb k hk)
  have na2 : a ∉ B2 := fun hm => by
    rcases hk a hm with h1 | h1
    · exact h.na h1
    · have := h.lt a h.fa; omega
  have ha1 := heap_setCell_same w2 a 0 _ _ (po p2) ha
  refine ⟨⟨p2, d2, B2, fun k hkk => ?_, .inl h.fa, fun k hkk => ?_, na2, ?_, ht.same (fun k hkk => (heap_setCell_other _ ⟨a, 1, none⟩ k _ (fun e => na2 (by have e : k = a := e; rw [← e]; exact hkk))).trans (heap_setCell_other w2 ⟨a, 0, none⟩ k (po p2) (fun e => na2 (by have e : k = a := e; rw [← e]; exact hkk)))), hn, hs⟩, chg_set (chg_set hcF h.fa _ _) h.fa _ _⟩
  · rcases hkk with h1 | h1
    · rw [hz]; exact Nat.lt_of_lt_of_le (h.lt k h1) hc.size
    · exact h1.2
  · rcases hk k hkk with h1 | h1
    · exact .inl (h.fb k h1)
    · exact .inr ⟨h1, by rw [hz]; exact ht.lt k hkk⟩
  · have := heap_setCell_same _ a 1 _ _ (.int .i64 (L2.length : Nat)) ha1
    rw [this]; rfl
theorem PM.below (h : PM F w a p d B L) (hb : Below w.heap.size w w') : PM F w' a p d B L :=
  ⟨fun k hk => Nat.lt_of_lt_of_le (h.lt k hk) hb.size, h.fa, h.fb, h.na, (hb.block a (h.lt a h.fa)).trans h.blk, h.tn.below hb, h.nd, h.srt⟩
/-- The same, seen from an earlier world. -/
theorem pt_later {w1 : World} (hb : Below w.heap.size w w1) (h0 : ∀ k, F k → k < w.heap.size) (h : PT (Nu F w1 w') w' a L ∧ Chg F w1 w') : PT (Nu F w w') w' a L ∧ Chg F w w' := by
  refine ⟨pt_same h.1 (fun k hk => ?_) (fun k hk => ?_) (fun _ _ => rfl), (Chg.below hb).then h.2⟩
  · rcases hk with h1 | h1
    · exact .inl h1
    · exact .inr ⟨Nat.le_trans hb.size h1.1, h1.2⟩
  · rcases hk with h1 | h1
    · exact Nat.lt_of_lt_of_le (h0 k h1) (Nat.le_trans hb.size h.2.size)
    · exact h1.2
theorem padd_t (h : PM F w a p d B L) (hx : EOk x) (hl : L.length ≤ 100000) (hh : hasE L x = true) : Calls Try.prog 11 #[.pointer (some ⟨a, 0, none⟩), ev x] w fun e w' => e = .returned (.bool false) ∧ PT (Nu F w w') w' a (insE L x) ∧ Chg F w w' := by
  have hbx := (Below.refl w.heap.size w).alloc (Nat.le_refl _) (.cells #[.int .i64 x.v.k, .bool x.v.b, .int .i64 x.v.n, .float .f64 x.v.f, .string x.v.t, .int .i64 x.i] 34)
  have HM := Lib.hid h
  have HX := Lib.hid hx
  have HXB := Lib.hid (box_entry w x)
  have HXW := Lib.hid hbx
  have HLN : Hid ((insE L x).length = L.length) := by simp only [Hid]; rw [insE_len, hh]; rfl
  have HMB := Lib.hid (h.below hbx.drew)
  have HA := Lib.hid (add_any x hx d (w.alloc (.cells #[.int .i64 x.v.k, .bool x.v.b, .int .i64 x.v.n, .float .f64 x.v.f, .string x.v.t, .int .i64 x.i] 34)).drew p B L HMB.out.tn h.nd h.srt (Nat.le_trans h.tn.le (by omega)))
  have HQ : Hid ((!hasE L x) = false) := by simp only [Hid]; rw [hh]; rfl
  unfold AddP at HA
  rw [HQ.out] at HA
  have hl1 : (L.length : Int) ≤ 100000 := by omega
  
  clear h hx hl hh hbx HQ
  obtain ⟨⟨xk, xb, xn, xf, xt⟩, xi⟩ := x
  simp only at HXW HXB HMB HA
  go_enter Try.func11, Try.ntmps11
  go_upto_region 3 with fail
  generalize w.alloc (.cells #[.int .i64 xk, .bool xb, .int .i64 xn, .float .f64 xf, .string xt, .int .i64 xi] 34) = u at *
  obtain ⟨x0, x1, x2, x3, x4, x5⟩ := HXB.out
  simp only [Nat.zero_add] at x0 x1 x2 x3 x4 x5
  obtain ⟨k0, k1, kf⟩ := (HM.out.below HXW.out).cells rfl
  go_region_with (go_at_call 28; (with_reducible refine HA.out.mono ?_); rintro e w2 ⟨p2, d2, B2, rfl, ht, hnd, _, _, hk, hch⟩; have HE := Lib.hid (pm_root HMB.out ht hnd hk hch (insE_srt HMB.out.srt HX.out) HLN.out); obtain ⟨q0, q1, qf⟩ := HMB.out.cells (hch.block a (HMB.out.lt a HMB.out.fa) HMB.out.na); clear ht hnd hk hch)
  all_goals
    clear x0 x1 x2 x3 x4 x5 k0 k1 kf HXB HA
    go_wp2
    go_ret
    exact ⟨rfl, pt_later HXW.out.drew HM.out.lt HE.out⟩
theorem padd_f (h : PM F w a p d B L) (hx : EOk x) (hl : L.length ≤ 100000) (hh : hasE L x = false) : Calls Try.prog 11 #[.pointer (some ⟨a, 0, none⟩), ev x] w fun e w' => e = .returned (.bool true) ∧ PT (Nu F w w') w' a (insE L x) ∧ Chg F w w' := by
  have hbx := (Below.refl w.heap.size w).alloc (Nat.le_refl _) (.cells #[.int .i64 x.v.k, .bool x.v.b, .int .i64 x.v.n, .float .f64 x.v.f, .string x.v.t, .int .i64 x.i] 34)
  have HM := Lib.hid h
  have HX := Lib.hid hx
  have HXB := Lib.hid (box_entry w x)
  have HXW := Lib.hid hbx
  have HLN : Hid ((insE L x).length = L.length + 1) := by simp only [Hid]; rw [insE_len, hh]; rfl
  have HMB := Lib.hid (h.below hbx.drew)
  have HA := Lib.hid (add_any x hx d (w.alloc (.cells #[.int .i64 x.v.k, .bool x.v.b, .int .i64 x.v.n, .float .f64 x.v.f, .string x.v.t, .int .i64 x.i] 34)).drew p B L HMB.out.tn h.nd h.srt (Nat.le_trans h.tn.le (by omega)))
  have HQ : Hid ((!hasE L x) = true) := by simp only [Hid]; rw [hh]; rfl
  unfold AddP at HA
  rw [HQ.out] at HA
  have hl1 : (L.length : Int) ≤ 100000 := by omega
  
  clear h hx hl hh hbx HQ
  obtain ⟨⟨xk, xb, xn, xf, xt⟩, xi⟩ := x
  simp only at HXW HXB HMB HA
  go_enter Try.func11, Try.ntmps11
  go_upto_region 3 with fail
  generalize w.alloc (.cells #[.int .i64 xk, .bool xb, .int .i64 xn, .float .f64 xf, .string xt, .int .i64 xi] 34) = u at *
  obtain ⟨x0, x1, x2, x3, x4, x5⟩ := HXB.out
  simp only [Nat.zero_add] at x0 x1 x2 x3 x4 x5
  obtain ⟨k0, k1, kf⟩ := (HM.out.below HXW.out).cells rfl
  go_region_with (go_at_call 28; (with_reducible refine HA.out.mono ?_); rintro e w2 ⟨p2, d2, B2, rfl, ht, hnd, _, _, hk, hch⟩; have HE := Lib.hid (pm_both HMB.out ht hnd hk hch (insE_srt HMB.out.srt HX.out) (v := (L.length : Int) + 1) (by have := HLN.out; omega)); obtain ⟨q0, q1, qf⟩ := HMB.out.cells (hch.block a (HMB.out.lt a HMB.out.fa) HMB.out.na); clear ht hnd hk hch)
  all_goals
    clear x0 x1 x2 x3 x4 x5 k0 k1 kf HXB HA
    go_wp2
    go_ret
    exact ⟨rfl, pt_later HXW.out.drew HM.out.lt HE.out⟩
theorem pdel_t (h : PM F w a p d B L) (hx : EOk x) (hl : L.length ≤ 100000) (hh : hasE L x = true) : Calls Try.prog 13 #[.pointer (some ⟨a, 0, none⟩), ev x] w fun e w' => e = .returned (.bool true) ∧ PT (Nu F w w') w' a (delE L x) ∧ Chg F w w' := by
  have hbx := (Below.refl w.heap.size w).alloc (Nat.le_refl _) (.cells #[.int .i64 x.v.k, .bool x.v.b, .int .i64 x.v.n, .float .f64 x.v.f, .string x.v.t, .int .i64 x.i] 34)
  have HM := Lib.hid h
  have HX := Lib.hid hx
  have HXB := Lib.hid (box_entry w x)
  have HXW := Lib.hid hbx
  have HLN : Hid ((delE L x).length + 1 = L.length) := by have := delE_len L x; rw [hh] at this; exact this
  have HMB := Lib.hid (h.below hbx.drew)
  have HA := Lib.hid (del_any x hx d (w.alloc (.cells #[.int .i64 x.v.k, .bool x.v.b, .int .i64 x.v.n, .float .f64 x.v.f, .string x.v.t, .int .i64 x.i] 34)).drew p B L HMB.out.tn h.nd h.srt (Nat.le_trans h.tn.le (by omega)))
  have HQ : Hid ((hasE L x) = true) := by simp only [Hid]; rw [hh]
  unfold DelP at HA
  rw [HQ.out] at HA
  have hl1 : (L.length : Int) ≤ 100000 := by omega
  have hl3 : (1 : Int) ≤ (L.length : Int) := by have := HLN.out; omega
  clear h hx hl hh hbx HQ
  obtain ⟨⟨xk, xb, xn, xf, xt⟩, xi⟩ := x
  simp only at HXW HXB HMB HA
  go_enter Try.func13, Try.ntmps13
  go_upto_region 3 with fail
  generalize w.alloc (.cells #[.int .i64 xk, .bool xb, .int .i64 xn, .float .f64 xf, .string xt, .int .i64 xi] 34) = u at *
  obtain ⟨x0, x1, x2, x3, x4, x5⟩ := HXB.out
  simp only [Nat.zero_add] at x0 x1 x2 x3 x4 x5
  obtain ⟨k0, k1, kf⟩ := (HM.out.below HXW.out).cells rfl
  go_region_with (go_at_call 30; (with_reducible refine HA.out.mono ?_); rintro e w2 ⟨p2, d2, B2, rfl, ht, hnd, _, _, hk0, hch⟩; have HE := Lib.hid (pm_both HMB.out ht hnd (fun k h => .inl (hk0 k h)) hch (delE_srt HMB.out.srt _) (v := (L.length : Int) - 1) (by have := HLN.out; omega)); obtain ⟨q0, q1, qf⟩ := HMB.out.cells (hch.block a (HMB.out.lt a HMB.out.fa) HMB.out.na); clear ht hnd hk0 hch)
  all_goals
    clear x0 x1 x2 x3 x4 x5 k0 k1 kf HXB HA
    go_wp2
    go_ret
    exact ⟨rfl, pt_later HXW.out.drew HM.out.lt HE.out⟩
theorem pdel_f (h : PM F w a p d B L) (hx : EOk x) (hl : L.length ≤ 100000) (hh : hasE L x = false) : Calls Try.prog 13 #[.pointer (some ⟨a, 0, none⟩), ev x] w fun e w' => e = .returned (.bool false) ∧ PT (Nu F w w') w' a (delE L x) ∧ Chg F w w' := by
  have hbx := (Below.refl w.heap.size w).alloc (Nat.le_refl _) (.cells #[.int .i64 x.v.k, .bool x.v.b, .int .i64 x.v.n, .float .f64 x.v.f, .string x.v.t, .int .i64 x.i] 34)
  have HM := Lib.hid h
  have HX := Lib.hid hx
  have HXB := Lib.hid (box_entry w x)
  have HXW := Lib.hid hbx
  have HLN : Hid ((delE L x).length = L.length) := by have := delE_len L x; rw [hh] at this; exact this
  have HMB := Lib.hid (h.below hbx.drew)
  have HA := Lib.hid (del_any x hx d (w.alloc (.cells #[.int .i64 x.v.k, .bool x.v.b, .int .i64 x.v.n, .float .f64 x.v.f, .string x.v.t, .int .i64 x.i] 34)).drew p B L HMB.out.tn h.nd h.srt (Nat.le_trans h.tn.le (by omega)))
  have HQ : Hid ((hasE L x) = false) := by simp only [Hid]; rw [hh]
  unfold DelP at HA
  rw [HQ.out] at HA
  have hl1 : (L.length : Int) ≤ 100000 := by omega
  
  clear h hx hl hh hbx HQ
  obtain ⟨⟨xk, xb, xn, xf, xt⟩, xi⟩ := x
  simp only at HXW HXB HMB HA
  go_enter Try.func13, Try.ntmps13
  go_upto_region 3 with fail
  generalize w.alloc (.cells #[.int .i64 xk, .bool xb, .int .i64 xn, .float .f64 xf, .string xt, .int .i64 xi] 34) = u at *
  obtain ⟨x0, x1, x2, x3, x4, x5⟩ := HXB.out
  simp only [Nat.zero_add] at x0 x1 x2 x3 x4 x5
  obtain ⟨k0, k1, kf⟩ := (HM.out.below HXW.out).cells rfl
  go_region_with (go_at_call 30; (with_reducible refine HA.out.mono ?_); rintro e w2 ⟨p2, d2, B2, rfl, ht, hnd, _, _, hk0, hch⟩; have HE := Lib.hid (pm_root HMB.out ht hnd (fun k h => .inl (hk0 k h)) hch (delE_srt HMB.out.srt _) HLN.out); obtain ⟨q0, q1, qf⟩ := HMB.out.cells (hch.block a (HMB.out.lt a HMB.out.fa) HMB.out.na); clear ht hnd hk0 hch)
  all_goals
    clear x0 x1 x2 x3 x4 x5 k0 k1 kf HXB HA
    go_wp2
    go_ret
    exact ⟨rfl, pt_later HXW.out.drew HM.out.lt HE.out⟩
theorem padd_any (h : PT F w a L) (x : En) (hx : EOk x) (hl : L.length ≤ 100000) : Calls Try.prog 11 #[.pointer (some ⟨a, 0, none⟩), ev x] w fun e w' => e = .returned (.bool (!hasE L x)) ∧ PT (Nu F w w') w' a (insE L x) ∧ Chg F w w' := by
  obtain ⟨p, d, B, h⟩ := h
  cases hh : hasE L x with
  | true => exact padd_t h hx hl hh
  | false => exact padd_f h hx hl hh
theorem pdel_any (h : PT F w a L) (x : En) (hx : EOk x) (hl : L.length ≤ 100000) : Calls Try.prog 13 #[.pointer (some ⟨a, 0, none⟩), ev x] w fun e w' => e = .returned (.bool (hasE L x)) ∧ PT (Nu F w w') w' a (delE L x) ∧ Chg F w w' := by
  obtain ⟨p, d, B, h⟩ := h
  cases hh : hasE L x with
  | true => exact pdel_t h hx hl hh
  | false => exact pdel_f h hx hl hh
end
/-- The program's Tree keeps what chapter 9's laws ask. -/
theorem prog9 : Prog9 PT where
  same := pt_same
  lt := pt_lt
  srt := pt_srt
  new := pnew_any
  add := padd_any
  del := pdel_any
  range := fun h lo hi _ h2 _ h4 hl => prange_any h lo hi h2 h4 hl
  allF := pall_any
  len := fun h _ => plen_any h
  depth := fun h _ => pdepth_any h
  addN := paddN
  delN := pdelN
  rangeN := prangeN
  allN := pallN
  lenN := plenN
  depthN := pdepthN
end Go.Proofs.Ytmbbmgkbhfnchaa
