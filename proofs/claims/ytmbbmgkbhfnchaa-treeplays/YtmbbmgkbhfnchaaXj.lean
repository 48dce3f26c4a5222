/- The program's Tree in memory (PM, PT), its methods, and that they keep what chapter 9's laws ask (prog9). Conditions: those of each contract. -/
import Derived.Test.YtmbbmgkbhfnchaaXi
import Derived.Laws.MakeOwn
namespace Go.Proofs.Ytmbbmgkbhfnchaa
set_option maxRecDepth 100000
set_option linter.unusedVariables false
open Go.ChangeShapes Go.WideShapes Go.ChangeAt Go.RowKit
open Fl (S)
open Val (V cmpV cmpI isB)
/-- The Tree in block a, its root at p; all of it in blocks of F. -/
structure PM (F : Nat → Prop) (w : World) (a : Nat) (p : Option Nat) (d : Nat) (B : List Nat) (L : List En) : Prop where
  lt : ∀ k, F k → k < w.heap.size
  fa : F a
  fb : ∀ k, k ∈ B → F k
  na : a ∉ B
  blk : w.heap[a]? = some (.cells #[po p, .int .i64 (L.length : Nat)] 59 (0, 0))
  tn : TN w d p B L
  nd : B.Nodup
  srt : Srt L
def PT (F : Nat → Prop) (w : World) (a : Nat) (L : List En) : Prop := ∃ p d B, PM F w a p d B L
section
variable {F F' : Nat → Prop} {w w' w2 : World} {a : Nat} {p p2 : Option Nat} {d d2 : Nat} {B B2 : List Nat} {L L2 : List En} {x : En}
theorem pt_same (h : PT F w a L) (hF : ∀ k, F k → F' k) (hlt : ∀ k, F' k → k < w'.heap.size) (hw : ∀ k, F k → w'.heap[k]? = w.heap[k]?) : PT F' w' a L := by
  obtain ⟨p, d, B, h⟩ := h
  exact ⟨p, d, B, hlt, hF a h.fa, fun k hk => hF k (h.fb k hk), h.na, (hw a h.fa).trans h.blk, h.tn.same (fun k hk => hw k (h.fb k hk)), h.nd, h.srt⟩
theorem pt_lt (h : PT F w a L) : ∀ k, F k → k < w.heap.size := by obtain ⟨p, d, B, h⟩ := h; exact h.lt
theorem pt_srt (h : PT F w a L) : Srt L := by obtain ⟨p, d, B, h⟩ := h; exact h.srt
theorem PM.cells (h : PM F w a p d B L) (hw : w'.heap[a]? = w.heap[a]?) : w'.cell? ⟨a, 0, none⟩ = some (po p) ∧ w'.cell? ⟨a, 1, none⟩ = some (.int .i64 (L.length : Nat)) ∧ ∀ o, w'.frozen? ⟨a, o, none⟩ = false := by
  have hb := hw.trans h.blk
  refine ⟨?_, ?_, fun o => frozen_of_row w' a o _ _ hb⟩ <;> rw [cell_of_row w' a _ _ _ _ hb] <;> rfl
theorem pnew_any (w : World) : Calls Try.prog 10 #[] w fun e w' => ∃ a F, e = .returned (.pointer (some ⟨a, 0, none⟩)) ∧ PT F w' a [] ∧ (∀ k, F k → w.heap.size ≤ k) ∧ Below w.heap.size w w' := by
  go_enter Try.func10, Try.ntmps10
  go_wp2
  go_ret
  exact ⟨w.heap.size, fun k => k = w.heap.size, rfl, ⟨none, 0, [], (fun k hk => by simp [hk]), rfl, (fun k hk => by cases hk), (fun h => by cases h), heap_alloc_new w _, tn_none _, List.nodup_nil, Srt.nil⟩, fun k hk => by omega, (Below.refl _ _).alloc (Nat.le_refl _) _⟩
theorem paddN (w : World) (x : En) : Calls Try.prog 11 #[.pointer none, ev x] w fun e w' => e = .returned (.bool false) ∧ Below w.heap.size w w' := by
  obtain ⟨⟨k, b, n, f, t⟩, i⟩ := x
  go_enter Try.func11, Try.ntmps11
  go_wp2
  go_ret
  exact ⟨rfl, one_box w _⟩
theorem pdelN (w : World) (x : En) : Calls Try.prog 13 #[.pointer none, ev x] w fun e w' => e = .returned (.bool false) ∧ Below w.heap.size w w' := by
  obtain ⟨⟨k, b, n, f, t⟩, i⟩ := x
  go_enter Try.func13, Try.ntmps13
  go_wp2
  go_ret
  exact ⟨rfl, one_box w _⟩
theorem prangeN (w : World) (lo hi : V) : Calls Try.prog 22 #[.pointer none, vv lo, vv hi] w fun e w' => (∃ A c, e = .returned (.slice A 0 c)) ∧ Below w.heap.size w w' := by
  obtain ⟨lk, lb, ln, lf, lt⟩ := lo
  obtain ⟨mk, mb, mn, mf, mt⟩ := hi
  go_enter Try.func22, Try.ntmps22
  go_wp2
  go_ret
  exact ⟨⟨_, _, rfl⟩, two_boxes w _ _⟩
theorem pallN (w : World) : Calls Try.prog 17 #[.pointer none] w fun e w' => (∃ A c, e = .returned (.slice A 0 c)) ∧ Below w.heap.size w w' := by
  go_enter Try.func17, Try.ntmps17
  go_wp2
  go_ret
  exact ⟨⟨_, _, rfl⟩, Below.refl _ _⟩
theorem plenN (w : World) : Calls Try.prog 18 #[.pointer none] w fun e w' => e = .returned (.int .i64 0) ∧ Below w.heap.size w w' := by
  go_enter Try.func18, Try.ntmps18
  go_wp2
  go_ret
  exact ⟨rfl, Below.refl _ _⟩
theorem pdepthN (w : World) : Calls Try.prog 15 #[.pointer none] w fun e w' => e = .returned (.int .i64 0) ∧ Below w.heap.size w w' := by
  go_enter Try.func15, Try.ntmps15
  go_wp2
  go_ret
  exact ⟨rfl, Below.refl _ _⟩
theorem plen_any (h : PT F w a L) : Calls Try.prog 18 #[.pointer (some ⟨a, 0, none⟩)] w fun e w' => e = .returned (.int .i64 (L.length : Nat)) ∧ Below w.heap.size w w' := by
  obtain ⟨p, d, B, h⟩ := h
  obtain ⟨k0, k1, kf⟩ := h.cells rfl
  clear h
  go_enter Try.func18, Try.ntmps18
  go_wp2
  go_ret
  exact ⟨rfl, Below.refl _ _⟩
theorem pdepth_any (h : PT F w a L) : Calls Try.prog 15 #[.pointer (some ⟨a, 0, none⟩)] w fun e w' => ∃ d : Nat, e = .returned (.int .i64 (d : Nat)) ∧ d ≤ 2 * dig L.length ∧ (d = 0 ↔ L = []) ∧ Below w.heap.size w w' := by
  obtain ⟨p, d, B, h⟩ := h
  have HD := Lib.hid (depth_any h.tn.dp)
  have HE := Lib.hid (And.intro (fewest_dig d _ h.tn.few) h.tn.zero)
  obtain ⟨k0, k1, kf⟩ := h.cells rfl
  clear h
  go_enter Try.func15, Try.ntmps15
  go_wp2_with (go_at_call 31; (with_reducible refine HD.out.mono ?_); rintro e w1 ⟨rfl, rfl⟩)
  go_ret
  exact ⟨d, rfl, HE.out.1, HE.out.2, Below.refl _ _⟩
theorem pall_any (h : PT F w a L) (hl : L.length ≤ 100000) : Calls Try.prog 17 #[.pointer (some ⟨a, 0, none⟩)] w fun e w' => ∃ A c, e = .returned (.slice A L.length c) ∧ ERow w' A L ∧ (∀ ad, A = some ad → L = [] ∨ w.heap.size ≤ ad.block) ∧ Below w.heap.size w w' := by
  obtain ⟨p, d, B, h⟩ := h
  obtain ⟨i0, hi0, hz0, hz1, hz2⟩ := info_parts infoEn
  obtain ⟨wm, hrun, hown, hg⟩ := run_make_own (P := Try.prog) w.drew 0 27 34 i0 _ 6 Try.underlying27 hi0 hz0 hz1 .i64 .i64 L.length (by rw [hz2]; omega) (by unfold maxLen; omega) (Nat.zero_le _)
  have hrun2 : (Instr.makeSlice 27 (.int .i64 0) (.int .i64 (L.length : Int))).run Try.prog w.drew = .ok (.slice (some ⟨w.heap.size, 0, none⟩) 0 L.length) wm := hrun
  have hbm : Below w.heap.size w wm := (Below.refl w.heap.size w).drew.grown hg (Nat.le_refl _) (fun k e => by cases e)
  have hre : RE w.heap.size wm (.slice (some ⟨w.heap.size, 0, none⟩) 0 L.length) [] := ⟨hown, fun k hk => by simp [Value.ownBlock] at hk; subst hk; exact Nat.le_refl _⟩
  have HA := Lib.hid (appendAll_any d p B L [] wm _ h.tn hbm hre (by simp; omega))
  have HK := Lib.hid (fun W (hW : Below w.heap.size w W) => show W.cell? ⟨a, 0, none⟩ = some (po p) ∧ W.cell? ⟨a, 1, none⟩ = some (.int .i64 (L.length : Nat)) from by
    obtain ⟨k0, k1, _⟩ := h.cells (hW.block a (h.lt a h.fa))
    exact ⟨k0, k1⟩)
  have hS0 := HK.out w.drew (Below.refl _ _).drew
  have hS1 := HK.out wm hbm
  have hl2 : (L.length : Int) ≤ 100000 := by omega
  clear h hrun hown hg hbm hre hi0 hz0 hz1 hz2
  go_enter Try.func17, Try.ntmps17
  go_upto_region 3 with fail
  go_region_held3 (fun V => V.cell? ⟨a, 0, none⟩ = some (po p) ∧ V.cell? ⟨a, 1, none⟩ = some (.int .i64 (L.length : Nat))) (first | exact hS0 | exact hS1 | exact hS2)
    (first
      | (go_at_call 33; (with_reducible refine HA.out.mono ?_); rintro e w1 ⟨v1, rfl, h1⟩; have hS2 := HK.out w1 h1.b; have H1 := Lib.hid h1; clear h1))
  clear hS0 hS1 hS2
  go_wp2
  go_ret
  have hr := H1.out.r
  rw [List.nil_append] at hr
  obtain ⟨A, c, e, hrow⟩ := hr.row
  subst e
  refine ⟨A, c, rfl, hrow, fun ad ha => .inr ?_, H1.out.b⟩
  subst ha
  exact hr.n _ rfl
theorem prange_any (h : PT F w a L) (lo hi : V) (hlo : lo.f < 2 * S) (hhi : hi.f < 2 * S) (hl : L.length ≤ 100000) : Calls Try.prog 22 #[.pointer (some ⟨a, 0, none⟩), vv lo, vv hi] w fun e w' => ∃ A c, e = .returned (.slice A (rngE L lo hi).length c) ∧ ERow w' A (rngE L lo hi) ∧ Below w.heap.size w w' := by
  obtain ⟨p, d, B, h⟩ := h
  obtain ⟨wb, hwb⟩ : ∃ wb, wb = (w.alloc (.cells #[.int .i64 lo.k, .bool lo.b, .int .i64 lo.n, .float .f64 lo.f, .string lo.t] 32)).alloc (.cells #[.int .i64 hi.k, .bool hi.b, .int .i64 hi.n, .float .f64 hi.f, .string hi.t] 32) := ⟨_, rfl⟩
  have hbb : Below w.heap.size w wb := by rw [hwb]; exact two_boxes w _ _
  have HA := Lib.hid (appendRange_any (w0 := w) lo hi hlo hhi d p B L [] wb.drew (.slice none 0 0) h.tn h.srt hbb.drew (RE.nil _ _) (by simp; omega))
  have q1 : wb.heap[w.heap.size]? = some (.cells #[.int .i64 lo.k, .bool lo.b, .int .i64 lo.n, .float .f64 lo.f, .string lo.t] 32 (0, 0)) := by
    rw [hwb]
    have g1 := heap_alloc_new w (.cells #[.int .i64 lo.k, .bool lo.b, .int .i64 lo.n, .float .f64 lo.f, .string lo.t] 32)
    exact ((one_box _ (.cells #[.int .i64 hi.k, .bool hi.b, .int .i64 hi.n, .float .f64 hi.f, .string hi.t] 32)).block _ (block_lt g1)).trans g1
  have q2 : wb.heap[w.heap.size + 1]? = some (.cells #[.int .i64 hi.k, .bool hi.b, .int .i64 hi.n, .float .f64 hi.f, .string hi.t] 32 (0, 0)) := by
    rw [hwb]
    have g1 := heap_alloc_new (w.alloc (.cells #[.int .i64 lo.k, .bool lo.b, .int .i64 lo.n, .float .f64 lo.f, .string lo.t] 32)) (.cells #[.int .i64 hi.k, .bool hi.b, .int .i64 hi.n, .float .f64 hi.f, .string hi.t] 32)
    rw [show (w.alloc (.cells #[.int .i64 lo.k, .bool lo.b, .int .i64 lo.n, .float .f64 lo.f, .string lo.t] 32)).heap.size = w.heap.size + 1 by simp] at g1
    exact g1
  have HV := Lib.hid (And.intro (vb_box q1 rfl) (vb_box q2 rfl))
  have HK := Lib.hid (h.cells (hbb.block a (h.lt a h.fa)))
  obtain ⟨lk, lb, ln, lf, lt⟩ := lo
  obtain ⟨mk, mb, mn, mf, mt⟩ := hi
  simp only at hwb
  unfold VB at HV
  simp only at HV
  clear h hlo hhi hbb q1 q2
  go_enter Try.func22, Try.ntmps22
  go_upto_region 3 with fail
  rw [← hwb]
  clear hwb
  obtain ⟨⟨b0, b1, b2, b3, b4⟩, ⟨d0, d1, d2, d3, d4⟩⟩ := HV.out
  obtain ⟨k0, k1, kf⟩ := HK.out
  go_still_tail 6, (by kernel_rfl)
  change wpList _ _ _ _ _ wb.drew
  go_wp2_with (go_at_call 35; (with_reducible refine HA.out.mono ?_); rintro e w1 ⟨v1, rfl, h1⟩; have H1 := Lib.hid h1; clear h1)
  go_ret
  have hr := H1.out.r
  rw [List.nil_append] at hr
  obtain ⟨A, c, e, hrow⟩ := hr.row
  subst e
  exact ⟨A, c, rfl, hrow, H1.out.b⟩
end
end Go.Proofs.Ytmbbmgkbhfnchaa
