/- What Read of package cell returns. Conditions: the Cell and its Clock lie in memory. -/
import Derived.Test.YtpjjpjdamieeeaaPh
namespace Go.Proofs.Ytpjjpjdamieeeaa
set_option maxRecDepth 100000
set_option linter.unusedVariables false
open Go.ChangeShapes Go.WideShapes Go.ChangeAt Go.RowKit Go.Shelf
attribute [local go_sem] Oper.semAt_some
theorem blk_kept {W W' : World} {row : Option Nat} {B : Nat} {cs : Array Value} {ty : TypeId} (h : W.heap[B]? = some (.cells cs ty (0, 0))) (hg : W.grownBy W' row) (hr : ∀ r, row = some r → ∃ o : Obj, W.heap[r]? = some o ∧ o.isCells = false) : W'.heap[B]? = some (.cells cs ty (0, 0)) :=
  (hg.block B (block_lt h) (fun e => by obtain ⟨o, ho, hc⟩ := hr B e.symm; rw [h] at ho; injection ho with ho; subst ho; cases hc)).trans h
theorem below_kept {n0 B : Nat} {w0 W W' : World} {row : Option Nat} (hn : n0 ≤ w0.heap.size) (hB : n0 ≤ B) (h : Below n0 w0 W) (hg : W.grownBy W' row) (hr : ∀ r, row = some r → B ≤ r) : Below n0 w0 W' :=
  h.grown hg (Nat.le_trans hn h.size) (fun k e => Nat.le_trans hB (hr k e))
/-- Two boxes, one behind the other, are written. -/
theorem set_two {W : World} {B : Nat} {u0 u1 : Value} {t0 t1 : TypeId} (h0 : W.heap[B]? = some (.cells #[u0] t0 (0, 0))) (h1 : W.heap[B + 1]? = some (.cells #[u1] t1 (0, 0))) (v0 v1 : Value) :
    ((W.setCell ⟨B, 0, none⟩ v0).setCell ⟨B + 1, 0, none⟩ v1).heap[B]? = some (.cells #[v0] t0 (0, 0)) ∧ ((W.setCell ⟨B, 0, none⟩ v0).setCell ⟨B + 1, 0, none⟩ v1).heap[B + 1]? = some (.cells #[v1] t1 (0, 0)) := by
  have e1 : (W.setCell ⟨B, 0, none⟩ v0).heap[B + 1]? = some (.cells #[u1] t1 (0, 0)) := (Below.heap_setCell W ⟨B, 0, none⟩ v0 (B + 1) (fun e => by simp only at e; omega)).trans h1
  refine ⟨(Below.heap_setCell _ ⟨B + 1, 0, none⟩ v1 B (fun e => by simp only at e; omega)).trans ?_, ?_⟩
  · rw [heap_setCell_same W B 0 _ _ v0 h0]; rfl
  · rw [heap_setCell_same _ (B + 1) 0 _ _ v1 e1]; rfl
theorem set_two_far (W : World) (B : Nat) (v0 v1 : Value) (k : Nat) (h0 : k ≠ B) (h1 : k ≠ B + 1) : ((W.setCell ⟨B, 0, none⟩ v0).setCell ⟨B + 1, 0, none⟩ v1).heap[k]? = W.heap[k]? :=
  (Below.heap_setCell _ ⟨B + 1, 0, none⟩ v1 k h1).trans (Below.heap_setCell W ⟨B, 0, none⟩ v0 k h0)
theorem ret_world {w W2 W W3 : World} {c : Ck} {t : Int} {l : List (Ver Int)} {u0 u1 : Value} (hb3 : Below W.heap.size W W3) (hB : Below w.heap.size w W) (hs : W2.heap.size ≤ W.heap.size) (hz : w.heap.size + 1 + 1 + 1 < W2.heap.size)
    (h2 : W.heap[w.heap.size + 1 + 1]? = some (.cells #[u0] 3 (0, 0))) (h3 : W.heap[w.heap.size + 1 + 1 + 1]? = some (.cells #[u1] 4 (0, 0))) (pre : List (Fin l.length)) (x : Fin l.length) (hno : ∀ z ∈ pre, c.sees t l[z.1].w = false) (hse : c.sees t l[x.1].w = true) {kk : Int} (hk : kk = kv l[x.1]) {gg : Bool} (hg : gg = !l[x.1].g) :
    KeepsFrom W2.heap.size W ((W3.setCell ⟨w.heap.size + 1 + 1, 0, none⟩ (.int .i64 kk)).setCell ⟨w.heap.size + 1 + 1 + 1, 0, none⟩ (.bool gg)).drew ∧ Code.ret = Code.ret ∧ ∃ (pre' : List (Fin l.length)) (x' : Fin l.length), pre ++ [x] = pre' ++ [x'] ∧ (∀ y ∈ pre', c.sees t l[y.1].w = false) ∧ c.sees t l[x'.1].w = true ∧ (((W3.setCell ⟨w.heap.size + 1 + 1, 0, none⟩ (.int .i64 kk)).setCell ⟨w.heap.size + 1 + 1 + 1, 0, none⟩ (.bool gg)).drew.heap[w.heap.size + 1 + 1]? = some (.cells #[.int .i64 (kv l[x'.1])] 3 (0, 0)) ∧ ((W3.setCell ⟨w.heap.size + 1 + 1, 0, none⟩ (.int .i64 kk)).setCell ⟨w.heap.size + 1 + 1 + 1, 0, none⟩ (.bool gg)).drew.heap[w.heap.size + 1 + 1 + 1]? = some (.cells #[.bool (!l[x'.1].g)] 4 (0, 0))) ∧ Below w.heap.size w ((W3.setCell ⟨w.heap.size + 1 + 1, 0, none⟩ (.int .i64 kk)).setCell ⟨w.heap.size + 1 + 1 + 1, 0, none⟩ (.bool gg)).drew := by
  subst hk
  subst hg
  have hs2 := hB.size
  have e2 := (hb3.block _ (block_lt h2)).trans h2
  have e3 := (hb3.block _ (block_lt h3)).trans h3
  have hV := set_two e2 e3 (.int .i64 (kv l[x.1])) (.bool (!l[x.1].g))
  refine ⟨?_, rfl, pre, x, rfl, hno, hse, hV, (below_set (below_set (hB.trans (hb3.mono hs2)) (by omega)) (by omega)).drew⟩
  refine KeepsFrom.trans (KeepsFrom.of_grownBy (grown_of_below hb3 none) (fun j e => by cases e)) ?_
  exact KeepsFrom.trans ((KeepsOthers.setCell _ _ _).from _) (KeepsFrom.trans ((KeepsOthers.setCell _ _ _).from _) (KeepsFrom.of_grownBy (grown_drew _ none) (fun j e => by cases e)))
section
variable {F R : Nat → Prop} {w : World} {a b : Nat} {c : Ck} {l : List (Ver Int)}
set_option maxHeartbeats 4000000 in
theorem cread_any (h : CC F w a l) (hr : PC R w b c) (t : Int) :
    Calls Try.prog 16 #[.pointer (some ⟨a, 0, none⟩), .pointer (some ⟨b, 0, none⟩), .int .i64 t] w fun e w' => e = .returned (.tuple #[.int .i64 (Ver.rdV 0 (Ver.rdX c t l)), .bool (Ver.rdB (Ver.rdX c t l))]) ∧ Below w.heap.size w w' := by
  refine (callsIn_wide (n := 3)).1 ?_
  refine callsIn_of_wp_marks Try.func16 rfl trivial ?_ rfl
  simp only [Try.ntmps16, List.size_toArray, List.length_cons, List.length_nil, Nat.reduceAdd, Nat.reduceSub, Array.replicate_succ, Array.replicate_zero, List.push_toArray, List.append_toArray, List.nil_append, List.cons_append]
  obtain ⟨v1, hm⟩ := h
  have HM := Lib.hid hm
  obtain ⟨W1, hW1⟩ : ∃ W1, (((w.alloc (.cells #[.pointer (some ⟨b, 0, none⟩)] 30)).alloc (.cells #[.int .i64 t] 3)).alloc (.cells #[.int .i64 0] 3)).alloc (.cells #[.bool false] 4) = W1 := ⟨_, rfl⟩
  have hz1 : W1.heap.size = w.heap.size + 1 + 1 + 1 + 1 := by rw [← hW1]; simp
  have hb1 : Below w.heap.size w W1 := by
    rw [← hW1]; exact ((((Below.refl w.heap.size w).alloc (Nat.le_refl _) _).alloc (by simp) _).alloc (by simp; omega) _).alloc (by simp; omega) _
  have x0 : W1.heap[w.heap.size]? = some (.cells #[.pointer (some ⟨b, 0, none⟩)] 30 (0, 0)) := by
    rw [← hW1]; exact (Below.heap_alloc _ _ _ (by simp; omega)).trans ((Below.heap_alloc _ _ _ (by simp; omega)).trans ((Below.heap_alloc _ _ _ (by simp)).trans (heap_alloc_new w _)))
  have x1 : W1.heap[w.heap.size + 1]? = some (.cells #[.int .i64 t] 3 (0, 0)) := by
    rw [← hW1]
    refine (Below.heap_alloc _ _ _ (by simp)).trans ((Below.heap_alloc _ _ _ (by simp)).trans ?_)
    have := heap_alloc_new (w.alloc (.cells #[.pointer (some ⟨b, 0, none⟩)] 30)) (.cells #[.int .i64 t] 3)
    simp only [World.size_alloc] at this; exact this
  have x2 : W1.heap[w.heap.size + 1 + 1]? = some (.cells #[.int .i64 0] 3 (0, 0)) := by
    rw [← hW1]
    refine (Below.heap_alloc _ _ _ (by simp)).trans ?_
    have := heap_alloc_new ((w.alloc (.cells #[.pointer (some ⟨b, 0, none⟩)] 30)).alloc (.cells #[.int .i64 t] 3)) (.cells #[.int .i64 0] 3)
    simp only [World.size_alloc] at this; exact this
  have x3 : W1.heap[w.heap.size + 1 + 1 + 1]? = some (.cells #[.bool false] 4 (0, 0)) := by
    rw [← hW1]
    have := heap_alloc_new (((w.alloc (.cells #[.pointer (some ⟨b, 0, none⟩)] 30)).alloc (.cells #[.int .i64 t] 3)).alloc (.cells #[.int .i64 0] 3)) (.cells #[.bool false] 4)
    simp only [World.size_alloc] at this; exact this
  obtain ⟨k0, kf⟩ := (hm.below hb1).cells
  have HBK := Lib.hid (back_any v1 W1 (by obtain ⟨A, c, e⟩ := hm.r1.slice; exact ⟨A, _, c, e⟩))
  have HPC := Lib.hid hr
  obtain ⟨post, hpost⟩ : ∃ post, bodyPostM Fence.wide 3 Try.prog Try.f16 (fun e w' => e = .returned (.tuple #[.int .i64 (Ver.rdV 0 (Ver.rdX c t l)), .bool (Ver.rdB (Ver.rdX c t l))]) ∧ Below w.heap.size w w') = post := ⟨_, rfl⟩
  rw [hpost]
  have HPOST := Lib.hid hpost
  clear hpost
  refine wpIn_wide.2 ?_
  obtain ⟨A, cp, rfl⟩ := hm.r1.slice
  clear hm hr
  go_upto_region 1 with fail
  clear hW1
  go_wp2_with (go_at_call 46; (with_reducible refine HBK.out.mono ?_); rintro e w2 ⟨rfl, rfl⟩)
  have hz2 : (W1.alloc (.cells #[.slice A l.length cp] 83)).heap.size = w.heap.size + 1 + 1 + 1 + 1 + 1 := by simp [hz1]
  have hb2 := (Below.refl W1.heap.size W1).alloc (Nat.le_refl _) (.cells #[.slice A l.length cp] 83)
  have y4 := heap_alloc_new W1 (.cells #[.slice A l.length cp] 83)
  rw [hz1] at y4
  generalize W1.alloc (.cells #[.slice A l.length cp] 83) = W2 at *
  have y0 := (hb2.block _ (block_lt x0)).trans x0
  have y1 := (hb2.block _ (block_lt x1)).trans x1
  have y2 := (hb2.block _ (block_lt x2)).trans x2
  have y3 := (hb2.block _ (block_lt x3)).trans x3
  have hbw2 : Below w.heap.size w W2 := hb1.trans (hb2.mono hb1.size)
  have HRow := Lib.hid (HM.out.below hbw2).r1
  clear x0 x1 x2 x3 k0 kf HBK hb1 hb2
  refine (wpIn_wide (n := 3)).1 (wpIn_rangeFunc_ownH rfl (by omega) (gf := 63) (lb := #[.pointer (some ⟨w.heap.size + 1 + 1 + 1 + 1, 0, none⟩)]) rfl trivial (enters_of Try.func63 (by kernel_rfl) rfl)
    (back_stops 2 (by omega) (w.heap.size + 1 + 1 + 1 + 1) (.slice A l.length cp) l W2 y4 HRow.out) belowK_t (belowK_b (Nat.le_refl _)) (Below.refl _ _) (fun _ => rfl)
    (fun pre W => ((W.heap[w.heap.size]? = some (.cells #[.pointer (some ⟨b, 0, none⟩)] 30 (0, 0)) ∧ W.heap[w.heap.size + 1]? = some (.cells #[.int .i64 t] 3 (0, 0))) ∧ W.heap[w.heap.size + 1 + 1]? = some (.cells #[.int .i64 0] 3 (0, 0)) ∧ W.heap[w.heap.size + 1 + 1 + 1]? = some (.cells #[.bool false] 4 (0, 0))) ∧ (Below w.heap.size w W ∧ W2.heap.size ≤ W.heap.size) ∧ ∀ x ∈ pre, c.sees t l[x.1].w = false)
    (fun cd pre W => cd = Code.ret ∧ ∃ (pre' : List (Fin l.length)) (x : Fin l.length), pre = pre' ++ [x] ∧ (∀ y ∈ pre', c.sees t l[y.1].w = false) ∧ c.sees t l[x.1].w = true ∧ (W.heap[w.heap.size + 1 + 1]? = some (.cells #[.int .i64 (kv l[x.1])] 3 (0, 0)) ∧ W.heap[w.heap.size + 1 + 1 + 1]? = some (.cells #[.bool (!l[x.1].g)] 4 (0, 0))) ∧ Below w.heap.size w W)
    (fun pre W W' row hs hg hr => ⟨⟨⟨blk_kept hs.1.1.1 hg (fun r e => (hr r e).2), blk_kept hs.1.1.2 hg (fun r e => (hr r e).2)⟩, blk_kept hs.1.2.1 hg (fun r e => (hr r e).2), blk_kept hs.1.2.2 hg (fun r e => (hr r e).2)⟩, ⟨below_kept (Nat.le_refl _) (by omega) hs.2.1.1 hg (fun r e => (hr r e).1), Nat.le_trans hs.2.1.2 hg.size⟩, hs.2.2⟩)
    (fun cd pre W W' row hs hg hr => by
      obtain ⟨h1, pre', x, h2, h3, h4, ⟨h5, h6⟩, h7⟩ := hs
      exact ⟨h1, pre', x, h2, h3, h4, ⟨blk_kept h5 hg (fun r e => (hr r e).2), blk_kept h6 hg (fun r e => (hr r e).2)⟩, below_kept (Nat.le_refl _) (by omega) h7 hg (fun r e => (hr r e).1)⟩)
    ⟨⟨⟨y0, y1⟩, y2, y3⟩, ⟨hbw2, Nat.le_refl _⟩, fun x hx => by cases hx⟩
    (fun x a' W => ∃ Bx, W2.heap.size ≤ Bx ∧ W.heap[Bx]? = some (.cells #[.int .i64 l[x.1].w, .int .i64 (kv l[x.1]), .bool l[x.1].g] 85 (0, 0)) ∧ a' = { tmps := #[.pointer (some ⟨a, 0, none⟩), .pointer (some ⟨b, 0, none⟩), .int .i64 t, undef, .pointer (some ⟨w.heap.size, 0, none⟩), .pointer (some ⟨w.heap.size + 1, 0, none⟩), .pointer (some ⟨w.heap.size + 1 + 1, 0, none⟩), .pointer (some ⟨w.heap.size + 1 + 1 + 1, 0, none⟩), .int .i64 0, undef, .pointer (some ⟨Bx, 0, none⟩), .pointer (some ⟨a, 0, none⟩), .bool false, undef, .pointer (some ⟨a, 0, none⟩), .pointer (some ⟨a, 0, none⟩), .pointer (some ⟨a, 0, none⟩), .slice A l.length cp, .func (.func 63) #[] #[.pointer (some ⟨w.heap.size + 1 + 1 + 1 + 1, 0, none⟩)], .int .i64 (x.1 : Nat), .agg #[.int .i64 l[x.1].w, .int .i64 (kv l[x.1]), .bool l[x.1].g], undef, undef, undef, undef, undef, undef, undef, undef, undef, undef, undef], defers := [] })
    (fun x a' _ X Y row hs hg hr => by obtain ⟨Bx, h1, h2, h3⟩ := hs; exact ⟨Bx, h1, blk_kept h2 hg (fun r e => (hr r e).2), h3⟩)
    ?assign ?body ?done ?stop)
  case assign =>
    rintro lp pre x W K ⟨hbx, hB, hno⟩ hK
    have HBX := Lib.hid hbx
    have HBB := Lib.hid hB
    have HNO := Lib.hid hno
    have HK := Lib.hid hK
    clear hbx hB hno hK y0 y1 y2 y3 y4
    unfold bkA
    generalize l[x.1] = y at *
    gi_wp2
    have hs := HBB.out.1.size
    have hs2 := HBB.out.2
    have hal := (Below.refl W.heap.size W).alloc (Nat.le_refl _) (.cells #[.int .i64 y.w, .int .i64 (kv y), .bool y.g] 85)
    exact HK.out _ _ ((KeepsOthers.alloc _ _).from _) (hal.mono hs2) ⟨⟨⟨(hal.block _ (block_lt HBX.out.1.1)).trans HBX.out.1.1, (hal.block _ (block_lt HBX.out.1.2)).trans HBX.out.1.2⟩, (hal.block _ (block_lt HBX.out.2.1)).trans HBX.out.2.1, (hal.block _ (block_lt HBX.out.2.2)).trans HBX.out.2.2⟩, ⟨HBB.out.1.trans (hal.mono hs), Nat.le_trans hs2 hal.size⟩, HNO.out⟩ ⟨W.heap.size, hs2, heap_alloc_new W _, rfl⟩
  case body =>
    rintro lp pre x a' W hl ⟨r, hr⟩ ⟨hbx, hB, hno⟩ ⟨Bx, hBx, hblk, rfl⟩ hlt
    have HBX := Lib.hid hbx
    have HBB := Lib.hid hB
    have HNO := Lib.hid hno
    have HPW := Lib.hid (HPC.out.below hB.1)
    have HS := sees_any HPW.out t l[x.1].w
    have q0 : W.cell? ⟨Bx, 0, none⟩ = some (.int .i64 l[x.1].w) := (cell_of_row W _ 0 _ _ _ hblk).trans rfl
    have q1 : W.cell? ⟨w.heap.size, 0, none⟩ = some (.pointer (some ⟨b, 0, none⟩)) := (cell_of_row W _ 0 _ _ _ hbx.1.1).trans rfl
    have q2 : W.cell? ⟨w.heap.size + 1, 0, none⟩ = some (.int .i64 t) := (cell_of_row W _ 0 _ _ _ hbx.1.2).trans rfl
    have HBLK := Lib.hid hblk
    clear hbx hB hno hblk y0 y1 y2 y3 y4
    cases hse : c.sees t l[x.1].w with
    | false =>
      rw [hse] at HS
      have HS := Lib.hid HS
      have HN2 : Hid (∀ z ∈ pre ++ [x], c.sees t l[z.1].w = false) := fun z hz => by
        rcases List.mem_append.1 hz with h | h
        · exact HNO.out z h
        · rw [List.mem_singleton] at h; subst h; exact hse
      clear hse
      generalize l[x.1] = y at *
      gi_wp2_with (refine ⟨trivial, ?_⟩; gi_at_call 47; refine (CallsIn.inRound lp (callsIn_wide.2 HS.out)).mono ?_; rintro er' W3 ⟨rfl, hb3⟩; have HB3 := Lib.hid hb3; clear hb3)
      have hb3 := HB3.out
      refine ⟨KeepsFrom.of_grownBy (grown_of_below hb3 none) (fun j e => by cases e), hb3.mono HBB.out.2, ⟨⟨(hb3.block _ (block_lt HBX.out.1.1)).trans HBX.out.1.1, (hb3.block _ (block_lt HBX.out.1.2)).trans HBX.out.1.2⟩, (hb3.block _ (block_lt HBX.out.2.1)).trans HBX.out.2.1, (hb3.block _ (block_lt HBX.out.2.2)).trans HBX.out.2.2⟩, ⟨HBB.out.1.trans (hb3.mono HBB.out.1.size), Nat.le_trans HBB.out.2 hb3.size⟩, HN2.out⟩
    | true =>
      rw [hse] at HS
      have HS := Lib.hid HS
      have HSE := Lib.hid hse
      clear hse
      obtain ⟨y, hy⟩ : ∃ y, y = l[x.1] := ⟨_, rfl⟩
      have HY := Lib.hid hy
      rw [← hy] at q0 HS HBLK HSE
      clear hy
      gi_wp2_with (refine ⟨trivial, ?_⟩; gi_at_call 47; refine (CallsIn.inRound lp (callsIn_wide.2 HS.out)).mono ?_; rintro er' W3 ⟨rfl, hb3⟩; have HB3 := Lib.hid hb3; have d1 : W3.cell? ⟨Bx, 1, none⟩ = some (.int .i64 (kv y)) := box_at HBLK.out hb3 1; have d2 : W3.cell? ⟨Bx, 2, none⟩ = some (.bool y.g) := box_at HBLK.out hb3 2; have r2 : W3.cell? ⟨w.heap.size + 1 + 1, 0, none⟩ = some (.int .i64 0) := box_at HBX.out.2.1 hb3 0; have r3 : W3.cell? ⟨w.heap.size + 1 + 1 + 1, 0, none⟩ = some (.bool false) := box_at HBX.out.2.2 hb3 0; have f2 := frozen_at HBX.out.2.1 hb3; have f3 := frozen_at HBX.out.2.2 hb3; clear hb3)
      have hmix : Try.prog.follows .mixedOrders = true := by kernel_rfl
      gi_region_with_o (fail)
      all_goals (
        gi_wp2
        exact ret_world HB3.out HBB.out.1 HBB.out.2 (by omega) HBX.out.2.1 HBX.out.2.2 pre x HNO.out (by rw [← HY.out]; exact HSE.out) (by rw [← HY.out]) (by rw [← HY.out]))
  case done =>
    rintro D xs W hD rfl ⟨hbx, hB, hno⟩ hK
    have HBB := Lib.hid hB
    have HBX := Lib.hid hbx
    have HNO := Lib.hid hno
    have d2 : W.cell? ⟨w.heap.size + 1 + 1, 0, none⟩ = some (.int .i64 0) := (cell_of_row W _ 0 _ _ _ hbx.2.1).trans rfl
    have d3 : W.cell? ⟨w.heap.size + 1 + 1 + 1, 0, none⟩ = some (.bool false) := (cell_of_row W _ 0 _ _ _ hbx.2.2).trans rfl
    have f2 := fun o => frozen_of_row W (w.heap.size + 1 + 1) o _ _ hbx.2.1
    have f3 := fun o => frozen_of_row W (w.heap.size + 1 + 1 + 1) o _ _ hbx.2.2
    have HRD : Hid (Ver.rdX c t l = none) := rd_none (fun j hj => HNO.out ⟨j, hj⟩ (dns_mem l.length (Nat.le_refl _) ⟨j, hj⟩ (by omega)))
    clear hbx hB hno y0 y1 y2 y3 y4
    go_wp2
    show post _ _ _
    rw [← HPOST.out]
    have hV := set_two HBX.out.2.1 HBX.out.2.2 (.int .i64 0) (.bool false)
    have hK' := (set_two_far W (w.heap.size + 1 + 1) (.int .i64 0) (.bool false) D (by omega) (by omega)).trans hK
    have hB2 : Below w.heap.size w ((W.setCell ⟨w.heap.size + 1 + 1, 0, none⟩ (.int .i64 0)).setCell ⟨w.heap.size + 1 + 1 + 1, 0, none⟩ (.bool false)) := below_set (below_set HBB.out.1 (by omega)) (by omega)
    generalize (W.setCell ⟨w.heap.size + 1 + 1, 0, none⟩ (.int .i64 0)).setCell ⟨w.heap.size + 1 + 1 + 1, 0, none⟩ (.bool false) = V at *
    refine ⟨by simp, .inl ⟨_, _, rfl, run_takeDeferred hK', ?_⟩⟩
    have hg := grownBy_putObj' V D (.deferred none)
    have hnc : ∀ r, some D = some r → ∃ o : Obj, V.heap[r]? = some o ∧ o.isCells = false := fun r e => by cases e; exact ⟨_, hK', rfl⟩
    have c2 : (V.putObj D (.deferred none)).cell? ⟨w.heap.size + 1 + 1, 0, none⟩ = some (.int .i64 0) := (cell_of_row _ _ 0 _ _ _ (blk_kept hV.1 hg hnc)).trans rfl
    have c3 : (V.putObj D (.deferred none)).cell? ⟨w.heap.size + 1 + 1 + 1, 0, none⟩ = some (.bool false) := (cell_of_row _ _ 0 _ _ _ (blk_kept hV.2 hg hnc)).trans rfl
    refine ⟨.tuple #[.int .i64 0, .bool false], by simp [results, Try.f16, go_sem, c2, c3], ?_⟩
    rw [HRD.out]
    exact ⟨rfl, hB2.grown hg hB2.size (fun k e => by cases e; omega)⟩
  case stop =>
    rintro D cd pre W hD ⟨q, hq, rfl⟩ ⟨rfl, pre', x, hpx, hno, hse, ⟨hr2, hr3⟩, hB⟩ hK
    rw [dns_succ hq] at hpx
    obtain ⟨hp1, hp2⟩ := List.append_inj' hpx rfl
    injection hp2 with hp2
    subst hp1
    have hx1 : x.1 = l.length - 1 - q := by rw [← hp2]
    have HRD : Hid (Ver.rdX c t l = some l[x.1]) := rd_at x.2 hse (fun j hj hlt => hno ⟨j, hj⟩ (dns_mem q (by omega) ⟨j, hj⟩ (by show l.length - q ≤ j; omega)))
    have HBB := Lib.hid hB
    have HR2 := Lib.hid hr2
    have HR3 := Lib.hid hr3
    clear hno hse hr2 hr3 hB y0 y1 y2 y3 y4
    generalize l[x.1] = y at *
    refine wpIn_wide.2 ?_
    go_wp2
    show post _ _ _
    rw [← HPOST.out]
    refine ⟨by simp, .inl ⟨_, _, rfl, run_takeDeferred hK, ?_⟩⟩
    have hg := grownBy_putObj' W D (.deferred none)
    have hnc : ∀ r, some D = some r → ∃ o : Obj, W.heap[r]? = some o ∧ o.isCells = false := fun r e => by cases e; exact ⟨_, hK, rfl⟩
    have c2 : (W.putObj D (.deferred none)).cell? ⟨w.heap.size + 1 + 1, 0, none⟩ = some (.int .i64 (kv y)) := (cell_of_row _ _ 0 _ _ _ (blk_kept HR2.out hg hnc)).trans rfl
    have c3 : (W.putObj D (.deferred none)).cell? ⟨w.heap.size + 1 + 1 + 1, 0, none⟩ = some (.bool (!y.g)) := (cell_of_row _ _ 0 _ _ _ (blk_kept HR3.out hg hnc)).trans rfl
    refine ⟨.tuple #[.int .i64 (kv y), .bool (!y.g)], by simp [results, Try.f16, go_sem, c2, c3], ?_⟩
    rw [HRD.out]
    refine ⟨?_, HBB.out.grown hg HBB.out.size (fun k e => by cases e; omega)⟩
    unfold kv
    obtain ⟨yw, yv, yg⟩ := y
    cases yg <;> rfl
theorem cread_nil (w : World) (p : Option Addr) (t : Int) :
    Calls Try.prog 16 #[.pointer none, .pointer p, .int .i64 t] w fun e w' => e = .returned (.tuple #[.int .i64 0, .bool false]) ∧ Below w.heap.size w w' := by
  have hb := (((((Below.refl w.heap.size w).alloc (Nat.le_refl _) (.cells #[.pointer p] 30)).alloc (by simp) (.cells #[.int .i64 t] 3)).alloc (by simp; omega) (.cells #[.int .i64 0] 3)).alloc (by simp; omega) (.cells #[.bool false] 4))
  have HB := Lib.hid hb
  clear hb
  go_enter Try.func16, Try.ntmps16
  go_wp2
  exact bodyPost_ret (v := .tuple #[.int .i64 0, .bool false]) (by simp [results, Try.results16, go_sem]) rfl ⟨rfl, HB.out⟩
end
end Go.Proofs.Ytpjjpjdamieeeaa
