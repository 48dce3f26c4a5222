/- What ligaturelaw7.CellSweeps keeps in rows of its own beside the four objects; sweeping again and again, without memory. No condition but those that each fact names. -/
import Derived.Test.YtpjjpjdamieeeaaQd
namespace Go.Proofs.Ytpjjpjdamieeeaa
set_option maxRecDepth 100000
set_option linter.unusedVariables false
open Go.ChangeShapes Go.WideShapes Go.ChangeAt Go.RowKit
/-! What each transaction reads, and whether it may write, without memory. -/
def fv (c : Ck) (l : List (Ver Int)) (t : Int) : Int := if c.isLive t then Ver.rdV 0 (Ver.rdX c t l) else 0
def fb (c : Ck) (l : List (Ver Int)) (t : Int) : Bool := if c.isLive t then Ver.rdB (Ver.rdX c t l) else false
def fe (c : Ck) (l : List (Ver Int)) (t : Int) : Int := if c.isLive t then Ver.chk c t l else 0
def xsK (c : Ck) (l : List (Ver Int)) (k : Nat) : List Value := (List.range k).map fun (i : Nat) => .int .i64 (fv c l ((i : Int) + 1))
def bsK (c : Ck) (l : List (Ver Int)) (k : Nat) : List Value := (List.range k).map fun (i : Nat) => .bool (fb c l ((i : Int) + 1))
def esK (c : Ck) (l : List (Ver Int)) (k : Nat) : List Value := (List.range k).map fun (i : Nat) => .int .i64 (fe c l ((i : Int) + 1))
section
variable (c : Ck) (l : List (Ver Int)) (k : Nat)
theorem xsK_len : (xsK c l k).length = k := by simp [xsK]
theorem bsK_len : (bsK c l k).length = k := by simp [bsK]
theorem esK_len : (esK c l k).length = k := by simp [esK]
theorem xsK_succ : xsK c l (k + 1) = xsK c l k ++ [.int .i64 (fv c l ((k : Int) + 1))] := by unfold xsK; rw [List.range_succ, List.map_append]; rfl
theorem bsK_succ : bsK c l (k + 1) = bsK c l k ++ [.bool (fb c l ((k : Int) + 1))] := by unfold bsK; rw [List.range_succ, List.map_append]; rfl
theorem esK_succ : esK c l (k + 1) = esK c l k ++ [.int .i64 (fe c l ((k : Int) + 1))] := by unfold esK; rw [List.range_succ, List.map_append]; rfl
theorem xsK_at {i : Nat} (h : i < k) : (xsK c l k)[i]? = some (.int .i64 (fv c l ((i : Int) + 1))) := by simp [xsK, h]
theorem bsK_at {i : Nat} (h : i < k) : (bsK c l k)[i]? = some (.bool (fb c l ((i : Int) + 1))) := by simp [bsK, h]
theorem esK_at {i : Nat} (h : i < k) : (esK c l k)[i]? = some (.int .i64 (fe c l ((i : Int) + 1))) := by simp [esK, h]
end
/-- k sweeps. -/
def swN (c : Ck) : Nat → List (Ver Int) → List (Ver Int)
  | 0, l => l
  | k + 1, l => Ver.swS c (swN c k l)
theorem swN_rd {c : Ck} (hok : c.Ok) {t : Int} (ht : c.isLive t = true) (l : List (Ver Int)) : ∀ k, Ver.rdV 0 (Ver.rdX c t (swN c k l)) = Ver.rdV 0 (Ver.rdX c t l) ∧ Ver.rdB (Ver.rdX c t (swN c k l)) = Ver.rdB (Ver.rdX c t l) ∧ Ver.chk c t (swN c k l) = Ver.chk c t l
  | 0 => ⟨rfl, rfl, rfl⟩
  | k + 1 => by
    obtain ⟨a, b, d⟩ := swN_rd hok ht l k
    obtain ⟨e, f⟩ := Ver.rd_sweep hok ht 0 (swN c k l)
    exact ⟨e.trans a, f.trans b, (Ver.chk_sweep hok ht (swN c k l)).trans d⟩
theorem swN_inv {c : Ck} {l : List (Ver Int)} (h : Ver.Inv c l) : ∀ k, Ver.Inv c (swN c k l)
  | 0 => h
  | k + 1 => (swN_inv h k).sweep
/-! Rows of the law's own. -/
theorem infoB : (Try.prog.info? 4).map (fun i => (i.zero, i.size, i.bytes)) = some (some (.bool false), 1, 1) := by kernel_rfl
theorem infoE : (Try.prog.info? 39).map (fun i => (i.zero, i.size, i.bytes)) = some (some (.int .i64 0), 1, 8) := by kernel_rfl
structure RW (B : Nat) (W : World) (e : Nat) (v : Value) (xs : List Value) : Prop where
  r : W.ownsRow 0 e 1 v xs.length xs
  n : ∀ k, v.ownBlock = some k → B ≤ k
theorem RW.nil (B : Nat) (W : World) (e : Nat) : RW B W e (.slice none 0 0) [] := ⟨World.ownsRow_nil _ _ _ _, fun k hk => by simp [Value.ownBlock] at hk⟩
theorem RW.same {B : Nat} {W W' : World} {e : Nat} {v : Value} {xs : List Value} (h : RW B W e v xs) (hw : ∀ k, v.ownBlock = some k → W'.heap[k]? = W.heap[k]?) : RW B W' e v xs := ⟨own_same h.r hw, h.n⟩
theorem RW.below {B : Nat} {W W' : World} {e : Nat} {v : Value} {xs : List Value} (h : RW B W e v xs) (hb : Below W.heap.size W W') : RW B W' e v xs := h.same (fun k hk => hb.block k (World.ownsRow.lt h.r k hk).2)
/-- Three rows, of ints, bools and Errnos, newer than W0; nothing that was in W0 has changed. -/
structure Tri (W0 W : World) (v5 v6 v7 : Value) (xs bs es : List Value) : Prop where
  bl : Below W0.heap.size W0 W
  r5 : RW W0.heap.size W 3 v5 xs
  r6 : RW W0.heap.size W 4 v6 bs
  r7 : RW W0.heap.size W 39 v7 es
section
variable {W0 W W' : World} {v5 v6 v7 v' : Value} {xs bs es : List Value} {u : Value}
theorem Tri.below (h : Tri W0 W v5 v6 v7 xs bs es) (hb : Below W.heap.size W W') : Tri W0 W' v5 v6 v7 xs bs es := ⟨h.bl.trans (hb.mono h.bl.size), h.r5.below hb, h.r6.below hb, h.r7.below hb⟩
theorem apart_of {e e' : Nat} {v w : Value} {ys zs : List Value} {B : Nat} (h : RW B W e v ys) (h' : RW B W e' w zs) (hne : e ≠ e') : ∀ k, v.ownBlock = some k → some k ≠ w.ownBlock := fun k hk he => by
  obtain ⟨c1, q1⟩ := own_type h.r hk
  obtain ⟨c2, q2⟩ := own_type h'.r he.symm
  rw [q1] at q2
  injection q2 with q2; injection q2 with _ q2; exact hne q2
theorem RW.app {e : Nat} {B : Nat} {w1 : World} {v : Value} {ys : List Value} (h : RW B W e v ys) (hB : B ≤ w1.heap.size) (hr : W'.ownsRow 0 e 1 v' (ys.length + 1) (ys ++ [u])) (ho : v'.ownBlock = v.ownBlock ∨ v'.ownBlock = some w1.heap.size) : RW B W' e v' (ys ++ [u]) := by
  refine ⟨by rw [List.length_append]; exact hr, fun k hk => ?_⟩
  rcases ho with e | e
  · exact h.n k (by rw [← e]; exact hk)
  · rw [e] at hk; injection hk with hk; omega
theorem Tri.app5 (h : Tri W0 W v5 v6 v7 xs bs es) (ob : Obj) (hr : W'.ownsRow 0 3 1 v' (xs.length + 1) (xs ++ [u])) (hg : (W.alloc ob).grownBy W' v5.ownBlock) (ho : v'.ownBlock = v5.ownBlock ∨ v'.ownBlock = some (W.alloc ob).heap.size) : Tri W0 W' v' v6 v7 (xs ++ [u]) bs es := by
  have ha := h.below ((Below.refl W.heap.size W).alloc (Nat.le_refl _) ob)
  refine ⟨ha.bl.grown hg ha.bl.size h.r5.n, ha.r5.app ha.bl.size hr ho, ha.r6.same (fun k hk => hg.block k (World.ownsRow.lt ha.r6.r k hk).2 (apart_of ha.r6 ha.r5 (by decide) k hk)), ha.r7.same (fun k hk => hg.block k (World.ownsRow.lt ha.r7.r k hk).2 (apart_of ha.r7 ha.r5 (by decide) k hk))⟩
theorem Tri.app6 (h : Tri W0 W v5 v6 v7 xs bs es) (ob : Obj) (hr : W'.ownsRow 0 4 1 v' (bs.length + 1) (bs ++ [u])) (hg : (W.alloc ob).grownBy W' v6.ownBlock) (ho : v'.ownBlock = v6.ownBlock ∨ v'.ownBlock = some (W.alloc ob).heap.size) : Tri W0 W' v5 v' v7 xs (bs ++ [u]) es := by
  have ha := h.below ((Below.refl W.heap.size W).alloc (Nat.le_refl _) ob)
  refine ⟨ha.bl.grown hg ha.bl.size h.r6.n, ha.r5.same (fun k hk => hg.block k (World.ownsRow.lt ha.r5.r k hk).2 (apart_of ha.r5 ha.r6 (by decide) k hk)), ha.r6.app ha.bl.size hr ho, ha.r7.same (fun k hk => hg.block k (World.ownsRow.lt ha.r7.r k hk).2 (apart_of ha.r7 ha.r6 (by decide) k hk))⟩
theorem Tri.app7 (h : Tri W0 W v5 v6 v7 xs bs es) (ob : Obj) (hr : W'.ownsRow 0 39 1 v' (es.length + 1) (es ++ [u])) (hg : (W.alloc ob).grownBy W' v7.ownBlock) (ho : v'.ownBlock = v7.ownBlock ∨ v'.ownBlock = some (W.alloc ob).heap.size) : Tri W0 W' v5 v6 v' xs bs (es ++ [u]) := by
  have ha := h.below ((Below.refl W.heap.size W).alloc (Nat.le_refl _) ob)
  refine ⟨ha.bl.grown hg ha.bl.size h.r7.n, ha.r5.same (fun k hk => hg.block k (World.ownsRow.lt ha.r5.r k hk).2 (apart_of ha.r5 ha.r7 (by decide) k hk)), ha.r6.same (fun k hk => hg.block k (World.ownsRow.lt ha.r6.r k hk).2 (apart_of ha.r6 ha.r7 (by decide) k hk)), ha.r7.app ha.bl.size hr ho⟩
end
/-- The block that names the objects, and all that is newer than W0. -/
def G3 (z : Nat) (W0 W1 : World) : Nat → Prop := fun k => k = z ∨ (W0.heap.size ≤ k ∧ k < W1.heap.size)
theorem Quad.news {w W0 W1 : World} {z a x d y : Nat} {c : Ck} {l : List (Ver Int)} {c' : Ck} {l' : List (Ver Int)} (h : Quad (fun k => k = z) w W0 a x d y c l c' l') (hb : Below W0.heap.size W0 W1) : Quad (G3 z W0 W1) w W1 a x d y c l c' l' := by
  obtain ⟨o, h⟩ := h
  have hs := hb.size
  refine ⟨nx o 0 W0 W0, h.pc.same (fun k hk => by rw [nx_old (h.pc.lt k hk)]; exact hk) (fun k hk => ?_) (fun k hk => hb.block k (h.pc.lt k hk)), h.cc.same (fun k hk => by rw [nx_old (h.cc.lt k hk)]; exact hk) (fun k hk => ?_) (fun k hk => hb.block k (h.cc.lt k hk)), h.rc.same (fun k hk => by rw [nx_old (h.rc.lt k hk)]; exact hk) (fun k hk => ?_) (fun k hk => hb.block k (h.rc.lt k hk)), h.vc.same (fun k hk => by rw [nx_old (h.vc.lt k hk)]; exact hk) (fun k hk => ?_) (fun k hk => hb.block k (h.vc.lt k hk)), fun k hk => ?_, fun k hk => ?_, h.bl.trans (hb.mono h.bl.size)⟩
  · have := nx_lt (Nat.le_refl _) hk (by decide); omega
  · have := nx_lt (Nat.le_refl _) hk (by decide); omega
  · have := nx_lt (Nat.le_refl _) hk (by decide); omega
  · have := nx_lt (Nat.le_refl _) hk (by decide); omega
  · rcases hk with hk | hk
    · have := h.g k hk
      exact ⟨by omega, by rw [nx_old this.1]; exact this.2⟩
    · exact ⟨hk.2, by unfold nx; rw [if_neg (by omega), if_neg (by omega)]⟩
  · have hlt := nx_lt (Nat.le_refl _) (j := nx o 0 W0 W0 k) rfl hk
    rw [nx_old hlt] at hk
    exact h.nw k hk
/-- The objects, their block and the three rows, while the program's Cell is swept. -/
structure W4 (w W0 W1 W : World) (z a x d y : Nat) (c : Ck) (m l : List (Ver Int)) (n : Int) (v5 v6 v7 : Value) (xs bs es : List Value) : Prop where
  q : Quad (G3 z W0 W1) w W a x d y c m c l
  wb : WB W z a x d y n
  nz : w.heap.size ≤ z
  s1 : W0.heap.size ≤ W1.heap.size
  r5 : RW W0.heap.size W 3 v5 xs
  r6 : RW W0.heap.size W 4 v6 bs
  r7 : RW W0.heap.size W 39 v7 es
  l5 : ∀ k, v5.ownBlock = some k → k < W1.heap.size
  l6 : ∀ k, v6.ownBlock = some k → k < W1.heap.size
  l7 : ∀ k, v7.ownBlock = some k → k < W1.heap.size
section
variable {w W0 W1 W w' : World} {z a x d y : Nat} {c : Ck} {m m2 l : List (Ver Int)} {n : Int} {v5 v6 v7 u : Value} {xs bs es : List Value} {f : FuncId} {args : Array Value}
theorem W4.to (h : W4 w W0 W1 W z a x d y c m l n v5 v6 v7 xs bs es) (hc : Calls Try.prog f args W (fun e w' => e = .returned u ∧ Quad (G3 z W0 W1) w w' a x d y c m2 c l ∧ Keep (G3 z W0 W1) W w')) : Calls Try.prog f args W fun e w' => e = .returned u ∧ W4 w W0 W1 w' z a x d y c m2 l n v5 v6 v7 xs bs es :=
  hc.mono fun e w' he => ⟨he.1, he.2.1, h.wb.keep he.2.2 (.inl rfl), h.nz, h.s1, h.r5.same (fun k hk => he.2.2.2 k (.inr ⟨h.r5.n k hk, h.l5 k hk⟩)), h.r6.same (fun k hk => he.2.2.2 k (.inr ⟨h.r6.n k hk, h.l6 k hk⟩)), h.r7.same (fun k hk => he.2.2.2 k (.inr ⟨h.r7.n k hk, h.l7 k hk⟩)), h.l5, h.l6, h.l7⟩
theorem W4.below (h : W4 w W0 W1 W z a x d y c m l n v5 v6 v7 xs bs es) (hb : Below W.heap.size W w') : W4 w W0 W1 w' z a x d y c m l n v5 v6 v7 xs bs es :=
  ⟨(h.q.below hb).1, h.wb.keep (h.q.below hb).2 (.inl rfl), h.nz, h.s1, h.r5.below hb, h.r6.below hb, h.r7.below hb, h.l5, h.l6, h.l7⟩
theorem W4.drew (h : W4 w W0 W1 W z a x d y c m l n v5 v6 v7 xs bs es) : W4 w W0 W1 W.drew z a x d y c m l n v5 v6 v7 xs bs es := h.below (Below.refl _ _).drew
theorem W4.start (hq : Wq w W0 z a x d y c l c l n) (ht : Tri W0 W1 v5 v6 v7 xs bs es) : W4 w W0 W1 W1 z a x d y c l l n v5 v6 v7 xs bs es :=
  ⟨hq.1.news ht.bl, (ht.bl.block z (block_lt hq.2.1)).trans hq.2.1, hq.2.2, ht.bl.size, ht.r5, ht.r6, ht.r7, fun k hk => (World.ownsRow.lt ht.r5.r k hk).2, fun k hk => (World.ownsRow.lt ht.r6.r k hk).2, fun k hk => (World.ownsRow.lt ht.r7.r k hk).2⟩
end
theorem rw_at {B : Nat} {W : World} {e : Nat} {v : Value} {xs : List Value} {i : Nat} {u : Value} (h : RW B W e v xs) (hi : xs[i]? = some u) : ∃ g cp, v = .slice (some ⟨g, 0, none⟩) xs.length cp ∧ W.cell? ⟨g, i, none⟩ = some u := by
  have hlt : i < xs.length := (List.getElem?_eq_some_iff.1 hi).1
  obtain ⟨g, cp, hv, _⟩ := World.ownsRow.form h.r (by omega)
  have hr := h.r
  rw [hv] at hr
  exact ⟨g, cp, hv, (World.ownsRow.cellAt hr i (by omega)).trans hi⟩
end Go.Proofs.Ytpjjpjdamieeeaa
