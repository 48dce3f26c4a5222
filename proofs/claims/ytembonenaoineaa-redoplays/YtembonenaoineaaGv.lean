/- What the loop of writeEntry keeps between two writes; pieces of 64 bytes in memory. Conditions: as each fact names them. -/
import Derived.Test.YtembonenaoineaaGi
import Derived.Test.YtembonenaoineaaGc
import Derived.Deep.RegionHeld3
import Derived.Deep.RegionWith
import Derived.Deep.RegionLaw
import Derived.Deep.DeepCutAuto
import Derived.IntWalk
import Derived.RangeFuncWrites
import Derived.RangeFuncBox
namespace Go.Proofs.Ytembonenaoineaa
set_option maxRecDepth 100000
set_option linter.unusedVariables false
open Go.ChangeShapes Go.WideShapes Go.ChangeAt Go.RowKit Go.Shelf
open Lb (encI encIs encS In64 encI_len)
attribute [local go_sem] Oper.semAt_some

/-- Of the blocks that hold a Drum all are cells. -/
theorem PD.tight {F : Nat → Prop} {w : World} {a : Nat} {s : DS} (h : PD F w a s) : ∃ T : Nat → Prop, (∀ k, T k → F k) ∧ PD T w a s ∧ ∀ k, T k → ∃ o, w.heap[k]? = some o ∧ o.isCells = true := by
  obtain ⟨g1, c1, g2, c2, pv, f, n, d, hm⟩ := h
  refine ⟨fun k => k = a ∨ k = g1 ∨ k = g2 ∨ pv.ownBlock = some k, fun k hk => ?_, ⟨g1, c1, g2, c2, pv, f, n, d, hm.ok, fun k hk => hm.lt k ?_, .inl rfl, .inr (.inl rfl), .inr (.inr (.inl rfl)), fun k hk => .inr (.inr (.inr hk)), hm.ne, hm.blk, hm.r1, hm.r2, hm.r3, hm.life⟩, fun k hk => ?_⟩
  · rcases hk with rfl | rfl | rfl | hk
    · exact hm.fa
    · exact hm.f1
    · exact hm.f2
    · exact hm.f3 k hk
  · rcases hk with rfl | rfl | rfl | hk
    · exact hm.fa
    · exact hm.f1
    · exact hm.f2
    · exact hm.f3 k hk
  · rcases hk with rfl | rfl | rfl | hk
    · exact ⟨_, hm.blk, rfl⟩
    · obtain ⟨cur, hh, _⟩ := own_open hm.r1; exact ⟨_, hh, rfl⟩
    · obtain ⟨cur, hh, _⟩ := own_open hm.r2; exact ⟨_, hh, rfl⟩
    · obtain ⟨cur, hh⟩ := own_type hm.r3 hk; exact ⟨_, hh, rfl⟩
theorem chunk_any (A : Option Addr) (n c : Nat) (w : World) : Calls Try.prog 82 #[.slice A n c, .int .i64 64] w fun e w' => e = .returned (.func (.func 83) #[] #[.pointer (some ⟨w.heap.size, 0, none⟩), .pointer (some ⟨w.heap.size + 1, 0, none⟩)]) ∧ (w.alloc (.cells #[.slice A n c] 36)).alloc (.cells #[.int .i64 64] 3) = w' := by
  go_enter Try.func82, Try.ntmps82
  go_wp2
  go_ret
  exact ⟨rfl, rfl⟩
theorem heap_al {W : World} {k : Nat} {o : Obj} (x : Obj) (h : W.heap[k]? = some o) : (W.alloc x).heap[k]? = some o := (Below.heap_alloc W x k (block_lt h)).trans h
/-- A way out that is no panic. -/
def Qn (Q : Exit → Act → World → Prop) : Exit → Act → World → Prop
  | .ret, a, w => Q .ret a w
  | .normal, a, w => Q .normal a w
  | _, _, _ => False
theorem wp_qn {P : Program} {c : Code} {Q : Exit → Act → World → Prop} {a : Act} {w : World} (h : c.wp P (Qn Q) a w) : c.wp P Q a w :=
  Code.wp_mono (fun e a w hq => by cases e <;> first | exact hq | exact hq.elim) h
theorem KeepB.trans {bs bn : Nat} {X Y Z : World} (h : KeepB bs bn X Y) (k : KeepB bs bn Y Z) : KeepB bs bn X Z := ⟨k.1.trans h.1, k.2.trans h.2⟩
theorem chunk_stops (n : Nat) (hn : 1 ≤ n) (bs bn g len c : Nat) (hlen : len ≤ 100000) (hc : len ≤ c) (hne : bs ≠ bn) (w : World)
    (hbs : w.heap[bs]? = some (.cells #[.slice (some ⟨g, 0, none⟩) len c] 36 (0, 0))) (hbn : w.heap[bn]? = some (.cells #[.int .i64 64] 3 (0, 0))) :
    SeqStopsK Fence.wide n Try.prog 83 #[.pointer (some ⟨bs, 0, none⟩), .pointer (some ⟨bn, 0, none⟩)] (fun x : Fin (cnt len) => #[chV g len x.1]) (KeepB bs bn) (fun ys => ys = ups (cnt len) (cnt len)) (fun pre => ∃ k, k < cnt len ∧ pre = ups (cnt len) (k + 1)) (cnt len) w := fun l J Jx W hW hJ hJx hY h0 =>
  chunk1_in n hn l bs bn g len c hlen hc hne J Jx (fun pre W m h => hJ pre W (W.drewN m) none h ⟨rfl, rfl, rfl, Nat.le_refl _, fun _ _ _ => rfl⟩ (fun r e => by cases e)) hY W ((hW.block bs (block_lt hbs)).trans hbs) ((hW.block bn (block_lt hbn)).trans hbn) h0
/-- Pieces of x, numbered by l, written from sector i on, as far as it goes. -/
def wF (s : DS) (i : Nat) (x : List UInt8) (l : List Nat) : Nat × Int × DS :=
  l.foldl (fun t j => if t.2.1 = 0 then (t.1 + 1, wrE t.2.2 ((i + t.1 : Nat) : Int) (ch x j), wrS t.2.2 ((i + t.1 : Nat) : Int) (ch x j)) else (t.1 + 1, t.2.1, t.2.2)) (0, 0, s)
theorem wF_snoc (s : DS) (i : Nat) (x : List UInt8) (l : List Nat) (j : Nat) : wF s i x (l ++ [j]) = if (wF s i x l).2.1 = 0 then ((wF s i x l).1 + 1, wrE (wF s i x l).2.2 ((i + (wF s i x l).1 : Nat) : Int) (ch x j), wrS (wF s i x l).2.2 ((i + (wF s i x l).1 : Nat) : Int) (ch x j)) else ((wF s i x l).1 + 1, (wF s i x l).2.1, (wF s i x l).2.2) := by
  simp [wF]
theorem wF_range (s : DS) (i : Nat) (x : List UInt8) : ∀ n, wF s i x (List.range n) = (n, wrs s i x n)
  | 0 => rfl
  | n + 1 => by
    rw [List.range_succ, wF_snoc, wF_range s i x n]
    simp only
    by_cases h : (wrs s i x n).1 = 0
    · rw [if_pos h, wrs_go h]
    · rw [if_neg h, wrs, if_neg h]
theorem wF_len (s : DS) (i : Nat) (x : List UInt8) (l : List Nat) : (wF s i x l).1 = l.length := by
  rw [← List.reverse_reverse l]
  generalize l.reverse = r
  induction r with
  | nil => rfl
  | cons j r ih =>
    rw [List.reverse_cons, wF_snoc]
    split <;> simp [ih]
theorem wF_pend (s : DS) (i : Nat) (x : List UInt8) (l : List Nat) : (wF s i x l).2.2.pend.length ≤ s.pend.length + l.length := by
  rw [← List.reverse_reverse l]
  generalize l.reverse = r
  induction r with
  | nil => simp [wF]
  | cons j r ih =>
    rw [List.reverse_cons, wF_snoc]
    split
    · refine Nat.le_trans (wrS_pend _ _ _) ?_
      simp at ih ⊢; omega
    · simp at ih ⊢; omega
theorem ups_val {n : Nat} : ∀ k, k ≤ n → (ups n k).map (·.1) = List.range k
  | 0, _ => rfl
  | k + 1, h => by rw [ups_succ (show k < n by omega), List.map_append, ups_val k (by omega), List.range_succ]; rfl
theorem cnt_nch (x : List UInt8) : cnt x.length = nch x := rfl
/-- Piece j in memory. -/
theorem ch_bs {B : Nat} {W : World} {g c : Nat} {x : List UInt8} (h : Own B W (.slice (some ⟨g, 0, none⟩) x.length c) x) (j : Nat) : BS W (some ⟨g, 64 * j, none⟩) (ch x j) (min 64 (x.length - 64 * j)) ∧ (ch x j).length = min 64 (x.length - 64 * j) := by
  have hl : (ch x j).length = min 64 (x.length - 64 * j) := by unfold ch; rw [List.length_take, List.length_drop, Nat.mul_comm]
  refine ⟨⟨fun t ht => ⟨_, rfl, ?_⟩, by omega, fun e => by cases e⟩, hl⟩
  have hlt : 64 * j + t < x.length := by omega
  obtain ⟨ad, e, hc⟩ := (own_bs h).cells (64 * j + t) hlt
  injection e with e
  subst e
  rw [Addr.add_lit, Nat.zero_add] at hc
  rw [Addr.add_lit, hc]
  congr 3
  simp [ch, Nat.mul_comm]
/-- Between two writes: the Drum is in state st, the cell of i holds vI, that of the result vR; all else that the function had laid is as it was. -/
structure WI (F : Nat → Prop) (w W2 : World) (a bI bR : Nat) (vI vR : Value) (st : DS) (W : World) : Prop where
  pd : ∃ T : Nat → Prop, PD T W a st ∧ (∀ k, T k → F k ∨ W2.heap.size ≤ k) ∧ ∀ k, T k → ∃ o, W.heap[k]? = some o ∧ o.isCells = true
  chg : Chg F w W
  size : W2.heap.size ≤ W.heap.size
  same : ∀ k, w.heap.size ≤ k → k < W2.heap.size → k ≠ bI → k ≠ bR → W.heap[k]? = W2.heap[k]?
  cI : W.heap[bI]? = some (.cells #[vI] 3 (0, 0))
  cR : W.heap[bR]? = some (.cells #[vR] 30 (0, 0))
section
variable {F : Nat → Prop} {w W2 : World} {a bI bR : Nat} {vI vR : Value} {st : DS} {W W' : World}
theorem WI.own (h : WI F w W2 a bI bR vI vR st W) (hw : w.heap.size ≤ W2.heap.size) (hI : bI < W2.heap.size) (hR : bR < W2.heap.size) {row : Option Nat} (hg : W.grownBy W' row) (hr : ∀ r, row = some r → W2.heap.size ≤ r ∧ ∃ o : Obj, W.heap[r]? = some o ∧ o.isCells = false) : WI F w W2 a bI bR vI vR st W' := by
  obtain ⟨T, h1, h2, h3⟩ := h.pd
  have far : ∀ k, T k → W'.heap[k]? = W.heap[k]? := fun k hk => hg.block k (h1.lt k hk) (fun e => by
    obtain ⟨o, ho, hc⟩ := h3 k hk
    obtain ⟨_, o', ho', hc'⟩ := hr k e.symm
    rw [ho] at ho'
    injection ho' with ho'
    subst ho'
    rw [hc] at hc'; cases hc')
  have low : ∀ k, k < W2.heap.size → W'.heap[k]? = W.heap[k]? := fun k hk => hg.block k (Nat.lt_of_lt_of_le hk h.size) (fun e => by have := (hr k e.symm).1; omega)
  refine ⟨⟨T, h1.same (fun _ h => h) (fun k hk => Nat.lt_of_lt_of_le (h1.lt k hk) hg.size) far, h2, fun k hk => by rw [far k hk]; exact h3 k hk⟩, h.chg.grown hg (fun k e => .inr (by have := (hr k e).1; omega)), Nat.le_trans h.size hg.size, fun k k1 k2 k3 k4 => (low k k2).trans (h.same k k1 k2 k3 k4), (low _ hI).trans h.cI, (low _ hR).trans h.cR⟩
/-- A write, and a cell set. -/
theorem WI.step (h : WI F w W2 a bI bR vI vR st W) (h0 : ∀ k, F k → k < w.heap.size) (hw : w.heap.size ≤ W2.heap.size) {T : Nat → Prop} (hT : ∀ k, T k → F k ∨ W2.heap.size ≤ k) (hTc : ∀ k, T k → ∃ o, W.heap[k]? = some o ∧ o.isCells = true) {W3 : World} {st' : DS} (hp : PD (Nu T W W3) W3 a st') (hc : Chg T W W3)
    {b : Nat} {u : Value} (hb : (b = bI ∧ bI ≠ bR) ∨ (b = bR ∧ bI ≠ bR)) (hbw : w.heap.size ≤ b) (hb2 : b < W2.heap.size) (hbI : w.heap.size ≤ bI ∧ bI < W2.heap.size) (hbR : w.heap.size ≤ bR ∧ bR < W2.heap.size) :
    WI F w W2 a bI bR (if b = bI then u else vI) (if b = bI then vR else u) st' (W3.setCell ⟨b, 0, none⟩ u) ∧ KeepsFrom W2.heap.size W (W3.setCell ⟨b, 0, none⟩ u) ∧ ∀ k, w.heap.size ≤ k → k < W2.heap.size → k ≠ b → (W3.setCell ⟨b, 0, none⟩ u).heap[k]? = W.heap[k]? := by
  have hsz : (W3.setCell ⟨b, 0, none⟩ u).heap.size = W3.heap.size := by simp [World.setCell]
  have hnT : ∀ k, w.heap.size ≤ k → k < W2.heap.size → ¬ T k := fun k h1 h2 ht => by
    rcases hT k ht with hf | hf
    · have := h0 k hf; omega
    · omega
  have keep3 : ∀ k, w.heap.size ≤ k → k < W2.heap.size → W3.heap[k]? = W.heap[k]? := fun k h1 h2 => hc.block k (Nat.lt_of_lt_of_le h2 h.size) (hnT k h1 h2)
  have set_other : ∀ k, k ≠ b → (W3.setCell ⟨b, 0, none⟩ u).heap[k]? = W3.heap[k]? := fun k hk => Below.heap_setCell W3 ⟨b, 0, none⟩ u k (fun e => hk e)
  obtain ⟨T', t1, t2, t3⟩ := hp.tight
  have hT' : ∀ k, T' k → F k ∨ W2.heap.size ≤ k := fun k hk => by
    rcases t1 k hk with hk | hk
    · exact hT k hk
    · exact .inr (Nat.le_trans h.size hk.1)
  have hnb : ∀ k, T' k → k ≠ b := fun k hk e => by
    subst e
    rcases hT' k hk with hf | hf
    · have := h0 k hf; omega
    · omega
  refine ⟨⟨⟨T', t2.same (fun _ h => h) (fun k hk => by rw [hsz]; exact t2.lt k hk) (fun k hk => set_other k (hnb k hk)), hT', fun k hk => by rw [set_other k (hnb k hk)]; exact t3 k hk⟩, ?_, by rw [hsz]; exact Nat.le_trans h.size hc.size, fun k k1 k2 k3 k4 => ?_, ?_, ?_⟩, ⟨by rw [hsz]; exact hc.size, fun k o hB hk ho => ?_⟩, fun k k1 k2 k3 => (set_other k k3).trans (keep3 k k1 k2)⟩
  · refine (h.chg.trans (hc.mono fun k hk => ?_)).grown (grown_set W3 b 0 u) (fun k e => by injection e with e; subst e; exact .inr hbw)
    rcases hT k hk with hf | hf
    · exact .inl hf
    · refine .inr ⟨by omega, ?_⟩
      obtain ⟨o, ho, _⟩ := hTc k hk
      exact block_lt ho
  · have hkb : k ≠ b := by rcases hb with ⟨rfl, _⟩ | ⟨rfl, _⟩ <;> assumption
    exact (set_other k hkb).trans ((keep3 k k1 k2).trans (h.same k k1 k2 k3 k4))
  · rcases hb with ⟨rfl, hne⟩ | ⟨rfl, hne⟩
    · rw [if_pos rfl]
      have := heap_setCell_same W3 b 0 _ _ u ((keep3 b hbI.1 hbI.2).trans h.cI)
      simpa using this
    · rw [if_neg (Ne.symm hne), set_other _ hne]
      exact (keep3 _ hbI.1 hbI.2).trans h.cI
  · rcases hb with ⟨rfl, hne⟩ | ⟨rfl, hne⟩
    · rw [if_pos rfl, set_other _ (Ne.symm hne)]
      exact (keep3 _ hbR.1 hbR.2).trans h.cR
    · rw [if_neg (Ne.symm hne)]
      have := heap_setCell_same W3 b 0 _ _ u ((keep3 b hbR.1 hbR.2).trans h.cR)
      simpa using this
  · have hkb : k ≠ b := by omega
    have hnk : ¬ T k := fun ht => by
      obtain ⟨o', ho', hc'⟩ := hTc k ht
      rw [hk] at ho'
      injection ho' with ho'
      subst ho'
      rw [ho] at hc'; cases hc'
    exact (set_other k hkb).trans ((hc.block k (block_lt hk) hnk).trans hk)
theorem WI.setR (h : WI F w W2 a bI bR vI vR st W) (h0 : ∀ k, F k → k < w.heap.size) (hw : w.heap.size ≤ W2.heap.size) (hne : bI ≠ bR) (hbI : w.heap.size ≤ bI ∧ bI < W2.heap.size) (hbR : w.heap.size ≤ bR ∧ bR < W2.heap.size) (u : Value) : WI F w W2 a bI bR vI u st (W.setCell ⟨bR, 0, none⟩ u) := by
  obtain ⟨T, t1, t2, t3⟩ := h.pd
  have := (h.step h0 hw t2 t3 (t1.wide (Nat.le_refl _) T (fun _ h => .inl h) t1.lt) (Chg.refl _ _) (b := bR) (u := u) (.inr ⟨rfl, hne⟩) hbR.1 hbR.2 hbI hbR).1
  rwa [if_neg (Ne.symm hne), if_neg (Ne.symm hne)] at this
theorem WI.does (h : WI F w W2 a bI bR vI vR st W) (h0 : ∀ k, F k → k < w.heap.size) (hw : w.heap.size ≤ W2.heap.size) (v : Value) : Does F w a v st (.returned v) W := by
  obtain ⟨T, t1, t2, t3⟩ := h.pd
  exact ⟨rfl, t1.wide h.chg.size F (fun k hk => by rcases t2 k hk with h | h; exact .inl h; exact .inr (Nat.le_trans hw h)) h0, h.chg⟩
end
end Go.Proofs.Ytembonenaoineaa
