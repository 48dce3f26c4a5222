/- The program's Lists in memory while a method is under way (LQ, LS): links changed or made, a map written, both maps made. Conditions: as each fact names. -/
import Derived.Test.YtfmbogpbhchelaaTe
namespace Go.Proofs.Ytfmbogpbhchelaa
set_option maxRecDepth 100000
set_option linter.unusedVariables false
open Go.ChangeShapes Go.WideShapes Go.ChangeAt Go.RowKit
/-- As LM, but the links are those of S, and nothing is said of how they hang together. -/
structure LQ (F : Nat → Prop) (w : World) (a : Nat) (m1 m2 : Option Nat) (g : Gh) (KM : List It) (KE : List Int) (S : Nat → Prop) : Prop where
  lt : ∀ k, F k → k < w.heap.size
  fa : F a
  f1 : ∀ b, m1 = some b → F b
  f2 : ∀ b, m2 = some b → F b
  fb : ∀ b, S b → F b
  both : m1.isSome = m2.isSome
  ne : ∀ b, m1 = some b → m2 ≠ some b
  blk : w.heap[a]? = some (.cells #[.map m1, .map m2] 44 (0, 0))
  p1 : MP kvI g.blk w m1 KM
  p2 : MP kvE g.en w m2 KE
  nd : ND S w g.nx g.pv g.idf
section
variable {F F0 S S' : Nat → Prop} {w wr w' : World} {a : Nat} {m1 m2 : Option Nat} {g g' : Gh} {KM KM' : List It} {KE KE' : List Int} {I : List It}
theorem LM.q (h : LM F w a m1 m2 g KM KE I) : LQ F w a m1 m2 g KM KE (Bl g KE I) := ⟨h.lt, h.fa, h.f1, h.f2, h.fb, h.both, h.ne, h.blk, h.p1, h.p2, h.nd⟩
theorem LQ.lm (h : LQ F w a m1 m2 g KM KE S) (hi : Inv g KM KE I) (hs : ∀ b, Bl g KE I b → S b) : LM F w a m1 m2 g KM KE I := ⟨h.lt, h.fa, h.f1, h.f2, fun b hb => h.fb b (hs b hb), h.both, h.ne, h.blk, h.p1, h.p2, h.nd.sub hs, hi⟩
theorem LQ.cells (h : LQ F w a m1 m2 g KM KE S) : w.cell? ⟨a, 0, none⟩ = some (.map m1) ∧ w.cell? ⟨a, 1, none⟩ = some (.map m2) ∧ ∀ o, w.frozen? ⟨a, o, none⟩ = false := by
  have hb := h.blk
  refine ⟨?_, ?_, fun o => frozen_of_row w a o _ _ hb⟩ <;> rw [cell_of_row w a _ _ _ _ hb] <;> rfl
theorem LQ.na (h : LQ F w a m1 m2 g KM KE S) : ¬ S a := fun hs => by
  have := h.nd a hs
  rw [h.blk] at this
  injection this with this; injection this with _ this; cases this
theorem MP.cells {κ : Type} {kv : κ → Value} {f : κ → Nat} {ks : List κ} {b : Nat} (h : MP kv f w (some b) ks) : ∃ es c, w.heap[b]? = some (.map es c) := by obtain ⟨es, c, h, _⟩ := h; exact ⟨es, c, h⟩
theorem LQ.n1 (h : LQ F w a m1 m2 g KM KE S) {b : Nat} (hb : m1 = some b) : ¬ S b ∧ b ≠ a := by
  subst hb
  obtain ⟨es, c, h1⟩ := h.p1.cells
  refine ⟨fun hs => ?_, fun e => ?_⟩
  · have := h.nd b hs
    rw [h1] at this; cases this
  · have := h.blk
    rw [← e, h1] at this; cases this
theorem LQ.n2 (h : LQ F w a m1 m2 g KM KE S) {b : Nat} (hb : m2 = some b) : ¬ S b ∧ b ≠ a := by
  subst hb
  obtain ⟨es, c, h1⟩ := h.p2.cells
  refine ⟨fun hs => ?_, fun e => ?_⟩
  · have := h.nd b hs
    rw [h1] at this; cases this
  · have := h.blk
    rw [← e, h1] at this; cases this
/-- As seen from the world in which the method began. -/
def LS (F0 : Nat → Prop) (w wr : World) (a : Nat) (m1 m2 : Option Nat) (g : Gh) (KM : List It) (KE : List Int) (S : Nat → Prop) : Prop := LQ (Nu F0 w wr) wr a m1 m2 g KM KE S ∧ Chg F0 w wr
theorem LM.ls (h : LM F w a m1 m2 g KM KE I) : LS F w w a m1 m2 g KM KE (Bl g KE I) :=
  ⟨⟨fun k hk => by rcases hk with h1 | h1; exact h.lt k h1; exact h1.2, .inl h.fa, fun b hb => .inl (h.f1 b hb), fun b hb => .inl (h.f2 b hb), fun b hb => .inl (h.fb b hb), h.both, h.ne, h.blk, h.p1, h.p2, h.nd⟩, Chg.refl _ _⟩
theorem LS.nu (h : LS F0 w wr a m1 m2 g KM KE S) (hs : wr.heap.size ≤ w'.heap.size) (h0 : ∀ k, F0 k → k < w.heap.size) : (∀ k, Nu F0 w wr k → Nu F0 w w' k) ∧ ∀ k, Nu F0 w w' k → k < w'.heap.size := by
  have h1 := h.2.size
  refine ⟨fun k hk => ?_, fun k hk => ?_⟩
  · rcases hk with hk | hk
    · exact .inl hk
    · exact .inr ⟨hk.1, by omega⟩
  · rcases hk with hk | hk
    · have := h0 k hk; omega
    · exact hk.2
/-- Links have changed, or are new. -/
theorem LS.nodes (h : LS F0 w wr a m1 m2 g KM KE S) (h0 : ∀ k, F0 k → k < w.heap.size) (hn : ND S' w' g'.nx g'.pv g'.idf) (hc : Chg S wr w') (hS : ∀ b, S' b → S b ∨ wr.heap.size ≤ b) (e1 : ∀ k, k ∈ KM → g'.blk k = g.blk k) (e2 : ∀ k, k ∈ KE → g'.en k = g.en k) : LS F0 w w' a m1 m2 g' KM KE S' := by
  have hsz := hc.size
  have hw := h.2.size
  obtain ⟨n1, n2⟩ := h.nu (w' := w') hsz h0
  have keep : ∀ b, Nu F0 w wr b → ¬ S b → w'.heap[b]? = wr.heap[b]? := fun b hb hs => hc.block b (h.1.lt b hb) hs
  refine ⟨⟨n2, n1 a h.1.fa, fun b hb => n1 b (h.1.f1 b hb), fun b hb => n1 b (h.1.f2 b hb), fun b hb => ?_, h.1.both, h.1.ne, (keep a h.1.fa h.1.na).trans h.1.blk, ?_, ?_, hn⟩, h.2.trans (hc.mono (fun k hk => h.1.fb k hk))⟩
  · rcases hS b hb with h1 | h1
    · exact n1 b (h.1.fb b h1)
    · exact .inr ⟨by omega, hn.lt hb⟩
  · exact (h.1.p1.re e1).same (fun b hb => keep b (h.1.f1 b hb) (h.1.n1 hb).1)
  · exact (h.1.p2.re e2).same (fun b hb => keep b (h.1.f2 b hb) (h.1.n2 hb).1)
/-- The map of links has been written. -/
theorem LS.links {b : Nat} {f : It → Nat} (h : LS F0 w wr a (some b) m2 g KM KE S) (h0 : ∀ k, F0 k → k < w.heap.size) (hp : MP kvI f w' (some b) KM') (hg : wr.grownBy w' (some b)) (hf : ∀ k, k ∈ KM' → f k = g'.blk k) (hn : g'.nx = g.nx) (hv : g'.pv = g.pv) (hi : g'.idf = g.idf) (he : g'.en = g.en) : LS F0 w w' a (some b) m2 g' KM' KE S := by
  have hsz := hg.size
  obtain ⟨n1, n2⟩ := h.nu (w' := w') hsz h0
  have keep : ∀ k, Nu F0 w wr k → k ≠ b → w'.heap[k]? = wr.heap[k]? := fun k hk hs => hg.block k (h.1.lt k hk) (fun e => hs (by injection e))
  refine ⟨⟨n2, n1 a h.1.fa, fun b hb => n1 b (h.1.f1 b hb), fun b hb => n1 b (h.1.f2 b hb), fun k hk => n1 k (h.1.fb k hk), h.1.both, h.1.ne, (keep a h.1.fa (h.1.n1 rfl).2.symm).trans h.1.blk, hp.re (fun k hk => (hf k hk).symm), ?_, ?_⟩, h.2.grown hg (fun k e => by injection e with e; subst e; rcases h.1.f1 _ rfl with h1 | h1; exact .inl h1; exact .inr h1.1)⟩
  · rw [he]
    exact h.1.p2.same (fun k hk => keep k (h.1.f2 k hk) (fun e => h.1.ne b rfl (by rw [hk, e])))
  · rw [hn, hv, hi]
    exact h.1.nd.same (fun k hk => keep k (h.1.fb k hk) (fun e => (h.1.n1 rfl).1 (e ▸ hk)))
/-- The map of ends has been written. -/
theorem LS.endings {b : Nat} {f : Int → Nat} (h : LS F0 w wr a m1 (some b) g KM KE S) (h0 : ∀ k, F0 k → k < w.heap.size) (hp : MP kvE f w' (some b) KE') (hg : wr.grownBy w' (some b)) (hf : ∀ k, k ∈ KE' → f k = g'.en k) (hn : g'.nx = g.nx) (hv : g'.pv = g.pv) (hi : g'.idf = g.idf) (he : g'.blk = g.blk) : LS F0 w w' a m1 (some b) g' KM KE' S := by
  have hsz := hg.size
  obtain ⟨n1, n2⟩ := h.nu (w' := w') hsz h0
  have keep : ∀ k, Nu F0 w wr k → k ≠ b → w'.heap[k]? = wr.heap[k]? := fun k hk hs => hg.block k (h.1.lt k hk) (fun e => hs (by injection e))
  refine ⟨⟨n2, n1 a h.1.fa, fun b hb => n1 b (h.1.f1 b hb), fun b hb => n1 b (h.1.f2 b hb), fun k hk => n1 k (h.1.fb k hk), h.1.both, h.1.ne, (keep a h.1.fa (h.1.n2 rfl).2.symm).trans h.1.blk, ?_, hp.re (fun k hk => (hf k hk).symm), ?_⟩, h.2.grown hg (fun k e => by injection e with e; subst e; rcases h.1.f2 _ rfl with h1 | h1; exact .inl h1; exact .inr h1.1)⟩
  · rw [he]
    exact h.1.p1.same (fun k hk => keep k (h.1.f1 k hk) (fun e => h.1.ne k hk (by rw [e])))
  · rw [hn, hv, hi]
    exact h.1.nd.same (fun k hk => keep k (h.1.fb k hk) (fun e => (h.1.n2 rfl).1 (e ▸ hk)))
/-- Both maps have been made. -/
theorem LS.made {b1 b2 : Nat} (h : LS F0 w wr a none none g KM KE S) (h0 : ∀ k, F0 k → k < w.heap.size) (hc : Chg (fun k => k = a) wr w') (h1 : w'.heap[b1]? = some (.map #[] 0)) (h2 : w'.heap[b2]? = some (.map #[] 0)) (hb1 : wr.heap.size ≤ b1) (hb2 : wr.heap.size ≤ b2) (hne : b1 ≠ b2) (hk : w'.heap[a]? = some (.cells #[.map (some b1), .map (some b2)] 44 (0, 0))) : LS F0 w w' a (some b1) (some b2) g KM KE S := by
  have hsz := hc.size
  have hw := h.2.size
  obtain ⟨n1, n2⟩ := h.nu (w' := w') hsz h0
  have e1 : KM = [] := h.1.p1
  have e2 : KE = [] := h.1.p2
  subst e1; subst e2
  refine ⟨⟨n2, n1 a h.1.fa, fun b hb => ?_, fun b hb => ?_, fun k hk => n1 k (h.1.fb k hk), rfl, fun b e e' => hne (by injection e with e; injection e' with e'; omega), hk, ⟨_, _, h1, rfl⟩, ⟨_, _, h2, rfl⟩, h.1.nd.same (fun k hk => hc.block k (h.1.lt k (h.1.fb k hk)) (fun e => h.1.na (e ▸ hk)))⟩, h.2.trans (hc.mono (fun k hk => by subst hk; exact h.1.fa))⟩
  · injection hb with hb; subst hb; exact .inr ⟨by omega, block_lt h1⟩
  · injection hb with hb; subst hb; exact .inr ⟨by omega, block_lt h2⟩
end
theorem Inv.pv_ne {g : Gh} {KM : List It} {KE : List Int} {I : List It} {x : It} (h : Inv g KM KE I) (hx : x ∈ I) : g.pv (g.blk x) ≠ g.blk x := fun e => by
  have hb : Bl g KE I (g.blk x) := .inl ⟨x, hx, rfl⟩
  obtain ⟨hp, hpn⟩ := h.pv_bl hb
  obtain ⟨⟨B1, B2, r1, _⟩, _⟩ := rb_split (g := g) hx
  have hr := h.ring x.l (h.sub x hx)
  have hn := h.rnd (h.sub x hx)
  rw [r1] at hr hn
  obtain ⟨q, hq, hqn⟩ := (Fo.app.1 hr).1.pre (.inl rfl)
  have hqb : Bl g KE I q := h.rbl (h.sub x hx) (by
    rw [r1]
    rcases List.mem_cons.1 hq with e1 | e1
    · rw [e1]; simp
    · simp [e1])
  have hqp : q = g.blk x := by rw [h.nx_inj hqb hp (hqn.trans hpn.symm), e]
  rw [List.nodup_cons, List.nodup_append] at hn
  rcases List.mem_cons.1 hq with e1 | e1
  · exact hn.1 (by rw [← e1, hqp]; simp)
  · exact hn.2.2.2 q e1 (g.blk x) (by simp) hqp
end Go.Proofs.Ytfmbogpbhchelaa
