/- Acts that came in, read one by one; what long, of the laws of chapter 4, does: it returns. No condition. -/
import Derived.Test.YtembonenaoineaaDo
import Derived.Test.YtembonenaoineaaDk
import Derived.BigQuiet
import Derived.Deep.QuietTactic
namespace Go.Proofs.Ytembonenaoineaa
set_option maxRecDepth 100000
set_option linter.unusedVariables false
open Go.ChangeShapes Go.WideShapes Go.ChangeAt Go.RowKit
theorem add_pos (a : Addr) (n : Nat) (h : 0 < n) : a.add n = ⟨a.block, a.off + n, none⟩ := by
  unfold Addr.add; split
  · omega
  · rfl
/-- The cells of an act, as the walk spells them, in a world that has grown. -/
structure ActIn (w : World) (x : ActV) (pk : Addr) (wr : World) : Prop where
  c0 : wr.cell? pk = some (.int .i64 x.kind)
  c1 : wr.cell? ⟨pk.block, pk.off + 1, none⟩ = some (.int .i64 x.i)
  c2 : wr.cell? ⟨pk.block, pk.off + 2, none⟩ = some (.slice x.p.a x.p.l.length x.p.c)
  c3 : wr.cell? ⟨pk.block, pk.off + 3, none⟩ = some (.slice x.keep.a x.keep.l.length x.keep.c)
theorem ActAt.in {w wr : World} {pk : Addr} {x : ActV} (h : ActAt w pk x) (hb : Below w.heap.size w wr) : ActIn w x pk wr := by
  have e1 := h.c1
  have e2 := h.c2
  have e3 := h.c3
  rw [add_pos _ _ (by decide)] at e1 e2 e3
  exact ⟨(hb.cell (World.block_lt_of_cell? w _ h.c0)).trans h.c0, (hb.cell (World.block_lt_of_cell? w _ e1)).trans e1, (hb.cell (World.block_lt_of_cell? w _ e2)).trans e2, (hb.cell (World.block_lt_of_cell? w _ e3)).trans e3⟩
/-- Act k of the slice that came in. -/
theorem act_at {w wr : World} {s : Sl ActV} (h : SlA w s) (hb : Below w.heap.size w wr) {k : Nat} (hk : k < s.l.length) : ∃ ad pk, s.a = some ad ∧ ad.add (k * 4) = pk ∧ ActIn w s.l[k] pk wr ∧ ActAt w pk s.l[k] := by
  obtain ⟨ad, e, h1⟩ := h k hk
  exact ⟨ad, _, e, rfl, h1.in hb, h1⟩
end Go.Proofs.Ytembonenaoineaa
