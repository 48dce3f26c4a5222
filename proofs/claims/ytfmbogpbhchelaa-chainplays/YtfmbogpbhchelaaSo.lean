/- Arguments that are slices of ints or of chapter 8's acts, opened: what they read as. -/
import Derived.Test.YtfmbogpbhchelaaKg
import Derived.SliceStrings
import Derived.Deep.Grids
import Derived.Deep.Slices
namespace Go.Proofs.Ytfmbogpbhchelaa
set_option maxRecDepth 100000
set_option linter.unusedVariables false
open Go.ChangeShapes Go.WideShapes Go.ChangeAt Go.RowKit
def SlI (k : IntKind) (w : World) (s : Sl Int) : Prop := Row (.int k) w s.a s.l
section
variable {H : Type} {enc : TypeId × Value → H} {w : World} {base : Nat} {held : Bool} {r : Reach} {b0 : Nat} {v : Value} {d : DataW H} {p : List MemPlace}
theorem open_ints64 (hv : Value.okWide Try.prog w r b0 32 v) (h : DataW.Trod enc Try.prog w base (fun _ => true) held 32 v d p) : ∃ s : Sl Int, v = slv s ∧ SlI .i64 w s := by
  obtain ⟨a0, len, cap, rfl⟩ := okWide_slice Try.underlying32 hv
  obtain ⟨fuel, hf⟩ := h
  rcases open_ints Try.underlying32 Try.underlying3 (by kernel_rfl) hf with ⟨hcs, _⟩ | ⟨x, l, c, zs, hcs, _, hl, hm, hz, _, hcell, hwz⟩
  · simp [Value.cells] at hcs
    obtain ⟨rfl, rfl, rfl⟩ := hcs
    exact ⟨⟨none, [], 0⟩, rfl, fun i hi => absurd hi (by simp)⟩
  · simp [Value.cells] at hcs
    obtain ⟨rfl, rfl, rfl⟩ := hcs
    have hz' : zs.length = cap := by simpa using hz
    have hlen : (zs.take len).length = len := by simp; omega
    refine ⟨⟨some x, zs.take len, cap⟩, by unfold slv; rw [hlen], fun i hi => ⟨x, rfl, ?_⟩⟩
    have hi2 : i < zs.length := by simp at hi; omega
    rw [hcell i hi2]; simp [hi2]
end
theorem add_pos (a : Addr) (n : Nat) (h : 0 < n) : a.add n = ⟨a.block, a.off + n, none⟩ := by
  unfold Addr.add; split
  · omega
  · rfl
structure Act8 where
  kind : Int
  l : Int
  i : Int
instance : Inhabited Act8 := ⟨⟨0, 0, 0⟩⟩
structure Act8At (w : World) (ad : Addr) (x : Act8) : Prop where
  c0 : w.cell? ad = some (.int .i64 x.kind)
  c1 : w.cell? (ad.add 1) = some (.int .i64 x.l)
  c2 : w.cell? (ad.add 2) = some (.int .i64 x.i)
def SlK8 (w : World) (s : Sl Act8) : Prop := ∀ k (h : k < s.l.length), ∃ ad, s.a = some ad ∧ Act8At w (ad.add (k * 3)) s.l[k]
section
variable {H : Type} {enc : TypeId × Value → H} {w : World} {base : Nat} {held : Bool} {r : Reach} {b0 : Nat} {v : Value} {d : DataW H} {p : List MemPlace}
theorem open_acts8 (hv : Value.okWide Try.prog w r b0 22 v) (h : DataW.Trod enc Try.prog w base (fun _ => true) held 22 v d p) : ∃ s : Sl Act8, v = slv s ∧ SlK8 w s := by
  obtain ⟨a0, len0, cap0, rfl⟩ := okWide_slice Try.underlying22 hv
  obtain ⟨fuel, hf⟩ := h
  have ce : Try.prog.cellsOf 30 = 3 := by kernel_rfl
  rcases Deep.open_slice Try.underlying22 hf with ⟨hcs, _⟩ | ⟨ad, len, cap, m, n, D, Pl, hcs, _, hl, hm, hmm, _, hx⟩
  · simp [Value.cells] at hcs
    obtain ⟨rfl, rfl, rfl⟩ := hcs
    exact ⟨⟨none, [], 0⟩, rfl, fun i hi => absurd hi (by simp)⟩
  · simp [Value.cells] at hcs
    obtain ⟨rfl, rfl, rfl⟩ := hcs
    simp only [if_true] at hmm
    subst hmm
    have each : ∀ k, k < len0 → ∃ x : Act8, Act8At w (ad.add (k * 3)) x := by
      intro k hk
      obtain ⟨cs', h1, h2⟩ := hx k (by omega)
      rw [ce] at h1
      obtain ⟨_, hlen, hcell⟩ := World.cells?_some h1
      obtain ⟨xs, k', hk', hxy, _, hxl, hf⟩ := DataW.trod_struct Try.underlying30 h2
      match xs, hxl, cs', hlen with
      | [y0, y1, y2], _, [v0, v1, v2], _ =>
        have g0 := hf 0 _ rfl
        have g1 := hf 1 _ rfl
        have g2 := hf 2 _ rfl
        have e3 : Try.prog.cellsOf 3 = 1 := by kernel_rfl
        simp [e3] at g0 g1 g2
        obtain ⟨n0, q0, _, _⟩ := DataW.trod_int Try.underlying3 g0
        obtain ⟨n1, q1, _, _⟩ := DataW.trod_int Try.underlying3 g1
        obtain ⟨n2, q2, _, _⟩ := DataW.trod_int Try.underlying3 g2
        have c0 := hcell 0 (by omega)
        have c1 := hcell 1 (by omega)
        have c2 := hcell 2 (by omega)
        simp at q0 q1 q2
        subst q0; subst q1; subst q2
        rw [Addr.add_zero'] at c0
        exact ⟨⟨n0, n1, n2⟩, by simpa using c0, by simpa using c1, by simpa using c2⟩
    obtain ⟨f, hf⟩ := Deep.choose_lt each
    refine ⟨⟨some ad, (List.range len0).map f, m⟩, by simp [slv], fun k hk => ⟨ad, rfl, ?_⟩⟩
    have hk2 : k < len0 := by simpa using hk
    simpa using hf k hk2
end
/-- Act k of the slice that came in, in whatever world that has grown. -/
theorem act8_at {w : World} {s : Sl Act8} (h : SlK8 w s) {k : Nat} (hk : k < s.l.length) : ∃ ad pk, s.a = some ad ∧ ad.add (k * 3) = pk ∧ ∀ wr, Below w.heap.size w wr → wr.cell? pk = some (.int .i64 s.l[k].kind) ∧ wr.cell? ⟨pk.block, pk.off + 1, none⟩ = some (.int .i64 s.l[k].l) ∧ wr.cell? ⟨pk.block, pk.off + 2, none⟩ = some (.int .i64 s.l[k].i) := by
  obtain ⟨ad, e, h1⟩ := h k hk
  have e1 := h1.c1
  have e2 := h1.c2
  rw [add_pos _ _ (by decide)] at e1 e2
  exact ⟨ad, _, e, rfl, fun wr hb => ⟨(hb.cell (World.block_lt_of_cell? w _ h1.c0)).trans h1.c0, (hb.cell (World.block_lt_of_cell? w _ e1)).trans e1, (hb.cell (World.block_lt_of_cell? w _ e2)).trans e2⟩⟩
end Go.Proofs.Ytfmbogpbhchelaa
