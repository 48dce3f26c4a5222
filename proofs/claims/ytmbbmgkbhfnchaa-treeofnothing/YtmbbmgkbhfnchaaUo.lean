/- Arguments that are entries of the api or slices of chapter 9's acts, opened: what they read as; may of chapter 9's laws. No condition. -/
import Derived.Test.YtmbbmgkbhfnchaaVo
import Derived.Test.YtmbbmgkbhfnchaaUj
import Derived.SliceStrings
import Derived.ChangeSame
import Derived.Deep.Grids
import Derived.Deep.Slices
namespace Go.Proofs.Ytmbbmgkbhfnchaa
set_option maxRecDepth 100000
set_option linter.unusedVariables false
open Go.ChangeShapes Go.WideShapes Go.ChangeAt Go.RowKit
open Fl (S)
open Val (V cmpV cmpI isB)
def SlI (k : IntKind) (w : World) (s : Sl Int) : Prop := Row (.int k) w s.a s.l
def SlU9 (w : World) (s : Sl Int) : Prop := SlI .u64 w s ∧ ∀ x ∈ s.l, (Lit.int .u64 x).wf = true
section
variable {H : Type} {enc : TypeId × Value → H} {w : World} {base : Nat} {held : Bool} {r : Reach} {b0 : Nat} {v : Value} {d : DataW H} {p : List MemPlace} {spare : Nat → Bool}
theorem open_ints64 (hv : Value.okWide Try.prog w r b0 53 v) (h : DataW.Trod enc Try.prog w base (fun _ => true) held 53 v d p) : ∃ s : Sl Int, v = slv s ∧ SlI .i64 w s := by
  obtain ⟨a0, len, cap, rfl⟩ := okWide_slice Try.underlying53 hv
  obtain ⟨fuel, hf⟩ := h
  rcases open_ints Try.underlying53 Try.underlying3 (by kernel_rfl) hf with ⟨hcs, _⟩ | ⟨x, l, c, zs, hcs, _, hl, hm, hz, _, hcell, hwz⟩
  · simp [Value.cells] at hcs
    obtain ⟨rfl, rfl, rfl⟩ := hcs
    exact ⟨⟨none, [], 0⟩, rfl, fun i hi => absurd hi (by simp)⟩
  · simp [Value.cells] at hcs
    obtain ⟨rfl, rfl, rfl⟩ := hcs
    have hz' : zs.length = cap := by simpa using hz
    have hlen : (zs.take len).length = len := by simp; omega
    refine ⟨⟨some x, zs.take len, cap⟩, by unfold slv; rw [hlen], fun i hi => ⟨x, rfl, ?_⟩⟩
    have hi2 : i < zs.length := by simp at hi; omega
    rw [hcell i hi2]; simp [hi2]
theorem open_words9 (hv : Value.okWide Try.prog w r b0 47 v) (h : DataW.Trod enc Try.prog w base (fun _ => true) held 47 v d p) : ∃ s : Sl Int, v = slv s ∧ SlU9 w s := by
  obtain ⟨a0, len, cap, rfl⟩ := okWide_slice Try.underlying47 hv
  obtain ⟨fuel, hf⟩ := h
  rcases open_ints Try.underlying47 Try.underlying48 (by kernel_rfl) hf with ⟨hcs, _⟩ | ⟨x, l, c, zs, hcs, _, hl, hm, hz, _, hcell, hwz⟩
  · simp [Value.cells] at hcs
    obtain ⟨rfl, rfl, rfl⟩ := hcs
    exact ⟨⟨none, [], 0⟩, rfl, fun i hi => absurd hi (by simp), fun x hx => by cases hx⟩
  · simp [Value.cells] at hcs
    obtain ⟨rfl, rfl, rfl⟩ := hcs
    have hz' : zs.length = cap := by simpa using hz
    have hlen : (zs.take len).length = len := by simp; omega
    refine ⟨⟨some x, zs.take len, cap⟩, by unfold slv; rw [hlen], fun i hi => ⟨x, rfl, ?_⟩, fun y hy => ?_⟩
    · have hi2 : i < zs.length := by simp at hi; omega
      rw [hcell i hi2]; simp [hi2]
    · have := List.mem_of_mem_take hy
      exact hwz _ this
/-- The five cells of an api.Val that came in. -/
theorem trod_val {fuel : Nat} {c0 c1 c2 c3 c4 : Value} {x : DataW H × List MemPlace} (h : DataW.trod enc Try.prog w base spare held fuel 32 [c0, c1, c2, c3, c4] = some x) : ∃ v : V, c0 = .int .i64 v.k ∧ c1 = .bool v.b ∧ c2 = .int .i64 v.n ∧ c3 = .float .f64 v.f ∧ c4 = .string v.t ∧ VOk v := by
  obtain ⟨xs, n, _, hx, _, hlen, hg⟩ := DataW.trod_struct Try.underlying32 h
  match xs, hlen with
  | [y0, y1, y2, y3, y4], _ =>
    have g0 := hg 0 _ rfl
    have g1 := hg 1 _ rfl
    have g2 := hg 2 _ rfl
    have g3 := hg 3 _ rfl
    have g4 := hg 4 _ rfl
    have e0 : Try.prog.cellsOf 3 = 1 := by kernel_rfl
    have e1 : Try.prog.cellsOf 4 = 1 := by kernel_rfl
    have e2 : Try.prog.cellsOf 30 = 1 := by kernel_rfl
    have e3 : Try.prog.cellsOf 9 = 1 := by kernel_rfl
    simp [e0] at g0
    simp [e1] at g1
    simp [e0] at g2
    simp [e2] at g3
    simp [e3] at g4
    obtain ⟨a0, e0, _, w0⟩ := DataW.trod_int Try.underlying3 g0
    obtain ⟨a1, e1, _⟩ := DataW.trod_bool Try.underlying4 g1
    obtain ⟨a2, e2, _, w2⟩ := DataW.trod_int Try.underlying3 g2
    obtain ⟨a3, e3, _, w3⟩ := trod_float Try.underlying30 g3
    obtain ⟨a4, e4, _, w4⟩ := DataW.trod_string Try.underlying9 g4
    obtain rfl := one_cell e0
    obtain rfl := one_cell e1
    obtain rfl := one_cell e2
    obtain rfl := one_cell e3
    obtain rfl := one_cell e4
    refine ⟨⟨a0, a1, a2, a3, a4⟩, rfl, rfl, rfl, rfl, rfl, w0, w2, ?_, w4⟩
    have : a3 < 2 ^ 64 := by simpa [Lit.wf] using w3
    unfold S; omega
/-- The six cells of an api.Entry that came in. -/
theorem trod_entry {fuel : Nat} {c0 c1 c2 c3 c4 c5 : Value} {x : DataW H × List MemPlace} (h : DataW.trod enc Try.prog w base spare held fuel 34 [c0, c1, c2, c3, c4, c5] = some x) : ∃ e : En, c0 = .int .i64 e.v.k ∧ c1 = .bool e.v.b ∧ c2 = .int .i64 e.v.n ∧ c3 = .float .f64 e.v.f ∧ c4 = .string e.v.t ∧ c5 = .int .i64 e.i ∧ VOk e.v := by
  obtain ⟨y0, y1, n, _, _, h0, h1⟩ := trod_struct2 Try.underlying34 h
  have e0 : Try.prog.cellsOf 32 = 5 := by kernel_rfl
  have e1 : Try.prog.cellsOf 3 = 1 := by kernel_rfl
  simp [e0] at h0
  simp [e1] at h1
  obtain ⟨v, q0, q1, q2, q3, q4, hv⟩ := trod_val h0
  obtain ⟨i, e5, _, _⟩ := DataW.trod_int Try.underlying3 h1
  obtain rfl := one_cell e5
  exact ⟨⟨v, i⟩, q0, q1, q2, q3, q4, rfl, hv⟩
theorem open_entry (hv : Value.okWide Try.prog w r b0 34 v) (h : DataW.Trod enc Try.prog w base spare held 34 v d p) : ∃ x : En, v = ev x ∧ VOk x.v := by
  obtain ⟨cs, rfl, hsz⟩ := okWide_struct Try.underlying34 hv
  obtain ⟨l⟩ := cs
  have hC : Try.prog.cellsOf 34 = 6 := by kernel_rfl
  match l, hsz.trans hC with
  | [c0, c1, c2, c3, c4, c5], _ =>
    obtain ⟨fuel, hf⟩ := h
    simp [Value.cells] at hf
    obtain ⟨e, rfl, rfl, rfl, rfl, rfl, rfl, hk⟩ := trod_entry hf
    exact ⟨e, rfl, hk⟩
end
theorem add_pos (a : Addr) (n : Nat) (h : 0 < n) : a.add n = ⟨a.block, a.off + n, none⟩ := by
  unfold Addr.add; split
  · omega
  · rfl
structure Act9 where
  kind : Int
  x : En
instance : Inhabited Act9 := ⟨⟨0, ⟨⟨0, false, 0, 0, ⟨#[]⟩⟩, 0⟩⟩⟩
structure Act9At (w : World) (ad : Addr) (x : Act9) : Prop where
  c0 : w.cell? ad = some (.int .i64 x.kind)
  c1 : w.cell? (ad.add 1) = some (.int .i64 x.x.v.k)
  c2 : w.cell? (ad.add 2) = some (.bool x.x.v.b)
  c3 : w.cell? (ad.add 3) = some (.int .i64 x.x.v.n)
  c4 : w.cell? (ad.add 4) = some (.float .f64 x.x.v.f)
  c5 : w.cell? (ad.add 5) = some (.string x.x.v.t)
  c6 : w.cell? (ad.add 6) = some (.int .i64 x.x.i)
  ok : VOk x.x.v
def SlK9 (w : World) (s : Sl Act9) : Prop := ∀ k (h : k < s.l.length), ∃ ad, s.a = some ad ∧ Act9At w (ad.add (k * 7)) s.l[k]
section
variable {H : Type} {enc : TypeId × Value → H} {w : World} {base : Nat} {held : Bool} {r : Reach} {b0 : Nat} {v : Value} {d : DataW H} {p : List MemPlace}
theorem open_acts9 (hv : Value.okWide Try.prog w r b0 22 v) (h : DataW.Trod enc Try.prog w base (fun _ => true) held 22 v d p) : ∃ s : Sl Act9, v = slv s ∧ SlK9 w s := by
  obtain ⟨a0, len0, cap0, rfl⟩ := okWide_slice Try.underlying22 hv
  obtain ⟨fuel, hf⟩ := h
  have ce : Try.prog.cellsOf 36 = 7 := by kernel_rfl
  rcases Deep.open_slice Try.underlying22 hf with ⟨hcs, _⟩ | ⟨ad, len, cap, m, n, D, Pl, hcs, _, hl, hm, hmm, _, hx⟩
  · simp [Value.cells] at hcs
    obtain ⟨rfl, rfl, rfl⟩ := hcs
    exact ⟨⟨none, [], 0⟩, rfl, fun i hi => absurd hi (by simp)⟩
  · simp [Value.cells] at hcs
    obtain ⟨rfl, rfl, rfl⟩ := hcs
    simp only [if_true] at hmm
    subst hmm
    have each : ∀ k, k < len0 → ∃ x : Act9, Act9At w (ad.add (k * 7)) x := by
      intro k hk
      obtain ⟨cs', h1, h2⟩ := hx k (by omega)
      rw [ce] at h1
      obtain ⟨_, hlen, hcell⟩ := World.cells?_some h1
      obtain ⟨y0, y1, k', _, _, g0, g1⟩ := trod_struct2 Try.underlying36 h2
      match cs', hlen with
      | [v0, v1, v2, v3, v4, v5, v6], _ =>
        have e1 : Try.prog.cellsOf 3 = 1 := by kernel_rfl
        have e6 : Try.prog.cellsOf 34 = 6 := by kernel_rfl
        simp [e1] at g0
        simp [e6] at g1
        obtain ⟨n0, q0, _, _⟩ := DataW.trod_int Try.underlying3 g0
        obtain rfl := one_cell q0
        obtain ⟨e, rfl, rfl, rfl, rfl, rfl, rfl, hv⟩ := trod_entry g1
        have c0 := hcell 0 (by omega)
        have c1 := hcell 1 (by omega)
        have c2 := hcell 2 (by omega)
        have c3 := hcell 3 (by omega)
        have c4 := hcell 4 (by omega)
        have c5 := hcell 5 (by omega)
        have c6 := hcell 6 (by omega)
        rw [Addr.add_zero'] at c0
        exact ⟨⟨n0, e⟩, by simpa using c0, by simpa using c1, by simpa using c2, by simpa using c3, by simpa using c4, by simpa using c5, by simpa using c6, hv⟩
    obtain ⟨f, hf⟩ := Deep.choose_lt each
    refine ⟨⟨some ad, (List.range len0).map f, m⟩, by simp [slv], fun k hk => ⟨ad, rfl, ?_⟩⟩
    have hk2 : k < len0 := by simpa using hk
    simpa using hf k hk2
end
def Act9In (wr : World) (pk : Addr) (x : Act9) : Prop := wr.cell? pk = some (.int .i64 x.kind) ∧ wr.cell? ⟨pk.block, pk.off + 1, none⟩ = some (.int .i64 x.x.v.k) ∧ wr.cell? ⟨pk.block, pk.off + 2, none⟩ = some (.bool x.x.v.b) ∧ wr.cell? ⟨pk.block, pk.off + 3, none⟩ = some (.int .i64 x.x.v.n) ∧ wr.cell? ⟨pk.block, pk.off + 4, none⟩ = some (.float .f64 x.x.v.f) ∧ wr.cell? ⟨pk.block, pk.off + 5, none⟩ = some (.string x.x.v.t) ∧ wr.cell? ⟨pk.block, pk.off + 6, none⟩ = some (.int .i64 x.x.i)
/-- Act k of the slice that came in, in whatever world that has grown. -/
theorem act9_at {w : World} {s : Sl Act9} (h : SlK9 w s) {k : Nat} (hk : k < s.l.length) : ∃ ad pk, s.a = some ad ∧ ad.add (k * 7) = pk ∧ VOk s.l[k].x.v ∧ ∀ wr, Below w.heap.size w wr → Act9In wr pk s.l[k] := by
  obtain ⟨ad, e, h1⟩ := h k hk
  obtain ⟨c0, c1, c2, c3, c4, c5, c6, ok⟩ := h1
  rw [add_pos _ _ (by decide)] at c1 c2 c3 c4 c5 c6
  exact ⟨ad, _, e, rfl, ok, fun wr hb => ⟨(hb.cell (World.block_lt_of_cell? w _ c0)).trans c0, (hb.cell (World.block_lt_of_cell? w _ c1)).trans c1, (hb.cell (World.block_lt_of_cell? w _ c2)).trans c2, (hb.cell (World.block_lt_of_cell? w _ c3)).trans c3, (hb.cell (World.block_lt_of_cell? w _ c4)).trans c4, (hb.cell (World.block_lt_of_cell? w _ c5)).trans c5, (hb.cell (World.block_lt_of_cell? w _ c6)).trans c6⟩⟩
end Go.Proofs.Ytmbbmgkbhfnchaa
