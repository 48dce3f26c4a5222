/- Arguments of the laws of chapter 4, opened: slices of bools, slices of acts. -/
import Derived.Test.YtghpjeaecdcgeaaMo
import Derived.Deep.Grids
import Derived.Deep.Slices
namespace Go.Proofs.Ytghpjeaecdcgeaa
set_option linter.unusedVariables false
open Go.ChangeShapes Go.WideShapes Go.ChangeAt Go.RowKit
def SlT (w : World) (s : Sl Bool) : Prop := Row .bool w s.a s.l
structure ActV where
  kind : Int
  i : Int
  p : Sl UInt8
  keep : Sl Bool
instance : Inhabited ActV := ⟨⟨0, 0, ⟨none, [], 0⟩, ⟨none, [], 0⟩⟩⟩
/-- The act whose four cells begin at ad reads x. -/
structure ActAt (w : World) (ad : Addr) (x : ActV) : Prop where
  c0 : w.cell? ad = some (.int .i64 x.kind)
  c1 : w.cell? (ad.add 1) = some (.int .i64 x.i)
  c2 : w.cell? (ad.add 2) = some (slv x.p)
  c3 : w.cell? (ad.add 3) = some (slv x.keep)
  wi : (Lit.int .i64 x.i).wf = true
  bp : SlB w x.p
  bk : SlT w x.keep
def SlA (w : World) (s : Sl ActV) : Prop := ∀ k (h : k < s.l.length), ∃ ad, s.a = some ad ∧ ActAt w (ad.add (k * 4)) s.l[k]
section
variable {H : Type} {enc : TypeId × Value → H} {w : World} {base : Nat} {held : Bool} {r : Reach} {b0 : Nat} {v : Value} {d : DataW H} {p : List MemPlace}
theorem cell_bools {fuel : Nat} {x : DataW H × List MemPlace} (h : DataW.trod enc Try.prog w base (fun _ => true) held fuel 29 [v] = some x) : ∃ s : Sl Bool, v = slv s ∧ SlT w s := by
  rcases Deep.open_bools Try.underlying29 Try.underlying4 (by kernel_rfl) h with ⟨hcs, _⟩ | ⟨ad, len, cap, B, hcs, _, hl, hm, _, hcell⟩
  · injection hcs with hcs
    subst hcs
    exact ⟨⟨none, [], 0⟩, rfl, fun i hi => absurd hi (by simp)⟩
  · injection hcs with hcs
    subst hcs
    refine ⟨⟨some ad, (List.range len).map B, cap⟩, by simp [slv], fun i hi => ⟨ad, rfl, ?_⟩⟩
    have hi2 : i < len := by simpa using hi
    rw [hcell i (by omega)]
    simp
theorem cell_bytes {fuel : Nat} {x : DataW H × List MemPlace} (h : DataW.trod enc Try.prog w base (fun _ => true) held fuel 28 [v] = some x) : ∃ s : Sl UInt8, v = slv s ∧ SlB w s := by
  rcases open_ints Try.underlying28 Try.underlying5 (by kernel_rfl) h with ⟨hcs, _⟩ | ⟨ad, len, cap, zs, hcs, _, hl, hm, hz, _, hcell, hwz⟩
  · injection hcs with hcs
    subst hcs
    exact ⟨⟨none, [], 0⟩, rfl, fun i hi => absurd hi (by simp), by simp, fun _ => rfl⟩
  · injection hcs with hcs
    subst hcs
    have hz' : zs.length = cap := by simpa using hz
    have hr : Row (.int .u8) w (some ad) (zs.take len) := fun i hi => ⟨ad, rfl, by
      have hi2 : i < zs.length := by simp at hi; omega
      rw [hcell i hi2]; simp [hi2]⟩
    obtain ⟨l, e, hl'⟩ := u8_list hr (fun n hn => hwz n (List.mem_of_mem_take hn))
    have hlen : (zs.take len).length = len := by simp; omega
    exact ⟨⟨some ad, l, cap⟩, by simp only [slv]; rw [e, hlen], hl', (show l.length ≤ cap by omega), fun e => by cases e⟩
theorem open_bools (hv : Value.okWide Try.prog w r b0 29 v) (h : DataW.Trod enc Try.prog w base (fun _ => true) held 29 v d p) : ∃ s : Sl Bool, v = slv s ∧ SlT w s := by
  obtain ⟨a0, len, cap, rfl⟩ := okWide_slice Try.underlying29 hv
  obtain ⟨fuel, hf⟩ := h
  exact cell_bools hf
theorem trod_len {t e : TypeId} (ht : Try.prog.underlying t = some (.slice e)) {A : Option Addr} {n c : Nat} (h : DataW.Trod enc Try.prog w base (fun _ => true) held t (.slice A n c) d p) : n = 0 ∨ ∃ elems spare, d = .slice elems spare ∧ elems.length = n := by
  obtain ⟨fuel, hf⟩ := h
  rcases Deep.open_slice ht hf with ⟨hcs, _⟩ | ⟨ad, len, cap, m, n', D, Pl, hcs, _, _, _, _, hx, _⟩
  · simp [Value.cells] at hcs
    exact .inl hcs.2.1
  · simp [Value.cells] at hcs
    obtain ⟨_, rfl, _⟩ := hcs
    injection hx with hx _
    exact .inr ⟨_, _, hx, by simp⟩
theorem open_acts (hv : Value.okWide Try.prog w r b0 22 v) (h : DataW.Trod enc Try.prog w base (fun _ => true) held 22 v d p) : ∃ s : Sl ActV, v = slv s ∧ SlA w s := by
  obtain ⟨a0, len0, cap0, rfl⟩ := okWide_slice Try.underlying22 hv
  obtain ⟨fuel, hf⟩ := h
  have ce : Try.prog.cellsOf 31 = 4 := by kernel_rfl
  rcases Deep.open_slice Try.underlying22 hf with ⟨hcs, _⟩ | ⟨ad, len, cap, m, n, D, Pl, hcs, _, hl, hm, hmm, _, hx⟩
  · simp [Value.cells] at hcs
    obtain ⟨rfl, rfl, rfl⟩ := hcs
    exact ⟨⟨none, [], 0⟩, rfl, fun i hi => absurd hi (by simp)⟩
  · simp [Value.cells] at hcs
    obtain ⟨rfl, rfl, rfl⟩ := hcs
    simp only [if_true] at hmm
    subst hmm
    have each : ∀ k, k < len0 → ∃ x : ActV, ActAt w (ad.add (k * 4)) x := by
      intro k hk
      obtain ⟨cs', h1, h2⟩ := hx k (by omega)
      rw [ce] at h1
      obtain ⟨_, hlen, hcell⟩ := World.cells?_some h1
      obtain ⟨xs, k', hk', hxy, _, hxl, hf⟩ := DataW.trod_struct Try.underlying31 h2
      match xs, hxl, cs', hlen with
      | [y0, y1, y2, y3], _, [v0, v1, v2, v3], _ =>
        have g0 := hf 0 _ rfl
        have g1 := hf 1 _ rfl
        have g2 := hf 2 _ rfl
        have g3 := hf 3 _ rfl
        have e3 : Try.prog.cellsOf 3 = 1 := by kernel_rfl
        have e28 : Try.prog.cellsOf 28 = 1 := by kernel_rfl
        have e29 : Try.prog.cellsOf 29 = 1 := by kernel_rfl
        simp [e3, e28, e29] at g0 g1 g2 g3
        obtain ⟨n0, q0, _, _⟩ := DataW.trod_int Try.underlying3 g0
        obtain ⟨n1, q1, _, w1⟩ := DataW.trod_int Try.underlying3 g1
        obtain ⟨sp, q2, b2⟩ := cell_bytes g2
        obtain ⟨sk, q3, b3⟩ := cell_bools g3
        have c0 := hcell 0 (by omega)
        have c1 := hcell 1 (by omega)
        have c2 := hcell 2 (by omega)
        have c3 := hcell 3 (by omega)
        simp at q0 q1
        subst q0; subst q1; subst q2; subst q3
        rw [Addr.add_zero'] at c0
        exact ⟨⟨n0, n1, sp, sk⟩, by simpa using c0, by simpa using c1, by simpa using c2, by simpa using c3, w1, b2, b3⟩
    obtain ⟨f, hf⟩ := Deep.choose_lt each
    refine ⟨⟨some ad, (List.range len0).map f, m⟩, by simp [slv], fun k hk => ⟨ad, rfl, ?_⟩⟩
    have hk2 : k < len0 := by simpa using hk
    simpa using hf k hk2
end
end Go.Proofs.Ytghpjeaecdcgeaa
