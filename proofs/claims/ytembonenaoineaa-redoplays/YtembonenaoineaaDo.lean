/- Arguments of the laws of chapter 4, opened: slices of bools, slices of acts. -/
import Derived.Test.YtembonenaoineaaMo
import Derived.Deep.Grids
import Derived.Deep.Slices
namespace Go.Proofs.Ytembonenaoineaa
set_option maxRecDepth 100000
set_option linter.unusedVariables false
open Go.ChangeShapes Go.WideShapes Go.ChangeAt Go.RowKit
def SlT (w : World) (s : Sl Bool) : Prop := Row .bool w s.a s.l
structure ActV where
  kind : Int
  i : Int
  p : Sl UInt8
  keep : Sl Bool
instance : Inhabited ActV := ⟨⟨0, 0, ⟨none, [], 0⟩, ⟨none, [], 0⟩⟩⟩
/-- The act whose four cells begin at ad reads x. -/
structure ActAt (w : World) (ad : Addr) (x : ActV) : Prop where
  c0 : w.cell? ad = some (.int .i64 x.kind)
  c1 : w.cell? (ad.add 1) = some (.int .i64 x.i)
  c2 : w.cell? (ad.add 2) = some (slv x.p)
  c3 : w.cell? (ad.add 3) = some (slv x.keep)
  wi : (Lit.int .i64 x.i).wf = true
  bp : SlB w x.p
  bk : SlT w x.keep
def SlA (w : World) (s : Sl ActV) : Prop := ∀ k (h : k < s.l.length), ∃ ad, s.a = some ad ∧ ActAt w (ad.add (k * 4)) s.l[k]
section
variable {H : Type} {enc : TypeId × Value → H} {w : World} {base : Nat} {held : Bool} {r : Reach} {b0 : Nat} {v : Value} {d : DataW H} {p : List MemPlace}
theorem cell_bools {fuel : Nat} {x : DataW H × List MemPlace} (h : DataW.trod enc Try.prog w base (fun _ => true) held fuel 37 [v] = some x) : ∃ s : Sl Bool, v = slv s ∧ SlT w s := by
  rcases Deep.open_bools Try.underlying37 Try.underlying4 (by kernel_rfl) h with ⟨hcs, _⟩ | ⟨ad, len, cap, B, hcs, _, hl, hm, _, hcell⟩
  · injection hcs with hcs
    subst hcs
    exact ⟨⟨none, [], 0⟩, rfl, fun i hi => absurd hi (by simp)⟩
  · injection hcs with hcs
    subst hcs
    refine ⟨⟨some ad, (List.range len).map B, cap⟩, by simp [slv], fun i hi => ⟨ad, rfl, ?_⟩⟩
    have hi2 : i < len := by simpa using hi
    rw [hcell i (by omega)]
    simp
theorem cell_bytes {fuel : Nat} {x : DataW H × List MemPlace} (h : DataW.trod enc Try.prog w base (fun _ => true) held fuel 36 [v] = some x) : ∃ s : Sl UInt8, v = slv s ∧ SlB w s := by
  rcases open_ints Try.underlying36 Try.underlying5 (by kernel_rfl) h with ⟨hcs, _⟩ | ⟨ad, len, cap, zs, hcs, _, hl, hm, hz, _, hcell, hwz⟩
  · injection hcs with hcs
    subst hcs
    exact ⟨⟨none, [], 0⟩, rfl, fun i hi => absurd hi (by simp), by simp, fun _ => rfl⟩
  · injection hcs with hcs
    subst hcs
    have hz' : zs.length = cap := by simpa using hz
    have hr : Row (.int .u8) w (some ad) (zs.take len) := fun i hi => ⟨ad, rfl, by
      have hi2 : i < zs.length := by simp at hi; omega
      rw [hcell i hi2]; simp [hi2]⟩
    obtain ⟨l, e, hl'⟩ := u8_list hr (fun n hn => hwz n (List.mem_of_mem_take hn))
    have hlen : (zs.take len).length = len := by simp; omega
    exact ⟨⟨some ad, l, cap⟩, by simp only [slv]; rw [e, hlen], hl', (show l.length ≤ cap by omega), fun e => by cases e⟩
theorem open_bools (hv : Value.okWide Try.prog w r b0 37 v) (h : DataW.Trod enc Try.prog w base (fun _ => true) held 37 v d p) : ∃ s : Sl Bool, v = slv s ∧ SlT w s := by
  obtain ⟨a0, len, cap, rfl⟩ := okWide_slice Try.underlying37 hv
  obtain ⟨fuel, hf⟩ := h
  exact cell_bools hf
theorem trod_len {t e : TypeId} (ht : Try.prog.underlying t = some (.slice e)) {A : Option Addr} {n c : Nat} (h : DataW.Trod enc Try.prog w base (fun _ => true) held t (.slice A n c) d p) : n = 0 ∨ ∃ elems spare, d = .slice elems spare ∧ elems.length = n := by
  obtain ⟨fuel, hf⟩ := h
  rcases Deep.open_slice ht hf with ⟨hcs, _⟩ | ⟨ad, len, cap, m, n', D, Pl, hcs, _, _, _, _, hx, _⟩
  · simp [Value.cells] at hcs
    exact .inl hcs.2.1
  · simp [Value.cells] at hcs
    obtain ⟨_, rfl, _⟩ := hcs
    injection hx with hx _
    exact .inr ⟨_, _, hx, by simp⟩
end
end Go.Proofs.Ytembonenaoineaa
