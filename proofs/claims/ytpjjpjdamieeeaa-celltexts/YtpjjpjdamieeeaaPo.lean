/- An argument that is a slice of strings, opened: the list that it reads as. -/
import Derived.Test.YtpjjpjdamieeeaaKg
import Derived.SliceStrings
namespace Go.Proofs.Ytpjjpjdamieeeaa
set_option maxRecDepth 100000
set_option linter.unusedVariables false
open Go.ChangeShapes Go.WideShapes Go.ChangeAt Go.RowKit
def SlS (w : World) (s : Sl ByteArray) : Prop := Row .string w s.a s.l ∧ ∀ x ∈ s.l, x.size ≤ 9223372036854775807
section
variable {H : Type} {enc : TypeId × Value → H} {w : World} {base : Nat} {held : Bool} {r : Reach} {b0 : Nat} {v : Value} {d : DataW H} {p : List MemPlace}
theorem open_strs (hv : Value.okWide Try.prog w r b0 52 v) (h : DataW.Trod enc Try.prog w base (fun _ => true) held 52 v d p) : ∃ s : Sl ByteArray, v = slv s ∧ SlS w s := by
  obtain ⟨a0, len, cap, rfl⟩ := okWide_slice Try.underlying52 hv
  obtain ⟨fuel, hf⟩ := h
  rcases open_strings Try.underlying52 Try.underlying9 (by kernel_rfl) hf with ⟨hcs, _⟩ | ⟨x, l, c, zs, hcs, _, hl, hm, hz, _, hcell, hwz⟩
  · simp [Value.cells] at hcs
    obtain ⟨rfl, rfl, rfl⟩ := hcs
    exact ⟨⟨none, [], 0⟩, rfl, fun i hi => absurd hi (by simp), by simp⟩
  · simp [Value.cells] at hcs
    obtain ⟨rfl, rfl, rfl⟩ := hcs
    have hz' : zs.length = cap := by simpa using hz
    have hlen : (zs.take len).length = len := by simp; omega
    refine ⟨⟨some x, zs.take len, cap⟩, by unfold slv; rw [hlen], fun i hi => ⟨x, rfl, ?_⟩, fun n hn => hwz n (List.mem_of_mem_take hn)⟩
    have hi2 : i < zs.length := by simp at hi; omega
    rw [hcell i hi2]; simp [hi2]
end
end Go.Proofs.Ytpjjpjdamieeeaa
