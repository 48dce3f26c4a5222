/- Slices of integers that came in, slices of float64 that the call made: what their cells hold, and that they keep it. -/
import Derived.Test.YtoladfiajalmoaaEdge
import Derived.Maps.AppendAt
import Derived.OwnWalk
namespace Go.Proofs.Ytoladfiajalmoaa
open Go.ChangeShapes Go.WideShapes Go.ChangeAt Go.RowKit

/-- The cells of a slice of integers of kind k hold l. -/
def IRow (k : IntKind) (w : World) (A : Option Addr) (l : List Int) : Prop := ∀ i (h : i < l.length), ∃ ad, A = some ad ∧ w.cell? (ad.add i) = some (.int k l[i])
theorem IRow.below {k : IntKind} {w w' : World} {A : Option Addr} {l : List Int} (h : IRow k w A l) (hb : Below w.heap.size w w') : IRow k w' A l := by
  intro i hi
  obtain ⟨ad, e, hc⟩ := h i hi
  exact ⟨ad, e, by rw [hb.cell (World.block_lt_of_cell? w _ hc)]; exact hc⟩
theorem frow_own {w : World} {base c : Nat} {A : Option Addr} {l : List Nat} (h : w.ownsRow base 23 1 (.slice A l.length c) l.length (l.map (Value.float .f64))) : FRow w A l := by
  intro k hk
  rcases h.2 with ⟨h0, h1⟩ | ⟨g, cap, cur, hv, _⟩
  · omega
  · have hA : A = some ⟨g, 0, none⟩ := by injection hv
    subst hA
    refine ⟨_, rfl, ?_⟩
    exact h.cells (g := g) rfl k _ (by simp [hk])
theorem own_slice {w : World} {base e size n : Nat} {v : Value} {xs : List Value} (h : w.ownsRow base e size v n xs) : ∃ A c, v = .slice A n c := by
  rcases h.2 with ⟨rfl, rfl⟩ | ⟨g, cap, cur, rfl, _⟩
  · exact ⟨_, _, rfl⟩
  · exact ⟨_, _, rfl⟩
theorem frow_drewN {w : World} {A : Option Addr} {l : List Nat} (h : FRow w A l) (n : Nat) : FRow (w.drewN n) A l := h
theorem info23 : (Try.prog.info? 23).map (fun i => (i.zero, i.size, i.bytes)) = some (some (.float .f64 0), 1, 8) := by kernel_rfl
end Go.Proofs.Ytoladfiajalmoaa
