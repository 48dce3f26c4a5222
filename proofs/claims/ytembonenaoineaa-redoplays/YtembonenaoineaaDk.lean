/- What known, of the laws of chapter 4, returns: true. No condition. -/
import Derived.Test.YtembonenaoineaaDz
import Derived.Lib.SlBytesConst
namespace Go.Proofs.Ytembonenaoineaa
set_option maxRecDepth 100000
set_option linter.unusedVariables false
open Go.ChangeShapes Go.WideShapes Go.ChangeAt Go.RowKit

theorem bs_new (w : World) (t : TypeId) (l : List UInt8) (cs : Array Value) (fr : Nat × Nat) (h : cs.toList = bcs l) : BS (w.alloc (.cells cs t fr)) (some ⟨w.heap.size, 0, none⟩) l l.length := by
  refine ⟨fun i hi => ⟨_, rfl, ?_⟩, Nat.le_refl _, fun e => by cases e⟩
  rw [Addr.add_lit, Nat.zero_add, cell_of_row _ _ i cs t fr (heap_alloc_new w _), ← Array.getElem?_toList, h]
  simp [bcs, hi]
theorem conv_const (w : World) (b : Int) : (convert 36 36 (.slice (some ⟨w.heap.size, 0, none⟩) 1 1)).run Try.prog (w.alloc (.cells #[.int .u8 b] 5)) = .ok (.slice (some ⟨w.heap.size, 0, none⟩) 1 1) (w.alloc (.cells #[.int .u8 b] 5 (1, 2))) :=
  Lib.run_convert_bytes_const w _ 5 #[.int .u8 b] 1 1 Try.underlying36 Try.underlying5
theorem own_at {B : Nat} {w : World} {v : Value} {l : List UInt8} (h : Own B w v l) (hl : 0 < l.length) : ∃ g c, v = .slice (some ⟨g, 0, none⟩) l.length c ∧ B ≤ g ∧ g < w.heap.size ∧ ∀ i (hi : i < l.length), w.cell? ⟨g, i, none⟩ = some (.int .u8 (l[i].toNat : Nat)) := by
  obtain ⟨g, c, rfl, hb, hlt⟩ := World.ownsRow.form h hl
  refine ⟨g, c, rfl, hb, hlt, fun i hi => ?_⟩
  have := World.ownsRow.cells h (g := g) rfl i (.int .u8 (l[i].toNat : Nat)) (by simp [bcs, hi])
  rw [Addr.add_lit, Nat.zero_add] at this
  exact this
theorem own_bs {B : Nat} {w : World} {A : Option Addr} {n c : Nat} {l : List UInt8} (h : Own B w (.slice A n c) l) : BS w A l c := by
  obtain ⟨A', c', hv, hbs, _⟩ := h.open
  injection hv with h1 h2 h3
  subst h1; subst h3
  exact hbs
theorem PD.drewN {F : Nat → Prop} {w : World} {a : Nat} {s : DS} (h : PD F w a s) (n : Nat) : PD F (w.drewN n) a s := h.same (fun _ h => h) h.lt (fun _ _ => rfl)
def k1 : DS := wrS (nwS 2) 0 [97]
def k2 : DS := syS k1
def k3 : DS := wrS k2 0 [98]
end Go.Proofs.Ytembonenaoineaa
