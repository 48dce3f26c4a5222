/- Lists of values that a law builds itself; what is held across a region that draws its order. -/
import Derived.Test.YtlaigelpkgakeaaVo
import Derived.Deep.RegionHeld3
import Derived.Laws.Rows
namespace Go.Proofs.Ytlaigelpkgakeaa
open Go.ChangeShapes Go.WideShapes Go.ChangeAt Go.RowKit
open Fl (S)
open Val (V isB)
abbrev cells5 (x : V) : List Value := [.int .i64 x.k, .bool x.b, .int .i64 x.n, .float .f64 x.f, .string x.t]
theorem vrow_new (W : World) (g : Nat) (hg : W.heap.size = g) (ty : TypeId) (l : List V) (f : Array Value) (hf : f.toList = l.flatMap cells5) : VRow (W.alloc (.cells f ty)) g l := by
  subst hg
  refine ⟨by simp, fun i hi => ?_⟩
  have hc : ∀ o, (W.alloc (.cells f ty)).cell? ⟨W.heap.size, o, none⟩ = (l.flatMap cells5)[o]? := fun o => by
    rw [← hf, Array.getElem?_toList]; exact cell_of_row _ _ o f ty (0, 0) (heap_alloc_new W _)
  have hl : ∀ (l : List V) (i : Nat) (hi : i < l.length) (j : Nat) (hj : j < 5), (l.flatMap cells5)[i * 5 + j]? = (cells5 l[i])[j]? := by
    intro l
    induction l with
    | nil => intro i hi; simp at hi
    | cons x r ih =>
      intro i hi j hj
      rw [List.flatMap_cons]
      cases i with
      | zero =>
        rw [List.getElem?_append_left (by simp; omega)]
        simp
      | succ i =>
        rw [List.getElem?_append_right (by simp; omega)]
        have e : (i + 1) * 5 + j - (cells5 x).length = i * 5 + j := by simp; omega
        rw [e, ih i (by simpa using hi) j hj]
        simp
  refine ⟨?_, ?_, ?_, ?_, ?_⟩
  · rw [hc, show i * 5 = i * 5 + 0 from rfl, hl l i hi 0 (by omega)]; rfl
  · rw [hc, hl l i hi 1 (by omega)]; rfl
  · rw [hc, hl l i hi 2 (by omega)]; rfl
  · rw [hc, hl l i hi 3 (by omega)]; rfl
  · rw [hc, hl l i hi 4 (by omega)]; rfl
/-- A world with three values boxed. -/
abbrev bx3 (w : World) (a b c : V) : World := ((w.alloc (.cells #[.int .i64 a.k, .bool a.b, .int .i64 a.n, .float .f64 a.f, .string a.t] 24)).alloc (.cells #[.int .i64 b.k, .bool b.b, .int .i64 b.n, .float .f64 b.f, .string b.t] 24)).alloc (.cells #[.int .i64 c.k, .bool c.b, .int .i64 c.n, .float .f64 c.f, .string c.t] 24)
/-- What is held across a region: below W's own blocks nothing has turned. -/
theorem held0 (W : World) : Below W.heap.size W W.drew ∧ ∀ b o, b < W.heap.size → W.drew.cell? ⟨b, o, none⟩ = W.cell? ⟨b, o, none⟩ := ⟨(Below.refl _ _).drew, fun _ _ _ => rfl⟩
theorem held1 {W w1 w2 : World} (hb : Below w1.heap.size w1 w2) (h : Below W.heap.size W w1 ∧ ∀ b o, b < W.heap.size → w1.cell? ⟨b, o, none⟩ = W.cell? ⟨b, o, none⟩) :
    Below W.heap.size W w2 ∧ ∀ b o, b < W.heap.size → w2.cell? ⟨b, o, none⟩ = W.cell? ⟨b, o, none⟩ := ⟨bnext h.1 hb, fun b o hl => (bnext h.1 hb).cell (p := ⟨b, o, none⟩) hl⟩
theorem held2 {w W w2 : World} (h0 : Below w.heap.size w W) (h : Below W.heap.size W w2 ∧ ∀ b o, b < W.heap.size → w2.cell? ⟨b, o, none⟩ = W.cell? ⟨b, o, none⟩) : Below w.heap.size w w2 := h0.trans (h.1.mono h0.size)
theorem allV_2 (x y : V) : allV [x, y] = (isB x && isB y) := by simp [allV]
theorem allV_3 (x y z : V) : allV [x, y, z] = (isB x && (isB y && isB z)) := by simp [allV]
end Go.Proofs.Ytlaigelpkgakeaa
