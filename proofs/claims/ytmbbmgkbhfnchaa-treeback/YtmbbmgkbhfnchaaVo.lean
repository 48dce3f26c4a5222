/- An argument of type api.Val, opened: its five fields. -/
import Derived.Test.YtmbbmgkbhfnchaaUb
import Derived.Lib.SmallJoins
import Derived.ChangeOld
namespace Go.Proofs.Ytmbbmgkbhfnchaa
set_option maxRecDepth 100000
open Go.Joins Go.ChangeShapes Go.WideShapes Go.RowKit Go.Deep
open Fl (S)
open Val (V)
/-- What is known of a value that came in. -/
structure VOk (x : V) : Prop where
  k : (Lit.int .i64 x.k).wf = true
  n : (Lit.int .i64 x.n).wf = true
  f : x.f < 2 * S
  t : x.t.size ≤ maxLen
section
variable {H : Type} {enc : TypeId × Value → H} {P : Program} {w : World} {base : Nat} {spare : Nat → Bool} {held : Bool}
theorem trod_float {t : TypeId} {k : FloatKind} {fuel : Nat} {cs : List Value} {x : DataW H × List MemPlace} (ht : P.underlying t = some (.float k)) (h : DataW.trod enc P w base spare held fuel t cs = some x) : ∃ n, cs = [.float k n] ∧ x = (.lit (.float k n), []) ∧ (Lit.float k n).wf = true := by
  cases fuel with
  | zero => simp [DataW.trod] at h
  | succ n =>
    unfold DataW.trod at h
    rw [ht] at h
    split at h <;> simp_all
theorem one_cell {v v' : Value} (h : [v] = [v']) : v = v' := by simpa using h
theorem open_val {r : Reach} {b0 : Nat} {v : Value} {d : DataW H} {p : List MemPlace} (hv : Value.okWide Try.prog w r b0 32 v) (h : DataW.Trod enc Try.prog w base spare held 32 v d p) :
    ∃ x : V, v = vv x ∧ VOk x := by
  obtain ⟨cs, rfl, hsz⟩ := okWide_struct Try.underlying32 hv
  obtain ⟨l⟩ := cs
  have hC : Try.prog.cellsOf 32 = 5 := by kernel_rfl
  match l, hsz.trans hC with
  | [c0, c1, c2, c3, c4], _ =>
    obtain ⟨fuel, hf⟩ := h
    obtain ⟨xs, n, _, hx, _, hlen, hg⟩ := DataW.trod_struct Try.underlying32 hf
    match xs, hlen with
    | [y0, y1, y2, y3, y4], _ =>
      have g0 := hg 0 _ rfl
      have g1 := hg 1 _ rfl
      have g2 := hg 2 _ rfl
      have g3 := hg 3 _ rfl
      have g4 := hg 4 _ rfl
      simp [Value.cells] at g0
      simp [Value.cells] at g1
      simp [Value.cells] at g2
      simp [Value.cells] at g3
      simp [Value.cells] at g4
      obtain ⟨a0, e0, _, w0⟩ := DataW.trod_int Try.underlying3 g0
      obtain ⟨a1, e1, _⟩ := DataW.trod_bool Try.underlying4 g1
      obtain ⟨a2, e2, _, w2⟩ := DataW.trod_int Try.underlying3 g2
      obtain ⟨a3, e3, _, w3⟩ := trod_float Try.underlying30 g3
      obtain ⟨a4, e4, _, w4⟩ := DataW.trod_string Try.underlying9 g4
      obtain rfl := one_cell e0
      obtain rfl := one_cell e1
      obtain rfl := one_cell e2
      obtain rfl := one_cell e3
      obtain rfl := one_cell e4
      refine ⟨⟨a0, a1, a2, a3, a4⟩, rfl, w0, w2, ?_, w4⟩
      have : a3 < 2 ^ 64 := by simpa [Lit.wf] using w3
      unfold S; omega
end
end Go.Proofs.Ytmbbmgkbhfnchaa
