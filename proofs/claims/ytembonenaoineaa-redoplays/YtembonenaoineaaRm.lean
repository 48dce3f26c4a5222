/- Both Drums side by side in memory. -/
import Derived.Test.YtembonenaoineaaRd
import Derived.Test.YtembonenaoineaaDl
namespace Go.Proofs.Ytembonenaoineaa
set_option maxRecDepth 100000
set_option linter.unusedVariables false
open Go.ChangeShapes Go.WideShapes Go.ChangeAt Go.RowKit
structure Two (w wr : World) (a b : Nat) (s t : DS) (F G : Nat → Prop) : Prop where
  pd : PD F wr a s
  rd : RD G wr b t
  ap : ∀ k, F k → ¬ G k
  fF : ∀ k, F k → w.heap.size ≤ k
  fG : ∀ k, G k → w.heap.size ≤ k
  bl : Below w.heap.size w wr
section
variable {w wr w' : World} {a b : Nat} {s t s' : DS} {F G : Nat → Prop}
theorem Two.left (h : Two w wr a b s t F G) (h1 : PD (Nu F wr w') w' a s') (h2 : Chg F wr w') : Two w w' a b s' t (Nu F wr w') G := by
  exact ⟨h1, h.rd.chg h2 (fun k hk hf => h.ap k hf hk), nu_apart h.ap h.rd.lt, nu_ge h.fF h.bl.size, h.fG, Chg.of_below h.bl h2 h.fF⟩
theorem Two.right (h : Two w wr a b s t F G) (h1 : RD (Nu G wr w') w' b s') (h2 : Chg G wr w') : Two w w' a b s s' F (Nu G wr w') := by
  exact ⟨h.pd.chg h2 (fun k hk hg => h.ap k hk hg), h1, fun k hk hg => nu_apart (fun k hg hf => h.ap k hf hg) h.pd.lt k hg hk, h.fF, nu_ge h.fG h.bl.size, Chg.of_below h.bl h2 h.fG⟩
theorem Two.below (h : Two w wr a b s t F G) (hb : Below wr.heap.size wr w') : Two w w' a b s t F G :=
  ⟨h.pd.below hb, h.rd.below hb, h.ap, h.fF, h.fG, h.bl.trans (hb.mono h.bl.size)⟩
theorem Two.drew (h : Two w wr a b s t F G) : Two w wr.drew a b s t F G := h.below (Below.refl _ _).drew
/-- Another Drum in the program's place, in new memory. -/
theorem Two.newL (h : Two w wr a b s t F G) {a' : Nat} (hp : PD (Nu (fun _ => False) wr w') w' a' s') (hb : Below wr.heap.size wr w') : Two w w' a' b s' t (Nu (fun _ => False) wr w') G :=
  ⟨hp, h.rd.below hb, nu_apart (fun k hk => absurd hk id) h.rd.lt, nu_ge (fun k hk => absurd hk id) h.bl.size, h.fG, h.bl.trans (hb.mono h.bl.size)⟩
theorem Two.newR (h : Two w wr a b s t F G) {b' : Nat} (hp : RD (Nu (fun _ => False) wr w') w' b' s') (hb : Below wr.heap.size wr w') : Two w w' a b' s s' F (Nu (fun _ => False) wr w') :=
  ⟨h.pd.below hb, hp, fun k hk hg => nu_apart (fun k hk => absurd hk id) h.pd.lt k hg hk, h.fF, nu_ge (fun k hk => absurd hk id) h.bl.size, h.bl.trans (hb.mono h.bl.size)⟩
theorem arg_apart {A : Option Addr} {p : List UInt8} {c : Nat} (hb : BS w A p c) (hF : ∀ k, F k → w.heap.size ≤ k) : ∀ ad, A = some ad → p = [] ∨ ¬ F ad.block := fun ad e => by
  by_cases hx : p = []
  · exact .inl hx
  · right
    intro hf
    obtain ⟨ad', e', hc⟩ := hb.cells 0 (List.length_pos_iff.2 hx)
    rw [e] at e'
    injection e' with e'
    subst e'
    have h1 := World.block_lt_of_cell? w _ hc
    rw [add_block] at h1
    have h2 := hF _ hf
    omega
theorem row_below {K : Option Addr} {l : List Bool} (h : Row .bool w K l) (hb : Below w.heap.size w wr) : Row .bool wr K l := h.below hb
end
theorem two_new {w : World} {n : Int} {w1 w2 w3 : World} {a b : Nat} (hb1 : Below w.heap.size w w1) (hp : PD (Nu (fun _ => False) w1 w2) w2 a (nwS n)) (hb2 : Below w1.heap.size w1 w2) (hr : RD (Nu (fun _ => False) w2 w3) w3 b (nwS n)) (hb3 : Below w2.heap.size w2 w3) :
    Two w w3 a b (nwS n) (nwS n) (Nu (fun _ => False) w1 w2) (Nu (fun _ => False) w2 w3) := by
  have hb12 := hb1.trans (hb2.mono hb1.size)
  exact ⟨hp.below hb3, hr, fun k hk hg => nu_apart (fun k hk => absurd hk id) hp.lt k hg hk, nu_ge (fun k hk => absurd hk id) hb1.size, nu_ge (fun k hk => absurd hk id) hb12.size, hb12.trans (hb3.mono hb12.size)⟩
theorem wf64 {n : Int} (h : (Lit.int .i64 n).wf = true) : -9223372036854775808 ≤ n ∧ n ≤ 9223372036854775807 := by simpa [Lit.wf, IntKind.min, IntKind.max, IntKind.signed, IntKind.bits] using h
end Go.Proofs.Ytembonenaoineaa
