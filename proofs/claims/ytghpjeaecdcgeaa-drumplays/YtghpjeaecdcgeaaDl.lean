/- Acts that came in, read one by one; what long, of the laws of chapter 4, does: it returns. No condition. -/
import Derived.Test.YtghpjeaecdcgeaaDo
import Derived.Test.YtghpjeaecdcgeaaDk
import Derived.BigQuiet
import Derived.Deep.QuietTactic
namespace Go.Proofs.Ytghpjeaecdcgeaa
set_option linter.unusedVariables false
open Go.ChangeShapes Go.WideShapes Go.ChangeAt Go.RowKit
theorem add_pos (a : Addr) (n : Nat) (h : 0 < n) : a.add n = ⟨a.block, a.off + n, none⟩ := by
  unfold Addr.add; split
  · omega
  · rfl
/-- The cells of an act, as the walk spells them, in a world that has grown. -/
structure ActIn (w : World) (x : ActV) (pk : Addr) (wr : World) : Prop where
  c0 : wr.cell? pk = some (.int .i64 x.kind)
  c1 : wr.cell? ⟨pk.block, pk.off + 1, none⟩ = some (.int .i64 x.i)
  c2 : wr.cell? ⟨pk.block, pk.off + 2, none⟩ = some (.slice x.p.a x.p.l.length x.p.c)
  c3 : wr.cell? ⟨pk.block, pk.off + 3, none⟩ = some (.slice x.keep.a x.keep.l.length x.keep.c)
theorem ActAt.in {w wr : World} {pk : Addr} {x : ActV} (h : ActAt w pk x) (hb : Below w.heap.size w wr) : ActIn w x pk wr := by
  have e1 := h.c1
  have e2 := h.c2
  have e3 := h.c3
  rw [add_pos _ _ (by decide)] at e1 e2 e3
  exact ⟨(hb.cell (World.block_lt_of_cell? w _ h.c0)).trans h.c0, (hb.cell (World.block_lt_of_cell? w _ e1)).trans e1, (hb.cell (World.block_lt_of_cell? w _ e2)).trans e2, (hb.cell (World.block_lt_of_cell? w _ e3)).trans e3⟩
/-- Act k of the slice that came in. -/
theorem act_at {w wr : World} {s : Sl ActV} (h : SlA w s) (hb : Below w.heap.size w wr) {k : Nat} (hk : k < s.l.length) : ∃ ad pk, s.a = some ad ∧ ad.add (k * 4) = pk ∧ ActIn w s.l[k] pk wr ∧ ActAt w pk s.l[k] := by
  obtain ⟨ad, e, h1⟩ := h k hk
  exact ⟨ad, _, e, rfl, h1.in hb, h1⟩
set_option maxRecDepth 100000 in
theorem long_any {w : World} (A : Option Addr) (l : List ActV) (c : Nat) (h : SlA w ⟨A, l, c⟩) :
    Calls Try.prog 10 #[.slice A l.length c] w fun e w' => ∃ b, e = .returned (.bool b) ∧ Below w.heap.size w w' := by
  have H := Lib.hid h
  clear h
  go_enter Try.func10, Try.ntmps10
  go_wp2
  go_loopw [3, 4] (fun n i wr => ∃ (z : Int) (k : Nat), k ≤ l.length ∧ k ≤ 60 ∧ n = .int .i64 z ∧ i = .int .i64 k ∧ Hid (Below w.heap.size w wr)) (fun _ i _ => 60 - (intOf i).toNat)
  case atStart => exact ⟨0, 0, Nat.zero_le _, by omega, rfl, rfl, Below.refl _ _⟩
  case round =>
    obtain ⟨z, k, hk, hk60, rfl, rfl, HB⟩ := hrel
    by_cases hlt : k < l.length
    · by_cases h60 : k < 60
      · obtain ⟨ad, pk, hA, hpk, hin, hat⟩ := act_at H.out HB.out (k := k) hlt
        simp only at hA
        subst hA
        have c2 := hin.c2
        have c3 := hin.c3
        clear hin hat
        go_wp2_with fail
        go_quiet (fail)
        have HB2 := Lib.hid (below_drewN HB.out nq)
        generalize wrap64 (wrap64 (wrap64 (z + 1) + (l[k].p.l.length : Int)) + (l[k].keep.l.length : Int)) = z2 at *
        clear c2 c3 hpk
        by_cases hz : 5000 < z2
        · go_wp2
          go_ret
          exact ⟨_, rfl, HB2.out⟩
        · go_wp2
          refine ⟨⟨z2, k + 1, by omega, by omega, rfl, by go_num, HB2.out⟩, by simp [intOf]; omega⟩
      · go_wp2
        go_ret
        exact ⟨_, rfl, HB.out⟩
    · go_wp2
      go_ret
      exact ⟨_, rfl, HB.out⟩
end Go.Proofs.Ytghpjeaecdcgeaa
