/- The reference's sectors and Room; its Log in memory (RLM). Conditions: the Drum lies in memory and has four sectors. -/
import Derived.Test.YtembonenaoineaaRd
import Derived.Test.YtembonenaoineaaGa
import Derived.BigQuiet
import Derived.Deep.QuietTactic
import Derived.Test.YtembonenaoineaaLo
namespace Go.Proofs.Ytembonenaoineaa
set_option maxRecDepth 100000
set_option linter.unusedVariables false
open Go.ChangeShapes Go.WideShapes Go.ChangeAt Go.RowKit
theorem sectors_any {F : Nat → Prop} {w : World} {b : Nat} {s : DS} (h : RD F w b s) (h4 : 4 ≤ s.now.length) :
    Calls Try.prog 39 #[.pointer (some ⟨b, 0, none⟩)] w fun e w' => e = .returned (.int .i64 (bk s.now : Nat)) ∧ w = w' := by
  obtain ⟨ov, sv, wv, n, d, hm⟩ := h
  obtain ⟨A, c, hsv⟩ := own_slice hm.rs
  subst hsv
  have k1 := hm.cells.2.1
  have hfew := hm.ok.few
  have e0 : ((bk s.now : Nat) : Int) = ((s.now.length : Int) - 2) / 2 := by unfold bk; omega
  rw [e0]
  clear hm e0
  go_enter Try.func39, Try.ntmps39
  go_wp2
  go_ret
  refine ⟨?_, rfl⟩
  have h1 : ((s.now.length : Int) - 2).tdiv 2 = ((s.now.length : Int) - 2) / 2 := Int.tdiv_eq_ediv_of_nonneg (by omega)
  first
    | rfl
    | (simp only [h1])
    | (go_num)
/-- The reference's Log in block c, on the Drum in block b; its bytes are read at B. -/
def RLM (w : World) (c b : Nat) (h : Hd) (B : Option Addr) (bl : List UInt8) (cb cnt : Nat) (dead : Bool) : Prop :=
  w.heap[c]? = some (.cells #[.pointer (some ⟨b, 0, none⟩), .int .i64 (h.n : Nat), .int .i64 (h.k : Nat), .int .i64 (h.z : Nat), .slice B bl.length cb, .int .i64 (cnt : Nat), .bool dead] 53 (0, 0))
section
variable {w w' : World} {c b : Nat} {h : Hd} {B : Option Addr} {bl : List UInt8} {cb cnt : Nat} {dead : Bool}
theorem RLM.cells (hl : RLM w c b h B bl cb cnt dead) : w.cell? ⟨c, 0, none⟩ = some (.pointer (some ⟨b, 0, none⟩)) ∧ w.cell? ⟨c, 1, none⟩ = some (.int .i64 (h.n : Nat)) ∧ w.cell? ⟨c, 2, none⟩ = some (.int .i64 (h.k : Nat)) ∧ w.cell? ⟨c, 3, none⟩ = some (.int .i64 (h.z : Nat)) ∧
    w.cell? ⟨c, 4, none⟩ = some (.slice B bl.length cb) ∧ w.cell? ⟨c, 5, none⟩ = some (.int .i64 (cnt : Nat)) ∧ w.cell? ⟨c, 6, none⟩ = some (.bool dead) ∧ ∀ o, w.frozen? ⟨c, o, none⟩ = false := by
  refine ⟨?_, ?_, ?_, ?_, ?_, ?_, ?_, fun o => frozen_of_row w c o _ _ hl⟩ <;> (rw [cell_of_row w c _ _ _ _ hl]; rfl)
theorem RLM.lt (hl : RLM w c b h B bl cb cnt dead) : c < w.heap.size := block_lt hl
theorem RLM.chg {F : Nat → Prop} (hl : RLM w c b h B bl cb cnt dead) (hc : Chg F w w') (hF : ¬ F c) : RLM w' c b h B bl cb cnt dead := (hc.block c hl.lt hF).trans hl
theorem RLM.below (hl : RLM w c b h B bl cb cnt dead) (hb : Below w.heap.size w w') : RLM w' c b h B bl cb cnt dead := (hb.block c hl.lt).trans hl
theorem RLM.drewN (hl : RLM w c b h B bl cb cnt dead) (n : Nat) : RLM (w.drewN n) c b h B bl cb cnt dead := hl
theorem rroom_any {F : Nat → Prop} {s : DS} (hl : RLM w c b h B bl cb cnt dead) (hp : RD F w b s) (h4 : 4 ≤ s.now.length) (hz : bl.length ≤ bk s.now * 64) :
    Calls Try.prog 29 #[.pointer (some ⟨c, 0, none⟩)] w fun e w' => e = .returned (.int .i64 ((bk s.now * 64 - bl.length : Nat) : Int)) ∧ Below w.heap.size w w' := by
  obtain ⟨k0, k1, k2, k3, k4, k5, k6, kf⟩ := hl.cells
  have HP := Lib.hid hp
  have hbk := bk_few hp.ok.few
  have HE : Hid (((bk s.now * 64 : Nat) : Int) - (bl.length : Nat) = ((bk s.now * 64 - bl.length : Nat) : Int)) := by simp only [Hid]; omega
  have h1 : (bl.length : Int) ≤ 6400 := by omega
  have h2 : (bk s.now : Int) * 64 ≤ 6400 := by omega
  clear hl hp
  go_enter Try.func29, Try.ntmps29
  go_wp2_with fail
  go_quiet ((go_at_call 39; with_reducible exact quiet_eq (sectors_any (HP.out.below (below_drewN (Below.refl w.heap.size w) _)) h4)))
  have HB := Lib.hid (below_drewN (Below.refl w.heap.size w) nq)
  go_wp2
  go_ret
  exact ⟨ret_i (by have := HE.out; omega), HB.out⟩
end
end Go.Proofs.Ytembonenaoineaa
