/- What known, of the laws of chapter 4, returns: true. No condition. -/
import Derived.Test.YtghpjeaecdcgeaaDz
import Derived.Lib.SlBytesConst
namespace Go.Proofs.Ytghpjeaecdcgeaa
set_option linter.unusedVariables false
open Go.ChangeShapes Go.WideShapes Go.ChangeAt Go.RowKit

theorem bs_new (w : World) (t : TypeId) (l : List UInt8) (cs : Array Value) (fr : Nat × Nat) (h : cs.toList = bcs l) : BS (w.alloc (.cells cs t fr)) (some ⟨w.heap.size, 0, none⟩) l l.length := by
  refine ⟨fun i hi => ⟨_, rfl, ?_⟩, Nat.le_refl _, fun e => by cases e⟩
  rw [Addr.add_lit, Nat.zero_add, cell_of_row _ _ i cs t fr (heap_alloc_new w _), ← Array.getElem?_toList, h]
  simp [bcs, hi]
theorem conv_const (w : World) (b : Int) : (convert 28 28 (.slice (some ⟨w.heap.size, 0, none⟩) 1 1)).run Try.prog (w.alloc (.cells #[.int .u8 b] 5)) = .ok (.slice (some ⟨w.heap.size, 0, none⟩) 1 1) (w.alloc (.cells #[.int .u8 b] 5 (1, 2))) :=
  Lib.run_convert_bytes_const w _ 5 #[.int .u8 b] 1 1 Try.underlying28 Try.underlying5
theorem own_at {B : Nat} {w : World} {v : Value} {l : List UInt8} (h : Own B w v l) (hl : 0 < l.length) : ∃ g c, v = .slice (some ⟨g, 0, none⟩) l.length c ∧ B ≤ g ∧ g < w.heap.size ∧ ∀ i (hi : i < l.length), w.cell? ⟨g, i, none⟩ = some (.int .u8 (l[i].toNat : Nat)) := by
  obtain ⟨g, c, rfl, hb, hlt⟩ := World.ownsRow.form h hl
  refine ⟨g, c, rfl, hb, hlt, fun i hi => ?_⟩
  have := World.ownsRow.cells h (g := g) rfl i (.int .u8 (l[i].toNat : Nat)) (by simp [bcs, hi])
  rw [Addr.add_lit, Nat.zero_add] at this
  exact this
theorem own_bs {B : Nat} {w : World} {A : Option Addr} {n c : Nat} {l : List UInt8} (h : Own B w (.slice A n c) l) : BS w A l c := by
  obtain ⟨A', c', hv, hbs, _⟩ := h.open
  injection hv with h1 h2 h3
  subst h1; subst h3
  exact hbs
theorem PD.drewN {F : Nat → Prop} {w : World} {a : Nat} {s : DS} (h : PD F w a s) (n : Nat) : PD F (w.drewN n) a s := h.same (fun _ h => h) h.lt (fun _ _ => rfl)
def k1 : DS := wrS (nwS 2) 0 [97]
def k2 : DS := syS k1
def k3 : DS := wrS k2 0 [98]
set_option maxRecDepth 100000 in
theorem known_any (w : World) : Calls Try.prog 22 #[] w fun e w' => e = .returned (.bool true) ∧ Below w.heap.size w w' := by
  go_enter Try.func22, Try.ntmps22
  go_wp2_with fail
  refine (new_any 2 w).mono ?_
  rintro e w1 ⟨a, rfl, hp1, hb1⟩
  have HB1 := Lib.hid hb1
  have HF1 := Lib.hid (nu_ge (F := fun _ => False) (w := w) (w' := w1) (B := w.heap.size) (fun _ h => absurd h id) (Nat.le_refl _))
  have HP1 := Lib.hid hp1
  have hz1 := hb1.size
  clear hp1 hb1
  generalize Nu (fun _ => False) w w1 = F1 at *
  have hba := (Below.refl w1.heap.size w1).alloc (Nat.le_refl _) (.cells #[.int .u8 97] 5 (1, 2))
  have HBA := Lib.hid hba
  have HPA := Lib.hid (HP1.out.below hba)
  have HAR := Lib.hid (bs_new w1 5 [97] #[.int .u8 97] (1, 2) rfl)
  have HLT := Lib.hid HP1.out.lt
  have cv1 := conv_const w1 97
  clear hba
  go_wp2_with fail
  refine (write_any HPA.out 0 _ [97] 1 HAR.out (fun ad e => .inr (by injection e with e; subst e; intro hf; have := HLT.out _ hf; simp at this)) (by decide)).mono ?_
  rintro e w2 ⟨rfl, hp2, hc2⟩
  rw [show wrE (nwS 2) 0 [97] = 0 from rfl]
  change PD _ w2 a k1 at hp2
  have hz2 := hc2.size
  simp only [World.size_alloc] at hz2
  have hb2 : Below w.heap.size w w2 := Chg.of_below (HB1.out.alloc hz1 _) hc2 HF1.out
  have HB2 := Lib.hid hb2
  have HF2 := Lib.hid (nu_ge (F := F1) (w := w1.alloc (.cells #[.int .u8 97] 5 (1, 2))) (w' := w2) (B := w.heap.size) HF1.out (by simp; omega))
  have HP2 := Lib.hid hp2
  clear hp2 hc2 hb2 cv1 HP1 HPA HAR HLT HF1
  generalize Nu F1 (w1.alloc (.cells #[.int .u8 97] 5 (1, 2))) w2 = F2 at *
  go_wp2_with fail
  refine (sync_any HP2.out).mono ?_
  rintro e w3 ⟨rfl, hp3, hc3⟩
  rw [show syE k1 = 0 from rfl]
  change PD _ w3 a k2 at hp3
  have hz3 := hc3.size
  have HB3 := Lib.hid (Chg.of_below HB2.out hc3 HF2.out)
  have HF3 := Lib.hid (nu_ge (F := F2) (w := w2) (w' := w3) (B := w.heap.size) HF2.out (by omega))
  have HP3 := Lib.hid hp3
  clear hp3 hc3 HP2 HF2
  generalize Nu F2 w2 w3 = F3 at *
  have hba := (Below.refl w3.heap.size w3).alloc (Nat.le_refl _) (.cells #[.int .u8 98] 5 (1, 2))
  have HPA := Lib.hid (HP3.out.below hba)
  have HAR := Lib.hid (bs_new w3 5 [98] #[.int .u8 98] (1, 2) rfl)
  have HLT := Lib.hid HP3.out.lt
  have cv3 := conv_const w3 98
  clear hba
  go_wp2_with fail
  refine (write_any HPA.out 0 _ [98] 1 HAR.out (fun ad e => .inr (by injection e with e; subst e; intro hf; have := HLT.out _ hf; simp at this)) (by decide)).mono ?_
  rintro e w4 ⟨rfl, hp4, hc4⟩
  rw [show wrE k2 0 [98] = 0 from rfl]
  change PD _ w4 a k3 at hp4
  have hz4 := hc4.size
  simp only [World.size_alloc] at hz4
  have HB4 := Lib.hid (Chg.of_below (HB3.out.alloc (by omega) _) hc4 HF3.out)
  have HP4 := Lib.hid hp4
  clear hp4 hc4 cv3 HP3 HPA HAR HLT HF3
  generalize Nu F3 (w3.alloc (.cells #[.int .u8 98] 5 (1, 2))) w4 = F4 at *
  go_wp2_with fail
  refine (crash_any HP4.out none [] 0 (fun i hi => absurd hi (by simp)) (by decide)).mono ?_
  rintro e w5 ⟨x, rfl, hp5, hb5⟩
  have hz5 := hb5.size
  have HB5 := Lib.hid (HB4.out.trans (hb5.mono (by omega)))
  have HP5 := Lib.hid hp5
  have HD5 := Lib.hid (HP4.out.below hb5)
  have hbb := (Below.refl w5.heap.size w5).alloc (Nat.le_refl _) (.cells #[.bool true] 4)
  have HD6 := Lib.hid (HD5.out.below hbb)
  have HX6 := Lib.hid (HP5.out.below hbb)
  have HRW := Lib.hid (row_new Value.bool w5 4 [true] #[.bool true] rfl)
  have HB6 := Lib.hid (HB5.out.alloc (by omega) (.cells #[.bool true] 4))
  clear hp5 hb5 hbb
  generalize Nu (fun _ => False) w4 w5 = F5 at *
  go_wp2_with fail
  refine (crash_any HD6.out (some ⟨w5.heap.size, 0, none⟩) [true] 1 HRW.out (by decide)).mono ?_
  rintro e w6 ⟨y, rfl, hp6, hb6⟩
  have hz6 := hb6.size
  simp only [World.size_alloc] at hz6
  have HB7 := Lib.hid (HB6.out.trans (hb6.mono (by simp; omega)))
  have HP6 := Lib.hid hp6
  have HX7 := Lib.hid (HX6.out.below hb6)
  have HD7 := Lib.hid (HD6.out.below hb6)
  clear hp6 hb6
  generalize Nu (fun _ => False) (w5.alloc (.cells #[.bool true] 4)) w6 = F6 at *
  go_wp2_with fail
  refine (read_any HX7.out 0).mono ?_
  rintro e w7 ⟨v7, rfl, ho7, hb7⟩
  have hz7 := hb7.size
  have HB8 := Lib.hid (HB7.out.trans (hb7.mono (by omega)))
  have HY7 := Lib.hid (HP6.out.below hb7)
  have HD8 := Lib.hid (HD7.out.below hb7)
  rw [show rdL (crS k3 []) 0 = pad [97] from rfl] at ho7
  obtain ⟨gp, cp, rfl, hgp, hgp2, hcp⟩ := own_at ho7 (by decide)
  have hc7 := hcp 0 (by decide)
  clear hb7 ho7 hcp
  go_wp2_with fail
  refine (read_any HY7.out 0).mono ?_
  rintro e w8 ⟨v8, rfl, ho8, hb8⟩
  have HB9 := Lib.hid (HB8.out.trans (hb8.mono (by omega)))
  have HD9 := Lib.hid (HD8.out.below hb8)
  rw [show rdL (crS k3 [true]) 0 = pad [98] from rfl] at ho8
  obtain ⟨gq, cq, rfl, hgq, hgq2, hcq⟩ := own_at ho8 (by decide)
  have hc8 := hcq 0 (by decide)
  have hc9 : w8.cell? ⟨gp, 0, none⟩ = _ := (hb8.cell (p := ⟨gp, 0, none⟩) hgp2).trans hc7
  clear hb8 ho8 hcq hc7
  change w8.cell? ⟨gq, 0, none⟩ = some (.int .u8 98) at hc8
  change w8.cell? ⟨gp, 0, none⟩ = some (.int .u8 97) at hc9
  go_wp2_with fail
  refine (waiting_any HD9.out).mono ?_
  rintro e w9 ⟨rfl, rfl⟩
  go_wp2
  go_ret
  exact ⟨rfl, HB9.out⟩
end Go.Proofs.Ytghpjeaecdcgeaa
