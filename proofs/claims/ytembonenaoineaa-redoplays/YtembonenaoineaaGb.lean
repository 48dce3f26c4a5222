/- Headers and banks as package redo reads them: contracts. Conditions: the Drum lies in memory and has four sectors. -/
import Derived.Test.YtembonenaoineaaGa
import Derived.Test.YtembonenaoineaaRg
import Derived.Lib.QuietBelow
namespace Go.Proofs.Ytembonenaoineaa
set_option maxRecDepth 100000
set_option linter.unusedVariables false
open Go.ChangeShapes Go.WideShapes Go.ChangeAt Go.RowKit
open Lb (encI encIs encS In64 encI_len nxtI resI)

theorem own_base {w : World} {e size n c g : Nat} {xs : List Value} {B : Nat} (h : w.ownsRow 0 e size (.slice (some ⟨g, 0, none⟩) n c) n xs) (hB : B ≤ g) : w.ownsRow B e size (.slice (some ⟨g, 0, none⟩) n c) n xs := by
  obtain ⟨cur, h1, h2, h3, h4, h5⟩ := own_open h
  exact ⟨h.1, .inr ⟨g, c, cur, rfl, hB, h1, h2, h3, h4, h5⟩⟩
set_option maxHeartbeats 1000000 in
theorem sector_any {w : World} (n k z : Int) (hn : In64 n) (hk : In64 k) (hz : In64 z) :
    Calls Try.prog 68 #[hdV n k z] w (Gives w.heap.size (pad (hdE n k z)) w) := by
  unfold hdV
  obtain ⟨i0, hi0, hz0, hz1, hz2⟩ := info_parts infoB
  have HL := Lib.hid (hdE_len hn hk hz)
  have HI : Hid (∀ m ∈ [n, k, z], In64 m) := by intro m hm; simp at hm; rcases hm with rfl | rfl | rfl <;> assumption
  clear hn hk hz
  have hb0 := (Below.refl w.heap.size w).alloc (Nat.le_refl _) (.cells #[.int .i64 n, .int .i64 k, .int .i64 z] 70)
  have HB0 := Lib.hid hb0
  clear hb0
  go_enter Try.func68, Try.ntmps68
  go_wp2_with (at_make; refine wpList_make_full _ rfl _ _ _ rfl 0 5 i0 _ 1 Try.underlying36 hi0 hz0 hz1 _ _ _ _ 64 rfl rfl (by decide) (by decide) (by rw [hz2]; decide) (by unfold maxLen; omega) (Nat.zero_le _) ?_)
  intro w1 ho hg
  have hb1 : Below (w.heap.size + 1) (w.alloc (.cells #[.int .i64 n, .int .i64 k, .int .i64 z] 70)) w1 := (Below.refl _ _).grown hg (by simp) (fun k e => by cases e)
  have ho1 : w1.ownsRow 0 5 1 (.slice (some ⟨w.heap.size + 1, 0, none⟩) 64 64) 64 (bcs zsec) := by
    have e : (madeCells #[Value.int .u8 0] 64).toList = bcs zsec := by rw [toList_madeCells_one]; rfl
    rw [← e]
    simpa using ho
  have HO1 := Lib.hid ho1
  have hlt1 : w.heap.size + 1 < w1.heap.size := by obtain ⟨cur, h, _⟩ := own_open ho1; exact block_lt h
  have hz1' := hb1.size
  simp only [World.size_alloc] at hz1'
  have HB1 := Lib.hid (HB0.out.trans (hb1.mono (by omega)))
  obtain ⟨hc, hf⟩ := bcell (W := w.alloc (.cells #[.int .i64 n, .int .i64 k, .int .i64 z] 70)) (w1 := w1) (by simpa using hb1)
  have q0 : w1.cell? ⟨w.heap.size, 0, none⟩ = some (.int .i64 n) := by rw [hc _ _ (by simp)]; rw [cell_of_row _ _ 0 _ _ _ (heap_alloc_new w _)]; rfl
  have q1 : w1.cell? ⟨w.heap.size, 1, none⟩ = some (.int .i64 k) := by rw [hc _ _ (by simp)]; rw [cell_of_row _ _ 1 _ _ _ (heap_alloc_new w _)]; rfl
  have q2 : w1.cell? ⟨w.heap.size, 2, none⟩ = some (.int .i64 z) := by rw [hc _ _ (by simp)]; rw [cell_of_row _ _ 2 _ _ _ (heap_alloc_new w _)]; rfl
  have HR := Lib.hid (row_new (.int .i64) w1 3 [n, k, z] #[.int .i64 n, .int .i64 k, .int .i64 z] rfl)
  have HA := Lib.hid ((Below.refl w1.heap.size w1).alloc (Nat.le_refl _) (.cells #[.int .i64 n, .int .i64 k, .int .i64 z] 3))
  clear ho hg hb1 ho1 hc hf
  go_wp2_with fail
  refine (int_any none [] 0 _ [n, k, z] _ _ (bs_nil _) HR.out HI.out (by simp) (by simp)).mono ?_
  rintro e w2 ⟨v, rfl, hown, hbel⟩
  change Own _ w2 v (hdE n k z) at hown
  obtain ⟨A, c, rfl, hbs, _⟩ := hown.open
  have hz2' := hbel.size
  simp only [World.size_alloc] at hz2'
  have hb2 : Below w1.heap.size w1 w2 := HA.out.trans (hbel.mono (by simp))
  have ho2 : w2.ownsRow 0 5 1 (.slice (some ⟨w.heap.size + 1, 0, none⟩) 64 64) 64 (bcs zsec) := own_same HO1.out (fun j hj => hb2.block j (by simp [Value.ownBlock] at hj; omega))
  obtain ⟨cur, hcur, _, _, hcs, _⟩ := own_open ho2
  have HCUR := Lib.hid hcur
  have HBS := Lib.hid hbs
  have hfin := own_splice ho2 hcur 0 (bcs (hdE n k z)) (by rw [bcs_len]; have := HL.out; omega)
  rw [splice_zsec _ (by have := HL.out; omega)] at hfin
  have HF : Hid (Own w.heap.size (w2.setRow (w.heap.size + 1) (splice cur.toList 0 (bcs (hdE n k z))).toArray) (.slice (some ⟨w.heap.size + 1, 0, none⟩) 64 64) (pad (hdE n k z))) := by
    show Own _ _ _ _
    unfold Own
    rw [pad_len (by have := HL.out; omega)]
    exact own_base hfin (by omega)
  have HB2 := Lib.hid (below_setRow (HB1.out.trans (hb2.mono (by omega))) (show w.heap.size ≤ w.heap.size + 1 by omega) (splice cur.toList 0 (bcs (hdE n k z))).toArray)
  have hcsz : cur.size = 64 := by simpa using hcs
  clear hown hbel hb2 ho2 hcur hcs hbs hfin HB0 HB1 HO1 HR HA q0 q1 q2
  go_wp2_with (refine wp_copyK rfl (.tmp 5) (.tmp 13) 36 36 rfl 5 1 Try.underlying36 (by kernel_rfl) (w.heap.size + 1) 0 64 64 _ c A rfl rfl cur 5 (bcs (hdE n k z)) HCUR.out (by rw [bcs_len, Nat.mul_one]; exact (Nat.min_eq_left (by have := HL.out; omega)).symm) (bs_cells HBS.out) (by rw [bcs_len]; have := HL.out; omega) (bcs_one _) ?_)
  go_ret
  exact ⟨_, rfl, HF.out, HB2.out⟩

/-- slices.Equal at bytes. -/
theorem equal_any {w : World} (A : Option Addr) (x : List UInt8) (c : Nat) (B : Option Addr) (y : List UInt8) (d : Nat) (hx : BS w A x c) (hy : BS w B y d) (hl : x.length ≤ 100000) :
    Calls Try.prog 67 #[.slice A x.length c, .slice B y.length d] w fun e w' => e = .returned (.bool (decide (x = y))) ∧ Below w.heap.size w w' := by
  have HX := Lib.hid hx
  have HY := Lib.hid hy
  clear hx hy
  by_cases hlen : x.length = y.length
  · have HLE := Lib.hid hlen
    have hq : (((x.length : Int)) == (y.length : Int)) = true := by simp; exact_mod_cast hlen
    have hq2 : (((x.length : Int)) != (y.length : Int)) = false := by simp; exact_mod_cast hlen
    clear hlen
    go_enter Try.func67, Try.ntmps67
    go_wp2
    clear hq hq2
    go_loopw [13] (fun i wr => ∃ k : Nat, k ≤ x.length ∧ i = .int .i64 k ∧ Hid (x.take k = y.take k ∧ Below w.heap.size w wr)) (fun i _ => x.length - (intOf i).toNat)
    case atStart => exact ⟨0, Nat.zero_le _, rfl, by simp, Below.refl _ _⟩
    case round =>
      obtain ⟨k, hk, rfl, HT⟩ := hrel
      by_cases hlt : k < x.length
      · have hlt2 : k < y.length := by have := HLE.out; omega
        obtain ⟨ax, rfl, cx⟩ := (HX.out.below HT.out.2).cells k hlt
        obtain ⟨ay, rfl, cy⟩ := (HY.out.below HT.out.2).cells k hlt2
        by_cases he : x[k] = y[k]
        · have HE := Lib.hid he
          rw [← he] at cy
          clear he
          go_wp2_with fail
          go_quiet (fail)
          have HB2 := Lib.hid (below_drewN HT.out.2 nq)
          go_wp2
          refine ⟨⟨k + 1, by omega, by go_num, ?_, HB2.out⟩, by simp [intOf]; omega⟩
          rw [List.take_succ_eq_append_getElem hlt, List.take_succ_eq_append_getElem hlt2, HT.out.1, HE.out]
        · have hne : ¬ ((x[k].toNat : Int)) = (y[k].toNat : Int) := fun h => he (UInt8.toNat.inj (by exact_mod_cast h))
          have hq : (((x[k].toNat : Int)) != (y[k].toNat : Int)) = true := by simpa using hne
          have HR : Hid (decide (x = y) = false) := by simp only [Hid]; exact decide_eq_false (fun h => he (by subst h; rfl))
          clear he hne
          go_wp2_with fail
          go_quiet (fail)
          have HB2 := Lib.hid (below_drewN HT.out.2 nq)
          go_wp2
          go_ret
          exact ⟨ret_b HR.out.symm, HB2.out⟩
      · obtain rfl : k = x.length := by omega
        have HR : Hid (decide (x = y) = true) := by
          simp only [Hid]
          refine decide_eq_true ?_
          have := HT.out.1
          rwa [List.take_length, HLE.out, List.take_length] at this
        go_wp2
        go_ret
        exact ⟨ret_b HR.out.symm, HT.out.2⟩
  · have hq : (((x.length : Int)) == (y.length : Int)) = false := by simp; omega
    have hq2 : (((x.length : Int)) != (y.length : Int)) = true := by simp; omega
    have HR : Hid (decide (x = y) = false) := by simp only [Hid]; exact decide_eq_false (fun h => hlen (by rw [h]))
    clear hlen
    go_enter Try.func67, Try.ntmps67
    go_wp2
    go_ret
    exact ⟨ret_b HR.out.symm, Below.refl _ _⟩

theorem rd_at (s : DS) (i : Nat) : rdL s (i : Nat) = s.now.getD i [] := by
  unfold rdL there
  by_cases h : i < s.now.length
  · rw [if_pos (decide_eq_true ⟨by omega, by omega⟩)]; rfl
  · rw [if_neg (by simp; omega), getD_past (by omega)]
theorem sec_len {s : DS} (h : DOk s) {i : Nat} (hi : i < s.now.length) : (s.now.getD i []).length = 64 := by
  rw [getD_at hi]; exact h.sec _ (List.getElem_mem hi)
theorem hd_no {m : Nat} {l : List UInt8} (h : hdOk m l = false) : hdIn m l = hd0 := by unfold hdIn; rw [h]; rfl
theorem hd_yes {m : Nat} {l : List UInt8} (h : hdOk m l = true) : hdIn m l = ⟨(r1 l).toNat, (r2 l).toNat, (r3 l).toNat⟩ ∧ r1 l = ((r1 l).toNat : Nat) ∧ r2 l = ((r2 l).toNat : Nat) ∧ r3 l = ((r3 l).toNat : Nat) := by
  refine ⟨by unfold hdIn; rw [h]; rfl, ?_⟩
  simp only [hdOk, Bool.and_eq_true, hvB, decide_eq_true_eq] at h
  omega
def hV (h : Hd) : Value := hdV (h.n : Nat) (h.k : Nat) (h.z : Nat)
def HdIs (h : Hd) (w : World) (e : Ending) (w' : World) : Prop := e = .returned (hV h) ∧ Below w.heap.size w w'
end Go.Proofs.Ytembonenaoineaa
