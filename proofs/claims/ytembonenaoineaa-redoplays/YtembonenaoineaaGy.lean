/- What put, Append and Reset of package redo do: contracts. Conditions: the Drum and the Log lie in memory; lengths below 10,000. -/
import Derived.Test.YtembonenaoineaaGx
import Derived.StillTailTactics
namespace Go.Proofs.Ytembonenaoineaa
set_option maxRecDepth 100000
set_option linter.unusedVariables false
open Go.ChangeShapes Go.WideShapes Go.ChangeAt Go.RowKit
open Lb (encI encIs encS In64 encI_len encSs encSs_len encS_len)

structure LG where
  h : Hd
  cnt : Nat
  dead : Bool
def nxOk (s : DS) (at' : Hd) (e : List UInt8) : Bool := hvB (bk s.now) ((at'.n + 1 : Nat) : Int) (at'.k : Nat) ((at'.z + e.length : Nat) : Int)
def apE (s : DS) (L : LG) (at' : Hd) (e : List UInt8) : Int := if L.dead then 9 else if nxOk s at' e then saveE s (pI s at') (pX s at' e) (nx at' e) else 3
def apS (s : DS) (L : LG) (at' : Hd) (e : List UInt8) : DS := if L.dead then s else if nxOk s at' e then saveS s (pI s at') (pX s at' e) (nx at' e) else s
def apL (s : DS) (L : LG) (at' : Hd) (c0 : Nat) (e : List UInt8) : LG := if L.dead then L else if nxOk s at' e then (if saveE s (pI s at') (pX s at' e) (nx at' e) = 0 then ⟨nx at' e, c0 + 1, false⟩ else ⟨L.h, L.cnt, true⟩) else L
def LMg (w : World) (c a : Nat) (L : LG) : Prop := LM w c a L.h L.cnt L.dead
/-- A method of the Log in block c returns E, leaves the Drum in state S' and the Log as L'. -/
def Puts (F : Nat → Prop) (w : World) (c a : Nat) (E : Int) (S' : DS) (L' : LG) (e : Ending) (w' : World) : Prop :=
  e = .returned (.int .i64 E) ∧ PD (Nu F w w') w' a S' ∧ LMg w' c a L' ∧ Chg (fun k => F k ∨ k = c) w w'
section
variable {F : Nat → Prop} {w w0 w1 : World} {c a : Nat} {E : Int} {s S' : DS} {L L' : LG}
/-- Nothing written. -/
theorem puts_same (hp : PD F w a s) (hl : LMg w c a L) (hb : Below w.heap.size w w1) (E : Int) : Puts F w c a E s L (.returned (.int .i64 E)) w1 :=
  ⟨rfl, (hp.below hb).wide hb.size F (fun _ h => .inl h) hp.lt, hl.below hb, Chg.below hb⟩
/-- The Log's cells written last. -/
theorem puts_set (h0 : ∀ k, F k → k < w.heap.size) (hcF : ¬ F c) (hcl : c < w.heap.size) (hb : Below w.heap.size w w0) (hp : PD (Nu F w0 w1) w1 a S') (hc : Chg F w0 w1) {w2 : World} (hg : w1.grownBy w2 (some c)) (hl : LMg w2 c a L') : Puts F w c a E S' L' (.returned (.int .i64 E)) w2 := by
  have hs := hb.size
  have hs1 := hc.size
  have hs2 := hg.size
  have hcN : ∀ k, Nu F w0 w1 k → k ≠ c := fun k hk e => by
    subst e
    rcases hk with hk | hk
    · exact hcF hk
    · omega
  refine ⟨rfl, hp.same (fun k hk => ?_) (fun k hk => ?_) (fun k hk => hg.block k (hp.lt k hk) (fun e => hcN k hk (by injection e))), hl, ?_⟩
  · rcases hk with hk | hk
    · exact .inl hk
    · exact .inr ⟨by omega, by omega⟩
  · rcases hk with hk | hk
    · have := h0 k hk; omega
    · exact hk.2
  · refine (((Chg.below (F := fun k => F k ∨ k = c) hb).trans (hc.mono fun k hk => .inl (.inl hk)))).grown hg (fun k e => by injection e with e; exact .inl (.inr e.symm))
theorem LM.dies {h : Hd} {cnt : Nat} {dead : Bool} (hl : LM w c a h cnt dead) : LM (w.setCell ⟨c, 5, none⟩ (.bool true)) c a h cnt true := by
  have := heap_setCell_same w c 5 _ _ (.bool true) hl
  exact this
theorem LM.heads {h h' : Hd} {cnt cnt' : Nat} {dead : Bool} (hl : LM w c a h cnt dead) :
    LM ((((w.setCell ⟨c, 1, none⟩ (.int .i64 (h'.n : Nat))).setCell ⟨c, 2, none⟩ (.int .i64 (h'.k : Nat))).setCell ⟨c, 3, none⟩ (.int .i64 (h'.z : Nat))).setCell ⟨c, 4, none⟩ (.int .i64 (cnt' : Nat))) c a h' cnt' dead := by
  have h1 := heap_setCell_same w c 1 _ _ (.int .i64 (h'.n : Nat)) hl
  have h2 := heap_setCell_same _ c 2 _ _ (.int .i64 (h'.k : Nat)) h1
  have h3 := heap_setCell_same _ c 3 _ _ (.int .i64 (h'.z : Nat)) h2
  have h4 := heap_setCell_same _ c 4 _ _ (.int .i64 (cnt' : Nat)) h3
  exact h4
end
set_option maxHeartbeats 4000000 in
theorem put_any {F : Nat → Prop} {w : World} {c a : Nat} {s : DS} {L : LG} (h : PD F w a s) (hl : LMg w c a L) (hcF : ¬ F c) (P : Option Addr) (p : List UInt8) (cp : Nat) (hP : BS w P p cp) (hpl : p.length ≤ 10000)
    (at' : Hd) (hk : at'.k ≤ 1) (hn : at'.n ≤ 1099511627776) (hz : at'.z ≤ 10000) (c0 : Nat) (hc0 : c0 ≤ 100000) (h4 : 4 ≤ s.now.length) (hp : s.pend.length ≤ 800) :
    Calls Try.prog 42 #[.pointer (some ⟨c, 0, none⟩), .slice P p.length cp, hV at', .int .i64 (c0 : Nat)] w (Puts F w c a (apE s L at' (encS p)) (apS s L at' (encS p)) (apL s L at' c0 (encS p))) := by
  have H0 := Lib.hid h.lt
  have hbk := bk_few h.ok.few
  have hcl := hl.lt
  obtain ⟨n1, k1, z1⟩ := at'
  obtain ⟨⟨n0, k0, z0⟩, cnt, dead⟩ := L
  simp only at hk hn hz
  have HV1 : Hid (hV ⟨n1, k1, z1⟩ = .agg #[.int .i64 (n1 : Nat), .int .i64 (k1 : Nat), .int .i64 (z1 : Nat)]) := rfl
  obtain ⟨W0, hW0⟩ : ∃ W0, w.alloc (.cells #[.int .i64 (n1 : Nat), .int .i64 (k1 : Nat), .int .i64 (z1 : Nat)] 70) = W0 := ⟨_, rfl⟩
  have hz0 : W0.heap.size = w.heap.size + 1 := by rw [← hW0]; simp
  have hb0 : Below w.heap.size w W0 := by rw [← hW0]; exact (Below.refl w.heap.size w).alloc (Nat.le_refl _) _
  have y0 : W0.heap[w.heap.size]? = some (.cells #[.int .i64 (n1 : Nat), .int .i64 (k1 : Nat), .int .i64 (z1 : Nat)] 70 (0, 0)) := by rw [← hW0]; exact heap_alloc_new w _
  have HAT : Hid (∀ W, Below W0.heap.size W0 W → W.cell? ⟨w.heap.size, 0, none⟩ = some (.int .i64 (n1 : Nat)) ∧ W.cell? ⟨w.heap.size, 1, none⟩ = some (.int .i64 (k1 : Nat)) ∧ W.cell? ⟨w.heap.size, 2, none⟩ = some (.int .i64 (z1 : Nat))) := fun W hW => by
    have := (hW.block w.heap.size (by omega)).trans y0
    refine ⟨?_, ?_, ?_⟩ <;> (rw [cell_of_row W _ _ _ _ _ this]; rfl)
  have HLW : Hid (∀ W, Below W0.heap.size W0 W → LM W c a ⟨n0, k0, z0⟩ cnt dead) := fun W hW => LM.below (LM.below hl hb0) hW
  have HB0 := Lib.hid hb0
  have HH := Lib.hid h
  have HL := Lib.hid hl
  have HP0 := Lib.hid (h.below hb0)
  have HPB := Lib.hid (hP.below hb0)
  obtain ⟨q0, q1, q2, q3, q4, q5, qf⟩ := (HLW.out W0 (Below.refl _ _)).cells
  rw [HV1.out]
  have hconv := (hP.below hb0).conv _ rfl
  have HZ0 := Lib.hid hz0
  clear h hl hP hb0 y0 HV1 hz0
  cases dead with
  | true =>
    have HE : Hid (apE s ⟨⟨n0, k0, z0⟩, cnt, true⟩ ⟨n1, k1, z1⟩ (encS p) = 9 ∧ apS s ⟨⟨n0, k0, z0⟩, cnt, true⟩ ⟨n1, k1, z1⟩ (encS p) = s ∧ apL s ⟨⟨n0, k0, z0⟩, cnt, true⟩ ⟨n1, k1, z1⟩ c0 (encS p) = ⟨⟨n0, k0, z0⟩, cnt, true⟩) := ⟨rfl, rfl, rfl⟩
    go_enter Try.func42, Try.ntmps42
    go_wp2
    go_ret
    rw [HE.out.1, HE.out.2.1, HE.out.2.2]
    exact puts_same HH.out HL.out HB0.out 9
  | false =>
    have hb1 := (Below.refl W0.heap.size W0).alloc (Nat.le_refl _) (.cells #[.string (bstr p)] 9)
    have HB1 := Lib.hid hb1
    have HRW := Lib.hid (row_new Value.string W0 9 [bstr p] #[.string (bstr p)] rfl)
    have hsz : (bstr p).size = p.length := bstr_size p
    have HES : Hid (encSs [bstr p] = encS p) := by simp [Hid, encSs]; rfl
    have HEL : Hid ((encS p).length ≤ 10010 ∧ 1 ≤ (encS p).length) := by
      have := (encS_len (bstr p) (by omega)).1
      have e : (bstr p).data.toList = p := rfl
      rw [e] at this
      exact ⟨by omega, encS_pos (by omega)⟩
    have HSTR := Lib.hid (str_any none [] 0 (some ⟨W0.heap.size, 0, none⟩) [bstr p] 1 (W0.alloc (.cells #[.string (bstr p)] 9)) (bs_nil _) HRW.out (fun u hu => by simp at hu; subst hu; omega) (by rw [List.nil_append, HES.out]; have := HEL.out; omega) (by simp))
    rw [List.nil_append, HES.out] at HSTR
    simp only [List.length_nil, List.length_cons, Nat.zero_add] at HSTR
    clear hb1 hsz HES HRW
    go_enter Try.func42, Try.ntmps42
    go_wp2_with fail
    refine HSTR.out.mono ?_
    rintro er w1 ⟨v1, rfl, ho1, hb1⟩
    have hz1 := hb1.size
    simp only [World.size_alloc] at hz1
    have hbw : Below W0.heap.size W0 w1 := HB1.out.trans (hb1.mono (by simp))
    obtain ⟨A1, c1, rfl, hbs1, _⟩ := ho1.open
    generalize encS p = e at *
    have hel := HEL.out
    have HBS1 := Lib.hid hbs1
    obtain ⟨a0, a1, a2⟩ := HAT.out w1 hbw
    obtain ⟨W2, hW2⟩ : ∃ W2, w1.alloc (.cells #[.int .i64 ((n1 : Int) + 1), .int .i64 (k1 : Nat), .int .i64 ((z1 : Int) + (e.length : Nat))] 70) = W2 := ⟨_, rfl⟩
    have hb2 : Below w1.heap.size w1 W2 := by rw [← hW2]; exact (Below.refl w1.heap.size w1).alloc (Nat.le_refl _) _
    have hz2 : W2.heap.size = w1.heap.size + 1 := by rw [← hW2]; simp
    have y2 : W2.heap[w1.heap.size]? = some (.cells #[.int .i64 ((n1 : Int) + 1), .int .i64 (k1 : Nat), .int .i64 ((z1 : Int) + (e.length : Nat))] 70 (0, 0)) := by rw [← hW2]; exact heap_alloc_new w1 _
    have hb02 : Below W0.heap.size W0 W2 := hbw.trans (hb2.mono (by omega))
    have HBW2 := Lib.hid hb02
    have HY2 := Lib.hid y2
    have x0 : W2.cell? ⟨w1.heap.size, 0, none⟩ = some (.int .i64 ((n1 : Int) + 1)) := (cell_of_row _ _ 0 _ _ _ y2).trans rfl
    have x1 : W2.cell? ⟨w1.heap.size, 1, none⟩ = some (.int .i64 (k1 : Nat)) := (cell_of_row _ _ 1 _ _ _ y2).trans rfl
    have x2 : W2.cell? ⟨w1.heap.size, 2, none⟩ = some (.int .i64 ((z1 : Int) + (e.length : Nat))) := (cell_of_row _ _ 2 _ _ _ y2).trans rfl
    obtain ⟨l0, l1, l2, l3, l4, l5, lf⟩ := (HLW.out W2 hb02).cells
    have HP2 := Lib.hid (HP0.out.below hb02)
    have HBS2 := Lib.hid (hbs1.below hb2)
    have HVA := Lib.hid (valid_any HP2.out.drew ((n1 : Int) + 1) (k1 : Nat) ((z1 : Int) + (e.length : Nat)))
    have HZ2 := Lib.hid hz2
    clear ho1 hb1 hbw hbs1 hb2 hz2 y2 hb02 HSTR HB1 q0 q1 q2 q3 q4 q5 qf hconv HPB
    have hww : w.heap.size < w1.heap.size := by have := HZ0.out; omega
    have hne : w.heap.size ≠ w1.heap.size := by omega
    go_wp2_with fail
    go_still_tail 5, (by kernel_rfl)
    change wpList _ _ _ _ _ W2.drew
    go_wp2_with fail
    refine HVA.out.mono ?_
    rintro er w3 ⟨rfl, hb3⟩
    replace hb3 : Below W2.heap.size W2 w3 := (Below.refl W2.heap.size W2).drew.trans hb3
    have hz3 := hb3.size
    have HOK : Hid (hvB (bk s.now) ((n1 : Int) + 1) (k1 : Nat) ((z1 : Int) + (e.length : Nat)) = nxOk s ⟨n1, k1, z1⟩ e) := by simp only [Hid, nxOk]; push_cast; rfl
    rw [HOK.out]
    have HB3 := Lib.hid (HBW2.out.trans (hb3.mono (by have := HZ2.out; omega)))
    have hy3 := (hb3.block w1.heap.size (by have := HZ2.out; omega)).trans HY2.out
    have z0' : w3.cell? ⟨w1.heap.size, 0, none⟩ = some (.int .i64 ((n1 : Int) + 1)) := (cell_of_row _ _ 0 _ _ _ hy3).trans rfl
    have z1' : w3.cell? ⟨w1.heap.size, 1, none⟩ = some (.int .i64 (k1 : Nat)) := (cell_of_row _ _ 1 _ _ _ hy3).trans rfl
    have z2' : w3.cell? ⟨w1.heap.size, 2, none⟩ = some (.int .i64 ((z1 : Int) + (e.length : Nat))) := (cell_of_row _ _ 2 _ _ _ hy3).trans rfl
    have HY3 := Lib.hid hy3
    obtain ⟨a0, a1, a2⟩ := HAT.out w3 HB3.out
    have HL3 := Lib.hid (HLW.out w3 HB3.out)
    obtain ⟨l0, l1, l2, l3, l4, l5, lf⟩ := HL3.out.cells
    have HP3 := Lib.hid (HP0.out.below HB3.out)
    have HBS3 := Lib.hid (HBS2.out.below hb3)
    have HBW : Hid (Below w.heap.size w w3) := HB0.out.trans (HB3.out.mono (by have := HZ0.out; omega))
    clear hb3 hy3 HVA x0 x1 x2 HY2 HBS2 HP2 HBW2 HBS1 HOK
    cases hok : nxOk s ⟨n1, k1, z1⟩ e with
    | false =>
      have HE : Hid (apE s ⟨⟨n0, k0, z0⟩, cnt, false⟩ ⟨n1, k1, z1⟩ e = 3 ∧ apS s ⟨⟨n0, k0, z0⟩, cnt, false⟩ ⟨n1, k1, z1⟩ e = s ∧ apL s ⟨⟨n0, k0, z0⟩, cnt, false⟩ ⟨n1, k1, z1⟩ c0 e = ⟨⟨n0, k0, z0⟩, cnt, false⟩) := by simp [Hid, apE, apS, apL, hok]
      clear hok
      go_wp2
      go_ret
      rw [HE.out.1, HE.out.2.1, HE.out.2.2]
      exact puts_same HH.out HL.out HBW.out 3
    | true =>
      have hok' := hok
      simp only [nxOk, hvB, decide_eq_true_eq] at hok'
      have hn' : n1 + 1 ≤ 1099511627776 := by omega
      have hz' : z1 + e.length ≤ bk s.now * 64 := by omega
      have HNV : Hid (hV (nx ⟨n1, k1, z1⟩ e) = .agg #[.int .i64 ((n1 : Int) + 1), .int .i64 (k1 : Nat), .int .i64 ((z1 : Int) + (e.length : Nat))]) := by simp only [Hid, hV, hdV, nx]; push_cast; rfl
      have HSV := Lib.hid (save_any HP3.out.drew ⟨n1, k1, z1⟩ A1 e c1 (HBS3.out.drewN 1) hk h4 hel.2 hz' hp (nx ⟨n1, k1, z1⟩ e) hn' hk (by show z1 + e.length ≤ 100000; omega))
      rw [HNV.out] at HSV
      have HV1 : Hid (hV ⟨n1, k1, z1⟩ = .agg #[.int .i64 (n1 : Nat), .int .i64 (k1 : Nat), .int .i64 (z1 : Nat)]) := rfl
      rw [HV1.out] at HSV
      have HE : Hid (apE s ⟨⟨n0, k0, z0⟩, cnt, false⟩ ⟨n1, k1, z1⟩ e = saveE s (pI s ⟨n1, k1, z1⟩) (pX s ⟨n1, k1, z1⟩ e) (nx ⟨n1, k1, z1⟩ e) ∧ apS s ⟨⟨n0, k0, z0⟩, cnt, false⟩ ⟨n1, k1, z1⟩ e = saveS s (pI s ⟨n1, k1, z1⟩) (pX s ⟨n1, k1, z1⟩ e) (nx ⟨n1, k1, z1⟩ e)
        ∧ (saveE s (pI s ⟨n1, k1, z1⟩) (pX s ⟨n1, k1, z1⟩ e) (nx ⟨n1, k1, z1⟩ e) = 0 → apL s ⟨⟨n0, k0, z0⟩, cnt, false⟩ ⟨n1, k1, z1⟩ c0 e = ⟨nx ⟨n1, k1, z1⟩ e, c0 + 1, false⟩)
        ∧ (saveE s (pI s ⟨n1, k1, z1⟩) (pX s ⟨n1, k1, z1⟩ e) (nx ⟨n1, k1, z1⟩ e) ≠ 0 → apL s ⟨⟨n0, k0, z0⟩, cnt, false⟩ ⟨n1, k1, z1⟩ c0 e = ⟨⟨n0, k0, z0⟩, cnt, true⟩)) := by
        refine ⟨by simp [apE, hok], by simp [apS, hok], fun h0 => by simp [apL, hok, h0], fun h0 => by simp [apL, hok, h0]⟩
      generalize saveE s (pI s ⟨n1, k1, z1⟩) (pX s ⟨n1, k1, z1⟩ e) (nx ⟨n1, k1, z1⟩ e) = er at *
      generalize saveS s (pI s ⟨n1, k1, z1⟩) (pX s ⟨n1, k1, z1⟩ e) (nx ⟨n1, k1, z1⟩ e) = s' at *
      clear hok hok' HV1 HNV
      go_wp2_with fail
      go_still_tail 7, (by kernel_rfl)
      change wpList _ _ _ _ _ w3.drew
      go_wp2_with fail
      refine HSV.out.mono ?_
      rintro er' w4 ⟨rfl, hp4, hc4⟩
      replace hc4 : Chg F w3 w4 := ⟨hc4.os, hc4.tape, hc4.output, hc4.size, hc4.block⟩
      have hz4 := hc4.size
      have HP4 : Hid (PD (Nu F w3 w4) w4 a s') := hp4
      have HC4 := Lib.hid hc4
      have HLT3 : Hid (∀ q, F q → q < w3.heap.size) := fun q hq => HP3.out.lt q hq
      have HL4 := Lib.hid (HL3.out.chg hc4 hcF)
      have hy4 := (hc4.block w1.heap.size (by have := HZ2.out; omega) (fun hf => by have := H0.out _ hf; omega)).trans HY3.out
      have z0' : w4.cell? ⟨w1.heap.size, 0, none⟩ = some (.int .i64 ((n1 : Int) + 1)) := (cell_of_row _ _ 0 _ _ _ hy4).trans rfl
      have z1' : w4.cell? ⟨w1.heap.size, 1, none⟩ = some (.int .i64 (k1 : Nat)) := (cell_of_row _ _ 1 _ _ _ hy4).trans rfl
      have z2' : w4.cell? ⟨w1.heap.size, 2, none⟩ = some (.int .i64 ((z1 : Int) + (e.length : Nat))) := (cell_of_row _ _ 2 _ _ _ hy4).trans rfl
      obtain ⟨l0, l1, l2, l3, l4, l5, lf⟩ := HL4.out.cells
      clear hp4 hc4 HSV hy4 HY3
      by_cases g : er = 0
      · have HA := Lib.hid (HE.out.2.2.1 g)
        subst g
        have hcne : c ≠ w1.heap.size := by omega
        go_wp2
        go_ret
        rw [HE.out.1, HE.out.2.1, HA.out]
        have hh := HL4.out.heads (h' := nx ⟨n1, k1, z1⟩ e) (cnt' := c0 + 1)
        simp only [nx] at hh
        push_cast at hh
        refine puts_set (L' := ⟨nx ⟨n1, k1, z1⟩ e, c0 + 1, false⟩) H0.out hcF hcl HBW.out HP4.out HC4.out ?_ hh
        exact (((grown_set _ c 1 _).trans (grown_set _ c 2 _)).trans (grown_set _ c 3 _)).trans (grown_set _ c 4 _)
      · have HA := Lib.hid (HE.out.2.2.2 g)
        have hq : (er != 0) = true := by simpa using g
        clear g
        go_wp2
        go_ret
        rw [HE.out.1, HE.out.2.1, HA.out]
        exact puts_set (L' := ⟨⟨n0, k0, z0⟩, cnt, true⟩) H0.out hcF hcl HBW.out HP4.out HC4.out (grown_set _ c 5 _) HL4.out.dies
theorem append_nil' (w : World) (v : Value) : Calls Try.prog 15 #[.pointer none, v] w fun e w' => e = .returned (.int .i64 1) ∧ w = w' := by
  go_enter Try.func15, Try.ntmps15
  go_wp2
  go_ret
  exact ⟨rfl, rfl⟩
theorem reset_nil (w : World) (v : Value) : Calls Try.prog 17 #[.pointer none, v] w fun e w' => e = .returned (.int .i64 1) ∧ w = w' := by
  go_enter Try.func17, Try.ntmps17
  go_wp2
  go_ret
  exact ⟨rfl, rfl⟩
theorem Puts.of_drew {F : Nat → Prop} {w : World} {c a : Nat} {E : Int} {S' : DS} {L' : LG} {e : Ending} {w' : World} (h : Puts F w.drew c a E S' L' e w') : Puts F w c a E S' L' e w' := by
  obtain ⟨h1, h2, h3, h4⟩ := h
  exact ⟨h1, h2, h3, ⟨h4.os, h4.tape, h4.output, h4.size, h4.block⟩⟩
theorem append_any {F : Nat → Prop} {w : World} {c a : Nat} {s : DS} {L : LG} (h : PD F w a s) (hl : LMg w c a L) (hcF : ¬ F c) (P : Option Addr) (p : List UInt8) (cp : Nat) (hP : BS w P p cp) (hpl : p.length ≤ 10000)
    (hk : L.h.k ≤ 1) (hn : L.h.n ≤ 1099511627776) (hz : L.h.z ≤ 10000) (hc0 : L.cnt ≤ 100000) (h4 : 4 ≤ s.now.length) (hp : s.pend.length ≤ 800) :
    Calls Try.prog 15 #[.pointer (some ⟨c, 0, none⟩), .slice P p.length cp] w (Puts F w c a (apE s L L.h (encS p)) (apS s L L.h (encS p)) (apL s L L.h L.cnt (encS p))) := by
  obtain ⟨⟨n0, k0, z0⟩, cnt, dead⟩ := L
  simp only at hk hn hz hc0
  have HPU := Lib.hid (put_any (L := ⟨⟨n0, k0, z0⟩, cnt, dead⟩) h.drew hl hcF P p cp (hP.drewN 1) hpl ⟨n0, k0, z0⟩ hk hn hz cnt hc0 h4 hp)
  have HV1 : Hid (hV ⟨n0, k0, z0⟩ = .agg #[.int .i64 (n0 : Nat), .int .i64 (k0 : Nat), .int .i64 (z0 : Nat)]) := rfl
  rw [HV1.out] at HPU
  obtain ⟨q0, q1, q2, q3, q4, q5, qf⟩ := LM.cells hl
  clear h hl hP HV1
  go_enter Try.func15, Try.ntmps15
  go_wp2_with fail
  go_still_tail 10, (by kernel_rfl)
  change wpList _ _ _ _ _ w.drew
  go_wp2_with fail
  refine HPU.out.mono ?_
  rintro er w1 hpu
  have HQ := Lib.hid hpu.of_drew
  obtain ⟨rfl, _⟩ := hpu
  go_wp2
  go_ret
  exact HQ.out
def oth (h : Hd) : Hd := ⟨h.n, 1 - h.k, 0⟩
theorem reset_any {F : Nat → Prop} {w : World} {c a : Nat} {s : DS} {L : LG} (h : PD F w a s) (hl : LMg w c a L) (hcF : ¬ F c) (P : Option Addr) (p : List UInt8) (cp : Nat) (hP : BS w P p cp) (hpl : p.length ≤ 10000)
    (hk : L.h.k ≤ 1) (hn : L.h.n ≤ 1099511627776) (h4 : 4 ≤ s.now.length) (hp : s.pend.length ≤ 800) :
    Calls Try.prog 17 #[.pointer (some ⟨c, 0, none⟩), .slice P p.length cp] w (Puts F w c a (apE s L (oth L.h) (encS p)) (apS s L (oth L.h) (encS p)) (apL s L (oth L.h) 0 (encS p))) := by
  obtain ⟨⟨n0, k0, z0⟩, cnt, dead⟩ := L
  simp only at hk hn
  have HPU := Lib.hid (put_any (L := ⟨⟨n0, k0, z0⟩, cnt, dead⟩) h.drew hl hcF P p cp (hP.drewN 1) hpl (oth ⟨n0, k0, z0⟩) (by simp only [oth]; omega) hn (by simp [oth]) 0 (by omega) h4 hp)
  have HV1 : Hid (hV (oth ⟨n0, k0, z0⟩) = .agg #[.int .i64 (n0 : Nat), .int .i64 (1 - (k0 : Int)), .int .i64 0]) := by simp only [Hid, hV, hdV, oth]; rw [show ((1 - k0 : Nat) : Int) = 1 - (k0 : Int) by omega]; rfl
  rw [HV1.out] at HPU
  simp only [Int.natCast_zero] at HPU
  obtain ⟨q0, q1, q2, q3, q4, q5, qf⟩ := LM.cells hl
  have hw : IntKind.i64.wrap (1 - (k0 : Int)) = 1 - (k0 : Int) := IntWalk.i64_in _ (by omega)
  clear h hl hP HV1
  go_enter Try.func17, Try.ntmps17
  go_wp2_with fail
  go_still_tail 14, (by kernel_rfl)
  change wpList _ _ _ _ _ w.drew
  go_wp2_with fail
  refine HPU.out.mono ?_
  rintro er w1 hpu
  have HQ := Lib.hid hpu.of_drew
  obtain ⟨rfl, _⟩ := hpu
  go_wp2
  go_ret
  exact HQ.out
end Go.Proofs.Ytembonenaoineaa
