/- What Open, Len and Room of package redo do: contracts. Conditions: the Drum lies in memory. -/
import Derived.Test.YtembonenaoineaaGh
namespace Go.Proofs.Ytembonenaoineaa
set_option maxRecDepth 100000
set_option linter.unusedVariables false
open Go.ChangeShapes Go.WideShapes Go.ChangeAt Go.RowKit
open Lb (encI encIs encS In64 encI_len nxtI resI nxtS resS)

/-- The Log in block c, on the Drum in block a. -/
def LM (w : World) (c a : Nat) (h : Hd) (cnt : Nat) (dead : Bool) : Prop :=
  w.heap[c]? = some (.cells #[.pointer (some ⟨a, 0, none⟩), .int .i64 (h.n : Nat), .int .i64 (h.k : Nat), .int .i64 (h.z : Nat), .int .i64 (cnt : Nat), .bool dead] 76 (0, 0))
section
variable {w w' : World} {c a : Nat} {h : Hd} {cnt : Nat} {dead : Bool}
theorem LM.cells (hl : LM w c a h cnt dead) : w.cell? ⟨c, 0, none⟩ = some (.pointer (some ⟨a, 0, none⟩)) ∧ w.cell? ⟨c, 1, none⟩ = some (.int .i64 (h.n : Nat)) ∧ w.cell? ⟨c, 2, none⟩ = some (.int .i64 (h.k : Nat)) ∧ w.cell? ⟨c, 3, none⟩ = some (.int .i64 (h.z : Nat)) ∧
    w.cell? ⟨c, 4, none⟩ = some (.int .i64 (cnt : Nat)) ∧ w.cell? ⟨c, 5, none⟩ = some (.bool dead) ∧ ∀ o, w.frozen? ⟨c, o, none⟩ = false := by
  refine ⟨?_, ?_, ?_, ?_, ?_, ?_, fun o => frozen_of_row w c o _ _ hl⟩ <;> (rw [cell_of_row w c _ _ _ _ hl]; rfl)
theorem LM.lt (hl : LM w c a h cnt dead) : c < w.heap.size := block_lt hl
theorem LM.chg {F : Nat → Prop} (hl : LM w c a h cnt dead) (hc : Chg F w w') (hF : ¬ F c) : LM w' c a h cnt dead := (hc.block c hl.lt hF).trans hl
theorem LM.below (hl : LM w c a h cnt dead) (hb : Below w.heap.size w w') : LM w' c a h cnt dead := (hb.block c hl.lt).trans hl
theorem LM.drewN (hl : LM w c a h cnt dead) (n : Nat) : LM (w.drewN n) c a h cnt dead := hl
end
theorem llen_nil (w : World) : Calls Try.prog 27 #[.pointer none] w fun e w' => e = .returned (.int .i64 0) ∧ w = w' := by
  go_enter Try.func27, Try.ntmps27
  go_wp2
  go_ret
  exact ⟨rfl, rfl⟩
theorem llen_any {w : World} {c a : Nat} {h : Hd} {cnt : Nat} {dead : Bool} (hl : LM w c a h cnt dead) :
    Calls Try.prog 27 #[.pointer (some ⟨c, 0, none⟩)] w fun e w' => e = .returned (.int .i64 (cnt : Nat)) ∧ w = w' := by
  obtain ⟨k0, k1, k2, k3, k4, k5, kf⟩ := hl.cells
  clear hl
  go_enter Try.func27, Try.ntmps27
  go_wp2
  go_ret
  exact ⟨rfl, rfl⟩
theorem room_nil (w : World) : Calls Try.prog 28 #[.pointer none] w fun e w' => e = .returned (.int .i64 0) ∧ w = w' := by
  go_enter Try.func28, Try.ntmps28
  go_wp2
  go_ret
  exact ⟨rfl, rfl⟩
theorem room_any {F : Nat → Prop} {w : World} {c a : Nat} {h : Hd} {cnt : Nat} {dead : Bool} {s : DS} (hl : LM w c a h cnt dead) (hp : PD F w a s) (hz : h.z ≤ bk s.now * 64) :
    Calls Try.prog 28 #[.pointer (some ⟨c, 0, none⟩)] w fun e w' => e = .returned (.int .i64 ((bk s.now * 64 - h.z : Nat) : Int)) ∧ Below w.heap.size w w' := by
  obtain ⟨k0, k1, k2, k3, k4, k5, kf⟩ := hl.cells
  have HP := Lib.hid hp
  have hbk := bk_few hp.ok.few
  have HE : Hid (((bk s.now * 64 : Nat) : Int) - (h.z : Nat) = ((bk s.now * 64 - h.z : Nat) : Int)) := by simp only [Hid]; omega
  have h1 : (h.z : Int) ≤ 6400 := by omega
  have h2 : (bk s.now : Int) * 64 ≤ 6400 := by omega
  clear hl hp
  go_enter Try.func28, Try.ntmps28
  go_wp2_with fail
  go_quiet ((go_at_call 48; with_reducible exact quiet_eq (bankBytes_any (HP.out.drewN _))))
  have HB := Lib.hid (below_drewN (Below.refl w.heap.size w) nq)
  go_wp2
  go_ret
  exact ⟨ret_i (by have := HE.out; omega), HB.out⟩
theorem open_nil (w : World) : Calls Try.prog 13 #[.pointer none] w fun e w' => e = .returned (.tuple #[.pointer none, .slice none 0 0, .int .i64 1]) ∧ w = w' := by
  go_enter Try.func13, Try.ntmps13
  go_wp2_with fail
  refine (len_nil _).mono ?_
  rintro e w' ⟨rfl, rfl⟩
  go_wp2
  refine bodyPost_ret (v := .tuple #[.pointer none, .slice none 0 0, .int .i64 1]) (by simp [results, Try.results13, go_sem]) rfl ⟨rfl, rfl⟩
theorem open_small {F : Nat → Prop} {w : World} {a : Nat} {s : DS} (h : PD F w a s) (h4 : s.now.length < 4) :
    Calls Try.prog 13 #[.pointer (some ⟨a, 0, none⟩)] w fun e w' => e = .returned (.tuple #[.pointer none, .slice none 0 0, .int .i64 1]) ∧ w = w' := by
  have HL := Lib.hid (len_any h)
  have hd : (s.now.length : Int) < 4 := by omega
  clear h
  go_enter Try.func13, Try.ntmps13
  go_wp2_with fail
  refine HL.out.mono ?_
  rintro e w' ⟨rfl, rfl⟩
  go_wp2
  refine bodyPost_ret (v := .tuple #[.pointer none, .slice none 0 0, .int .i64 1]) (by simp [results, Try.results13, go_sem]) rfl ⟨rfl, rfl⟩
/-- What Open finds on a disk of four sectors and more. -/
def Opened (s : DS) (a : Nat) (w : World) (e : Ending) (w' : World) : Prop :=
  Below w.heap.size w w' ∧ match ents (cont s.now (newest s.now)) with
    | none => e = .returned (.tuple #[.pointer none, .slice none 0 0, .int .i64 2])
    | some es => ∃ c v, e = .returned (.tuple #[.pointer (some ⟨c, 0, none⟩), v, .int .i64 0]) ∧ LM w' c a (newest s.now) es.length false ∧ w.heap.size ≤ c ∧ Rs (fun k => w.heap.size ≤ k) w.heap.size w' v es
theorem newest_bd (S : List (List UInt8)) : (newest S).n ≤ 1099511627776 ∧ (newest S).k ≤ 1 ∧ (newest S).z ≤ bk S * 64 := by
  unfold newest
  split
  · have := hdIn_bd (bk S) (S.getD 1 []); exact ⟨this.1, this.2.1, this.2.2.1⟩
  · have := hdIn_bd (bk S) (S.getD 0 []); exact ⟨this.1, this.2.1, this.2.2.1⟩
set_option maxHeartbeats 1000000 in
theorem ropen_any {F : Nat → Prop} {w : World} {a : Nat} {s : DS} (h : PD F w a s) (h4 : 4 ≤ s.now.length) :
    Calls Try.prog 13 #[.pointer (some ⟨a, 0, none⟩)] w (Opened s a w) := by
  have HL := Lib.hid (len_any h)
  have HP := Lib.hid h
  have hbk := bk_few h.ok.few
  have hd4 : ¬ (s.now.length : Int) < 4 := by omega
  have HN := Lib.hid (newest_any h h4)
  have HBD := Lib.hid (newest_bd s.now)
  have HO : Hid (∀ e w', (Below w.heap.size w w' ∧ match ents (cont s.now (newest s.now)) with
    | none => e = Ending.returned (.tuple #[.pointer none, .slice none 0 0, .int .i64 2])
    | some es => ∃ c v, e = .returned (.tuple #[.pointer (some ⟨c, 0, none⟩), v, .int .i64 0]) ∧ LM w' c a (newest s.now) es.length false ∧ w.heap.size ≤ c ∧ Rs (fun k => w.heap.size ≤ k) w.heap.size w' v es) → Opened s a w e w') := fun e w' hh => hh
  generalize Opened s a w = post at *
  clear h
  go_enter Try.func13, Try.ntmps13
  go_wp2_with fail
  refine HL.out.mono ?_
  rintro e w' ⟨rfl, rfl⟩
  go_wp2_with fail
  refine HN.out.mono ?_
  rintro e w1 ⟨rfl, hb1⟩
  have hz1 := hb1.size
  have HP1 := Lib.hid (HP.out.below hb1)
  have HB1 := Lib.hid hb1
  clear hb1 HN HL
  generalize newest s.now = hd at *
  have hbz : hd.z ≤ 10000 := by have := HBD.out; omega
  obtain ⟨n, k, z⟩ := hd
  unfold hV hdV
  simp only
  have hb2 := (Below.refl w1.heap.size w1).alloc (Nat.le_refl _) (.cells #[.int .i64 (n : Nat), .int .i64 (k : Nat), .int .i64 (z : Nat)] 70)
  have HP2 := Lib.hid (HP1.out.below hb2)
  have HB2 := Lib.hid (HB1.out.alloc hz1 (.cells #[.int .i64 (n : Nat), .int .i64 (k : Nat), .int .i64 (z : Nat)] 70))
  have HCT := Lib.hid (content_any HP2.out h4 ⟨n, k, z⟩ HBD.out.2.1 HBD.out.2.2)
  have HCL := Lib.hid (cont_len s.now ⟨n, k, z⟩)
  have HCC : Hid (∀ W, Below (w1.heap.size + 1) (w1.alloc (.cells #[.int .i64 (n : Nat), .int .i64 (k : Nat), .int .i64 (z : Nat)] 70)) W → W.cell? ⟨w1.heap.size, 0, none⟩ = some (.int .i64 (n : Nat)) ∧ W.cell? ⟨w1.heap.size, 1, none⟩ = some (.int .i64 (k : Nat)) ∧ W.cell? ⟨w1.heap.size, 2, none⟩ = some (.int .i64 (z : Nat))) := fun W hW => by
    obtain ⟨hc, _⟩ := bcell (W := w1.alloc (.cells #[.int .i64 (n : Nat), .int .i64 (k : Nat), .int .i64 (z : Nat)] 70)) (w1 := W) (by simpa using hW)
    refine ⟨?_, ?_, ?_⟩ <;> (rw [hc _ _ (by simp), cell_of_row _ _ _ _ _ _ (heap_alloc_new w1 _)]; rfl)
  unfold hV hdV at HCT
  simp only at HCT HCL hbz
  generalize cont s.now ⟨n, k, z⟩ = b at *
  have hbl : b.length ≤ 10000 := by rw [HCL.out]; exact hbz
  clear hb2 HP1 HB1 HP HBD HCL
  go_wp2_with fail
  refine HCT.out.mono ?_
  rintro e w3 ⟨v3, rfl, ho3, hb3⟩
  obtain ⟨A3, c3, rfl, hbs3, _⟩ := ho3.open
  have hz3 := hb3.size
  simp only [World.size_alloc] at hz3
  have HB3 := Lib.hid (HB2.out.trans (hb3.mono (by simp; omega)))
  have HC3 : Hid (Below (w1.heap.size + 1) (w1.alloc (.cells #[.int .i64 (n : Nat), .int .i64 (k : Nat), .int .i64 (z : Nat)] 70)) w3) := by simp only [Hid]; simpa using hb3
  have HSP := Lib.hid (split_any A3 b c3 hbs3 hbl)
  clear ho3 hb3 hbs3 HCT HP2 HB2
  go_wp2_with fail
  refine HSP.out.mono ?_
  rintro e w4 ⟨v4, rfl, hb4, hes⟩
  have hz4 := hb4.size
  have HB4 := Lib.hid (HB3.out.trans (hb4.mono (by omega)))
  obtain ⟨q0, q1, q2⟩ := HCC.out w4 (HC3.out.trans (hb4.mono (by omega)))
  have HES := Lib.hid hes
  clear hes hb4 HSP HB3 HC3 HCC
  cases hen : ents b with
  | none =>
    rw [hen] at HO
    clear HES
    simp only [Option.isSome_none]
    go_wp2
    refine bodyPost_ret (v := .tuple #[.pointer none, .slice none 0 0, .int .i64 2]) (by simp [results, Try.results13, go_sem]) rfl (HO.out _ _ ⟨HB4.out, rfl⟩)
  | some es =>
    have HR := Lib.hid (HES.out es hen)
    rw [hen] at HO
    clear HES hen
    obtain ⟨A4, c4, rfl, _, _, _⟩ := HR.out.open
    simp only [Option.isSome_some]
    go_wp2
    have hb5 := (Below.refl w4.heap.size w4).alloc (Nat.le_refl _) (.cells #[.pointer (some ⟨a, 0, none⟩), .int .i64 (n : Nat), .int .i64 (k : Nat), .int .i64 (z : Nat), .int .i64 (es.length : Nat), .bool false] 76)
    refine bodyPost_ret (v := .tuple #[.pointer (some ⟨w4.heap.size, 0, none⟩), .slice A4 es.length c4, .int .i64 0]) (by simp [results, Try.results13, go_sem]) rfl (HO.out _ _ ⟨HB4.out.trans (hb5.mono HB4.out.size), _, _, rfl, heap_alloc_new w4 _, by omega, ?_⟩)
    exact (HR.out.below hb5).mono (by omega) (fun j hj => by omega)
end Go.Proofs.Ytembonenaoineaa
