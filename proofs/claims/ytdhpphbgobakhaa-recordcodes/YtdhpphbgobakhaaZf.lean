/- The program's encodable of chapter 10: its walk. Conditions: the rows lie in memory, fewer than 1,000,000 writes; words of float64 are below 2^64; strings are of a length that Go allows. -/
import Derived.Test.YtdhpphbgobakhaaZe
namespace Go.Proofs.Ytdhpphbgobakhaa
set_option maxRecDepth 100000
set_option linter.unusedVariables false
open Go.ChangeShapes Go.WideShapes Go.ChangeAt Go.RowKit
open Fl (S cmpK keyN normN)
open Val (V cmpV isB ltT)
/-- What stands in the two rows after k writes. -/
structure EncI (w : World) (L : List Wr) (nn ne gn ge k : Nat) (wr : World) : Prop where
  n : bRow wr gn (nn + 1) (sn false (L.take k) (nn + 1))
  e : bRow wr ge (ne + 1) (sn true (L.take k) (ne + 1))
  ne : gn ≠ ge
  hn : w.heap.size ≤ gn
  he : w.heap.size ≤ ge
  b : Below w.heap.size w wr
theorem EncI.below {w wr wx : World} {L : List Wr} {nn ne gn ge k : Nat} (h : EncI w L nn ne gn ge k wr) (hb : Below wr.heap.size wr wx) : EncI w L nn ne gn ge k wx :=
  ⟨h.n.below hb, h.e.below hb, h.ne, h.hn, h.he, bnext h.b hb⟩
theorem EncI.row {w wr : World} {L : List Wr} {nn ne gn ge k : Nat} (h : EncI w L nn ne gn ge k wr) (e : Bool) : bRow wr (if e then ge else gn) ((if e then ne else nn) + 1) (sn e (L.take k) ((if e then ne else nn) + 1)) := by
  cases e
  · exact h.n
  · exact h.e
theorem EncI.next {w wr : World} {L : List Wr} {nn ne gn ge k j : Nat} (h : EncI w L nn ne gn ge k wr) (hk : k < L.length) (hj : L[k].id = (j : Int)) : EncI w L nn ne gn ge (k + 1) (wr.setCell ⟨if L[k].e then ge else gn, j, none⟩ (.bool true)) := by
  have h0 := h.row L[k].e
  have hst := World.ownsRow.stored h0 j (.bool true)
  have hb := h.b.grown hst.2 h.b.size (fun q e => by
    injection e with e
    subst e
    cases L[k].e
    · exact h.hn
    · exact h.he)
  have h1 := hst.1
  rw [sn_set L[k].e L _ k j hk (by simp) hj] at h1
  cases he : L[k].e with
  | false =>
    rw [he] at h1 hst hb
    refine ⟨h1, ?_, h.ne, h.hn, h.he, hb⟩
    rw [sn_other true L _ k hk (by rw [he]; rfl)]
    exact h.e.kept hst.2 (fun e => by injection e with e; exact h.ne e.symm)
  | true =>
    rw [he] at h1 hst hb
    refine ⟨?_, h1, h.ne, h.hn, h.he, hb⟩
    rw [sn_other false L _ k hk (by rw [he]; rfl)]
    exact h.n.kept hst.2 (fun e => by injection e with e; exact h.ne e)
set_option maxHeartbeats 4000000 in
theorem pmay_any (nn ne : Int) (A : Option Addr) (c : Nat) (l : List (Wr × Ns)) (w : World) (h : WRow w A l) (ho : ∀ x, x ∈ l → WOk x.1 ∧ x.1.g.w < 2 * S) (hl : l.length ≤ 1000000) : Calls Try.prog 11 #[.int .i64 nn, .int .i64 ne, .slice A l.length c] w fun r w' => r = .returned (.bool (mayB nn ne (l.map (·.1)))) ∧ Below w.heap.size w w' := by
  have HD := Lib.hid (mayB_wit nn ne (l.map (·.1)))
  have HR := Lib.hid h
  have HO := Lib.hid ho
  clear h ho
  have HW1 := Lib.hid (fun W => within_any nn 0 24 W)
  have HW2 := Lib.hid (fun W => within_any ne 0 32 W)
  cases h1 : witB nn 0 24 with
  | false =>
    have HE := Lib.hid (show mayB nn ne (l.map (·.1)) = false by rw [HD.out, h1]; rfl)
    rw [h1] at HW1
    clear h1
    go_enter Try.func11, Try.ntmps11
    go_wp2_with fail
    (with_reducible refine (HW1.out _).mono ?_); rintro e w1 ⟨rfl, rfl⟩
    go_wp2
    go_ret
    exact ⟨ret_b HE.out.symm, Below.refl _ _⟩
  | true =>
  cases h2 : witB ne 0 32 with
  | false =>
    have HE := Lib.hid (show mayB nn ne (l.map (·.1)) = false by rw [HD.out, h1, h2]; rfl)
    rw [h1] at HW1
    rw [h2] at HW2
    clear h1 h2
    go_enter Try.func11, Try.ntmps11
    go_wp2_with fail
    (with_reducible refine (HW1.out _).mono ?_); rintro e w1 ⟨rfl, rfl⟩
    go_wp2_with fail
    (with_reducible refine (HW2.out _).mono ?_); rintro e w1 ⟨rfl, rfl⟩
    go_wp2
    go_ret
    exact ⟨ret_b HE.out.symm, Below.refl _ _⟩
  | true =>
  have HQ := Lib.hid (show mayB nn ne (l.map (·.1)) = (List.range (l.map (·.1)).length).all (mayW nn ne (l.map (·.1))) by rw [HD.out, h1, h2]; rfl)
  have e1 : 0 ≤ nn ∧ nn ≤ 24 := by unfold witB at h1; simpa using h1
  have e2 : 0 ≤ ne ∧ ne ≤ 32 := by unfold witB at h2; simpa using h2
  obtain ⟨a, rfl⟩ : ∃ a : Nat, nn = a := ⟨nn.toNat, by omega⟩
  obtain ⟨b, rfl⟩ : ∃ b : Nat, ne = b := ⟨ne.toNat, by omega⟩
  rw [h1] at HW1
  rw [h2] at HW2
  clear h1 h2
  have ha : a ≤ 24 := by omega
  have hb : b ≤ 32 := by omega
  clear e1 e2
  have hla : IntKind.i64.wrap ((a : Int) + 1) = (a : Int) + 1 := wrap_small (m := a + 1) (by omega)
  have hlb : IntKind.i64.wrap ((b : Int) + 1) = (b : Int) + 1 := wrap_small (m := b + 1) (by omega)
  obtain ⟨wA1, mA1, rA1, bA1, sA1⟩ := make_bools w.drew a (by omega)
  obtain ⟨wA2, mA2, rA2, bA2, sA2⟩ := make_bools wA1 b (by omega)
  obtain ⟨wB1, mB1, rB1, bB1, sB1⟩ := make_bools w.drew b (by omega)
  obtain ⟨wB2, mB2, rB2, bB2, sB2⟩ := make_bools wB1 a (by omega)
  go_enter Try.func11, Try.ntmps11
  go_wp2_with fail
  (with_reducible refine (HW1.out _).mono ?_); rintro e w1 ⟨rfl, rfl⟩
  go_wp2_with fail
  (with_reducible refine (HW2.out _).mono ?_); rintro e w1 ⟨rfl, rfl⟩
  go_wp2_with fail
  go_region_with fail
  focus
    obtain ⟨gn, hgn⟩ : ∃ gn, w.heap.size = gn := ⟨_, rfl⟩
    obtain ⟨ge, hge⟩ : ∃ ge, gn + 1 = ge := ⟨_, rfl⟩
    have HI : Hid (EncI w (l.map (·.1)) a b gn ge 0 wA2) := by
      have z : w.drew.heap.size = gn := hgn
      rw [z] at sA1 rA1
      rw [sA1, hge] at rA2
      exact ⟨rA1.below bA2, rA2, by omega, by omega, by omega, (Below.refl w.heap.size w).drew.trans (bA1.trans (bA2.mono bA1.size))⟩
    rw [hgn, hge]
    clear hgn hge mA1 mA2 rA1 rA2 bA1 bA2 sA1 sA2 mB1 mB2 rB1 rB2 bB1 bB2 sB1 sB2
  rotate_left
  focus
    obtain ⟨ge, hge⟩ : ∃ ge, w.heap.size = ge := ⟨_, rfl⟩
    obtain ⟨gn, hgn⟩ : ∃ gn, ge + 1 = gn := ⟨_, rfl⟩
    have HI : Hid (EncI w (l.map (·.1)) a b gn ge 0 wB2) := by
      have z : w.drew.heap.size = ge := hge
      rw [z] at sB1 rB1
      rw [sB1, hgn] at rB2
      exact ⟨rB2, rB1.below bB2, by omega, by omega, by omega, (Below.refl w.heap.size w).drew.trans (bB1.trans (bB2.mono bB1.size))⟩
    rw [hge, hgn]
    clear hgn hge mA1 mA2 rA1 rA2 bA1 bA2 sA1 sA2 mB1 mB2 rB1 rB2 bB1 bB2 sB1 sB2
  all_goals
    clear HW1 HW2 hla hlb
    go_wp2
    go_loopw [28] (fun i wr => ∃ k : Nat, k ≤ l.length ∧ i = .int .i64 (k : Nat) ∧ Hid (EncI w (l.map (·.1)) a b gn ge k wr) ∧ Hid ((List.range k).all (mayW a b (l.map (·.1))) = true)) (fun i _ => l.length - (intOf i).toNat)
    case atStart => exact ⟨0, Nat.zero_le _, rfl, HI.out, rfl⟩
    case round =>
      obtain ⟨k, hk, rfl, HX, HA⟩ := hrel
      by_cases hlt : k < l.length
      · have hkm : k < (l.map (·.1)).length := by rw [List.length_map]; exact hlt
        obtain ⟨ad, pk, ea, hp, he, hn⟩ := (HR.out.below HX.out.b) k hlt
        subst ea
        have hok := HO.out _ (List.getElem_mem hlt)
        have HUP := Lib.hid (all_up (mayW a b (l.map (·.1))) k)
        have HMW0 := mayW_eq (a : Int) (b : Int) (l.map (·.1)) k hkm
        have HBD := Lib.hid (fun h => all_bad (f := mayW a b (l.map (·.1))) hkm h)
        have HNX := Lib.hid (fun (wr : World) (j : Nat) (hh : EncI w (l.map (·.1)) a b gn ge k wr) (hj : ((List.map (fun x : Wr × Ns => x.1) l)[k]'hkm).id = (j : Int)) => hh.next hkm hj)
        have HCC := Lib.hid (fun W (hW : Below wr.heap.size wr W) => pcons_any l[k].1 l[k].2 W hok.2 hok.1.t (hn.below hW) hok.1.n)
        rw [List.getElem_map] at HMW0 HNX
        have HMW := Lib.hid HMW0
        have hi5 : IntKind.i64.wrap (k : Int) = (k : Int) := wrap_small (show k ≤ 9223372036854775807 by omega)
        have hi0 : (0 : Int) ≤ (k : Int) := by omega
        clear hok hn HMW0
        generalize l[k] = y at *
        clear hkm
        obtain ⟨⟨ye, yid, yg, ⟨yls, yps⟩, ⟨ya, yb, yt, yw⟩⟩, ⟨yA, yc, yB, yc2⟩⟩ := y
        obtain ⟨c0, c1, c2, c3, c4, c5, c6, c7, c8⟩ := he
        simp only at c0 c1 c2 c3 c4 c5 c6 c7 c8 HMW HCC HNX
        have hal := one_box wr (.cells #[.bool ye, .int .i64 yid, .bool yg, .slice yA yls.length yc, .slice yB yps.length yc2, .int .i64 ya, .int .i64 yb, .string yt, .float .f64 yw] 45)
        have HX1 := Lib.hid (HX.out.below hal)
        have HAL := Lib.hid hal
        clear hal
        generalize consB ⟨ye, yid, yg, ⟨yls, yps⟩, ⟨ya, yb, yt, yw⟩⟩ = cb at *
        obtain ⟨m, hm⟩ : ∃ m : Nat, m = if ye then b else a := ⟨_, rfl⟩
        obtain ⟨g, hg⟩ : ∃ g : Nat, g = if ye then ge else gn := ⟨_, rfl⟩
        have hm2 : (if ye = true then (b : Int) else (a : Int)) = (m : Int) := by subst hm; cases ye <;> rfl
        have hm3 : m ≤ 32 := by subst hm; cases ye <;> simp <;> omega
        have hro : bRow (wr.alloc (.cells #[.bool ye, .int .i64 yid, .bool yg, .slice yA yls.length yc, .slice yB yps.length yc2, .int .i64 ya, .int .i64 yb, .string yt, .float .f64 yw] 45)) g (m + 1) (sn ye ((l.map (·.1)).take k) (m + 1)) := by
          have := HX1.out.row ye
          rw [← hm, ← hg] at this
          exact this
        have HRO := Lib.hid hro
        rw [← hg] at HNX
        have HNX2 := HNX
        rw [hm2] at HMW
        have HWI := Lib.hid (fun W => within_any yid 1 (m : Int) W)
        have hq1 : IntKind.i64.wrap (m : Int) = (m : Int) := wrap_small (m := m) (by omega)
        clear hm2 HNX hro
        cases hw : witB yid 1 (m : Int) with
        | false =>
          have HF := Lib.hid (show mayB (a : Int) (b : Int) (l.map (·.1)) = false by rw [HQ.out]; exact HBD.out (by rw [HMW.out, hw]; rfl))
          rw [hw] at HWI
          clear HBD HMW hw HUP HNX2 HRO HCC
          cases ye
          all_goals
            simp only [Bool.false_eq_true, if_false, if_true] at hm hg
            subst hm
            subst hg
            go_wp2_with (go_at_call 35; (with_reducible refine (HWI.out _).mono ?_); rintro e w1 ⟨rfl, rfl⟩)
            go_ret
            exact ⟨ret_b HF.out.symm, HX1.out.b⟩
        | true =>
          have hid2 : 1 ≤ yid ∧ yid ≤ m := by unfold witB at hw; simpa using hw
          obtain ⟨j, rfl⟩ : ∃ j : Nat, yid = j := ⟨yid.toNat, by omega⟩
          have hj1 : j < m + 1 := by omega
          have hj2 : IntKind.i64.wrap (j : Int) = (j : Int) := wrap_small (m := j) (by omega)
          have hj3 : (0 : Int) ≤ (j : Int) := by omega
          have hj4 : (j : Int) < (m : Int) + 1 := by omega
          have HSA := Lib.hid (sn_at ye ((l.map (·.1)).take k) (m + 1) j hj1)
          have hsc : (wr.alloc (.cells #[.bool ye, .int .i64 (j : Int), .bool yg, .slice yA yls.length yc, .slice yB yps.length yc2, .int .i64 ya, .int .i64 yb, .string yt, .float .f64 yw] 45)).cell? ⟨g, j, none⟩ = some (.bool (((l.map (·.1)).take k).any fun x => (x.e == ye) && (x.id == (j : Int)))) := by
            rw [World.ownsRow.cellAt HRO.out j (by omega)]; exact HSA.out
          rw [hw] at HWI
          clear hid2
          generalize hsq : (((l.map (·.1)).take k).any fun x => (x.e == ye) && (x.id == (j : Int))) = sc at *
          cases sc with
          | true =>
            have HF := Lib.hid (show mayB (a : Int) (b : Int) (l.map (·.1)) = false by rw [HQ.out]; exact HBD.out (by rw [HMW.out]; simp))
            clear HBD HMW hw HUP HNX2 HRO HCC hsq HSA
            cases ye
            all_goals
              simp only [Bool.false_eq_true, if_false, if_true] at hm hg
              subst hm
              subst hg
              go_wp2_with (go_at_call 35; (with_reducible refine (HWI.out _).mono ?_); rintro e w1 ⟨rfl, rfl⟩)
              go_ret
              exact ⟨ret_b HF.out.symm, HX1.out.b⟩
          | false =>
            cases cb with
            | false =>
              have HF := Lib.hid (show mayB (a : Int) (b : Int) (l.map (·.1)) = false by rw [HQ.out]; exact HBD.out (by rw [HMW.out]; simp))
              have HCW := Lib.hid (HCC.out _ HAL.out)
              clear HBD HMW hw HUP HNX2 HRO HCC hsq HSA
              cases ye
              all_goals
                simp only [Bool.false_eq_true, if_false, if_true] at hm hg
                subst hm
                subst hg
                go_wp2_with (first
                  | (go_at_call 36; (with_reducible refine (HCW.out).mono ?_); rintro e w2 ⟨rfl, hb⟩; have B2 := Lib.hid hb; clear hb)
                  | (go_at_call 35; (with_reducible refine (HWI.out _).mono ?_); rintro e w1 ⟨rfl, rfl⟩))
                go_ret
                exact ⟨ret_b HF.out.symm, bnext HX1.out.b B2.out⟩
            | true =>
              have HU := Lib.hid (show (List.range (k + 1)).all (mayW (a : Int) (b : Int) (l.map (·.1))) = true by rw [HUP.out, HA.out, HMW.out, hw]; rfl)
              have HCW := Lib.hid (HCC.out _ HAL.out)
              have HBX := Lib.hid (fun W (hW : Below (wr.alloc (.cells #[.bool ye, .int .i64 (j : Int), .bool yg, .slice yA yls.length yc, .slice yB yps.length yc2, .int .i64 ya, .int .i64 yb, .string yt, .float .f64 yw] 45)).heap.size (wr.alloc (.cells #[.bool ye, .int .i64 (j : Int), .bool yg, .slice yA yls.length yc, .slice yB yps.length yc2, .int .i64 ya, .int .i64 yb, .string yt, .float .f64 yw] 45)) W) => show W.cell? ⟨wr.heap.size, 1, none⟩ = some (.int .i64 (j : Int)) ∧ W.cell? ⟨g, j, none⟩ = some (.bool false) ∧ W.frozen? ⟨g, j, none⟩ = false from by
                have h0 := heap_alloc_new wr (.cells #[.bool ye, .int .i64 (j : Int), .bool yg, .slice yA yls.length yc, .slice yB yps.length yc2, .int .i64 ya, .int .i64 yb, .string yt, .float .f64 yw] 45)
                refine ⟨?_, ?_, World.ownsRow.frozenAt (HRO.out.below hW) j⟩
                · rw [cell_of_row W _ _ _ _ _ ((hW.block _ (block_of h0)).trans h0)]; rfl
                · rw [World.ownsRow.cellAt (HRO.out.below hW) j (by omega), HSA.out])
              have HX2 := Lib.hid (fun W hW => HNX2.out W j (HX1.out.below hW) rfl)
              clear HBD HMW hw HUP HCC hsq HSA hsc
              cases ye
              all_goals
                simp only [Bool.false_eq_true, if_false, if_true] at hm hg
                subst hm
                subst hg
                have hsc0 := (HBX.out _ (Below.refl _ _)).2.1
                go_wp2_with (first
                  | (go_at_call 36; (with_reducible refine (HCW.out).mono ?_); rintro e w2 ⟨rfl, hb⟩; have B2 := Lib.hid hb; obtain ⟨q1, q2, q3⟩ := HBX.out _ hb; have HX3 := Lib.hid (HX2.out _ hb); clear hb)
                  | (go_at_call 35; (with_reducible refine (HWI.out _).mono ?_); rintro e w1 ⟨rfl, rfl⟩))
                exact ⟨⟨k + 1, by omega, by go_num, HX3.out, HU.out⟩, by simp [intOf]; omega⟩
      · have hend : ¬ k < l.length := hlt
        have HE := Lib.hid (show mayB (a : Int) (b : Int) (l.map (·.1)) = true by rw [HQ.out, List.length_map, ← show k = l.length by omega]; exact HA.out)
        go_wp2
        go_ret
        exact ⟨ret_b HE.out.symm, HX.out.b⟩
end Go.Proofs.Ytdhpphbgobakhaa
