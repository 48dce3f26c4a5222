/- What alike of chapter 7's laws returns: true, where both are in the same state. Conditions: both lie in memory; at most 60 versions and transactions. -/
import Derived.Test.YtpjjpjdamieeeaaQh
namespace Go.Proofs.Ytpjjpjdamieeeaa
set_option maxRecDepth 100000
set_option linter.unusedVariables false
open Go.ChangeShapes Go.WideShapes Go.ChangeAt Go.RowKit
section
variable {G : Nat → Prop} {w wr : World} {a x d y : Nat} {c c' : Ck} {l l' : List (Ver Int)}
theorem aread_of (h : Quad G w wr a x d y c l c' l') (t : Int) : Calls Try.prog 16 #[.pointer (some ⟨x, 0, none⟩), .pointer (some ⟨a, 0, none⟩), .int .i64 t] wr fun e w' => e = .returned (.tuple #[.int .i64 (Ver.rdV 0 (Ver.rdX c t l)), .bool (Ver.rdB (Ver.rdX c t l))]) ∧ Below wr.heap.size wr w' := by
  obtain ⟨o, h⟩ := h
  exact cread_any h.cc h.pc t
theorem acheck_of (h : Quad G w wr a x d y c l c' l') (t : Int) : Calls Try.prog 17 #[.pointer (some ⟨x, 0, none⟩), .pointer (some ⟨a, 0, none⟩), .int .i64 t] wr fun e w' => e = .returned (.int .i64 (Ver.chk c t l)) ∧ Below wr.heap.size wr w' := by
  obtain ⟨o, h⟩ := h
  exact ccheck_any h.cc h.pc t
theorem archeck_of (h : Quad G w wr a x d y c l c' l') (t : Int) : Calls Try.prog 39 #[.pointer (some ⟨y, 0, none⟩), .pointer (some ⟨d, 0, none⟩), .int .i64 t] wr fun e w' => e = .returned (.int .i64 (Ver.chk c' t l')) ∧ Below wr.heap.size wr w' := by
  obtain ⟨o, h⟩ := h
  exact vcheck_any h.vc h.rc t
theorem aspare_of (h : Quad G w wr a x d y c l c' l') : Calls Try.prog 20 #[.pointer (some ⟨x, 0, none⟩), .pointer (some ⟨a, 0, none⟩)] wr fun e w' => e = .returned (.bool (Ver.spare c l)) ∧ Below wr.heap.size wr w' := by
  obtain ⟨o, h⟩ := h
  exact cspare_any h.cc h.pc
theorem arspare_of (h : Quad G w wr a x d y c l c' l') : Calls Try.prog 41 #[.pointer (some ⟨y, 0, none⟩), .pointer (some ⟨d, 0, none⟩)] wr fun e w' => e = .returned (.bool (Ver.spare c' l')) ∧ Below wr.heap.size wr w' := by
  obtain ⟨o, h⟩ := h
  exact vSpare_any h.vc h.rc
end
/-- The walk's ground: the law's world and the box of its pointer. -/
structure AL (w W0 : World) (z b1 a x d y : Nat) (c : Ck) (l : List (Ver Int)) (N : Nat) (V : Nat → Prop) (Ay : Option Addr) (cy : Nat) : Prop where
  q : Quad (fun k => k = z) w W0 a x d y c l c l
  wb : WB W0 z a x d y (N : Nat)
  bx : W0.heap[b1]? = some (.cells #[.pointer (some ⟨z, 0, none⟩)] 23 (0, 0))
  vm : VM V W0 y (.slice Ay l.length cy) l
theorem AL.below {w W0 W : World} {z b1 a x d y : Nat} {c : Ck} {l : List (Ver Int)} {N : Nat} {V : Nat → Prop} {Ay : Option Addr} {cy : Nat} (h : AL w W0 z b1 a x d y c l N V Ay cy) (hb : Below W0.heap.size W0 W) : AL w W z b1 a x d y c l N V Ay cy :=
  ⟨(h.q.below hb).1, h.wb.keep (h.q.below hb).2 rfl, (hb.block _ (block_lt h.bx)).trans h.bx, h.vm.below hb⟩
theorem AL.cells {w W : World} {z b1 a x d y : Nat} {c : Ck} {l : List (Ver Int)} {N : Nat} {V : Nat → Prop} {Ay : Option Addr} {cy : Nat} (h : AL w W z b1 a x d y c l N V Ay cy) : W.cell? ⟨b1, 0, none⟩ = some (.pointer (some ⟨z, 0, none⟩)) ∧ W.cell? ⟨z, 0, none⟩ = some (.pointer (some ⟨a, 0, none⟩)) ∧ W.cell? ⟨z, 1, none⟩ = some (.pointer (some ⟨x, 0, none⟩)) ∧ W.cell? ⟨z, 2, none⟩ = some (.pointer (some ⟨d, 0, none⟩)) ∧ W.cell? ⟨z, 3, none⟩ = some (.pointer (some ⟨y, 0, none⟩)) ∧ W.cell? ⟨z, 4, none⟩ = some (.int .i64 (N : Nat)) ∧ W.cell? ⟨y, 0, none⟩ = some (.slice Ay l.length cy) := by
  obtain ⟨⟨k0, k1, k2, k3⟩, k4, _⟩ := h.wb.cells
  exact ⟨(cell_of_row W b1 0 _ _ _ h.bx).trans rfl, k0, k1, k2, k3, k4, h.vm.cells.1⟩
theorem al_start {w wr : World} {z a x d y : Nat} {c : Ck} {l : List (Ver Int)} {N : Nat} (h : Wd w wr z a x d y c l (N : Nat)) : ∃ V Ay cy, AL w (wr.alloc (.cells #[.pointer (some ⟨z, 0, none⟩)] 23)) z wr.heap.size a x d y c l N V Ay cy := by
  have hb := (Below.refl wr.heap.size wr).alloc (Nat.le_refl _) (.cells #[.pointer (some ⟨z, 0, none⟩)] 23)
  have hq := (h.q.below hb).1
  have hwb := h.b.keep (h.q.below hb).2 rfl
  have hq' := hq
  obtain ⟨o, hs⟩ := hq'
  obtain ⟨v1, hm⟩ := hs.vc
  obtain ⟨A, cp, e⟩ := own_slice hm.r1
  rw [e] at hm
  exact ⟨_, A, cp, hq, hwb, heap_alloc_new wr _, hm⟩
set_option maxHeartbeats 8000000 in
theorem alike_any {w wr : World} {z a x d y : Nat} {c : Ck} {l : List (Ver Int)} {n : Int} {kk : Nat} (h : Wd w wr z a x d y c l n) (hg : Gd c l n kk) (hk : kk ≤ 60) :
    Calls Try.prog 13 #[.pointer (some ⟨z, 0, none⟩)] wr fun e w' => e = .returned (.bool true) ∧ Below wr.heap.size wr w' := by
  obtain ⟨N, hN⟩ : ∃ N : Nat, n = N := ⟨n.toNat, by have := hg.n0; omega⟩
  have hN60 : N ≤ 60 := by have := hg.n1; have := hg.cl; omega
  have hl60 : l.length ≤ 60 := by have := hg.vl; omega
  subst hN
  obtain ⟨V, Ay, cy, hal⟩ := al_start h
  have HB0 := Lib.hid ((Below.refl wr.heap.size wr).alloc (Nat.le_refl _) (.cells #[.pointer (some ⟨z, 0, none⟩)] 23))
  clear h hg hk
  go_enter Try.func13, Try.ntmps13
  go_upto_region 1 with fail
  obtain ⟨b1, hb1⟩ : ∃ b1, b1 = wr.heap.size := ⟨_, rfl⟩
  obtain ⟨W0, hW0⟩ : ∃ W0, W0 = wr.alloc (.cells #[.pointer (some ⟨z, 0, none⟩)] 23) := ⟨_, rfl⟩
  have hsz0 : W0.heap.size = b1 + 1 := by rw [hW0, hb1]; simp
  rw [← hW0, ← hb1] at hal
  rw [← hW0] at HB0
  rw [← hW0, ← hb1]
  have HA := Lib.hid hal
  have HZ0 := Lib.hid hsz0
  clear hal hW0 hb1 hsz0
  have HQ := Lib.hid (fun W (hW : Below W0.heap.size W0 W) => HA.out.below hW)
  have HS := Lib.hid (fun W (hW : Below W0.heap.size W0 W) => (HA.out.below hW).cells)
  have CL := Lib.hid (q_len (HQ.out _ (Below.refl _ _).drew).q)
  have CS := Lib.hid (aspare_of (HQ.out _ (Below.refl _ _).drew).q)
  have CRS := Lib.hid (fun W (hW : Below W0.heap.size W0 W) => arspare_of (HQ.out W hW).q)
  have h200 : ¬ (200 : Int) < (N : Int) := by omega
  have h200' : ¬ 200 < N := by omega
  generalize Ver.spare c l = sp at *
  have hS0 := HS.out _ (Below.refl _ _).drew
  go_region_held3 (fun V => V.cell? ⟨b1, 0, none⟩ = some (.pointer (some ⟨z, 0, none⟩)) ∧ V.cell? ⟨z, 0, none⟩ = some (.pointer (some ⟨a, 0, none⟩)) ∧ V.cell? ⟨z, 1, none⟩ = some (.pointer (some ⟨x, 0, none⟩)) ∧ V.cell? ⟨z, 2, none⟩ = some (.pointer (some ⟨d, 0, none⟩)) ∧ V.cell? ⟨z, 3, none⟩ = some (.pointer (some ⟨y, 0, none⟩)) ∧ V.cell? ⟨z, 4, none⟩ = some (.int .i64 (N : Nat)) ∧ V.cell? ⟨y, 0, none⟩ = some (.slice Ay l.length cy)) (first | exact hS0 | exact hS1 | exact hS2)
    (first
      | (go_at_call 18; (with_reducible refine CL.out.mono ?_); rintro e w1 ⟨rfl, rfl⟩)
      | (go_at_call 41; (with_reducible refine (CRS.out _ H1.out).mono ?_); rintro e w2 ⟨rfl, hb2⟩; have H2 := Lib.hid (H1.out.trans (hb2.mono H1.out.size)); have hS2 := HS.out _ H2.out; clear hb2)
      | (go_at_call 20; (with_reducible refine CS.out.mono ?_); rintro e w1 ⟨rfl, hb1'⟩; have H1 := Lib.hid ((Below.refl W0.heap.size W0).drew.trans hb1'); have hS1 := HS.out _ H1.out; clear hb1'))
  clear hS0 hS1 hS2 CL CS CRS h200 h200'
  go_wp2
  go_loopw [3, 4, 5, 6, 7] (fun t _ _ _ _ wr => ∃ i : Nat, i ≤ N ∧ t = .int .i64 ((i : Int) + 1) ∧ Hid (Below W0.heap.size W0 wr)) (fun t _ _ _ _ _ => N + 1 - (intOf t).toNat)
  case atStart => exact ⟨0, Nat.zero_le _, rfl, H2.out⟩
  case round =>
    obtain ⟨i, hiN, rfl, HB⟩ := hrel
    clear H1 H2
    obtain ⟨k9, k0, k1, k2, k3, k4, k5⟩ := HS.out _ HB.out
    by_cases hlt : i < N
    · have hle2 : (i : Int) + 1 ≤ (N : Int) := by omega
      have CL := q_rlive (HQ.out _ HB.out).q ((i : Int) + 1)
      cases hlv : c.isLive ((i : Int) + 1) with
      | false =>
        rw [hlv] at CL
        have CL := Lib.hid CL
        clear hlv
        go_wp2_with (go_at_call 15; (with_reducible refine CL.out.mono ?_); rintro e w4 ⟨rfl, rfl⟩)
        go_roundw
        case rel => exact ⟨i + 1, by omega, by go_num, HB.out⟩
        case measure => simp [intOf]; omega
      | true =>
        rw [hlv] at CL
        have CL := Lib.hid CL
        have HBd := Lib.hid HB.out.drew
        have CR := Lib.hid (aread_of (HQ.out _ HBd.out).q ((i : Int) + 1))
        have CRR := Lib.hid (fun W (hW : Below W0.heap.size W0 W) => q_rread (HQ.out W hW).q ((i : Int) + 1))
        have CC := Lib.hid (fun W (hW : Below W0.heap.size W0 W) => acheck_of (HQ.out W hW).q ((i : Int) + 1))
        have CRC := Lib.hid (fun W (hW : Below W0.heap.size W0 W) => archeck_of (HQ.out W hW).q ((i : Int) + 1))
        clear hlv
        generalize Ver.rdV 0 (Ver.rdX c ((i : Int) + 1) l) = vv at *
        generalize Ver.rdB (Ver.rdX c ((i : Int) + 1) l) = vb at *
        generalize Ver.chk c ((i : Int) + 1) l = ve at *
        go_upto_region 7 with (go_at_call 15; (with_reducible refine CL.out.mono ?_); rintro e w4 ⟨rfl, rfl⟩)
        have hS0 := HS.out _ HBd.out
        go_region_held3 (fun V => V.cell? ⟨b1, 0, none⟩ = some (.pointer (some ⟨z, 0, none⟩)) ∧ V.cell? ⟨z, 0, none⟩ = some (.pointer (some ⟨a, 0, none⟩)) ∧ V.cell? ⟨z, 1, none⟩ = some (.pointer (some ⟨x, 0, none⟩)) ∧ V.cell? ⟨z, 2, none⟩ = some (.pointer (some ⟨d, 0, none⟩)) ∧ V.cell? ⟨z, 3, none⟩ = some (.pointer (some ⟨y, 0, none⟩)) ∧ V.cell? ⟨z, 4, none⟩ = some (.int .i64 (N : Nat)) ∧ V.cell? ⟨y, 0, none⟩ = some (.slice Ay l.length cy)) (first | exact hS0 | exact hS1)
          (first | (go_at_call 16; (with_reducible refine CR.out.mono ?_); rintro e w5 ⟨rfl, hb5⟩; have HB5 := Lib.hid (HBd.out.trans (hb5.mono HBd.out.size)); have hS1 := HS.out _ HB5.out; clear hb5))
        clear hS0 hS1 CR CL
        go_upto_region 8 with fail
        have HB5d := Lib.hid HB5.out.drew
        have CRR2 := Lib.hid (CRR.out _ HB5d.out)
        have hS0 := HS.out _ HB5d.out
        go_region_held3 (fun V => V.cell? ⟨b1, 0, none⟩ = some (.pointer (some ⟨z, 0, none⟩)) ∧ V.cell? ⟨z, 0, none⟩ = some (.pointer (some ⟨a, 0, none⟩)) ∧ V.cell? ⟨z, 1, none⟩ = some (.pointer (some ⟨x, 0, none⟩)) ∧ V.cell? ⟨z, 2, none⟩ = some (.pointer (some ⟨d, 0, none⟩)) ∧ V.cell? ⟨z, 3, none⟩ = some (.pointer (some ⟨y, 0, none⟩)) ∧ V.cell? ⟨z, 4, none⟩ = some (.int .i64 (N : Nat)) ∧ V.cell? ⟨y, 0, none⟩ = some (.slice Ay l.length cy)) (first | exact hS0)
          (first | (go_at_call 43; (with_reducible refine CRR2.out.mono ?_); rintro e w6 ⟨rfl, rfl⟩))
        clear hS0 CRR CRR2
        go_upto_region 9 with fail
        have HB6d := Lib.hid HB5d.out.drew
        have CC2 := Lib.hid (CC.out _ HB6d.out)
        have hS0 := HS.out _ HB6d.out
        go_region_held3 (fun V => V.cell? ⟨b1, 0, none⟩ = some (.pointer (some ⟨z, 0, none⟩)) ∧ V.cell? ⟨z, 0, none⟩ = some (.pointer (some ⟨a, 0, none⟩)) ∧ V.cell? ⟨z, 1, none⟩ = some (.pointer (some ⟨x, 0, none⟩)) ∧ V.cell? ⟨z, 2, none⟩ = some (.pointer (some ⟨d, 0, none⟩)) ∧ V.cell? ⟨z, 3, none⟩ = some (.pointer (some ⟨y, 0, none⟩)) ∧ V.cell? ⟨z, 4, none⟩ = some (.int .i64 (N : Nat)) ∧ V.cell? ⟨y, 0, none⟩ = some (.slice Ay l.length cy)) (first | exact hS0 | exact hS1 | exact hS2)
          (first
            | (go_at_call 39; (with_reducible refine (CRC.out _ H7.out).mono ?_); rintro e w8 ⟨rfl, hb8⟩; have H8 := Lib.hid (H7.out.trans (hb8.mono H7.out.size)); have hS2 := HS.out _ H8.out; clear hb8)
            | (go_at_call 17; (with_reducible refine CC2.out.mono ?_); rintro e w7 ⟨rfl, hb7⟩; have H7 := Lib.hid (HB6d.out.trans (hb7.mono HB6d.out.size)); have hS1 := HS.out _ H7.out; clear hb7))
        clear hS0 hS1 hS2 CC CC2 CRC
        go_wp2
        go_roundw
        case rel => exact ⟨i + 1, by omega, by go_num, H8.out⟩
        case measure => simp [intOf]; omega
    · obtain rfl : i = N := by omega
      have hle2 : ¬ (i : Int) + 1 ≤ (i : Int) := by omega
      go_upto_region 12 with fail
      obtain ⟨WA, hWA⟩ : ∃ WA, WA = (wr.alloc (.cells #[.int .i64 0] 3)).alloc (.cells #[.bool true] 4) := ⟨_, rfl⟩
      have hzA : WA.heap.size = wr.heap.size + 1 + 1 := by rw [hWA]; simp
      have hbA : Below wr.heap.size wr WA := by rw [hWA]; exact ((Below.refl _ _).alloc (Nat.le_refl _) _).alloc (by simp) _
      have kA : WA.heap[wr.heap.size]? = some (.cells #[.int .i64 0] 3 (0, 0)) := by rw [hWA]; exact (heap_two wr _ _).1
      have gA : WA.heap[wr.heap.size + 1]? = some (.cells #[.bool true] 4 (0, 0)) := by rw [hWA]; exact (heap_two wr _ _).2
      rw [← hWA]
      clear hWA
      have HBA := Lib.hid (HB.out.trans (hbA.mono HB.out.size))
      have HAL := Lib.hid (HQ.out _ HBA.out)
      obtain ⟨F, hcc⟩ : ∃ F, CC F WA x l := by
        obtain ⟨o, hs⟩ := HAL.out.q
        exact ⟨_, hs.cc⟩
      have hsB := HB.out.size
      have hz0 := HZ0.out
      have HBX : Hid (Bx WA wr.heap.size (wr.heap.size + 1) b1 z y 0 true V l) := by
        have hv := HA.out.vm.lt
        exact ⟨kA, gA, HAL.out.bx, ⟨_, _, _, _, HAL.out.wb⟩, ⟨_, HAL.out.vm⟩, fun hV => by have := hv _ hV; omega, fun hV => by have := hv _ hV; omega⟩
      have CE := Lib.hid (each_any hcc HBX.out (by omega))
      have HLE : Hid (∀ k, k = wr.heap.size ∨ k = wr.heap.size + 1 → W0.heap.size ≤ k) := fun k hk => by omega
      have HBWA := HBX.out.cells.2.2.1
      have HCX := HAL.out.cells.2.2.1
      clear kA gA hbA hcc k9 k0 k1 k2 k3 k4 k5 hsB hz0 hzA
      generalize wr.heap.size + 1 = bg at *
      generalize wr.heap.size = bk at *
      go_wp2_with (go_at_call 32; (with_reducible refine CE.out.mono ?_); rintro e w9 ⟨rfl, k, hp, hx9, hc9⟩; have HP := Lib.hid hp; have HX9 := Lib.hid hx9; have HB9 := Lib.hid (Chg.of_below HBA.out hc9 HLE.out); clear hp hx9 hc9)
      clear CE HBWA HCX
      go_loopw [] (fun wr => ∃ j : Nat, j ≤ l.length ∧ Hid (Pos l l.length j) ∧ Hid (Bx wr bk bg b1 z y j true V l) ∧ Hid (Below W0.heap.size W0 wr)) (fun wr => match wr.cell? ⟨bk, 0, none⟩ with | some (.int _ j) => l.length - j.toNat | _ => 0)
      case atStart => exact ⟨k, HP.out.1, HP.out, HX9.out, HB9.out⟩
      case round =>
        obtain ⟨j, hj, HPj, HX, HBj⟩ := hrel
        clear HX9 HB9 HP
        obtain ⟨c1, c2, c3, c4, f1, f2⟩ := HX.out.cells
        obtain ⟨v1, hm⟩ := HX.out.vc
        obtain ⟨k0, kf⟩ := hm.cells
        have HM := Lib.hid hm
        obtain ⟨A, cp, rfl⟩ := own_slice hm.r1
        clear hm
        by_cases hlt2 : j < l.length
        · obtain ⟨g, cp', hgg, _, q0, q1, q2⟩ := HM.out.row hlt2
          injection hgg with hgg _ hcp
          subst hgg
          subst hcp
          have hi5 : IntKind.i64.wrap (j : Int) = (j : Int) := wrapI (by omega)
          rw [HPj.out.2 j hlt2 (Nat.le_refl _) hlt2] at q2
          have HP2 : Hid (Pos l l.length (j + 1)) := ⟨by omega, fun i hi h1 h2 => HPj.out.2 i hi (by omega) h2⟩
          clear q0 q1
          go_wp2_with fail
          go_quiet (fail)
          have HXn := Lib.hid (HX.out.drewN nq)
          clear c1 c2 c3 c4 f1 f2 k0 kf q2
          obtain ⟨c1, c2, c3, c4, f1, f2⟩ := HXn.out.cells
          have HX2 : Hid (Bx ((wr.drewN nq).setCell ⟨bk, 0, none⟩ (.int .i64 ((j : Int) + 1))) bk bg b1 z y (j + 1) true V l) := HXn.out.setK (j + 1)
          have HB2 : Hid (Below W0.heap.size W0 ((wr.drewN nq).setCell ⟨bk, 0, none⟩ (.int .i64 ((j : Int) + 1)))) := below_set (below_drewN HBj.out nq) (HLE.out bk (.inl rfl))
          go_wp2
          refine ⟨⟨j + 1, by omega, HP2.out, HX2.out, HB2.out⟩, ?_⟩
          have e1 := HX2.out.cells.1
          have e2 := HX.out.cells.1
          rw [e1, e2]
          simp
          omega
        · obtain rfl : j = l.length := by omega
          go_wp2_with fail
          go_quiet (fail)
          have HXn := Lib.hid (HX.out.drewN nq)
          have HBn := Lib.hid (below_drewN HBj.out nq)
          have k0n : (wr.drewN nq).cell? ⟨y, 0, none⟩ = some (.slice A l.length cp) := k0
          clear c1 c2 c3 c4 f1 f2 k0 kf
          obtain ⟨c1, c2, c3, c4, f1, f2⟩ := HXn.out.cells
          generalize wr.drewN nq = W at *
          go_wp2_with fail
          go_quiet (fail)
          go_wp2
          go_ret
          exact ⟨ret_b (by simp), HB0.out.trans ((below_drewN HBn.out nq).mono HB0.out.size)⟩
end Go.Proofs.Ytpjjpjdamieeeaa
