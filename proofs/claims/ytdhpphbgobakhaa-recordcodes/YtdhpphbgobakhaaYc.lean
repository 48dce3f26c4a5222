/- Nodes of chapter 10 in memory; the reference's IsNode. Conditions: the node's rows lie in memory, fewer than 1,000,000 labels and properties; strings are of a length that Go allows. -/
import Derived.Test.YtdhpphbgobakhaaYb
import Derived.Test.YtdhpphbgobakhaaVr
import Derived.Test.YtdhpphbgobakhaaMo
import Derived.Deep.RegionHeld3
import Derived.Deep.CutBlock
import Derived.Deep.QuietTactic
import Derived.BigQuiet
import Derived.StillTailTactics
import Derived.Lib.QuietBelow
namespace Go.Proofs.Ytdhpphbgobakhaa
set_option maxRecDepth 100000
set_option linter.unusedVariables false
open Go.ChangeShapes Go.WideShapes Go.ChangeAt Go.RowKit
open Fl (S)
open Val (V cmpV isB ltT)
/-- At p lies the property x. -/
structure PAt (w : World) (p : Addr) (x : Pr) : Prop where
  c0 : w.cell? p = some (.string x.k)
  c1 : w.cell? ⟨p.block, p.off + 1, none⟩ = some (.int .i64 x.v.k)
  c2 : w.cell? ⟨p.block, p.off + 2, none⟩ = some (.bool x.v.b)
  c3 : w.cell? ⟨p.block, p.off + 3, none⟩ = some (.int .i64 x.v.n)
  c4 : w.cell? ⟨p.block, p.off + 4, none⟩ = some (.float .f64 x.v.f)
  c5 : w.cell? ⟨p.block, p.off + 5, none⟩ = some (.string x.v.t)
theorem PAt.below {w w' : World} {p : Addr} {x : Pr} (h : PAt w p x) (hb : Below w.heap.size w w') : PAt w' p x :=
  ⟨(hb.cell (World.block_lt_of_cell? w _ h.c0)).trans h.c0, (hb.cell (World.block_lt_of_cell? w _ h.c1)).trans h.c1, (hb.cell (World.block_lt_of_cell? w _ h.c2)).trans h.c2, (hb.cell (World.block_lt_of_cell? w _ h.c3)).trans h.c3, (hb.cell (World.block_lt_of_cell? w _ h.c4)).trans h.c4, (hb.cell (World.block_lt_of_cell? w _ h.c5)).trans h.c5⟩
/-- The properties behind A are l. -/
def PRow (w : World) (A : Option Addr) (l : List Pr) : Prop := ∀ k (h : k < l.length), ∃ ad pk, A = some ad ∧ ad.add (k * 6) = pk ∧ PAt w pk l[k]
theorem PRow.below {w w' : World} {A : Option Addr} {l : List Pr} (h : PRow w A l) (hb : Below w.heap.size w w') : PRow w' A l := fun k hk => by
  obtain ⟨ad, pk, h1, h2, h3⟩ := h k hk
  exact ⟨ad, pk, h1, h2, h3.below hb⟩
/-- A node's rows: where they begin, their capacities. -/
structure Ns where
  la : Option Addr
  lc : Nat
  pa : Option Addr
  pc : Nat
abbrev ndv (n : Nd) (s : Ns) : Value := .agg #[.slice s.la n.ls.length s.lc, .slice s.pa n.ps.length s.pc]
structure NdAt (w : World) (n : Nd) (s : Ns) : Prop where
  r1 : Row .string w s.la n.ls
  r2 : PRow w s.pa n.ps
theorem NdAt.below {w w' : World} {n : Nd} {s : Ns} (h : NdAt w n s) (hb : Below w.heap.size w w') : NdAt w' n s := ⟨h.r1.below hb, h.r2.below hb⟩
/-- Of a size that the laws look at. -/
structure NdOk (n : Nd) : Prop where
  l1 : n.ls.length ≤ 1000000
  l2 : n.ps.length ≤ 1000000
  s1 : ∀ x, x ∈ n.ls → x.size ≤ maxLen
  s2 : ∀ x, x ∈ n.ps → x.k.size ≤ maxLen ∧ x.v.t.size ≤ maxLen
theorem getD_at {α : Type} (l : List α) (k : Nat) (d : α) (h : k < l.length) : l.getD k d = l[k] := by
  rw [List.getD_eq_getElem?_getD, List.getElem?_eq_getElem h]; rfl
theorem addr_pos (a : Addr) (n : Nat) (h : 0 < n) : a.add n = ⟨a.block, a.off + n, none⟩ := by
  unfold Addr.add; split
  · omega
  · rfl
theorem block_of {w : World} {g : Nat} {o : Obj} (h : w.heap[g]? = some o) : g < w.heap.size := (Array.getElem?_eq_some_iff.1 h).1
theorem wrap_small {m : Nat} (h : m ≤ 9223372036854775807) : IntKind.i64.wrap (m : Int) = (m : Int) := by
  unfold IntKind.wrap
  simp [IntKind.signed, IntKind.bits]
  omega
theorem rname_below (s : ByteArray) (hs : s.size ≤ maxLen) (w : World) : Calls Try.prog 85 #[.string s] w fun e w' => e = .returned (.bool (nameB s)) ∧ Below w.heap.size w w' :=
  (rname_any s hs w).mono fun e w' ⟨h1, h2⟩ => ⟨h1, h2 ▸ Below.refl _ _⟩
theorem rname_still (s : ByteArray) (hs : s.size ≤ maxLen) (w : World) : Calls Try.prog 85 #[.string s] w.drew fun e w' => e = .returned (.bool (nameB s)) ∧ w' = w.drew :=
  (rname_any s hs w.drew).mono fun e w' ⟨h1, h2⟩ => ⟨h1, h2.symm⟩
set_option maxHeartbeats 4000000 in
theorem rnode_any (n : Nd) (s : Ns) (w : World) (h : NdAt w n s) (ho : NdOk n) : Calls Try.prog 70 #[ndv n s] w fun r w' => r = .returned (.bool (nodeB n)) ∧ Below w.heap.size w w' := by
  obtain ⟨ls, ps⟩ := n
  obtain ⟨A, lc, B, pc⟩ := s
  have HD : Hid (nodeB ⟨ls, ps⟩ = ((List.range ls.length).all (labB ls) && (List.range ps.length).all (prpB ps) && (decide (ls.length ≤ 3) && decide (ps.length ≤ 3)))) := rfl
  have hal := (Below.refl w.heap.size w).alloc (Nat.le_refl _) (.cells #[.slice A ls.length lc, .slice B ps.length pc] 43)
  have hbx := heap_alloc_new w (.cells #[.slice A ls.length lc, .slice B ps.length pc] 43)
  have HB0 := Lib.hid hal
  have HN := Lib.hid (h.below hal)
  have HO := Lib.hid ho
  have HBX := Lib.hid (fun W (hW : Below (w.alloc (.cells #[.slice A ls.length lc, .slice B ps.length pc] 43)).heap.size (w.alloc (.cells #[.slice A ls.length lc, .slice B ps.length pc] 43)) W) => show W.cell? ⟨w.heap.size, 0, none⟩ = some (.slice A ls.length lc) ∧ W.cell? ⟨w.heap.size, 1, none⟩ = some (.slice B ps.length pc) from by
    have hq := (hW.block _ (block_of hbx)).trans hbx
    constructor <;> rw [cell_of_row W _ _ _ _ _ hq] <;> rfl)
  have hl1 := ho.l1
  have hl2 := ho.l2
  clear h ho hal hbx
  go_enter Try.func70, Try.ntmps70
  go_wp2
  generalize w.alloc (.cells #[.slice A ls.length lc, .slice B ps.length pc] 43) = V at *
  go_loopw [3] (fun i wr => ∃ k : Nat, k ≤ ls.length ∧ i = .int .i64 (k : Nat) ∧ Hid (Below V.heap.size V wr) ∧ Hid ((List.range k).all (labB ls) = true)) (fun i _ => ls.length - (intOf i).toNat)
  case atStart => exact ⟨0, Nat.zero_le _, rfl, Below.refl _ _, rfl⟩
  case round =>
    obtain ⟨k, hk, rfl, HB, HA⟩ := hrel
    obtain ⟨b0, b1⟩ := HBX.out _ HB.out
    by_cases hlt : k < ls.length
    · obtain ⟨ad, e1, hc⟩ := (HN.out.r1.below HB.out) k hlt
      simp only at e1
      subst e1
      have HSz := Lib.hid (HO.out.s1 _ (List.getElem_mem hlt))
      have HGD := Lib.hid (getD_at ls k ⟨#[]⟩ hlt)
      have HUP := Lib.hid (all_up (labB ls) k)
      have hi5 : IntKind.i64.wrap (k : Int) = (k : Int) := wrap_small (show k ≤ 9223372036854775807 by omega)
      have hi0 : (0 : Int) ≤ (k : Int) := by omega
      cases hn : nameB ls[k] with
      | false =>
        have HF := Lib.hid (show nodeB ⟨ls, ps⟩ = false by rw [HD.out, all_bad hlt (show labB ls k = false by unfold labB; rw [HGD.out, hn]; rfl)]; simp)
        have HNM := Lib.hid (fun n => rname_any ls[k] HSz.out (wr.drewN n))
        rw [hn] at HNM
        generalize ls[k] = x at *
        clear hn
        go_upto_region 4 with fail
        go_quiet ((go_at_call 85; with_reducible exact quiet_eq (HNM.out _)))
        go_wp2
        go_ret
        exact ⟨ret_b HF.out.symm, HB0.out.trans ((below_drewN HB.out _).mono HB0.out.size)⟩
      | true =>
        have HNM := Lib.hid (fun n => rname_any ls[k] HSz.out (wr.drewN n))
        rw [hn] at HNM
        cases k with
        | zero =>
          have HU := Lib.hid (show (List.range (0 + 1)).all (labB ls) = true by rw [HUP.out, HA.out]; unfold labB; rw [HGD.out, hn]; rfl)
          generalize ls[0] = x at *
          have hc0 : wr.cell? ad = some (.string x) := by rw [← Addr.add_zero' ad]; exact hc
          clear hn
          go_upto_region 4 with fail
          go_quiet ((go_at_call 85; with_reducible exact quiet_eq (HNM.out _)))
          go_wp2
          exact ⟨⟨1, by omega, by go_num, below_drewN HB.out _, HU.out⟩, by simp [intOf]; omega⟩
        | succ m =>
          obtain ⟨ad2, e2, hc2⟩ := (HN.out.r1.below HB.out) m (show m < ls.length by omega)
          simp only at e2
          injection e2 with e2
          subst e2
          have HGM := Lib.hid (getD_at ls m ⟨#[]⟩ (by omega))
          have hj5 : IntKind.i64.wrap (m : Int) = (m : Int) := wrap_small (show m ≤ 9223372036854775807 by omega)
          have hj0 : (0 : Int) ≤ (m : Int) := by omega
          have hi6 : IntKind.i64.wrap ((m : Int) + 1) = (m : Int) + 1 := hi5
          have hi7 : (0 : Int) ≤ (m : Int) + 1 := by omega
          have hi8 : ((m : Int) + 1).toNat = m + 1 := by omega
          have hi9 : (m : Int) + 1 < (ls.length : Int) := by omega
          have hc : wr.cell? ⟨ad.block, ad.off + (m + 1), none⟩ = some (.string ls[m + 1]) := by rw [← addr_pos ad (m + 1) (by omega)]; exact hc
          have hc2 : wr.cell? (ad.add m) = some (.string ls[m]) := hc2
          cases hc3 : ltT ls[m] ls[m + 1] with
          | true =>
            have HU := Lib.hid (show (List.range (m + 1 + 1)).all (labB ls) = true by rw [HUP.out, HA.out]; unfold labB; rw [HGD.out, hn, Nat.add_sub_cancel, HGM.out, hc3]; simp)
            unfold Val.ltT at hc3
            generalize ls[m + 1] = x at *
            generalize ls[m] = y at *
            clear hn hi5 hi0
            go_upto_region 4 with fail
            go_quiet ((go_at_call 85; with_reducible exact quiet_eq (HNM.out _)))
            clear hi6 hj5 hi8
            go_wp2
            exact ⟨⟨m + 2, by omega, by go_num, below_drewN HB.out _, HU.out⟩, by simp [intOf]; omega⟩
          | false =>
            have HF := Lib.hid (show nodeB ⟨ls, ps⟩ = false by rw [HD.out, all_bad hlt (show labB ls (m + 1) = false by unfold labB; rw [HGD.out, hn, Nat.add_sub_cancel, HGM.out, hc3]; simp)]; simp)
            unfold Val.ltT at hc3
            generalize ls[m + 1] = x at *
            generalize ls[m] = y at *
            clear hn hi5 hi0
            go_upto_region 4 with fail
            go_quiet ((go_at_call 85; with_reducible exact quiet_eq (HNM.out _)))
            go_wp2
            go_ret
            exact ⟨ret_b HF.out.symm, HB0.out.trans ((below_drewN HB.out _).mono HB0.out.size)⟩
    · skip
      have HLA := Lib.hid (show (List.range ls.length).all (labB ls) = true by rw [← show k = ls.length by omega]; exact HA.out)
      clear HA
      have hkl : ¬ k < ls.length := hlt
      go_wp2
      clear hkl hlt b0 b1
      go_loopw [4] (fun i wx => ∃ j : Nat, j ≤ ps.length ∧ i = .int .i64 (j : Nat) ∧ Hid (Below V.heap.size V wx) ∧ Hid ((List.range j).all (prpB ps) = true)) (fun i _ => ps.length - (intOf i).toNat)
      case atStart => exact ⟨0, Nat.zero_le _, rfl, HB.out, rfl⟩
      case round =>
        obtain ⟨j, hj, rfl, HX, HP⟩ := hrel
        obtain ⟨b0, b1⟩ := HBX.out _ HX.out
        by_cases hlt : j < ps.length
        · cases j with
          | zero =>
            have HSz := Lib.hid (HO.out.s2 _ (List.getElem_mem hlt))
            have HGD := Lib.hid (getD_at ps 0 default hlt)
            have HUP := Lib.hid (all_up (prpB ps) 0)
            obtain ⟨ad, pk, hA, hp, he⟩ := (HN.out.r2.below HX.out) 0 hlt
            simp only at hA
            subst hA
            have he : PAt wr pk ps[0] := he
            generalize ps[0] = x at *
            obtain ⟨xk, vk, vb, vn, vf, vt⟩ := x
            obtain ⟨wb, hwb⟩ : ∃ wb, wb = wr.alloc (.cells #[.string xk, .int .i64 vk, .bool vb, .int .i64 vn, .float .f64 vf, .string vt] 49) := ⟨_, rfl⟩
            have hal : Below wr.heap.size wr wb := by rw [hwb]; exact one_box wr _
            have hnw : wb.heap[wr.heap.size]? = some (.cells #[.string xk, .int .i64 vk, .bool vb, .int .i64 vn, .float .f64 vf, .string vt] 49 (0, 0)) := by rw [hwb]; exact heap_alloc_new wr _
            have HWB := Lib.hid (HX.out.trans (hal.mono HX.out.size))
            have HSS := Lib.hid (fun W (hg : Below wb.heap.size wb W) => show W.cell? ⟨w.heap.size, 1, none⟩ = some (.slice (some ad) ps.length pc) ∧ W.cell? ⟨wr.heap.size, 0, none⟩ = some (.string xk) ∧ W.cell? ⟨wr.heap.size, 1, none⟩ = some (.int .i64 vk) ∧ W.cell? ⟨wr.heap.size, 2, none⟩ = some (.bool vb) ∧ W.cell? ⟨wr.heap.size, 3, none⟩ = some (.int .i64 vn) ∧ W.cell? ⟨wr.heap.size, 4, none⟩ = some (.float .f64 vf) ∧ W.cell? ⟨wr.heap.size, 5, none⟩ = some (.string vt) from by
              have hq := (hg.block _ (block_of hnw)).trans hnw
              refine ⟨(HBX.out W (HWB.out.trans (hg.mono HWB.out.size))).2, ?_, ?_, ?_, ?_, ?_, ?_⟩ <;> rw [cell_of_row W _ _ _ _ _ hq] <;> rfl)
            obtain ⟨c0, c1, c2, c3, c4, c5⟩ := he
            simp only at c0 c1 c2 c3 c4 c5 HSz HGD
            have HNM := Lib.hid (fun W => rname_below xk HSz.out.1 W)
            have HIS := Lib.hid (fun W => ris_any ⟨vk, vb, vn, vf, vt⟩ HSz.out.2 W)
            clear hal hnw
            cases hn : nameB xk with
            | false =>
              have HF := Lib.hid (show nodeB ⟨ls, ps⟩ = false by rw [HD.out, all_bad (f := prpB ps) hlt (show prpB ps 0 = false by unfold prpB; rw [HGD.out, hn]; rfl)]; simp)
              have HNQ := Lib.hid (fun n => rname_any xk HSz.out.1 (wb.drewN n))
              rw [hn] at HNQ
              rw [hn] at HNM
              clear HUP HGD hn
              go_upto_region 10 with fail
              rw [← hwb]
              clear hwb
              clear c0 c1 c2 c3 c4 c5 b0 b1 hp
              obtain ⟨g0, g1, g2, g3, g4, g5, g6⟩ := HSS.out wb (Below.refl _ _)
              go_quiet ((go_at_call 85; with_reducible exact quiet_eq (HNQ.out _)))
              clear g0 g1 g2 g3 g4 g5 g6
              go_wp2
              go_ret
              exact ⟨ret_b HF.out.symm, HB0.out.trans ((below_drewN HWB.out _).mono HB0.out.size)⟩
            | true =>
              cases hv : isB ⟨vk, vb, vn, vf, vt⟩ with
              | false =>
                have HF := Lib.hid (show nodeB ⟨ls, ps⟩ = false by rw [HD.out, all_bad (f := prpB ps) hlt (show prpB ps 0 = false by unfold prpB; rw [HGD.out, hn, hv]; simp)]; simp)
                have HNQ := Lib.hid (rname_still xk HSz.out.1 wb)
                rw [hn] at HNQ
                rw [hn] at HNM
                rw [hv] at HIS
                clear HUP HGD hn hv
                go_upto_region 10 with fail
                rw [← hwb]
                clear hwb
                clear c0 c1 c2 c3 c4 c5 b0 b1 hp
                have hS := fun d os => HSS.out _ (below_regrown wb d os)
                have g0 := fun d os => (hS d os).1
                have g1 := fun d os => (hS d os).2.1
                have g2 := fun d os => (hS d os).2.2.1
                have g3 := fun d os => (hS d os).2.2.2.1
                have g4 := fun d os => (hS d os).2.2.2.2.1
                have g5 := fun d os => (hS d os).2.2.2.2.2.1
                have g6 := fun d os => (hS d os).2.2.2.2.2.2
                clear hS
                refine wp_region_quiet_below (by kernel_rfl) (by kernel_rfl) ?_
                repeat (go_big_quiet_step ((first
                    | (go_at_call 88; with_reducible exact Calls.regrown_of (HIS.out _))
                    | (go_at_call 85; with_reducible exact Calls.regrown_of (HNM.out _)))))
                refine wpQuiet_nil ?_
                intro _ hw'
                obtain ⟨⟨dq, osq⟩, hw''⟩ := hw'
                subst hw''
                have HB2 := Lib.hid (HWB.out.trans ((below_regrown wb dq osq).mono HWB.out.size))
                clear g0 g1 g2 g3 g4 g5 g6
                go_wp2
                go_ret
                exact ⟨ret_b HF.out.symm, HB0.out.trans (HB2.out.mono HB0.out.size)⟩
              | true =>
                by_cases hk0 : vk = 0
                · subst hk0
                  have HF := Lib.hid (show nodeB ⟨ls, ps⟩ = false by rw [HD.out, all_bad (f := prpB ps) hlt (show prpB ps 0 = false by unfold prpB; rw [HGD.out]; simp)]; simp)
                  have HNQ := Lib.hid (rname_still xk HSz.out.1 wb)
                  rw [hn] at HNQ
                  rw [hn] at HNM
                  rw [hv] at HIS
                  clear HUP HGD hn hv
                  go_upto_region 10 with fail
                  rw [← hwb]
                  clear hwb
                  clear c0 c1 c2 c3 c4 c5 b0 b1 hp
                  have hS := fun d os => HSS.out _ (below_regrown wb d os)
                  have g0 := fun d os => (hS d os).1
                  have g1 := fun d os => (hS d os).2.1
                  have g2 := fun d os => (hS d os).2.2.1
                  have g3 := fun d os => (hS d os).2.2.2.1
                  have g4 := fun d os => (hS d os).2.2.2.2.1
                  have g5 := fun d os => (hS d os).2.2.2.2.2.1
                  have g6 := fun d os => (hS d os).2.2.2.2.2.2
                  clear hS
                  refine wp_region_quiet_below (by kernel_rfl) (by kernel_rfl) ?_
                  repeat (go_big_quiet_step ((first
                      | (go_at_call 88; with_reducible exact Calls.regrown_of (HIS.out _))
                      | (go_at_call 85; with_reducible exact Calls.regrown_of (HNM.out _)))))
                  refine wpQuiet_nil ?_
                  intro _ hw'
                  obtain ⟨⟨dq, osq⟩, hw''⟩ := hw'
                  subst hw''
                  have HB2 := Lib.hid (HWB.out.trans ((below_regrown wb dq osq).mono HWB.out.size))
                  clear g0 g1 g2 g3 g4 g5 g6
                  go_wp2
                  go_ret
                  exact ⟨ret_b HF.out.symm, HB0.out.trans (HB2.out.mono HB0.out.size)⟩
                · skip
                  have HU := Lib.hid (show (List.range (0 + 1)).all (prpB ps) = true by rw [HUP.out, HP.out]; unfold prpB; rw [HGD.out, hn, hv]; simp [hk0])
                  have hk1 : (vk == 0) = false := by simpa using hk0
                  have HNQ := Lib.hid (rname_still xk HSz.out.1 wb)
                  rw [hn] at HNQ
                  rw [hn] at HNM
                  rw [hv] at HIS
                  clear HUP HGD hn hv hk0
                  go_upto_region 10 with fail
                  rw [← hwb]
                  clear hwb
                  clear c0 c1 c2 c3 c4 c5 b0 b1 hp
                  have hS := fun d os => HSS.out _ (below_regrown wb d os)
                  have g0 := fun d os => (hS d os).1
                  have g1 := fun d os => (hS d os).2.1
                  have g2 := fun d os => (hS d os).2.2.1
                  have g3 := fun d os => (hS d os).2.2.2.1
                  have g4 := fun d os => (hS d os).2.2.2.2.1
                  have g5 := fun d os => (hS d os).2.2.2.2.2.1
                  have g6 := fun d os => (hS d os).2.2.2.2.2.2
                  clear hS
                  refine wp_region_quiet_below (by kernel_rfl) (by kernel_rfl) ?_
                  repeat (go_big_quiet_step ((first
                      | (go_at_call 88; with_reducible exact Calls.regrown_of (HIS.out _))
                      | (go_at_call 85; with_reducible exact Calls.regrown_of (HNM.out _)))))
                  refine wpQuiet_nil ?_
                  intro _ hw'
                  obtain ⟨⟨dq, osq⟩, hw''⟩ := hw'
                  subst hw''
                  have HB2 := Lib.hid (HWB.out.trans ((below_regrown wb dq osq).mono HWB.out.size))
                  clear g0 g1 g2 g3 g4 g5 g6
                  go_wp2
                  exact ⟨⟨1, by omega, by go_num, HB2.out, HU.out⟩, by simp [intOf]; omega⟩
          | succ m =>
            have HSz := Lib.hid (HO.out.s2 _ (List.getElem_mem hlt))
            have HGD := Lib.hid (getD_at ps (m + 1) default hlt)
            have HUP := Lib.hid (all_up (prpB ps) (m + 1))
            obtain ⟨ad, pk, hA, hp, he⟩ := (HN.out.r2.below HX.out) (m + 1) hlt
            simp only at hA
            subst hA
            have he : PAt wr pk ps[m + 1] := he
            obtain ⟨ad2, qk, hA2, hp2, he2⟩ := (HN.out.r2.below HX.out) m (show m < ps.length by omega)
            simp only at hA2
            injection hA2 with hA2
            subst hA2
            have he2 : PAt wr qk ps[m] := he2
            have HGM := Lib.hid (getD_at ps m default (show m < ps.length by omega))
            have hp3 : (⟨ad.block, ad.off + (m + 1) * 6, none⟩ : Addr) = pk := by rw [← addr_pos ad ((m + 1) * 6) (by omega)]; exact hp
            have hj5 : IntKind.i64.wrap (m : Int) = (m : Int) := wrap_small (show m ≤ 9223372036854775807 by omega)
            have hj0 : (0 : Int) ≤ (m : Int) := by omega
            have hi6 : IntKind.i64.wrap ((m : Int) + 1) = (m : Int) + 1 := wrap_small (m := m + 1) (show m + 1 ≤ 9223372036854775807 by omega)
            have hi7 : (0 : Int) ≤ (m : Int) + 1 := by omega
            have hi8 : ((m : Int) + 1).toNat = m + 1 := by omega
            have hi9 : (m : Int) + 1 < (ps.length : Int) := by omega
            have hm6 : m ≤ 1000000 := by omega
            generalize ps[m + 1] = x at *
            generalize ps[m] = yy at *
            obtain ⟨xk, vk, vb, vn, vf, vt⟩ := x
            obtain ⟨y, vy⟩ := yy
            obtain ⟨wb, hwb⟩ : ∃ wb, wb = wr.alloc (.cells #[.string xk, .int .i64 vk, .bool vb, .int .i64 vn, .float .f64 vf, .string vt] 49) := ⟨_, rfl⟩
            have hal : Below wr.heap.size wr wb := by rw [hwb]; exact one_box wr _
            have hnw : wb.heap[wr.heap.size]? = some (.cells #[.string xk, .int .i64 vk, .bool vb, .int .i64 vn, .float .f64 vf, .string vt] 49 (0, 0)) := by rw [hwb]; exact heap_alloc_new wr _
            have HWB := Lib.hid (HX.out.trans (hal.mono HX.out.size))
            have HSS := Lib.hid (fun W (hg : Below wb.heap.size wb W) => show W.cell? ⟨w.heap.size, 1, none⟩ = some (.slice (some ad) ps.length pc) ∧ W.cell? ⟨wr.heap.size, 0, none⟩ = some (.string xk) ∧ W.cell? ⟨wr.heap.size, 1, none⟩ = some (.int .i64 vk) ∧ W.cell? ⟨wr.heap.size, 2, none⟩ = some (.bool vb) ∧ W.cell? ⟨wr.heap.size, 3, none⟩ = some (.int .i64 vn) ∧ W.cell? ⟨wr.heap.size, 4, none⟩ = some (.float .f64 vf) ∧ W.cell? ⟨wr.heap.size, 5, none⟩ = some (.string vt) ∧ W.cell? qk = some (.string y) from by
              have hq := (hg.block _ (block_of hnw)).trans hnw
              refine ⟨(HBX.out W (HWB.out.trans (hg.mono HWB.out.size))).2, ?_, ?_, ?_, ?_, ?_, ?_, by have := ((he2.below hal).below hg).c0; exact this⟩ <;> rw [cell_of_row W _ _ _ _ _ hq] <;> rfl)
            obtain ⟨c0, c1, c2, c3, c4, c5⟩ := he
            simp only at c0 c1 c2 c3 c4 c5 HSz HGD HGM
            have HNM := Lib.hid (fun W => rname_below xk HSz.out.1 W)
            have HIS := Lib.hid (fun W => ris_any ⟨vk, vb, vn, vf, vt⟩ HSz.out.2 W)
            clear hal hnw he2
            cases hn : nameB xk with
            | false =>
              have HF := Lib.hid (show nodeB ⟨ls, ps⟩ = false by rw [HD.out, all_bad (f := prpB ps) hlt (show prpB ps (m + 1) = false by unfold prpB; rw [HGD.out, hn]; rfl)]; simp)
              have HNQ := Lib.hid (fun n => rname_any xk HSz.out.1 (wb.drewN n))
              rw [hn] at HNQ
              rw [hn] at HNM
              clear HUP HGD hn HGM
              go_upto_region 10 with fail
              rw [← hwb]
              clear hwb
              clear c0 c1 c2 c3 c4 c5 b0 b1 hp hp2 hp3
              obtain ⟨g0, g1, g2, g3, g4, g5, g6, g7⟩ := HSS.out wb (Below.refl _ _)
              go_quiet ((go_at_call 85; with_reducible exact quiet_eq (HNQ.out _)))
              clear g0 g1 g2 g3 g4 g5 g6 g7
              go_wp2
              go_ret
              exact ⟨ret_b HF.out.symm, HB0.out.trans ((below_drewN HWB.out _).mono HB0.out.size)⟩
            | true =>
              cases hc3 : ltT y xk with
              | false =>
                have HF := Lib.hid (show nodeB ⟨ls, ps⟩ = false by rw [HD.out, all_bad (f := prpB ps) hlt (show prpB ps (m + 1) = false by unfold prpB; rw [HGD.out, hn, Nat.add_sub_cancel, HGM.out, hc3]; simp)]; simp)
                have HNQ := Lib.hid (fun n => rname_any xk HSz.out.1 (wb.drewN n))
                rw [hn] at HNQ
                rw [hn] at HNM
                clear HUP HGD hn HGM
                unfold Val.ltT at hc3
                go_upto_region 10 with fail
                rw [← hwb]
                clear hwb
                clear c0 c1 c2 c3 c4 c5 b0 b1 hp
                obtain ⟨g0, g1, g2, g3, g4, g5, g6, g7⟩ := HSS.out wb (Below.refl _ _)
                go_quiet ((go_at_call 85; with_reducible exact quiet_eq (HNQ.out _)))
                clear g0 g1 g2 g3 g4 g5 g6 g7
                go_wp2
                go_ret
                exact ⟨ret_b HF.out.symm, HB0.out.trans ((below_drewN HWB.out _).mono HB0.out.size)⟩
              | true =>
                cases hv : isB ⟨vk, vb, vn, vf, vt⟩ with
                | false =>
                  have HF := Lib.hid (show nodeB ⟨ls, ps⟩ = false by rw [HD.out, all_bad (f := prpB ps) hlt (show prpB ps (m + 1) = false by unfold prpB; rw [HGD.out, hn, hv]; simp)]; simp)
                  have HNQ := Lib.hid (rname_still xk HSz.out.1 wb)
                  rw [hn] at HNQ
                  rw [hn] at HNM
                  rw [hv] at HIS
                  clear HUP HGD hn HGM hv
                  unfold Val.ltT at hc3
                  go_upto_region 10 with fail
                  rw [← hwb]
                  clear hwb
                  clear c0 c1 c2 c3 c4 c5 b0 b1 hp
                  have hS := fun d os => HSS.out _ (below_regrown wb d os)
                  have g0 := fun d os => (hS d os).1
                  have g1 := fun d os => (hS d os).2.1
                  have g2 := fun d os => (hS d os).2.2.1
                  have g3 := fun d os => (hS d os).2.2.2.1
                  have g4 := fun d os => (hS d os).2.2.2.2.1
                  have g5 := fun d os => (hS d os).2.2.2.2.2.1
                  have g6 := fun d os => (hS d os).2.2.2.2.2.2.1
                  have g7 := fun d os => (hS d os).2.2.2.2.2.2.2
                  clear hS
                  refine wp_region_quiet_below (by kernel_rfl) (by kernel_rfl) ?_
                  repeat (go_big_quiet_step ((first
                      | (go_at_call 88; with_reducible exact Calls.regrown_of (HIS.out _))
                      | (go_at_call 85; with_reducible exact Calls.regrown_of (HNM.out _)))))
                  refine wpQuiet_nil ?_
                  intro _ hw'
                  obtain ⟨⟨dq, osq⟩, hw''⟩ := hw'
                  subst hw''
                  have HB2 := Lib.hid (HWB.out.trans ((below_regrown wb dq osq).mono HWB.out.size))
                  clear g0 g1 g2 g3 g4 g5 g6 g7
                  go_wp2
                  go_ret
                  exact ⟨ret_b HF.out.symm, HB0.out.trans (HB2.out.mono HB0.out.size)⟩
                | true =>
                  by_cases hk0 : vk = 0
                  · subst hk0
                    have HF := Lib.hid (show nodeB ⟨ls, ps⟩ = false by rw [HD.out, all_bad (f := prpB ps) hlt (show prpB ps (m + 1) = false by unfold prpB; rw [HGD.out]; simp)]; simp)
                    have HNQ := Lib.hid (rname_still xk HSz.out.1 wb)
                    rw [hn] at HNQ
                    rw [hn] at HNM
                    rw [hv] at HIS
                    clear HUP HGD hn HGM hv
                    unfold Val.ltT at hc3
                    go_upto_region 10 with fail
                    rw [← hwb]
                    clear hwb
                    clear c0 c1 c2 c3 c4 c5 b0 b1 hp
                    have hS := fun d os => HSS.out _ (below_regrown wb d os)
                    have g0 := fun d os => (hS d os).1
                    have g1 := fun d os => (hS d os).2.1
                    have g2 := fun d os => (hS d os).2.2.1
                    have g3 := fun d os => (hS d os).2.2.2.1
                    have g4 := fun d os => (hS d os).2.2.2.2.1
                    have g5 := fun d os => (hS d os).2.2.2.2.2.1
                    have g6 := fun d os => (hS d os).2.2.2.2.2.2.1
                    have g7 := fun d os => (hS d os).2.2.2.2.2.2.2
                    clear hS
                    refine wp_region_quiet_below (by kernel_rfl) (by kernel_rfl) ?_
                    repeat (go_big_quiet_step ((first
                        | (go_at_call 88; with_reducible exact Calls.regrown_of (HIS.out _))
                        | (go_at_call 85; with_reducible exact Calls.regrown_of (HNM.out _)))))
                    refine wpQuiet_nil ?_
                    intro _ hw'
                    obtain ⟨⟨dq, osq⟩, hw''⟩ := hw'
                    subst hw''
                    have HB2 := Lib.hid (HWB.out.trans ((below_regrown wb dq osq).mono HWB.out.size))
                    clear g0 g1 g2 g3 g4 g5 g6 g7
                    go_wp2
                    go_ret
                    exact ⟨ret_b HF.out.symm, HB0.out.trans (HB2.out.mono HB0.out.size)⟩
                  · skip
                    have HU := Lib.hid (show (List.range ((m + 1) + 1)).all (prpB ps) = true by rw [HUP.out, HP.out]; unfold prpB; rw [HGD.out, hn, hv, Nat.add_sub_cancel, HGM.out, hc3]; simp [hk0])
                    have hk1 : (vk == 0) = false := by simpa using hk0
                    have HNQ := Lib.hid (rname_still xk HSz.out.1 wb)
                    rw [hn] at HNQ
                    rw [hn] at HNM
                    rw [hv] at HIS
                    clear HUP HGD hn HGM hv hk0
                    unfold Val.ltT at hc3
                    go_upto_region 10 with fail
                    rw [← hwb]
                    clear hwb
                    clear c0 c1 c2 c3 c4 c5 b0 b1 hp
                    have hS := fun d os => HSS.out _ (below_regrown wb d os)
                    have g0 := fun d os => (hS d os).1
                    have g1 := fun d os => (hS d os).2.1
                    have g2 := fun d os => (hS d os).2.2.1
                    have g3 := fun d os => (hS d os).2.2.2.1
                    have g4 := fun d os => (hS d os).2.2.2.2.1
                    have g5 := fun d os => (hS d os).2.2.2.2.2.1
                    have g6 := fun d os => (hS d os).2.2.2.2.2.2.1
                    have g7 := fun d os => (hS d os).2.2.2.2.2.2.2
                    clear hS
                    refine wp_region_quiet_below (by kernel_rfl) (by kernel_rfl) ?_
                    repeat (go_big_quiet_step ((first
                        | (go_at_call 88; with_reducible exact Calls.regrown_of (HIS.out _))
                        | (go_at_call 85; with_reducible exact Calls.regrown_of (HNM.out _)))))
                    refine wpQuiet_nil ?_
                    intro _ hw'
                    obtain ⟨⟨dq, osq⟩, hw''⟩ := hw'
                    subst hw''
                    have HB2 := Lib.hid (HWB.out.trans ((below_regrown wb dq osq).mono HWB.out.size))
                    clear g0 g1 g2 g3 g4 g5 g6 g7
                    go_wp2
                    exact ⟨⟨m + 2, by omega, by go_num, HB2.out, HU.out⟩, by simp [intOf]; omega⟩
        · have HE := Lib.hid (show nodeB ⟨ls, ps⟩ = (decide (ls.length ≤ 3) && decide (ps.length ≤ 3)) by rw [HD.out, HLA.out, ← show j = ps.length by omega, HP.out]; rfl)
          by_cases h3 : ls.length ≤ 3
          · by_cases h4 : ps.length ≤ 3
            · have HT := Lib.hid (show nodeB ⟨ls, ps⟩ = true by rw [HE.out, decide_eq_true h3, decide_eq_true h4]; rfl)
              go_wp2
              go_ret
              exact ⟨ret_b (by rw [HT.out]; first | rfl | exact decide_eq_true (by omega)), HB0.out.trans (HX.out.mono HB0.out.size)⟩
            · have HT := Lib.hid (show nodeB ⟨ls, ps⟩ = false by rw [HE.out, decide_eq_true h3, decide_eq_false h4]; rfl)
              go_wp2
              go_ret
              exact ⟨ret_b (by rw [HT.out]; first | rfl | exact decide_eq_false (by omega)), HB0.out.trans (HX.out.mono HB0.out.size)⟩
          · have HT := Lib.hid (show nodeB ⟨ls, ps⟩ = false by rw [HE.out, decide_eq_false h3]; rfl)
            go_wp2
            go_ret
            exact ⟨ret_b HT.out.symm, HB0.out.trans (HX.out.mono HB0.out.size)⟩
end Go.Proofs.Ytdhpphbgobakhaa
