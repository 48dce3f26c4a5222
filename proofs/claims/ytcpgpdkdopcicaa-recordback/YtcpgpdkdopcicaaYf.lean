/- The reference's Same of chapter 10 at equal nodes. Conditions: words of float64 are below 2^64; the rows lie in memory, fewer than 1,000,000 long. -/
import Derived.Test.YtcpgpdkdopcicaaYe
namespace Go.Proofs.Ytcpgpdkdopcicaa
set_option maxRecDepth 100000
set_option linter.unusedVariables false
open Go.ChangeShapes Go.WideShapes Go.ChangeAt Go.RowKit
open Fl (S cmpK keyN)
open Val (V cmpV isB ltT)
set_option maxHeartbeats 4000000 in
theorem rsame_any (n : Nd) (s s2 : Ns) (w : World) (h : NdAt w n s) (h2 : NdAt w n s2) (ho : NdOk n) (hf : ∀ x, x ∈ n.ps → x.v.f < 2 * S) : Calls Try.prog 44 #[ndv n s, ndv n s2] w fun r w' => r = .returned (.bool true) ∧ Below w.heap.size w w' := by
  obtain ⟨ls, ps⟩ := n
  obtain ⟨A, lc, B, pc⟩ := s
  obtain ⟨C, lc2, D, pc2⟩ := s2
  have hl1 := ho.l1
  have hl2 := ho.l2
  simp only at hl1 hl2
  obtain ⟨V, hV⟩ : ∃ V, V = (w.alloc (.cells #[.slice A ls.length lc, .slice B ps.length pc] 42)).alloc (.cells #[.slice C ls.length lc2, .slice D ps.length pc2] 42) := ⟨_, rfl⟩
  have hal : Below w.heap.size w V := by rw [hV]; exact two_boxes w _ _
  have q1 : V.heap[w.heap.size]? = some (.cells #[.slice A ls.length lc, .slice B ps.length pc] 42 (0, 0)) := by
    rw [hV]
    have g1 := heap_alloc_new w (.cells #[.slice A ls.length lc, .slice B ps.length pc] 42)
    exact ((one_box _ (.cells #[.slice C ls.length lc2, .slice D ps.length pc2] 42)).block _ (block_of g1)).trans g1
  have q2 : V.heap[w.heap.size + 1]? = some (.cells #[.slice C ls.length lc2, .slice D ps.length pc2] 42 (0, 0)) := by
    rw [hV]
    have g1 := heap_alloc_new (w.alloc (.cells #[.slice A ls.length lc, .slice B ps.length pc] 42)) (.cells #[.slice C ls.length lc2, .slice D ps.length pc2] 42)
    rw [show (w.alloc (.cells #[.slice A ls.length lc, .slice B ps.length pc] 42)).heap.size = w.heap.size + 1 by simp] at g1
    exact g1
  have HB0 := Lib.hid hal
  have HN := Lib.hid (h.below hal)
  have HN2 := Lib.hid (h2.below hal)
  have HF := Lib.hid hf
  have HBX := Lib.hid (fun W (hW : Below V.heap.size V W) => show W.cell? ⟨w.heap.size, 0, none⟩ = some (.slice A ls.length lc) ∧ W.cell? ⟨w.heap.size, 1, none⟩ = some (.slice B ps.length pc) ∧ W.cell? ⟨w.heap.size + 1, 0, none⟩ = some (.slice C ls.length lc2) ∧ W.cell? ⟨w.heap.size + 1, 1, none⟩ = some (.slice D ps.length pc2) from by
    have e1 := (hW.block _ (block_of q1)).trans q1
    have e2 := (hW.block _ (block_of q2)).trans q2
    refine ⟨?_, ?_, ?_, ?_⟩ <;> first | (rw [cell_of_row W _ _ _ _ _ e1]; rfl) | (rw [cell_of_row W _ _ _ _ _ e2]; rfl))
  obtain ⟨b0, b1, b2, b3⟩ := HBX.out V (Below.refl _ _)
  clear h h2 ho hf hal q1 q2
  go_enter Try.func44, Try.ntmps44
  go_upto_region 1 with fail
  rw [← hV]
  clear hV
  go_wp2
  clear b0 b1 b2 b3
  go_loopw [5] (fun i wr => ∃ k : Nat, k ≤ ls.length ∧ i = .int .i64 (k : Nat) ∧ Hid (Below V.heap.size V wr)) (fun i _ => ls.length - (intOf i).toNat)
  case atStart => exact ⟨0, Nat.zero_le _, rfl, Below.refl _ _⟩
  case round =>
    obtain ⟨k, hk, rfl, HB⟩ := hrel
    obtain ⟨b0, b1, b2, b3⟩ := HBX.out _ HB.out
    by_cases hlt : k < ls.length
    · obtain ⟨ad, e1, hc⟩ := (HN.out.r1.below HB.out) k hlt
      obtain ⟨ad2, e2, hc2⟩ := (HN2.out.r1.below HB.out) k hlt
      simp only at e1 e2
      subst e1
      subst e2
      have hc : wr.cell? (ad.add k) = some (.string ls[k]) := hc
      have hc2 : wr.cell? (ad2.add k) = some (.string ls[k]) := hc2
      have hi5 : IntKind.i64.wrap (k : Int) = (k : Int) := wrap_small (show k ≤ 9223372036854775807 by omega)
      have hi0 : (0 : Int) ≤ (k : Int) := by omega
      generalize ls[k] = x at *
      go_upto_region 6 with fail
      go_quiet (fail)
      clear hi5
      go_wp2
      exact ⟨⟨k + 1, by omega, by go_num, below_drewN HB.out _⟩, by simp [intOf]; omega⟩
    · have hkl : ¬ k < ls.length := hlt
      go_wp2
      clear hkl hlt b0 b1 b2 b3
      go_loopw [6] (fun i wx => ∃ j : Nat, j ≤ ps.length ∧ i = .int .i64 (j : Nat) ∧ Hid (Below V.heap.size V wx)) (fun i _ => ps.length - (intOf i).toNat)
      case atStart => exact ⟨0, Nat.zero_le _, rfl, HB.out⟩
      case round =>
        obtain ⟨j, hj, rfl, HX⟩ := hrel
        obtain ⟨b0, b1, b2, b3⟩ := HBX.out _ HX.out
        by_cases hlt : j < ps.length
        · obtain ⟨ad, pk, e1, hp, he⟩ := (HN.out.r2.below HX.out) j hlt
          obtain ⟨ad2, qk, e2, hq, he2⟩ := (HN2.out.r2.below HX.out) j hlt
          simp only at e1 e2
          subst e1
          subst e2
          have he : PAt wr pk ps[j] := he
          have he2 : PAt wr qk ps[j] := he2
          have hfj := HF.out _ (List.getElem_mem hlt)
          have hi5 : IntKind.i64.wrap (j : Int) = (j : Int) := wrap_small (show j ≤ 9223372036854775807 by omega)
          have hi0 : (0 : Int) ≤ (j : Int) := by omega
          generalize ps[j] = x at *
          have HSV := Lib.hid (fun W => rsameval_any x.v hfj W)
          have HSS := Lib.hid (fun W (hg : Below wr.heap.size wr W) => And.intro (he.below hg) (And.intro (he2.below hg) (HBX.out W (HX.out.trans (hg.mono HX.out.size)))))
          obtain ⟨xk, vk, vb, vn, vf, vt⟩ := x
          clear he he2 hfj
          go_upto_region 11 with fail
          have g0 := fun d os => (HSS.out _ (below_regrown wr d os)).1.c0
          have g1 := fun d os => (HSS.out _ (below_regrown wr d os)).1.c1
          have g2 := fun d os => (HSS.out _ (below_regrown wr d os)).1.c2
          have g3 := fun d os => (HSS.out _ (below_regrown wr d os)).1.c3
          have g4 := fun d os => (HSS.out _ (below_regrown wr d os)).1.c4
          have g5 := fun d os => (HSS.out _ (below_regrown wr d os)).1.c5
          have k0 := fun d os => (HSS.out _ (below_regrown wr d os)).2.1.c0
          have k1 := fun d os => (HSS.out _ (below_regrown wr d os)).2.1.c1
          have k2 := fun d os => (HSS.out _ (below_regrown wr d os)).2.1.c2
          have k3 := fun d os => (HSS.out _ (below_regrown wr d os)).2.1.c3
          have k4 := fun d os => (HSS.out _ (below_regrown wr d os)).2.1.c4
          have k5 := fun d os => (HSS.out _ (below_regrown wr d os)).2.1.c5
          have m1 := fun d os => (HSS.out _ (below_regrown wr d os)).2.2.2.1
          have m3 := fun d os => (HSS.out _ (below_regrown wr d os)).2.2.2.2.2
          simp only at g0 g1 g2 g3 g4 g5 k0 k1 k2 k3 k4 k5
          clear b0 b1 b2 b3
          refine wp_region_quiet_below (by kernel_rfl) (by kernel_rfl) ?_
          repeat (go_big_quiet_step ((go_at_call 75; with_reducible exact Calls.regrown_of (HSV.out _))))
          refine wpQuiet_nil ?_
          intro _ hw'
          obtain ⟨⟨dq, osq⟩, hw''⟩ := hw'
          subst hw''
          have HB2 := Lib.hid (HX.out.trans ((below_regrown wr dq osq).mono HX.out.size))
          clear g0 g1 g2 g3 g4 g5 k0 k1 k2 k3 k4 k5 m1 m3 hi5
          go_wp2
          exact ⟨⟨j + 1, by omega, by go_num, HB2.out⟩, by simp [intOf]; omega⟩
        · have hjl : ¬ j < ps.length := hlt
          go_wp2
          go_ret
          exact ⟨rfl, HB0.out.trans (HX.out.mono HB0.out.size)⟩
end Go.Proofs.Ytcpgpdkdopcicaa
