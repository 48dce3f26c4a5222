/- Texts of this claim, one behind the other: Yw Yf Ys Zp Zr Yx Lg Wa Wb Wc Wd We Yj Yk Wf Wg Yo. -/
import Derived.Test.YtdhpphbgobakhaaYi
import Derived.Test.YtdhpphbgobakhaaYe
import Derived.Test.YtdhpphbgobakhaaZy
import Derived.Test.YtdhpphbgobakhaaZq
import Derived.Test.YtdhpphbgobakhaaZz
import Derived.Test.YtdhpphbgobakhaaZj
import Derived.Test.YtdhpphbgobakhaaLf
import Derived.Test.YtdhpphbgobakhaaZv
import Derived.Test.YtdhpphbgobakhaaZx
import Derived.Test.YtdhpphbgobakhaaZi
import Derived.Test.YtdhpphbgobakhaaLr
import Derived.Test.YtdhpphbgobakhaaZk
import Derived.Test.YtdhpphbgobakhaaLq
import Derived.Test.YtdhpphbgobakhaaLo
import Derived.Test.YtdhpphbgobakhaaZm
import Derived.Test.YtdhpphbgobakhaaMo
import Derived.SizedLaws
import Derived.ChangeSame
import Derived.SliceStrings
import Derived.Deep.Slices
import Derived.Deep.Grids
/- wide of chapter 10's laws: it returns; writes that are not wide are few and short. Conditions: the row lies in memory; lengths are of what a machine holds. -/
namespace Go.Proofs.Ytdhpphbgobakhaa
set_option maxRecDepth 100000
set_option linter.unusedVariables false
open Go.ChangeShapes Go.WideShapes Go.ChangeAt Go.RowKit
open Fl (S cmpK keyN)
open Val (V cmpV isB ltT)
/-- Of lengths that a machine holds (m = 2^47), or that are looked at (m = 5000). -/
structure WSz (m : Nat) (x : Wr) : Prop where
  t : x.g.t.size ≤ m
  l : x.n.ls.length ≤ m
  p : x.n.ps.length ≤ m
  s : ∀ y, y ∈ x.n.ls → y.size ≤ m
  k : ∀ y, y ∈ x.n.ps → y.k.size ≤ m ∧ y.v.t.size ≤ m
/-- The writes before k are few and short, where n < 5000. -/
def WideTo (L : List (Wr × Ns)) (n k : Nat) : Prop := n < 5000 → k ≤ n ∧ ∀ j (h : j < L.length), j < k → WSz 5000 L[j].1
def WideL (L : List (Wr × Ns)) (n k j : Nat) (y : Wr) : Prop := n < 5000 → k + 1 ≤ n ∧ (∀ j (h : j < L.length), j < k → WSz 5000 L[j].1) ∧ y.g.t.size ≤ 5000 ∧ y.n.ls.length ≤ 5000 ∧ y.n.ps.length ≤ 5000 ∧ ∀ i (h : i < y.n.ls.length), i < j → y.n.ls[i].size ≤ 5000
def WideP (L : List (Wr × Ns)) (n k j : Nat) (y : Wr) : Prop := n < 5000 → k + 1 ≤ n ∧ (∀ j (h : j < L.length), j < k → WSz 5000 L[j].1) ∧ y.g.t.size ≤ 5000 ∧ y.n.ls.length ≤ 5000 ∧ y.n.ps.length ≤ 5000 ∧ (∀ s, s ∈ y.n.ls → s.size ≤ 5000) ∧ ∀ i (h : i < y.n.ps.length), i < j → y.n.ps[i].k.size ≤ 5000 ∧ y.n.ps[i].v.t.size ≤ 5000
theorem WideTo.end {L : List (Wr × Ns)} {n k : Nat} (h : WideTo L n k) (hk : k = L.length) (hn : n < 5000) : L.length ≤ 5000 ∧ ∀ x ∈ L, WSz 5000 x.1 := by
  obtain ⟨h1, h2⟩ := h hn
  refine ⟨by omega, fun x hx => ?_⟩
  obtain ⟨j, hj, rfl⟩ := List.getElem_of_mem hx
  exact h2 j hj (by omega)
theorem WideL.zero {L : List (Wr × Ns)} {n k : Nat} {y : Wr} (h : WideTo L n k) : WideL L (n + 1 + y.g.t.size + y.n.ls.length + y.n.ps.length) k 0 y := fun hn => by
  obtain ⟨h1, h2⟩ := h (by omega)
  exact ⟨by omega, h2, by omega, by omega, by omega, fun i _ hi => by omega⟩
theorem WideL.succ {L : List (Wr × Ns)} {n k j : Nat} {y : Wr} (h : WideL L n k j y) (hj : j < y.n.ls.length) : WideL L (n + y.n.ls[j].size) k (j + 1) y := fun hn => by
  obtain ⟨h1, h2, h3, h4, h5, h6⟩ := h (by omega)
  refine ⟨by omega, h2, h3, h4, h5, fun i hi hij => ?_⟩
  by_cases e : i = j
  · subst e; omega
  · exact h6 i hi (by omega)
theorem WideL.over {L : List (Wr × Ns)} {n k j : Nat} {y : Wr} (h : WideL L n k j y) (hj : ¬ (j < y.n.ls.length ∧ n < 5000)) : WideP L n k 0 y := fun hn => by
  obtain ⟨h1, h2, h3, h4, h5, h6⟩ := h hn
  refine ⟨h1, h2, h3, h4, h5, fun s hs => ?_, fun i _ hi => by omega⟩
  obtain ⟨i, hi, rfl⟩ := List.getElem_of_mem hs
  exact h6 i hi (by omega)
theorem WideP.succ {L : List (Wr × Ns)} {n k j : Nat} {y : Wr} (h : WideP L n k j y) (hj : j < y.n.ps.length) : WideP L (n + y.n.ps[j].k.size + y.n.ps[j].v.t.size) k (j + 1) y := fun hn => by
  obtain ⟨h1, h2, h3, h4, h5, h6, h7⟩ := h (by omega)
  refine ⟨by omega, h2, h3, h4, h5, h6, fun i hi hij => ?_⟩
  by_cases e : i = j
  · subst e; omega
  · exact h7 i hi (by omega)
theorem WideP.over {L : List (Wr × Ns)} {n k j : Nat} (hk : k < L.length) (h : WideP L n k j L[k].1) (hj : ¬ (j < L[k].1.n.ps.length ∧ n < 5000)) : WideTo L n (k + 1) := fun hn => by
  obtain ⟨h1, h2, h3, h4, h5, h6, h7⟩ := h hn
  refine ⟨h1, fun i hi hij => ?_⟩
  by_cases e : i = k
  · subst e
    refine ⟨h3, h4, h5, h6, fun y hy => ?_⟩
    obtain ⟨q, hq, rfl⟩ := List.getElem_of_mem hy
    exact h7 q hq (by omega)
  · exact h2 i hi (by omega)
set_option maxHeartbeats 8000000 in
theorem wide10_any (A : Option Addr) (c : Nat) (L : List (Wr × Ns)) (w : World) (h : WRow w A L) (hz : ∀ x, x ∈ L → WSz 140737488351232 x.1) (hl : L.length ≤ 140737488351232) : Calls Try.prog 4 #[.slice A L.length c] w fun r w' => (∃ b, r = .returned (.bool b) ∧ (b = false → L.length ≤ 5000 ∧ ∀ x, x ∈ L → WSz 5000 x.1)) ∧ Below w.heap.size w w' := by
  have HR := Lib.hid h
  have HZ := Lib.hid hz
  clear h hz
  go_enter Try.func4, Try.ntmps4
  go_wp2
  go_loopw [3, 4] (fun u i wr => ∃ n k : Nat, k ≤ L.length ∧ n ≤ 2251799813685248 ∧ u = .int .i64 (n : Nat) ∧ i = .int .i64 (k : Nat) ∧ Hid (Below w.heap.size w wr) ∧ Hid (WideTo L n k)) (fun _ i _ => L.length - (intOf i).toNat)
  case atStart => exact ⟨0, 0, Nat.zero_le _, Nat.zero_le _, rfl, rfl, Below.refl _ _, fun _ => ⟨Nat.le_refl _, fun j _ hj => absurd hj (Nat.not_lt_zero _)⟩⟩
  case round =>
    obtain ⟨n, k, hk, hn, rfl, rfl, HB, HW⟩ := hrel
    by_cases hlt : k < L.length
    · by_cases hn5 : n < 5000
      · obtain ⟨ad, pk, e1, hp, hx, hnd⟩ := (HR.out.below HB.out) k hlt
        subst e1
        have hzk := HZ.out _ (List.getElem_mem hlt)
        have hi5 : IntKind.i64.wrap (k : Int) = (k : Int) := wrap_small (show k ≤ 9223372036854775807 by omega)
        have hi0 : (0 : Int) ≤ (k : Int) := by omega
        have HL0 := Lib.hid (WideL.zero (y := L[k].1) HW.out)
        have HKA := Lib.hid (And.intro hx hnd)
        have HOV := Lib.hid (fun n j => WideP.over (n := n) (j := j) hlt)
        generalize hy : L[k] = y at *
        obtain ⟨⟨ye, yid, yg, ⟨yls, yps⟩, ⟨ya, yb, yt, yw⟩⟩, ⟨yA, yc, yB, yc2⟩⟩ := y
        obtain ⟨zt, zl, zp, zs, zk⟩ := hzk
        simp only at zt zl zp zs zk HL0 HOV HKA
        have HZS := Lib.hid zs
        have HZK := Lib.hid zk
        clear zs zk hnd hy
        obtain ⟨c0, c1, c2, c3, c4, c5, c6, c7, c8⟩ := hx
        simp only at c0 c1 c2 c3 c4 c5 c6 c7 c8
        go_upto_region 5 with fail
        go_quiet (fail)
        clear hi5 c0 c1 c2 c3 c4 c5 c6 c7 c8
        go_wp2
        go_loopw [3, 5] (fun u i wx => ∃ n j : Nat, j ≤ yls.length ∧ n ≤ 1125899906842624 ∧ u = .int .i64 (n : Nat) ∧ i = .int .i64 (j : Nat) ∧ Hid (Below w.heap.size w wx) ∧ Hid (Below wr.heap.size wr wx) ∧ Hid (WideL L n k j ⟨ye, yid, yg, ⟨yls, yps⟩, ⟨ya, yb, yt, yw⟩⟩)) (fun _ i _ => yls.length - (intOf i).toNat)
        case atStart => exact ⟨n + 1 + yt.size + yls.length + yps.length, 0, Nat.zero_le _, by omega, by go_num, rfl, below_drewN HB.out _, below_drewN (Below.refl _ _) _, HL0.out⟩
        case round =>
          obtain ⟨n2, j, hj, hn2, rfl, rfl, HX, HXR, HWL⟩ := hrel
          have HK2 := Lib.hid (And.intro (HKA.out.1.below HXR.out) (HKA.out.2.below HXR.out))
          have hc3 := HK2.out.1.c3
          simp only at hc3
          by_cases hjl : j < yls.length
          · skip
            by_cases hn25 : n2 < 5000
            · obtain ⟨ad3, e3, hc⟩ := HK2.out.2.r1 j hjl
              simp only at e3
              subst e3
              have hc : _ = some (Value.string yls[j]) := hc
              have hsz := HZS.out _ (List.getElem_mem hjl)
              have HL1 := Lib.hid (HWL.out.succ hjl)
              simp only at HL1
              have hi5 : IntKind.i64.wrap (k : Int) = (k : Int) := wrap_small (show k ≤ 9223372036854775807 by omega)
              have hj5 : IntKind.i64.wrap (j : Int) = (j : Int) := wrap_small (show j ≤ 9223372036854775807 by omega)
              have hj0 : (0 : Int) ≤ (j : Int) := by omega
              generalize yls[j] = q at *
              go_wp2
              exact ⟨⟨n2 + q.size, j + 1, by omega, by omega, by go_num, by go_num, HX.out, HXR.out, HL1.out⟩, by simp [intOf]; omega⟩
            · have hend : ¬ n2 < 5000 := hn25
              have HP0 := Lib.hid (HWL.out.over (fun hh => hend hh.2))
              go_wp2
              clear hc3
              go_loopw [3, 6] (fun u i wy => ∃ n j : Nat, j ≤ yps.length ∧ n ≤ 1688849860263936 ∧ u = .int .i64 (n : Nat) ∧ i = .int .i64 (j : Nat) ∧ Hid (Below w.heap.size w wy) ∧ Hid (Below wr.heap.size wr wy) ∧ Hid (WideP L n k j ⟨ye, yid, yg, ⟨yls, yps⟩, ⟨ya, yb, yt, yw⟩⟩)) (fun _ i _ => yps.length - (intOf i).toNat)
              case atStart => exact ⟨n2, 0, Nat.zero_le _, by omega, rfl, rfl, HX.out, Below.refl _ _, HP0.out⟩
              case round =>
                obtain ⟨n3, m, hm, hn3, rfl, rfl, HY, HYR, HWP⟩ := hrel
                have HK3 := Lib.hid (And.intro (HK2.out.1.below HYR.out) (HK2.out.2.below HYR.out))
                have hc4 := HK3.out.1.c4
                simp only at hc4
                by_cases hml : m < yps.length
                · by_cases hn35 : n3 < 5000
                  · obtain ⟨ad4, qk, e4, hq, hpa⟩ := HK3.out.2.r2 m hml
                    simp only at e4
                    subst e4
                    have hsz := HZK.out _ (List.getElem_mem hml)
                    have HL2 := Lib.hid (HWP.out.succ hml)
                    simp only at HL2
                    obtain ⟨p0, p1, p2, p3, p4, p5⟩ := hpa
                    have p0 : _ = some (Value.string yps[m].k) := p0
                    have p5 : _ = some (Value.string yps[m].v.t) := p5
                    clear p1 p2 p3 p4
                    obtain ⟨z1, z2⟩ := hsz
                    generalize yps[m].k = q at *
                    generalize yps[m].v.t = q2 at *
                    have hi5 : IntKind.i64.wrap (k : Int) = (k : Int) := wrap_small (show k ≤ 9223372036854775807 by omega)
                    have hj5 : IntKind.i64.wrap (m : Int) = (m : Int) := wrap_small (show m ≤ 9223372036854775807 by omega)
                    have hj0 : (0 : Int) ≤ (m : Int) := by omega
                    go_upto_region 13 with fail
                    go_quiet (fail)
                    clear hi5 hj5 hc4 p0 p5
                    go_wp2
                    exact ⟨⟨n3 + q.size + q2.size, m + 1, by omega, by omega, by go_num, by go_num, below_drewN HY.out _, below_drewN HYR.out _, HL2.out⟩, by simp [intOf]; omega⟩
                  · have hend : ¬ n3 < 5000 := hn35
                    have HT := Lib.hid (HOV.out _ _ HWP.out (fun hh => hend hh.2))
                    go_wp2
                    exact ⟨⟨n3, k + 1, by omega, by omega, rfl, by go_num, HY.out, HT.out⟩, by simp [intOf]; omega⟩
                · have hend : ¬ m < yps.length := hml
                  have HT := Lib.hid (HOV.out _ _ HWP.out (fun hh => hend hh.1))
                  go_wp2
                  exact ⟨⟨n3, k + 1, by omega, by omega, rfl, by go_num, HY.out, HT.out⟩, by simp [intOf]; omega⟩
          · have hend : ¬ j < yls.length := hjl
            have HP0 := Lib.hid (HWL.out.over (fun hh => hend hh.1))
            go_wp2
            clear hc3
            go_loopw [3, 6] (fun u i wy => ∃ n j : Nat, j ≤ yps.length ∧ n ≤ 1688849860263936 ∧ u = .int .i64 (n : Nat) ∧ i = .int .i64 (j : Nat) ∧ Hid (Below w.heap.size w wy) ∧ Hid (Below wr.heap.size wr wy) ∧ Hid (WideP L n k j ⟨ye, yid, yg, ⟨yls, yps⟩, ⟨ya, yb, yt, yw⟩⟩)) (fun _ i _ => yps.length - (intOf i).toNat)
            case atStart => exact ⟨n2, 0, Nat.zero_le _, by omega, rfl, rfl, HX.out, Below.refl _ _, HP0.out⟩
            case round =>
              obtain ⟨n3, m, hm, hn3, rfl, rfl, HY, HYR, HWP⟩ := hrel
              have HK3 := Lib.hid (And.intro (HK2.out.1.below HYR.out) (HK2.out.2.below HYR.out))
              have hc4 := HK3.out.1.c4
              simp only at hc4
              by_cases hml : m < yps.length
              · by_cases hn35 : n3 < 5000
                · obtain ⟨ad4, qk, e4, hq, hpa⟩ := HK3.out.2.r2 m hml
                  simp only at e4
                  subst e4
                  have hsz := HZK.out _ (List.getElem_mem hml)
                  have HL2 := Lib.hid (HWP.out.succ hml)
                  simp only at HL2
                  obtain ⟨p0, p1, p2, p3, p4, p5⟩ := hpa
                  have p0 : _ = some (Value.string yps[m].k) := p0
                  have p5 : _ = some (Value.string yps[m].v.t) := p5
                  clear p1 p2 p3 p4
                  obtain ⟨z1, z2⟩ := hsz
                  generalize yps[m].k = q at *
                  generalize yps[m].v.t = q2 at *
                  have hi5 : IntKind.i64.wrap (k : Int) = (k : Int) := wrap_small (show k ≤ 9223372036854775807 by omega)
                  have hj5 : IntKind.i64.wrap (m : Int) = (m : Int) := wrap_small (show m ≤ 9223372036854775807 by omega)
                  have hj0 : (0 : Int) ≤ (m : Int) := by omega
                  go_upto_region 13 with fail
                  go_quiet (fail)
                  clear hi5 hj5 hc4 p0 p5
                  go_wp2
                  exact ⟨⟨n3 + q.size + q2.size, m + 1, by omega, by omega, by go_num, by go_num, below_drewN HY.out _, below_drewN HYR.out _, HL2.out⟩, by simp [intOf]; omega⟩
                · have hend : ¬ n3 < 5000 := hn35
                  have HT := Lib.hid (HOV.out _ _ HWP.out (fun hh => hend hh.2))
                  go_wp2
                  exact ⟨⟨n3, k + 1, by omega, by omega, rfl, by go_num, HY.out, HT.out⟩, by simp [intOf]; omega⟩
              · have hend : ¬ m < yps.length := hml
                have HT := Lib.hid (HOV.out _ _ HWP.out (fun hh => hend hh.1))
                go_wp2
                exact ⟨⟨n3, k + 1, by omega, by omega, rfl, by go_num, HY.out, HT.out⟩, by simp [intOf]; omega⟩
      · have hend : ¬ n < 5000 := hn5
        go_wp2
        go_ret
        exact ⟨⟨_, rfl, fun hb => absurd hb (by simp)⟩, HB.out⟩
    · have hend : ¬ k < L.length := hlt
      have HE := Lib.hid (HW.out.end (show k = L.length by omega))
      go_wp2
      go_ret
      exact ⟨⟨_, rfl, fun hb => HE.out (by have := hb; simp at this; omega)⟩, HB.out⟩
end Go.Proofs.Ytdhpphbgobakhaa
/- The reference's Same of chapter 10 at equal nodes. Conditions: words of float64 are below 2^64; the rows lie in memory, fewer than 1,000,000 long. -/
namespace Go.Proofs.Ytdhpphbgobakhaa
set_option maxRecDepth 100000
set_option linter.unusedVariables false
open Go.ChangeShapes Go.WideShapes Go.ChangeAt Go.RowKit
open Fl (S cmpK keyN)
open Val (V cmpV isB ltT)
set_option maxHeartbeats 4000000 in
theorem rsame_any (n : Nd) (s s2 : Ns) (w : World) (h : NdAt w n s) (h2 : NdAt w n s2) (ho : NdOk n) (hf : ∀ x, x ∈ n.ps → x.v.f < 2 * S) : Calls Try.prog 31 #[ndv n s, ndv n s2] w fun r w' => r = .returned (.bool true) ∧ Below w.heap.size w w' := by
  obtain ⟨ls, ps⟩ := n
  obtain ⟨A, lc, B, pc⟩ := s
  obtain ⟨C, lc2, D, pc2⟩ := s2
  have hl1 := ho.l1
  have hl2 := ho.l2
  simp only at hl1 hl2
  obtain ⟨V, hV⟩ : ∃ V, V = (w.alloc (.cells #[.slice A ls.length lc, .slice B ps.length pc] 43)).alloc (.cells #[.slice C ls.length lc2, .slice D ps.length pc2] 43) := ⟨_, rfl⟩
  have hal : Below w.heap.size w V := by rw [hV]; exact two_boxes w _ _
  have q1 : V.heap[w.heap.size]? = some (.cells #[.slice A ls.length lc, .slice B ps.length pc] 43 (0, 0)) := by
    rw [hV]
    have g1 := heap_alloc_new w (.cells #[.slice A ls.length lc, .slice B ps.length pc] 43)
    exact ((one_box _ (.cells #[.slice C ls.length lc2, .slice D ps.length pc2] 43)).block _ (block_of g1)).trans g1
  have q2 : V.heap[w.heap.size + 1]? = some (.cells #[.slice C ls.length lc2, .slice D ps.length pc2] 43 (0, 0)) := by
    rw [hV]
    have g1 := heap_alloc_new (w.alloc (.cells #[.slice A ls.length lc, .slice B ps.length pc] 43)) (.cells #[.slice C ls.length lc2, .slice D ps.length pc2] 43)
    rw [show (w.alloc (.cells #[.slice A ls.length lc, .slice B ps.length pc] 43)).heap.size = w.heap.size + 1 by simp] at g1
    exact g1
  have HB0 := Lib.hid hal
  have HN := Lib.hid (h.below hal)
  have HN2 := Lib.hid (h2.below hal)
  have HF := Lib.hid hf
  have HBX := Lib.hid (fun W (hW : Below V.heap.size V W) => show W.cell? ⟨w.heap.size, 0, none⟩ = some (.slice A ls.length lc) ∧ W.cell? ⟨w.heap.size, 1, none⟩ = some (.slice B ps.length pc) ∧ W.cell? ⟨w.heap.size + 1, 0, none⟩ = some (.slice C ls.length lc2) ∧ W.cell? ⟨w.heap.size + 1, 1, none⟩ = some (.slice D ps.length pc2) from by
    have e1 := (hW.block _ (block_of q1)).trans q1
    have e2 := (hW.block _ (block_of q2)).trans q2
    refine ⟨?_, ?_, ?_, ?_⟩ <;> first | (rw [cell_of_row W _ _ _ _ _ e1]; rfl) | (rw [cell_of_row W _ _ _ _ _ e2]; rfl))
  obtain ⟨b0, b1, b2, b3⟩ := HBX.out V (Below.refl _ _)
  clear h h2 ho hf hal q1 q2
  go_enter Try.func31, Try.ntmps31
  go_upto_region 1 with fail
  rw [← hV]
  clear hV
  go_wp2
  clear b0 b1 b2 b3
  go_loopw [5] (fun i wr => ∃ k : Nat, k ≤ ls.length ∧ i = .int .i64 (k : Nat) ∧ Hid (Below V.heap.size V wr)) (fun i _ => ls.length - (intOf i).toNat)
  case atStart => exact ⟨0, Nat.zero_le _, rfl, Below.refl _ _⟩
  case round =>
    obtain ⟨k, hk, rfl, HB⟩ := hrel
    obtain ⟨b0, b1, b2, b3⟩ := HBX.out _ HB.out
    by_cases hlt : k < ls.length
    · obtain ⟨ad, e1, hc⟩ := (HN.out.r1.below HB.out) k hlt
      obtain ⟨ad2, e2, hc2⟩ := (HN2.out.r1.below HB.out) k hlt
      simp only at e1 e2
      subst e1
      subst e2
      have hc : wr.cell? (ad.add k) = some (.string ls[k]) := hc
      have hc2 : wr.cell? (ad2.add k) = some (.string ls[k]) := hc2
      have hi5 : IntKind.i64.wrap (k : Int) = (k : Int) := wrap_small (show k ≤ 9223372036854775807 by omega)
      have hi0 : (0 : Int) ≤ (k : Int) := by omega
      generalize ls[k] = x at *
      go_upto_region 6 with fail
      go_quiet (fail)
      clear hi5
      go_wp2
      exact ⟨⟨k + 1, by omega, by go_num, below_drewN HB.out _⟩, by simp [intOf]; omega⟩
    · have hkl : ¬ k < ls.length := hlt
      go_wp2
      clear hkl hlt b0 b1 b2 b3
      go_loopw [6] (fun i wx => ∃ j : Nat, j ≤ ps.length ∧ i = .int .i64 (j : Nat) ∧ Hid (Below V.heap.size V wx)) (fun i _ => ps.length - (intOf i).toNat)
      case atStart => exact ⟨0, Nat.zero_le _, rfl, HB.out⟩
      case round =>
        obtain ⟨j, hj, rfl, HX⟩ := hrel
        obtain ⟨b0, b1, b2, b3⟩ := HBX.out _ HX.out
        by_cases hlt : j < ps.length
        · obtain ⟨ad, pk, e1, hp, he⟩ := (HN.out.r2.below HX.out) j hlt
          obtain ⟨ad2, qk, e2, hq, he2⟩ := (HN2.out.r2.below HX.out) j hlt
          simp only at e1 e2
          subst e1
          subst e2
          have he : PAt wr pk ps[j] := he
          have he2 : PAt wr qk ps[j] := he2
          have hfj := HF.out _ (List.getElem_mem hlt)
          have hi5 : IntKind.i64.wrap (j : Int) = (j : Int) := wrap_small (show j ≤ 9223372036854775807 by omega)
          have hi0 : (0 : Int) ≤ (j : Int) := by omega
          generalize ps[j] = x at *
          have HSV := Lib.hid (fun W => rsameval_any x.v hfj W)
          have HSS := Lib.hid (fun W (hg : Below wr.heap.size wr W) => And.intro (he.below hg) (And.intro (he2.below hg) (HBX.out W (HX.out.trans (hg.mono HX.out.size)))))
          obtain ⟨xk, vk, vb, vn, vf, vt⟩ := x
          clear he he2 hfj
          go_upto_region 11 with fail
          have g0 := fun d os => (HSS.out _ (below_regrown wr d os)).1.c0
          have g1 := fun d os => (HSS.out _ (below_regrown wr d os)).1.c1
          have g2 := fun d os => (HSS.out _ (below_regrown wr d os)).1.c2
          have g3 := fun d os => (HSS.out _ (below_regrown wr d os)).1.c3
          have g4 := fun d os => (HSS.out _ (below_regrown wr d os)).1.c4
          have g5 := fun d os => (HSS.out _ (below_regrown wr d os)).1.c5
          have k0 := fun d os => (HSS.out _ (below_regrown wr d os)).2.1.c0
          have k1 := fun d os => (HSS.out _ (below_regrown wr d os)).2.1.c1
          have k2 := fun d os => (HSS.out _ (below_regrown wr d os)).2.1.c2
          have k3 := fun d os => (HSS.out _ (below_regrown wr d os)).2.1.c3
          have k4 := fun d os => (HSS.out _ (below_regrown wr d os)).2.1.c4
          have k5 := fun d os => (HSS.out _ (below_regrown wr d os)).2.1.c5
          have m1 := fun d os => (HSS.out _ (below_regrown wr d os)).2.2.2.1
          have m3 := fun d os => (HSS.out _ (below_regrown wr d os)).2.2.2.2.2
          simp only at g0 g1 g2 g3 g4 g5 k0 k1 k2 k3 k4 k5
          clear b0 b1 b2 b3
          refine wp_region_quiet_below (by kernel_rfl) (by kernel_rfl) ?_
          repeat (go_big_quiet_step ((go_at_call 56; with_reducible exact Calls.regrown_of (HSV.out _))))
          refine wpQuiet_nil ?_
          intro _ hw'
          obtain ⟨⟨dq, osq⟩, hw''⟩ := hw'
          subst hw''
          have HB2 := Lib.hid (HX.out.trans ((below_regrown wr dq osq).mono HX.out.size))
          clear g0 g1 g2 g3 g4 g5 k0 k1 k2 k3 k4 k5 m1 m3 hi5
          go_wp2
          exact ⟨⟨j + 1, by omega, by go_num, HB2.out⟩, by simp [intOf]; omega⟩
        · have hjl : ¬ j < ps.length := hlt
          go_wp2
          go_ret
          exact ⟨rfl, HB0.out.trans (HX.out.mono HB0.out.size)⟩
end Go.Proofs.Ytdhpphbgobakhaa
/- The reference's SameWrites of chapter 10 at equal rows of writes. Conditions: words of float64 are below 2^64; the rows lie in memory, fewer than 1,000,000 long. -/
namespace Go.Proofs.Ytdhpphbgobakhaa
set_option maxRecDepth 100000
set_option linter.unusedVariables false
open Go.ChangeShapes Go.WideShapes Go.ChangeAt Go.RowKit
open Fl (S cmpK keyN)
open Val (V cmpV isB ltT)
/-- A write whose numbers are words, and whose rows are of the size that is looked at. -/
structure WFine (x : Wr) : Prop where
  n : NdOk x.n
  f : ∀ y, y ∈ x.n.ps → y.v.f < 2 * S
  w : x.g.w < 2 * S
set_option maxHeartbeats 4000000 in
theorem rsamewrites_any (A C : Option Addr) (c c2 : Nat) (L L2 : List (Wr × Ns)) (w : World) (h : WRow w A L) (h2 : WRow w C L2) (he : L2.map (·.1) = L.map (·.1)) (ho : ∀ x, x ∈ L → WFine x.1) (hl : L.length ≤ 1000000) : Calls Try.prog 9 #[.slice A L.length c, .slice C L2.length c2] w fun r w' => r = .returned (.bool true) ∧ Below w.heap.size w w' := by
  have hll : L2.length = L.length := by have := congrArg List.length he; simpa using this
  have HX := Lib.hid (show ∀ k (hk : k < L.length) (hk2 : k < L2.length), L2[k].1 = L[k].1 from fun k hk hk2 => by
    have h1 : (L2.map (·.1))[k]'(by rw [List.length_map]; exact hk2) = (L.map (·.1))[k]'(by rw [List.length_map]; exact hk) := by simp only [he]
    simpa using h1)
  rw [hll]
  have H1 := Lib.hid h
  have H2 := Lib.hid h2
  have HO := Lib.hid ho
  have HLL := Lib.hid hll
  clear h h2 he ho hll
  go_enter Try.func9, Try.ntmps9
  go_wp2
  go_loopw [5] (fun i wr => ∃ k : Nat, k ≤ L.length ∧ i = .int .i64 (k : Nat) ∧ Hid (Below w.heap.size w wr)) (fun i _ => L.length - (intOf i).toNat)
  case atStart => exact ⟨0, Nat.zero_le _, rfl, Below.refl _ _⟩
  case round =>
    obtain ⟨k, hk, rfl, HB⟩ := hrel
    by_cases hlt : k < L.length
    · have hlt2 : k < L2.length := by rw [HLL.out]; exact hlt
      obtain ⟨ad, pk, e1, hp, hx, hn⟩ := (H1.out.below HB.out) k hlt
      obtain ⟨ad2, qk, e2, hq, hx2, hn2⟩ := (H2.out.below HB.out) k hlt2
      have hxe := HX.out k hlt hlt2
      have hok := HO.out _ (List.getElem_mem hlt)
      subst e1
      subst e2
      have hi5 : IntKind.i64.wrap (k : Int) = (k : Int) := wrap_small (show k ≤ 9223372036854775807 by omega)
      have hi0 : (0 : Int) ≤ (k : Int) := by omega
      generalize L[k] = y at *
      generalize L2[k] = z at *
      obtain ⟨x, s⟩ := y
      obtain ⟨x2, s2⟩ := z
      obtain rfl : x2 = x := hxe
      have HSE := Lib.hid (fun W => rsameedge_any x2.g hok.w W)
      have HSN : Hid (∀ d os, Calls Try.prog 31 #[ndv x2.n s, ndv x2.n s2] (Sort.grow (redrawn wr d) os) fun e w'' => e = .returned (.bool true) ∧ ∃ p : Regrown, w'' = Sort.grow (redrawn wr p.d) p.os) := fun d os => Calls.regrown_of (rsame_any x2.n s s2 _ (hn.below (below_regrown wr d os)) (hn2.below (below_regrown wr d os)) hok.n hok.f)
      have HSS := Lib.hid (fun W (hg : Below wr.heap.size wr W) => And.intro (hx.below hg) (hx2.below hg))
      clear hx hx2 hn hn2 hok HO HX
      obtain ⟨xe, xid, xg, ⟨xls, xps⟩, ⟨xa, xb, xt, xw⟩⟩ := x2
      obtain ⟨sA, sc, sB, sc2⟩ := s
      obtain ⟨tA, tc, tB, tc2⟩ := s2
      cases xe <;> cases xg
      all_goals
        go_upto_region 7 with fail
        have g0 := fun d os => (HSS.out _ (below_regrown wr d os)).1.c0
        have g1 := fun d os => (HSS.out _ (below_regrown wr d os)).1.c1
        have g2 := fun d os => (HSS.out _ (below_regrown wr d os)).1.c2
        have g3 := fun d os => (HSS.out _ (below_regrown wr d os)).1.c3
        have g4 := fun d os => (HSS.out _ (below_regrown wr d os)).1.c4
        have g5 := fun d os => (HSS.out _ (below_regrown wr d os)).1.c5
        have g6 := fun d os => (HSS.out _ (below_regrown wr d os)).1.c6
        have g7 := fun d os => (HSS.out _ (below_regrown wr d os)).1.c7
        have g8 := fun d os => (HSS.out _ (below_regrown wr d os)).1.c8
        have k0 := fun d os => (HSS.out _ (below_regrown wr d os)).2.c0
        have k1 := fun d os => (HSS.out _ (below_regrown wr d os)).2.c1
        have k2 := fun d os => (HSS.out _ (below_regrown wr d os)).2.c2
        have k3 := fun d os => (HSS.out _ (below_regrown wr d os)).2.c3
        have k4 := fun d os => (HSS.out _ (below_regrown wr d os)).2.c4
        have k5 := fun d os => (HSS.out _ (below_regrown wr d os)).2.c5
        have k6 := fun d os => (HSS.out _ (below_regrown wr d os)).2.c6
        have k7 := fun d os => (HSS.out _ (below_regrown wr d os)).2.c7
        have k8 := fun d os => (HSS.out _ (below_regrown wr d os)).2.c8
        simp only at g0 g1 g2 g3 g4 g5 g6 g7 g8 k0 k1 k2 k3 k4 k5 k6 k7 k8
        refine wp_region_quiet_below (by kernel_rfl) (by kernel_rfl) ?_
        repeat (go_big_quiet_step (first | (go_at_call 31; with_reducible exact HSN.out _ _) | (go_at_call 32; with_reducible exact Calls.regrown_of (HSE.out _))))
        refine wpQuiet_nil ?_
        intro _ hw'
        obtain ⟨⟨dq, osq⟩, hw''⟩ := hw'
        subst hw''
        have HB2 := Lib.hid (HB.out.trans ((below_regrown wr dq osq).mono HB.out.size))
        clear g0 g1 g2 g3 g4 g5 g6 g7 g8 k0 k1 k2 k3 k4 k5 k6 k7 k8 hi5
        go_wp2
        exact ⟨⟨k + 1, by omega, by go_num, HB2.out⟩, by simp [intOf]; omega⟩
    · have hkl : ¬ k < L.length := hlt
      go_wp2
      go_ret
      exact ⟨rfl, HB.out⟩
end Go.Proofs.Ytdhpphbgobakhaa
/- What Decode of chapter 10 returns (DecP); what holds while writes are decoded. No condition but those that each fact names. -/
namespace Go.Proofs.Ytdhpphbgobakhaa
set_option maxRecDepth 100000
set_option linter.unusedVariables false
open Go.ChangeShapes Go.WideShapes Go.ChangeAt Go.RowKit
open Fl (S cmpK keyN normN)
open Val (V cmpV isB ltT)
open Lb
theorem NdN.app {B m : Nat} {W W' : World} {n : Nd} {s : Ns} {v : Value} {xs : List Value} (h : NdN B W n s) (hr : W.ownsRow 0 45 9 v m xs) (hg : W.grownBy W' v.ownBlock) : NdN B W' n s := by
  cases hv : v.ownBlock with
  | none => rw [hv] at hg; exact ⟨h.l.kept hg (fun k hk e => by cases e), h.p.kept hg (fun k hk e => by cases e)⟩
  | some k =>
    obtain ⟨cur, hc⟩ := own_type hr hv
    rw [hv] at hg
    exact h.kept hg hc
/-- While writes are decoded. -/
structure DI (w : World) (B r a : Nat) (g : Option Nat) (q : Option (List UInt8)) (L : List (Wr × Ns)) (v : Value) (W : World) : Prop where
  rs : RS B r a g q W
  ro : RO 45 9 B W v L.length (wcs L)
  nd : ∀ x ∈ L, NdN B W x.1.n x.2
  b : Below w.heap.size w W
section
variable {w W W' : World} {B r a : Nat} {g : Option Nat} {q q' : Option (List UInt8)} {L : List (Wr × Ns)} {v v' : Value}
theorem below_chg (h : Below w.heap.size w W) (hr : w.heap.size ≤ r) (ha : w.heap.size ≤ a) (hc : Chg (F2 r a) W W') : Below w.heap.size w W' :=
  Chg.of_below h hc (fun k hk => by rcases hk with rfl | rfl <;> assumption)
theorem DI.below (h : DI w B r a g q L v W) (hb : Below W.heap.size W W') : DI w B r a g q L v W' := ⟨h.rs.below hb, h.ro.below hb, fun x hx => (h.nd x hx).below hb, bnext h.b hb⟩
theorem DI.read (h : DI w B r a g q L v W) (hr : w.heap.size ≤ r) (ha : w.heap.size ≤ a) (hs : RS B r a g q' W') (hc : Chg (F2 r a) W W') : DI w B r a g q' L v W' :=
  ⟨hs, h.ro.chg (Nat.le_refl _) h.rs hc, fun x hx => (h.nd x hx).chg h.rs hc, below_chg h.b hr ha hc⟩
theorem DI.add {x : Wr} {s : Ns} (h : DI w B r a g q L v W) (hB : w.heap.size ≤ B) (hx : NdN B W x.n s) (ho : W'.ownsRow 0 45 9 v' (L.length + 1) (wcs L ++ (wrc x s).toList)) (hg : W.grownBy W' v.ownBlock) (hv : v'.ownBlock = v.ownBlock ∨ v'.ownBlock = some W.heap.size) : DI w B r a g q (L ++ [(x, s)]) v' W' := by
  refine ⟨h.rs.grown hg (fun k e => h.ro.n k e), ?_, fun y hy => ?_, h.b.grown hg h.b.size (fun k e => by have := h.ro.n k e; omega)⟩
  · have := h.ro.next h.rs.size ho hv
    rw [wcs_snoc]
    simpa using this
  · rcases List.mem_append.1 hy with hy | hy
    · exact (h.nd y hy).app h.ro.r hg
    · rw [List.mem_singleton.1 hy]; exact hx.app h.ro.r hg
end
/-- What Decode returns. -/
def DecP (l : List UInt8) (e : Ending) (w' : World) : Prop :=
  match decB true l with
  | some x => ∃ A c L, e = .returned (.tuple #[.int .i64 x.1, .int .i64 x.2.1, .slice A L.length c, .int .i64 0]) ∧ L.map (·.1) = x.2.2 ∧ WRow w' A L
  | none => e = .returned (.tuple #[.int .i64 0, .int .i64 0, .slice none 0 0, .int .i64 2])
theorem DecP.none {l : List UInt8} {w' : World} (h : decB true l = .none) : DecP l (.returned (.tuple #[.int .i64 0, .int .i64 0, .slice .none 0 0, .int .i64 2])) w' := by
  unfold DecP; rw [h]
theorem pA_none {s : Bool} {l : List UInt8} (h : nx (pA s) (some l) = none) : decB true l = none := by
  rw [← decB_any l s]
  unfold decB
  cases hp : pA s l with
  | none => rfl
  | some y =>
    unfold nx at h
    simp only [Option.bind_some, hp, Option.map_some] at h
    cases h
theorem pA_some {s : Bool} {l r : List UInt8} {x : Int × Int × List Wr} (h : nx (pA s) (some l) = some r) (hi : Is (pA s) (some l) x) : pA s l = some (x, r) := by
  cases hp : pA s l with
  | none => unfold nx at h; simp only [Option.bind_some, hp, Option.map_none] at h; cases h
  | some y =>
    obtain ⟨y, r2⟩ := y
    unfold nx at h
    unfold Is rs at hi
    simp only [Option.bind_some, hp, Option.map_some] at h hi
    injection h with h
    rw [h, hi y rfl]
theorem dec_more {s : Bool} {l r : List UInt8} {x : Int × Int × List Wr} (h : pA s l = some (x, r)) (hr : r ≠ []) : decB true l = none := by
  rw [← decB_any l s]
  unfold decB
  rw [h]
  cases r with
  | nil => exact absurd rfl hr
  | cons a b => rfl
theorem dec_end {s : Bool} {l : List UInt8} {x : Int × Int × List Wr} (h : pA s l = some (x, [])) : decB true l = if mayB x.1 x.2.1 x.2.2 then some x else none := by
  rw [← decB_any l s]
  unfold decB
  rw [h]
end Go.Proofs.Ytdhpphbgobakhaa
/- The program's Decode of chapter 10: its contract. Conditions: the bytes lie in memory, at most 1,000,000 of them. -/
namespace Go.Proofs.Ytdhpphbgobakhaa
set_option maxRecDepth 100000
set_option linter.unusedVariables false
open Go.ChangeShapes Go.WideShapes Go.ChangeAt Go.RowKit
open Fl (S cmpK keyN normN)
open Val (V cmpV isB ltT)
open Lb
set_option maxHeartbeats 8000000 in
theorem pdec_any (A : Option Addr) (l : List UInt8) (c : Nat) (w : World) (h : BS w A l c) (hl : l.length ≤ 1000000) : Calls Try.prog 7 #[.slice A l.length c] w fun e w' => DecP l e w' ∧ Below w.heap.size w w' := by
  have HO := Lib.hid (open_any A l c w h hl)
  have HL : Hid (l.length ≤ 1000000) := hl
  clear h hl
  go_enter Try.func7, Try.ntmps7
  go_wp2_with fail
  refine HO.out.mono ?_
  rintro e w1 ⟨a, g, rfl, hcur, hb1, ha, hg⟩
  obtain ⟨W0, hW0⟩ : ∃ W0, W0 = w1.alloc (.cells #[.pointer (some ⟨a, 0, none⟩), .bool false] 61) := ⟨_, rfl⟩
  have hbx : BX W0 w1.heap.size 61 #[.pointer (some ⟨a, 0, none⟩), .bool false] := by rw [hW0]; exact bx_new w1 _ _
  have hal : Below w1.heap.size w1 W0 := by rw [hW0]; exact one_box w1 _
  have hsz : W0.heap.size = w1.heap.size + 1 := by rw [hW0]; simp
  obtain ⟨r, hr⟩ : ∃ r, w1.heap.size = r := ⟨_, rfl⟩
  have ha1 := hcur.1
  have hrs : RS W0.heap.size r a g (some l) W0 := by
    rw [hr] at hbx
    refine ⟨⟨some l, false, hcur.below hal, (hbx.cell 1).trans rfl, rfl, rfl⟩, (hbx.cell 0).trans rfl, hbx.frozen 1, by omega, ?_, by omega, by omega, ?_, Nat.le_refl _⟩
    · intro e
      have := (hg r e.symm).2
      omega
    · intro k e
      have := (hg k e).2
      omega
  have hwr : w.heap.size ≤ r := by rw [← hr]; exact hb1.size
  have hbw : Below w.heap.size w W0 := bnext hb1 hal
  have hd := hrs.below (Below.refl W0.heap.size W0).drew
  have H0 := Lib.hid hd
  have hS0 := hd.c0
  have HBW := Lib.hid (hbw.trans (Below.refl _ _).drew)
  have HWB := Lib.hid hbw.size
  have hx0 := hrs.c0
  clear hcur hb1 hg hbx hal hsz ha1 hd hrs hbw
  go_upto_region 2 with fail
  rw [← hW0]
  clear hW0 hr HO
  generalize hBB : W0.heap.size = B at *
  go_region_held3 (fun W => W.cell? ⟨r, 0, none⟩ = some (.pointer (some ⟨a, 0, none⟩))) (first | with_reducible exact hS0 | with_reducible exact hS1 | with_reducible exact hS2)
    (first
      | (have _ := H1; go_at_call 21; refine (rdI_any H1.out).mono ?_; rintro e w3 ⟨x2, rfl, hR2, hc2, hi2⟩; have hS2 := hR2.c0; have H2 := Lib.hid hR2; have HB2 := Lib.hid (below_chg HB1.out hwr ha hc2); have HI2 := Lib.hid hi2; clear hR2 hc2 hi2)
      | (go_at_call 21; refine (rdI_any H0.out).mono ?_; rintro e w2 ⟨x1, rfl, hR1, hc1, hi1⟩; have hS1 := hR1.c0; have H1 := Lib.hid hR1; have HB1 := Lib.hid (below_chg HBW.out hwr ha hc1); have HI1 := Lib.hid hi1; clear hR1 hc1 hi1))
  have HC := Lib.hid (count_any H2.out 56 (by decide))
  clear hS0 hS1 hS2 hx0 H0 H1 HBW HB1
  go_wp2_with fail
  refine HC.out.mono ?_
  rintro e w4 ⟨n, hn, rfl, hR3, hc3, hi3⟩
  have H3 := Lib.hid hR3
  have HB3 := Lib.hid (below_chg HB2.out hwr ha hc3)
  have HI3 := Lib.hid hi3
  have HM0 := Lib.hid (many_zero (q := nx (pC 56) (nx pI (nx pI (some l)))) (pW false))
  have HD0 : Hid (DI w B r a g (nx (pMany (pW false) 0) (nx (pC 56) (nx pI (nx pI (some l))))) [] (.slice none 0 0) w4) := by
    rw [HM0.out.1]
    exact ⟨H3.out, RO.nil _ _ _ _, (fun x hx => by cases hx), HB3.out⟩
  clear hR3 hc3 hi3 HC H2 H3 HB2 HB3
  go_wp2
  go_loopw [4, 17] (fun v i wr => ∃ (L : List (Wr × Ns)), L.length ≤ n ∧ i = .int .i64 (L.length : Nat) ∧ Hid (DI w B r a g (nx (pMany (pW false) L.length) (nx (pC 56) (nx pI (nx pI (some l))))) L v wr) ∧ Hid (Is (pMany (pW false) L.length) (nx (pC 56) (nx pI (nx pI (some l)))) (L.map (·.1)))) (fun _ i _ => n - (intOf i).toNat)
  case atStart => exact ⟨[], Nat.zero_le _, rfl, HD0.out, HM0.out.2⟩
  case round =>
    obtain ⟨L, hk, rfl, HD, HS⟩ := hrel
    obtain ⟨Av, cv, rfl⟩ := own_slice HD.out.ro.r
    by_cases hlt : L.length < n
    · have HW := Lib.hid (rwrite2_any HD.out.rs)
      go_wp2_with fail
      refine HW.out.mono ?_
      rintro e w5 ⟨x, s, rfl, hR5, hc5, hi5, hn5⟩
      have hd5 := HD.out.read hwr ha hR5 hc5
      have HD5 := Lib.hid (hd5.below (one_box w5 (.cells (wrc x s) 45)))
      have HN5 := Lib.hid ((ndN_mono hn5 HD.out.rs.size).below (one_box w5 (.cells (wrc x s) 45)))
      have HMS := Lib.hid (many_step HS.out hi5)
      have HCN := Lib.hid (new_cells w5 (wrc x s) 45)
      have HLE : Hid (L.length + 1 ≤ 10000) := by simp only [Hid]; omega
      have HZ := Lib.hid (wrc_one x s)
      clear hR5 hc5 hi5 hn5 hd5 HW HD
      go_wp2_with (at_builtin; refine wp_ownL 22 45 _ 9 112 Try.underlying22 infoW rfl (by decide) (by decide) rfl _ _ rfl _ L.length (wcs L) HD5.out.ro.r rfl ⟨w5.heap.size, 0, none⟩ 1 1 (wrc x s).toList rfl rfl HCN.out HZ.out HLE.out ?_)
      intro v6 w6 ho6 hg6 hv6
      obtain ⟨A6, c6, rfl⟩ := own_slice ho6
      have HD6 := Lib.hid (HD5.out.add HWB.out HN5.out ho6 hg6 (by simpa using hv6))
      clear ho6 hg6 hv6 HD5 HN5 HCN
      have HD7 : Hid (DI w B r a g (nx (pMany (pW false) (L ++ [(x, s)]).length) (nx (pC 56) (nx pI (nx pI (some l))))) (L ++ [(x, s)]) (.slice A6 (L.length + 1) c6) w6) := by
        have := HD6.out
        rw [← HMS.out.1] at this
        simp only [Hid]
        simpa using this
      have HS7 : Hid (Is (pMany (pW false) (L ++ [(x, s)]).length) (nx (pC 56) (nx pI (nx pI (some l)))) ((L ++ [(x, s)]).map (·.1))) := by
        have := HMS.out.2
        simp only [Hid]
        simpa using this
      clear HD6 HMS
      go_wp2
      exact ⟨⟨L ++ [(x, s)], by simp; omega, by simp, HD7.out, HS7.out⟩, by simp [intOf]; omega⟩
    · have hend : L.length = n := by omega
      have HQ : Hid (nx (pA false) (some l) = nx (pMany (pW false) L.length) (nx (pC 56) (nx pI (nx pI (some l)))) ∧ Is (pA false) (some l) (x1, x2, L.map (·.1))) := by
        have x3 : Is (pC 56) (nx pI (nx pI (some l))) L.length := by rw [hend]; exact HI3.out
        unfold pA
        exact ⟨by rw [(nx_and HI1.out).1, (nx_and HI2.out).1, (nx_and x3).1, (nx_and HS.out).1, nx_ret], is_and HI1.out (is_and HI2.out (is_and x3 (is_and HS.out is_ret)))⟩
      clear hend
      cases hq : nx (pMany (pW false) L.length) (nx (pC 56) (nx pI (nx pI (some l)))) with
      | none =>
        rw [hq] at HQ HD
        have HNO := Lib.hid (pA_none HQ.out.1)
        obtain ⟨st, bd, d0, d1, d2⟩ := HD.out.rs.cur
        have k0 := HD.out.rs.c0
        cases bd with
        | true =>
          clear hq d2 d0
          go_wp2
          exact bodyPost_ret (v := .tuple #[.int .i64 0, .int .i64 0, .slice none 0 0, .int .i64 2]) (by simp [results, Try.results7, go_sem]) rfl ⟨DecP.none HNO.out, HD.out.b⟩
        | false =>
          obtain rfl : st = none := d2.resolve_right (by decide)
          have HWH := Lib.hid (fun W hW => whole_any a g none W hW)
          have HC0 := Lib.hid d0
          clear hq d2 d0
          go_wp2_with fail
          refine (HWH.out _ HC0.out).mono ?_
          rintro e w7 ⟨rfl, rfl⟩
          go_wp2
          exact bodyPost_ret (v := .tuple #[.int .i64 0, .int .i64 0, .slice none 0 0, .int .i64 2]) (by simp [results, Try.results7, go_sem]) rfl ⟨DecP.none HNO.out, HD.out.b⟩
      | some rest =>
        rw [hq] at HQ HD
        have hpa := pA_some HQ.out.1 HQ.out.2
        obtain ⟨st, bd, d0, d1, d2, rfl⟩ := HD.out.rs.cur
        subst d2
        have k0 := HD.out.rs.c0
        have HWH := Lib.hid (whole_any a g (some rest) wr d0)
        cases rest with
        | cons z zs =>
          have HNO := Lib.hid (dec_more hpa (by simp))
          clear hq d0 hpa
          go_wp2_with fail
          refine HWH.out.mono ?_
          rintro e w7 ⟨rfl, rfl⟩
          go_wp2
          exact bodyPost_ret (v := .tuple #[.int .i64 0, .int .i64 0, .slice none 0 0, .int .i64 2]) (by simp [results, Try.results7, go_sem]) rfl ⟨DecP.none HNO.out, HD.out.b⟩
        | nil =>
          have hrow := wrow_own HD.out.ro.r (fun x hx => (HD.out.nd x hx).at)
          have hok := pA_ok false HL.out hpa
          have hin := pA_in false hpa
          have HMY := Lib.hid (pmay_any x1 x2 Av cv L wr hrow (fun x hx => ⟨hok _ (List.mem_map_of_mem hx), (hin _ (List.mem_map_of_mem hx)).2.2.2.2⟩) (by have := pA_len false hpa; rw [List.length_map] at this; omega))
          have HDE := Lib.hid (dec_end hpa)
          have HRW := Lib.hid hrow
          clear hq d0 hpa hrow hok hin
          cases hm : mayB x1 x2 (L.map (·.1)) with
          | false =>
            rw [hm] at HMY
            have HNO := Lib.hid (show decB true l = none by rw [HDE.out, hm]; rfl)
            clear hm
            go_wp2_with fail
            refine HWH.out.mono ?_
            rintro e w7 ⟨rfl, rfl⟩
            go_wp2_with fail
            refine HMY.out.mono ?_
            rintro e w8 ⟨rfl, hb⟩
            have B8 := Lib.hid (bnext HD.out.b hb)
            clear hb
            go_wp2
            exact bodyPost_ret (v := .tuple #[.int .i64 0, .int .i64 0, .slice none 0 0, .int .i64 2]) (by simp [results, Try.results7, go_sem]) rfl ⟨DecP.none HNO.out, B8.out⟩
          | true =>
            rw [hm] at HMY
            have HYES := Lib.hid (show decB true l = some (x1, x2, L.map (·.1)) by rw [HDE.out, hm]; rfl)
            clear hm
            go_wp2_with fail
            refine HWH.out.mono ?_
            rintro e w7 ⟨rfl, rfl⟩
            go_wp2_with fail
            refine HMY.out.mono ?_
            rintro e w8 ⟨rfl, hb⟩
            have B8 := Lib.hid (bnext HD.out.b hb)
            have HR8 := Lib.hid (HRW.out.below hb)
            clear hb
            go_wp2
            refine bodyPost_ret (v := .tuple #[.int .i64 x1, .int .i64 x2, .slice Av L.length cv, .int .i64 0]) (by simp [results, Try.results7, go_sem]) rfl ⟨?_, B8.out⟩
            unfold DecP
            rw [HYES.out]
            exact ⟨Av, cv, L, rfl, rfl, HR8.out⟩
end Go.Proofs.Ytdhpphbgobakhaa
/- The walk of the law RecordBack of chapter 10. Conditions: the rows lie in memory; numbers are words; lengths are of what a machine holds. -/
namespace Go.Proofs.Ytdhpphbgobakhaa
set_option maxRecDepth 100000
set_option linter.unusedVariables false
open Go.ChangeShapes Go.WideShapes Go.ChangeAt Go.RowKit
open Fl (S cmpK keyN normN)
open Val (V cmpV isB ltT)
open Lb
theorem and16 (n : Int) : bits .and .i64 n 65535 = n % 65536 := by
  have hm : (BitVec.ofInt 64 65535).toNat = 2 ^ 16 - 1 := by decide
  have key : (BitVec.ofInt 64 n &&& BitVec.ofInt 64 65535).toNat = (n % ((2 ^ 64 : Nat) : Int)).toNat % 2 ^ 16 := by
    rw [BitVec.toNat_and, BitVec.toNat_ofInt, hm, Nat.and_two_pow_sub_one_eq_mod]
  show IntKind.i64.wrap ((BitVec.ofInt 64 n &&& BitVec.ofInt 64 65535).toNat : Nat) = n % 65536
  rw [key, IntKind.wrap_i64]
  omega
theorem decP_back {nn ne : Int} {l : List Wr} (h : mayB nn ne l = true) (hi : ∀ x ∈ l, WrIn x) {e : Ending} {w' : World} (hd : DecP (encA nn ne l) e w') : ∃ A c L, e = .returned (.tuple #[.int .i64 nn, .int .i64 ne, .slice A L.length c, .int .i64 0]) ∧ L.map (·.1) = l ∧ WRow w' A L := by
  unfold DecP at hd
  rw [decB_enc true h hi] at hd
  exact hd
theorem WSz.ok {x : Wr} (h : WSz 5000 x) : WOk x :=
  have e : 5000 ≤ maxLen := by unfold maxLen; omega
  ⟨⟨by have := h.l; omega, by have := h.p; omega, fun y hy => Nat.le_trans (h.s y hy) e, fun y hy => ⟨Nat.le_trans (h.k y hy).1 e, Nat.le_trans (h.k y hy).2 e⟩⟩, Nat.le_trans h.t e⟩
theorem wfine {x : Wr} (h : WSz 5000 x) (hi : WrIn x) : WFine x := ⟨h.ok.n, fun y hy => (hi.1 y hy).2, hi.2.2.2.2⟩
end Go.Proofs.Ytdhpphbgobakhaa
/- What Str and Real of a Cursor of the reference do: contracts. Conditions: the cells of the Cursor, and of the bytes that it reads, lie in memory. -/
namespace Go.Proofs.Ytdhpphbgobakhaa
set_option maxRecDepth 100000
set_option linter.unusedVariables false
open Go.ChangeShapes Go.WideShapes Go.ChangeAt Go.RowKit
open Lb
open Fl (S IR nanB normN keyN NaNw cmpK unkN ofB)
open Go.Lib (uvarint zigzag uvarint_small uvarint_big unzigzag)

theorem rcstr_any (a : Nat) (g : Option Nat) (st : Option (List UInt8)) (w : World) (h : Cur w a g st) :
    Calls Try.prog 28 #[.pointer (some ⟨a, 0, none⟩)] w (Moves a g w (.string (bstr (resS st))) (nxtS st)) := by
  have H := Lib.hid (rcint_any a g st w h)
  clear h
  cases hn : nxtI st with
  | none =>
    rw [hn] at H
    have Hn := Lib.hid (show nxtS st = none ∧ resS st = [] by simp [nxtS, resS, hn])
    clear hn
    go_enter Try.func28, Try.ntmps28
    go_wp2_with fail
    refine H.out.mono ?_
    rintro e w1 ⟨rfl, hc1, hg1⟩
    have HC := Lib.hid hc1
    obtain ⟨h1, h2, h3, h4, k1, k2⟩ := hc1
    go_wp2_with fail
    refine (rfail_any a g _ _ HC.out).mono ?_
    rintro e w' ⟨rfl, hc, hg⟩
    go_wp2
    go_ret
    rw [Hn.out.1, Hn.out.2]
    exact ⟨rfl, hc, only_trans hg1 hg⟩
  | some l =>
    rw [hn] at H
    have Hn := Lib.hid hn
    clear hn
    obtain ⟨n, hrn⟩ : ∃ n : Int, resI st = n := ⟨_, rfl⟩
    rw [hrn] at H
    by_cases hf : 0 ≤ n ∧ n ≤ (l.length : Int)
    · obtain ⟨m, rfl⟩ : ∃ m : Nat, n = m := ⟨n.toNat, by omega⟩
      have hm : m ≤ l.length := by omega
      have HN := Lib.hid (show nxtS st = some (l.drop m) ∧ resS st = l.take m by
        have hff : fits (m : Int) l = true := by simp [fits]; omega
        unfold nxtS resS
        rw [Hn.out, hrn]
        simp [hff])
      clear hrn hf
      go_enter Try.func28, Try.ntmps28
      go_wp2_with fail
      refine H.out.mono ?_
      rintro e w1 ⟨rfl, hc1, hg1⟩
      have HC := Lib.hid hc1
      obtain ⟨h1, h2, h3, h4, A, c, k1, k2, k3, k4, k5⟩ := hc1
      have hcap := k3.cap
      have hcv := (k3.take m).conv m (by simp; omega)
      have Hst := Lib.hid (cur_step HC.out k3 k4 hm k5)
      have hsl := slice_from A l.length c m hm
      have hst := slice_to A l.length c m (by omega)
      clear k3 k4
      go_wp2_with fail
      go_ret
      rw [HN.out.1, HN.out.2]
      exact ⟨rfl, Hst.out, only_trans hg1 (grown_set _ _ _ _)⟩
    · have HN := Lib.hid (show nxtS st = none ∧ resS st = [] by
        have hff : fits n l = false := by simp [fits]; omega
        unfold nxtS resS
        rw [Hn.out, hrn]
        simp [hff])
      clear hrn
      have hf2 : n < 0 ∨ (0 ≤ n ∧ (l.length : Int) < n) := by omega
      clear hf
      rcases hf2 with hf2 | ⟨hf2, hf3⟩
      all_goals
        go_enter Try.func28, Try.ntmps28
        go_wp2_with fail
        refine H.out.mono ?_
        rintro e w1 ⟨rfl, hc1, hg1⟩
        have HC := Lib.hid hc1
        obtain ⟨h1, h2, h3, h4, A, c, k1, k2, k3, k4, k5⟩ := hc1
        clear k3 k4
        go_wp2_with fail
        refine (rfail_any a g _ _ HC.out).mono ?_
        rintro e w' ⟨rfl, hc, hg⟩
        go_wp2
        go_ret
        rw [HN.out.1, HN.out.2]
        exact ⟨rfl, hc, only_trans hg1 hg⟩
set_option maxRecDepth 100000 in
theorem rcreal_any (a : Nat) (g : Option Nat) (st : Option (List UInt8)) (w : World) (h : Cur w a g st) :
    Calls Try.prog 29 #[.pointer (some ⟨a, 0, none⟩)] w (Moves a g w (.float .f64 (resR st)) (nxtR st)) := by
  have H := Lib.hid h
  obtain ⟨h1, h2, h3, h4, h5⟩ := h
  cases st with
  | none =>
    obtain ⟨k1, k2⟩ := h5
    go_enter Try.func29, Try.ntmps29
    go_wp2_with fail
    refine (rfail_any a g _ _ H.out).mono ?_
    rintro e w' ⟨rfl, hc, hg⟩
    go_wp2
    go_ret
    exact ⟨rfl, hc, hg⟩
  | some l =>
    obtain ⟨A, c, k1, k2, k3, k4, k5⟩ := h5
    have K3 := Lib.hid k3
    have K4 := Lib.hid k4
    have hcap := k3.cap
    clear k3 k4
    by_cases h8 : l.length < 8
    · have Hn := Lib.hid (show nxtR (some l) = none ∧ resR (some l) = 0 by
        have : okR l = false := by simp [okR]; omega
        simp [nxtR, resR, this])
      go_enter Try.func29, Try.ntmps29
      go_wp2_with fail
      refine (rfail_any a g _ _ H.out).mono ?_
      rintro e w' ⟨rfl, hc, hg⟩
      go_wp2
      go_ret
      rw [Hn.out.1, Hn.out.2]
      exact ⟨rfl, hc, hg⟩
    · have h8' : 8 ≤ l.length := by omega
      have Hl8 := Lib.hid (show (l.take 8).length = 8 by simp; omega)
      have HO := Lib.hid (rof_any (be (l.take 8)) (be_lt8 (l.take 8) Hl8.out) w)
      have hsl := slice_from A l.length c 8 h8'
      have e8 : ((8 : Nat) : Int) = 8 := rfl
      rw [e8] at hsl
      have Hsl := Lib.hid hsl
      clear e8 h8 hsl
      go_enter Try.func29, Try.ntmps29
      go_wp2_with fail
      go_loop [3, 4] (fun z i => ∃ j acc : Nat, i = .int .i64 j ∧ z = .int .u64 acc ∧ j ≤ 8 ∧ Hid (acc = be (l.take j))) (fun _ i => 8 - (intOf i).toNat)
      case atStart => exact ⟨0, 0, rfl, rfl, by omega, (show 0 = be (l.take 0) by simp [be])⟩
      case round =>
        obtain ⟨j, acc, rfl, rfl, hj, He⟩ := hrel
        by_cases hlt : j < 8
        · have hj2 : j < l.length := by omega
          obtain ⟨ad, hA, hc⟩ := K3.out.cells j hj2
          subst hA
          have hb := u8lt l[j]
          have Ht := Lib.hid (be_take l j hj2)
          have Hlt := Lib.hid (be_lt l j (by omega))
          obtain ⟨q, hq⟩ : ∃ q : Nat, l[j].toNat = q := ⟨_, rfl⟩
          rw [hq] at hc hb Ht
          clear hq
          have Ho := Lib.hid (or_shl8 acc j q (by rw [He.out]; exact Hlt.out) hb hlt)
          go_wp2_with fail
          refine ⟨⟨j + 1, acc * 256 + q, by go_num, by rw [Ho.out], by omega, ?_⟩, by simp [intOf]; omega⟩
          show _ = _
          rw [Ht.out, He.out]
        · obtain rfl : j = 8 := by omega
          have hd := He.out
          subst hd
          have hsl := Hsl.out
          cases ho : ofB (be (l.take 8)) with
          | false =>
            have Hn := Lib.hid (show nxtR (some l) = none ∧ resR (some l) = 0 by
              have : okR l = false := by simp [okR, ho]
              simp [nxtR, resR, this])
            rw [ho, ofF_no _ ho] at HO
            clear ho
            go_wp2_with fail
            refine HO.out.mono ?_
            rintro e w' ⟨rfl, rfl⟩
            go_wp2_with fail
            refine (rfail_any a g _ _ H.out).mono ?_
            rintro e w' ⟨rfl, hc, hg⟩
            go_wp2
            go_ret
            rw [Hn.out.1, Hn.out.2]
            exact ⟨rfl, hc, hg⟩
          | true =>
            have Hn := Lib.hid (show nxtR (some l) = some (l.drop 8) ∧ resR (some l) = unkN (be (l.take 8)) by
              have : okR l = true := by simp [okR, ho]; omega
              simp [nxtR, resR, this])
            rw [ho, ofF_yes _ ho] at HO
            clear ho
            have Hst := Lib.hid (cur_step H.out K3.out K4.out h8' k5)
            go_wp2_with fail
            refine HO.out.mono ?_
            rintro e w' ⟨rfl, rfl⟩
            go_wp2_with fail
            go_ret
            rw [Hn.out.1, Hn.out.2]
            exact ⟨rfl, Hst.out, grown_set _ _ _ _⟩
end Go.Proofs.Ytdhpphbgobakhaa
/- The reference's Cursor where it has erred with bytes left: what its methods do. Conditions: the cells of the Cursor, and of its bytes, lie in memory. -/
namespace Go.Proofs.Ytdhpphbgobakhaa
set_option maxRecDepth 100000
set_option linter.unusedVariables false
open Go.ChangeShapes Go.WideShapes Go.ChangeAt Go.RowKit
open Lb
open Fl (S IR nanB normN keyN NaNw cmpK unkN ofB)
/-- It has erred; its bytes may be any. -/
structure Cux (w : World) (a : Nat) (g : Option Nat) : Prop where
  lt : a < w.heap.size
  ne : some a ≠ g
  f0 : w.frozen? ⟨a, 0, none⟩ = false
  f1 : w.frozen? ⟨a, 1, none⟩ = false
  ex : ∃ A l c, w.cell? ⟨a, 0, none⟩ = some (.slice A (List.length l) c) ∧ w.cell? ⟨a, 1, none⟩ = some (.bool true) ∧ BS w A l c ∧ Lies A l g ∧ l.length ≤ 1000000
theorem Cur.dead {w : World} {a : Nat} {g : Option Nat} (h : Cur w a g none) : Cux w a g := by
  obtain ⟨h1, h2, h3, h4, k1, k2⟩ := h
  exact ⟨h1, h2, h3, h4, none, [], 0, k1, k2, bs_nil w, (fun ad e => by cases e), by simp⟩
theorem Cux.kept {w w' : World} {a : Nat} {g : Option Nat} {row : Option Nat} (h : Cux w a g) (hg : w.grownBy w' row) (ha : some a ≠ row) (hgr : g = none ∨ g ≠ row) : Cux w' a g := by
  obtain ⟨h1, h2, h3, h4, A, l, c, k1, k2, k3, k4, k5⟩ := h
  have e : ∀ o, w'.cell? ⟨a, o, none⟩ = w.cell? ⟨a, o, none⟩ := fun o => hg.cell_far ⟨a, o, none⟩ h1 ha
  have f : ∀ o, w'.frozen? ⟨a, o, none⟩ = w.frozen? ⟨a, o, none⟩ := fun o => hg.frozen_far ⟨a, o, none⟩ h1 ha
  exact ⟨Nat.lt_of_lt_of_le h1 hg.size, h2, by rw [f]; exact h3, by rw [f]; exact h4, A, l, c, by rw [e]; exact k1, by rw [e]; exact k2, k3.keptL hg k4 hgr, k4, k5⟩
theorem Cux.below {w w' : World} {a : Nat} {g : Option Nat} (h : Cux w a g) (hb : Below w.heap.size w w') : Cux w' a g := h.kept (grown_of_below hb none) (by simp) (by cases g <;> simp)
theorem rfail_x (a : Nat) (g : Option Nat) (w : World) (h : Cux w a g) :
    Calls Try.prog 53 #[.pointer (some ⟨a, 0, none⟩)] w (Moves a g w (.tuple #[]) none) := by
  obtain ⟨h1, h2, h3, h4, A, l, c, c0, c1, _⟩ := h
  go_enter Try.func53, Try.ntmps53
  go_wp2
  go_end0
  have d0 : (w.setCell ⟨a, 1, none⟩ (.bool true)).cell? ⟨a, 0, none⟩ = some (.slice A l.length c) := by rw [World.cell?_setCell_other _ _ _ _ (Ne.symm (ne01 a))]; exact c0
  refine ⟨rfl, ⟨by simpa [World.setCell] using h1, h2, by simpa using h3, by simpa using h4, World.cell?_setCell_same _ _ _ d0, ?_⟩, only_trans (grown_set w a 1 _) (grown_set _ a 0 _)⟩
  rw [World.cell?_setCell_other _ _ _ _ (ne01 a)]
  exact World.cell?_setCell_same _ _ _ c1
theorem rcint_x (a : Nat) (g : Option Nat) (w : World) (h : Cux w a g) :
    Calls Try.prog 25 #[.pointer (some ⟨a, 0, none⟩)] w (Moves a g w (.int .i64 0) none) := by
  have HF := Lib.hid (rfail_x a g w h)
  obtain ⟨h1, h2, h3, h4, A, l, c, k1, k2, k3, k4, k5⟩ := h
  have K3 := Lib.hid k3
  have hcap := k3.cap
  clear k3 k4
  go_enter Try.func25, Try.ntmps25
  go_wp2_with fail
  go_loop [3] (fun i => ∃ k : Nat, i = .int .i64 k ∧ k ≤ l.length ∧ k ≤ 10) (fun i => 10 - (intOf i).toNat)
  case atStart => exact ⟨0, rfl, by omega, by omega⟩
  case round =>
    obtain ⟨k, rfl, hk, hk2⟩ := hrel
    by_cases hlt : k < l.length
    · by_cases hlt2 : k < 10
      · obtain ⟨ad, hA, hc⟩ := K3.out.cells k hlt
        subst hA
        have hb := u8lt l[k]
        generalize l[k].toNat = q at *
        by_cases hge : 128 ≤ q
        · go_wp2_with fail
          exact ⟨⟨k + 1, by go_num, by omega, by omega⟩, by simp [intOf]; omega⟩
        · go_wp2_with fail
          refine HF.out.mono ?_
          rintro e w' ⟨rfl, hc2, hg2⟩
          go_wp2
          go_ret
          exact ⟨rfl, hc2, hg2⟩
      · go_wp2_with fail
        refine HF.out.mono ?_
        rintro e w' ⟨rfl, hc2, hg2⟩
        go_wp2
        go_ret
        exact ⟨rfl, hc2, hg2⟩
    · go_wp2_with fail
      refine HF.out.mono ?_
      rintro e w' ⟨rfl, hc2, hg2⟩
      go_wp2
      go_ret
      exact ⟨rfl, hc2, hg2⟩
theorem rcstr_x (a : Nat) (g : Option Nat) (w : World) (h : Cux w a g) :
    Calls Try.prog 28 #[.pointer (some ⟨a, 0, none⟩)] w (Moves a g w (.string (bstr [])) none) := by
  have H := Lib.hid (rcint_x a g w h)
  clear h
  go_enter Try.func28, Try.ntmps28
  go_wp2_with fail
  refine H.out.mono ?_
  rintro e w1 ⟨rfl, hc1, hg1⟩
  have HC := Lib.hid hc1
  obtain ⟨h1, h2, h3, h4, k1, k2⟩ := hc1
  go_wp2_with fail
  refine (rfail_any a g _ _ HC.out).mono ?_
  rintro e w' ⟨rfl, hc, hg⟩
  go_wp2
  go_ret
  exact ⟨rfl, hc, only_trans hg1 hg⟩
theorem rcreal_x (a : Nat) (g : Option Nat) (w : World) (h : Cux w a g) :
    Calls Try.prog 29 #[.pointer (some ⟨a, 0, none⟩)] w (Moves a g w (.float .f64 0) none) := by
  have HF := Lib.hid (rfail_x a g w h)
  obtain ⟨h1, h2, h3, h4, A, l, c, k1, k2, k3, k4, k5⟩ := h
  go_enter Try.func29, Try.ntmps29
  go_wp2_with fail
  refine HF.out.mono ?_
  rintro e w' ⟨rfl, hc, hg⟩
  go_wp2
  go_ret
  exact ⟨rfl, hc, hg⟩
end Go.Proofs.Ytdhpphbgobakhaa
/- What the reference's decoding of chapter 10 reads, part by part: Int, Str, Real, truth, many. Conditions: the Cursor's cells, and its bytes, lie in memory. -/
namespace Go.Proofs.Ytdhpphbgobakhaa
set_option maxRecDepth 100000
set_option linter.unusedVariables false
open Go.ChangeShapes Go.WideShapes Go.ChangeAt Go.RowKit
open Fl (S cmpK keyN normN)
open Val (V cmpV isB ltT)
open Lb
/-- The reference's Cursor in block a: it has erred (none), or l remains. -/
def RCu (w : World) (a : Nat) (g : Option Nat) (q : Option (List UInt8)) : Prop := match q with
  | some l => Cur w a g (some l)
  | none => Cux w a g
/-- What is handed back, and where the Cursor stands. -/
def RcM {α : Type} (p : Prs α) (f : α → Value) (ok : α → Prop) (a : Nat) (g : Option Nat) (q : Option (List UInt8)) (w : World) (e : Ending) (w' : World) : Prop :=
  ∃ x, e = .returned (f x) ∧ RCu w' a g (nx p q) ∧ w.grownBy w' (some a) ∧ Is p q x ∧ ok x
theorem curx {w : World} {a : Nat} {g : Option Nat} {q : Option (List UInt8)} (h : Cur w a g q) : RCu w a g q := by
  cases q with
  | none => exact h.dead
  | some l => exact h
theorem RCu.kept {w w' : World} {a : Nat} {g : Option Nat} {q : Option (List UInt8)} {row : Option Nat} (h : RCu w a g q) (hg : w.grownBy w' row) (ha : some a ≠ row) (hgr : g = none ∨ g ≠ row) : RCu w' a g q := by
  cases q with
  | none => exact Cux.kept h hg ha hgr
  | some l => exact Cur.kept (show Cur w a g (some l) from h) hg ha hgr
theorem RCu.below {w w' : World} {a : Nat} {g : Option Nat} {q : Option (List UInt8)} (h : RCu w a g q) (hb : Below w.heap.size w w') : RCu w' a g q := h.kept (grown_of_below hb none) (by simp) (by cases g <;> simp)
/-- c.E = true. -/
theorem Cur.err {w : World} {a : Nat} {g : Option Nat} {l : List UInt8} (h : Cur w a g (some l)) : Cux (w.setCell ⟨a, 1, none⟩ (.bool true)) a g := by
  obtain ⟨h1, h2, h3, h4, A, c, k1, k2, k3, k4, k5⟩ := h
  exact ⟨by simpa [World.setCell] using h1, h2, by simpa using h3, by simpa using h4, A, l, c, by rw [World.cell?_setCell_other _ _ _ _ (Ne.symm (ne01 a))]; exact k1, World.cell?_setCell_same _ _ _ k2, k3.set k4 h2, k4, k5⟩
theorem Cux.err {w : World} {a : Nat} {g : Option Nat} (h : Cux w a g) : Cux (w.setCell ⟨a, 1, none⟩ (.bool true)) a g := by
  obtain ⟨h1, h2, h3, h4, A, l, c, k1, k2, k3, k4, k5⟩ := h
  exact ⟨by simpa [World.setCell] using h1, h2, by simpa using h3, by simpa using h4, A, l, c, by rw [World.cell?_setCell_other _ _ _ _ (Ne.symm (ne01 a))]; exact k1, World.cell?_setCell_same _ _ _ k2, k3.set k4 h2, k4, k5⟩
theorem Cur.fine {w : World} {a : Nat} {g : Option Nat} {l : List UInt8} (h : Cur w a g (some l)) : Cur (w.setCell ⟨a, 1, none⟩ (.bool false)) a g (some l) := by
  obtain ⟨h1, h2, h3, h4, A, c, k1, k2, k3, k4, k5⟩ := h
  exact ⟨by simpa [World.setCell] using h1, h2, by simpa using h3, by simpa using h4, A, c, by rw [World.cell?_setCell_other _ _ _ _ (Ne.symm (ne01 a))]; exact k1, World.cell?_setCell_same _ _ _ k2, k3.set k4 h2, k4, k5⟩
theorem resI_in (l : List UInt8) : In64 (resI (some l)) := by
  rw [(nxtI_pI l).2]
  cases hp : pI l with
  | none => simp [In64]
  | some y => obtain ⟨n, r⟩ := y; exact (pI_wo hp).2
section
variable {a : Nat} {g : Option Nat} {q : Option (List UInt8)} {w : World}
theorem rcI_any (h : RCu w a g q) : Calls Try.prog 25 #[.pointer (some ⟨a, 0, none⟩)] w (RcM pI (.int .i64) In64 a g q w) := by
  cases q with
  | none =>
    refine (rcint_x a g w h).mono ?_
    rintro e w' ⟨rfl, hc, hg⟩
    exact ⟨0, rfl, hc.dead, hg, is_none _ _, by simp [In64]⟩
  | some l =>
    refine (rcint_any a g (some l) w h).mono ?_
    rintro e w' ⟨rfl, hc, hg⟩
    exact ⟨_, rfl, by rw [← (pI_nxt l).1]; exact curx hc, hg, (pI_nxt l).2, resI_in l⟩
set_option maxHeartbeats 1000000 in
theorem rtruth_any (h : RCu w a g q) : Calls Try.prog 27 #[.pointer (some ⟨a, 0, none⟩)] w (RcM pB .bool (fun _ => True) a g q w) := by
  have HC := Lib.hid (rcI_any h)
  clear h
  go_enter Try.func27, Try.ntmps27
  go_wp2_with fail
  refine HC.out.mono ?_
  rintro e w1 ⟨n, rfl, hc, hg, hi, ho⟩
  have HG := Lib.hid hg
  have HN : Hid (nx pB q = nx (if 0 ≤ n ∧ n ≤ 1 then ret (decide (n = 1)) else bad) (nx pI q)) := (nx_and hi).1
  have HI : Hid (∀ b, (0 ≤ n ∧ n ≤ 1 → decide (n = 1) = b) → Is pB q b) := fun b hb => is_and hi (by
    split
    · rename_i hh; rw [hb hh]; exact is_ret
    · exact is_bad)
  have HS := Lib.hid (grown_set w1 a 1 (.bool true))
  have HS2 := Lib.hid (grown_set w1 a 1 (.bool false))
  clear hg hi HC
  cases hq : nx pI q with
  | none =>
    rw [hq] at hc HN
    have hc : Cux w1 a g := hc
    have HX := Lib.hid hc.err
    obtain ⟨h1, h2, h3, h4, A, l, c, k1, k2, _⟩ := hc
    have HN2 := Lib.hid (show nx pB q = none by rw [HN.out]; rfl)
    clear hq HN
    go_wp2
    go_ret
    exact ⟨decide (n = 1), by first | rfl | simp, by rw [HN2.out]; exact HX.out, HG.out.trans HS.out, HI.out _ (fun _ => rfl), trivial⟩
  | some l =>
    rw [hq] at hc HN
    have hc : Cur w1 a g (some l) := hc
    have HX := Lib.hid hc.err
    have HF := Lib.hid hc.fine
    obtain ⟨h1, h2, h3, h4, A, c, k1, k2, _⟩ := hc
    by_cases hr : 0 ≤ n ∧ n ≤ 1
    · have HN2 := Lib.hid (show nx pB q = some l by rw [HN.out, if_pos hr]; exact nx_ret)
      have hE : (decide (n < 0) || decide (1 < n)) = false := by simp; omega
      obtain ⟨r1, r2⟩ := hr
      clear hq HN
      go_wp2
      go_ret
      try rw [hE]
      exact ⟨decide (n = 1), by first | rfl | simp, by rw [HN2.out]; exact HF.out, HG.out.trans HS2.out, HI.out _ (fun _ => rfl), trivial⟩
    · have HN2 := Lib.hid (show nx pB q = none by rw [HN.out, if_neg hr]; exact nx_bad)
      clear hq HN
      by_cases r1 : n < 0
      · clear hr
        go_wp2
        go_ret
        exact ⟨decide (n = 1), by first | rfl | simp, by rw [HN2.out]; exact HX.out, HG.out.trans HS.out, HI.out _ (fun _ => rfl), trivial⟩
      · have r2 : 1 < n := by omega
        clear hr
        go_wp2
        go_ret
        exact ⟨decide (n = 1), by first | rfl | simp, by rw [HN2.out]; exact HX.out, HG.out.trans HS.out, HI.out _ (fun _ => rfl), trivial⟩
set_option maxHeartbeats 1000000 in
theorem rmany_any (h : RCu w a g q) (most : Nat) (hm : most ≤ 1000) : Calls Try.prog 26 #[.pointer (some ⟨a, 0, none⟩), .int .i64 (most : Nat)] w (RcM (pC most) (fun k => .int .i64 (k : Nat)) (fun k => k ≤ most) a g q w) := by
  have HC := Lib.hid (rcI_any h)
  clear h
  go_enter Try.func26, Try.ntmps26
  go_wp2_with fail
  refine HC.out.mono ?_
  rintro e w1 ⟨n, rfl, hc, hg, hi, ho⟩
  have HG := Lib.hid hg
  have HN : Hid (nx (pC most) q = nx (if 0 ≤ n ∧ n ≤ most then ret n.toNat else bad) (nx pI q)) := (nx_and hi).1
  have HI : Hid (∀ b, (0 ≤ n ∧ n ≤ most → nx pI q ≠ none → n.toNat = b) → Is (pC most) q b) := fun b hb => is_and hi (by
    split
    · rename_i hh
      cases hq : nx pI q with
      | none => exact is_none _ _
      | some l => rw [hb hh (by rw [hq]; intro e; cases e)]; exact is_ret
    · exact is_bad)
  have HS := Lib.hid (grown_set w1 a 1 (.bool true))
  have HS2 := Lib.hid (grown_set w1 a 1 (.bool false))
  clear hg hi HC
  cases hq : nx pI q with
  | none =>
    rw [hq] at hc HN HI
    have hc : Cux w1 a g := hc
    have HX := Lib.hid hc.err
    obtain ⟨h1, h2, h3, h4, A, l, c, k1, k2, _⟩ := hc
    have HN2 := Lib.hid (show nx (pC most) q = none by rw [HN.out]; rfl)
    have k2b := World.cell?_setCell_same w1 ⟨a, 1, none⟩ (.bool true) k2
    clear hq HN
    go_wp2
    go_ret
    exact ⟨0, rfl, by rw [HN2.out]; exact HX.out, HG.out.trans HS.out, HI.out _ (fun _ h => absurd rfl h), Nat.zero_le _⟩
  | some l =>
    rw [hq] at hc HN HI
    have hc : Cur w1 a g (some l) := hc
    have HX := Lib.hid hc.err
    have HF := Lib.hid hc.fine
    obtain ⟨h1, h2, h3, h4, A, c, k1, k2, _⟩ := hc
    have k2b := World.cell?_setCell_same w1 ⟨a, 1, none⟩ (.bool true) k2
    have k2c := World.cell?_setCell_same w1 ⟨a, 1, none⟩ (.bool false) k2
    by_cases hr : 0 ≤ n ∧ n ≤ most
    · have HN2 := Lib.hid (show nx (pC most) q = some l by rw [HN.out, if_pos hr]; exact nx_ret)
      have hE : (decide (n < 0) || decide ((most : Int) < n)) = false := by simp; omega
      obtain ⟨r1, r2⟩ := hr
      obtain ⟨k, rfl⟩ : ∃ k : Nat, n = k := ⟨n.toNat, by omega⟩
      have hE1 : decide ((k : Int) < 0) = false := by simp
      have hE2 : decide ((most : Int) < (k : Int)) = false := by simp; omega
      clear hq HN
      go_wp2
      go_ret
      rw [show decide (most < k) = false by simp; omega]
      exact ⟨k, rfl, by rw [HN2.out]; exact HF.out, HG.out.trans HS2.out, HI.out _ (fun _ _ => by simp), by omega⟩
    · have HN2 := Lib.hid (show nx (pC most) q = none by rw [HN.out, if_neg hr]; exact nx_bad)
      clear hq HN
      by_cases r1 : n < 0
      · have HI2 := Lib.hid (HI.out 0 (fun h => absurd h hr))
        clear hr
        go_wp2
        go_ret
        exact ⟨0, rfl, by rw [HN2.out]; exact HX.out, HG.out.trans HS.out, HI2.out, Nat.zero_le _⟩
      · have HI2 := Lib.hid (HI.out 0 (fun h => absurd h hr))
        have r2 : (most : Int) < n := by omega
        clear hr
        go_wp2
        go_ret
        exact ⟨0, rfl, by rw [HN2.out]; exact HX.out, HG.out.trans HS.out, HI2.out, Nat.zero_le _⟩
end
end Go.Proofs.Ytdhpphbgobakhaa
/- The reference's Cursor of chapter 10 as a part of memory that other memory is older or younger than; Str and Real. Conditions: the Cursor's cells, and its bytes, lie in memory. -/
namespace Go.Proofs.Ytdhpphbgobakhaa
set_option maxRecDepth 100000
set_option linter.unusedVariables false
open Go.ChangeShapes Go.WideShapes Go.ChangeAt Go.RowKit
open Fl (S cmpK keyN normN)
open Val (V cmpV isB ltT)
open Lb
theorem resS_len (l : List UInt8) : (resS (some l)).length ≤ l.length := by
  unfold resS
  split
  · rename_i l' h
    unfold nxtI at h
    simp only [Option.bind_some, Option.map_eq_some_iff] at h
    obtain ⟨p, _, rfl⟩ := h
    split
    · simp; omega
    · simp
  · simp
theorem resR_lt (l : List UInt8) : resR (some l) < 2 * S := by
  by_cases ho : okR l = true
  · have hp : pR l = some (resR (some l), l.drop 8) := by simp [pR, nxtR, ho]
    exact (pR_wo hp).2
  · have e : resR (some l) = 0 := by simp [resR, ho]
    rw [e]; unfold S; omega
section
variable {a : Nat} {g : Option Nat} {q : Option (List UInt8)} {w : World}
theorem rcS_any (h : RCu w a g q) : Calls Try.prog 28 #[.pointer (some ⟨a, 0, none⟩)] w (RcM pS .string (fun x => x.size ≤ 1000000) a g q w) := by
  cases q with
  | none =>
    refine (rcstr_x a g w h).mono ?_
    rintro e w' ⟨rfl, hc, hg⟩
    exact ⟨bstr [], rfl, hc.dead, hg, is_none _ _, Nat.zero_le _⟩
  | some l =>
    have hl : l.length ≤ 1000000 := by
      have h' : Cur w a g (some l) := h
      obtain ⟨_, _, _, _, A, c, _, _, _, _, k5⟩ := h'
      exact k5
    refine (rcstr_any a g (some l) w h).mono ?_
    rintro e w' ⟨rfl, hc, hg⟩
    exact ⟨_, rfl, by rw [← (pS_nxt l).1]; exact curx hc, hg, (pS_nxt l).2, by show (bstr (resS (some l))).size ≤ 1000000; rw [bstr_size]; exact Nat.le_trans (resS_len l) hl⟩
theorem rcR_any (h : RCu w a g q) : Calls Try.prog 29 #[.pointer (some ⟨a, 0, none⟩)] w (RcM pR (.float .f64) (fun x => x < 2 * S) a g q w) := by
  cases q with
  | none =>
    refine (rcreal_x a g w h).mono ?_
    rintro e w' ⟨rfl, hc, hg⟩
    exact ⟨0, rfl, hc.dead, hg, is_none _ _, by unfold S; omega⟩
  | some l =>
    refine (rcreal_any a g (some l) w h).mono ?_
    rintro e w' ⟨rfl, hc, hg⟩
    exact ⟨_, rfl, by rw [← (pR_nxt l).1]; exact curx hc, hg, (pR_nxt l).2, resR_lt l⟩
end
/-- The Cursor in block a, its bytes in block g, both older than B. -/
structure RC (B a : Nat) (g : Option Nat) (q : Option (List UInt8)) (w : World) : Prop where
  cur : RCu w a g q
  aB : a < B
  gB : ∀ k, g = some k → k < B
  size : B ≤ w.heap.size
/-- Only the Cursor may have changed. -/
def F1 (a : Nat) : Nat → Prop := fun k => k = a
section
variable {B a : Nat} {g : Option Nat} {q : Option (List UInt8)} {w w1 w' : World}
theorem RC.grown {row : Option Nat} (h : RC B a g q w) (hg : w.grownBy w' row) (hr : ∀ k, row = some k → B ≤ k) : RC B a g q w' := by
  refine ⟨h.cur.kept hg (fun e => by have := hr a e.symm; have := h.aB; omega) ?_, h.aB, h.gB, Nat.le_trans h.size hg.size⟩
  cases g with
  | none => exact .inl rfl
  | some k => exact .inr (fun e => by have := hr k e.symm; have := h.gB k rfl; omega)
theorem RC.below (h : RC B a g q w) (hb : Below w.heap.size w w') : RC B a g q w' := h.grown (grown_of_below hb none) (fun k e => by cases e)
theorem RC.set (h : RC B a g q w) {k : Nat} (hk : B ≤ k) (o : Nat) (u : Value) : RC B a g q (w.setCell ⟨k, o, none⟩ u) := h.grown (grown_set w k o u) (fun j e => by injection e with e; omega)
theorem RC.alloc (h : RC B a g q w) (o : Obj) : RC B a g q (w.alloc o) := h.below (one_box w o)
theorem RC.f1 (h : RC B a g q w) {k : Nat} (hk : B ≤ k) : ¬ F1 a k := fun e => by have := h.aB; unfold F1 at e; omega
theorem chg1_set (h : Chg (F1 a) w w1) {k : Nat} (hk : w.heap.size ≤ k) (o : Nat) (u : Value) : Chg (F1 a) w (w1.setCell ⟨k, o, none⟩ u) := h.grown (grown_set w1 k o u) (fun j e => .inr (by injection e with e; omega))
theorem chg1_alloc (h : Chg (F1 a) w w1) (o : Obj) : Chg (F1 a) w (w1.alloc o) := h.grown (grown_of_below (one_box w1 o) none) (fun j e => by cases e)
theorem chg1_self (w : World) (o : Obj) : Chg (F1 a) w (w.alloc o) := chg1_alloc (Chg.refl _ w) o
theorem BX.chg1 {k : Nat} {t : TypeId} {cs : Array Value} (h : BX w k t cs) (hc : Chg (F1 a) w w') (hk : ¬ F1 a k) : BX w' k t cs := (hc.block k h.lt hk).trans h
/-- What is handed back, and where the Cursor stands. -/
def RcD {α : Type} (p : Prs α) (f : α → Value) (ok : α → Prop) (B a : Nat) (g : Option Nat) (q : Option (List UInt8)) (w : World) (e : Ending) (w' : World) : Prop :=
  ∃ x, e = .returned (f x) ∧ RC B a g (nx p q) w' ∧ Chg (F1 a) w w' ∧ Is p q x ∧ ok x
theorem rcd {α : Type} {p : Prs α} {f : α → Value} {ok : α → Prop} {fn : FuncId} {args : Array Value} (h : RC B a g q w) (hm : Calls Try.prog fn args w (RcM p f ok a g q w)) : Calls Try.prog fn args w (RcD p f ok B a g q w) := by
  refine hm.mono ?_
  rintro e w' ⟨x, rfl, hc, hg, hi, ho⟩
  exact ⟨x, rfl, ⟨hc, h.aB, h.gB, Nat.le_trans h.size hg.size⟩, (Chg.refl _ w).grown hg (fun k e => by injection e with e; subst e; exact .inl rfl), hi, ho⟩
end
end Go.Proofs.Ytdhpphbgobakhaa
/- The reference's toVal of chapter 10: what it reads. Conditions: the Cursor's cells, and its bytes, lie in memory. -/
namespace Go.Proofs.Ytdhpphbgobakhaa
set_option maxRecDepth 100000
set_option linter.unusedVariables false
open Go.ChangeShapes Go.WideShapes Go.ChangeAt Go.RowKit
open Fl (S cmpK keyN normN)
open Val (V cmpV isB ltT)
open Lb
/-- Of a size that Go allows. -/
def VD (v : V) : Prop := In64 v.k ∧ In64 v.n ∧ v.f < 2 * S ∧ v.t.size ≤ 1000000
section
variable {B a : Nat} {g : Option Nat} {q : Option (List UInt8)} {w w1 w' : World}
theorem chg12 {w1 w2 : World} (h : Chg (F1 a) w w1) (k : Chg (F1 a) w1 w2) : Chg (F1 a) w w2 := h.trans (k.mono fun _ hk => .inl hk)
theorem chg1_a (h : Chg (F1 a) w w1) (o : Nat) (u : Value) : Chg (F1 a) w (w1.setCell ⟨a, o, none⟩ u) := h.grown (grown_set w1 a o u) (fun j e => by injection e with e; subst e; exact .inl rfl)
theorem RCu.cell1 (h : RCu w a g q) : ∃ u, w.cell? ⟨a, 1, none⟩ = some u ∧ w.frozen? ⟨a, 1, none⟩ = false := by
  cases q with
  | none => obtain ⟨_, _, _, h4, A, l, c, _, k2, _⟩ := (show Cux w a g from h); exact ⟨_, k2, h4⟩
  | some l => obtain ⟨_, _, _, h4, A, c, _, k2, _⟩ := (show Cur w a g (some l) from h); exact ⟨_, k2, h4⟩
theorem RC.err (h : RC B a g q w) : RC B a g none (w.setCell ⟨a, 1, none⟩ (.bool true)) := by
  refine ⟨?_, h.aB, h.gB, by simpa [World.setCell] using h.size⟩
  have hc := h.cur
  cases q with
  | none => exact Cux.err hc
  | some l => exact Cur.err (show Cur w a g (some l) from hc)
set_option maxHeartbeats 2000000 in
theorem rtoval_any (h : RC B a g q w) : Calls Try.prog 55 #[.pointer (some ⟨a, 0, none⟩)] w (RcD (pV true) vv VD B a g q w) := by
  obtain ⟨V, hV⟩ : ∃ V, V = w.alloc (.cells #[.int .i64 0, .bool false, .int .i64 0, .float .f64 0, .string ⟨#[]⟩] 47) := ⟨_, rfl⟩
  have hbx : BX V w.heap.size 47 #[.int .i64 0, .bool false, .int .i64 0, .float .f64 0, .string ⟨#[]⟩] := by rw [hV]; exact bx_new w _ _
  have hrs : RC B a g q V := by rw [hV]; exact h.alloc _
  have hch : Chg (F1 a) w V := by rw [hV]; exact chg1_self w _
  have HI := Lib.hid (rcd hrs (rcI_any hrs.cur))
  have HB := Lib.hid hbx
  have HCH := Lib.hid hch
  have hBw : B ≤ w.heap.size := h.size
  have HNF := Lib.hid (fun k (hk : B ≤ k) => h.f1 hk)
  have HRB := Lib.hid (h.aB)
  clear h hbx hrs hch
  go_enter Try.func55, Try.ntmps55
  go_upto_region 1 with fail
  rw [← hV]
  clear hV
  go_wp2_with fail
  refine HI.out.mono ?_
  rintro e w1 ⟨x, rfl, h1, hc, hi, ho1⟩
  have HO1 : Hid (In64 x) := ho1
  clear ho1
  obtain ⟨W1, hW1⟩ : ∃ W1, W1 = w1.alloc (.cells #[.int .i64 x, .bool false, .int .i64 0, .float .f64 0, .string ⟨#[]⟩] 47) := ⟨_, rfl⟩
  have HR1 : Hid (RC B a g (nx pI q) W1) := by rw [hW1]; exact h1.alloc _
  have HB1 : Hid (BX W1 w.heap.size 47 #[.int .i64 0, .bool false, .int .i64 0, .float .f64 0, .string ⟨#[]⟩]) := by rw [hW1]; exact (HB.out.chg1 hc (HNF.out _ hBw)).below (one_box w1 _)
  have HB2 : Hid (BX W1 w1.heap.size 47 #[.int .i64 x, .bool false, .int .i64 0, .float .f64 0, .string ⟨#[]⟩]) := by rw [hW1]; exact bx_new w1 _ _
  have HC1 : Hid (Chg (F1 a) w W1) := by rw [hW1]; exact chg1_alloc (chg12 HCH.out hc) _
  have HSZ : w.heap.size < w1.heap.size := (HB.out.chg1 hc (HNF.out _ hBw)).lt
  have HS := Lib.hid hi
  have q0 := HB2.out.cell 0
  simp only [List.getElem?_toArray, List.getElem?_cons_zero] at q0
  go_upto_region 2 with fail
  rw [← hW1]
  clear hW1
  clear h1 hc hi HI
  by_cases h1 : x = 1
  · subst h1
    have HM := Lib.hid (rcd HR1.out (rtruth_any HR1.out.cur))
    go_wp2_with fail
    refine HM.out.mono ?_
    rintro e w2 ⟨y, rfl, h2, hc2, hi2, ho2⟩
    have HO2 := Lib.hid ho2
    clear ho2
    have HR2 := Lib.hid h2
    have b1 := HB1.out.chg1 hc2 (HNF.out _ hBw)
    have b2 := HB2.out.chg1 hc2 (HNF.out _ (by omega))
    have HC2 := Lib.hid (chg12 HC1.out hc2)
    have HV := Lib.hid (pV_k1 HS.out hi2 (s := true))
    have HB3 := Lib.hid (And.intro b1 b2)
    have p0 := b1.cell 0; have p1 := b1.cell 1; have p2 := b1.cell 2; have p3 := b1.cell 3; have p4 := b1.cell 4
    have q0 := b2.cell 0; have q1 := b2.cell 1; have q2 := b2.cell 2; have q3 := b2.cell 3; have q4 := b2.cell 4
    have pf := b1.frozen; have qf := b2.frozen
    have hne : w.heap.size ≠ w1.heap.size := by omega
    simp only [List.getElem?_toArray, List.getElem?_cons_zero, List.getElem?_cons_succ] at p0 p1 p2 p3 p4 q0 q1 q2 q3 q4
    clear h2 hc2 hi2 b1 b2
    go_wp2
    have r1 := ((((((HB3.out.1.other hne 1 (.bool y)).set 0 (.int .i64 1)).set 1 (.bool y)).set 2 (.int .i64 0)).set 3 (.float .f64 0)).set 4 (.string ⟨#[]⟩))
    have s0 := r1.cell 0; have s1 := r1.cell 1; have s2 := r1.cell 2; have s3 := r1.cell 3; have s4 := r1.cell 4
    simp at s0 s1 s2 s3 s4
    refine bodyPost_ret (v := vv ⟨1, y, 0, 0, ⟨#[]⟩⟩) (by simp [results, Try.results55, go_sem, s0, s1, s2, s3, s4]; try rfl) rfl ⟨_, rfl, ?_, ?_, HV.out.2, ?_⟩
    · rw [HV.out.1]
      iterate 5 (with_reducible refine RC.set ?_ (by omega) _ _)
      exact HR2.out.set (by omega) _ _
    · iterate 5 (with_reducible refine chg1_set ?_ (Nat.le_refl _) _ _)
      exact chg1_set HC2.out (by omega) _ _
    · exact ⟨by simp [In64], by simp [In64], by show 0 < 2 * S; unfold S; omega, Nat.zero_le _⟩
  by_cases h2 : x = 2
  · subst h2
    have HM := Lib.hid (rcd HR1.out (rcI_any HR1.out.cur))
    go_wp2_with fail
    refine HM.out.mono ?_
    rintro e w2 ⟨y, rfl, h2, hc2, hi2, ho2⟩
    have HO2 := Lib.hid ho2
    clear ho2
    have HR2 := Lib.hid h2
    have b1 := HB1.out.chg1 hc2 (HNF.out _ hBw)
    have b2 := HB2.out.chg1 hc2 (HNF.out _ (by omega))
    have HC2 := Lib.hid (chg12 HC1.out hc2)
    have HV := Lib.hid (pV_k2 HS.out hi2 (s := true))
    have HB3 := Lib.hid (And.intro b1 b2)
    have p0 := b1.cell 0; have p1 := b1.cell 1; have p2 := b1.cell 2; have p3 := b1.cell 3; have p4 := b1.cell 4
    have q0 := b2.cell 0; have q1 := b2.cell 1; have q2 := b2.cell 2; have q3 := b2.cell 3; have q4 := b2.cell 4
    have pf := b1.frozen; have qf := b2.frozen
    have hne : w.heap.size ≠ w1.heap.size := by omega
    simp only [List.getElem?_toArray, List.getElem?_cons_zero, List.getElem?_cons_succ] at p0 p1 p2 p3 p4 q0 q1 q2 q3 q4
    clear h2 hc2 hi2 b1 b2
    go_wp2
    have r1 := ((((((HB3.out.1.other hne 2 (.int .i64 y)).set 0 (.int .i64 2)).set 1 (.bool false)).set 2 (.int .i64 y)).set 3 (.float .f64 0)).set 4 (.string ⟨#[]⟩))
    have s0 := r1.cell 0; have s1 := r1.cell 1; have s2 := r1.cell 2; have s3 := r1.cell 3; have s4 := r1.cell 4
    simp at s0 s1 s2 s3 s4
    refine bodyPost_ret (v := vv ⟨2, false, y, 0, ⟨#[]⟩⟩) (by simp [results, Try.results55, go_sem, s0, s1, s2, s3, s4]; try rfl) rfl ⟨_, rfl, ?_, ?_, HV.out.2, ?_⟩
    · rw [HV.out.1]
      iterate 5 (with_reducible refine RC.set ?_ (by omega) _ _)
      exact HR2.out.set (by omega) _ _
    · iterate 5 (with_reducible refine chg1_set ?_ (Nat.le_refl _) _ _)
      exact chg1_set HC2.out (by omega) _ _
    · exact ⟨by simp [In64], HO2.out, by show 0 < 2 * S; unfold S; omega, Nat.zero_le _⟩
  by_cases h3 : x = 3
  · subst h3
    have HM := Lib.hid (rcd HR1.out (rcR_any HR1.out.cur))
    go_wp2_with fail
    refine HM.out.mono ?_
    rintro e w2 ⟨y, rfl, h2, hc2, hi2, ho2⟩
    have HO2 := Lib.hid ho2
    clear ho2
    have HR2 := Lib.hid h2
    have b1 := HB1.out.chg1 hc2 (HNF.out _ hBw)
    have b2 := HB2.out.chg1 hc2 (HNF.out _ (by omega))
    have HC2 := Lib.hid (chg12 HC1.out hc2)
    have HV := Lib.hid (pV_k3 HS.out hi2 (s := true))
    have HB3 := Lib.hid (And.intro b1 b2)
    have p0 := b1.cell 0; have p1 := b1.cell 1; have p2 := b1.cell 2; have p3 := b1.cell 3; have p4 := b1.cell 4
    have q0 := b2.cell 0; have q1 := b2.cell 1; have q2 := b2.cell 2; have q3 := b2.cell 3; have q4 := b2.cell 4
    have pf := b1.frozen; have qf := b2.frozen
    have hne : w.heap.size ≠ w1.heap.size := by omega
    simp only [List.getElem?_toArray, List.getElem?_cons_zero, List.getElem?_cons_succ] at p0 p1 p2 p3 p4 q0 q1 q2 q3 q4
    clear h2 hc2 hi2 b1 b2
    go_wp2
    have r1 := ((((((HB3.out.1.other hne 3 (.float .f64 y)).set 0 (.int .i64 3)).set 1 (.bool false)).set 2 (.int .i64 0)).set 3 (.float .f64 y)).set 4 (.string ⟨#[]⟩))
    have s0 := r1.cell 0; have s1 := r1.cell 1; have s2 := r1.cell 2; have s3 := r1.cell 3; have s4 := r1.cell 4
    simp at s0 s1 s2 s3 s4
    refine bodyPost_ret (v := vv ⟨3, false, 0, y, ⟨#[]⟩⟩) (by simp [results, Try.results55, go_sem, s0, s1, s2, s3, s4]; try rfl) rfl ⟨_, rfl, ?_, ?_, HV.out.2, ?_⟩
    · rw [HV.out.1]
      iterate 5 (with_reducible refine RC.set ?_ (by omega) _ _)
      exact HR2.out.set (by omega) _ _
    · iterate 5 (with_reducible refine chg1_set ?_ (Nat.le_refl _) _ _)
      exact chg1_set HC2.out (by omega) _ _
    · exact ⟨by simp [In64], by simp [In64], HO2.out, Nat.zero_le _⟩
  by_cases h4 : x = 4
  · subst h4
    have HM := Lib.hid (rcd HR1.out (rcS_any HR1.out.cur))
    go_wp2_with fail
    refine HM.out.mono ?_
    rintro e w2 ⟨y, rfl, h2, hc2, hi2, ho2⟩
    have HO2 := Lib.hid ho2
    clear ho2
    have HR2 := Lib.hid h2
    have b1 := HB1.out.chg1 hc2 (HNF.out _ hBw)
    have b2 := HB2.out.chg1 hc2 (HNF.out _ (by omega))
    have HC2 := Lib.hid (chg12 HC1.out hc2)
    have HV := Lib.hid (pV_k4 HS.out hi2 (s := true))
    have HB3 := Lib.hid (And.intro b1 b2)
    have p0 := b1.cell 0; have p1 := b1.cell 1; have p2 := b1.cell 2; have p3 := b1.cell 3; have p4 := b1.cell 4
    have q0 := b2.cell 0; have q1 := b2.cell 1; have q2 := b2.cell 2; have q3 := b2.cell 3; have q4 := b2.cell 4
    have pf := b1.frozen; have qf := b2.frozen
    have hne : w.heap.size ≠ w1.heap.size := by omega
    simp only [List.getElem?_toArray, List.getElem?_cons_zero, List.getElem?_cons_succ] at p0 p1 p2 p3 p4 q0 q1 q2 q3 q4
    clear h2 hc2 hi2 b1 b2
    go_wp2
    have r1 := ((((((HB3.out.1.other hne 4 (.string y)).set 0 (.int .i64 4)).set 1 (.bool false)).set 2 (.int .i64 0)).set 3 (.float .f64 0)).set 4 (.string y))
    have s0 := r1.cell 0; have s1 := r1.cell 1; have s2 := r1.cell 2; have s3 := r1.cell 3; have s4 := r1.cell 4
    simp at s0 s1 s2 s3 s4
    refine bodyPost_ret (v := vv ⟨4, false, 0, 0, y⟩) (by simp [results, Try.results55, go_sem, s0, s1, s2, s3, s4]; try rfl) rfl ⟨_, rfl, ?_, ?_, HV.out.2, ?_⟩
    · rw [HV.out.1]
      iterate 5 (with_reducible refine RC.set ?_ (by omega) _ _)
      exact HR2.out.set (by omega) _ _
    · iterate 5 (with_reducible refine chg1_set ?_ (Nat.le_refl _) _ _)
      exact chg1_set HC2.out (by omega) _ _
    · exact ⟨by simp [In64], by simp [In64], by show 0 < 2 * S; unfold S; omega, HO2.out⟩
  have e1 : (x == 1) = false := by simpa using h1
  have e2 : (x == 2) = false := by simpa using h2
  have e3 : (x == 3) = false := by simpa using h3
  have e4 : (x == 4) = false := by simpa using h4
  have HV := Lib.hid (pV_k6 (v := ⟨x, false, 0, 0, ⟨#[]⟩⟩) HS.out h1 h2 h3 h4)
  clear h1 h2 h3 h4
  have b1 := HB1.out
  have b2 := HB2.out
  have ha1 : w.heap.size ≠ a := by have := HRB.out; omega
  have ha2 : w1.heap.size ≠ a := by have := HRB.out; omega
  obtain ⟨u, hu, hf⟩ := HR1.out.cur.cell1
  have HRE := Lib.hid (HR1.out.err)
  have HCE := Lib.hid (chg1_a HC1.out 1 (.bool true))
  have HB3 := Lib.hid (And.intro (b1.other ha1 1 (.bool true)) (b2.other ha2 1 (.bool true)))
  have p0 := b1.cell 0; have p1 := b1.cell 1; have p2 := b1.cell 2; have p3 := b1.cell 3; have p4 := b1.cell 4
  have q0 := b2.cell 0; have q1 := b2.cell 1; have q2 := b2.cell 2; have q3 := b2.cell 3; have q4 := b2.cell 4
  have pf := b1.frozen; have qf := b2.frozen
  have hne : w.heap.size ≠ w1.heap.size := by omega
  simp only [List.getElem?_toArray, List.getElem?_cons_zero, List.getElem?_cons_succ] at p0 p1 p2 p3 p4 q0 q1 q2 q3 q4
  clear b1 b2
  go_wp2
  have r1 := (((((HB3.out.1.set 0 (.int .i64 x)).set 1 (.bool false)).set 2 (.int .i64 0)).set 3 (.float .f64 0)).set 4 (.string ⟨#[]⟩))
  have s0 := r1.cell 0; have s1 := r1.cell 1; have s2 := r1.cell 2; have s3 := r1.cell 3; have s4 := r1.cell 4
  simp at s0 s1 s2 s3 s4
  refine bodyPost_ret (v := vv ⟨x, false, 0, 0, ⟨#[]⟩⟩) (by simp [results, Try.results55, go_sem, s0, s1, s2, s3, s4]; try rfl) rfl ⟨_, rfl, ?_, ?_, HV.out.2, ?_⟩
  · rw [HV.out.1]
    iterate 5 (with_reducible refine RC.set ?_ (by omega) _ _)
    exact HRE.out
  · iterate 5 (with_reducible refine chg1_set ?_ (Nat.le_refl _) _ _)
    exact HCE.out
  · exact ⟨HO1.out, by simp [In64], by show 0 < 2 * S; unfold S; omega, Nat.zero_le _⟩
end
end Go.Proofs.Ytdhpphbgobakhaa
/- The reference's toNode of chapter 10. Conditions: the Cursor's cells, and its bytes, lie in memory. -/
namespace Go.Proofs.Ytdhpphbgobakhaa
set_option maxRecDepth 100000
set_option linter.unusedVariables false
open Go.ChangeShapes Go.WideShapes Go.ChangeAt Go.RowKit
open Fl (S cmpK keyN normN)
open Val (V cmpV isB ltT)
open Lb
/-- Of a size that Go allows. -/
def NdD (n : Nd) : Prop := n.ls.length ≤ 3 ∧ n.ps.length ≤ 3 ∧ (∀ y ∈ n.ls, y.size ≤ 1000000) ∧ ∀ y ∈ n.ps, y.k.size ≤ 1000000 ∧ VD y.v
theorem chg1_row {a : Nat} {w w1 w2 : World} {row : Option Nat} (h : Chg (F1 a) w w1) (hg : w1.grownBy w2 row) (hr : ∀ k, row = some k → w.heap.size ≤ k) : Chg (F1 a) w w2 := h.grown hg (fun k e => .inr (hr k e))
theorem ro_chg1 {B a : Nat} {g : Option Nat} {q : Option (List UInt8)} {w w' w0 : World} {e size n B' : Nat} {v : Value} {xs : List Value} (h : RO e size B' w v n xs) (hb : B ≤ B') (hs : RC B a g q w0) (hc : Chg (F1 a) w w') : RO e size B' w' v n xs :=
  ⟨own_same h.r (fun k hk => hc.block k (h.lt hk) (hs.f1 (Nat.le_trans hb (h.n k hk)))), h.n⟩
/-- While a node is read: the box nb, the result's box rb, the labels so far (v1), the properties so far (v2). -/
structure NR (B a : Nat) (g : Option Nat) (w : World) (nb rb : Nat) (q : Option (List UInt8)) (L : List ByteArray) (P : List Pr) (v1 v2 : Value) (W : World) : Prop where
  rs : RC B a g q W
  ch : Chg (F1 a) w W
  bx : BX W nb 43 #[v1, v2]
  br : BX W rb 43 #[.slice none 0 0, .slice none 0 0]
  l : RO 9 1 w.heap.size W v1 L.length (L.map Value.string)
  p : RO 49 6 w.heap.size W v2 P.length (pcs P)
section
variable {B a : Nat} {g : Option Nat} {q q' : Option (List UInt8)} {w W W' : World} {nb rb : Nat} {L : List ByteArray} {P : List Pr} {v1 v2 v : Value}
theorem NR.below (h : NR B a g w nb rb q L P v1 v2 W) (hb : Below W.heap.size W W') : NR B a g w nb rb q L P v1 v2 W' :=
  ⟨h.rs.below hb, h.ch.grown (grown_of_below hb none) (fun k e => by cases e), h.bx.below hb, h.br.below hb, h.l.below hb, h.p.below hb⟩
/-- Something was read. -/
theorem NR.read (h : NR B a g w nb rb q L P v1 v2 W) (hB : B ≤ w.heap.size) (hn : w.heap.size ≤ nb) (hr : w.heap.size ≤ rb) (hs : RC B a g q' W') (hc : Chg (F1 a) W W') : NR B a g w nb rb q' L P v1 v2 W' :=
  ⟨hs, chg12 h.ch hc, h.bx.chg1 hc (h.rs.f1 (by omega)), h.br.chg1 hc (h.rs.f1 (by omega)), ro_chg1 h.l hB h.rs hc, ro_chg1 h.p hB h.rs hc⟩
/-- A label more. -/
theorem NR.lab {x : ByteArray} {W1 : World} (h : NR B a g w nb rb q L P v1 v2 W1) (hB : B ≤ w.heap.size) (hn : w.heap.size ≤ nb) (hr : w.heap.size ≤ rb) (hnr : nb ≠ rb) (hw : w.heap.size ≤ W1.heap.size)
    (ho : W.ownsRow 0 9 1 v (L.length + 1) (L.map Value.string ++ [.string x])) (hg : W1.grownBy W v1.ownBlock) (hv : v.ownBlock = v1.ownBlock ∨ v.ownBlock = some W1.heap.size) :
    BX W nb 43 #[v1, v2] ∧ NR B a g w nb rb q (L ++ [x]) P v v2 (W.setCell ⟨nb, 0, none⟩ v) := by
  have n1 : some nb ≠ v1.ownBlock := fun e => ro_bx h.l h.bx (by decide) e.symm
  have n2 : some rb ≠ v1.ownBlock := fun e => ro_bx h.l h.br (by decide) e.symm
  have b1 := h.bx.kept hg n1
  have hl : RO 9 1 w.heap.size W v (L.length + 1) (L.map Value.string ++ [.string x]) := h.l.next hw ho hv
  have m1 : ∀ k, v.ownBlock = some k → some k ≠ some nb := fun k hk e => ro_bx hl b1 (by decide) (hk.trans e)
  have hp : RO 49 6 w.heap.size W v2 P.length (pcs P) := h.p.kept hg (fun k hk e => by
    obtain ⟨c1, e1⟩ := own_type h.l.r (e.symm)
    obtain ⟨c2, e2⟩ := own_type h.p.r hk
    rw [e1] at e2
    injection e2 with e2
    injection e2 with _ e2
    exact absurd e2 (by decide))
  have m2 : ∀ k, v2.ownBlock = some k → some k ≠ some nb := fun k hk e => ro_bx hp b1 (by decide) (hk.trans e)
  refine ⟨b1, ⟨(h.rs.grown hg (fun k e => Nat.le_trans hB (h.l.n k e))).set (by omega) 0 v, chg1_set (chg1_row h.ch hg (fun k e => h.l.n k e)) hn 0 v, b1.set 0 v, (h.br.kept hg n2).other (fun e => hnr e.symm) 0 v, ?_, hp.kept (grown_set W nb 0 v) m2⟩⟩
  have := hl.kept (grown_set W nb 0 v) m1
  simpa using this
/-- A property more. -/
theorem NR.prp {x : Pr} {W1 : World} (h : NR B a g w nb rb q L P v1 v2 W1) (hB : B ≤ w.heap.size) (hn : w.heap.size ≤ nb) (hr : w.heap.size ≤ rb) (hnr : nb ≠ rb) (hw : w.heap.size ≤ W1.heap.size)
    (ho : W.ownsRow 0 49 6 v (P.length + 1) (pcs P ++ prc x)) (hg : W1.grownBy W v2.ownBlock) (hv : v.ownBlock = v2.ownBlock ∨ v.ownBlock = some W1.heap.size) :
    BX W nb 43 #[v1, v2] ∧ NR B a g w nb rb q L (P ++ [x]) v1 v (W.setCell ⟨nb, 1, none⟩ v) := by
  have n1 : some nb ≠ v2.ownBlock := fun e => ro_bx h.p h.bx (by decide) e.symm
  have n2 : some rb ≠ v2.ownBlock := fun e => ro_bx h.p h.br (by decide) e.symm
  have b1 := h.bx.kept hg n1
  have hl : RO 49 6 w.heap.size W v (P.length + 1) (pcs P ++ prc x) := h.p.next hw ho hv
  have m1 : ∀ k, v.ownBlock = some k → some k ≠ some nb := fun k hk e => ro_bx hl b1 (by decide) (hk.trans e)
  have hp : RO 9 1 w.heap.size W v1 L.length (L.map Value.string) := h.l.kept hg (fun k hk e => by
    obtain ⟨c1, e1⟩ := own_type h.p.r (e.symm)
    obtain ⟨c2, e2⟩ := own_type h.l.r hk
    rw [e1] at e2
    injection e2 with e2
    injection e2 with _ e2
    exact absurd e2 (by decide))
  have m2 : ∀ k, v1.ownBlock = some k → some k ≠ some nb := fun k hk e => ro_bx hp b1 (by decide) (hk.trans e)
  refine ⟨b1, ⟨(h.rs.grown hg (fun k e => Nat.le_trans hB (h.p.n k e))).set (by omega) 1 v, chg1_set (chg1_row h.ch hg (fun k e => h.p.n k e)) hn 1 v, b1.set 1 v, (h.br.kept hg n2).other (fun e => hnr e.symm) 1 v, hp.kept (grown_set W nb 1 v) m2, ?_⟩⟩
  have := hl.kept (grown_set W nb 1 v) m1
  rw [← pcs_snoc] at this
  simpa using this
end
/- A cell elsewhere. -/
theorem NR.other {B a : Nat} {g : Option Nat} {q : Option (List UInt8)} {w W : World} {nb rb k : Nat} {L : List ByteArray} {P : List Pr} {v1 v2 : Value} (h : NR B a g w nb rb q L P v1 v2 W) (hB : B ≤ w.heap.size) (hk : w.heap.size ≤ k) (h1 : nb ≠ k) (h2 : rb ≠ k) (n1 : ∀ j, v1.ownBlock = some j → j ≠ k) (n2 : ∀ j, v2.ownBlock = some j → j ≠ k) (o : Nat) (u : Value) : NR B a g w nb rb q L P v1 v2 (W.setCell ⟨k, o, none⟩ u) :=
  ⟨h.rs.set (by omega) o u, chg1_set h.ch hk o u, h.bx.other h1 o u, h.br.other h2 o u, h.l.kept (grown_set W k o u) (fun j hj e => by injection e with e; exact n1 j hj e), h.p.kept (grown_set W k o u) (fun j hj e => by injection e with e; exact n2 j hj e)⟩
section
variable {B a : Nat} {g : Option Nat} {q : Option (List UInt8)} {w w1 w' : World}
set_option maxHeartbeats 4000000 in
theorem rtonode_any (h : RC B a g q w) : Calls Try.prog 30 #[.pointer (some ⟨a, 0, none⟩)] w fun e w' => ∃ n s, e = .returned (ndv n s) ∧ RC B a g (nx (pN true) q) w' ∧ Chg (F1 a) w w' ∧ Is (pN true) q n ∧ NdN w.heap.size w' n s ∧ NdD n := by
  obtain ⟨V, hV⟩ : ∃ V, V = (w.alloc (.cells #[.slice none 0 0, .slice none 0 0] 43)).alloc (.cells #[.slice none 0 0, .slice none 0 0] 43) := ⟨_, rfl⟩
  have h1 := h.alloc (.cells #[.slice none 0 0, .slice none 0 0] 43)
  have hz : (w.alloc (.cells #[.slice none 0 0, .slice none 0 0] 43)).heap.size = w.heap.size + 1 := by simp
  have hn : BX V (w.heap.size + 1) 43 #[.slice none 0 0, .slice none 0 0] := by rw [hV, ← hz]; exact bx_new _ _ _
  have hr : BX V w.heap.size 43 #[.slice none 0 0, .slice none 0 0] := by rw [hV]; exact (bx_new w _ _).below (one_box _ _)
  have hI : NR B a g w (w.heap.size + 1) w.heap.size q [] [] (.slice none 0 0) (.slice none 0 0) V := ⟨by rw [hV]; exact h1.alloc _, by rw [hV]; exact chg1_alloc (chg1_self w _) _, hn, hr, RO.nil _ _ _ _, RO.nil _ _ _ _⟩
  have HI := Lib.hid hI
  have hBw : B ≤ w.heap.size := h.size
  have HC0 := Lib.hid (rcd hI.rs (rmany_any hI.rs.cur 3 (by decide)))
  clear h h1 hz hn hr
  go_enter Try.func30, Try.ntmps30
  go_upto_region 2 with fail
  rw [← hV]
  clear hV hI
  go_wp2_with fail
  refine HC0.out.mono ?_
  rintro e w1 ⟨c1, rfl, hR1, hch1, hi1, hc1⟩
  have H1 := Lib.hid (HI.out.read hBw (Nat.le_succ _) (Nat.le_refl _) hR1 hch1)
  have HI1 := Lib.hid hi1
  have HM0 := Lib.hid (many_zero (q := nx (pC 3) q) pS)
  clear hR1 hch1 hi1 HC0
  go_wp2
  go_loopw [5] (fun i wr => ∃ (L : List ByteArray) (v : Value), L.length ≤ c1 ∧ Hid (∀ y ∈ L, y.size ≤ 1000000) ∧ i = .int .i64 (L.length : Nat) ∧ Hid (NR B a g w (w.heap.size + 1) w.heap.size (nx (pMany pS L.length) (nx (pC 3) q)) L [] v (.slice none 0 0) wr) ∧ Hid (Is (pMany pS L.length) (nx (pC 3) q) L)) (fun i _ => c1 - (intOf i).toNat)
  case atStart => exact ⟨[], _, Nat.zero_le _, (fun y hy => by cases hy), rfl, by have := HM0.out.1; rw [← this] at H1; exact H1.out, HM0.out.2⟩
  case round =>
    obtain ⟨L, v, hk, HL, rfl, HN, HS⟩ := hrel
    obtain ⟨A, cp, hv⟩ := own_slice HN.out.l.r
    by_cases hlt : L.length < c1
    · have hd := HN.out.below (Below.refl wr.heap.size wr).drew
      have HD := Lib.hid hd
      have HST := Lib.hid (rcd hd.rs (rcS_any hd.rs.cur))
      have b0 := hd.bx.cell 0
      have bf := hd.bx.frozen
      rw [hv] at b0
      simp only [List.getElem?_toArray, List.getElem?_cons_zero] at b0
      have HLE : Hid (L.length + 1 ≤ 1000000) := by simp only [Hid]; omega
      clear hd
      go_upto_region 6 with fail
      go_region_law ((first
        | (refine st_of rfl (own_wp 40 9 _ 1 16 Try.underlying40 infoS rfl (by decide) (by decide) (.tmp 17) (.tmp 20) rfl _ _ (L.map Value.string) H3A.out.l.r (by rw [hv]; rfl) ⟨w3.heap.size, 0, none⟩ 1 1 [.string x] rfl rfl HCN.out (fun u hu => by simp at hu; rw [hu]; rfl) HLE.out ?_); intro v4 w4 ho4 hg4 hv4; obtain ⟨A4, c4, rfl⟩ := own_slice ho4; have H4 := Lib.hid (H3A.out.lab hBw (Nat.le_succ _) (Nat.le_refl _) (by omega) hsz3 ho4 hg4 hv4); have d0 := H4.out.1.cell 0; have df := H4.out.1.frozen; simp only [List.getElem?_toArray, List.getElem?_cons_zero] at d0; clear ho4 hg4 hv4)
        | (go_simp; go_at_call 28; refine HST.out.mono ?_; rintro e w3 ⟨x, rfl, hR3, hc3, hi3, hx3⟩; have HX3 := Lib.hid hx3; clear hx3; have h3 := HD.out.read hBw (Nat.le_succ _) (Nat.le_refl _) hR3 hc3; have HI3 := Lib.hid hi3; have e0 := h3.bx.cell 0; rw [hv] at e0; simp only [List.getElem?_toArray, List.getElem?_cons_zero] at e0; have h3a := h3.below (one_box w3 (.cells #[.string x] 9)); have H3A := Lib.hid h3a; have f0 := h3a.bx.cell 0; rw [hv] at f0; simp only [List.getElem?_toArray, List.getElem?_cons_zero] at f0; have HCN := Lib.hid (new_cells w3 #[.string x] 9); have hsz3 : w.heap.size ≤ (w3.alloc (.cells #[.string x] 9)).heap.size := h3a.ch.size; clear hR3 hc3 hi3 h3 h3a)))
      all_goals (
        have HN2 := Lib.hid H4.out.2
        have HMS := Lib.hid (many_step HS.out HI3.out)
        clear b0 bf d0 df e0 f0 HD HST H3A H4 HCN HI3
        generalize w4.setCell ⟨w.heap.size + 1, 0, none⟩ (.slice A4 (L.length + 1) c4) = W4 at *
        have HN3 : Hid (NR B a g w (w.heap.size + 1) w.heap.size (nx (pMany pS (L ++ [x]).length) (nx (pC 3) q)) (L ++ [x]) [] (.slice A4 (L.length + 1) c4) (.slice none 0 0) W4) := by
          have := HN2.out
          rw [← HMS.out.1] at this
          simp only [Hid]
          simpa using this
        have HS3 : Hid (Is (pMany pS (L ++ [x]).length) (nx (pC 3) q) (L ++ [x])) := by have := HMS.out.2; simp only [Hid]; simpa using this
        clear HN2 HMS
        go_wp2
        have HL3 : Hid (∀ y ∈ L ++ [x], y.size ≤ 1000000) := fun y hy => by
          rcases List.mem_append.1 hy with hy | hy
          · exact HL.out y hy
          · rw [List.mem_singleton.1 hy]; exact HX3.out
        exact ⟨⟨L ++ [x], _, by simp; omega, HL3.out, by simp, HN3.out, HS3.out⟩, by simp [intOf]; omega⟩)
    · have hend : L.length = c1 := by omega
      have HEL := Lib.hid hend
      have HC2 := Lib.hid (rcd HN.out.rs (rmany_any HN.out.rs.cur 3 (by decide)))
      go_wp2_with fail
      refine HC2.out.mono ?_
      rintro e w2 ⟨c2, rfl, hR2, hch2, hi2, hc2⟩
      have H2 := Lib.hid (HN.out.read hBw (Nat.le_succ _) (Nat.le_refl _) hR2 hch2)
      have HI2 := Lib.hid hi2
      have HM0 := Lib.hid (many_zero (q := nx (pC 3) (nx (pMany pS L.length) (nx (pC 3) q))) (pP true))
      clear hR2 hch2 hi2 HC2 HN hend hlt
      go_wp2
      go_loopw [6] (fun i wr => ∃ (P : List Pr) (v2 : Value), P.length ≤ c2 ∧ Hid (∀ y ∈ P, y.k.size ≤ 1000000 ∧ VD y.v) ∧ i = .int .i64 (P.length : Nat) ∧ Hid (NR B a g w (w.heap.size + 1) w.heap.size (nx (pMany (pP true) P.length) (nx (pC 3) (nx (pMany pS L.length) (nx (pC 3) q)))) L P v v2 wr) ∧ Hid (Is (pMany (pP true) P.length) (nx (pC 3) (nx (pMany pS L.length) (nx (pC 3) q))) P)) (fun i _ => c2 - (intOf i).toNat)
      case atStart => exact ⟨[], _, Nat.zero_le _, (fun y hy => by cases hy), rfl, by have := HM0.out.1; rw [← this] at H2; exact H2.out, HM0.out.2⟩
      case round =>
        obtain ⟨P, v2, hk2, HP, rfl, HN, HS2⟩ := hrel
        obtain ⟨A2, cp2, hv2⟩ := own_slice HN.out.p.r
        by_cases hlt : P.length < c2
        · have HST := Lib.hid (rcd HN.out.rs (rcS_any HN.out.rs.cur))
          have HLE : Hid (P.length + 1 ≤ 1000000) := by simp only [Hid]; omega
          go_wp2_with fail
          refine HST.out.mono ?_
          rintro e w3 ⟨x, rfl, hR3, hc3, hi3, hx3⟩
          have h3 := HN.out.read hBw (Nat.le_succ _) (Nat.le_refl _) hR3 hc3
          have HI3 := Lib.hid hi3
          have HX3 : Hid (x.size ≤ 1000000) := hx3
          obtain ⟨W3, hW3⟩ : ∃ W3, W3 = w3.alloc (.cells #[.string x, .int .i64 0, .bool false, .int .i64 0, .float .f64 0, .string ⟨#[]⟩] 49) := ⟨_, rfl⟩
          have H4 : Hid (NR B a g w (w.heap.size + 1) w.heap.size (nx pS (nx (pMany (pP true) P.length) (nx (pC 3) (nx (pMany pS L.length) (nx (pC 3) q))))) L P v v2 W3) := by rw [hW3]; exact h3.below (one_box _ _)
          have HB4 : Hid (BX W3 w3.heap.size 49 #[.string x, .int .i64 0, .bool false, .int .i64 0, .float .f64 0, .string ⟨#[]⟩]) := by rw [hW3]; exact bx_new _ _ _
          have hsz3 : w.heap.size + 1 < w3.heap.size := h3.bx.lt
          have HLT : Hid (∀ k, v2.ownBlock = some k → k < w3.heap.size) := fun k hk => h3.p.lt hk
          clear h3 hR3 hc3 hi3 hx3 HST HN
          go_upto_region 12 with fail
          rw [← hW3]
          clear hW3
          have HTV := Lib.hid (rtoval_any H4.out.rs)
          go_wp2_with fail
          refine HTV.out.mono ?_
          rintro e w4 ⟨y, rfl, hR4, hc4, hi4, hy4⟩
          have HI4 := Lib.hid hi4
          have HY4 := Lib.hid hy4
          have hb5 := HB4.out.chg1 hc4 (H4.out.rs.f1 (by omega))
          have H5 := Lib.hid (H4.out.read hBw (Nat.le_succ _) (Nat.le_refl _) hR4 hc4)
          have HB5 := Lib.hid hb5
          have p0 := hb5.cell 0; have p1 := hb5.cell 1; have p2 := hb5.cell 2; have p3 := hb5.cell 3; have p4 := hb5.cell 4; have p5 := hb5.cell 5
          have pf := hb5.frozen
          simp only [List.getElem?_toArray, List.getElem?_cons_zero, List.getElem?_cons_succ] at p0 p1 p2 p3 p4 p5
          obtain ⟨yk, yb, yn, yf, yt⟩ := y
          clear hb5 hR4 hc4 hi4 hy4 HTV H4 HB4
          obtain ⟨W5, hW5⟩ : ∃ W5, W5 = ((((w4.setCell ⟨w3.heap.size, 1, none⟩ (.int .i64 yk)).setCell ⟨w3.heap.size, 2, none⟩ (.bool yb)).setCell ⟨w3.heap.size, 3, none⟩ (.int .i64 yn)).setCell ⟨w3.heap.size, 4, none⟩ (.float .f64 yf)).setCell ⟨w3.heap.size, 5, none⟩ (.string yt) := ⟨_, rfl⟩
          have HB6 : Hid (BX W5 w3.heap.size 49 #[.string x, .int .i64 yk, .bool yb, .int .i64 yn, .float .f64 yf, .string yt]) := by
            rw [hW5]
            have q1 : BX _ w3.heap.size 49 #[.string x, .int .i64 yk, .bool false, .int .i64 0, .float .f64 0, .string ⟨#[]⟩] := HB5.out.set 1 (.int .i64 yk)
            have q2 : BX _ w3.heap.size 49 #[.string x, .int .i64 yk, .bool yb, .int .i64 0, .float .f64 0, .string ⟨#[]⟩] := q1.set 2 (.bool yb)
            have q3 : BX _ w3.heap.size 49 #[.string x, .int .i64 yk, .bool yb, .int .i64 yn, .float .f64 0, .string ⟨#[]⟩] := q2.set 3 (.int .i64 yn)
            have q4 : BX _ w3.heap.size 49 #[.string x, .int .i64 yk, .bool yb, .int .i64 yn, .float .f64 yf, .string ⟨#[]⟩] := q3.set 4 (.float .f64 yf)
            exact q4.set 5 (.string yt)
          have n1 : ∀ k, v.ownBlock = some k → k ≠ w3.heap.size := fun k hk e => ro_bx H5.out.l HB5.out (by decide) (by rw [hk, e])
          have n2 : ∀ k, v2.ownBlock = some k → k ≠ w3.heap.size := fun k hk e => by have := HLT.out k hk; omega
          have H6 : Hid (NR B a g w (w.heap.size + 1) w.heap.size (nx (pV true) (nx pS (nx (pMany (pP true) P.length) (nx (pC 3) (nx (pMany pS L.length) (nx (pC 3) q)))))) L P v v2 W5) := by
            rw [hW5]
            have s := fun {W : World} (h : NR B a g w (w.heap.size + 1) w.heap.size (nx (pV true) (nx pS (nx (pMany (pP true) P.length) (nx (pC 3) (nx (pMany pS L.length) (nx (pC 3) q)))))) L P v v2 W) (o : Nat) (u : Value) => h.other hBw (by omega) (by omega) (by omega) n1 n2 o u
            exact s (s (s (s (s H5.out 1 _) 2 _) 3 _) 4 _) 5 _
          have p6 := H6.out.bx.cell 1
          have p7 := HB6.out.cell 0; have p8 := HB6.out.cell 1; have p9 := HB6.out.cell 2; have p10 := HB6.out.cell 3; have p11 := HB6.out.cell 4; have p12 := HB6.out.cell 5
          rw [hv2] at p6
          simp only [List.getElem?_toArray, List.getElem?_cons_zero, List.getElem?_cons_succ] at p6 p7 p8 p9 p10 p11 p12
          clear n1 n2 HLT
          go_upto_region 13 with fail
          rw [← hW5]
          clear hW5 p0 p1 p2 p3 p4 p5 pf
          have H7 := Lib.hid (H6.out.below (one_box W5 (.cells #[.string x, .int .i64 yk, .bool yb, .int .i64 yn, .float .f64 yf, .string yt] 49)))
          have HCN := Lib.hid (new_cells W5 #[.string x, .int .i64 yk, .bool yb, .int .i64 yn, .float .f64 yf, .string yt] 49)
          have hsz7 : w.heap.size ≤ (W5.alloc (.cells #[.string x, .int .i64 yk, .bool yb, .int .i64 yn, .float .f64 yf, .string yt] 49)).heap.size := H7.out.ch.size
          have e0 := H7.out.bx.cell 1
          rw [hv2] at e0
          simp only [List.getElem?_toArray, List.getElem?_cons_zero, List.getElem?_cons_succ] at e0
          go_wp2_with (refine wp_own 41 49 _ 6 64 Try.underlying41 infoP rfl (by decide) (by decide) rfl (.tmp 37) (.tmp 39) rfl _ _ (pcs P) H7.out.p.r (by rw [hv2]; rfl) ⟨W5.heap.size, 0, none⟩ 1 1 (prc ⟨x, ⟨yk, yb, yn, yf, yt⟩⟩) rfl rfl HCN.out (prc_one _) HLE.out ?_)
          intro v6 w6 ho6 hg6 hv6
          rw [← hv2] at hg6 hv6
          obtain ⟨A6, c6, rfl⟩ := own_slice ho6
          have H8 := Lib.hid (H7.out.prp hBw (Nat.le_succ _) (Nat.le_refl _) (by omega) hsz7 ho6 hg6 (by rw [show (W5.alloc (.cells #[.string x, .int .i64 yk, .bool yb, .int .i64 yn, .float .f64 yf, .string yt] 49)).heap.size = W5.heap.size + 1 by simp]; exact hv6))
          have d0 := H8.out.1.cell 1
          have df := H8.out.1.frozen
          simp only [List.getElem?_toArray, List.getElem?_cons_zero, List.getElem?_cons_succ] at d0
          have HN2 := Lib.hid H8.out.2
          have HXP := Lib.hid (pP_step HI3.out HI4.out)
          have HMS := Lib.hid (many_step HS2.out HXP.out.1)
          clear ho6 hg6 hv6 e0 p6 p7 p8 p9 p10 p11 p12 H5 H6 H7 H8 HB5 HB6 HCN HI3 HI4
          go_wp2
          generalize w6.setCell ⟨w.heap.size + 1, 1, none⟩ (.slice A6 (P.length + 1) c6) = W6 at *
          have HN3 : Hid (NR B a g w (w.heap.size + 1) w.heap.size (nx (pMany (pP true) (P ++ [(⟨x, ⟨yk, yb, yn, yf, yt⟩⟩ : Pr)]).length) (nx (pC 3) (nx (pMany pS L.length) (nx (pC 3) q)))) L (P ++ [(⟨x, ⟨yk, yb, yn, yf, yt⟩⟩ : Pr)]) v (.slice A6 (P.length + 1) c6) W6) := by
            have := HN2.out
            rw [← HXP.out.2, ← HMS.out.1] at this
            simp only [Hid]
            simpa using this
          have HS3 : Hid (Is (pMany (pP true) (P ++ [(⟨x, ⟨yk, yb, yn, yf, yt⟩⟩ : Pr)]).length) (nx (pC 3) (nx (pMany pS L.length) (nx (pC 3) q))) (P ++ [(⟨x, ⟨yk, yb, yn, yf, yt⟩⟩ : Pr)])) := by have := HMS.out.2; simp only [Hid]; simpa using this
          have HP3 : Hid (∀ y ∈ P ++ [(⟨x, ⟨yk, yb, yn, yf, yt⟩⟩ : Pr)], y.k.size ≤ 1000000 ∧ VD y.v) := fun z hz => by
            rcases List.mem_append.1 hz with hz | hz
            · exact HP.out z hz
            · rw [List.mem_singleton.1 hz]; exact ⟨HX3.out, HY4.out⟩
          exact ⟨⟨P ++ [(⟨x, ⟨yk, yb, yn, yf, yt⟩⟩ : Pr)], _, by simp; omega, HP3.out, by simp, HN3.out, HS3.out⟩, by simp [intOf]; omega⟩
        · have hend : P.length = c2 := by omega
          have HEP := Lib.hid hend
          clear hend
          have b0 := HN.out.bx.cell 0
          have b1 := HN.out.bx.cell 1
          have r0 := HN.out.br.cell 0
          have r1 := HN.out.br.cell 1
          have rf := HN.out.br.frozen
          simp only [List.getElem?_toArray, List.getElem?_cons_zero, List.getElem?_cons_succ] at b0 b1 r0 r1
          subst hv
          subst hv2
          have n1 : ∀ k, (Value.slice A L.length cp).ownBlock = some k → some k ≠ some w.heap.size := fun k hk e => ro_bx HN.out.l HN.out.br (by decide) (hk.trans e)
          have n2 : ∀ k, (Value.slice A2 P.length cp2).ownBlock = some k → some k ≠ some w.heap.size := fun k hk e => ro_bx HN.out.p HN.out.br (by decide) (hk.trans e)
          have HEND : Hid (∀ W, W = (wr.setCell ⟨w.heap.size, 0, none⟩ (.slice A L.length cp)).setCell ⟨w.heap.size, 1, none⟩ (.slice A2 P.length cp2) → (W.cell? ⟨w.heap.size, 0, none⟩ = some (.slice A L.length cp) ∧ W.cell? ⟨w.heap.size, 1, none⟩ = some (.slice A2 P.length cp2)) ∧ ∃ n s, Ending.returned (ndv ⟨L, P⟩ ⟨A, cp, A2, cp2⟩) = .returned (ndv n s) ∧ RC B a g (nx (pN true) q) W ∧ Chg (F1 a) w W ∧ Is (pN true) q n ∧ NdN w.heap.size W n s ∧ NdD n) := by
            rintro W rfl
            have q1 := (HN.out.br.set 0 (.slice A L.length cp)).set 1 (.slice A2 P.length cp2)
            have x1 : Is (pC 3) q L.length := by rw [HEL.out]; exact HI1.out
            have x2 : Is (pC 3) (nx (pMany pS L.length) (nx (pC 3) q)) P.length := by rw [HEP.out]; exact HI2.out
            refine ⟨⟨by rw [q1.cell 0]; rfl, by rw [q1.cell 1]; rfl⟩, ⟨L, P⟩, ⟨A, cp, A2, cp2⟩, rfl, ?_, ?_, ?_, ?_, ?_⟩
            · unfold pN
              rw [(nx_and x1).1, (nx_and HS.out).1, (nx_and x2).1, (nx_and HS2.out).1, nx_ret]
              exact (HN.out.rs.set hBw 0 _).set hBw 1 _
            · exact chg1_set (chg1_set HN.out.ch (Nat.le_refl _) 0 _) (Nat.le_refl _) 1 _
            · unfold pN
              exact is_and x1 (is_and HS.out (is_and x2 (is_and HS2.out is_ret)))
            · exact ⟨(HN.out.l.kept (grown_set _ _ 0 _) n1).kept (grown_set _ _ 1 _) n1, (HN.out.p.kept (grown_set _ _ 0 _) n2).kept (grown_set _ _ 1 _) n2⟩
            · exact ⟨Nat.le_trans hk hc1, Nat.le_trans hk2 hc2, HL.out, HP.out⟩
          clear n1 n2
          go_wp2
          obtain ⟨⟨s0, s1⟩, he⟩ := HEND.out _ rfl
          exact bodyPost_ret (v := ndv ⟨L, P⟩ ⟨A, cp, A2, cp2⟩) (by simp [results, Try.results30, go_sem, s0, s1]; try rfl) rfl he
end
end Go.Proofs.Ytdhpphbgobakhaa
/- The reference's Bool, Ints, val and node of chapter 10: the bytes that they return. Conditions: what is valid, in memory; numbers in the range of Go's types. -/
namespace Go.Proofs.Ytdhpphbgobakhaa
set_option maxRecDepth 100000
set_option linter.unusedVariables false
open Go.ChangeShapes Go.WideShapes Go.ChangeAt Go.RowKit
open Fl (S cmpK keyN normN)
open Val (V cmpV isB ltT)
open Lb
theorem rbool_any (b : Bool) (w : World) : Calls Try.prog 16 #[.bool b] w fun e w' => e = .returned (.int .i64 (b2i b)) ∧ w = w' := by
  cases b
  all_goals
    go_enter Try.func16, Try.ntmps16
    go_wp2
    go_ret
    exact ⟨rfl, rfl⟩
theorem encIs_snoc (l : List Int) (k : Nat) (h : k < l.length) : encIs (l.take (k + 1)) = encIs (l.take k) ++ encI l[k] := by
  unfold encIs; rw [List.take_succ_eq_append_getElem h, List.flatMap_append]; simp
theorem encSs_snoc (l : List ByteArray) (k : Nat) (h : k < l.length) : encSs (l.take (k + 1)) = encSs (l.take k) ++ encS l[k].data.toList := by
  unfold encSs; rw [List.take_succ_eq_append_getElem h, List.flatMap_append]; simp
set_option maxHeartbeats 1000000 in
theorem rints_any (A : Option Addr) (c : Nat) (xs : List Int) (w : World) (h : Row (.int .i64) w A xs) (hx : ∀ x ∈ xs, In64 x) (hl : xs.length ≤ 10) : Calls Try.prog 15 #[.slice A xs.length c] w (Gives w.heap.size (encIs xs) w) := by
  have HR := Lib.hid h
  have HX := Lib.hid hx
  clear h hx
  go_enter Try.func15, Try.ntmps15
  go_wp2
  go_loopw [3, 4] (fun v i wr => ∃ (k : Nat) (d : List UInt8), k ≤ xs.length ∧ i = .int .i64 (k : Nat) ∧ Hid (d = encIs (xs.take k)) ∧ Hid (Own w.heap.size wr v d) ∧ Hid (Below w.heap.size w wr)) (fun _ i _ => xs.length - (intOf i).toNat)
  case atStart => exact ⟨0, [], Nat.zero_le _, rfl, by simp [Hid, encIs], Own.nil _ _, Below.refl _ _⟩
  case round =>
    obtain ⟨k, d, hk, rfl, HDD, HOW, HB⟩ := hrel
    obtain ⟨Ad, cd, rfl, _, _⟩ := HOW.out.open
    by_cases hlt : k < xs.length
    · obtain ⟨ad, e1, hc⟩ := (HR.out.below HB.out) k hlt
      subst e1
      have hi := HX.out _ (List.getElem_mem hlt)
      have HI := Lib.hid (fun W => rint_any xs[k] hi.1 hi.2 W)
      have HSN := Lib.hid (encIs_snoc xs k hlt)
      have hdl : d.length ≤ 100 := by
        rw [HDD.out]
        have := encIs_len (xs.take k) (fun x hx => HX.out x (List.mem_of_mem_take hx))
        rw [List.length_take] at this; omega
      have hel := (encI_len xs[k] hi.1 hi.2).1
      have hi5 : IntKind.i64.wrap (k : Int) = (k : Int) := wrap_small (show k ≤ 9223372036854775807 by omega)
      have hi0 : (0 : Int) ≤ (k : Int) := by omega
      clear hi
      generalize xs[k] = x at *
      generalize encI x = px at *
      go_wp2_with fail
      refine (HI.out _).mono ?_
      rintro e w2 ⟨v2, rfl, ho2, hb2⟩
      obtain ⟨A2, c2, rfl, hbs2, _⟩ := ho2.open
      have HBS2 := Lib.hid hbs2
      have HO2 := Lib.hid (HOW.out.below hb2)
      have B2 := Lib.hid (bnext HB.out hb2)
      have hsz := B2.out.size
      clear ho2 hb2 hbs2
      go_wp2_with (at_builtin; refine wp_app rfl _ _ rfl w.heap.size _ _ HO2.out rfl _ px _ _ rfl rfl HBS2.out ?c1 ?c2 ?_)
      case c1 => omega
      case c2 => exact hsz
      intro v3 w3 ho3 hb3
      have HO3 := Lib.hid ho3
      have B3 := Lib.hid (B2.out.trans hb3)
      clear ho3 hb3
      go_wp2
      refine ⟨⟨k + 1, _, hlt, by go_num, ?_, HO3.out, B3.out⟩, by simp [intOf]; omega⟩
      show _ = _
      rw [HSN.out, HDD.out]
    · obtain rfl : k = xs.length := by omega
      have e := HDD.out
      rw [List.take_length] at e
      subst e
      go_wp2
      go_ret
      exact ⟨_, rfl, HOW.out, HB.out⟩
/-- Numbers laid in a block of their own. -/
theorem rints1_any (xs : List Int) (cs : Array Value) (n : Nat) (W : World) (hx : ∀ x ∈ xs, In64 x) (h2 : xs.length ≤ 10) (hcs : cs.toList = xs.map (.int .i64)) (hn : n = xs.length) :
    Calls Try.prog 15 #[.slice (some ⟨W.heap.size, 0, none⟩) n n] (W.alloc (.cells cs 3)) (fun e w' => ∃ v, e = .returned v ∧ Own W.heap.size w' v (encIs xs) ∧ Below W.heap.size W w') := by
  subst hn
  have hal := one_box W (.cells cs 3)
  refine (rints_any (some ⟨W.heap.size, 0, none⟩) xs.length xs _ (row_new (.int .i64) W 3 xs cs hcs) hx h2).mono ?_
  rintro e w' ⟨v, rfl, ho, hbl⟩
  exact ⟨v, rfl, ho.mono hal.size, hal.trans (hbl.mono hal.size)⟩
set_option maxHeartbeats 1000000 in
theorem rvalb_any (x : V) (hk : In64 x.k) (hn : In64 x.n) (hf : x.f < 2 * S) (ht : x.t.size ≤ 100) (w : World) : Calls Try.prog 45 #[vv x] w (Gives w.heap.size (encV x) w) := by
  obtain ⟨V, hV⟩ : ∃ V, V = w.alloc (.cells #[.int .i64 x.k, .bool x.b, .int .i64 x.n, .float .f64 x.f, .string x.t] 47) := ⟨_, rfl⟩
  have hbx : V.heap[w.heap.size]? = some (.cells #[.int .i64 x.k, .bool x.b, .int .i64 x.n, .float .f64 x.f, .string x.t] 47 (0, 0)) := by rw [hV]; exact heap_alloc_new w _
  have hal : Below w.heap.size w V := by rw [hV]; exact one_box w _
  have HX := Lib.hid (fun W (hW : Below V.heap.size V W) => val_box hbx rfl hW)
  have HAL := Lib.hid hal
  have HK := Lib.hid (rint_any x.k hk.1 hk.2 V)
  have hlk := (encI_len x.k hk.1 hk.2).1
  have HE : Hid (encV x = encI x.k ++ (if x.k = 1 then encI (b2i x.b) else if x.k = 2 then encI x.n else if x.k = 3 then encR x.f else encS x.t.data.toList)) := rfl
  have HB1 := Lib.hid (fun W => rint_any (b2i x.b) (b2i_in x.b).1 (b2i_in x.b).2 W)
  have HB2 := Lib.hid (fun W => rint_any x.n hn.1 hn.2 W)
  have HB3 := Lib.hid (fun W => rreal_any x.f hf W)
  have HB4 := Lib.hid (fun W => rstr_any x.t (by omega) W)
  have l1 := (encI_len (b2i x.b) (b2i_in _).1 (b2i_in _).2).1
  have l2 := (encI_len x.n hn.1 hn.2).1
  have l3 : (encR x.f).length ≤ 8 := Nat.le_refl 8
  have l4 := (encS_len x.t (by omega)).1
  have HB := Lib.hid (fun W => rbool_any x.b W)
  clear hbx hal hf hk hn
  obtain ⟨k, b, n, f, t⟩ := x
  simp only at HX HK HE HB HB1 HB2 HB3 HB4 hV l1 l2 l3 l4 hlk ht
  generalize encV ⟨k, b, n, f, t⟩ = out at *
  generalize encI (b2i b) = p1 at *
  generalize encI n = p2 at *
  generalize encR f = p3 at *
  generalize encS t.data.toList = p4 at *
  by_cases h1 : k = 1
  · subst h1
    rw [if_pos rfl] at HE
    obtain ⟨b0, b1, b2, b3, b4⟩ := HX.out V (Below.refl _ _)
    go_enter Try.func45, Try.ntmps45
    go_upto_region 1 with fail
    rw [← hV]
    clear hV
    go_wp2_with fail
    refine HK.out.mono ?_
    rintro e w1 ⟨v, rfl, ho, hb1⟩
    have HO1 := Lib.hid ho
    obtain ⟨A, c, rfl, _, _⟩ := ho.open
    have B1 := Lib.hid hb1
    obtain ⟨d0, d1, d2, d3, d4⟩ := HX.out w1 hb1
    clear ho hb1
    go_wp2_with fail
    (with_reducible refine (HB.out _).mono ?_); rintro e w2 ⟨rfl, rfl⟩
    go_wp2_with fail
    refine (HB1.out _).mono ?_
    rintro e w3 ⟨v, rfl, ho, hb3⟩
    obtain ⟨A3, c3, rfl, hbs3, _⟩ := ho.open
    have HBS3 := Lib.hid hbs3
    have HO3 := Lib.hid (HO1.out.below hb3)
    have B3 := Lib.hid (bnext B1.out hb3)
    have hsz := B3.out.size
    clear ho hb3 hbs3
    go_wp2_with (at_builtin; refine wp_app rfl _ _ rfl V.heap.size _ _ HO3.out rfl _ p1 _ _ rfl rfl HBS3.out ?c1 ?c2 ?_)
    case c1 => omega
    case c2 => exact hsz
    intro v6 w6 h6 hb6
    have HO6 := Lib.hid h6
    have B6 := Lib.hid (B3.out.trans hb6)
    clear h6 hb6
    go_wp2
    go_ret
    exact ⟨_, rfl, by rw [HE.out]; exact HO6.out.mono HAL.out.size, bnext HAL.out B6.out⟩
  by_cases h2 : k = 2
  · subst h2
    rw [if_neg h1, if_pos rfl] at HE
    clear h1
    obtain ⟨b0, b1, b2, b3, b4⟩ := HX.out V (Below.refl _ _)
    go_enter Try.func45, Try.ntmps45
    go_upto_region 1 with fail
    rw [← hV]
    clear hV
    go_wp2_with fail
    refine HK.out.mono ?_
    rintro e w1 ⟨v, rfl, ho, hb1⟩
    have HO1 := Lib.hid ho
    obtain ⟨A, c, rfl, _, _⟩ := ho.open
    have B1 := Lib.hid hb1
    obtain ⟨d0, d1, d2, d3, d4⟩ := HX.out w1 hb1
    clear ho hb1
    go_wp2_with fail
    refine (HB2.out _).mono ?_
    rintro e w3 ⟨v, rfl, ho, hb3⟩
    obtain ⟨A3, c3, rfl, hbs3, _⟩ := ho.open
    have HBS3 := Lib.hid hbs3
    have HO3 := Lib.hid (HO1.out.below hb3)
    have B3 := Lib.hid (bnext B1.out hb3)
    have hsz := B3.out.size
    clear ho hb3 hbs3
    go_wp2_with (at_builtin; refine wp_app rfl _ _ rfl V.heap.size _ _ HO3.out rfl _ p2 _ _ rfl rfl HBS3.out ?c1 ?c2 ?_)
    case c1 => omega
    case c2 => exact hsz
    intro v6 w6 h6 hb6
    have HO6 := Lib.hid h6
    have B6 := Lib.hid (B3.out.trans hb6)
    clear h6 hb6
    go_wp2
    go_ret
    exact ⟨_, rfl, by rw [HE.out]; exact HO6.out.mono HAL.out.size, bnext HAL.out B6.out⟩
  by_cases h3 : k = 3
  · subst h3
    rw [if_neg h1, if_neg h2, if_pos rfl] at HE
    clear h1 h2
    obtain ⟨b0, b1, b2, b3, b4⟩ := HX.out V (Below.refl _ _)
    go_enter Try.func45, Try.ntmps45
    go_upto_region 1 with fail
    rw [← hV]
    clear hV
    go_wp2_with fail
    refine HK.out.mono ?_
    rintro e w1 ⟨v, rfl, ho, hb1⟩
    have HO1 := Lib.hid ho
    obtain ⟨A, c, rfl, _, _⟩ := ho.open
    have B1 := Lib.hid hb1
    obtain ⟨d0, d1, d2, d3, d4⟩ := HX.out w1 hb1
    clear ho hb1
    go_wp2_with fail
    refine (HB3.out _).mono ?_
    rintro e w3 ⟨v, rfl, ho, hb3⟩
    obtain ⟨A3, c3, rfl, hbs3, _⟩ := ho.open
    have HBS3 := Lib.hid hbs3
    have HO3 := Lib.hid (HO1.out.below hb3)
    have B3 := Lib.hid (bnext B1.out hb3)
    have hsz := B3.out.size
    clear ho hb3 hbs3
    go_wp2_with (at_builtin; refine wp_app rfl _ _ rfl V.heap.size _ _ HO3.out rfl _ p3 _ _ rfl rfl HBS3.out ?c1 ?c2 ?_)
    case c1 => omega
    case c2 => exact hsz
    intro v6 w6 h6 hb6
    have HO6 := Lib.hid h6
    have B6 := Lib.hid (B3.out.trans hb6)
    clear h6 hb6
    go_wp2
    go_ret
    exact ⟨_, rfl, by rw [HE.out]; exact HO6.out.mono HAL.out.size, bnext HAL.out B6.out⟩
  have e1 : (k == 1) = false := by simpa using h1
  have e2 : (k == 2) = false := by simpa using h2
  have e3 : (k == 3) = false := by simpa using h3
  rw [if_neg h1, if_neg h2, if_neg h3] at HE
  clear h1 h2 h3
  obtain ⟨b0, b1, b2, b3, b4⟩ := HX.out V (Below.refl _ _)
  go_enter Try.func45, Try.ntmps45
  go_upto_region 1 with fail
  rw [← hV]
  clear hV
  go_wp2_with fail
  refine HK.out.mono ?_
  rintro e w1 ⟨v, rfl, ho, hb1⟩
  have HO1 := Lib.hid ho
  obtain ⟨A, c, rfl, _, _⟩ := ho.open
  have B1 := Lib.hid hb1
  obtain ⟨d0, d1, d2, d3, d4⟩ := HX.out w1 hb1
  clear ho hb1
  go_wp2_with fail
  refine (HB4.out _).mono ?_
  rintro e w3 ⟨v, rfl, ho, hb3⟩
  obtain ⟨A3, c3, rfl, hbs3, _⟩ := ho.open
  have HBS3 := Lib.hid hbs3
  have HO3 := Lib.hid (HO1.out.below hb3)
  have B3 := Lib.hid (bnext B1.out hb3)
  have hsz := B3.out.size
  clear ho hb3 hbs3
  go_wp2_with (at_builtin; refine wp_app rfl _ _ rfl V.heap.size _ _ HO3.out rfl _ p4 _ _ rfl rfl HBS3.out ?c1 ?c2 ?_)
  case c1 => omega
  case c2 => exact hsz
  intro v6 w6 h6 hb6
  have HO6 := Lib.hid h6
  have B6 := Lib.hid (B3.out.trans hb6)
  clear h6 hb6
  go_wp2
  go_ret
  exact ⟨_, rfl, by rw [HE.out]; exact HO6.out.mono HAL.out.size, bnext HAL.out B6.out⟩
set_option maxHeartbeats 2000000 in
theorem rnodeb_any (n : Nd) (s : Ns) (w : World) (h : NdAt w n s) (hb : nodeB n = true) (hi : NdIn n) : Calls Try.prog 19 #[ndv n s] w (Gives w.heap.size (encN n) w) := by
  have hp := prIn_of hb hi
  obtain ⟨h1, _, h3, h4⟩ := nodeB_of hb
  obtain ⟨V, hV⟩ : ∃ V, V = w.alloc (.cells #[.slice s.la n.ls.length s.lc, .slice s.pa n.ps.length s.pc] 43) := ⟨_, rfl⟩
  have hbx : V.heap[w.heap.size]? = some (.cells #[.slice s.la n.ls.length s.lc, .slice s.pa n.ps.length s.pc] 43 (0, 0)) := by rw [hV]; exact heap_alloc_new w _
  have hal : Below w.heap.size w V := by rw [hV]; exact one_box w _
  have HX := Lib.hid (fun W (hW : Below V.heap.size V W) => node_box hbx rfl hW)
  have HAL := Lib.hid hal
  have HN := Lib.hid (h.below hal)
  have HP := Lib.hid hp
  have H1 := Lib.hid h1
  have lA := (encI_len (n.ls.length : Int) (by omega) (by omega)).1
  have lB := (encI_len (n.ps.length : Int) (by omega) (by omega)).1
  have HK := Lib.hid (rint_any (n.ls.length : Int) (by omega) (by omega) V)
  have HM := Lib.hid (fun W => rint_any (n.ps.length : Int) (by omega) (by omega) W)
  have HE : Hid (encI n.ls.length ++ encSs n.ls ++ encI n.ps.length ++ encPs n.ps = encN n) := by simp only [Hid]; unfold encN; simp only [List.append_assoc]
  clear hbx hal h hb hi h1 hp
  obtain ⟨ls, ps⟩ := n
  obtain ⟨la, lc, pa, pc⟩ := s
  simp only at HX HK HE HM HN HP H1 hV h3 h4 lA lB
  generalize encN ⟨ls, ps⟩ = out at *
  generalize encI ls.length = o0 at *
  generalize encI ps.length = o1 at *
  obtain ⟨b0, b1⟩ := HX.out V (Below.refl _ _)
  go_enter Try.func19, Try.ntmps19
  go_upto_region 1 with fail
  rw [← hV]
  clear hV
  go_wp2_with fail
  refine HK.out.mono ?_
  rintro e w1 ⟨v, rfl, ho, hb1⟩
  have HO := Lib.hid ho
  have B1 := Lib.hid hb1
  obtain ⟨A, c, rfl, _, _⟩ := ho.open
  clear ho hb1
  go_wp2
  clear b0 b1
  go_loopw [3, 4] (fun v i wr => ∃ (k : Nat) (d : List UInt8), k ≤ ls.length ∧ i = .int .i64 (k : Nat) ∧ Hid (d = o0 ++ encSs (ls.take k)) ∧ Hid (Own V.heap.size wr v d) ∧ Hid (Below V.heap.size V wr)) (fun _ i _ => ls.length - (intOf i).toNat)
  case atStart => exact ⟨0, o0, Nat.zero_le _, rfl, by simp [Hid, encSs], HO.out, B1.out⟩
  case round =>
    obtain ⟨k, d, hk, rfl, HDD, HOW, HB⟩ := hrel
    obtain ⟨Ad, cd, rfl, _, _⟩ := HOW.out.open
    obtain ⟨q0, q1⟩ := HX.out wr HB.out
    have hdl : d.length ≤ 100 := by
      rw [HDD.out, List.length_append]
      have := encSs_len 8 (ls.take k) (fun x hx => (nameB_len (H1.out x (List.mem_of_mem_take hx))).2) (by omega)
      rw [List.length_take] at this; omega
    by_cases hlt : k < ls.length
    · obtain ⟨ad, e1, hc⟩ := (HN.out.r1.below HB.out) k hlt
      simp only at e1
      subst e1
      have hc : wr.cell? (ad.add k) = some (.string ls[k]) := hc
      have hnm := nameB_len (H1.out _ (List.getElem_mem hlt))
      have HSN := Lib.hid (encSs_snoc ls k hlt)
      have hi5 : IntKind.i64.wrap (k : Int) = (k : Int) := wrap_small (show k ≤ 9223372036854775807 by omega)
      have hi0 : (0 : Int) ≤ (k : Int) := by omega
      generalize ls[k] = x at *
      have HST := Lib.hid (fun W => rstr_any x (by omega) W)
      have lx := (encS_len x (by omega)).1
      generalize encS x.data.toList = px at *
      go_wp2_with fail
      refine (HST.out _).mono ?_
      rintro e w2 ⟨v2, rfl, ho2, hb2⟩
      obtain ⟨A2, c2, rfl, hbs2, _⟩ := ho2.open
      have HBS2 := Lib.hid hbs2
      have HO2 := Lib.hid (HOW.out.below hb2)
      have B2 := Lib.hid (bnext HB.out hb2)
      have hsz := B2.out.size
      clear ho2 hb2 hbs2
      go_wp2_with (at_builtin; refine wp_app rfl _ _ rfl V.heap.size _ _ HO2.out rfl _ px _ _ rfl rfl HBS2.out ?c1 ?c2 ?_)
      case c1 => omega
      case c2 => exact hsz
      intro v3 w3 ho3 hb3
      have HO3 := Lib.hid ho3
      have B3 := Lib.hid (B2.out.trans hb3)
      clear ho3 hb3
      go_wp2
      refine ⟨⟨k + 1, _, hlt, by go_num, ?_, HO3.out, B3.out⟩, by simp [intOf]; omega⟩
      show _ = _
      rw [HSN.out, HDD.out]
      simp only [List.append_assoc]
    · obtain rfl : k = ls.length := by omega
      have hd1 := HDD.out
      rw [List.take_length] at hd1
      have HD1 := Lib.hid hd1
      clear hd1
      go_wp2_with fail
      refine (HM.out _).mono ?_
      rintro e w2 ⟨v2, rfl, ho2, hb2⟩
      obtain ⟨A2, c2, rfl, hbs2, _⟩ := ho2.open
      have HBS2 := Lib.hid hbs2
      have HO2 := Lib.hid (HOW.out.below hb2)
      have B2 := Lib.hid (bnext HB.out hb2)
      have hsz := B2.out.size
      clear ho2 hb2 hbs2
      go_wp2_with (at_builtin; refine wp_app rfl _ _ rfl V.heap.size _ _ HO2.out rfl _ o1 _ _ rfl rfl HBS2.out ?c1 ?c2 ?_)
      case c1 => omega
      case c2 => exact hsz
      intro v3 w3 ho3 hb3
      obtain ⟨d1, hd1⟩ : ∃ d1, d ++ o1 = d1 := ⟨_, rfl⟩
      have hl1 : d1.length ≤ d.length + 10 := by rw [← hd1, List.length_append]; omega
      rw [hd1] at ho3
      have HDJ := Lib.hid hd1
      clear hd1
      have HO3 := Lib.hid ho3
      have B3 := Lib.hid (B2.out.trans hb3)
      obtain ⟨A3, c3, rfl, _, _⟩ := ho3.open
      clear ho3 hb3
      go_wp2
      clear q0 q1
      go_loopw [3, 5] (fun v i wx => ∃ (j : Nat) (d2 : List UInt8), j ≤ ps.length ∧ i = .int .i64 (j : Nat) ∧ Hid (d2 = d1 ++ encPs (ps.take j)) ∧ Hid (Own V.heap.size wx v d2) ∧ Hid (Below V.heap.size V wx)) (fun _ i _ => ps.length - (intOf i).toNat)
      case atStart => exact ⟨0, d1, Nat.zero_le _, rfl, by simp [Hid, encPs], HO3.out, B3.out⟩
      case round =>
        obtain ⟨j, d2, hj, rfl, HDE, HOX, HBX⟩ := hrel
        obtain ⟨Ax, cx, rfl, _, _⟩ := HOX.out.open
        obtain ⟨q0, q1⟩ := HX.out wr HBX.out
        by_cases hlt2 : j < ps.length
        · obtain ⟨ad2, pk, e2, hq, he⟩ := HN.out.r2 j hlt2
          simp only at e2
          subst e2
          have he : PAt V pk ps[j] := he
          have hpk := HP.out _ (List.getElem_mem hlt2)
          have HSN := Lib.hid (encPs_snoc ps j hlt2)
          have hdl2 : d2.length ≤ 300 := by
            have h0 := encPs_len HP.out j hj
            rw [HDE.out, List.length_append]; omega
          have hi5 : IntKind.i64.wrap (j : Int) = (j : Int) := wrap_small (show j ≤ 9223372036854775807 by omega)
          have hi0 : (0 : Int) ≤ (j : Int) := by omega
          generalize ps[j] = x at *
          have HVB := Lib.hid (fun W => rvalb_any x.v hpk.vk hpk.vn hpk.vf (by have := hpk.vt; omega) W)
          have lV := encV_len hpk.vk hpk.vn hpk.vt
          have lK := (encS_len x.k (by have := hpk.k; omega)).1
          have lK2 := hpk.k
          have HST := Lib.hid (fun W => rstr_any x.k (by omega) W)
          have HXE : Hid (encP x = encS x.k.data.toList ++ encV x.v) := rfl
          have HPA := Lib.hid (fun W (hW : Below V.heap.size V W) => he.below hW)
          obtain ⟨xk, ⟨vk, vb, vn, vf, vt⟩⟩ := x
          obtain ⟨c0, _, _, _, _, _⟩ := he.below HBX.out
          simp only at c0 HVB HST HXE lV lK lK2
          clear he hpk
          generalize encP ⟨xk, ⟨vk, vb, vn, vf, vt⟩⟩ = px at *
          generalize encV ⟨vk, vb, vn, vf, vt⟩ = vx at *
          generalize encS xk.data.toList = kx at *
          go_wp2_with fail
          refine (HST.out _).mono ?_
          rintro e w4 ⟨v4, rfl, ho4, hb4⟩
          obtain ⟨A4, c4, rfl, hbs4, _⟩ := ho4.open
          have HBS4 := Lib.hid hbs4
          have HO4 := Lib.hid (HOX.out.below hb4)
          have B4 := Lib.hid (bnext HBX.out hb4)
          have hsz4 := B4.out.size
          clear ho4 hb4 hbs4
          go_wp2_with (at_builtin; refine wp_app rfl _ _ rfl V.heap.size _ _ HO4.out rfl _ kx _ _ rfl rfl HBS4.out ?c1 ?c2 ?_)
          case c1 => omega
          case c2 => exact hsz4
          intro v5 w5 ho5 hb5
          obtain ⟨d5, hd5⟩ : ∃ d5, d2 ++ kx = d5 := ⟨_, rfl⟩
          have hl5 : d5.length ≤ d2.length + 18 := by rw [← hd5, List.length_append]; omega
          rw [hd5] at ho5
          have HD5 := Lib.hid hd5
          clear hd5
          have HO5 := Lib.hid ho5
          have B5 := Lib.hid (B4.out.trans hb5)
          obtain ⟨A5, c5, rfl, _, _⟩ := ho5.open
          obtain ⟨_, f1, f2, f3, f4, f5⟩ := HPA.out w5 B5.out
          obtain ⟨r0, r1⟩ := HX.out w5 B5.out
          simp only at f1 f2 f3 f4 f5
          clear ho5 hb5 c0 q0 q1
          go_wp2_with fail
          refine (HVB.out _).mono ?_
          rintro e w6 ⟨v6, rfl, ho6, hb6⟩
          obtain ⟨A6, c6, rfl, hbs6, _⟩ := ho6.open
          have HBS6 := Lib.hid hbs6
          have HO6 := Lib.hid (HO5.out.below hb6)
          have B6 := Lib.hid (bnext B5.out hb6)
          have hsz6 := B6.out.size
          clear ho6 hb6 hbs6 f1 f2 f3 f4 f5 r0 r1
          go_wp2_with (at_builtin; refine wp_app rfl _ _ rfl V.heap.size _ _ HO6.out rfl _ vx _ _ rfl rfl HBS6.out ?c1 ?c2 ?_)
          case c1 => omega
          case c2 => exact hsz6
          intro v7 w7 ho7 hb7
          have HO7 := Lib.hid ho7
          have B7 := Lib.hid (B6.out.trans hb7)
          clear ho7 hb7
          go_wp2
          refine ⟨⟨j + 1, _, hlt2, by go_num, ?_, HO7.out, B7.out⟩, by simp [intOf]; omega⟩
          show _ = _
          rw [HSN.out, ← HD5.out, HDE.out, HXE.out]
          simp only [List.append_assoc]
        · obtain rfl : j = ps.length := by omega
          have e := HDE.out
          rw [List.take_length, ← HDJ.out, HD1.out, HE.out] at e
          subst e
          go_wp2
          go_ret
          exact ⟨_, rfl, HOX.out.mono HAL.out.size, bnext HAL.out HBX.out⟩
end Go.Proofs.Ytdhpphbgobakhaa
/- The reference's Encode of chapter 10: the bytes that it returns. Conditions: the rows lie in memory, fewer than 1,000,000 writes; numbers in the range of Go's types. -/
namespace Go.Proofs.Ytdhpphbgobakhaa
set_option maxRecDepth 100000
set_option linter.unusedVariables false
open Go.ChangeShapes Go.WideShapes Go.ChangeAt Go.RowKit
open Fl (S cmpK keyN normN)
open Val (V cmpV isB ltT)
open Lb
theorem own_base {w : World} {B e size n : Nat} {v : Value} {xs : List Value} (h : w.ownsRow 0 e size v n xs) (hb : ∀ k, v.ownBlock = some k → B ≤ k) : w.ownsRow B e size v n xs := by
  refine ⟨h.1, ?_⟩
  rcases h.2 with hn | ⟨g', cap, cur, rfl, _, rest⟩
  · exact .inl hn
  · exact .inr ⟨g', cap, cur, rfl, hb g' rfl, rest⟩
/-- The bytes so far, in memory of the call's own, and beside them a box with a write. -/
structure EN (w0 : World) (g : Nat) (x : Wr) (s : Ns) (d : List UInt8) (v : Value) (W : World) : Prop where
  own : Own w0.heap.size W v d
  bl : Below w0.heap.size w0 W
  ne : ∀ k, v.ownBlock = some k → k ≠ g
  bx : W.heap[g]? = some (.cells (wrc x s) 45 (0, 0))
section
variable {w0 w W : World} {g : Nat} {x : Wr} {s : Ns} {d : List UInt8} {v : Value} {ops : Array Oper} {rest : List Oper} {o : Oper} {a : Act} {Q : Exit → Act → World → Prop}
theorem EN.below (h : EN w0 g x s d v w) (hb : Below w.heap.size w W) : EN w0 g x s d v W := ⟨h.own.below hb, bnext h.bl hb, h.ne, (hb.block g (block_of h.bx)).trans h.bx⟩
theorem en_wp {K : Act → World → Prop} (h : EN w0 g x s d v w) (p q : Operand) (ho : o.op = .call { callee := .builtin .append, args := #[p, q], argTypes := #[23, 23] }) (hs : a.eval p = v) (A : Option Addr) (m : List UInt8) (n c : Nat) (hx : a.eval q = .slice A n c) (hn : n = m.length) (hm : BS w A m c) (hle : d.length + m.length ≤ 100000)
    (hK : ∀ v' w', EN w0 g x s (d ++ m) v' w' → K (a.put o.dst v') w') : o.wp Try.prog a w K Q := by
  subst hn
  cases A with
  | none =>
    obtain ⟨rfl, rfl⟩ := hm.none_nil
    obtain ⟨i0, hi0, hz0, hz1, hz2⟩ := info_parts infoB
    have hrun := run_append_owned_none (P := Try.prog) (w := w) w0.heap.size 23 o.type 5 i0 1 Try.underlying23 hi0 v _ _ h.own
    have hK' := hK v w (by rw [List.append_nil]; exact h)
    unfold Oper.wp
    simp [execOp, ho, resolve, invoke, builtin, hs, hx, hrun, Result.andThen]
    exact hK'
  | some ad =>
    refine own_wp 23 5 (.int .u8 0) 1 1 Try.underlying23 infoB rfl (by decide) (by decide) p q ho v d.length (bcs d) (h.own.mono (Nat.zero_le _)) hs ad m.length c (bcs m) hx (by rw [bcs_len, Nat.mul_one]) ?_ (bcs_one m) (by omega) ?_
    · intro j u hj
      have hjl : j < m.length := by
        rcases Nat.lt_or_ge j m.length with h | h
        · exact h
        · rw [List.getElem?_eq_none (by rw [bcs_len]; exact h)] at hj; cases hj
      obtain ⟨ad', e, hc⟩ := hm.cells j hjl
      injection e with e
      subst e
      rw [hc]
      simp [bcs, hjl] at hj
      rw [hj]
    · intro v' w' h1 h2 h3
      have hlt := fun k (hk : v.ownBlock = some k) => World.ownsRow.lt h.own k hk
      have hg := block_of h.bx
      have hsz := h.bl.size
      refine hK v' w' ⟨?_, ?_, ?_, ?_⟩
      · unfold Own
        rw [List.length_append, bcs_append]
        refine own_base h1 (fun k hk => ?_)
        rcases h3 with e | e
        · rw [e] at hk; exact (hlt k hk).1
        · rw [e] at hk; injection hk with hk; omega
      · exact h.bl.trans ((Below.refl _ _).grown h2 hsz fun k hk => (hlt k hk).1)
      · intro k hk
        rcases h3 with e | e
        · rw [e] at hk; exact h.ne k hk
        · rw [e] at hk; injection hk with hk; omega
      · exact (h2.block g hg (fun e => h.ne g e.symm rfl)).trans h.bx
theorem wp_en (hgd : o.guard = none) (h : EN w0 g x s d v w) (p q : Operand) (ho : o.op = .call { callee := .builtin .append, args := #[p, q], argTypes := #[23, 23] }) (hs : a.eval p = v) (A : Option Addr) (m : List UInt8) (n c : Nat) (hx : a.eval q = .slice A n c) (hn : n = m.length) (hm : BS w A m c) (hle : d.length + m.length ≤ 100000)
    (hk : ∀ v' w', EN w0 g x s (d ++ m) v' w' → wpList Try.prog ops Q rest (a.put o.dst v') w') : wpList Try.prog ops Q (o :: rest) a w :=
  wpList_plain hgd fun K hK => en_wp h p q ho hs A m n c hx hn hm hle fun v' w' h1 => hK _ _ (hk v' w' h1)
end
set_option maxHeartbeats 4000000 in
theorem renc_any (nn ne : Int) (A : Option Addr) (c : Nat) (l : List (Wr × Ns)) (w : World) (h : WRow w A l) (ho : ∀ x, x ∈ l → WOk x.1) (hi : ∀ x, x ∈ l → WrIn x.1) (hl : l.length ≤ 1000000) : Calls Try.prog 6 #[.int .i64 nn, .int .i64 ne, .slice A l.length c] w fun e w' => EncP w.heap.size nn ne (l.map (·.1)) e w' ∧ Below w.heap.size w w' := by
  have HM := Lib.hid (rmay_any nn ne A c l w h ho hl)
  cases hm : mayB nn ne (l.map (·.1)) with
  | false =>
    rw [hm] at HM
    have HE : Hid (∀ e w', EncP w.heap.size nn ne (l.map (·.1)) e w' = (e = .returned (.tuple #[.slice none 0 0, .int .i64 1]))) := by
      intro e w'; unfold EncP; rw [hm, if_neg (by decide)]
    clear hm
    go_enter Try.func6, Try.ntmps6
    go_wp2_with fail
    refine HM.out.mono ?_
    rintro e w1 ⟨rfl, hb⟩
    have B1 := Lib.hid hb
    clear hb
    go_wp2
    go_ret2
    exact ⟨by rw [HE.out]; rfl, B1.out⟩
  | true =>
    rw [hm] at HM
    have hin : ∀ x ∈ l.map (·.1), WrIn x := fun x hx => by obtain ⟨y, hy, rfl⟩ := List.mem_map.1 hx; exact hi y hy
    have hfi := fine_of hm hin
    have hlen := mayB_len hm
    rw [List.length_map] at hlen
    obtain ⟨⟨n1, n2⟩, m1, m2⟩ := mayB_bd hm
    have HLE := Lib.hid (encA_len hm hin)
    have HE : Hid (∀ e w', EncP w.heap.size nn ne (l.map (·.1)) e w' = (∃ A c, e = .returned (.tuple #[.slice A (encA nn ne (l.map (·.1))).length c, .int .i64 0]) ∧ Own w.heap.size w' (.slice A (encA nn ne (l.map (·.1))).length c) (encA nn ne (l.map (·.1))) ∧ (encA nn ne (l.map (·.1))).length ≤ 15000)) := by
      intro e w'; unfold EncP; rw [hm, if_pos rfl]
    have HK := Lib.hid (fun W => rints1_any [nn, ne, (l.length : Int)] #[.int .i64 nn, .int .i64 ne, .int .i64 (l.length : Int)] 3 W (by intro y hy; simp at hy; rcases hy with rfl | rfl | rfl <;> exact ⟨by omega, by omega⟩) (by simp) rfl rfl)
    have hdr := encIs_len [nn, ne, (l.length : Int)] (by intro y hy; simp at hy; rcases hy with rfl | rfl | rfl <;> exact ⟨by omega, by omega⟩)
    have HEQ : Hid (encIs [nn, ne, (l.length : Int)] ++ encWs (l.map (·.1)) = encA nn ne (l.map (·.1))) := by simp only [Hid]; unfold encA; simp [encIs]
    have HFI := Lib.hid hfi
    have HR := Lib.hid h
    generalize encA nn ne (l.map (·.1)) = out at *
    generalize encIs [nn, ne, (l.length : Int)] = o1 at *
    clear hm hin hfi h ho hi
    go_enter Try.func6, Try.ntmps6
    go_wp2_with fail
    refine HM.out.mono ?_
    rintro e w1 ⟨rfl, hb⟩
    have B1 := Lib.hid hb
    clear hb
    go_wp2_with fail
    refine (HK.out _).mono ?_
    rintro e w2 ⟨v, rfl, ho, hb2⟩
    have B2 := Lib.hid (bnext B1.out hb2)
    have HO := Lib.hid (ho.mono B1.out.size)
    clear ho hb2
    obtain ⟨A1, c1, rfl, _, _⟩ := HO.out.open
    go_wp2
    go_loopw [8, 9] (fun v i wr => ∃ (k : Nat) (d : List UInt8), k ≤ l.length ∧ i = .int .i64 (k : Nat) ∧ Hid (d = o1 ++ encWs ((l.map (·.1)).take k)) ∧ Hid (Own w.heap.size wr v d) ∧ Hid (Below w.heap.size w wr)) (fun _ i _ => l.length - (intOf i).toNat)
    case atStart => exact ⟨0, o1, Nat.zero_le _, rfl, by simp [Hid, encWs], HO.out, B2.out⟩
    case round =>
      obtain ⟨k, d, hk, rfl, HDD, HOW, HB⟩ := hrel
      obtain ⟨Ad, cd, rfl, hbs, _⟩ := HOW.out.open
      by_cases hlt : k < l.length
      · have hkm : k < (l.map (·.1)).length := by rw [List.length_map]; exact hlt
        obtain ⟨ad, pk, ea, hp, he0, hn⟩ := HR.out k hlt
        subst ea
        have he := he0.below HB.out
        clear he0
        have HSN0 := encWs_snoc (l.map (·.1)) k hkm
        have hfk := HFI.out ((l.map (·.1))[k]'hkm) (List.getElem_mem hkm)
        have hdl : d.length ≤ 30 + 254 * 56 := by
          have h0 := encWs_len HFI.out k (by rw [List.length_map]; exact hk)
          have := HDD.out
          have h9 : 254 * k ≤ 254 * 56 := Nat.mul_le_mul_left _ (by omega)
          rw [this, List.length_append]
          have : o1.length ≤ 30 := hdr
          omega
        rw [List.getElem_map] at HSN0 hfk
        have HSN := Lib.hid HSN0
        have hi5 : IntKind.i64.wrap (k : Int) = (k : Int) := wrap_small (show k ≤ 9223372036854775807 by omega)
        have hi0 : (0 : Int) ≤ (k : Int) := by omega
        clear HSN0 hbs
        generalize l[k] = y at *
        clear hkm
        obtain ⟨x, s⟩ := y
        simp only at he hn hfk HSN
        obtain ⟨hid, hc⟩ := hfk
        have HBI := Lib.hid (fun b W => rbool_any b W)
        have HKI := Lib.hid (fun W => rints1_any [b2i x.e, x.id, b2i x.gone] #[.int .i64 (b2i x.e), .int .i64 x.id, .int .i64 (b2i x.gone)] 3 W (by intro y hy; simp at hy; rcases hy with rfl | rfl | rfl; exact b2i_in _; exact hid; exact b2i_in _) (by simp) rfl rfl)
        have hol : (encIs [b2i x.e, x.id, b2i x.gone]).length ≤ 30 := encIs_len [b2i x.e, x.id, b2i x.gone] (by intro y hy; simp at hy; rcases hy with rfl | rfl | rfl; exact b2i_in _; exact hid; exact b2i_in _)
        have HQ : Hid (encW x = encIs [b2i x.e, x.id, b2i x.gone] ++ (if x.gone then [] else if x.e then encE x.g else encN x.n)) := by simp only [Hid]; unfold encW; simp [encIs]
        have HND := Lib.hid (fun W (hW : Below w.heap.size w W) hb hi => rnodeb_any x.n s W (hn.below hW) hb hi)
        have HNL := Lib.hid (fun hb hi => encN_len (n := x.n) hb hi)
        obtain ⟨wb, hwb⟩ : ∃ wb, wb = wr.alloc (.cells (wrc x s) 45) := ⟨_, rfl⟩
        have hal : Below wr.heap.size wr wb := by rw [hwb]; exact one_box wr _
        have HE0 := Lib.hid (show EN w wr.heap.size x s d (.slice Ad d.length cd) wb from ⟨HOW.out.below hal, bnext HB.out hal, fun k hk => by have := (World.ownsRow.lt HOW.out k hk).2; omega, by rw [hwb]; exact heap_alloc_new wr _⟩)
        clear hid hn hal
        generalize hox : encIs [b2i x.e, x.id, b2i x.gone] = ox at *
        clear hox
        have hdE := HE0.out.below (Below.refl wb.heap.size wb).drew
        have HEd := Lib.hid hdE
        have q := wb_box hdE.bx (Below.refl _ _)
        unfold WB at q
        obtain ⟨k0, k1, k2, _⟩ := q
        obtain ⟨dx, hdx⟩ : ∃ dx, d ++ ox = dx := ⟨_, rfl⟩
        have hlx : dx.length ≤ d.length + 30 := by rw [← hdx, List.length_append]; omega
        have HDX := Lib.hid hdx
        have HLX : Hid (d.length + ox.length ≤ 100000) := by simp only [Hid]; omega
        clear hdE hdx
        obtain ⟨xe, xid, xg, ⟨xls, xps⟩, ⟨xa, xb, xt, xw⟩⟩ := x
        obtain ⟨sA, sc, sB, sc2⟩ := s
        obtain ⟨c0, c1', c2, c3, c4, c5, c6, c7, c8⟩ := he
        unfold wrc at hwb
        simp only at c0 c1' c2 c3 c4 c5 c6 c7 c8 hwb k0 k1 k2 HKI HQ HND HNL hc
        go_upto_region 8 with fail
        rw [← hwb]
        clear hwb c0 c1' c2 c3 c4 c5 c6 c7 c8
        go_region_law ((first
          | (refine st_of rfl (en_wp HE3.out (.tmp 32) (.tmp 42) rfl rfl _ ox _ _ rfl rfl HBS3.out HLX.out ?_); intro v4 w4 h4; rw [HDX.out] at h4; have HE4 := Lib.hid h4; obtain ⟨A4, c4, rfl, _, _⟩ := h4.own.open; clear h4)
          | (go_simp; go_at_call 15; refine (HKI.out wb.drew).mono ?_; rintro e w3 ⟨v, rfl, ho, hb3⟩; obtain ⟨A3, c3, rfl, hbs, _⟩ := ho.open; have HBS3 := Lib.hid hbs; have HE3 := Lib.hid (HEd.out.below hb3); clear ho hbs hb3)
          | (go_simp; go_at_call 16; (with_reducible refine (HBI.out _ _).mono ?_); rintro e w1 ⟨rfl, rfl⟩)))
        all_goals (
          clear k0 k1 k2 HEd HE0 HBI HKI HLX
          have q := wb_box HE4.out.bx (Below.refl _ _)
          unfold WB at q
          obtain ⟨k0, k1, k2, k3, k4, k5, k6, k7, k8⟩ := q
          simp only at k0 k1 k2 k3 k4 k5 k6 k7 k8
          rcases hc with rfl | ⟨rfl, rfl, hc, hf⟩ | ⟨rfl, rfl, hc, hi⟩
          · have HQ1 := Lib.hid (show encW ⟨xe, xid, true, ⟨xls, xps⟩, ⟨xa, xb, xt, xw⟩⟩ = ox by rw [HQ.out]; simp)
            clear HQ HND HNL
            go_wp2
            refine ⟨⟨k + 1, _, hlt, by go_num, ?_, HE4.out.own, HE4.out.bl⟩, by simp [intOf]; omega⟩
            show _ = _
            rw [HSN.out, HQ1.out, ← HDX.out, HDD.out]
            simp only [List.append_assoc]
          · obtain ⟨e1, e2, e3, _⟩ := edgeB_of hc
            simp only at e1 e2 e3
            have hnm := nameB_len e3
            have HK2 := Lib.hid (fun W => rints1_any [xa, xb] #[.int .i64 xa, .int .i64 xb] 2 W (by intro y hy; simp at hy; rcases hy with rfl | rfl <;> exact ⟨by omega, by omega⟩) (by simp) rfl rfl)
            have HST := Lib.hid (fun W => rstr_any xt (by omega) W)
            have HRL := Lib.hid (fun W => rreal_any xw hf W)
            have HQ1 := Lib.hid (show encW ⟨true, xid, false, ⟨xls, xps⟩, ⟨xa, xb, xt, xw⟩⟩ = ox ++ (encIs [xa, xb] ++ (encS xt.data.toList ++ encR xw)) by rw [HQ.out]; simp [encE, encIs])
            have lp1 : (encIs [xa, xb]).length ≤ 20 := encIs_len [xa, xb] (by intro y hy; simp at hy; rcases hy with rfl | rfl <;> exact ⟨by omega, by omega⟩)
            have lp2 := (encS_len xt (by omega)).1
            have lp3 : (encR xw).length ≤ 8 := Nat.le_refl 8
            clear HQ HND HNL hc hf e1 e2 e3
            generalize encIs [xa, xb] = p1 at *
            generalize encS xt.data.toList = p2 at *
            generalize encR xw = p3 at *
            go_wp2_with fail
            refine (HK2.out _).mono ?_
            rintro e w5 ⟨v, rfl, ho, hb⟩
            obtain ⟨B5, b5, rfl, hbs, _⟩ := ho.open
            have HS5 := Lib.hid hbs
            have HE5 := Lib.hid (HE4.out.below hb)
            clear ho hbs hb
            go_wp2_with (at_builtin; refine wp_en rfl HE5.out (.tmp 55) (.tmp 63) rfl rfl _ p1 _ _ rfl rfl HS5.out ?cl ?_)
            case cl => omega
            intro v6 w6 h6
            obtain ⟨d6, hd6⟩ : ∃ d6, dx ++ p1 = d6 := ⟨_, rfl⟩
            have hl6 : d6.length ≤ dx.length + 60 := by rw [← hd6, List.length_append]; omega
            rw [hd6] at h6
            have HD6 := Lib.hid hd6
            clear hd6
            have HE6 := Lib.hid h6
            obtain ⟨A6, c6, rfl, _, _⟩ := h6.own.open
            have q := wb_box h6.bx (Below.refl _ _)
            unfold WB at q
            clear k0 k1 k2 k3 k4 k5 k6 k7 k8
            obtain ⟨k0, k1, k2, k3, k4, k5, k6, k7, k8⟩ := q
            simp only at k0 k1 k2 k3 k4 k5 k6 k7 k8
            clear h6
            go_wp2_with fail
            refine (HST.out _).mono ?_
            rintro e w7 ⟨v, rfl, ho, hb⟩
            obtain ⟨B7, b7, rfl, hbs, _⟩ := ho.open
            have HS7 := Lib.hid hbs
            have HE7 := Lib.hid (HE6.out.below hb)
            clear ho hbs hb
            go_wp2_with (at_builtin; refine wp_en rfl HE7.out (.tmp 65) (.tmp 69) rfl rfl _ p2 _ _ rfl rfl HS7.out ?cl ?_)
            case cl => omega
            intro v8 w8 h8
            obtain ⟨d8, hd8⟩ : ∃ d8, d6 ++ p2 = d8 := ⟨_, rfl⟩
            have hl8 : d8.length ≤ d6.length + 60 := by rw [← hd8, List.length_append]; omega
            rw [hd8] at h8
            have HD8 := Lib.hid hd8
            clear hd8
            have HE8 := Lib.hid h8
            obtain ⟨A8, c8, rfl, _, _⟩ := h8.own.open
            have q := wb_box h8.bx (Below.refl _ _)
            unfold WB at q
            clear k0 k1 k2 k3 k4 k5 k6 k7 k8
            obtain ⟨k0, k1, k2, k3, k4, k5, k6, k7, k8⟩ := q
            simp only at k0 k1 k2 k3 k4 k5 k6 k7 k8
            clear h8
            go_wp2_with fail
            refine (HRL.out _).mono ?_
            rintro e w9 ⟨v, rfl, ho, hb⟩
            obtain ⟨B9, b9, rfl, hbs, _⟩ := ho.open
            have HS9 := Lib.hid hbs
            have HE9 := Lib.hid (HE8.out.below hb)
            clear ho hbs hb
            go_wp2_with (at_builtin; refine wp_en rfl HE9.out (.tmp 71) (.tmp 75) rfl rfl _ p3 _ _ rfl rfl HS9.out ?cl ?_)
            case cl => omega
            intro v10 w10 h10
            obtain ⟨d10, hd10⟩ : ∃ d10, d8 ++ p3 = d10 := ⟨_, rfl⟩
            have hl10 : d10.length ≤ d8.length + 60 := by rw [← hd10, List.length_append]; omega
            rw [hd10] at h10
            have HD10 := Lib.hid hd10
            clear hd10
            have HE10 := Lib.hid h10
            clear h10
            go_wp2
            refine ⟨⟨k + 1, _, hlt, by go_num, ?_, HE10.out.own, HE10.out.bl⟩, by simp [intOf]; omega⟩
            show _ = _
            rw [HSN.out, HQ1.out, ← HD10.out, ← HD8.out, ← HD6.out, ← HDX.out, HDD.out]
            simp only [List.append_assoc]
          · have HNC := Lib.hid (HND.out w4 HE4.out.bl hc hi)
            have hle := HNL.out hc hi
            have HQ1 := Lib.hid (show encW ⟨false, xid, false, ⟨xls, xps⟩, ⟨xa, xb, xt, xw⟩⟩ = ox ++ encN ⟨xls, xps⟩ by rw [HQ.out]; simp)
            clear HQ HND HNL hc hi
            generalize encN ⟨xls, xps⟩ = p1 at *
            go_wp2_with fail
            refine (HNC.out).mono ?_
            rintro e w5 ⟨v, rfl, ho, hb⟩
            obtain ⟨B5, b5, rfl, hbs, _⟩ := ho.open
            have HS5 := Lib.hid hbs
            have HE5 := Lib.hid (HE4.out.below hb)
            clear ho hbs hb
            go_wp2_with (at_builtin; refine wp_en rfl HE5.out (.tmp 44) (.tmp 47) rfl rfl _ p1 _ _ rfl rfl HS5.out ?cl ?_)
            case cl => omega
            intro v6 w6 h6
            obtain ⟨d6, hd6⟩ : ∃ d6, dx ++ p1 = d6 := ⟨_, rfl⟩
            have hl6 : d6.length ≤ dx.length + 230 := by rw [← hd6, List.length_append]; omega
            rw [hd6] at h6
            have HD6 := Lib.hid hd6
            clear hd6
            have HE6 := Lib.hid h6
            clear h6
            go_wp2
            refine ⟨⟨k + 1, _, hlt, by go_num, ?_, HE6.out.own, HE6.out.bl⟩, by simp [intOf]; omega⟩
            show _ = _
            rw [HSN.out, HQ1.out, ← HD6.out, ← HDX.out, HDD.out]
            simp only [List.append_assoc])
      · obtain rfl : k = l.length := by omega
        have e := HDD.out
        rw [← List.length_map (f := fun x : Wr × Ns => x.1), List.take_length, HEQ.out] at e
        subst e
        go_wp2
        go_ret2
        exact ⟨by rw [HE.out]; exact ⟨_, _, rfl, HOW.out, HLE.out⟩, HB.out⟩
end Go.Proofs.Ytdhpphbgobakhaa
/- The reference's Decode of chapter 10: its contract. Conditions: the bytes lie in memory, at most 1,000,000 of them. -/
namespace Go.Proofs.Ytdhpphbgobakhaa
set_option maxRecDepth 100000
set_option linter.unusedVariables false
open Go.ChangeShapes Go.WideShapes Go.ChangeAt Go.RowKit
open Fl (S cmpK keyN normN)
open Val (V cmpV isB ltT)
open Lb
theorem nx_dead {α β : Type} {p : Prs α} {f : α → Prs β} {q : Option (List UInt8)} (h : nx p q = none) : nx (andT p f) q = none := by
  cases q with
  | none => rfl
  | some l =>
    unfold nx andT at *
    simp only [Option.bind_some] at h ⊢
    cases hp : p l with
    | none => rfl
    | some z => rw [hp] at h; cases h
theorem many_dead {α : Type} {p : Prs α} {k : Nat} {q : Option (List UInt8)} (h : nx (pMany p k) q = none) : ∀ m, nx (pMany p (k + m)) q = none
  | 0 => h
  | m + 1 => nx_dead (many_dead h m)
section
variable {w w0 W W' : World} {B a k : Nat} {g : Option Nat} {q q' : Option (List UInt8)} {L : List (Wr × Ns)} {v v' : Value} {cs : Array Value}
theorem NdN.chg1 {n : Nd} {s : Ns} (h : NdN B W n s) (hs : RC B a g q w0) (hc : Chg (F1 a) W W') : NdN B W' n s := ⟨ro_chg1 h.l (Nat.le_refl _) hs hc, ro_chg1 h.p (Nat.le_refl _) hs hc⟩
theorem below_chg1 (h : Below w.heap.size w W) (ha : w.heap.size ≤ a) (hc : Chg (F1 a) W W') : Below w.heap.size w W' :=
  Chg.of_below h hc (fun k hk => by have e : k = a := hk; omega)
/-- While writes are decoded. -/
structure DR (w : World) (B a : Nat) (g : Option Nat) (q : Option (List UInt8)) (L : List (Wr × Ns)) (v : Value) (W : World) : Prop where
  rs : RC B a g q W
  ro : RO 45 9 B W v L.length (wcs L)
  nd : ∀ x ∈ L, NdN B W x.1.n x.2
  b : Below w.heap.size w W
theorem DR.below (h : DR w B a g q L v W) (hb : Below W.heap.size W W') : DR w B a g q L v W' := ⟨h.rs.below hb, h.ro.below hb, fun x hx => (h.nd x hx).below hb, bnext h.b hb⟩
theorem DR.read (h : DR w B a g q L v W) (ha : w.heap.size ≤ a) (hs : RC B a g q' W') (hc : Chg (F1 a) W W') : DR w B a g q' L v W' :=
  ⟨hs, ro_chg1 h.ro (Nat.le_refl _) h.rs hc, fun x hx => (h.nd x hx).chg1 h.rs hc, below_chg1 h.b ha hc⟩
theorem DR.add {x : Wr} {s : Ns} (h : DR w B a g q L v W) (hB : w.heap.size ≤ B) (hx : NdN B W x.n s) (ho : W'.ownsRow 0 45 9 v' (L.length + 1) (wcs L ++ (wrc x s).toList)) (hg : W.grownBy W' v.ownBlock) (hv : v'.ownBlock = v.ownBlock ∨ v'.ownBlock = some W.heap.size) : DR w B a g q (L ++ [(x, s)]) v' W' := by
  refine ⟨h.rs.grown hg (fun k e => h.ro.n k e), ?_, fun y hy => ?_, h.b.grown hg h.b.size (fun k e => by have := h.ro.n k e; omega)⟩
  · have := h.ro.next h.rs.size ho hv
    rw [wcs_snoc]
    simpa using this
  · rcases List.mem_append.1 hy with hy | hy
    · exact (h.nd y hy).app h.ro.r hg
    · rw [List.mem_singleton.1 hy]; exact hx.app h.ro.r hg
/-- While a write is read: the box k, its cells. -/
structure WT (B a : Nat) (g : Option Nat) (w0 : World) (k : Nat) (q : Option (List UInt8)) (cs : Array Value) (W : World) : Prop where
  rs : RC B a g q W
  ch : Chg (F1 a) w0 W
  bx : BX W k 45 cs
theorem WT.read (h : WT B a g w0 k q cs W) (hB : B ≤ k) (hs : RC B a g q' W') (hc : Chg (F1 a) W W') : WT B a g w0 k q' cs W' := ⟨hs, chg12 h.ch hc, h.bx.chg1 hc (h.rs.f1 hB)⟩
theorem WT.put (h : WT B a g w0 k q cs W) (hB : B ≤ k) (hk : w0.heap.size ≤ k) (o : Nat) (u : Value) {cs' : Array Value} (e : cs.setIfInBounds o u = cs') : WT B a g w0 k q cs' (W.setCell ⟨k, o, none⟩ u) :=
  ⟨h.rs.set hB o u, chg1_set h.ch hk o u, e ▸ h.bx.set o u⟩
end
theorem wok_gone (e : Bool) (id : Int) (hi : In64 id) : WOk ⟨e, id, true, zN, zE⟩ ∧ WrIn ⟨e, id, true, zN, zE⟩ := ⟨⟨zN_ok, Nat.zero_le _⟩, zN_in, hi, zE_in⟩
theorem wok_edge (id a b : Int) (t : ByteArray) (f : Nat) (hi : In64 id) (ha : In64 a) (hb : In64 b) (ht : t.size ≤ 1000000) (hf : f < 2 * S) : WOk ⟨true, id, false, zN, ⟨a, b, t, f⟩⟩ ∧ WrIn ⟨true, id, false, zN, ⟨a, b, t, f⟩⟩ :=
  ⟨⟨zN_ok, Nat.le_trans ht (by decide)⟩, zN_in, hi, ha, hb, hf⟩
theorem wok_node (id : Int) (n : Nd) (hi : In64 id) (h : NdD n) : WOk ⟨false, id, false, n, zE⟩ ∧ WrIn ⟨false, id, false, n, zE⟩ := by
  have m : 1000000 ≤ maxLen := by decide
  exact ⟨⟨⟨by have := h.1; show n.ls.length ≤ 1000000; omega, by have := h.2.1; show n.ps.length ≤ 1000000; omega, fun x hx => Nat.le_trans (h.2.2.1 x hx) m, fun x hx => ⟨Nat.le_trans (h.2.2.2 x hx).1 m, Nat.le_trans (h.2.2.2 x hx).2.2.2.2 m⟩⟩, Nat.zero_le _⟩, fun p hp => ⟨(h.2.2.2 p hp).2.2.1, (h.2.2.2 p hp).2.2.2.1⟩, hi, zE_in⟩
set_option maxHeartbeats 16000000 in
theorem rdec_any (A : Option Addr) (l : List UInt8) (c : Nat) (w : World) (h : BS w A l c) (hl : l.length ≤ 1000000) : Calls Try.prog 8 #[.slice A l.length c] w fun e w' => DecP l e w' ∧ Below w.heap.size w w' := by
  have HBS := Lib.hid h
  have HL : Hid (l.length ≤ 1000000) := hl
  obtain ⟨g, hcur, hg⟩ := cur_arg 67 h (Below.refl w.heap.size w) hl
  obtain ⟨W0, hW0⟩ : ∃ W0, W0 = w.alloc (.cells #[.slice A l.length c, .bool false] 67) := ⟨_, rfl⟩
  have hsz : W0.heap.size = w.heap.size + 1 := by rw [hW0]; simp
  have hrs : RC (w.heap.size + 1) w.heap.size g (some l) W0 := ⟨curx (by rw [hW0]; exact hcur), Nat.lt_succ_self _, fun k e => Nat.lt_succ_of_lt (hg k e), Nat.le_of_eq hsz.symm⟩
  have HBW : Hid (Below w.heap.size w W0) := by rw [hW0]; exact one_box w _
  have HI := Lib.hid (rcd hrs (rcI_any hrs.cur))
  clear h hl hcur hg hsz hrs
  go_enter Try.func8, Try.ntmps8
  go_upto_region 2 with fail
  rw [← hW0]
  clear hW0
  go_wp2_with fail
  refine HI.out.mono ?_
  rintro e w1 ⟨x1, rfl, h1, hc1, hi1, ho1⟩
  have HI1 := Lib.hid hi1
  have HB1 := Lib.hid (below_chg1 HBW.out (Nat.le_refl _) hc1)
  have HII := Lib.hid (rcd h1 (rcI_any h1.cur))
  clear h1 hc1 hi1 ho1 HI HBW
  go_wp2_with fail
  refine HII.out.mono ?_
  rintro e w2 ⟨x2, rfl, h2, hc2, hi2, ho2⟩
  have HI2 := Lib.hid hi2
  have HB2 := Lib.hid (below_chg1 HB1.out (Nat.le_refl _) hc2)
  have HC := Lib.hid (rcd h2 (rmany_any h2.cur 56 (by decide)))
  clear h2 hc2 hi2 ho2 HII HB1
  go_wp2_with fail
  refine HC.out.mono ?_
  rintro e w3 ⟨n, rfl, h3, hc3, hi3, hn⟩
  have hn : n ≤ 56 := hn
  have HI3 := Lib.hid hi3
  have HB3 := Lib.hid (below_chg1 HB2.out (Nat.le_refl _) hc3)
  have HM0 := Lib.hid (many_zero (q := (nx (pC 56) (nx pI (nx pI (some l))))) (pW true))
  have HD0 : Hid (DR w (w.heap.size + 1) w.heap.size g (nx (pMany (pW true) 0) (nx (pC 56) (nx pI (nx pI (some l))))) [] (.slice none 0 0) w3) := by
    rw [HM0.out.1]
    exact ⟨h3, RO.nil _ _ _ _, (fun x hx => by cases hx), HB3.out⟩
  clear h3 hc3 hi3 HC HB2 HB3
  go_wp2
  go_loopw [10, 11] (fun v i wr => ∃ (L : List (Wr × Ns)), L.length ≤ n ∧ i = .int .i64 (L.length : Nat) ∧ Hid (∀ x ∈ L, WOk x.1 ∧ WrIn x.1) ∧ Hid (DR w (w.heap.size + 1) w.heap.size g (nx (pMany (pW true) L.length) (nx (pC 56) (nx pI (nx pI (some l))))) L v wr) ∧ Hid (Is (pMany (pW true) L.length) (nx (pC 56) (nx pI (nx pI (some l)))) (L.map (·.1)))) (fun _ i _ => n - (intOf i).toNat)
  case atStart => exact ⟨[], Nat.zero_le _, rfl, (fun x hx => by cases hx), HD0.out, HM0.out.2⟩
  case round =>
    obtain ⟨L, hk, rfl, HOK, HD, HS⟩ := hrel
    obtain ⟨Av, cv, rfl⟩ := own_slice HD.out.ro.r
    clear HD0 HM0
    by_cases hlt : L.length < n
    · cases hq : (nx (pMany (pW true) L.length) (nx (pC 56) (nx pI (nx pI (some l))))) with
      | none =>
        have HNO : Hid (decB true l = none) := by
          refine pA_none (s := true) ?_
          have hd := many_dead hq (n - L.length)
          rw [show L.length + (n - L.length) = n by omega] at hd
          unfold pA
          rw [(nx_and HI1.out).1, (nx_and HI2.out).1, (nx_and HI3.out).1]
          exact nx_dead hd
        have hrow := wrow_own HD.out.ro.r (fun x hx => (HD.out.nd x hx).at)
        have HEN := Lib.hid (renc_any x1 x2 Av cv L wr hrow (fun x hx => (HOK.out x hx).1) (fun x hx => (HOK.out x hx).2) (by omega))
        have hkc := HD.out.rs.cur
        rw [hq] at hkc
        obtain ⟨_, _, _, _, _, _, _, _, k2, _⟩ := (show Cux wr w.heap.size g from hkc)
        have HK2 := Lib.hid k2
        clear hrow hkc hq
        go_wp2_with fail
        refine HEN.out.mono ?_
        rintro e w8 ⟨hp, hb⟩
        obtain ⟨X8, n8, rfl⟩ : ∃ (X8 : Value) (n8 : Int), e = .returned (.tuple #[X8, .int .i64 n8]) := by
          unfold EncP at hp
          split at hp
          · obtain ⟨_, _, rfl, _⟩ := hp; exact ⟨_, _, rfl⟩
          · exact ⟨_, _, hp⟩
        have B8 := Lib.hid (bnext HD.out.b hb)
        have k8 := (hb.cell (World.block_lt_of_cell? wr _ k2)).trans k2
        clear hp hb k2
        go_wp2
        exact bodyPost_ret (v := .tuple #[.int .i64 0, .int .i64 0, .slice none 0 0, .int .i64 2]) (by simp [results, Try.results8, go_sem]) rfl ⟨DecP.none HNO.out, B8.out⟩
      | some l1 =>
        have hkc := HD.out.rs.cur
        rw [hq] at hkc
        obtain ⟨_, _, _, _, _, _, _, k2, _⟩ := (show Cur wr w.heap.size g (some l1) from hkc)
        have HT := Lib.hid (rcd HD.out.rs (rtruth_any HD.out.rs.cur))
        clear hkc hq
        go_wp2_with fail
        refine HT.out.mono ?_
        rintro e u1 ⟨y1, rfl, r1, c1, i1, _⟩
        have hB1 : w.heap.size + 1 ≤ u1.heap.size := r1.size
        have hwr : wr.heap.size ≤ u1.heap.size := c1.size
        have J1 := Lib.hid i1
        obtain ⟨U1, hU1⟩ : ∃ U1, U1 = u1.alloc (.cells #[.bool y1, .int .i64 0, .bool false, .slice none 0 0, .slice none 0 0, .int .i64 0, .int .i64 0, .string ⟨#[]⟩, .float .f64 0] 45) := ⟨_, rfl⟩
        have T1 : Hid (WT (w.heap.size + 1) w.heap.size g wr u1.heap.size (nx pB (nx (pMany (pW true) L.length) (nx (pC 56) (nx pI (nx pI (some l)))))) #[.bool y1, .int .i64 0, .bool false, .slice none 0 0, .slice none 0 0, .int .i64 0, .int .i64 0, .string ⟨#[]⟩, .float .f64 0] U1) := by rw [hU1]; exact ⟨r1.alloc _, chg1_alloc c1 _, bx_new u1 _ _⟩
        clear r1 c1 i1 HT
        go_upto_region 10 with fail
        rw [← hU1]
        clear hU1 k2
        have HT := Lib.hid (rcd T1.out.rs (rcI_any T1.out.rs.cur))
        go_wp2_with fail
        refine HT.out.mono ?_
        rintro e u2 ⟨y2, rfl, r2, c2, i2, o2⟩
        have J2 := Lib.hid i2
        have JO2 : Hid (In64 y2) := o2
        have T2 := Lib.hid (T1.out.read hB1 r2 c2)
        clear r2 c2 i2 o2 HT T1
        have p0 := T2.out.bx.cell 0; have p1 := T2.out.bx.cell 1; have p2 := T2.out.bx.cell 2; have p3 := T2.out.bx.cell 3; have p4 := T2.out.bx.cell 4; have p5 := T2.out.bx.cell 5; have p6 := T2.out.bx.cell 6; have p7 := T2.out.bx.cell 7; have p8 := T2.out.bx.cell 8; have pf := T2.out.bx.frozen; simp only [List.getElem?_toArray, List.getElem?_cons_zero, List.getElem?_cons_succ] at p0 p1 p2 p3 p4 p5 p6 p7 p8
        obtain ⟨U2, hU2⟩ : ∃ U2, U2 = u2.setCell ⟨u1.heap.size, 1, none⟩ (.int .i64 y2) := ⟨_, rfl⟩
        have T3 : Hid (WT (w.heap.size + 1) w.heap.size g wr u1.heap.size (nx pI (nx pB (nx (pMany (pW true) L.length) (nx (pC 56) (nx pI (nx pI (some l))))))) #[.bool y1, .int .i64 y2, .bool false, .slice none 0 0, .slice none 0 0, .int .i64 0, .int .i64 0, .string ⟨#[]⟩, .float .f64 0] U2) := by rw [hU2]; exact T2.out.put hB1 hwr 1 _ rfl
        go_upto_region 11 with fail
        rw [← hU2]
        clear hU2 p0 p1 p2 p3 p4 p5 p6 p7 p8 pf T2
        have HT := Lib.hid (rcd T3.out.rs (rtruth_any T3.out.rs.cur))
        go_wp2_with fail
        refine HT.out.mono ?_
        rintro e u3 ⟨y3, rfl, r3, c3, i3, _⟩
        have J3 := Lib.hid i3
        have T4 := Lib.hid (T3.out.read hB1 r3 c3)
        clear r3 c3 i3 HT T3
        have p0 := T4.out.bx.cell 0; have p1 := T4.out.bx.cell 1; have p2 := T4.out.bx.cell 2; have p3 := T4.out.bx.cell 3; have p4 := T4.out.bx.cell 4; have p5 := T4.out.bx.cell 5; have p6 := T4.out.bx.cell 6; have p7 := T4.out.bx.cell 7; have p8 := T4.out.bx.cell 8; have pf := T4.out.bx.frozen; simp only [List.getElem?_toArray, List.getElem?_cons_zero, List.getElem?_cons_succ] at p0 p1 p2 p3 p4 p5 p6 p7 p8
        obtain ⟨U3, hU3⟩ : ∃ U3, U3 = u3.setCell ⟨u1.heap.size, 2, none⟩ (.bool y3) := ⟨_, rfl⟩
        have T5 : Hid (WT (w.heap.size + 1) w.heap.size g wr u1.heap.size (nx pB (nx pI (nx pB (nx (pMany (pW true) L.length) (nx (pC 56) (nx pI (nx pI (some l)))))))) #[.bool y1, .int .i64 y2, .bool y3, .slice none 0 0, .slice none 0 0, .int .i64 0, .int .i64 0, .string ⟨#[]⟩, .float .f64 0] U3) := by rw [hU3]; exact T4.out.put hB1 hwr 2 _ rfl
        go_upto_region 13 with fail
        rw [← hU3]
        clear hU3 p0 p1 p2 p3 p4 p5 p6 p7 p8 pf T4
        cases y3 with
        | true =>
          have HIS := Lib.hid (pW_gone (s := true) J1.out J2.out J3.out)
          clear J1 J2 J3
          have HD5 := Lib.hid ((HD.out.read (Nat.le_refl _) T5.out.rs T5.out.ch).below (one_box U3 (.cells (wrc ⟨y1, y2, true, zN, zE⟩ zS) 45)))
          have HN5 := Lib.hid ((NdN.zero (w.heap.size + 1) U3).below (one_box U3 (.cells (wrc ⟨y1, y2, true, zN, zE⟩ zS) 45)))
          have HMS := Lib.hid (many_step HS.out HIS.out.2)
          have HMQ := Lib.hid (HIS.out.1)
          have HCN := Lib.hid (new_cells U3 (wrc ⟨y1, y2, true, zN, zE⟩ zS) 45)
          have HLE : Hid (L.length + 1 ≤ 10000) := by simp only [Hid]; omega
          have HZ := Lib.hid (wrc_one ⟨y1, y2, true, zN, zE⟩ zS)
          have HOK7 : Hid (∀ y ∈ L ++ [((⟨y1, y2, true, zN, zE⟩ : Wr), (zS : Ns))], WOk y.1 ∧ WrIn y.1) := fun y hy => by
            rcases List.mem_append.1 hy with hy | hy
            · exact HOK.out y hy
            · rw [List.mem_singleton.1 hy]; exact wok_gone _ _ JO2.out
          have p0 := T5.out.bx.cell 0; have p1 := T5.out.bx.cell 1; have p2 := T5.out.bx.cell 2; have p3 := T5.out.bx.cell 3; have p4 := T5.out.bx.cell 4; have p5 := T5.out.bx.cell 5; have p6 := T5.out.bx.cell 6; have p7 := T5.out.bx.cell 7; have p8 := T5.out.bx.cell 8; have pf := T5.out.bx.frozen; simp only [List.getElem?_toArray, List.getElem?_cons_zero, List.getElem?_cons_succ] at p0 p1 p2 p3 p4 p5 p6 p7 p8
          clear HD HS T5
          go_wp2_with (at_builtin; refine wp_ownL 22 45 _ 9 112 Try.underlying22 infoW rfl (by decide) (by decide) rfl _ _ rfl _ L.length (wcs L) HD5.out.ro.r rfl ⟨U3.heap.size, 0, none⟩ 1 1 (wrc ⟨y1, y2, true, zN, zE⟩ zS).toList rfl rfl HCN.out HZ.out HLE.out ?_)
          intro v6 w6 ho6 hg6 hv6
          obtain ⟨A6, c6, rfl⟩ := own_slice ho6
          have HD6 := Lib.hid (HD5.out.add (x := ⟨y1, y2, true, zN, zE⟩) (s := zS) (Nat.le_succ _) HN5.out ho6 hg6 (by simpa using hv6))
          clear ho6 hg6 hv6 HD5 HN5 HCN
          have HD7 : Hid (DR w (w.heap.size + 1) w.heap.size g (nx (pMany (pW true) (L ++ [((⟨y1, y2, true, zN, zE⟩ : Wr), (zS : Ns))]).length) (nx (pC 56) (nx pI (nx pI (some l))))) (L ++ [((⟨y1, y2, true, zN, zE⟩ : Wr), (zS : Ns))]) (.slice A6 (L.length + 1) c6) w6) := by
            have := HD6.out
            rw [← HMQ.out, ← HMS.out.1] at this
            simp only [Hid]
            simpa using this
          have HS7 : Hid (Is (pMany (pW true) (L ++ [((⟨y1, y2, true, zN, zE⟩ : Wr), (zS : Ns))]).length) (nx (pC 56) (nx pI (nx pI (some l)))) ((L ++ [((⟨y1, y2, true, zN, zE⟩ : Wr), (zS : Ns))]).map (·.1))) := by
            have := HMS.out.2
            simp only [Hid]
            simpa using this
          clear HD6 HMS HMQ p0 p1 p2 p3 p4 p5 p6 p7 p8 pf
          go_wp2
          exact ⟨⟨L ++ [((⟨y1, y2, true, zN, zE⟩ : Wr), (zS : Ns))], by simp; omega, by simp, HOK7.out, HD7.out, HS7.out⟩, by simp [intOf]; omega⟩
        | false =>
          cases y1 with
          | true =>
            have HT := Lib.hid (rcd T5.out.rs (rcI_any T5.out.rs.cur))
            have p0 := T5.out.bx.cell 0; have p1 := T5.out.bx.cell 1; have p2 := T5.out.bx.cell 2; have p3 := T5.out.bx.cell 3; have p4 := T5.out.bx.cell 4; have p5 := T5.out.bx.cell 5; have p6 := T5.out.bx.cell 6; have p7 := T5.out.bx.cell 7; have p8 := T5.out.bx.cell 8; have pf := T5.out.bx.frozen; simp only [List.getElem?_toArray, List.getElem?_cons_zero, List.getElem?_cons_succ] at p0 p1 p2 p3 p4 p5 p6 p7 p8
            go_wp2_with fail
            refine HT.out.mono ?_
            rintro e u4 ⟨y4, rfl, r4, c4, i4, o4⟩
            have J4 := Lib.hid i4
            have JO4 : Hid (In64 y4) := o4
            have T6 := Lib.hid (T5.out.read hB1 r4 c4)
            clear r4 c4 i4 o4 HT T5 p0 p1 p2 p3 p4 p5 p6 p7 p8 pf
            have p0 := T6.out.bx.cell 0; have p1 := T6.out.bx.cell 1; have p2 := T6.out.bx.cell 2; have p3 := T6.out.bx.cell 3; have p4 := T6.out.bx.cell 4; have p5 := T6.out.bx.cell 5; have p6 := T6.out.bx.cell 6; have p7 := T6.out.bx.cell 7; have p8 := T6.out.bx.cell 8; have pf := T6.out.bx.frozen; simp only [List.getElem?_toArray, List.getElem?_cons_zero, List.getElem?_cons_succ] at p0 p1 p2 p3 p4 p5 p6 p7 p8
            obtain ⟨U4, hU4⟩ : ∃ U4, U4 = u4.setCell ⟨u1.heap.size, 5, none⟩ (.int .i64 y4) := ⟨_, rfl⟩
            have T7 : Hid (WT (w.heap.size + 1) w.heap.size g wr u1.heap.size (nx pI (nx pB (nx pI (nx pB (nx (pMany (pW true) L.length) (nx (pC 56) (nx pI (nx pI (some l))))))))) #[.bool true, .int .i64 y2, .bool false, .slice none 0 0, .slice none 0 0, .int .i64 y4, .int .i64 0, .string ⟨#[]⟩, .float .f64 0] U4) := by rw [hU4]; exact T6.out.put hB1 hwr 5 _ rfl
            go_upto_region 16 with fail
            rw [← hU4]
            clear hU4 p0 p1 p2 p3 p4 p5 p6 p7 p8 pf T6
            have HT := Lib.hid (rcd T7.out.rs (rcI_any T7.out.rs.cur))
            go_wp2_with fail
            refine HT.out.mono ?_
            rintro e u5 ⟨y5, rfl, r5, c5, i5, o5⟩
            have J5 := Lib.hid i5
            have JO5 : Hid (In64 y5) := o5
            have T8 := Lib.hid (T7.out.read hB1 r5 c5)
            clear r5 c5 i5 o5 HT T7
            have p0 := T8.out.bx.cell 0; have p1 := T8.out.bx.cell 1; have p2 := T8.out.bx.cell 2; have p3 := T8.out.bx.cell 3; have p4 := T8.out.bx.cell 4; have p5 := T8.out.bx.cell 5; have p6 := T8.out.bx.cell 6; have p7 := T8.out.bx.cell 7; have p8 := T8.out.bx.cell 8; have pf := T8.out.bx.frozen; simp only [List.getElem?_toArray, List.getElem?_cons_zero, List.getElem?_cons_succ] at p0 p1 p2 p3 p4 p5 p6 p7 p8
            obtain ⟨U5, hU5⟩ : ∃ U5, U5 = u5.setCell ⟨u1.heap.size, 6, none⟩ (.int .i64 y5) := ⟨_, rfl⟩
            have T9 : Hid (WT (w.heap.size + 1) w.heap.size g wr u1.heap.size (nx pI (nx pI (nx pB (nx pI (nx pB (nx (pMany (pW true) L.length) (nx (pC 56) (nx pI (nx pI (some l)))))))))) #[.bool true, .int .i64 y2, .bool false, .slice none 0 0, .slice none 0 0, .int .i64 y4, .int .i64 y5, .string ⟨#[]⟩, .float .f64 0] U5) := by rw [hU5]; exact T8.out.put hB1 hwr 6 _ rfl
            go_upto_region 17 with fail
            rw [← hU5]
            clear hU5 p0 p1 p2 p3 p4 p5 p6 p7 p8 pf T8
            have HT := Lib.hid (rcd T9.out.rs (rcS_any T9.out.rs.cur))
            go_wp2_with fail
            refine HT.out.mono ?_
            rintro e u6 ⟨y6, rfl, r6, c6, i6, o6⟩
            have J6 := Lib.hid i6
            have JO6 : Hid (y6.size ≤ 1000000) := o6
            have T10 := Lib.hid (T9.out.read hB1 r6 c6)
            clear r6 c6 i6 o6 HT T9
            have p0 := T10.out.bx.cell 0; have p1 := T10.out.bx.cell 1; have p2 := T10.out.bx.cell 2; have p3 := T10.out.bx.cell 3; have p4 := T10.out.bx.cell 4; have p5 := T10.out.bx.cell 5; have p6 := T10.out.bx.cell 6; have p7 := T10.out.bx.cell 7; have p8 := T10.out.bx.cell 8; have pf := T10.out.bx.frozen; simp only [List.getElem?_toArray, List.getElem?_cons_zero, List.getElem?_cons_succ] at p0 p1 p2 p3 p4 p5 p6 p7 p8
            obtain ⟨U6, hU6⟩ : ∃ U6, U6 = u6.setCell ⟨u1.heap.size, 7, none⟩ (.string y6) := ⟨_, rfl⟩
            have T11 : Hid (WT (w.heap.size + 1) w.heap.size g wr u1.heap.size (nx pS (nx pI (nx pI (nx pB (nx pI (nx pB (nx (pMany (pW true) L.length) (nx (pC 56) (nx pI (nx pI (some l))))))))))) #[.bool true, .int .i64 y2, .bool false, .slice none 0 0, .slice none 0 0, .int .i64 y4, .int .i64 y5, .string y6, .float .f64 0] U6) := by rw [hU6]; exact T10.out.put hB1 hwr 7 _ rfl
            go_upto_region 18 with fail
            rw [← hU6]
            clear hU6 p0 p1 p2 p3 p4 p5 p6 p7 p8 pf T10
            have HT := Lib.hid (rcd T11.out.rs (rcR_any T11.out.rs.cur))
            go_wp2_with fail
            refine HT.out.mono ?_
            rintro e u7 ⟨y7, rfl, r7, c7, i7, o7⟩
            have J7 := Lib.hid i7
            have JO7 : Hid (y7 < 2 * S) := o7
            have T12 := Lib.hid (T11.out.read hB1 r7 c7)
            clear r7 c7 i7 o7 HT T11
            have p0 := T12.out.bx.cell 0; have p1 := T12.out.bx.cell 1; have p2 := T12.out.bx.cell 2; have p3 := T12.out.bx.cell 3; have p4 := T12.out.bx.cell 4; have p5 := T12.out.bx.cell 5; have p6 := T12.out.bx.cell 6; have p7 := T12.out.bx.cell 7; have p8 := T12.out.bx.cell 8; have pf := T12.out.bx.frozen; simp only [List.getElem?_toArray, List.getElem?_cons_zero, List.getElem?_cons_succ] at p0 p1 p2 p3 p4 p5 p6 p7 p8
            obtain ⟨U7, hU7⟩ : ∃ U7, U7 = u7.setCell ⟨u1.heap.size, 8, none⟩ (.float .f64 y7) := ⟨_, rfl⟩
            have T13 : Hid (WT (w.heap.size + 1) w.heap.size g wr u1.heap.size (nx pR (nx pS (nx pI (nx pI (nx pB (nx pI (nx pB (nx (pMany (pW true) L.length) (nx (pC 56) (nx pI (nx pI (some l)))))))))))) #[.bool true, .int .i64 y2, .bool false, .slice none 0 0, .slice none 0 0, .int .i64 y4, .int .i64 y5, .string y6, .float .f64 y7] U7) := by rw [hU7]; exact T12.out.put hB1 hwr 8 _ rfl
            go_upto_region 19 with fail
            rw [← hU7]
            clear hU7 p0 p1 p2 p3 p4 p5 p6 p7 p8 pf T12
            have JE : Hid (nx pE (nx pB (nx pI (nx pB (nx (pMany (pW true) L.length) (nx (pC 56) (nx pI (nx pI (some l)))))))) = (nx pR (nx pS (nx pI (nx pI (nx pB (nx pI (nx pB (nx (pMany (pW true) L.length) (nx (pC 56) (nx pI (nx pI (some l)))))))))))) ∧ Is pE (nx pB (nx pI (nx pB (nx (pMany (pW true) L.length) (nx (pC 56) (nx pI (nx pI (some l)))))))) ⟨y4, y5, y6, y7⟩) := by
              have n1 := nx_and (f := fun a => andT pI fun b => andT pS fun t => andT pR fun w => ret (⟨a, b, t, w⟩ : Eg)) J4.out
              have n2 := nx_and (f := fun b => andT pS fun t => andT pR fun w => ret (⟨y4, b, t, w⟩ : Eg)) J5.out
              have n3 := nx_and (f := fun t => andT pR fun w => ret (⟨y4, y5, t, w⟩ : Eg)) J6.out
              have n4 := nx_and (f := fun w => ret (⟨y4, y5, y6, w⟩ : Eg)) J7.out
              unfold pE
              exact ⟨by rw [n1.1, n2.1, n3.1, n4.1, nx_ret], is_and J4.out (is_and J5.out (is_and J6.out (is_and J7.out is_ret)))⟩
            have HIS : Hid (nx (pW true) (nx (pMany (pW true) L.length) (nx (pC 56) (nx pI (nx pI (some l))))) = (nx pR (nx pS (nx pI (nx pI (nx pB (nx pI (nx pB (nx (pMany (pW true) L.length) (nx (pC 56) (nx pI (nx pI (some l)))))))))))) ∧ Is (pW true) (nx (pMany (pW true) L.length) (nx (pC 56) (nx pI (nx pI (some l))))) ⟨true, y2, false, zN, ⟨y4, y5, y6, y7⟩⟩) := by
              have := pW_edge (s := true) J1.out J2.out J3.out JE.out.2
              rw [JE.out.1] at this
              exact this
            clear J1 J2 J3 J4 J5 J6 J7 JE
            have HD5 := Lib.hid ((HD.out.read (Nat.le_refl _) T13.out.rs T13.out.ch).below (one_box U7 (.cells (wrc ⟨true, y2, false, zN, ⟨y4, y5, y6, y7⟩⟩ zS) 45)))
            have HN5 := Lib.hid ((NdN.zero (w.heap.size + 1) U7).below (one_box U7 (.cells (wrc ⟨true, y2, false, zN, ⟨y4, y5, y6, y7⟩⟩ zS) 45)))
            have HMS := Lib.hid (many_step HS.out HIS.out.2)
            have HMQ := Lib.hid (HIS.out.1)
            have HCN := Lib.hid (new_cells U7 (wrc ⟨true, y2, false, zN, ⟨y4, y5, y6, y7⟩⟩ zS) 45)
            have HLE : Hid (L.length + 1 ≤ 10000) := by simp only [Hid]; omega
            have HZ := Lib.hid (wrc_one ⟨true, y2, false, zN, ⟨y4, y5, y6, y7⟩⟩ zS)
            have HOK7 : Hid (∀ y ∈ L ++ [((⟨true, y2, false, zN, ⟨y4, y5, y6, y7⟩⟩ : Wr), (zS : Ns))], WOk y.1 ∧ WrIn y.1) := fun y hy => by
              rcases List.mem_append.1 hy with hy | hy
              · exact HOK.out y hy
              · rw [List.mem_singleton.1 hy]; exact wok_edge _ _ _ _ _ JO2.out JO4.out JO5.out JO6.out JO7.out
            have p0 := T13.out.bx.cell 0; have p1 := T13.out.bx.cell 1; have p2 := T13.out.bx.cell 2; have p3 := T13.out.bx.cell 3; have p4 := T13.out.bx.cell 4; have p5 := T13.out.bx.cell 5; have p6 := T13.out.bx.cell 6; have p7 := T13.out.bx.cell 7; have p8 := T13.out.bx.cell 8; have pf := T13.out.bx.frozen; simp only [List.getElem?_toArray, List.getElem?_cons_zero, List.getElem?_cons_succ] at p0 p1 p2 p3 p4 p5 p6 p7 p8
            clear HD HS T13
            go_wp2_with (at_builtin; refine wp_ownL 22 45 _ 9 112 Try.underlying22 infoW rfl (by decide) (by decide) rfl _ _ rfl _ L.length (wcs L) HD5.out.ro.r rfl ⟨U7.heap.size, 0, none⟩ 1 1 (wrc ⟨true, y2, false, zN, ⟨y4, y5, y6, y7⟩⟩ zS).toList rfl rfl HCN.out HZ.out HLE.out ?_)
            intro v6 w6 ho6 hg6 hv6
            obtain ⟨A6, c6, rfl⟩ := own_slice ho6
            have HD6 := Lib.hid (HD5.out.add (x := ⟨true, y2, false, zN, ⟨y4, y5, y6, y7⟩⟩) (s := zS) (Nat.le_succ _) HN5.out ho6 hg6 (by simpa using hv6))
            clear ho6 hg6 hv6 HD5 HN5 HCN
            have HD7 : Hid (DR w (w.heap.size + 1) w.heap.size g (nx (pMany (pW true) (L ++ [((⟨true, y2, false, zN, ⟨y4, y5, y6, y7⟩⟩ : Wr), (zS : Ns))]).length) (nx (pC 56) (nx pI (nx pI (some l))))) (L ++ [((⟨true, y2, false, zN, ⟨y4, y5, y6, y7⟩⟩ : Wr), (zS : Ns))]) (.slice A6 (L.length + 1) c6) w6) := by
              have := HD6.out
              rw [← HMQ.out, ← HMS.out.1] at this
              simp only [Hid]
              simpa using this
            have HS7 : Hid (Is (pMany (pW true) (L ++ [((⟨true, y2, false, zN, ⟨y4, y5, y6, y7⟩⟩ : Wr), (zS : Ns))]).length) (nx (pC 56) (nx pI (nx pI (some l)))) ((L ++ [((⟨true, y2, false, zN, ⟨y4, y5, y6, y7⟩⟩ : Wr), (zS : Ns))]).map (·.1))) := by
              have := HMS.out.2
              simp only [Hid]
              simpa using this
            clear HD6 HMS HMQ p0 p1 p2 p3 p4 p5 p6 p7 p8 pf
            go_wp2
            exact ⟨⟨L ++ [((⟨true, y2, false, zN, ⟨y4, y5, y6, y7⟩⟩ : Wr), (zS : Ns))], by simp; omega, by simp, HOK7.out, HD7.out, HS7.out⟩, by simp [intOf]; omega⟩
          | false =>
            have HT := Lib.hid (rtonode_any T5.out.rs)
            have p0 := T5.out.bx.cell 0; have p1 := T5.out.bx.cell 1; have p2 := T5.out.bx.cell 2; have p3 := T5.out.bx.cell 3; have p4 := T5.out.bx.cell 4; have p5 := T5.out.bx.cell 5; have p6 := T5.out.bx.cell 6; have p7 := T5.out.bx.cell 7; have p8 := T5.out.bx.cell 8; have pf := T5.out.bx.frozen; simp only [List.getElem?_toArray, List.getElem?_cons_zero, List.getElem?_cons_succ] at p0 p1 p2 p3 p4 p5 p6 p7 p8
            go_wp2_with fail
            refine HT.out.mono ?_
            rintro e u4 ⟨y4, s4, rfl, r4, c4, i4, n4, d4⟩
            have J4 := Lib.hid i4
            have JD4 := Lib.hid d4
            have T6 := Lib.hid (T5.out.read hB1 r4 c4)
            have JN4 := Lib.hid (ndN_mono (B' := w.heap.size + 1) n4 T5.out.rs.size)
            clear r4 c4 i4 n4 d4 HT T5 p0 p1 p2 p3 p4 p5 p6 p7 p8 pf
            have p0 := T6.out.bx.cell 0; have p1 := T6.out.bx.cell 1; have p2 := T6.out.bx.cell 2; have p3 := T6.out.bx.cell 3; have p4 := T6.out.bx.cell 4; have p5 := T6.out.bx.cell 5; have p6 := T6.out.bx.cell 6; have p7 := T6.out.bx.cell 7; have p8 := T6.out.bx.cell 8; have pf := T6.out.bx.frozen; simp only [List.getElem?_toArray, List.getElem?_cons_zero, List.getElem?_cons_succ] at p0 p1 p2 p3 p4 p5 p6 p7 p8
            obtain ⟨U4, hU4⟩ : ∃ U4, U4 = (u4.setCell ⟨u1.heap.size, 3, none⟩ (.slice s4.la y4.ls.length s4.lc)).setCell ⟨u1.heap.size, 4, none⟩ (.slice s4.pa y4.ps.length s4.pc) := ⟨_, rfl⟩
            have T7 : Hid (WT (w.heap.size + 1) w.heap.size g wr u1.heap.size (nx (pN true) (nx pB (nx pI (nx pB (nx (pMany (pW true) L.length) (nx (pC 56) (nx pI (nx pI (some l))))))))) #[.bool false, .int .i64 y2, .bool false, .slice s4.la y4.ls.length s4.lc, .slice s4.pa y4.ps.length s4.pc, .int .i64 0, .int .i64 0, .string ⟨#[]⟩, .float .f64 0] U4) := by rw [hU4]; exact (T6.out.put hB1 hwr 3 _ rfl).put hB1 hwr 4 _ rfl
            have JN5 : Hid (NdN (w.heap.size + 1) U4 y4 s4) := by
              rw [hU4]
              exact (JN4.out.kept (grown_set u4 u1.heap.size 3 (.slice s4.la y4.ls.length s4.lc)) T6.out.bx).kept (grown_set _ u1.heap.size 4 (.slice s4.pa y4.ps.length s4.pc)) (T6.out.bx.set 3 (.slice s4.la y4.ls.length s4.lc))
            go_upto_region 19 with fail
            rw [← hU4]
            clear hU4 p0 p1 p2 p3 p4 p5 p6 p7 p8 pf T6 JN4
            have HIS := Lib.hid (pW_node (s := true) J1.out J2.out J3.out J4.out)
            clear J1 J2 J3 J4
            have HD5 := Lib.hid ((HD.out.read (Nat.le_refl _) T7.out.rs T7.out.ch).below (one_box U4 (.cells (wrc ⟨false, y2, false, y4, zE⟩ s4) 45)))
            have HN5 := Lib.hid ((JN5.out).below (one_box U4 (.cells (wrc ⟨false, y2, false, y4, zE⟩ s4) 45)))
            have HMS := Lib.hid (many_step HS.out HIS.out.2)
            have HMQ := Lib.hid (HIS.out.1)
            have HCN := Lib.hid (new_cells U4 (wrc ⟨false, y2, false, y4, zE⟩ s4) 45)
            have HLE : Hid (L.length + 1 ≤ 10000) := by simp only [Hid]; omega
            have HZ := Lib.hid (wrc_one ⟨false, y2, false, y4, zE⟩ s4)
            have HOK7 : Hid (∀ y ∈ L ++ [((⟨false, y2, false, y4, zE⟩ : Wr), (s4 : Ns))], WOk y.1 ∧ WrIn y.1) := fun y hy => by
              rcases List.mem_append.1 hy with hy | hy
              · exact HOK.out y hy
              · rw [List.mem_singleton.1 hy]; exact wok_node _ _ JO2.out JD4.out
            have p0 := T7.out.bx.cell 0; have p1 := T7.out.bx.cell 1; have p2 := T7.out.bx.cell 2; have p3 := T7.out.bx.cell 3; have p4 := T7.out.bx.cell 4; have p5 := T7.out.bx.cell 5; have p6 := T7.out.bx.cell 6; have p7 := T7.out.bx.cell 7; have p8 := T7.out.bx.cell 8; have pf := T7.out.bx.frozen; simp only [List.getElem?_toArray, List.getElem?_cons_zero, List.getElem?_cons_succ] at p0 p1 p2 p3 p4 p5 p6 p7 p8
            clear HD HS T7
            go_wp2_with (at_builtin; refine wp_ownL 22 45 _ 9 112 Try.underlying22 infoW rfl (by decide) (by decide) rfl _ _ rfl _ L.length (wcs L) HD5.out.ro.r rfl ⟨U4.heap.size, 0, none⟩ 1 1 (wrc ⟨false, y2, false, y4, zE⟩ s4).toList rfl rfl HCN.out HZ.out HLE.out ?_)
            intro v6 w6 ho6 hg6 hv6
            obtain ⟨A6, c6, rfl⟩ := own_slice ho6
            have HD6 := Lib.hid (HD5.out.add (x := ⟨false, y2, false, y4, zE⟩) (s := s4) (Nat.le_succ _) HN5.out ho6 hg6 (by simpa using hv6))
            clear ho6 hg6 hv6 HD5 HN5 HCN
            have HD7 : Hid (DR w (w.heap.size + 1) w.heap.size g (nx (pMany (pW true) (L ++ [((⟨false, y2, false, y4, zE⟩ : Wr), (s4 : Ns))]).length) (nx (pC 56) (nx pI (nx pI (some l))))) (L ++ [((⟨false, y2, false, y4, zE⟩ : Wr), (s4 : Ns))]) (.slice A6 (L.length + 1) c6) w6) := by
              have := HD6.out
              rw [← HMQ.out, ← HMS.out.1] at this
              simp only [Hid]
              simpa using this
            have HS7 : Hid (Is (pMany (pW true) (L ++ [((⟨false, y2, false, y4, zE⟩ : Wr), (s4 : Ns))]).length) (nx (pC 56) (nx pI (nx pI (some l)))) ((L ++ [((⟨false, y2, false, y4, zE⟩ : Wr), (s4 : Ns))]).map (·.1))) := by
              have := HMS.out.2
              simp only [Hid]
              simpa using this
            clear HD6 HMS HMQ p0 p1 p2 p3 p4 p5 p6 p7 p8 pf
            go_wp2
            exact ⟨⟨L ++ [((⟨false, y2, false, y4, zE⟩ : Wr), (s4 : Ns))], by simp; omega, by simp, HOK7.out, HD7.out, HS7.out⟩, by simp [intOf]; omega⟩
    · have hend : L.length = n := by omega
      have HQ : Hid (nx (pA true) (some l) = (nx (pMany (pW true) L.length) (nx (pC 56) (nx pI (nx pI (some l))))) ∧ Is (pA true) (some l) (x1, x2, L.map (·.1))) := by
        have x3 : Is (pC 56) (nx pI (nx pI (some l))) L.length := by rw [hend]; exact HI3.out
        unfold pA
        exact ⟨by rw [(nx_and HI1.out).1, (nx_and HI2.out).1, (nx_and x3).1, (nx_and HS.out).1, nx_ret], is_and HI1.out (is_and HI2.out (is_and x3 (is_and HS.out is_ret)))⟩
      clear hend
      cases hq : (nx (pMany (pW true) L.length) (nx (pC 56) (nx pI (nx pI (some l))))) with
      | none =>
        rw [hq] at HQ
        have HNO := Lib.hid (pA_none HQ.out.1)
        have hrow := wrow_own HD.out.ro.r (fun x hx => (HD.out.nd x hx).at)
        have HEN := Lib.hid (renc_any x1 x2 Av cv L wr hrow (fun x hx => (HOK.out x hx).1) (fun x hx => (HOK.out x hx).2) (by omega))
        have hkc := HD.out.rs.cur
        rw [hq] at hkc
        obtain ⟨_, _, _, _, _, _, _, _, k2, _⟩ := (show Cux wr w.heap.size g from hkc)
        have HK2 := Lib.hid k2
        clear hrow hkc hq
        go_wp2_with fail
        refine HEN.out.mono ?_
        rintro e w8 ⟨hp, hb⟩
        obtain ⟨X8, n8, rfl⟩ : ∃ (X8 : Value) (n8 : Int), e = .returned (.tuple #[X8, .int .i64 n8]) := by
          unfold EncP at hp
          split at hp
          · obtain ⟨_, _, rfl, _⟩ := hp; exact ⟨_, _, rfl⟩
          · exact ⟨_, _, hp⟩
        have B8 := Lib.hid (bnext HD.out.b hb)
        have k8 := (hb.cell (World.block_lt_of_cell? wr _ k2)).trans k2
        clear hp hb k2
        go_wp2
        exact bodyPost_ret (v := .tuple #[.int .i64 0, .int .i64 0, .slice none 0 0, .int .i64 2]) (by simp [results, Try.results8, go_sem]) rfl ⟨DecP.none HNO.out, B8.out⟩
      | some rest =>
        rw [hq] at HQ
        have hpa := pA_some HQ.out.1 HQ.out.2
        have hkc := HD.out.rs.cur
        rw [hq] at hkc
        obtain ⟨_, _, _, _, _, _, _, k2, _⟩ := (show Cur wr w.heap.size g (some rest) from hkc)
        have hrow := wrow_own HD.out.ro.r (fun x hx => (HD.out.nd x hx).at)
        have HEN := Lib.hid (renc_any x1 x2 Av cv L wr hrow (fun x hx => (HOK.out x hx).1) (fun x hx => (HOK.out x hx).2) (by omega))
        have HRW := Lib.hid hrow
        clear hkc hq hrow HQ
        cases hm : mayB x1 x2 (L.map (·.1)) with
        | false =>
          have HNO : Hid (decB true l = none) := by
            cases rest with
            | nil => rw [Hid, dec_end hpa]; simp only [hm]; rfl
            | cons z zs => exact dec_more hpa (by simp)
          clear hpa
          go_wp2_with fail
          refine HEN.out.mono ?_
          rintro e w8 ⟨hp, hb⟩
          obtain rfl : e = .returned (.tuple #[.slice none 0 0, .int .i64 1]) := by
            unfold EncP at hp
            rw [hm, if_neg (by decide)] at hp
            exact hp
          have B8 := Lib.hid (bnext HD.out.b hb)
          have k8 := (hb.cell (World.block_lt_of_cell? wr _ k2)).trans k2
          clear hp hb k2 hm
          go_wp2
          exact bodyPost_ret (v := .tuple #[.int .i64 0, .int .i64 0, .slice none 0 0, .int .i64 2]) (by simp [results, Try.results8, go_sem]) rfl ⟨DecP.none HNO.out, B8.out⟩
        | true =>
          have HWO := Lib.hid (pA_wo true hpa (fun z hz => writeB_ok (mayB_write hm z hz)))
          have HDE : Hid (rest = [] → decB true l = some (x1, x2, L.map (·.1))) := by
            rintro rfl
            rw [dec_end hpa]
            simp only [hm, if_true]
          have HDN : Hid (rest ≠ [] → decB true l = none) := fun hr => dec_more hpa hr
          have HEP : Hid (∀ B e w', EncP B x1 x2 (L.map (·.1)) e w' → ∃ A c, e = .returned (.tuple #[.slice A (encA x1 x2 (L.map (·.1))).length c, .int .i64 0]) ∧ Own B w' (.slice A (encA x1 x2 (L.map (·.1))).length c) (encA x1 x2 (L.map (·.1))) ∧ (encA x1 x2 (L.map (·.1))).length ≤ 15000) := by
            intro B e w' h
            unfold EncP at h
            rw [hm, if_pos rfl] at h
            exact h
          generalize encA x1 x2 (L.map (·.1)) = en at *
          clear hpa hm
          go_wp2_with fail
          refine HEN.out.mono ?_
          rintro e w8 ⟨hp, hb⟩
          obtain ⟨A8, c8, rfl, ho, hle⟩ := HEP.out _ _ _ hp
          obtain ⟨A9, c9, e1, hbs, _⟩ := ho.open
          injection e1 with e1 _ e2
          subst e1
          subst e2
          have B8 := Lib.hid (bnext HD.out.b hb)
          have k8 := (hb.cell (World.block_lt_of_cell? wr _ k2)).trans k2
          have hv1 := hbs.conv _ rfl
          have hv2 := (HBS.out.below B8.out).conv _ rfl
          have HR8 := Lib.hid (HRW.out.below hb)
          have hw := HWO.out
          clear hp hb ho hbs HEP HEN k2 HRW HWO
          cases rest with
          | nil =>
            have HYES := Lib.hid (HDE.out rfl)
            rw [List.append_nil] at hw
            subst hw
            clear HDE HDN
            go_wp2
            refine bodyPost_ret (v := .tuple #[.int .i64 x1, .int .i64 x2, .slice Av L.length cv, .int .i64 0]) (by simp [results, Try.results8, go_sem]) rfl ⟨?_, B8.out⟩
            unfold DecP
            rw [HYES.out]
            exact ⟨Av, cv, L, rfl, rfl, HR8.out⟩
          | cons z zs =>
            have HNO := Lib.hid (HDN.out (by simp))
            have hne : ((bstr en).toList == (bstr l).toList) = false := by
              rw [bstr_list, bstr_list, beq_eq_false_iff_ne]
              intro e
              have := congrArg List.length (e.trans hw)
              rw [List.length_append] at this
              simp at this
            generalize bstr en = s1 at *
            generalize bstr l = s2 at *
            clear HDE HDN hw
            go_wp2
            exact bodyPost_ret (v := .tuple #[.int .i64 0, .int .i64 0, .slice none 0 0, .int .i64 2]) (by simp [results, Try.results8, go_sem]) rfl ⟨DecP.none HNO.out, B8.out⟩
end Go.Proofs.Ytdhpphbgobakhaa
/- The walk of the law RecordCodes of chapter 10. Conditions: the rows lie in memory; numbers are words; lengths are of what a machine holds. -/
namespace Go.Proofs.Ytdhpphbgobakhaa
set_option maxRecDepth 100000
set_option linter.unusedVariables false
open Go.ChangeShapes Go.WideShapes Go.ChangeAt Go.RowKit
open Fl (S cmpK keyN normN)
open Val (V cmpV isB ltT)
open Lb
/-- What Encode returns: bytes and an error. -/
def eB (nn ne : Int) (l : List Wr) : List UInt8 := if mayB nn ne l = true then encA nn ne l else []
def eE (nn ne : Int) (l : List Wr) : Int := if mayB nn ne l = true then 0 else 1
theorem EncP.open {B : Nat} {nn ne : Int} {l : List Wr} {e : Ending} {w' : World} (h : EncP B nn ne l e w') : ∃ A c, e = .returned (.tuple #[.slice A (eB nn ne l).length c, .int .i64 (eE nn ne l)]) ∧ BS w' A (eB nn ne l) c := by
  unfold EncP at h
  unfold eB eE
  split at h
  · rename_i hm
    obtain ⟨A, c, rfl, ho, _⟩ := h
    obtain ⟨A2, c2, e1, hbs, _⟩ := ho.open
    injection e1 with e1 _ e2
    subst e1
    subst e2
    rw [if_pos hm, if_pos hm]
    exact ⟨A, c, rfl, hbs⟩
  · rename_i hm
    rw [if_neg hm, if_neg hm]
    exact ⟨none, 0, h, bs_nil _⟩
/-- What Decode returns: two numbers, writes, an error. -/
def dX (l : List UInt8) : Int × Int × List Wr := match decB true l with | some x => x | none => (0, 0, [])
def dE (l : List UInt8) : Int := match decB true l with | some _ => 0 | none => 2
theorem DecP.open {l : List UInt8} {e : Ending} {w' : World} (h : DecP l e w') : ∃ A c L, e = .returned (.tuple #[.int .i64 (dX l).1, .int .i64 (dX l).2.1, .slice A L.length c, .int .i64 (dE l)]) ∧ L.map (·.1) = (dX l).2.2 ∧ WRow w' A L := by
  unfold DecP at h
  unfold dX dE
  cases hd : decB true l with
  | some x => rw [hd] at h; exact h
  | none => rw [hd] at h; exact ⟨Option.none, 0, [], h, rfl, fun k hk => absurd hk (by simp)⟩
theorem dX_ok (l : List UInt8) (hl : l.length ≤ 1000000) : (∀ x ∈ (dX l).2.2, WFine x) ∧ (dX l).2.2.length ≤ 56 := by
  unfold dX
  cases hd : decB true l with
  | none => exact ⟨(fun x hx => by cases hx), by simp⟩
  | some x =>
    obtain ⟨h1, h2, h3⟩ := decB_some hd
    have hp := tk_A true x.1 x.2.1 x.2.2 h2 h3 []
    rw [List.append_nil, ← h1] at hp
    have hok := pA_ok true hl hp
    exact ⟨fun y hy => ⟨(hok y hy).n, fun z hz => ((h3 y hy).1 z hz).2, (h3 y hy).2.2.2.2⟩, mayB_len h2⟩
set_option maxHeartbeats 8000000 in
theorem codes10_any (nn ne : Int) (A C : Option Addr) (c bc : Nat) (L : List (Wr × Ns)) (b : List UInt8) (w : World) (h : WRow w A L) (hi : ∀ x, x ∈ L → WrIn x.1) (hz : ∀ x, x ∈ L → WSz 140737488351232 x.1) (hl : L.length ≤ 140737488351232) (hb : BS w C b bc) (hbl : b.length ≤ 9223372036854775807) : Calls Try.prog 3 #[.int .i64 nn, .int .i64 ne, .slice A L.length c, .slice C b.length bc] w fun e w' => e = .returned (.bool true) ∧ Below w.heap.size w w' := by
  have HKN := Lib.hid (fun W => known10_any W)
  have HW := Lib.hid (wide10_any A c L w h hz hl)
  have HR := Lib.hid h
  have HI := Lib.hid hi
  have HM := Lib.hid hb
  clear h hi hz hb
  go_enter Try.func3, Try.ntmps3
  go_wp2_with fail
  refine HW.out.mono ?_
  rintro e w1 ⟨⟨t, rfl, ht⟩, hb1⟩
  have B1 := Lib.hid hb1
  clear hb1 HW
  cases t with
  | true =>
    clear ht
    go_wp2
    go_ret
    exact ⟨rfl, B1.out⟩
  | false =>
    obtain ⟨hl5, hs5⟩ := ht rfl
    clear ht
    by_cases m2 : 4000 < b.length
    · go_wp2
      go_ret
      exact ⟨rfl, B1.out⟩
    have HOK := Lib.hid (fun x (hx : x ∈ L) => (hs5 x hx).ok)
    have HEN := Lib.hid (penc_any nn ne A c L w1 (HR.out.below B1.out) HOK.out HI.out (by omega))
    clear hs5
    go_wp2_with fail
    refine HEN.out.mono ?_
    rintro e w2 ⟨hp, hb2⟩
    obtain ⟨A1, c1, rfl, hbs1⟩ := hp.open
    have HP1 := Lib.hid hbs1
    have B2 := Lib.hid (bnext B1.out hb2)
    have HEN2 := Lib.hid (renc_any nn ne A c L w2 (HR.out.below B2.out) HOK.out HI.out (by omega))
    clear hp hb2 hbs1 HEN B1
    go_wp2_with fail
    refine HEN2.out.mono ?_
    rintro e w3 ⟨hp, hb3⟩
    obtain ⟨A2, c2, rfl, hbs2⟩ := hp.open
    have HP2 := Lib.hid hbs2
    have B3 := Lib.hid (bnext B2.out hb3)
    have HP1b := Lib.hid (HP1.out.below hb3)
    have HO0 := Lib.hid (show Own w3.heap.size (w3.alloc (.cells #[] 5)) (.slice (some ⟨w3.heap.size, 0, none⟩) 0 0) [] from World.ownsRow_made w3 #[] 0 (Nat.le_refl _) (by unfold maxLen; omega) rfl)
    have HPA := Lib.hid ((HM.out.below B3.out).below (one_box w3 (.cells #[] 5)))
    clear hp hb3 hbs2 HEN2 B2 HP1
    generalize eB nn ne (L.map (·.1)) = en at *
    generalize eE nn ne (L.map (·.1)) = er at *
    go_wp2_with (at_builtin; refine wp_app rfl _ _ rfl w3.heap.size _ [] HO0.out rfl C b _ bc rfl rfl HPA.out (by simp; omega) (by simp) ?_)
    intro v4 w4 h4 hb4
    have D34 := Lib.hid ((one_box w3 (.cells #[] 5)).trans hb4)
    have B4 := Lib.hid (bnext B3.out D34.out)
    obtain ⟨A4, c4, rfl, hbs4, _⟩ := h4.open
    have HD := Lib.hid (pdec_any A4 b c4 w4 hbs4 (by omega))
    clear h4 hb4 hbs4 HO0 HPA
    go_wp2_with fail
    refine HD.out.mono ?_
    rintro e w5 ⟨hd, hb5⟩
    obtain ⟨A5, c5, L5, rfl, hL5, hrow5⟩ := hd.open
    have HL5 := Lib.hid hL5
    have HR5 := Lib.hid hrow5
    have B5 := Lib.hid (bnext B4.out hb5)
    have D35 := Lib.hid (bnext D34.out hb5)
    have HD2 := Lib.hid (rdec_any C b bc w5 (HM.out.below B5.out) (by omega))
    clear hd hb5 hL5 hrow5 HD D34 B4
    go_wp2_with fail
    refine HD2.out.mono ?_
    rintro e w6 ⟨hd, hb6⟩
    obtain ⟨A6, c6, L6, rfl, hL6, hrow6⟩ := hd.open
    have HL6 := Lib.hid hL6
    have HR6 := Lib.hid hrow6
    have B6 := Lib.hid (bnext B5.out hb6)
    have D36 := Lib.hid (bnext D35.out hb6)
    have hv1 := (HP1b.out.below D36.out).conv _ rfl
    have hv2 := (HP2.out.below D36.out).conv _ rfl
    obtain ⟨hf, hn⟩ := dX_ok b (by omega)
    have e5 := congrArg List.length HL5.out
    rw [List.length_map] at e5
    have HSW := Lib.hid (fun W (hW : Below w6.heap.size w6 W) => rsamewrites_any A5 A6 c5 c6 L5 L6 W ((HR5.out.below hb6).below hW) (HR6.out.below hW) (HL6.out.trans HL5.out.symm) (fun x hx => hf _ (by rw [← HL5.out]; exact List.mem_map.2 ⟨x, hx, rfl⟩)) (by omega))
    generalize (dX b).1 = d1 at *
    generalize (dX b).2.1 = d2 at *
    generalize dE b = d3 at *
    clear hd hb6 hL6 hrow6 HD2 D35 D36 B5 hf hn e5 HL5 HL6 HP1b HP2
    go_wp2_with fail
    refine (HSW.out _ (Below.refl _ _)).mono ?_
    rintro e w7 ⟨rfl, hb7⟩
    have B7 := Lib.hid (bnext B6.out hb7)
    clear hb7 HSW
    go_wp2_with fail
    refine (HKN.out _).mono ?_
    rintro e w8 ⟨rfl, hb8⟩
    have B8 := Lib.hid (bnext B7.out hb8)
    clear hb8
    go_wp2
    go_ret
    exact ⟨rfl, B8.out⟩
end Go.Proofs.Ytdhpphbgobakhaa
/- Arguments that are rows of writes of chapter 10, opened: what they read as, and how long what they hold is. No condition. -/
namespace Go.Proofs.Ytdhpphbgobakhaa
set_option maxRecDepth 100000
set_option linter.unusedVariables false
open Go.ChangeShapes Go.WideShapes Go.ChangeAt Go.RowKit
open Fl (S)
open Val (V)
open Lb
instance : Inhabited Ns := ⟨⟨none, 0, none, 0⟩⟩
/-- How long what lies in data of a type is at most. -/
def FitW {H : Type} (t : TypeId) (d : DataW H) : Prop := ∀ n ∈ d.weights Try.prog t, n ≤ reachBytes
def SlW (w : World) (s : Sl (Wr × Ns)) : Prop := WRow w s.a s.l ∧ ∀ x, x ∈ s.l → WrIn x.1
def SzW (l : List (Wr × Ns)) : Prop := l.length ≤ 140737488351232 ∧ ∀ x, x ∈ l → WSz 140737488351232 x.1
section
variable {H : Type} {enc : TypeId × Value → H} {w : World} {base : Nat} {held : Bool} {r : Reach} {b0 : Nat} {v : Value} {d : DataW H} {p : List MemPlace}
theorem trod_len {t e : TypeId} (ht : Try.prog.underlying t = some (.slice e)) {A : Option Addr} {n c : Nat} (h : DataW.Trod enc Try.prog w base (fun _ => true) held t (.slice A n c) d p) : n = 0 ∨ ∃ elems spare, d = .slice elems spare ∧ elems.length = n := by
  obtain ⟨fuel, hf⟩ := h
  rcases Deep.open_slice ht hf with ⟨hcs, _⟩ | ⟨ad, len, cap, m, n', D, Pl, hcs, _, _, _, _, hx, _⟩
  · simp [Value.cells] at hcs
    exact .inl hcs.2.1
  · simp [Value.cells] at hcs
    obtain ⟨_, rfl, _⟩ := hcs
    injection hx with hx _
    exact .inr ⟨_, _, hx, by simp⟩
theorem one_cellW {v v' : Value} (h : [v] = [v']) : v = v' := by simpa using h
theorem trod_floatW {P : Program} {spare : Nat → Bool} {t : TypeId} {k : FloatKind} {fuel : Nat} {cs : List Value} {x : DataW H × List MemPlace} (ht : P.underlying t = some (.float k)) (h : DataW.trod enc P w base spare held fuel t cs = some x) : ∃ n, cs = [.float k n] ∧ x = (.lit (.float k n), []) ∧ (Lit.float k n).wf = true := by
  cases fuel with
  | zero => simp [DataW.trod] at h
  | succ n =>
    unfold DataW.trod at h
    rw [ht] at h
    split at h <;> simp_all
theorem wts_all {e : TypeId} {D : Nat → DataW H} (n : Nat) {i : Nat} (hi : i < n) : ∀ k ∈ (D i).weights Try.prog e, k ∈ DataW.weightsAll Try.prog e ((List.range n).map D) := by
  have gen : ∀ (l : List (DataW H)) (x : DataW H), x ∈ l → ∀ k ∈ x.weights Try.prog e, k ∈ DataW.weightsAll Try.prog e l := by
    intro l
    induction l with
    | nil => intro x hx; cases hx
    | cons y l ih =>
      intro x hx k hk
      simp only [DataW.weightsAll, List.mem_append]
      rcases List.mem_cons.1 hx with rfl | hx
      · exact .inl hk
      · exact .inr (ih x hx k hk)
  intro k hk
  exact gen _ _ (List.mem_map.2 ⟨i, by simpa using hi, rfl⟩) k hk
theorem fit_elem {e t : TypeId} (ht : Try.prog.underlying t = some (.slice e)) {len : Nat} {D : Nat → DataW H} {rest : List (DataW H)} (hf : FitW t (.slice ((List.range len).map D) rest)) : len * Try.prog.bytesOf e ≤ reachBytes ∧ ∀ k, k < len → FitW e (D k) := by
  refine ⟨?_, fun k hk q hq => hf q ?_⟩
  · have := hf ((((List.range len).map D).length + rest.length) * Try.prog.bytesOf e) (by simp [DataW.weights, ht])
    refine Nat.le_trans (Nat.mul_le_mul_right _ ?_) this
    simp
  · simp only [DataW.weights, ht, List.mem_cons, List.mem_append]
    exact .inr (.inl (wts_all len hk q hq))
theorem fit_field {t : TypeId} {fs : Array Field} {xs : List (DataW H × List MemPlace)} (ht : Try.prog.underlying t = some (.struct fs)) (hf : FitW t (.agg (xs.map (·.1)))) {i : Nat} {f : Field} {y : DataW H × List MemPlace} (h1 : fs[i]? = some f) (h2 : xs[i]? = some y) : FitW f.type y.1 := fun q hq => hf q (by
  simp only [DataW.weights, ht]
  exact DataW.weights_mem_each (j := i) (t := f.type) (d := y.1) (by rw [List.getElem?_map, Array.getElem?_toList, h1]; rfl) (by rw [List.getElem?_map, h2]; rfl) q hq)
theorem fit_str {t : TypeId} {s : ByteArray} (hf : FitW (H := H) t (.lit (.string s.data.toList))) : s.size ≤ 140737488351232 := by
  have := hf s.data.toList.length (by simp [DataW.weights])
  simpa [reachBytes] using this
theorem wf_in {n : Int} (h : (Lit.int .i64 n).wf = true) : In64 n := by
  unfold In64
  simpa [Lit.wf, IntKind.min, IntKind.max, IntKind.signed, IntKind.bits] using h
theorem trod_strsW {fuel : Nat} {x : DataW H × List MemPlace} (h : DataW.trod enc Try.prog w base (fun _ => true) held fuel 40 [v] = some x) : ∃ (A : Option Addr) (l : List ByteArray) (c : Nat), v = .slice A l.length c ∧ Row .string w A l ∧ (FitW 40 x.1 → l.length ≤ 140737488351232 ∧ ∀ s ∈ l, s.size ≤ 140737488351232) := by
  have ce : Try.prog.cellsOf 9 = 1 := by kernel_rfl
  have be : Try.prog.bytesOf 9 = 16 := by kernel_rfl
  rcases Deep.open_slice1 Try.underlying40 ce h with ⟨hcs, hx⟩ | ⟨ad, len, cap, m, n, V, D, Pl, hcs, _, hl, hm, hmm, hxx, hx⟩
  · injection hcs with hcs
    exact ⟨none, [], 0, hcs, fun i hi => absurd hi (by simp), fun _ => ⟨by simp, fun s hs => by cases hs⟩⟩
  · injection hcs with hcs
    simp only [if_true] at hmm
    subst hmm
    have each : ∀ k, k < len → ∃ s : ByteArray, V k = .string s ∧ (FitW 9 (D k) → s.size ≤ 140737488351232) := by
      intro k hk
      obtain ⟨h1, h2⟩ := hx k (by omega)
      obtain ⟨s, e1, e2, e3⟩ := DataW.trod_string Try.underlying9 h2
      refine ⟨s, one_cellW e1, fun hf => ?_⟩
      injection e2 with e2 _
      rw [e2] at hf
      exact fit_str hf
    obtain ⟨f, hf⟩ := Deep.choose_lt each
    refine ⟨some ad, (List.range len).map f, m, by rw [hcs]; simp, fun i hi => ⟨ad, rfl, ?_⟩, fun hft => ?_⟩
    · have hi2 : i < len := by simpa using hi
      have := (hx i (by omega)).1
      rw [this, (hf i hi2).1]; simp
    · rw [hxx] at hft
      have hq := fit_elem Try.underlying40 hft
      rw [be] at hq
      simp only [reachBytes] at hq
      refine ⟨by simp; omega, fun s hs => ?_⟩
      obtain ⟨k, hk, rfl⟩ := List.mem_map.1 hs
      have hk2 : k < len := by simpa using hk
      exact (hf k hk2).2 (hq.2 k hk2)
theorem trod_valW {spare : Nat → Bool} {fuel : Nat} {c0 c1 c2 c3 c4 : Value} {x : DataW H × List MemPlace} (h : DataW.trod enc Try.prog w base spare held fuel 47 [c0, c1, c2, c3, c4] = some x) : ∃ v : V, c0 = .int .i64 v.k ∧ c1 = .bool v.b ∧ c2 = .int .i64 v.n ∧ c3 = .float .f64 v.f ∧ c4 = .string v.t ∧ In64 v.n ∧ v.f < 2 * S ∧ (FitW 47 x.1 → v.t.size ≤ 140737488351232) := by
  obtain ⟨xs, n, _, hx, _, hlen, hg⟩ := DataW.trod_struct Try.underlying47 h
  match xs, hlen, hx, hg with
  | [y0, y1, y2, y3, y4], _, hx, hg =>
    have g0 := hg 0 _ rfl
    have g1 := hg 1 _ rfl
    have g2 := hg 2 _ rfl
    have g3 := hg 3 _ rfl
    have g4 := hg 4 _ rfl
    have e0 : Try.prog.cellsOf 3 = 1 := by kernel_rfl
    have e1 : Try.prog.cellsOf 4 = 1 := by kernel_rfl
    have e2 : Try.prog.cellsOf 37 = 1 := by kernel_rfl
    have e3 : Try.prog.cellsOf 9 = 1 := by kernel_rfl
    simp [e0] at g0
    simp [e1] at g1
    simp [e0] at g2
    simp [e2] at g3
    simp [e3] at g4
    obtain ⟨a0, e0, _, w0⟩ := DataW.trod_int Try.underlying3 g0
    obtain ⟨a1, e1, _⟩ := DataW.trod_bool Try.underlying4 g1
    obtain ⟨a2, e2, _, w2⟩ := DataW.trod_int Try.underlying3 g2
    obtain ⟨a3, e3, _, w3⟩ := trod_floatW Try.underlying37 g3
    obtain ⟨a4, e4, y4e, w4⟩ := DataW.trod_string Try.underlying9 g4
    obtain rfl := one_cellW e0
    obtain rfl := one_cellW e1
    obtain rfl := one_cellW e2
    obtain rfl := one_cellW e3
    obtain rfl := one_cellW e4
    refine ⟨⟨a0, a1, a2, a3, a4⟩, rfl, rfl, rfl, rfl, rfl, wf_in w2, ?_, fun hf => ?_⟩
    · have : a3 < 2 ^ 64 := by simpa [Lit.wf] using w3
      show a3 < 2 * S
      unfold S; omega
    · rw [hx] at hf
      have := fit_field Try.underlying47 hf (i := 4) (y := y4) rfl rfl
      rw [y4e] at this
      exact fit_str this
theorem trod_propW {spare : Nat → Bool} {fuel : Nat} {c0 c1 c2 c3 c4 c5 : Value} {x : DataW H × List MemPlace} (h : DataW.trod enc Try.prog w base spare held fuel 49 [c0, c1, c2, c3, c4, c5] = some x) : ∃ q : Pr, c0 = .string q.k ∧ c1 = .int .i64 q.v.k ∧ c2 = .bool q.v.b ∧ c3 = .int .i64 q.v.n ∧ c4 = .float .f64 q.v.f ∧ c5 = .string q.v.t ∧ In64 q.v.n ∧ q.v.f < 2 * S ∧ (FitW 49 x.1 → q.k.size ≤ 140737488351232 ∧ q.v.t.size ≤ 140737488351232) := by
  obtain ⟨xs, n, _, hx, _, hlen, hg⟩ := DataW.trod_struct Try.underlying49 h
  match xs, hlen, hx, hg with
  | [y0, y1], _, hx, hg =>
    have g0 := hg 0 _ rfl
    have g1 := hg 1 _ rfl
    have e0 : Try.prog.cellsOf 9 = 1 := by kernel_rfl
    have e1 : Try.prog.cellsOf 47 = 5 := by kernel_rfl
    simp [e0] at g0
    simp [e1] at g1
    obtain ⟨a0, q0, y0e, w0⟩ := DataW.trod_string Try.underlying9 g0
    obtain rfl := one_cellW q0
    obtain ⟨v, rfl, rfl, rfl, rfl, rfl, h1, h2, h3⟩ := trod_valW g1
    refine ⟨⟨a0, v⟩, rfl, rfl, rfl, rfl, rfl, rfl, h1, h2, fun hf => ?_⟩
    rw [hx] at hf
    have f0 := fit_field Try.underlying49 hf (i := 0) (y := y0) rfl rfl
    have f1 := fit_field Try.underlying49 hf (i := 1) (y := y1) rfl rfl
    rw [y0e] at f0
    exact ⟨fit_str f0, h3 f1⟩
theorem trod_propsW {fuel : Nat} {x : DataW H × List MemPlace} (h : DataW.trod enc Try.prog w base (fun _ => true) held fuel 41 [v] = some x) : ∃ (A : Option Addr) (l : List Pr) (c : Nat), v = .slice A l.length c ∧ PRow w A l ∧ (∀ q ∈ l, In64 q.v.n ∧ q.v.f < 2 * S) ∧ (FitW 41 x.1 → l.length ≤ 140737488351232 ∧ ∀ q ∈ l, q.k.size ≤ 140737488351232 ∧ q.v.t.size ≤ 140737488351232) := by
  have ce : Try.prog.cellsOf 49 = 6 := by kernel_rfl
  have be : 1 ≤ Try.prog.bytesOf 49 := of_decide_eq_true (by kernel_rfl)
  rcases Deep.open_slice Try.underlying41 h with ⟨hcs, hx⟩ | ⟨ad, len, cap, m, n, D, Pl, hcs, _, hl, hm, hmm, hxx, hx⟩
  · injection hcs with hcs
    exact ⟨none, [], 0, hcs, fun i hi => absurd hi (by simp), (fun q hq => by cases hq), fun _ => ⟨by simp, fun s hs => by cases hs⟩⟩
  · injection hcs with hcs
    simp only [if_true] at hmm
    subst hmm
    have each : ∀ k, k < len → ∃ q : Pr, PAt w (ad.add (k * 6)) q ∧ In64 q.v.n ∧ q.v.f < 2 * S ∧ (FitW 49 (D k) → q.k.size ≤ 140737488351232 ∧ q.v.t.size ≤ 140737488351232) := by
      intro k hk
      obtain ⟨cs', h1, h2⟩ := hx k (by omega)
      rw [ce] at h1
      obtain ⟨_, hlen, hcell⟩ := World.cells?_some h1
      match cs', hlen with
      | [v0, v1, v2, v3, v4, v5], _ =>
        obtain ⟨q, rfl, rfl, rfl, rfl, rfl, rfl, q1, q2, q3⟩ := trod_propW h2
        have c0 := hcell 0 (by omega)
        have c1 := hcell 1 (by omega)
        have c2 := hcell 2 (by omega)
        have c3 := hcell 3 (by omega)
        have c4 := hcell 4 (by omega)
        have c5 := hcell 5 (by omega)
        rw [Addr.add_zero'] at c0
        rw [addr_pos _ _ (by decide)] at c1 c2 c3 c4 c5
        exact ⟨q, ⟨by simpa using c0, by simpa using c1, by simpa using c2, by simpa using c3, by simpa using c4, by simpa using c5⟩, q1, q2, q3⟩
    obtain ⟨f, hf⟩ := Deep.choose_lt each
    refine ⟨some ad, (List.range len).map f, m, by rw [hcs]; simp, fun i hi => ⟨ad, _, rfl, rfl, ?_⟩, fun q hq => ?_, fun hft => ?_⟩
    · have hi2 : i < len := by simpa using hi
      simpa using (hf i hi2).1
    · obtain ⟨k, hk, rfl⟩ := List.mem_map.1 hq
      have := hf k (by simpa using hk)
      exact ⟨this.2.1, this.2.2.1⟩
    · rw [hxx] at hft
      have hq := fit_elem Try.underlying41 hft
      simp only [reachBytes] at hq
      have hle := Nat.le_trans (Nat.le_mul_of_pos_right len be) hq.1
      refine ⟨by simp; omega, fun s hs => ?_⟩
      obtain ⟨k, hk, rfl⟩ := List.mem_map.1 hs
      have hk2 : k < len := by simpa using hk
      exact (hf k hk2).2.2.2 (hq.2 k hk2)
theorem trod_nodeW {fuel : Nat} {c0 c1 : Value} {x : DataW H × List MemPlace} (h : DataW.trod enc Try.prog w base (fun _ => true) held fuel 43 [c0, c1] = some x) : ∃ (n : Nd) (s : Ns), c0 = .slice s.la n.ls.length s.lc ∧ c1 = .slice s.pa n.ps.length s.pc ∧ NdAt w n s ∧ NdIn n ∧ (FitW 43 x.1 → n.ls.length ≤ 140737488351232 ∧ n.ps.length ≤ 140737488351232 ∧ (∀ y, y ∈ n.ls → y.size ≤ 140737488351232) ∧ ∀ q, q ∈ n.ps → q.k.size ≤ 140737488351232 ∧ q.v.t.size ≤ 140737488351232) := by
  obtain ⟨xs, n, _, hx, _, hlen, hg⟩ := DataW.trod_struct Try.underlying43 h
  match xs, hlen, hx, hg with
  | [y0, y1], _, hx, hg =>
    have g0 := hg 0 _ rfl
    have g1 := hg 1 _ rfl
    have e0 : Try.prog.cellsOf 40 = 1 := by kernel_rfl
    have e1 : Try.prog.cellsOf 41 = 1 := by kernel_rfl
    simp [e0] at g0
    simp [e1] at g1
    obtain ⟨A, ls, c, rfl, r1, f1⟩ := trod_strsW g0
    obtain ⟨B, ps, c2, rfl, r2, i2, f2⟩ := trod_propsW g1
    refine ⟨⟨ls, ps⟩, ⟨A, c, B, c2⟩, rfl, rfl, ⟨r1, r2⟩, i2, fun hf => ?_⟩
    rw [hx] at hf
    have q1 := f1 (fit_field Try.underlying43 hf (i := 0) (y := y0) rfl rfl)
    have q2 := f2 (fit_field Try.underlying43 hf (i := 1) (y := y1) rfl rfl)
    exact ⟨q1.1, q2.1, q1.2, q2.2⟩
theorem trod_edgeW {spare : Nat → Bool} {fuel : Nat} {c0 c1 c2 c3 : Value} {x : DataW H × List MemPlace} (h : DataW.trod enc Try.prog w base spare held fuel 39 [c0, c1, c2, c3] = some x) : ∃ g : Eg, c0 = .int .i64 g.a ∧ c1 = .int .i64 g.b ∧ c2 = .string g.t ∧ c3 = .float .f64 g.w ∧ In64 g.a ∧ In64 g.b ∧ g.w < 2 * S ∧ (FitW 39 x.1 → g.t.size ≤ 140737488351232) := by
  obtain ⟨xs, n, _, hx, _, hlen, hg⟩ := DataW.trod_struct Try.underlying39 h
  match xs, hlen, hx, hg with
  | [y0, y1, y2, y3], _, hx, hg =>
    have g0 := hg 0 _ rfl
    have g1 := hg 1 _ rfl
    have g2 := hg 2 _ rfl
    have g3 := hg 3 _ rfl
    have e0 : Try.prog.cellsOf 3 = 1 := by kernel_rfl
    have e2 : Try.prog.cellsOf 37 = 1 := by kernel_rfl
    have e3 : Try.prog.cellsOf 9 = 1 := by kernel_rfl
    simp [e0] at g0
    simp [e0] at g1
    simp [e3] at g2
    simp [e2] at g3
    obtain ⟨a0, q0, _, w0⟩ := DataW.trod_int Try.underlying3 g0
    obtain ⟨a1, q1, _, w1⟩ := DataW.trod_int Try.underlying3 g1
    obtain ⟨a2, q2, y2e, w2⟩ := DataW.trod_string Try.underlying9 g2
    obtain ⟨a3, q3, _, w3⟩ := trod_floatW Try.underlying37 g3
    obtain rfl := one_cellW q0
    obtain rfl := one_cellW q1
    obtain rfl := one_cellW q2
    obtain rfl := one_cellW q3
    refine ⟨⟨a0, a1, a2, a3⟩, rfl, rfl, rfl, rfl, wf_in w0, wf_in w1, ?_, fun hf => ?_⟩
    · have : a3 < 2 ^ 64 := by simpa [Lit.wf] using w3
      show a3 < 2 * S
      unfold S; omega
    · rw [hx] at hf
      have := fit_field Try.underlying39 hf (i := 2) (y := y2) rfl rfl
      rw [y2e] at this
      exact fit_str this
theorem trod_writeW {fuel : Nat} {c0 c1 c2 c3 c4 c5 c6 c7 c8 : Value} {x : DataW H × List MemPlace} (h : DataW.trod enc Try.prog w base (fun _ => true) held fuel 45 [c0, c1, c2, c3, c4, c5, c6, c7, c8] = some x) : ∃ (y : Wr) (s : Ns), c0 = .bool y.e ∧ c1 = .int .i64 y.id ∧ c2 = .bool y.gone ∧ c3 = .slice s.la y.n.ls.length s.lc ∧ c4 = .slice s.pa y.n.ps.length s.pc ∧ c5 = .int .i64 y.g.a ∧ c6 = .int .i64 y.g.b ∧ c7 = .string y.g.t ∧ c8 = .float .f64 y.g.w ∧ NdAt w y.n s ∧ WrIn y ∧ (FitW 45 x.1 → WSz 140737488351232 y) := by
  obtain ⟨xs, n, _, hx, _, hlen, hg⟩ := DataW.trod_struct Try.underlying45 h
  match xs, hlen, hx, hg with
  | [y0, y1, y2, y3, y4], _, hx, hg =>
    have g0 := hg 0 _ rfl
    have g1 := hg 1 _ rfl
    have g2 := hg 2 _ rfl
    have g3 := hg 3 _ rfl
    have g4 := hg 4 _ rfl
    have e0 : Try.prog.cellsOf 3 = 1 := by kernel_rfl
    have e1 : Try.prog.cellsOf 4 = 1 := by kernel_rfl
    have e2 : Try.prog.cellsOf 43 = 2 := by kernel_rfl
    have e3 : Try.prog.cellsOf 39 = 4 := by kernel_rfl
    simp [e1] at g0
    simp [e0] at g1
    simp [e1] at g2
    simp [e2] at g3
    simp [e3] at g4
    obtain ⟨a0, q0, _⟩ := DataW.trod_bool Try.underlying4 g0
    obtain ⟨a1, q1, _, w1⟩ := DataW.trod_int Try.underlying3 g1
    obtain ⟨a2, q2, _⟩ := DataW.trod_bool Try.underlying4 g2
    obtain rfl := one_cellW q0
    obtain rfl := one_cellW q1
    obtain rfl := one_cellW q2
    obtain ⟨nd, s, rfl, rfl, h1, h2, h3⟩ := trod_nodeW g3
    obtain ⟨g, rfl, rfl, rfl, rfl, k1, k2, k3, k4⟩ := trod_edgeW g4
    refine ⟨⟨a0, a1, a2, nd, g⟩, s, rfl, rfl, rfl, rfl, rfl, rfl, rfl, rfl, rfl, h1, ⟨h2, wf_in w1, k1, k2, k3⟩, fun hf => ?_⟩
    rw [hx] at hf
    obtain ⟨z1, z2, z3, z4⟩ := h3 (fit_field Try.underlying45 hf (i := 3) (y := y3) rfl rfl)
    exact ⟨k4 (fit_field Try.underlying45 hf (i := 4) (y := y4) rfl rfl), z1, z2, z3, z4⟩
theorem open_writes (hv : Value.okWide Try.prog w r b0 22 v) (h : DataW.Trod enc Try.prog w base (fun _ => true) held 22 v d p) : ∃ s : Sl (Wr × Ns), v = slv s ∧ SlW w s ∧ (FitW 22 d → SzW s.l) ∧ True := by
  obtain ⟨a0, len0, cap0, rfl⟩ := okWide_slice Try.underlying22 hv
  obtain ⟨fuel, hf⟩ := h
  have ce : Try.prog.cellsOf 45 = 9 := by kernel_rfl
  have be : 1 ≤ Try.prog.bytesOf 45 := of_decide_eq_true (by kernel_rfl)
  rcases Deep.open_slice Try.underlying22 hf with ⟨hcs, _⟩ | ⟨ad, len, cap, m, n, D, Pl, hcs, _, hl, hm, hmm, hxx, hx⟩
  · simp [Value.cells] at hcs
    obtain ⟨rfl, rfl, rfl⟩ := hcs
    exact ⟨⟨none, [], 0⟩, rfl, ⟨fun i hi => absurd hi (by simp), (fun x hx => by cases hx)⟩, fun _ => ⟨by simp, (fun x hx => by cases hx)⟩, trivial⟩
  · simp [Value.cells] at hcs
    obtain ⟨rfl, rfl, rfl⟩ := hcs
    simp only [if_true] at hmm
    subst hmm
    injection hxx with hxx _
    have each : ∀ k, k < len0 → ∃ x : Wr × Ns, (WAt w (ad.add (k * 9)) x.1 x.2 ∧ NdAt w x.1.n x.2) ∧ WrIn x.1 ∧ (FitW 45 (D k) → WSz 140737488351232 x.1) := by
      intro k hk
      obtain ⟨cs', h1, h2⟩ := hx k (by omega)
      rw [ce] at h1
      obtain ⟨_, hlen, hcell⟩ := World.cells?_some h1
      match cs', hlen with
      | [v0, v1, v2, v3, v4, v5, v6, v7, v8], _ =>
        obtain ⟨y, s, rfl, rfl, rfl, rfl, rfl, rfl, rfl, rfl, rfl, q1, q2, q3⟩ := trod_writeW h2
        have c0 := hcell 0 (by omega)
        have c1 := hcell 1 (by omega)
        have c2 := hcell 2 (by omega)
        have c3 := hcell 3 (by omega)
        have c4 := hcell 4 (by omega)
        have c5 := hcell 5 (by omega)
        have c6 := hcell 6 (by omega)
        have c7 := hcell 7 (by omega)
        have c8 := hcell 8 (by omega)
        rw [Addr.add_zero'] at c0
        rw [addr_pos _ _ (by decide)] at c1 c2 c3 c4 c5 c6 c7 c8
        exact ⟨(y, s), ⟨⟨by simpa using c0, by simpa using c1, by simpa using c2, by simpa using c3, by simpa using c4, by simpa using c5, by simpa using c6, by simpa using c7, by simpa using c8⟩, q1⟩, q2, q3⟩
    obtain ⟨f, hf⟩ := Deep.choose_lt each
    refine ⟨⟨some ad, (List.range len0).map f, m⟩, by simp [slv], ⟨fun i hi => ⟨ad, _, rfl, rfl, ?_⟩, fun x hx => ?_⟩, fun hft => ?_, trivial⟩
    · have hi2 : i < len0 := by simpa using hi
      simpa using (hf i hi2).1
    · obtain ⟨k, hk, rfl⟩ := List.mem_map.1 hx
      exact (hf k (by simpa using hk)).2.1
    · rw [hxx] at hft
      have hq := fit_elem Try.underlying22 hft
      simp only [reachBytes] at hq
      have hle := Nat.le_trans (Nat.le_mul_of_pos_right len0 be) hq.1
      refine ⟨by simp; omega, fun s hs => ?_⟩
      obtain ⟨k, hk, rfl⟩ := List.mem_map.1 hs
      have hk2 : k < len0 := by simpa using hk
      exact (hf k hk2).2.2 (hq.2 k hk2)
end
end Go.Proofs.Ytdhpphbgobakhaa
