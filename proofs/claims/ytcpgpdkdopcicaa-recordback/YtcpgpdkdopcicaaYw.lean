/- wide of chapter 10's laws: it returns; writes that are not wide are few and short. Conditions: the row lies in memory; lengths are of what a machine holds. -/
import Derived.Test.YtcpgpdkdopcicaaYi
namespace Go.Proofs.Ytcpgpdkdopcicaa
set_option maxRecDepth 100000
set_option linter.unusedVariables false
open Go.ChangeShapes Go.WideShapes Go.ChangeAt Go.RowKit
open Fl (S cmpK keyN)
open Val (V cmpV isB ltT)
/-- Of lengths that a machine holds (m = 2^47), or that are looked at (m = 5000). -/
structure WSz (m : Nat) (x : Wr) : Prop where
  t : x.g.t.size ≤ m
  l : x.n.ls.length ≤ m
  p : x.n.ps.length ≤ m
  s : ∀ y, y ∈ x.n.ls → y.size ≤ m
  k : ∀ y, y ∈ x.n.ps → y.k.size ≤ m ∧ y.v.t.size ≤ m
/-- The writes before k are few and short, where n < 5000. -/
def WideTo (L : List (Wr × Ns)) (n k : Nat) : Prop := n < 5000 → k ≤ n ∧ ∀ j (h : j < L.length), j < k → WSz 5000 L[j].1
def WideL (L : List (Wr × Ns)) (n k j : Nat) (y : Wr) : Prop := n < 5000 → k + 1 ≤ n ∧ (∀ j (h : j < L.length), j < k → WSz 5000 L[j].1) ∧ y.g.t.size ≤ 5000 ∧ y.n.ls.length ≤ 5000 ∧ y.n.ps.length ≤ 5000 ∧ ∀ i (h : i < y.n.ls.length), i < j → y.n.ls[i].size ≤ 5000
def WideP (L : List (Wr × Ns)) (n k j : Nat) (y : Wr) : Prop := n < 5000 → k + 1 ≤ n ∧ (∀ j (h : j < L.length), j < k → WSz 5000 L[j].1) ∧ y.g.t.size ≤ 5000 ∧ y.n.ls.length ≤ 5000 ∧ y.n.ps.length ≤ 5000 ∧ (∀ s, s ∈ y.n.ls → s.size ≤ 5000) ∧ ∀ i (h : i < y.n.ps.length), i < j → y.n.ps[i].k.size ≤ 5000 ∧ y.n.ps[i].v.t.size ≤ 5000
theorem WideTo.end {L : List (Wr × Ns)} {n k : Nat} (h : WideTo L n k) (hk : k = L.length) (hn : n < 5000) : L.length ≤ 5000 ∧ ∀ x ∈ L, WSz 5000 x.1 := by
  obtain ⟨h1, h2⟩ := h hn
  refine ⟨by omega, fun x hx => ?_⟩
  obtain ⟨j, hj, rfl⟩ := List.getElem_of_mem hx
  exact h2 j hj (by omega)
theorem WideL.zero {L : List (Wr × Ns)} {n k : Nat} {y : Wr} (h : WideTo L n k) : WideL L (n + 1 + y.g.t.size + y.n.ls.length + y.n.ps.length) k 0 y := fun hn => by
  obtain ⟨h1, h2⟩ := h (by omega)
  exact ⟨by omega, h2, by omega, by omega, by omega, fun i _ hi => by omega⟩
theorem WideL.succ {L : List (Wr × Ns)} {n k j : Nat} {y : Wr} (h : WideL L n k j y) (hj : j < y.n.ls.length) : WideL L (n + y.n.ls[j].size) k (j + 1) y := fun hn => by
  obtain ⟨h1, h2, h3, h4, h5, h6⟩ := h (by omega)
  refine ⟨by omega, h2, h3, h4, h5, fun i hi hij => ?_⟩
  by_cases e : i = j
  · subst e; omega
  · exact h6 i hi (by omega)
theorem WideL.over {L : List (Wr × Ns)} {n k j : Nat} {y : Wr} (h : WideL L n k j y) (hj : ¬ (j < y.n.ls.length ∧ n < 5000)) : WideP L n k 0 y := fun hn => by
  obtain ⟨h1, h2, h3, h4, h5, h6⟩ := h hn
  refine ⟨h1, h2, h3, h4, h5, fun s hs => ?_, fun i _ hi => by omega⟩
  obtain ⟨i, hi, rfl⟩ := List.getElem_of_mem hs
  exact h6 i hi (by omega)
theorem WideP.succ {L : List (Wr × Ns)} {n k j : Nat} {y : Wr} (h : WideP L n k j y) (hj : j < y.n.ps.length) : WideP L (n + y.n.ps[j].k.size + y.n.ps[j].v.t.size) k (j + 1) y := fun hn => by
  obtain ⟨h1, h2, h3, h4, h5, h6, h7⟩ := h (by omega)
  refine ⟨by omega, h2, h3, h4, h5, h6, fun i hi hij => ?_⟩
  by_cases e : i = j
  · subst e; omega
  · exact h7 i hi (by omega)
theorem WideP.over {L : List (Wr × Ns)} {n k j : Nat} (hk : k < L.length) (h : WideP L n k j L[k].1) (hj : ¬ (j < L[k].1.n.ps.length ∧ n < 5000)) : WideTo L n (k + 1) := fun hn => by
  obtain ⟨h1, h2, h3, h4, h5, h6, h7⟩ := h hn
  refine ⟨h1, fun i hi hij => ?_⟩
  by_cases e : i = k
  · subst e
    refine ⟨h3, h4, h5, h6, fun y hy => ?_⟩
    obtain ⟨q, hq, rfl⟩ := List.getElem_of_mem hy
    exact h7 q hq (by omega)
  · exact h2 i hi (by omega)
set_option maxHeartbeats 8000000 in
theorem wide10_any (A : Option Addr) (c : Nat) (L : List (Wr × Ns)) (w : World) (h : WRow w A L) (hz : ∀ x, x ∈ L → WSz 140737488351232 x.1) (hl : L.length ≤ 140737488351232) : Calls Try.prog 10 #[.slice A L.length c] w fun r w' => (∃ b, r = .returned (.bool b) ∧ (b = false → L.length ≤ 5000 ∧ ∀ x, x ∈ L → WSz 5000 x.1)) ∧ Below w.heap.size w w' := by
  have HR := Lib.hid h
  have HZ := Lib.hid hz
  clear h hz
  go_enter Try.func10, Try.ntmps10
  go_wp2
  go_loopw [3, 4] (fun u i wr => ∃ n k : Nat, k ≤ L.length ∧ n ≤ 2251799813685248 ∧ u = .int .i64 (n : Nat) ∧ i = .int .i64 (k : Nat) ∧ Hid (Below w.heap.size w wr) ∧ Hid (WideTo L n k)) (fun _ i _ => L.length - (intOf i).toNat)
  case atStart => exact ⟨0, 0, Nat.zero_le _, Nat.zero_le _, rfl, rfl, Below.refl _ _, fun _ => ⟨Nat.le_refl _, fun j _ hj => absurd hj (Nat.not_lt_zero _)⟩⟩
  case round =>
    obtain ⟨n, k, hk, hn, rfl, rfl, HB, HW⟩ := hrel
    by_cases hlt : k < L.length
    · by_cases hn5 : n < 5000
      · obtain ⟨ad, pk, e1, hp, hx, hnd⟩ := (HR.out.below HB.out) k hlt
        subst e1
        have hzk := HZ.out _ (List.getElem_mem hlt)
        have hi5 : IntKind.i64.wrap (k : Int) = (k : Int) := wrap_small (show k ≤ 9223372036854775807 by omega)
        have hi0 : (0 : Int) ≤ (k : Int) := by omega
        have HL0 := Lib.hid (WideL.zero (y := L[k].1) HW.out)
        have HKA := Lib.hid (And.intro hx hnd)
        have HOV := Lib.hid (fun n j => WideP.over (n := n) (j := j) hlt)
        generalize hy : L[k] = y at *
        obtain ⟨⟨ye, yid, yg, ⟨yls, yps⟩, ⟨ya, yb, yt, yw⟩⟩, ⟨yA, yc, yB, yc2⟩⟩ := y
        obtain ⟨zt, zl, zp, zs, zk⟩ := hzk
        simp only at zt zl zp zs zk HL0 HOV HKA
        have HZS := Lib.hid zs
        have HZK := Lib.hid zk
        clear zs zk hnd hy
        obtain ⟨c0, c1, c2, c3, c4, c5, c6, c7, c8⟩ := hx
        simp only at c0 c1 c2 c3 c4 c5 c6 c7 c8
        go_upto_region 5 with fail
        go_quiet (fail)
        clear hi5 c0 c1 c2 c3 c4 c5 c6 c7 c8
        go_wp2
        go_loopw [3, 5] (fun u i wx => ∃ n j : Nat, j ≤ yls.length ∧ n ≤ 1125899906842624 ∧ u = .int .i64 (n : Nat) ∧ i = .int .i64 (j : Nat) ∧ Hid (Below w.heap.size w wx) ∧ Hid (Below wr.heap.size wr wx) ∧ Hid (WideL L n k j ⟨ye, yid, yg, ⟨yls, yps⟩, ⟨ya, yb, yt, yw⟩⟩)) (fun _ i _ => yls.length - (intOf i).toNat)
        case atStart => exact ⟨n + 1 + yt.size + yls.length + yps.length, 0, Nat.zero_le _, by omega, by go_num, rfl, below_drewN HB.out _, below_drewN (Below.refl _ _) _, HL0.out⟩
        case round =>
          obtain ⟨n2, j, hj, hn2, rfl, rfl, HX, HXR, HWL⟩ := hrel
          have HK2 := Lib.hid (And.intro (HKA.out.1.below HXR.out) (HKA.out.2.below HXR.out))
          have hc3 := HK2.out.1.c3
          simp only at hc3
          by_cases hjl : j < yls.length
          · skip
            by_cases hn25 : n2 < 5000
            · obtain ⟨ad3, e3, hc⟩ := HK2.out.2.r1 j hjl
              simp only at e3
              subst e3
              have hc : _ = some (Value.string yls[j]) := hc
              have hsz := HZS.out _ (List.getElem_mem hjl)
              have HL1 := Lib.hid (HWL.out.succ hjl)
              simp only at HL1
              have hi5 : IntKind.i64.wrap (k : Int) = (k : Int) := wrap_small (show k ≤ 9223372036854775807 by omega)
              have hj5 : IntKind.i64.wrap (j : Int) = (j : Int) := wrap_small (show j ≤ 9223372036854775807 by omega)
              have hj0 : (0 : Int) ≤ (j : Int) := by omega
              generalize yls[j] = q at *
              go_wp2
              exact ⟨⟨n2 + q.size, j + 1, by omega, by omega, by go_num, by go_num, HX.out, HXR.out, HL1.out⟩, by simp [intOf]; omega⟩
            · have hend : ¬ n2 < 5000 := hn25
              have HP0 := Lib.hid (HWL.out.over (fun hh => hend hh.2))
              go_wp2
              clear hc3
              go_loopw [3, 6] (fun u i wy => ∃ n j : Nat, j ≤ yps.length ∧ n ≤ 1688849860263936 ∧ u = .int .i64 (n : Nat) ∧ i = .int .i64 (j : Nat) ∧ Hid (Below w.heap.size w wy) ∧ Hid (Below wr.heap.size wr wy) ∧ Hid (WideP L n k j ⟨ye, yid, yg, ⟨yls, yps⟩, ⟨ya, yb, yt, yw⟩⟩)) (fun _ i _ => yps.length - (intOf i).toNat)
              case atStart => exact ⟨n2, 0, Nat.zero_le _, by omega, rfl, rfl, HX.out, Below.refl _ _, HP0.out⟩
              case round =>
                obtain ⟨n3, m, hm, hn3, rfl, rfl, HY, HYR, HWP⟩ := hrel
                have HK3 := Lib.hid (And.intro (HK2.out.1.below HYR.out) (HK2.out.2.below HYR.out))
                have hc4 := HK3.out.1.c4
                simp only at hc4
                by_cases hml : m < yps.length
                · by_cases hn35 : n3 < 5000
                  · obtain ⟨ad4, qk, e4, hq, hpa⟩ := HK3.out.2.r2 m hml
                    simp only at e4
                    subst e4
                    have hsz := HZK.out _ (List.getElem_mem hml)
                    have HL2 := Lib.hid (HWP.out.succ hml)
                    simp only at HL2
                    obtain ⟨p0, p1, p2, p3, p4, p5⟩ := hpa
                    have p0 : _ = some (Value.string yps[m].k) := p0
                    have p5 : _ = some (Value.string yps[m].v.t) := p5
                    clear p1 p2 p3 p4
                    obtain ⟨z1, z2⟩ := hsz
                    generalize yps[m].k = q at *
                    generalize yps[m].v.t = q2 at *
                    have hi5 : IntKind.i64.wrap (k : Int) = (k : Int) := wrap_small (show k ≤ 9223372036854775807 by omega)
                    have hj5 : IntKind.i64.wrap (m : Int) = (m : Int) := wrap_small (show m ≤ 9223372036854775807 by omega)
                    have hj0 : (0 : Int) ≤ (m : Int) := by omega
                    go_upto_region 13 with fail
                    go_quiet (fail)
                    clear hi5 hj5 hc4 p0 p5
                    go_wp2
                    exact ⟨⟨n3 + q.size + q2.size, m + 1, by omega, by omega, by go_num, by go_num, below_drewN HY.out _, below_drewN HYR.out _, HL2.out⟩, by simp [intOf]; omega⟩
                  · have hend : ¬ n3 < 5000 := hn35
                    have HT := Lib.hid (HOV.out _ _ HWP.out (fun hh => hend hh.2))
                    go_wp2
                    exact ⟨⟨n3, k + 1, by omega, by omega, rfl, by go_num, HY.out, HT.out⟩, by simp [intOf]; omega⟩
                · have hend : ¬ m < yps.length := hml
                  have HT := Lib.hid (HOV.out _ _ HWP.out (fun hh => hend hh.1))
                  go_wp2
                  exact ⟨⟨n3, k + 1, by omega, by omega, rfl, by go_num, HY.out, HT.out⟩, by simp [intOf]; omega⟩
          · have hend : ¬ j < yls.length := hjl
            have HP0 := Lib.hid (HWL.out.over (fun hh => hend hh.1))
            go_wp2
            clear hc3
            go_loopw [3, 6] (fun u i wy => ∃ n j : Nat, j ≤ yps.length ∧ n ≤ 1688849860263936 ∧ u = .int .i64 (n : Nat) ∧ i = .int .i64 (j : Nat) ∧ Hid (Below w.heap.size w wy) ∧ Hid (Below wr.heap.size wr wy) ∧ Hid (WideP L n k j ⟨ye, yid, yg, ⟨yls, yps⟩, ⟨ya, yb, yt, yw⟩⟩)) (fun _ i _ => yps.length - (intOf i).toNat)
            case atStart => exact ⟨n2, 0, Nat.zero_le _, by omega, rfl, rfl, HX.out, Below.refl _ _, HP0.out⟩
            case round =>
              obtain ⟨n3, m, hm, hn3, rfl, rfl, HY, HYR, HWP⟩ := hrel
              have HK3 := Lib.hid (And.intro (HK2.out.1.below HYR.out) (HK2.out.2.below HYR.out))
              have hc4 := HK3.out.1.c4
              simp only at hc4
              by_cases hml : m < yps.length
              · by_cases hn35 : n3 < 5000
                · obtain ⟨ad4, qk, e4, hq, hpa⟩ := HK3.out.2.r2 m hml
                  simp only at e4
                  subst e4
                  have hsz := HZK.out _ (List.getElem_mem hml)
                  have HL2 := Lib.hid (HWP.out.succ hml)
                  simp only at HL2
                  obtain ⟨p0, p1, p2, p3, p4, p5⟩ := hpa
                  have p0 : _ = some (Value.string yps[m].k) := p0
                  have p5 : _ = some (Value.string yps[m].v.t) := p5
                  clear p1 p2 p3 p4
                  obtain ⟨z1, z2⟩ := hsz
                  generalize yps[m].k = q at *
                  generalize yps[m].v.t = q2 at *
                  have hi5 : IntKind.i64.wrap (k : Int) = (k : Int) := wrap_small (show k ≤ 9223372036854775807 by omega)
                  have hj5 : IntKind.i64.wrap (m : Int) = (m : Int) := wrap_small (show m ≤ 9223372036854775807 by omega)
                  have hj0 : (0 : Int) ≤ (m : Int) := by omega
                  go_upto_region 13 with fail
                  go_quiet (fail)
                  clear hi5 hj5 hc4 p0 p5
                  go_wp2
                  exact ⟨⟨n3 + q.size + q2.size, m + 1, by omega, by omega, by go_num, by go_num, below_drewN HY.out _, below_drewN HYR.out _, HL2.out⟩, by simp [intOf]; omega⟩
                · have hend : ¬ n3 < 5000 := hn35
                  have HT := Lib.hid (HOV.out _ _ HWP.out (fun hh => hend hh.2))
                  go_wp2
                  exact ⟨⟨n3, k + 1, by omega, by omega, rfl, by go_num, HY.out, HT.out⟩, by simp [intOf]; omega⟩
              · have hend : ¬ m < yps.length := hml
                have HT := Lib.hid (HOV.out _ _ HWP.out (fun hh => hend hh.1))
                go_wp2
                exact ⟨⟨n3, k + 1, by omega, by omega, rfl, by go_num, HY.out, HT.out⟩, by simp [intOf]; omega⟩
      · have hend : ¬ n < 5000 := hn5
        go_wp2
        go_ret
        exact ⟨⟨_, rfl, fun hb => absurd hb (by simp)⟩, HB.out⟩
    · have hend : ¬ k < L.length := hlt
      have HE := Lib.hid (HW.out.end (show k = L.length by omega))
      go_wp2
      go_ret
      exact ⟨⟨_, rfl, fun hb => HE.out (by have := hb; simp at this; omega)⟩, HB.out⟩
end Go.Proofs.Ytcpgpdkdopcicaa
