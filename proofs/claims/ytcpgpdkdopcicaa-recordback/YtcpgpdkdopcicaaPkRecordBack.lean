/- Texts of this claim, one behind the other: Yw Ys Zr Yx Yo. -/
import Derived.Test.YtcpgpdkdopcicaaYi
import Derived.Test.YtcpgpdkdopcicaaYf
import Derived.Test.YtcpgpdkdopcicaaZz
import Derived.Test.YtcpgpdkdopcicaaZq
import Derived.Test.YtcpgpdkdopcicaaZj
import Derived.Test.YtcpgpdkdopcicaaZm
import Derived.Test.YtcpgpdkdopcicaaMo
import Derived.SizedLaws
import Derived.ChangeSame
import Derived.SliceStrings
import Derived.Deep.Slices
import Derived.Deep.Grids
/- wide of chapter 10's laws: it returns; writes that are not wide are few and short. Conditions: the row lies in memory; lengths are of what a machine holds. -/
namespace Go.Proofs.Ytcpgpdkdopcicaa
set_option maxRecDepth 100000
set_option linter.unusedVariables false
open Go.ChangeShapes Go.WideShapes Go.ChangeAt Go.RowKit
open Fl (S cmpK keyN)
open Val (V cmpV isB ltT)
/-- Of lengths that a machine holds (m = 2^47), or that are looked at (m = 5000). -/
structure WSz (m : Nat) (x : Wr) : Prop where
  t : x.g.t.size ≤ m
  l : x.n.ls.length ≤ m
  p : x.n.ps.length ≤ m
  s : ∀ y, y ∈ x.n.ls → y.size ≤ m
  k : ∀ y, y ∈ x.n.ps → y.k.size ≤ m ∧ y.v.t.size ≤ m
/-- The writes before k are few and short, where n < 5000. -/
def WideTo (L : List (Wr × Ns)) (n k : Nat) : Prop := n < 5000 → k ≤ n ∧ ∀ j (h : j < L.length), j < k → WSz 5000 L[j].1
def WideL (L : List (Wr × Ns)) (n k j : Nat) (y : Wr) : Prop := n < 5000 → k + 1 ≤ n ∧ (∀ j (h : j < L.length), j < k → WSz 5000 L[j].1) ∧ y.g.t.size ≤ 5000 ∧ y.n.ls.length ≤ 5000 ∧ y.n.ps.length ≤ 5000 ∧ ∀ i (h : i < y.n.ls.length), i < j → y.n.ls[i].size ≤ 5000
def WideP (L : List (Wr × Ns)) (n k j : Nat) (y : Wr) : Prop := n < 5000 → k + 1 ≤ n ∧ (∀ j (h : j < L.length), j < k → WSz 5000 L[j].1) ∧ y.g.t.size ≤ 5000 ∧ y.n.ls.length ≤ 5000 ∧ y.n.ps.length ≤ 5000 ∧ (∀ s, s ∈ y.n.ls → s.size ≤ 5000) ∧ ∀ i (h : i < y.n.ps.length), i < j → y.n.ps[i].k.size ≤ 5000 ∧ y.n.ps[i].v.t.size ≤ 5000
theorem WideTo.end {L : List (Wr × Ns)} {n k : Nat} (h : WideTo L n k) (hk : k = L.length) (hn : n < 5000) : L.length ≤ 5000 ∧ ∀ x ∈ L, WSz 5000 x.1 := by
  obtain ⟨h1, h2⟩ := h hn
  refine ⟨by omega, fun x hx => ?_⟩
  obtain ⟨j, hj, rfl⟩ := List.getElem_of_mem hx
  exact h2 j hj (by omega)
theorem WideL.zero {L : List (Wr × Ns)} {n k : Nat} {y : Wr} (h : WideTo L n k) : WideL L (n + 1 + y.g.t.size + y.n.ls.length + y.n.ps.length) k 0 y := fun hn => by
  obtain ⟨h1, h2⟩ := h (by omega)
  exact ⟨by omega, h2, by omega, by omega, by omega, fun i _ hi => by omega⟩
theorem WideL.succ {L : List (Wr × Ns)} {n k j : Nat} {y : Wr} (h : WideL L n k j y) (hj : j < y.n.ls.length) : WideL L (n + y.n.ls[j].size) k (j + 1) y := fun hn => by
  obtain ⟨h1, h2, h3, h4, h5, h6⟩ := h (by omega)
  refine ⟨by omega, h2, h3, h4, h5, fun i hi hij => ?_⟩
  by_cases e : i = j
  · subst e; omega
  · exact h6 i hi (by omega)
theorem WideL.over {L : List (Wr × Ns)} {n k j : Nat} {y : Wr} (h : WideL L n k j y) (hj : ¬ (j < y.n.ls.length ∧ n < 5000)) : WideP L n k 0 y := fun hn => by
  obtain ⟨h1, h2, h3, h4, h5, h6⟩ := h hn
  refine ⟨h1, h2, h3, h4, h5, fun s hs => ?_, fun i _ hi => by omega⟩
  obtain ⟨i, hi, rfl⟩ := List.getElem_of_mem hs
  exact h6 i hi (by omega)
theorem WideP.succ {L : List (Wr × Ns)} {n k j : Nat} {y : Wr} (h : WideP L n k j y) (hj : j < y.n.ps.length) : WideP L (n + y.n.ps[j].k.size + y.n.ps[j].v.t.size) k (j + 1) y := fun hn => by
  obtain ⟨h1, h2, h3, h4, h5, h6, h7⟩ := h (by omega)
  refine ⟨by omega, h2, h3, h4, h5, h6, fun i hi hij => ?_⟩
  by_cases e : i = j
  · subst e; omega
  · exact h7 i hi (by omega)
theorem WideP.over {L : List (Wr × Ns)} {n k j : Nat} (hk : k < L.length) (h : WideP L n k j L[k].1) (hj : ¬ (j < L[k].1.n.ps.length ∧ n < 5000)) : WideTo L n (k + 1) := fun hn => by
  obtain ⟨h1, h2, h3, h4, h5, h6, h7⟩ := h hn
  refine ⟨h1, fun i hi hij => ?_⟩
  by_cases e : i = k
  · subst e
    refine ⟨h3, h4, h5, h6, fun y hy => ?_⟩
    obtain ⟨q, hq, rfl⟩ := List.getElem_of_mem hy
    exact h7 q hq (by omega)
  · exact h2 i hi (by omega)
set_option maxHeartbeats 8000000 in
theorem wide10_any (A : Option Addr) (c : Nat) (L : List (Wr × Ns)) (w : World) (h : WRow w A L) (hz : ∀ x, x ∈ L → WSz 140737488351232 x.1) (hl : L.length ≤ 140737488351232) : Calls Try.prog 10 #[.slice A L.length c] w fun r w' => (∃ b, r = .returned (.bool b) ∧ (b = false → L.length ≤ 5000 ∧ ∀ x, x ∈ L → WSz 5000 x.1)) ∧ Below w.heap.size w w' := by
  have HR := Lib.hid h
  have HZ := Lib.hid hz
  clear h hz
  go_enter Try.func10, Try.ntmps10
  go_wp2
  go_loopw [3, 4] (fun u i wr => ∃ n k : Nat, k ≤ L.length ∧ n ≤ 2251799813685248 ∧ u = .int .i64 (n : Nat) ∧ i = .int .i64 (k : Nat) ∧ Hid (Below w.heap.size w wr) ∧ Hid (WideTo L n k)) (fun _ i _ => L.length - (intOf i).toNat)
  case atStart => exact ⟨0, 0, Nat.zero_le _, Nat.zero_le _, rfl, rfl, Below.refl _ _, fun _ => ⟨Nat.le_refl _, fun j _ hj => absurd hj (Nat.not_lt_zero _)⟩⟩
  case round =>
    obtain ⟨n, k, hk, hn, rfl, rfl, HB, HW⟩ := hrel
    by_cases hlt : k < L.length
    · by_cases hn5 : n < 5000
      · obtain ⟨ad, pk, e1, hp, hx, hnd⟩ := (HR.out.below HB.out) k hlt
        subst e1
        have hzk := HZ.out _ (List.getElem_mem hlt)
        have hi5 : IntKind.i64.wrap (k : Int) = (k : Int) := wrap_small (show k ≤ 9223372036854775807 by omega)
        have hi0 : (0 : Int) ≤ (k : Int) := by omega
        have HL0 := Lib.hid (WideL.zero (y := L[k].1) HW.out)
        have HKA := Lib.hid (And.intro hx hnd)
        have HOV := Lib.hid (fun n j => WideP.over (n := n) (j := j) hlt)
        generalize hy : L[k] = y at *
        obtain ⟨⟨ye, yid, yg, ⟨yls, yps⟩, ⟨ya, yb, yt, yw⟩⟩, ⟨yA, yc, yB, yc2⟩⟩ := y
        obtain ⟨zt, zl, zp, zs, zk⟩ := hzk
        simp only at zt zl zp zs zk HL0 HOV HKA
        have HZS := Lib.hid zs
        have HZK := Lib.hid zk
        clear zs zk hnd hy
        obtain ⟨c0, c1, c2, c3, c4, c5, c6, c7, c8⟩ := hx
        simp only at c0 c1 c2 c3 c4 c5 c6 c7 c8
        go_upto_region 5 with fail
        go_quiet (fail)
        clear hi5 c0 c1 c2 c3 c4 c5 c6 c7 c8
        go_wp2
        go_loopw [3, 5] (fun u i wx => ∃ n j : Nat, j ≤ yls.length ∧ n ≤ 1125899906842624 ∧ u = .int .i64 (n : Nat) ∧ i = .int .i64 (j : Nat) ∧ Hid (Below w.heap.size w wx) ∧ Hid (Below wr.heap.size wr wx) ∧ Hid (WideL L n k j ⟨ye, yid, yg, ⟨yls, yps⟩, ⟨ya, yb, yt, yw⟩⟩)) (fun _ i _ => yls.length - (intOf i).toNat)
        case atStart => exact ⟨n + 1 + yt.size + yls.length + yps.length, 0, Nat.zero_le _, by omega, by go_num, rfl, below_drewN HB.out _, below_drewN (Below.refl _ _) _, HL0.out⟩
        case round =>
          obtain ⟨n2, j, hj, hn2, rfl, rfl, HX, HXR, HWL⟩ := hrel
          have HK2 := Lib.hid (And.intro (HKA.out.1.below HXR.out) (HKA.out.2.below HXR.out))
          have hc3 := HK2.out.1.c3
          simp only at hc3
          by_cases hjl : j < yls.length
          · skip
            by_cases hn25 : n2 < 5000
            · obtain ⟨ad3, e3, hc⟩ := HK2.out.2.r1 j hjl
              simp only at e3
              subst e3
              have hc : _ = some (Value.string yls[j]) := hc
              have hsz := HZS.out _ (List.getElem_mem hjl)
              have HL1 := Lib.hid (HWL.out.succ hjl)
              simp only at HL1
              have hi5 : IntKind.i64.wrap (k : Int) = (k : Int) := wrap_small (show k ≤ 9223372036854775807 by omega)
              have hj5 : IntKind.i64.wrap (j : Int) = (j : Int) := wrap_small (show j ≤ 9223372036854775807 by omega)
              have hj0 : (0 : Int) ≤ (j : Int) := by omega
              generalize yls[j] = q at *
              go_wp2
              exact ⟨⟨n2 + q.size, j + 1, by omega, by omega, by go_num, by go_num, HX.out, HXR.out, HL1.out⟩, by simp [intOf]; omega⟩
            · have hend : ¬ n2 < 5000 := hn25
              have HP0 := Lib.hid (HWL.out.over (fun hh => hend hh.2))
              go_wp2
              clear hc3
              go_loopw [3, 6] (fun u i wy => ∃ n j : Nat, j ≤ yps.length ∧ n ≤ 1688849860263936 ∧ u = .int .i64 (n : Nat) ∧ i = .int .i64 (j : Nat) ∧ Hid (Below w.heap.size w wy) ∧ Hid (Below wr.heap.size wr wy) ∧ Hid (WideP L n k j ⟨ye, yid, yg, ⟨yls, yps⟩, ⟨ya, yb, yt, yw⟩⟩)) (fun _ i _ => yps.length - (intOf i).toNat)
              case atStart => exact ⟨n2, 0, Nat.zero_le _, by omega, rfl, rfl, HX.out, Below.refl _ _, HP0.out⟩
              case round =>
                obtain ⟨n3, m, hm, hn3, rfl, rfl, HY, HYR, HWP⟩ := hrel
                have HK3 := Lib.hid (And.intro (HK2.out.1.below HYR.out) (HK2.out.2.below HYR.out))
                have hc4 := HK3.out.1.c4
                simp only at hc4
                by_cases hml : m < yps.length
                · by_cases hn35 : n3 < 5000
                  · obtain ⟨ad4, qk, e4, hq, hpa⟩ := HK3.out.2.r2 m hml
                    simp only at e4
                    subst e4
                    have hsz := HZK.out _ (List.getElem_mem hml)
                    have HL2 := Lib.hid (HWP.out.succ hml)
                    simp only at HL2
                    obtain ⟨p0, p1, p2, p3, p4, p5⟩ := hpa
                    have p0 : _ = some (Value.string yps[m].k) := p0
                    have p5 : _ = some (Value.string yps[m].v.t) := p5
                    clear p1 p2 p3 p4
                    obtain ⟨z1, z2⟩ := hsz
                    generalize yps[m].k = q at *
                    generalize yps[m].v.t = q2 at *
                    have hi5 : IntKind.i64.wrap (k : Int) = (k : Int) := wrap_small (show k ≤ 9223372036854775807 by omega)
                    have hj5 : IntKind.i64.wrap (m : Int) = (m : Int) := wrap_small (show m ≤ 9223372036854775807 by omega)
                    have hj0 : (0 : Int) ≤ (m : Int) := by omega
                    go_upto_region 13 with fail
                    go_quiet (fail)
                    clear hi5 hj5 hc4 p0 p5
                    go_wp2
                    exact ⟨⟨n3 + q.size + q2.size, m + 1, by omega, by omega, by go_num, by go_num, below_drewN HY.out _, below_drewN HYR.out _, HL2.out⟩, by simp [intOf]; omega⟩
                  · have hend : ¬ n3 < 5000 := hn35
                    have HT := Lib.hid (HOV.out _ _ HWP.out (fun hh => hend hh.2))
                    go_wp2
                    exact ⟨⟨n3, k + 1, by omega, by omega, rfl, by go_num, HY.out, HT.out⟩, by simp [intOf]; omega⟩
                · have hend : ¬ m < yps.length := hml
                  have HT := Lib.hid (HOV.out _ _ HWP.out (fun hh => hend hh.1))
                  go_wp2
                  exact ⟨⟨n3, k + 1, by omega, by omega, rfl, by go_num, HY.out, HT.out⟩, by simp [intOf]; omega⟩
          · have hend : ¬ j < yls.length := hjl
            have HP0 := Lib.hid (HWL.out.over (fun hh => hend hh.1))
            go_wp2
            clear hc3
            go_loopw [3, 6] (fun u i wy => ∃ n j : Nat, j ≤ yps.length ∧ n ≤ 1688849860263936 ∧ u = .int .i64 (n : Nat) ∧ i = .int .i64 (j : Nat) ∧ Hid (Below w.heap.size w wy) ∧ Hid (Below wr.heap.size wr wy) ∧ Hid (WideP L n k j ⟨ye, yid, yg, ⟨yls, yps⟩, ⟨ya, yb, yt, yw⟩⟩)) (fun _ i _ => yps.length - (intOf i).toNat)
            case atStart => exact ⟨n2, 0, Nat.zero_le _, by omega, rfl, rfl, HX.out, Below.refl _ _, HP0.out⟩
            case round =>
              obtain ⟨n3, m, hm, hn3, rfl, rfl, HY, HYR, HWP⟩ := hrel
              have HK3 := Lib.hid (And.intro (HK2.out.1.below HYR.out) (HK2.out.2.below HYR.out))
              have hc4 := HK3.out.1.c4
              simp only at hc4
              by_cases hml : m < yps.length
              · by_cases hn35 : n3 < 5000
                · obtain ⟨ad4, qk, e4, hq, hpa⟩ := HK3.out.2.r2 m hml
                  simp only at e4
                  subst e4
                  have hsz := HZK.out _ (List.getElem_mem hml)
                  have HL2 := Lib.hid (HWP.out.succ hml)
                  simp only at HL2
                  obtain ⟨p0, p1, p2, p3, p4, p5⟩ := hpa
                  have p0 : _ = some (Value.string yps[m].k) := p0
                  have p5 : _ = some (Value.string yps[m].v.t) := p5
                  clear p1 p2 p3 p4
                  obtain ⟨z1, z2⟩ := hsz
                  generalize yps[m].k = q at *
                  generalize yps[m].v.t = q2 at *
                  have hi5 : IntKind.i64.wrap (k : Int) = (k : Int) := wrap_small (show k ≤ 9223372036854775807 by omega)
                  have hj5 : IntKind.i64.wrap (m : Int) = (m : Int) := wrap_small (show m ≤ 9223372036854775807 by omega)
                  have hj0 : (0 : Int) ≤ (m : Int) := by omega
                  go_upto_region 13 with fail
                  go_quiet (fail)
                  clear hi5 hj5 hc4 p0 p5
                  go_wp2
                  exact ⟨⟨n3 + q.size + q2.size, m + 1, by omega, by omega, by go_num, by go_num, below_drewN HY.out _, below_drewN HYR.out _, HL2.out⟩, by simp [intOf]; omega⟩
                · have hend : ¬ n3 < 5000 := hn35
                  have HT := Lib.hid (HOV.out _ _ HWP.out (fun hh => hend hh.2))
                  go_wp2
                  exact ⟨⟨n3, k + 1, by omega, by omega, rfl, by go_num, HY.out, HT.out⟩, by simp [intOf]; omega⟩
              · have hend : ¬ m < yps.length := hml
                have HT := Lib.hid (HOV.out _ _ HWP.out (fun hh => hend hh.1))
                go_wp2
                exact ⟨⟨n3, k + 1, by omega, by omega, rfl, by go_num, HY.out, HT.out⟩, by simp [intOf]; omega⟩
      · have hend : ¬ n < 5000 := hn5
        go_wp2
        go_ret
        exact ⟨⟨_, rfl, fun hb => absurd hb (by simp)⟩, HB.out⟩
    · have hend : ¬ k < L.length := hlt
      have HE := Lib.hid (HW.out.end (show k = L.length by omega))
      go_wp2
      go_ret
      exact ⟨⟨_, rfl, fun hb => HE.out (by have := hb; simp at this; omega)⟩, HB.out⟩
end Go.Proofs.Ytcpgpdkdopcicaa
/- The reference's SameWrites of chapter 10 at equal rows of writes. Conditions: words of float64 are below 2^64; the rows lie in memory, fewer than 1,000,000 long. -/
namespace Go.Proofs.Ytcpgpdkdopcicaa
set_option maxRecDepth 100000
set_option linter.unusedVariables false
open Go.ChangeShapes Go.WideShapes Go.ChangeAt Go.RowKit
open Fl (S cmpK keyN)
open Val (V cmpV isB ltT)
/-- A write whose numbers are words, and whose rows are of the size that is looked at. -/
structure WFine (x : Wr) : Prop where
  n : NdOk x.n
  f : ∀ y, y ∈ x.n.ps → y.v.f < 2 * S
  w : x.g.w < 2 * S
set_option maxHeartbeats 4000000 in
theorem rsamewrites_any (A C : Option Addr) (c c2 : Nat) (L L2 : List (Wr × Ns)) (w : World) (h : WRow w A L) (h2 : WRow w C L2) (he : L2.map (·.1) = L.map (·.1)) (ho : ∀ x, x ∈ L → WFine x.1) (hl : L.length ≤ 1000000) : Calls Try.prog 15 #[.slice A L.length c, .slice C L2.length c2] w fun r w' => r = .returned (.bool true) ∧ Below w.heap.size w w' := by
  have hll : L2.length = L.length := by have := congrArg List.length he; simpa using this
  have HX := Lib.hid (show ∀ k (hk : k < L.length) (hk2 : k < L2.length), L2[k].1 = L[k].1 from fun k hk hk2 => by
    have h1 : (L2.map (·.1))[k]'(by rw [List.length_map]; exact hk2) = (L.map (·.1))[k]'(by rw [List.length_map]; exact hk) := by simp only [he]
    simpa using h1)
  rw [hll]
  have H1 := Lib.hid h
  have H2 := Lib.hid h2
  have HO := Lib.hid ho
  have HLL := Lib.hid hll
  clear h h2 he ho hll
  go_enter Try.func15, Try.ntmps15
  go_wp2
  go_loopw [5] (fun i wr => ∃ k : Nat, k ≤ L.length ∧ i = .int .i64 (k : Nat) ∧ Hid (Below w.heap.size w wr)) (fun i _ => L.length - (intOf i).toNat)
  case atStart => exact ⟨0, Nat.zero_le _, rfl, Below.refl _ _⟩
  case round =>
    obtain ⟨k, hk, rfl, HB⟩ := hrel
    by_cases hlt : k < L.length
    · have hlt2 : k < L2.length := by rw [HLL.out]; exact hlt
      obtain ⟨ad, pk, e1, hp, hx, hn⟩ := (H1.out.below HB.out) k hlt
      obtain ⟨ad2, qk, e2, hq, hx2, hn2⟩ := (H2.out.below HB.out) k hlt2
      have hxe := HX.out k hlt hlt2
      have hok := HO.out _ (List.getElem_mem hlt)
      subst e1
      subst e2
      have hi5 : IntKind.i64.wrap (k : Int) = (k : Int) := wrap_small (show k ≤ 9223372036854775807 by omega)
      have hi0 : (0 : Int) ≤ (k : Int) := by omega
      generalize L[k] = y at *
      generalize L2[k] = z at *
      obtain ⟨x, s⟩ := y
      obtain ⟨x2, s2⟩ := z
      obtain rfl : x2 = x := hxe
      have HSE := Lib.hid (fun W => rsameedge_any x2.g hok.w W)
      have HSN : Hid (∀ d os, Calls Try.prog 44 #[ndv x2.n s, ndv x2.n s2] (Sort.grow (redrawn wr d) os) fun e w'' => e = .returned (.bool true) ∧ ∃ p : Regrown, w'' = Sort.grow (redrawn wr p.d) p.os) := fun d os => Calls.regrown_of (rsame_any x2.n s s2 _ (hn.below (below_regrown wr d os)) (hn2.below (below_regrown wr d os)) hok.n hok.f)
      have HSS := Lib.hid (fun W (hg : Below wr.heap.size wr W) => And.intro (hx.below hg) (hx2.below hg))
      clear hx hx2 hn hn2 hok HO HX
      obtain ⟨xe, xid, xg, ⟨xls, xps⟩, ⟨xa, xb, xt, xw⟩⟩ := x2
      obtain ⟨sA, sc, sB, sc2⟩ := s
      obtain ⟨tA, tc, tB, tc2⟩ := s2
      cases xe <;> cases xg
      all_goals
        go_upto_region 7 with fail
        have g0 := fun d os => (HSS.out _ (below_regrown wr d os)).1.c0
        have g1 := fun d os => (HSS.out _ (below_regrown wr d os)).1.c1
        have g2 := fun d os => (HSS.out _ (below_regrown wr d os)).1.c2
        have g3 := fun d os => (HSS.out _ (below_regrown wr d os)).1.c3
        have g4 := fun d os => (HSS.out _ (below_regrown wr d os)).1.c4
        have g5 := fun d os => (HSS.out _ (below_regrown wr d os)).1.c5
        have g6 := fun d os => (HSS.out _ (below_regrown wr d os)).1.c6
        have g7 := fun d os => (HSS.out _ (below_regrown wr d os)).1.c7
        have g8 := fun d os => (HSS.out _ (below_regrown wr d os)).1.c8
        have k0 := fun d os => (HSS.out _ (below_regrown wr d os)).2.c0
        have k1 := fun d os => (HSS.out _ (below_regrown wr d os)).2.c1
        have k2 := fun d os => (HSS.out _ (below_regrown wr d os)).2.c2
        have k3 := fun d os => (HSS.out _ (below_regrown wr d os)).2.c3
        have k4 := fun d os => (HSS.out _ (below_regrown wr d os)).2.c4
        have k5 := fun d os => (HSS.out _ (below_regrown wr d os)).2.c5
        have k6 := fun d os => (HSS.out _ (below_regrown wr d os)).2.c6
        have k7 := fun d os => (HSS.out _ (below_regrown wr d os)).2.c7
        have k8 := fun d os => (HSS.out _ (below_regrown wr d os)).2.c8
        simp only at g0 g1 g2 g3 g4 g5 g6 g7 g8 k0 k1 k2 k3 k4 k5 k6 k7 k8
        refine wp_region_quiet_below (by kernel_rfl) (by kernel_rfl) ?_
        repeat (go_big_quiet_step (first | (go_at_call 44; with_reducible exact HSN.out _ _) | (go_at_call 45; with_reducible exact Calls.regrown_of (HSE.out _))))
        refine wpQuiet_nil ?_
        intro _ hw'
        obtain ⟨⟨dq, osq⟩, hw''⟩ := hw'
        subst hw''
        have HB2 := Lib.hid (HB.out.trans ((below_regrown wr dq osq).mono HB.out.size))
        clear g0 g1 g2 g3 g4 g5 g6 g7 g8 k0 k1 k2 k3 k4 k5 k6 k7 k8 hi5
        go_wp2
        exact ⟨⟨k + 1, by omega, by go_num, HB2.out⟩, by simp [intOf]; omega⟩
    · have hkl : ¬ k < L.length := hlt
      go_wp2
      go_ret
      exact ⟨rfl, HB.out⟩
end Go.Proofs.Ytcpgpdkdopcicaa
/- The program's Decode of chapter 10: its contract. Conditions: the bytes lie in memory, at most 1,000,000 of them. -/
namespace Go.Proofs.Ytcpgpdkdopcicaa
set_option maxRecDepth 100000
set_option linter.unusedVariables false
open Go.ChangeShapes Go.WideShapes Go.ChangeAt Go.RowKit
open Fl (S cmpK keyN normN)
open Val (V cmpV isB ltT)
open Lb
theorem NdN.app {B m : Nat} {W W' : World} {n : Nd} {s : Ns} {v : Value} {xs : List Value} (h : NdN B W n s) (hr : W.ownsRow 0 47 9 v m xs) (hg : W.grownBy W' v.ownBlock) : NdN B W' n s := by
  cases hv : v.ownBlock with
  | none => rw [hv] at hg; exact ⟨h.l.kept hg (fun k hk e => by cases e), h.p.kept hg (fun k hk e => by cases e)⟩
  | some k =>
    obtain ⟨cur, hc⟩ := own_type hr hv
    rw [hv] at hg
    exact h.kept hg hc
/-- While writes are decoded. -/
structure DI (w : World) (B r a : Nat) (g : Option Nat) (q : Option (List UInt8)) (L : List (Wr × Ns)) (v : Value) (W : World) : Prop where
  rs : RS B r a g q W
  ro : RO 47 9 B W v L.length (wcs L)
  nd : ∀ x ∈ L, NdN B W x.1.n x.2
  b : Below w.heap.size w W
section
variable {w W W' : World} {B r a : Nat} {g : Option Nat} {q q' : Option (List UInt8)} {L : List (Wr × Ns)} {v v' : Value}
theorem below_chg (h : Below w.heap.size w W) (hr : w.heap.size ≤ r) (ha : w.heap.size ≤ a) (hc : Chg (F2 r a) W W') : Below w.heap.size w W' :=
  Chg.of_below h hc (fun k hk => by rcases hk with rfl | rfl <;> assumption)
theorem DI.below (h : DI w B r a g q L v W) (hb : Below W.heap.size W W') : DI w B r a g q L v W' := ⟨h.rs.below hb, h.ro.below hb, fun x hx => (h.nd x hx).below hb, bnext h.b hb⟩
theorem DI.read (h : DI w B r a g q L v W) (hr : w.heap.size ≤ r) (ha : w.heap.size ≤ a) (hs : RS B r a g q' W') (hc : Chg (F2 r a) W W') : DI w B r a g q' L v W' :=
  ⟨hs, h.ro.chg (Nat.le_refl _) h.rs hc, fun x hx => (h.nd x hx).chg h.rs hc, below_chg h.b hr ha hc⟩
theorem DI.add {x : Wr} {s : Ns} (h : DI w B r a g q L v W) (hB : w.heap.size ≤ B) (hx : NdN B W x.n s) (ho : W'.ownsRow 0 47 9 v' (L.length + 1) (wcs L ++ (wrc x s).toList)) (hg : W.grownBy W' v.ownBlock) (hv : v'.ownBlock = v.ownBlock ∨ v'.ownBlock = some W.heap.size) : DI w B r a g q (L ++ [(x, s)]) v' W' := by
  refine ⟨h.rs.grown hg (fun k e => h.ro.n k e), ?_, fun y hy => ?_, h.b.grown hg h.b.size (fun k e => by have := h.ro.n k e; omega)⟩
  · have := h.ro.next h.rs.size ho hv
    rw [wcs_snoc]
    simpa using this
  · rcases List.mem_append.1 hy with hy | hy
    · exact (h.nd y hy).app h.ro.r hg
    · rw [List.mem_singleton.1 hy]; exact hx.app h.ro.r hg
end
/-- What Decode returns. -/
def DecP (l : List UInt8) (e : Ending) (w' : World) : Prop :=
  match decB true l with
  | some x => ∃ A c L, e = .returned (.tuple #[.int .i64 x.1, .int .i64 x.2.1, .slice A L.length c, .int .i64 0]) ∧ L.map (·.1) = x.2.2 ∧ WRow w' A L
  | none => e = .returned (.tuple #[.int .i64 0, .int .i64 0, .slice none 0 0, .int .i64 2])
theorem DecP.none {l : List UInt8} {w' : World} (h : decB true l = .none) : DecP l (.returned (.tuple #[.int .i64 0, .int .i64 0, .slice .none 0 0, .int .i64 2])) w' := by
  unfold DecP; rw [h]
theorem pA_none {s : Bool} {l : List UInt8} (h : nx (pA s) (some l) = none) : decB true l = none := by
  rw [← decB_any l s]
  unfold decB
  cases hp : pA s l with
  | none => rfl
  | some y =>
    unfold nx at h
    simp only [Option.bind_some, hp, Option.map_some] at h
    cases h
theorem pA_some {s : Bool} {l r : List UInt8} {x : Int × Int × List Wr} (h : nx (pA s) (some l) = some r) (hi : Is (pA s) (some l) x) : pA s l = some (x, r) := by
  cases hp : pA s l with
  | none => unfold nx at h; simp only [Option.bind_some, hp, Option.map_none] at h; cases h
  | some y =>
    obtain ⟨y, r2⟩ := y
    unfold nx at h
    unfold Is rs at hi
    simp only [Option.bind_some, hp, Option.map_some] at h hi
    injection h with h
    rw [h, hi y rfl]
theorem dec_more {s : Bool} {l r : List UInt8} {x : Int × Int × List Wr} (h : pA s l = some (x, r)) (hr : r ≠ []) : decB true l = none := by
  rw [← decB_any l s]
  unfold decB
  rw [h]
  cases r with
  | nil => exact absurd rfl hr
  | cons a b => rfl
theorem dec_end {s : Bool} {l : List UInt8} {x : Int × Int × List Wr} (h : pA s l = some (x, [])) : decB true l = if mayB x.1 x.2.1 x.2.2 then some x else none := by
  rw [← decB_any l s]
  unfold decB
  rw [h]
set_option maxHeartbeats 8000000 in
theorem pdec_any (A : Option Addr) (l : List UInt8) (c : Nat) (w : World) (h : BS w A l c) (hl : l.length ≤ 1000000) : Calls Try.prog 13 #[.slice A l.length c] w fun e w' => DecP l e w' ∧ Below w.heap.size w w' := by
  have HO := Lib.hid (open_any A l c w h hl)
  have HL : Hid (l.length ≤ 1000000) := hl
  clear h hl
  go_enter Try.func13, Try.ntmps13
  go_wp2_with fail
  refine HO.out.mono ?_
  rintro e w1 ⟨a, g, rfl, hcur, hb1, ha, hg⟩
  obtain ⟨W0, hW0⟩ : ∃ W0, W0 = w1.alloc (.cells #[.pointer (some ⟨a, 0, none⟩), .bool false] 74) := ⟨_, rfl⟩
  have hbx : BX W0 w1.heap.size 74 #[.pointer (some ⟨a, 0, none⟩), .bool false] := by rw [hW0]; exact bx_new w1 _ _
  have hal : Below w1.heap.size w1 W0 := by rw [hW0]; exact one_box w1 _
  have hsz : W0.heap.size = w1.heap.size + 1 := by rw [hW0]; simp
  obtain ⟨r, hr⟩ : ∃ r, w1.heap.size = r := ⟨_, rfl⟩
  have ha1 := hcur.1
  have hrs : RS W0.heap.size r a g (some l) W0 := by
    rw [hr] at hbx
    refine ⟨⟨some l, false, hcur.below hal, (hbx.cell 1).trans rfl, rfl, rfl⟩, (hbx.cell 0).trans rfl, hbx.frozen 1, by omega, ?_, by omega, by omega, ?_, Nat.le_refl _⟩
    · intro e
      have := (hg r e.symm).2
      omega
    · intro k e
      have := (hg k e).2
      omega
  have hwr : w.heap.size ≤ r := by rw [← hr]; exact hb1.size
  have hbw : Below w.heap.size w W0 := bnext hb1 hal
  have hd := hrs.below (Below.refl W0.heap.size W0).drew
  have H0 := Lib.hid hd
  have hS0 := hd.c0
  have HBW := Lib.hid (hbw.trans (Below.refl _ _).drew)
  have HWB := Lib.hid hbw.size
  have hx0 := hrs.c0
  clear hcur hb1 hg hbx hal hsz ha1 hd hrs hbw
  go_upto_region 2 with fail
  rw [← hW0]
  clear hW0 hr HO
  generalize hBB : W0.heap.size = B at *
  go_region_held3 (fun W => W.cell? ⟨r, 0, none⟩ = some (.pointer (some ⟨a, 0, none⟩))) (first | with_reducible exact hS0 | with_reducible exact hS1 | with_reducible exact hS2)
    (first
      | (have _ := H1; go_at_call 34; refine (rdI_any H1.out).mono ?_; rintro e w3 ⟨x2, rfl, hR2, hc2, hi2⟩; have hS2 := hR2.c0; have H2 := Lib.hid hR2; have HB2 := Lib.hid (below_chg HB1.out hwr ha hc2); have HI2 := Lib.hid hi2; clear hR2 hc2 hi2)
      | (go_at_call 34; refine (rdI_any H0.out).mono ?_; rintro e w2 ⟨x1, rfl, hR1, hc1, hi1⟩; have hS1 := hR1.c0; have H1 := Lib.hid hR1; have HB1 := Lib.hid (below_chg HBW.out hwr ha hc1); have HI1 := Lib.hid hi1; clear hR1 hc1 hi1))
  have HC := Lib.hid (count_any H2.out 56 (by decide))
  clear hS0 hS1 hS2 hx0 H0 H1 HBW HB1
  go_wp2_with fail
  refine HC.out.mono ?_
  rintro e w4 ⟨n, hn, rfl, hR3, hc3, hi3⟩
  have H3 := Lib.hid hR3
  have HB3 := Lib.hid (below_chg HB2.out hwr ha hc3)
  have HI3 := Lib.hid hi3
  have HM0 := Lib.hid (many_zero (q := nx (pC 56) (nx pI (nx pI (some l)))) (pW false))
  have HD0 : Hid (DI w B r a g (nx (pMany (pW false) 0) (nx (pC 56) (nx pI (nx pI (some l))))) [] (.slice none 0 0) w4) := by
    rw [HM0.out.1]
    exact ⟨H3.out, RO.nil _ _ _ _, (fun x hx => by cases hx), HB3.out⟩
  clear hR3 hc3 hi3 HC H2 H3 HB2 HB3
  go_wp2
  go_loopw [4, 17] (fun v i wr => ∃ (L : List (Wr × Ns)), L.length ≤ n ∧ i = .int .i64 (L.length : Nat) ∧ Hid (DI w B r a g (nx (pMany (pW false) L.length) (nx (pC 56) (nx pI (nx pI (some l))))) L v wr) ∧ Hid (Is (pMany (pW false) L.length) (nx (pC 56) (nx pI (nx pI (some l)))) (L.map (·.1)))) (fun _ i _ => n - (intOf i).toNat)
  case atStart => exact ⟨[], Nat.zero_le _, rfl, HD0.out, HM0.out.2⟩
  case round =>
    obtain ⟨L, hk, rfl, HD, HS⟩ := hrel
    obtain ⟨Av, cv, rfl⟩ := own_slice HD.out.ro.r
    by_cases hlt : L.length < n
    · have HW := Lib.hid (rwrite2_any HD.out.rs)
      go_wp2_with fail
      refine HW.out.mono ?_
      rintro e w5 ⟨x, s, rfl, hR5, hc5, hi5, hn5⟩
      have hd5 := HD.out.read hwr ha hR5 hc5
      have HD5 := Lib.hid (hd5.below (one_box w5 (.cells (wrc x s) 47)))
      have HN5 := Lib.hid ((ndN_mono hn5 HD.out.rs.size).below (one_box w5 (.cells (wrc x s) 47)))
      have HMS := Lib.hid (many_step HS.out hi5)
      have HCN := Lib.hid (new_cells w5 (wrc x s) 47)
      have HLE : Hid (L.length + 1 ≤ 10000) := by simp only [Hid]; omega
      have HZ := Lib.hid (wrc_one x s)
      clear hR5 hc5 hi5 hn5 hd5 HW HD
      go_wp2_with (at_builtin; refine wp_ownL 22 47 _ 9 112 Try.underlying22 infoW rfl (by decide) (by decide) rfl _ _ rfl _ L.length (wcs L) HD5.out.ro.r rfl ⟨w5.heap.size, 0, none⟩ 1 1 (wrc x s).toList rfl rfl HCN.out HZ.out HLE.out ?_)
      intro v6 w6 ho6 hg6 hv6
      obtain ⟨A6, c6, rfl⟩ := own_slice ho6
      have HD6 := Lib.hid (HD5.out.add HWB.out HN5.out ho6 hg6 (by simpa using hv6))
      clear ho6 hg6 hv6 HD5 HN5 HCN
      have HD7 : Hid (DI w B r a g (nx (pMany (pW false) (L ++ [(x, s)]).length) (nx (pC 56) (nx pI (nx pI (some l))))) (L ++ [(x, s)]) (.slice A6 (L.length + 1) c6) w6) := by
        have := HD6.out
        rw [← HMS.out.1] at this
        simp only [Hid]
        simpa using this
      have HS7 : Hid (Is (pMany (pW false) (L ++ [(x, s)]).length) (nx (pC 56) (nx pI (nx pI (some l)))) ((L ++ [(x, s)]).map (·.1))) := by
        have := HMS.out.2
        simp only [Hid]
        simpa using this
      clear HD6 HMS
      go_wp2
      exact ⟨⟨L ++ [(x, s)], by simp; omega, by simp, HD7.out, HS7.out⟩, by simp [intOf]; omega⟩
    · have hend : L.length = n := by omega
      have HQ : Hid (nx (pA false) (some l) = nx (pMany (pW false) L.length) (nx (pC 56) (nx pI (nx pI (some l)))) ∧ Is (pA false) (some l) (x1, x2, L.map (·.1))) := by
        have x3 : Is (pC 56) (nx pI (nx pI (some l))) L.length := by rw [hend]; exact HI3.out
        unfold pA
        exact ⟨by rw [(nx_and HI1.out).1, (nx_and HI2.out).1, (nx_and x3).1, (nx_and HS.out).1, nx_ret], is_and HI1.out (is_and HI2.out (is_and x3 (is_and HS.out is_ret)))⟩
      clear hend
      cases hq : nx (pMany (pW false) L.length) (nx (pC 56) (nx pI (nx pI (some l)))) with
      | none =>
        rw [hq] at HQ HD
        have HNO := Lib.hid (pA_none HQ.out.1)
        obtain ⟨st, bd, d0, d1, d2⟩ := HD.out.rs.cur
        have k0 := HD.out.rs.c0
        cases bd with
        | true =>
          clear hq d2 d0
          go_wp2
          exact bodyPost_ret (v := .tuple #[.int .i64 0, .int .i64 0, .slice none 0 0, .int .i64 2]) (by simp [results, Try.results13, go_sem]) rfl ⟨DecP.none HNO.out, HD.out.b⟩
        | false =>
          obtain rfl : st = none := d2.resolve_right (by decide)
          have HWH := Lib.hid (fun W hW => whole_any a g none W hW)
          have HC0 := Lib.hid d0
          clear hq d2 d0
          go_wp2_with fail
          refine (HWH.out _ HC0.out).mono ?_
          rintro e w7 ⟨rfl, rfl⟩
          go_wp2
          exact bodyPost_ret (v := .tuple #[.int .i64 0, .int .i64 0, .slice none 0 0, .int .i64 2]) (by simp [results, Try.results13, go_sem]) rfl ⟨DecP.none HNO.out, HD.out.b⟩
      | some rest =>
        rw [hq] at HQ HD
        have hpa := pA_some HQ.out.1 HQ.out.2
        obtain ⟨st, bd, d0, d1, d2, rfl⟩ := HD.out.rs.cur
        subst d2
        have k0 := HD.out.rs.c0
        have HWH := Lib.hid (whole_any a g (some rest) wr d0)
        cases rest with
        | cons z zs =>
          have HNO := Lib.hid (dec_more hpa (by simp))
          clear hq d0 hpa
          go_wp2_with fail
          refine HWH.out.mono ?_
          rintro e w7 ⟨rfl, rfl⟩
          go_wp2
          exact bodyPost_ret (v := .tuple #[.int .i64 0, .int .i64 0, .slice none 0 0, .int .i64 2]) (by simp [results, Try.results13, go_sem]) rfl ⟨DecP.none HNO.out, HD.out.b⟩
        | nil =>
          have hrow := wrow_own HD.out.ro.r (fun x hx => (HD.out.nd x hx).at)
          have hok := pA_ok false HL.out hpa
          have hin := pA_in false hpa
          have HMY := Lib.hid (pmay_any x1 x2 Av cv L wr hrow (fun x hx => ⟨hok _ (List.mem_map_of_mem hx), (hin _ (List.mem_map_of_mem hx)).2.2.2.2⟩) (by have := pA_len false hpa; rw [List.length_map] at this; omega))
          have HDE := Lib.hid (dec_end hpa)
          have HRW := Lib.hid hrow
          clear hq d0 hpa hrow hok hin
          cases hm : mayB x1 x2 (L.map (·.1)) with
          | false =>
            rw [hm] at HMY
            have HNO := Lib.hid (show decB true l = none by rw [HDE.out, hm]; rfl)
            clear hm
            go_wp2_with fail
            refine HWH.out.mono ?_
            rintro e w7 ⟨rfl, rfl⟩
            go_wp2_with fail
            refine HMY.out.mono ?_
            rintro e w8 ⟨rfl, hb⟩
            have B8 := Lib.hid (bnext HD.out.b hb)
            clear hb
            go_wp2
            exact bodyPost_ret (v := .tuple #[.int .i64 0, .int .i64 0, .slice none 0 0, .int .i64 2]) (by simp [results, Try.results13, go_sem]) rfl ⟨DecP.none HNO.out, B8.out⟩
          | true =>
            rw [hm] at HMY
            have HYES := Lib.hid (show decB true l = some (x1, x2, L.map (·.1)) by rw [HDE.out, hm]; rfl)
            clear hm
            go_wp2_with fail
            refine HWH.out.mono ?_
            rintro e w7 ⟨rfl, rfl⟩
            go_wp2_with fail
            refine HMY.out.mono ?_
            rintro e w8 ⟨rfl, hb⟩
            have B8 := Lib.hid (bnext HD.out.b hb)
            have HR8 := Lib.hid (HRW.out.below hb)
            clear hb
            go_wp2
            refine bodyPost_ret (v := .tuple #[.int .i64 x1, .int .i64 x2, .slice Av L.length cv, .int .i64 0]) (by simp [results, Try.results13, go_sem]) rfl ⟨?_, B8.out⟩
            unfold DecP
            rw [HYES.out]
            exact ⟨Av, cv, L, rfl, rfl, HR8.out⟩
end Go.Proofs.Ytcpgpdkdopcicaa
/- The walk of the law RecordBack of chapter 10. Conditions: the rows lie in memory; numbers are words; lengths are of what a machine holds. -/
namespace Go.Proofs.Ytcpgpdkdopcicaa
set_option maxRecDepth 100000
set_option linter.unusedVariables false
open Go.ChangeShapes Go.WideShapes Go.ChangeAt Go.RowKit
open Fl (S cmpK keyN normN)
open Val (V cmpV isB ltT)
open Lb
theorem and16 (n : Int) : bits .and .i64 n 65535 = n % 65536 := by
  have hm : (BitVec.ofInt 64 65535).toNat = 2 ^ 16 - 1 := by decide
  have key : (BitVec.ofInt 64 n &&& BitVec.ofInt 64 65535).toNat = (n % ((2 ^ 64 : Nat) : Int)).toNat % 2 ^ 16 := by
    rw [BitVec.toNat_and, BitVec.toNat_ofInt, hm, Nat.and_two_pow_sub_one_eq_mod]
  show IntKind.i64.wrap ((BitVec.ofInt 64 n &&& BitVec.ofInt 64 65535).toNat : Nat) = n % 65536
  rw [key, IntKind.wrap_i64]
  omega
theorem decP_back {nn ne : Int} {l : List Wr} (h : mayB nn ne l = true) (hi : ∀ x ∈ l, WrIn x) {e : Ending} {w' : World} (hd : DecP (encA nn ne l) e w') : ∃ A c L, e = .returned (.tuple #[.int .i64 nn, .int .i64 ne, .slice A L.length c, .int .i64 0]) ∧ L.map (·.1) = l ∧ WRow w' A L := by
  unfold DecP at hd
  rw [decB_enc true h hi] at hd
  exact hd
theorem WSz.ok {x : Wr} (h : WSz 5000 x) : WOk x :=
  have e : 5000 ≤ maxLen := by unfold maxLen; omega
  ⟨⟨by have := h.l; omega, by have := h.p; omega, fun y hy => Nat.le_trans (h.s y hy) e, fun y hy => ⟨Nat.le_trans (h.k y hy).1 e, Nat.le_trans (h.k y hy).2 e⟩⟩, Nat.le_trans h.t e⟩
theorem wfine {x : Wr} (h : WSz 5000 x) (hi : WrIn x) : WFine x := ⟨h.ok.n, fun y hy => (hi.1 y hy).2, hi.2.2.2.2⟩
set_option maxHeartbeats 8000000 in
theorem back10_any (nn ne cut : Int) (A C : Option Addr) (c mc : Nat) (L : List (Wr × Ns)) (more : List UInt8) (w : World) (h : WRow w A L) (hi : ∀ x, x ∈ L → WrIn x.1) (hz : ∀ x, x ∈ L → WSz 140737488351232 x.1) (hl : L.length ≤ 140737488351232) (hm : BS w C more mc) (hml : more.length ≤ 9223372036854775807) : Calls Try.prog 4 #[.int .i64 nn, .int .i64 ne, .slice A L.length c, .int .i64 cut, .slice C more.length mc] w fun e w' => e = .returned (.bool true) ∧ Below w.heap.size w w' := by
  have HKN := Lib.hid (fun W => known10_any W)
  have HW := Lib.hid (wide10_any A c L w h hz hl)
  have HR := Lib.hid h
  have HI := Lib.hid hi
  have HM := Lib.hid hm
  clear h hi hz hm
  go_enter Try.func4, Try.ntmps4
  go_wp2_with fail
  refine HW.out.mono ?_
  rintro e w1 ⟨⟨b, rfl, hb⟩, hb1⟩
  have B1 := Lib.hid hb1
  clear hb1 HW
  cases b with
  | true =>
    clear hb
    go_wp2
    go_ret
    exact ⟨rfl, B1.out⟩
  | false =>
    obtain ⟨hl5, hs5⟩ := hb rfl
    clear hb
    have hok := fun x (hx : x ∈ L) => (hs5 x hx).ok
    have HF := Lib.hid (fun x (hx : x ∈ L) => wfine (hs5 x hx) (HI.out x hx))
    have HEN := Lib.hid (penc_any nn ne A c L w1 (HR.out.below B1.out) hok HI.out (by omega))
    have HRM := Lib.hid (fun W (hW : Below w.heap.size w W) => rmay_any nn ne A c L W (HR.out.below hW) hok (by omega))
    clear hs5 hok
    by_cases m1 : more.length < 1
    · go_wp2
      go_ret
      exact ⟨rfl, B1.out⟩
    by_cases m2 : 100 < more.length
    · go_wp2
      go_ret
      exact ⟨rfl, B1.out⟩
    cases hmay : mayB nn ne (L.map (·.1)) with
    | false =>
      rw [hmay] at HRM
      have HEP : Hid (∀ B e w', EncP B nn ne (L.map (·.1)) e w' → e = .returned (.tuple #[.slice none 0 0, .int .i64 1])) := by
        intro B e w' h
        unfold EncP at h
        rw [hmay, if_neg (by decide)] at h
        exact h
      clear hmay
      go_wp2_with fail
      refine HEN.out.mono ?_
      rintro e w2 ⟨hp, hb2⟩
      obtain rfl := HEP.out _ _ _ hp
      have B2 := Lib.hid (bnext B1.out hb2)
      clear hp hb2
      go_wp2_with fail
      refine (HRM.out _ B2.out).mono ?_
      rintro e w3 ⟨rfl, hb3⟩
      have B3 := Lib.hid (bnext B2.out hb3)
      clear hb3
      go_wp2_with fail
      refine (HKN.out _).mono ?_
      rintro e w4 ⟨rfl, hb4⟩
      have B4 := Lib.hid (bnext B3.out hb4)
      clear hb4
      go_wp2
      go_ret
      exact ⟨rfl, B4.out⟩
    | true =>
      rw [hmay] at HRM
      have hin : ∀ x ∈ L.map (·.1), WrIn x := fun x hx => by
        obtain ⟨y, hy, rfl⟩ := List.mem_map.1 hx
        exact HI.out y hy
      have HEP : Hid (∀ B e w', EncP B nn ne (L.map (·.1)) e w' → ∃ A c, e = .returned (.tuple #[.slice A (encA nn ne (L.map (·.1))).length c, .int .i64 0]) ∧ Own B w' (.slice A (encA nn ne (L.map (·.1))).length c) (encA nn ne (L.map (·.1))) ∧ (encA nn ne (L.map (·.1))).length ≤ 15000) := by
        intro B e w' h
        unfold EncP at h
        rw [hmay, if_pos rfl] at h
        exact h
      have HDP := Lib.hid (fun e w' (h : DecP (encA nn ne (L.map (·.1))) e w') => decP_back hmay hin h)
      have HDC := Lib.hid (fun k (hk : k < (encA nn ne (L.map (·.1))).length) e w' (h : DecP ((encA nn ne (L.map (·.1))).take k) e w') => show e = .returned (.tuple #[.int .i64 0, .int .i64 0, .slice none 0 0, .int .i64 2]) from by
        have hn := decB_cut hmay hin (List.take_append_drop k _).symm (by intro e; have := congrArg List.length e; simp at this; omega)
        unfold DecP at h
        rw [hn] at h
        exact h)
      have HDM := Lib.hid (fun e w' (h : DecP (encA nn ne (L.map (·.1)) ++ more) e w') => show e = .returned (.tuple #[.int .i64 0, .int .i64 0, .slice none 0 0, .int .i64 2]) from by
        have hn := decB_more hmay hin (q := more) (by intro e; subst e; simp at m1)
        unfold DecP at h
        rw [hn] at h
        exact h)
      have hlen : 1 ≤ (encA nn ne (L.map (·.1))).length := by
        have hb := mayB_bd hmay
        have h1 := (encI_len nn (by omega) (by omega)).2
        unfold encA
        rw [List.length_append]; omega
      generalize encA nn ne (L.map (·.1)) = en at *
      clear hmay hin
      go_wp2_with fail
      refine HEN.out.mono ?_
      rintro e w2 ⟨hp, hb2⟩
      obtain ⟨A1, c1, rfl, ho, hle⟩ := HEP.out _ _ _ hp
      obtain ⟨A2, c2, e1, hbs, _⟩ := ho.open
      injection e1 with e1 _ e2
      subst e1
      subst e2
      have hcap := hbs.cap
      have B2 := Lib.hid (bnext B1.out hb2)
      have HP := Lib.hid hbs
      clear hp hb2 ho hbs HEP HEN
      go_wp2_with fail
      refine (HRM.out _ B2.out).mono ?_
      rintro e w3 ⟨rfl, hb3⟩
      have B3 := Lib.hid (bnext B2.out hb3)
      have HP3 := Lib.hid (HP.out.below hb3)
      have HD1 := Lib.hid (pdec_any A1 en c1 w3 HP3.out (by omega))
      clear hb3
      go_wp2_with fail
      refine HD1.out.mono ?_
      rintro e w4 ⟨hd, hb4⟩
      obtain ⟨A4, c4, L4, rfl, hL4, hrow⟩ := HDP.out _ _ hd
      have HL4 := Lib.hid hL4
      have HR4 := Lib.hid hrow
      have B4 := Lib.hid (bnext B3.out hb4)
      have HP4 := Lib.hid (HP3.out.below hb4)
      clear hd hL4 hrow hb4 HD1 HDP
      have ha := and16 cut
      obtain ⟨k, hk1, hk2⟩ : ∃ k : Nat, cut % 65536 % (en.length : Int) = (k : Int) ∧ k < en.length := ⟨(cut % 65536 % (en.length : Int)).toNat, by have := Int.emod_nonneg (cut % 65536) (show (en.length : Int) ≠ 0 by omega); omega, by have := Int.emod_nonneg (cut % 65536) (show (en.length : Int) ≠ 0 by omega); have := Int.emod_lt_of_pos (cut % 65536) (show (0 : Int) < en.length by omega); omega⟩
      have hbt := HP4.out.take k
      have hlk : (en.take k).length = k := by rw [List.length_take]; omega
      have HD2 := pdec_any A1 (en.take k) c1 w4 hbt (by omega)
      rw [hlk] at HD2
      have HD3 := Lib.hid HD2
      have hsl := slice_to A1 en.length c1 k (by omega) w4
      clear HD2 hlk hbt
      go_wp2_with fail
      refine HD3.out.mono ?_
      rintro e w5 ⟨hd, hb5⟩
      obtain rfl := HDC.out k hk2 _ _ hd
      have B5 := Lib.hid (bnext B4.out hb5)
      have D5 := Lib.hid hb5
      have HO0 := Lib.hid (show Own w5.heap.size (w5.alloc (.cells #[] 5)) (.slice (some ⟨w5.heap.size, 0, none⟩) 0 0) [] from World.ownsRow_made w5 #[] 0 (Nat.le_refl _) (by unfold maxLen; omega) rfl)
      have HPA := Lib.hid ((HP4.out.below hb5).below (one_box w5 (.cells #[] 5)))
      clear hd hb5 ha hk1 hk2 hsl HD3 HDC HP HP3 HP4 B1 B2 B3 B4
      go_wp2_with (at_builtin; refine wp_app rfl _ _ rfl w5.heap.size _ [] HO0.out rfl A1 en _ c1 rfl rfl HPA.out (by simp; omega) (by simp) ?_)
      intro v6 w6 h6 hb6
      have B56 := Lib.hid ((one_box w5 (.cells #[] 5)).trans hb6)
      have B6 := Lib.hid (bnext B5.out B56.out)
      have D6 := Lib.hid (bnext D5.out B56.out)
      have HO6 := Lib.hid h6
      obtain ⟨A6, c6, rfl, _, _⟩ := h6.open
      have HM6 := Lib.hid (HM.out.below B6.out)
      have HS6 := Lib.hid B56.out.size
      clear h6 hb6 HO0 HPA
      go_wp2_with (at_builtin; refine wp_app rfl _ _ rfl w5.heap.size _ en HO6.out rfl C more _ mc rfl rfl HM6.out ?cl HS6.out ?_)
      case cl => omega
      intro v7 w7 h7 hb7
      have B7 := Lib.hid (B6.out.trans (hb7.mono B5.out.size))
      have D7 := Lib.hid (D6.out.trans (hb7.mono D5.out.size))
      obtain ⟨A7, c7, rfl, hbs7, _⟩ := h7.open
      have hd7 := pdec_any A7 (en ++ more) c7 w7 hbs7 (by rw [List.length_append]; omega)
      rw [List.length_append] at hd7
      have HD7 := Lib.hid hd7
      clear h7 hb7 hbs7 hd7 HO6 HM6 HS6 B56 B6 D6
      go_wp2_with fail
      refine HD7.out.mono ?_
      rintro e w8 ⟨hd, hb8⟩
      obtain rfl := HDM.out _ _ hd
      have B8 := Lib.hid (bnext B7.out hb8)
      have D8 := Lib.hid (bnext D7.out hb8)
      have HSW := Lib.hid (rsamewrites_any A4 A c4 c L4 L w8 (HR4.out.below D8.out) (HR.out.below B8.out) HL4.out.symm (fun x hx => by
        have hx1 : x.1 ∈ L.map (·.1) := by rw [← HL4.out]; exact List.mem_map.2 ⟨x, hx, rfl⟩
        obtain ⟨y, hy, hye⟩ := List.mem_map.1 hx1
        rw [← hye]
        exact HF.out y hy) (by have := congrArg List.length HL4.out; simp at this; omega))
      clear hd hb8 HD7 HDM B7 D7
      go_wp2_with fail
      refine HSW.out.mono ?_
      rintro e w9 ⟨rfl, hb9⟩
      have B9 := Lib.hid (bnext B8.out hb9)
      clear hb9 HSW
      go_wp2_with fail
      refine (HKN.out _).mono ?_
      rintro e w10 ⟨rfl, hb10⟩
      have B10 := Lib.hid (bnext B9.out hb10)
      clear hb10
      go_wp2
      go_ret
      exact ⟨rfl, B10.out⟩
end Go.Proofs.Ytcpgpdkdopcicaa
/- Arguments that are rows of writes of chapter 10, opened: what they read as, and how long what they hold is. No condition. -/
namespace Go.Proofs.Ytcpgpdkdopcicaa
set_option maxRecDepth 100000
set_option linter.unusedVariables false
open Go.ChangeShapes Go.WideShapes Go.ChangeAt Go.RowKit
open Fl (S)
open Val (V)
open Lb
instance : Inhabited Ns := ⟨⟨none, 0, none, 0⟩⟩
/-- How long what lies in data of a type is at most. -/
def FitW {H : Type} (t : TypeId) (d : DataW H) : Prop := ∀ n ∈ d.weights Try.prog t, n ≤ reachBytes
def SlW (w : World) (s : Sl (Wr × Ns)) : Prop := WRow w s.a s.l ∧ ∀ x, x ∈ s.l → WrIn x.1
def SzW (l : List (Wr × Ns)) : Prop := l.length ≤ 140737488351232 ∧ ∀ x, x ∈ l → WSz 140737488351232 x.1
section
variable {H : Type} {enc : TypeId × Value → H} {w : World} {base : Nat} {held : Bool} {r : Reach} {b0 : Nat} {v : Value} {d : DataW H} {p : List MemPlace}
theorem trod_len {t e : TypeId} (ht : Try.prog.underlying t = some (.slice e)) {A : Option Addr} {n c : Nat} (h : DataW.Trod enc Try.prog w base (fun _ => true) held t (.slice A n c) d p) : n = 0 ∨ ∃ elems spare, d = .slice elems spare ∧ elems.length = n := by
  obtain ⟨fuel, hf⟩ := h
  rcases Deep.open_slice ht hf with ⟨hcs, _⟩ | ⟨ad, len, cap, m, n', D, Pl, hcs, _, _, _, _, hx, _⟩
  · simp [Value.cells] at hcs
    exact .inl hcs.2.1
  · simp [Value.cells] at hcs
    obtain ⟨_, rfl, _⟩ := hcs
    injection hx with hx _
    exact .inr ⟨_, _, hx, by simp⟩
theorem one_cellW {v v' : Value} (h : [v] = [v']) : v = v' := by simpa using h
theorem trod_floatW {P : Program} {spare : Nat → Bool} {t : TypeId} {k : FloatKind} {fuel : Nat} {cs : List Value} {x : DataW H × List MemPlace} (ht : P.underlying t = some (.float k)) (h : DataW.trod enc P w base spare held fuel t cs = some x) : ∃ n, cs = [.float k n] ∧ x = (.lit (.float k n), []) ∧ (Lit.float k n).wf = true := by
  cases fuel with
  | zero => simp [DataW.trod] at h
  | succ n =>
    unfold DataW.trod at h
    rw [ht] at h
    split at h <;> simp_all
theorem wts_all {e : TypeId} {D : Nat → DataW H} (n : Nat) {i : Nat} (hi : i < n) : ∀ k ∈ (D i).weights Try.prog e, k ∈ DataW.weightsAll Try.prog e ((List.range n).map D) := by
  have gen : ∀ (l : List (DataW H)) (x : DataW H), x ∈ l → ∀ k ∈ x.weights Try.prog e, k ∈ DataW.weightsAll Try.prog e l := by
    intro l
    induction l with
    | nil => intro x hx; cases hx
    | cons y l ih =>
      intro x hx k hk
      simp only [DataW.weightsAll, List.mem_append]
      rcases List.mem_cons.1 hx with rfl | hx
      · exact .inl hk
      · exact .inr (ih x hx k hk)
  intro k hk
  exact gen _ _ (List.mem_map.2 ⟨i, by simpa using hi, rfl⟩) k hk
theorem fit_elem {e t : TypeId} (ht : Try.prog.underlying t = some (.slice e)) {len : Nat} {D : Nat → DataW H} {rest : List (DataW H)} (hf : FitW t (.slice ((List.range len).map D) rest)) : len * Try.prog.bytesOf e ≤ reachBytes ∧ ∀ k, k < len → FitW e (D k) := by
  refine ⟨?_, fun k hk q hq => hf q ?_⟩
  · have := hf ((((List.range len).map D).length + rest.length) * Try.prog.bytesOf e) (by simp [DataW.weights, ht])
    refine Nat.le_trans (Nat.mul_le_mul_right _ ?_) this
    simp
  · simp only [DataW.weights, ht, List.mem_cons, List.mem_append]
    exact .inr (.inl (wts_all len hk q hq))
theorem fit_field {t : TypeId} {fs : Array Field} {xs : List (DataW H × List MemPlace)} (ht : Try.prog.underlying t = some (.struct fs)) (hf : FitW t (.agg (xs.map (·.1)))) {i : Nat} {f : Field} {y : DataW H × List MemPlace} (h1 : fs[i]? = some f) (h2 : xs[i]? = some y) : FitW f.type y.1 := fun q hq => hf q (by
  simp only [DataW.weights, ht]
  exact DataW.weights_mem_each (j := i) (t := f.type) (d := y.1) (by rw [List.getElem?_map, Array.getElem?_toList, h1]; rfl) (by rw [List.getElem?_map, h2]; rfl) q hq)
theorem fit_str {t : TypeId} {s : ByteArray} (hf : FitW (H := H) t (.lit (.string s.data.toList))) : s.size ≤ 140737488351232 := by
  have := hf s.data.toList.length (by simp [DataW.weights])
  simpa [reachBytes] using this
theorem wf_in {n : Int} (h : (Lit.int .i64 n).wf = true) : In64 n := by
  unfold In64
  simpa [Lit.wf, IntKind.min, IntKind.max, IntKind.signed, IntKind.bits] using h
theorem trod_strsW {fuel : Nat} {x : DataW H × List MemPlace} (h : DataW.trod enc Try.prog w base (fun _ => true) held fuel 39 [v] = some x) : ∃ (A : Option Addr) (l : List ByteArray) (c : Nat), v = .slice A l.length c ∧ Row .string w A l ∧ (FitW 39 x.1 → l.length ≤ 140737488351232 ∧ ∀ s ∈ l, s.size ≤ 140737488351232) := by
  have ce : Try.prog.cellsOf 9 = 1 := by kernel_rfl
  have be : Try.prog.bytesOf 9 = 16 := by kernel_rfl
  rcases Deep.open_slice1 Try.underlying39 ce h with ⟨hcs, hx⟩ | ⟨ad, len, cap, m, n, V, D, Pl, hcs, _, hl, hm, hmm, hxx, hx⟩
  · injection hcs with hcs
    exact ⟨none, [], 0, hcs, fun i hi => absurd hi (by simp), fun _ => ⟨by simp, fun s hs => by cases hs⟩⟩
  · injection hcs with hcs
    simp only [if_true] at hmm
    subst hmm
    have each : ∀ k, k < len → ∃ s : ByteArray, V k = .string s ∧ (FitW 9 (D k) → s.size ≤ 140737488351232) := by
      intro k hk
      obtain ⟨h1, h2⟩ := hx k (by omega)
      obtain ⟨s, e1, e2, e3⟩ := DataW.trod_string Try.underlying9 h2
      refine ⟨s, one_cellW e1, fun hf => ?_⟩
      injection e2 with e2 _
      rw [e2] at hf
      exact fit_str hf
    obtain ⟨f, hf⟩ := Deep.choose_lt each
    refine ⟨some ad, (List.range len).map f, m, by rw [hcs]; simp, fun i hi => ⟨ad, rfl, ?_⟩, fun hft => ?_⟩
    · have hi2 : i < len := by simpa using hi
      have := (hx i (by omega)).1
      rw [this, (hf i hi2).1]; simp
    · rw [hxx] at hft
      have hq := fit_elem Try.underlying39 hft
      rw [be] at hq
      simp only [reachBytes] at hq
      refine ⟨by simp; omega, fun s hs => ?_⟩
      obtain ⟨k, hk, rfl⟩ := List.mem_map.1 hs
      have hk2 : k < len := by simpa using hk
      exact (hf k hk2).2 (hq.2 k hk2)
theorem trod_valW {spare : Nat → Bool} {fuel : Nat} {c0 c1 c2 c3 c4 : Value} {x : DataW H × List MemPlace} (h : DataW.trod enc Try.prog w base spare held fuel 53 [c0, c1, c2, c3, c4] = some x) : ∃ v : V, c0 = .int .i64 v.k ∧ c1 = .bool v.b ∧ c2 = .int .i64 v.n ∧ c3 = .float .f64 v.f ∧ c4 = .string v.t ∧ In64 v.n ∧ v.f < 2 * S ∧ (FitW 53 x.1 → v.t.size ≤ 140737488351232) := by
  obtain ⟨xs, n, _, hx, _, hlen, hg⟩ := DataW.trod_struct Try.underlying53 h
  match xs, hlen, hx, hg with
  | [y0, y1, y2, y3, y4], _, hx, hg =>
    have g0 := hg 0 _ rfl
    have g1 := hg 1 _ rfl
    have g2 := hg 2 _ rfl
    have g3 := hg 3 _ rfl
    have g4 := hg 4 _ rfl
    have e0 : Try.prog.cellsOf 3 = 1 := by kernel_rfl
    have e1 : Try.prog.cellsOf 4 = 1 := by kernel_rfl
    have e2 : Try.prog.cellsOf 43 = 1 := by kernel_rfl
    have e3 : Try.prog.cellsOf 9 = 1 := by kernel_rfl
    simp [e0] at g0
    simp [e1] at g1
    simp [e0] at g2
    simp [e2] at g3
    simp [e3] at g4
    obtain ⟨a0, e0, _, w0⟩ := DataW.trod_int Try.underlying3 g0
    obtain ⟨a1, e1, _⟩ := DataW.trod_bool Try.underlying4 g1
    obtain ⟨a2, e2, _, w2⟩ := DataW.trod_int Try.underlying3 g2
    obtain ⟨a3, e3, _, w3⟩ := trod_floatW Try.underlying43 g3
    obtain ⟨a4, e4, y4e, w4⟩ := DataW.trod_string Try.underlying9 g4
    obtain rfl := one_cellW e0
    obtain rfl := one_cellW e1
    obtain rfl := one_cellW e2
    obtain rfl := one_cellW e3
    obtain rfl := one_cellW e4
    refine ⟨⟨a0, a1, a2, a3, a4⟩, rfl, rfl, rfl, rfl, rfl, wf_in w2, ?_, fun hf => ?_⟩
    · have : a3 < 2 ^ 64 := by simpa [Lit.wf] using w3
      show a3 < 2 * S
      unfold S; omega
    · rw [hx] at hf
      have := fit_field Try.underlying53 hf (i := 4) (y := y4) rfl rfl
      rw [y4e] at this
      exact fit_str this
theorem trod_propW {spare : Nat → Bool} {fuel : Nat} {c0 c1 c2 c3 c4 c5 : Value} {x : DataW H × List MemPlace} (h : DataW.trod enc Try.prog w base spare held fuel 55 [c0, c1, c2, c3, c4, c5] = some x) : ∃ q : Pr, c0 = .string q.k ∧ c1 = .int .i64 q.v.k ∧ c2 = .bool q.v.b ∧ c3 = .int .i64 q.v.n ∧ c4 = .float .f64 q.v.f ∧ c5 = .string q.v.t ∧ In64 q.v.n ∧ q.v.f < 2 * S ∧ (FitW 55 x.1 → q.k.size ≤ 140737488351232 ∧ q.v.t.size ≤ 140737488351232) := by
  obtain ⟨xs, n, _, hx, _, hlen, hg⟩ := DataW.trod_struct Try.underlying55 h
  match xs, hlen, hx, hg with
  | [y0, y1], _, hx, hg =>
    have g0 := hg 0 _ rfl
    have g1 := hg 1 _ rfl
    have e0 : Try.prog.cellsOf 9 = 1 := by kernel_rfl
    have e1 : Try.prog.cellsOf 53 = 5 := by kernel_rfl
    simp [e0] at g0
    simp [e1] at g1
    obtain ⟨a0, q0, y0e, w0⟩ := DataW.trod_string Try.underlying9 g0
    obtain rfl := one_cellW q0
    obtain ⟨v, rfl, rfl, rfl, rfl, rfl, h1, h2, h3⟩ := trod_valW g1
    refine ⟨⟨a0, v⟩, rfl, rfl, rfl, rfl, rfl, rfl, h1, h2, fun hf => ?_⟩
    rw [hx] at hf
    have f0 := fit_field Try.underlying55 hf (i := 0) (y := y0) rfl rfl
    have f1 := fit_field Try.underlying55 hf (i := 1) (y := y1) rfl rfl
    rw [y0e] at f0
    exact ⟨fit_str f0, h3 f1⟩
theorem trod_propsW {fuel : Nat} {x : DataW H × List MemPlace} (h : DataW.trod enc Try.prog w base (fun _ => true) held fuel 40 [v] = some x) : ∃ (A : Option Addr) (l : List Pr) (c : Nat), v = .slice A l.length c ∧ PRow w A l ∧ (∀ q ∈ l, In64 q.v.n ∧ q.v.f < 2 * S) ∧ (FitW 40 x.1 → l.length ≤ 140737488351232 ∧ ∀ q ∈ l, q.k.size ≤ 140737488351232 ∧ q.v.t.size ≤ 140737488351232) := by
  have ce : Try.prog.cellsOf 55 = 6 := by kernel_rfl
  have be : 1 ≤ Try.prog.bytesOf 55 := of_decide_eq_true (by kernel_rfl)
  rcases Deep.open_slice Try.underlying40 h with ⟨hcs, hx⟩ | ⟨ad, len, cap, m, n, D, Pl, hcs, _, hl, hm, hmm, hxx, hx⟩
  · injection hcs with hcs
    exact ⟨none, [], 0, hcs, fun i hi => absurd hi (by simp), (fun q hq => by cases hq), fun _ => ⟨by simp, fun s hs => by cases hs⟩⟩
  · injection hcs with hcs
    simp only [if_true] at hmm
    subst hmm
    have each : ∀ k, k < len → ∃ q : Pr, PAt w (ad.add (k * 6)) q ∧ In64 q.v.n ∧ q.v.f < 2 * S ∧ (FitW 55 (D k) → q.k.size ≤ 140737488351232 ∧ q.v.t.size ≤ 140737488351232) := by
      intro k hk
      obtain ⟨cs', h1, h2⟩ := hx k (by omega)
      rw [ce] at h1
      obtain ⟨_, hlen, hcell⟩ := World.cells?_some h1
      match cs', hlen with
      | [v0, v1, v2, v3, v4, v5], _ =>
        obtain ⟨q, rfl, rfl, rfl, rfl, rfl, rfl, q1, q2, q3⟩ := trod_propW h2
        have c0 := hcell 0 (by omega)
        have c1 := hcell 1 (by omega)
        have c2 := hcell 2 (by omega)
        have c3 := hcell 3 (by omega)
        have c4 := hcell 4 (by omega)
        have c5 := hcell 5 (by omega)
        rw [Addr.add_zero'] at c0
        rw [addr_pos _ _ (by decide)] at c1 c2 c3 c4 c5
        exact ⟨q, ⟨by simpa using c0, by simpa using c1, by simpa using c2, by simpa using c3, by simpa using c4, by simpa using c5⟩, q1, q2, q3⟩
    obtain ⟨f, hf⟩ := Deep.choose_lt each
    refine ⟨some ad, (List.range len).map f, m, by rw [hcs]; simp, fun i hi => ⟨ad, _, rfl, rfl, ?_⟩, fun q hq => ?_, fun hft => ?_⟩
    · have hi2 : i < len := by simpa using hi
      simpa using (hf i hi2).1
    · obtain ⟨k, hk, rfl⟩ := List.mem_map.1 hq
      have := hf k (by simpa using hk)
      exact ⟨this.2.1, this.2.2.1⟩
    · rw [hxx] at hft
      have hq := fit_elem Try.underlying40 hft
      simp only [reachBytes] at hq
      have hle := Nat.le_trans (Nat.le_mul_of_pos_right len be) hq.1
      refine ⟨by simp; omega, fun s hs => ?_⟩
      obtain ⟨k, hk, rfl⟩ := List.mem_map.1 hs
      have hk2 : k < len := by simpa using hk
      exact (hf k hk2).2.2.2 (hq.2 k hk2)
theorem trod_nodeW {fuel : Nat} {c0 c1 : Value} {x : DataW H × List MemPlace} (h : DataW.trod enc Try.prog w base (fun _ => true) held fuel 42 [c0, c1] = some x) : ∃ (n : Nd) (s : Ns), c0 = .slice s.la n.ls.length s.lc ∧ c1 = .slice s.pa n.ps.length s.pc ∧ NdAt w n s ∧ NdIn n ∧ (FitW 42 x.1 → n.ls.length ≤ 140737488351232 ∧ n.ps.length ≤ 140737488351232 ∧ (∀ y, y ∈ n.ls → y.size ≤ 140737488351232) ∧ ∀ q, q ∈ n.ps → q.k.size ≤ 140737488351232 ∧ q.v.t.size ≤ 140737488351232) := by
  obtain ⟨xs, n, _, hx, _, hlen, hg⟩ := DataW.trod_struct Try.underlying42 h
  match xs, hlen, hx, hg with
  | [y0, y1], _, hx, hg =>
    have g0 := hg 0 _ rfl
    have g1 := hg 1 _ rfl
    have e0 : Try.prog.cellsOf 39 = 1 := by kernel_rfl
    have e1 : Try.prog.cellsOf 40 = 1 := by kernel_rfl
    simp [e0] at g0
    simp [e1] at g1
    obtain ⟨A, ls, c, rfl, r1, f1⟩ := trod_strsW g0
    obtain ⟨B, ps, c2, rfl, r2, i2, f2⟩ := trod_propsW g1
    refine ⟨⟨ls, ps⟩, ⟨A, c, B, c2⟩, rfl, rfl, ⟨r1, r2⟩, i2, fun hf => ?_⟩
    rw [hx] at hf
    have q1 := f1 (fit_field Try.underlying42 hf (i := 0) (y := y0) rfl rfl)
    have q2 := f2 (fit_field Try.underlying42 hf (i := 1) (y := y1) rfl rfl)
    exact ⟨q1.1, q2.1, q1.2, q2.2⟩
theorem trod_edgeW {spare : Nat → Bool} {fuel : Nat} {c0 c1 c2 c3 : Value} {x : DataW H × List MemPlace} (h : DataW.trod enc Try.prog w base spare held fuel 45 [c0, c1, c2, c3] = some x) : ∃ g : Eg, c0 = .int .i64 g.a ∧ c1 = .int .i64 g.b ∧ c2 = .string g.t ∧ c3 = .float .f64 g.w ∧ In64 g.a ∧ In64 g.b ∧ g.w < 2 * S ∧ (FitW 45 x.1 → g.t.size ≤ 140737488351232) := by
  obtain ⟨xs, n, _, hx, _, hlen, hg⟩ := DataW.trod_struct Try.underlying45 h
  match xs, hlen, hx, hg with
  | [y0, y1, y2, y3], _, hx, hg =>
    have g0 := hg 0 _ rfl
    have g1 := hg 1 _ rfl
    have g2 := hg 2 _ rfl
    have g3 := hg 3 _ rfl
    have e0 : Try.prog.cellsOf 3 = 1 := by kernel_rfl
    have e2 : Try.prog.cellsOf 43 = 1 := by kernel_rfl
    have e3 : Try.prog.cellsOf 9 = 1 := by kernel_rfl
    simp [e0] at g0
    simp [e0] at g1
    simp [e3] at g2
    simp [e2] at g3
    obtain ⟨a0, q0, _, w0⟩ := DataW.trod_int Try.underlying3 g0
    obtain ⟨a1, q1, _, w1⟩ := DataW.trod_int Try.underlying3 g1
    obtain ⟨a2, q2, y2e, w2⟩ := DataW.trod_string Try.underlying9 g2
    obtain ⟨a3, q3, _, w3⟩ := trod_floatW Try.underlying43 g3
    obtain rfl := one_cellW q0
    obtain rfl := one_cellW q1
    obtain rfl := one_cellW q2
    obtain rfl := one_cellW q3
    refine ⟨⟨a0, a1, a2, a3⟩, rfl, rfl, rfl, rfl, wf_in w0, wf_in w1, ?_, fun hf => ?_⟩
    · have : a3 < 2 ^ 64 := by simpa [Lit.wf] using w3
      show a3 < 2 * S
      unfold S; omega
    · rw [hx] at hf
      have := fit_field Try.underlying45 hf (i := 2) (y := y2) rfl rfl
      rw [y2e] at this
      exact fit_str this
theorem trod_writeW {fuel : Nat} {c0 c1 c2 c3 c4 c5 c6 c7 c8 : Value} {x : DataW H × List MemPlace} (h : DataW.trod enc Try.prog w base (fun _ => true) held fuel 47 [c0, c1, c2, c3, c4, c5, c6, c7, c8] = some x) : ∃ (y : Wr) (s : Ns), c0 = .bool y.e ∧ c1 = .int .i64 y.id ∧ c2 = .bool y.gone ∧ c3 = .slice s.la y.n.ls.length s.lc ∧ c4 = .slice s.pa y.n.ps.length s.pc ∧ c5 = .int .i64 y.g.a ∧ c6 = .int .i64 y.g.b ∧ c7 = .string y.g.t ∧ c8 = .float .f64 y.g.w ∧ NdAt w y.n s ∧ WrIn y ∧ (FitW 47 x.1 → WSz 140737488351232 y) := by
  obtain ⟨xs, n, _, hx, _, hlen, hg⟩ := DataW.trod_struct Try.underlying47 h
  match xs, hlen, hx, hg with
  | [y0, y1, y2, y3, y4], _, hx, hg =>
    have g0 := hg 0 _ rfl
    have g1 := hg 1 _ rfl
    have g2 := hg 2 _ rfl
    have g3 := hg 3 _ rfl
    have g4 := hg 4 _ rfl
    have e0 : Try.prog.cellsOf 3 = 1 := by kernel_rfl
    have e1 : Try.prog.cellsOf 4 = 1 := by kernel_rfl
    have e2 : Try.prog.cellsOf 42 = 2 := by kernel_rfl
    have e3 : Try.prog.cellsOf 45 = 4 := by kernel_rfl
    simp [e1] at g0
    simp [e0] at g1
    simp [e1] at g2
    simp [e2] at g3
    simp [e3] at g4
    obtain ⟨a0, q0, _⟩ := DataW.trod_bool Try.underlying4 g0
    obtain ⟨a1, q1, _, w1⟩ := DataW.trod_int Try.underlying3 g1
    obtain ⟨a2, q2, _⟩ := DataW.trod_bool Try.underlying4 g2
    obtain rfl := one_cellW q0
    obtain rfl := one_cellW q1
    obtain rfl := one_cellW q2
    obtain ⟨nd, s, rfl, rfl, h1, h2, h3⟩ := trod_nodeW g3
    obtain ⟨g, rfl, rfl, rfl, rfl, k1, k2, k3, k4⟩ := trod_edgeW g4
    refine ⟨⟨a0, a1, a2, nd, g⟩, s, rfl, rfl, rfl, rfl, rfl, rfl, rfl, rfl, rfl, h1, ⟨h2, wf_in w1, k1, k2, k3⟩, fun hf => ?_⟩
    rw [hx] at hf
    obtain ⟨z1, z2, z3, z4⟩ := h3 (fit_field Try.underlying47 hf (i := 3) (y := y3) rfl rfl)
    exact ⟨k4 (fit_field Try.underlying47 hf (i := 4) (y := y4) rfl rfl), z1, z2, z3, z4⟩
theorem open_writes (hv : Value.okWide Try.prog w r b0 22 v) (h : DataW.Trod enc Try.prog w base (fun _ => true) held 22 v d p) : ∃ s : Sl (Wr × Ns), v = slv s ∧ SlW w s ∧ (FitW 22 d → SzW s.l) ∧ True := by
  obtain ⟨a0, len0, cap0, rfl⟩ := okWide_slice Try.underlying22 hv
  obtain ⟨fuel, hf⟩ := h
  have ce : Try.prog.cellsOf 47 = 9 := by kernel_rfl
  have be : 1 ≤ Try.prog.bytesOf 47 := of_decide_eq_true (by kernel_rfl)
  rcases Deep.open_slice Try.underlying22 hf with ⟨hcs, _⟩ | ⟨ad, len, cap, m, n, D, Pl, hcs, _, hl, hm, hmm, hxx, hx⟩
  · simp [Value.cells] at hcs
    obtain ⟨rfl, rfl, rfl⟩ := hcs
    exact ⟨⟨none, [], 0⟩, rfl, ⟨fun i hi => absurd hi (by simp), (fun x hx => by cases hx)⟩, fun _ => ⟨by simp, (fun x hx => by cases hx)⟩, trivial⟩
  · simp [Value.cells] at hcs
    obtain ⟨rfl, rfl, rfl⟩ := hcs
    simp only [if_true] at hmm
    subst hmm
    injection hxx with hxx _
    have each : ∀ k, k < len0 → ∃ x : Wr × Ns, (WAt w (ad.add (k * 9)) x.1 x.2 ∧ NdAt w x.1.n x.2) ∧ WrIn x.1 ∧ (FitW 47 (D k) → WSz 140737488351232 x.1) := by
      intro k hk
      obtain ⟨cs', h1, h2⟩ := hx k (by omega)
      rw [ce] at h1
      obtain ⟨_, hlen, hcell⟩ := World.cells?_some h1
      match cs', hlen with
      | [v0, v1, v2, v3, v4, v5, v6, v7, v8], _ =>
        obtain ⟨y, s, rfl, rfl, rfl, rfl, rfl, rfl, rfl, rfl, rfl, q1, q2, q3⟩ := trod_writeW h2
        have c0 := hcell 0 (by omega)
        have c1 := hcell 1 (by omega)
        have c2 := hcell 2 (by omega)
        have c3 := hcell 3 (by omega)
        have c4 := hcell 4 (by omega)
        have c5 := hcell 5 (by omega)
        have c6 := hcell 6 (by omega)
        have c7 := hcell 7 (by omega)
        have c8 := hcell 8 (by omega)
        rw [Addr.add_zero'] at c0
        rw [addr_pos _ _ (by decide)] at c1 c2 c3 c4 c5 c6 c7 c8
        exact ⟨(y, s), ⟨⟨by simpa using c0, by simpa using c1, by simpa using c2, by simpa using c3, by simpa using c4, by simpa using c5, by simpa using c6, by simpa using c7, by simpa using c8⟩, q1⟩, q2, q3⟩
    obtain ⟨f, hf⟩ := Deep.choose_lt each
    refine ⟨⟨some ad, (List.range len0).map f, m⟩, by simp [slv], ⟨fun i hi => ⟨ad, _, rfl, rfl, ?_⟩, fun x hx => ?_⟩, fun hft => ?_, trivial⟩
    · have hi2 : i < len0 := by simpa using hi
      simpa using (hf i hi2).1
    · obtain ⟨k, hk, rfl⟩ := List.mem_map.1 hx
      exact (hf k (by simpa using hk)).2.1
    · rw [hxx] at hft
      have hq := fit_elem Try.underlying22 hft
      simp only [reachBytes] at hq
      have hle := Nat.le_trans (Nat.le_mul_of_pos_right len0 be) hq.1
      refine ⟨by simp; omega, fun s hs => ?_⟩
      obtain ⟨k, hk, rfl⟩ := List.mem_map.1 hs
      have hk2 : k < len0 := by simpa using hk
      exact (hf k hk2).2.2 (hq.2 k hk2)
end
end Go.Proofs.Ytcpgpdkdopcicaa
