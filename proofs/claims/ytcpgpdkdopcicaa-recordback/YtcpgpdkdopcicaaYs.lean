/- The reference's SameWrites of chapter 10 at equal rows of writes. Conditions: words of float64 are below 2^64; the rows lie in memory, fewer than 1,000,000 long. -/
import Derived.Test.YtcpgpdkdopcicaaYf
import Derived.Test.YtcpgpdkdopcicaaYi
namespace Go.Proofs.Ytcpgpdkdopcicaa
set_option maxRecDepth 100000
set_option linter.unusedVariables false
open Go.ChangeShapes Go.WideShapes Go.ChangeAt Go.RowKit
open Fl (S cmpK keyN)
open Val (V cmpV isB ltT)
/-- A write whose numbers are words, and whose rows are of the size that is looked at. -/
structure WFine (x : Wr) : Prop where
  n : NdOk x.n
  f : ∀ y, y ∈ x.n.ps → y.v.f < 2 * S
  w : x.g.w < 2 * S
set_option maxHeartbeats 4000000 in
theorem rsamewrites_any (A C : Option Addr) (c c2 : Nat) (L L2 : List (Wr × Ns)) (w : World) (h : WRow w A L) (h2 : WRow w C L2) (he : L2.map (·.1) = L.map (·.1)) (ho : ∀ x, x ∈ L → WFine x.1) (hl : L.length ≤ 1000000) : Calls Try.prog 15 #[.slice A L.length c, .slice C L2.length c2] w fun r w' => r = .returned (.bool true) ∧ Below w.heap.size w w' := by
  have hll : L2.length = L.length := by have := congrArg List.length he; simpa using this
  have HX := Lib.hid (show ∀ k (hk : k < L.length) (hk2 : k < L2.length), L2[k].1 = L[k].1 from fun k hk hk2 => by
    have h1 : (L2.map (·.1))[k]'(by rw [List.length_map]; exact hk2) = (L.map (·.1))[k]'(by rw [List.length_map]; exact hk) := by simp only [he]
    simpa using h1)
  rw [hll]
  have H1 := Lib.hid h
  have H2 := Lib.hid h2
  have HO := Lib.hid ho
  have HLL := Lib.hid hll
  clear h h2 he ho hll
  go_enter Try.func15, Try.ntmps15
  go_wp2
  go_loopw [5] (fun i wr => ∃ k : Nat, k ≤ L.length ∧ i = .int .i64 (k : Nat) ∧ Hid (Below w.heap.size w wr)) (fun i _ => L.length - (intOf i).toNat)
  case atStart => exact ⟨0, Nat.zero_le _, rfl, Below.refl _ _⟩
  case round =>
    obtain ⟨k, hk, rfl, HB⟩ := hrel
    by_cases hlt : k < L.length
    · have hlt2 : k < L2.length := by rw [HLL.out]; exact hlt
      obtain ⟨ad, pk, e1, hp, hx, hn⟩ := (H1.out.below HB.out) k hlt
      obtain ⟨ad2, qk, e2, hq, hx2, hn2⟩ := (H2.out.below HB.out) k hlt2
      have hxe := HX.out k hlt hlt2
      have hok := HO.out _ (List.getElem_mem hlt)
      subst e1
      subst e2
      have hi5 : IntKind.i64.wrap (k : Int) = (k : Int) := wrap_small (show k ≤ 9223372036854775807 by omega)
      have hi0 : (0 : Int) ≤ (k : Int) := by omega
      generalize L[k] = y at *
      generalize L2[k] = z at *
      obtain ⟨x, s⟩ := y
      obtain ⟨x2, s2⟩ := z
      obtain rfl : x2 = x := hxe
      have HSE := Lib.hid (fun W => rsameedge_any x2.g hok.w W)
      have HSN : Hid (∀ d os, Calls Try.prog 44 #[ndv x2.n s, ndv x2.n s2] (Sort.grow (redrawn wr d) os) fun e w'' => e = .returned (.bool true) ∧ ∃ p : Regrown, w'' = Sort.grow (redrawn wr p.d) p.os) := fun d os => Calls.regrown_of (rsame_any x2.n s s2 _ (hn.below (below_regrown wr d os)) (hn2.below (below_regrown wr d os)) hok.n hok.f)
      have HSS := Lib.hid (fun W (hg : Below wr.heap.size wr W) => And.intro (hx.below hg) (hx2.below hg))
      clear hx hx2 hn hn2 hok HO HX
      obtain ⟨xe, xid, xg, ⟨xls, xps⟩, ⟨xa, xb, xt, xw⟩⟩ := x2
      obtain ⟨sA, sc, sB, sc2⟩ := s
      obtain ⟨tA, tc, tB, tc2⟩ := s2
      cases xe <;> cases xg
      all_goals
        go_upto_region 7 with fail
        have g0 := fun d os => (HSS.out _ (below_regrown wr d os)).1.c0
        have g1 := fun d os => (HSS.out _ (below_regrown wr d os)).1.c1
        have g2 := fun d os => (HSS.out _ (below_regrown wr d os)).1.c2
        have g3 := fun d os => (HSS.out _ (below_regrown wr d os)).1.c3
        have g4 := fun d os => (HSS.out _ (below_regrown wr d os)).1.c4
        have g5 := fun d os => (HSS.out _ (below_regrown wr d os)).1.c5
        have g6 := fun d os => (HSS.out _ (below_regrown wr d os)).1.c6
        have g7 := fun d os => (HSS.out _ (below_regrown wr d os)).1.c7
        have g8 := fun d os => (HSS.out _ (below_regrown wr d os)).1.c8
        have k0 := fun d os => (HSS.out _ (below_regrown wr d os)).2.c0
        have k1 := fun d os => (HSS.out _ (below_regrown wr d os)).2.c1
        have k2 := fun d os => (HSS.out _ (below_regrown wr d os)).2.c2
        have k3 := fun d os => (HSS.out _ (below_regrown wr d os)).2.c3
        have k4 := fun d os => (HSS.out _ (below_regrown wr d os)).2.c4
        have k5 := fun d os => (HSS.out _ (below_regrown wr d os)).2.c5
        have k6 := fun d os => (HSS.out _ (below_regrown wr d os)).2.c6
        have k7 := fun d os => (HSS.out _ (below_regrown wr d os)).2.c7
        have k8 := fun d os => (HSS.out _ (below_regrown wr d os)).2.c8
        simp only at g0 g1 g2 g3 g4 g5 g6 g7 g8 k0 k1 k2 k3 k4 k5 k6 k7 k8
        refine wp_region_quiet_below (by kernel_rfl) (by kernel_rfl) ?_
        repeat (go_big_quiet_step (first | (go_at_call 44; with_reducible exact HSN.out _ _) | (go_at_call 45; with_reducible exact Calls.regrown_of (HSE.out _))))
        refine wpQuiet_nil ?_
        intro _ hw'
        obtain ⟨⟨dq, osq⟩, hw''⟩ := hw'
        subst hw''
        have HB2 := Lib.hid (HB.out.trans ((below_regrown wr dq osq).mono HB.out.size))
        clear g0 g1 g2 g3 g4 g5 g6 g7 g8 k0 k1 k2 k3 k4 k5 k6 k7 k8 hi5
        go_wp2
        exact ⟨⟨k + 1, by omega, by go_num, HB2.out⟩, by simp [intOf]; omega⟩
    · have hkl : ¬ k < L.length := hlt
      go_wp2
      go_ret
      exact ⟨rfl, HB.out⟩
end Go.Proofs.Ytcpgpdkdopcicaa
