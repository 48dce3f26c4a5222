/- The program's Decode of chapter 10: its contract. Conditions: the bytes lie in memory, at most 1,000,000 of them. -/
import Derived.Test.YtcpgpdkdopcicaaZz
import Derived.Test.YtcpgpdkdopcicaaZq
namespace Go.Proofs.Ytcpgpdkdopcicaa
set_option maxRecDepth 100000
set_option linter.unusedVariables false
open Go.ChangeShapes Go.WideShapes Go.ChangeAt Go.RowKit
open Fl (S cmpK keyN normN)
open Val (V cmpV isB ltT)
open Lb
theorem NdN.app {B m : Nat} {W W' : World} {n : Nd} {s : Ns} {v : Value} {xs : List Value} (h : NdN B W n s) (hr : W.ownsRow 0 47 9 v m xs) (hg : W.grownBy W' v.ownBlock) : NdN B W' n s := by
  cases hv : v.ownBlock with
  | none => rw [hv] at hg; exact ⟨h.l.kept hg (fun k hk e => by cases e), h.p.kept hg (fun k hk e => by cases e)⟩
  | some k =>
    obtain ⟨cur, hc⟩ := own_type hr hv
    rw [hv] at hg
    exact h.kept hg hc
/-- While writes are decoded. -/
structure DI (w : World) (B r a : Nat) (g : Option Nat) (q : Option (List UInt8)) (L : List (Wr × Ns)) (v : Value) (W : World) : Prop where
  rs : RS B r a g q W
  ro : RO 47 9 B W v L.length (wcs L)
  nd : ∀ x ∈ L, NdN B W x.1.n x.2
  b : Below w.heap.size w W
section
variable {w W W' : World} {B r a : Nat} {g : Option Nat} {q q' : Option (List UInt8)} {L : List (Wr × Ns)} {v v' : Value}
theorem below_chg (h : Below w.heap.size w W) (hr : w.heap.size ≤ r) (ha : w.heap.size ≤ a) (hc : Chg (F2 r a) W W') : Below w.heap.size w W' :=
  Chg.of_below h hc (fun k hk => by rcases hk with rfl | rfl <;> assumption)
theorem DI.below (h : DI w B r a g q L v W) (hb : Below W.heap.size W W') : DI w B r a g q L v W' := ⟨h.rs.below hb, h.ro.below hb, fun x hx => (h.nd x hx).below hb, bnext h.b hb⟩
theorem DI.read (h : DI w B r a g q L v W) (hr : w.heap.size ≤ r) (ha : w.heap.size ≤ a) (hs : RS B r a g q' W') (hc : Chg (F2 r a) W W') : DI w B r a g q' L v W' :=
  ⟨hs, h.ro.chg (Nat.le_refl _) h.rs hc, fun x hx => (h.nd x hx).chg h.rs hc, below_chg h.b hr ha hc⟩
theorem DI.add {x : Wr} {s : Ns} (h : DI w B r a g q L v W) (hB : w.heap.size ≤ B) (hx : NdN B W x.n s) (ho : W'.ownsRow 0 47 9 v' (L.length + 1) (wcs L ++ (wrc x s).toList)) (hg : W.grownBy W' v.ownBlock) (hv : v'.ownBlock = v.ownBlock ∨ v'.ownBlock = some W.heap.size) : DI w B r a g q (L ++ [(x, s)]) v' W' := by
  refine ⟨h.rs.grown hg (fun k e => h.ro.n k e), ?_, fun y hy => ?_, h.b.grown hg h.b.size (fun k e => by have := h.ro.n k e; omega)⟩
  · have := h.ro.next h.rs.size ho hv
    rw [wcs_snoc]
    simpa using this
  · rcases List.mem_append.1 hy with hy | hy
    · exact (h.nd y hy).app h.ro.r hg
    · rw [List.mem_singleton.1 hy]; exact hx.app h.ro.r hg
end
/-- What Decode returns. -/
def DecP (l : List UInt8) (e : Ending) (w' : World) : Prop :=
  match decB true l with
  | some x => ∃ A c L, e = .returned (.tuple #[.int .i64 x.1, .int .i64 x.2.1, .slice A L.length c, .int .i64 0]) ∧ L.map (·.1) = x.2.2 ∧ WRow w' A L
  | none => e = .returned (.tuple #[.int .i64 0, .int .i64 0, .slice none 0 0, .int .i64 2])
theorem DecP.none {l : List UInt8} {w' : World} (h : decB true l = .none) : DecP l (.returned (.tuple #[.int .i64 0, .int .i64 0, .slice .none 0 0, .int .i64 2])) w' := by
  unfold DecP; rw [h]
theorem pA_none {s : Bool} {l : List UInt8} (h : nx (pA s) (some l) = none) : decB true l = none := by
  rw [← decB_any l s]
  unfold decB
  cases hp : pA s l with
  | none => rfl
  | some y =>
    unfold nx at h
    simp only [Option.bind_some, hp, Option.map_some] at h
    cases h
theorem pA_some {s : Bool} {l r : List UInt8} {x : Int × Int × List Wr} (h : nx (pA s) (some l) = some r) (hi : Is (pA s) (some l) x) : pA s l = some (x, r) := by
  cases hp : pA s l with
  | none => unfold nx at h; simp only [Option.bind_some, hp, Option.map_none] at h; cases h
  | some y =>
    obtain ⟨y, r2⟩ := y
    unfold nx at h
    unfold Is rs at hi
    simp only [Option.bind_some, hp, Option.map_some] at h hi
    injection h with h
    rw [h, hi y rfl]
theorem dec_more {s : Bool} {l r : List UInt8} {x : Int × Int × List Wr} (h : pA s l = some (x, r)) (hr : r ≠ []) : decB true l = none := by
  rw [← decB_any l s]
  unfold decB
  rw [h]
  cases r with
  | nil => exact absurd rfl hr
  | cons a b => rfl
theorem dec_end {s : Bool} {l : List UInt8} {x : Int × Int × List Wr} (h : pA s l = some (x, [])) : decB true l = if mayB x.1 x.2.1 x.2.2 then some x else none := by
  rw [← decB_any l s]
  unfold decB
  rw [h]
set_option maxHeartbeats 8000000 in
theorem pdec_any (A : Option Addr) (l : List UInt8) (c : Nat) (w : World) (h : BS w A l c) (hl : l.length ≤ 1000000) : Calls Try.prog 13 #[.slice A l.length c] w fun e w' => DecP l e w' ∧ Below w.heap.size w w' := by
  have HO := Lib.hid (open_any A l c w h hl)
  have HL : Hid (l.length ≤ 1000000) := hl
  clear h hl
  go_enter Try.func13, Try.ntmps13
  go_wp2_with fail
  refine HO.out.mono ?_
  rintro e w1 ⟨a, g, rfl, hcur, hb1, ha, hg⟩
  obtain ⟨W0, hW0⟩ : ∃ W0, W0 = w1.alloc (.cells #[.pointer (some ⟨a, 0, none⟩), .bool false] 74) := ⟨_, rfl⟩
  have hbx : BX W0 w1.heap.size 74 #[.pointer (some ⟨a, 0, none⟩), .bool false] := by rw [hW0]; exact bx_new w1 _ _
  have hal : Below w1.heap.size w1 W0 := by rw [hW0]; exact one_box w1 _
  have hsz : W0.heap.size = w1.heap.size + 1 := by rw [hW0]; simp
  obtain ⟨r, hr⟩ : ∃ r, w1.heap.size = r := ⟨_, rfl⟩
  have ha1 := hcur.1
  have hrs : RS W0.heap.size r a g (some l) W0 := by
    rw [hr] at hbx
    refine ⟨⟨some l, false, hcur.below hal, (hbx.cell 1).trans rfl, rfl, rfl⟩, (hbx.cell 0).trans rfl, hbx.frozen 1, by omega, ?_, by omega, by omega, ?_, Nat.le_refl _⟩
    · intro e
      have := (hg r e.symm).2
      omega
    · intro k e
      have := (hg k e).2
      omega
  have hwr : w.heap.size ≤ r := by rw [← hr]; exact hb1.size
  have hbw : Below w.heap.size w W0 := bnext hb1 hal
  have hd := hrs.below (Below.refl W0.heap.size W0).drew
  have H0 := Lib.hid hd
  have hS0 := hd.c0
  have HBW := Lib.hid (hbw.trans (Below.refl _ _).drew)
  have HWB := Lib.hid hbw.size
  have hx0 := hrs.c0
  clear hcur hb1 hg hbx hal hsz ha1 hd hrs hbw
  go_upto_region 2 with fail
  rw [← hW0]
  clear hW0 hr HO
  generalize hBB : W0.heap.size = B at *
  go_region_held3 (fun W => W.cell? ⟨r, 0, none⟩ = some (.pointer (some ⟨a, 0, none⟩))) (first | with_reducible exact hS0 | with_reducible exact hS1 | with_reducible exact hS2)
    (first
      | (have _ := H1; go_at_call 34; refine (rdI_any H1.out).mono ?_; rintro e w3 ⟨x2, rfl, hR2, hc2, hi2⟩; have hS2 := hR2.c0; have H2 := Lib.hid hR2; have HB2 := Lib.hid (below_chg HB1.out hwr ha hc2); have HI2 := Lib.hid hi2; clear hR2 hc2 hi2)
      | (go_at_call 34; refine (rdI_any H0.out).mono ?_; rintro e w2 ⟨x1, rfl, hR1, hc1, hi1⟩; have hS1 := hR1.c0; have H1 := Lib.hid hR1; have HB1 := Lib.hid (below_chg HBW.out hwr ha hc1); have HI1 := Lib.hid hi1; clear hR1 hc1 hi1))
  have HC := Lib.hid (count_any H2.out 56 (by decide))
  clear hS0 hS1 hS2 hx0 H0 H1 HBW HB1
  go_wp2_with fail
  refine HC.out.mono ?_
  rintro e w4 ⟨n, hn, rfl, hR3, hc3, hi3⟩
  have H3 := Lib.hid hR3
  have HB3 := Lib.hid (below_chg HB2.out hwr ha hc3)
  have HI3 := Lib.hid hi3
  have HM0 := Lib.hid (many_zero (q := nx (pC 56) (nx pI (nx pI (some l)))) (pW false))
  have HD0 : Hid (DI w B r a g (nx (pMany (pW false) 0) (nx (pC 56) (nx pI (nx pI (some l))))) [] (.slice none 0 0) w4) := by
    rw [HM0.out.1]
    exact ⟨H3.out, RO.nil _ _ _ _, (fun x hx => by cases hx), HB3.out⟩
  clear hR3 hc3 hi3 HC H2 H3 HB2 HB3
  go_wp2
  go_loopw [4, 17] (fun v i wr => ∃ (L : List (Wr × Ns)), L.length ≤ n ∧ i = .int .i64 (L.length : Nat) ∧ Hid (DI w B r a g (nx (pMany (pW false) L.length) (nx (pC 56) (nx pI (nx pI (some l))))) L v wr) ∧ Hid (Is (pMany (pW false) L.length) (nx (pC 56) (nx pI (nx pI (some l)))) (L.map (·.1)))) (fun _ i _ => n - (intOf i).toNat)
  case atStart => exact ⟨[], Nat.zero_le _, rfl, HD0.out, HM0.out.2⟩
  case round =>
    obtain ⟨L, hk, rfl, HD, HS⟩ := hrel
    obtain ⟨Av, cv, rfl⟩ := own_slice HD.out.ro.r
    by_cases hlt : L.length < n
    · have HW := Lib.hid (rwrite2_any HD.out.rs)
      go_wp2_with fail
      refine HW.out.mono ?_
      rintro e w5 ⟨x, s, rfl, hR5, hc5, hi5, hn5⟩
      have hd5 := HD.out.read hwr ha hR5 hc5
      have HD5 := Lib.hid (hd5.below (one_box w5 (.cells (wrc x s) 47)))
      have HN5 := Lib.hid ((ndN_mono hn5 HD.out.rs.size).below (one_box w5 (.cells (wrc x s) 47)))
      have HMS := Lib.hid (many_step HS.out hi5)
      have HCN := Lib.hid (new_cells w5 (wrc x s) 47)
      have HLE : Hid (L.length + 1 ≤ 10000) := by simp only [Hid]; omega
      have HZ := Lib.hid (wrc_one x s)
      clear hR5 hc5 hi5 hn5 hd5 HW HD
      go_wp2_with (at_builtin; refine wp_ownL 22 47 _ 9 112 Try.underlying22 infoW rfl (by decide) (by decide) rfl _ _ rfl _ L.length (wcs L) HD5.out.ro.r rfl ⟨w5.heap.size, 0, none⟩ 1 1 (wrc x s).toList rfl rfl HCN.out HZ.out HLE.out ?_)
      intro v6 w6 ho6 hg6 hv6
      obtain ⟨A6, c6, rfl⟩ := own_slice ho6
      have HD6 := Lib.hid (HD5.out.add HWB.out HN5.out ho6 hg6 (by simpa using hv6))
      clear ho6 hg6 hv6 HD5 HN5 HCN
      have HD7 : Hid (DI w B r a g (nx (pMany (pW false) (L ++ [(x, s)]).length) (nx (pC 56) (nx pI (nx pI (some l))))) (L ++ [(x, s)]) (.slice A6 (L.length + 1) c6) w6) := by
        have := HD6.out
        rw [← HMS.out.1] at this
        simp only [Hid]
        simpa using this
      have HS7 : Hid (Is (pMany (pW false) (L ++ [(x, s)]).length) (nx (pC 56) (nx pI (nx pI (some l)))) ((L ++ [(x, s)]).map (·.1))) := by
        have := HMS.out.2
        simp only [Hid]
        simpa using this
      clear HD6 HMS
      go_wp2
      exact ⟨⟨L ++ [(x, s)], by simp; omega, by simp, HD7.out, HS7.out⟩, by simp [intOf]; omega⟩
    · have hend : L.length = n := by omega
      have HQ : Hid (nx (pA false) (some l) = nx (pMany (pW false) L.length) (nx (pC 56) (nx pI (nx pI (some l)))) ∧ Is (pA false) (some l) (x1, x2, L.map (·.1))) := by
        have x3 : Is (pC 56) (nx pI (nx pI (some l))) L.length := by rw [hend]; exact HI3.out
        unfold pA
        exact ⟨by rw [(nx_and HI1.out).1, (nx_and HI2.out).1, (nx_and x3).1, (nx_and HS.out).1, nx_ret], is_and HI1.out (is_and HI2.out (is_and x3 (is_and HS.out is_ret)))⟩
      clear hend
      cases hq : nx (pMany (pW false) L.length) (nx (pC 56) (nx pI (nx pI (some l)))) with
      | none =>
        rw [hq] at HQ HD
        have HNO := Lib.hid (pA_none HQ.out.1)
        obtain ⟨st, bd, d0, d1, d2⟩ := HD.out.rs.cur
        have k0 := HD.out.rs.c0
        cases bd with
        | true =>
          clear hq d2 d0
          go_wp2
          exact bodyPost_ret (v := .tuple #[.int .i64 0, .int .i64 0, .slice none 0 0, .int .i64 2]) (by simp [results, Try.results13, go_sem]) rfl ⟨DecP.none HNO.out, HD.out.b⟩
        | false =>
          obtain rfl : st = none := d2.resolve_right (by decide)
          have HWH := Lib.hid (fun W hW => whole_any a g none W hW)
          have HC0 := Lib.hid d0
          clear hq d2 d0
          go_wp2_with fail
          refine (HWH.out _ HC0.out).mono ?_
          rintro e w7 ⟨rfl, rfl⟩
          go_wp2
          exact bodyPost_ret (v := .tuple #[.int .i64 0, .int .i64 0, .slice none 0 0, .int .i64 2]) (by simp [results, Try.results13, go_sem]) rfl ⟨DecP.none HNO.out, HD.out.b⟩
      | some rest =>
        rw [hq] at HQ HD
        have hpa := pA_some HQ.out.1 HQ.out.2
        obtain ⟨st, bd, d0, d1, d2, rfl⟩ := HD.out.rs.cur
        subst d2
        have k0 := HD.out.rs.c0
        have HWH := Lib.hid (whole_any a g (some rest) wr d0)
        cases rest with
        | cons z zs =>
          have HNO := Lib.hid (dec_more hpa (by simp))
          clear hq d0 hpa
          go_wp2_with fail
          refine HWH.out.mono ?_
          rintro e w7 ⟨rfl, rfl⟩
          go_wp2
          exact bodyPost_ret (v := .tuple #[.int .i64 0, .int .i64 0, .slice none 0 0, .int .i64 2]) (by simp [results, Try.results13, go_sem]) rfl ⟨DecP.none HNO.out, HD.out.b⟩
        | nil =>
          have hrow := wrow_own HD.out.ro.r (fun x hx => (HD.out.nd x hx).at)
          have hok := pA_ok false HL.out hpa
          have hin := pA_in false hpa
          have HMY := Lib.hid (pmay_any x1 x2 Av cv L wr hrow (fun x hx => ⟨hok _ (List.mem_map_of_mem hx), (hin _ (List.mem_map_of_mem hx)).2.2.2.2⟩) (by have := pA_len false hpa; rw [List.length_map] at this; omega))
          have HDE := Lib.hid (dec_end hpa)
          have HRW := Lib.hid hrow
          clear hq d0 hpa hrow hok hin
          cases hm : mayB x1 x2 (L.map (·.1)) with
          | false =>
            rw [hm] at HMY
            have HNO := Lib.hid (show decB true l = none by rw [HDE.out, hm]; rfl)
            clear hm
            go_wp2_with fail
            refine HWH.out.mono ?_
            rintro e w7 ⟨rfl, rfl⟩
            go_wp2_with fail
            refine HMY.out.mono ?_
            rintro e w8 ⟨rfl, hb⟩
            have B8 := Lib.hid (bnext HD.out.b hb)
            clear hb
            go_wp2
            exact bodyPost_ret (v := .tuple #[.int .i64 0, .int .i64 0, .slice none 0 0, .int .i64 2]) (by simp [results, Try.results13, go_sem]) rfl ⟨DecP.none HNO.out, B8.out⟩
          | true =>
            rw [hm] at HMY
            have HYES := Lib.hid (show decB true l = some (x1, x2, L.map (·.1)) by rw [HDE.out, hm]; rfl)
            clear hm
            go_wp2_with fail
            refine HWH.out.mono ?_
            rintro e w7 ⟨rfl, rfl⟩
            go_wp2_with fail
            refine HMY.out.mono ?_
            rintro e w8 ⟨rfl, hb⟩
            have B8 := Lib.hid (bnext HD.out.b hb)
            have HR8 := Lib.hid (HRW.out.below hb)
            clear hb
            go_wp2
            refine bodyPost_ret (v := .tuple #[.int .i64 x1, .int .i64 x2, .slice Av L.length cv, .int .i64 0]) (by simp [results, Try.results13, go_sem]) rfl ⟨?_, B8.out⟩
            unfold DecP
            rw [HYES.out]
            exact ⟨Av, cv, L, rfl, rfl, HR8.out⟩
end Go.Proofs.Ytcpgpdkdopcicaa
