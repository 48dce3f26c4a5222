/- What Range of the reference's Tree returns; Same of the reference at equal rows. Conditions: the Tree lies in memory, its entries are valid, fewer than 900,000. -/
import Derived.Test.YtmbbmgkbhfnchaaUd
namespace Go.Proofs.Ytmbbmgkbhfnchaa
set_option maxRecDepth 100000
set_option linter.unusedVariables false
open Go.ChangeShapes Go.WideShapes Go.ChangeAt Go.RowKit
open Fl (S)
open Val (V cmpV cmpI isB)
/-- At p lies the value x. -/
structure VAt (w : World) (p : Addr) (x : V) : Prop where
  c0 : w.cell? p = some (.int .i64 x.k)
  c1 : w.cell? ⟨p.block, p.off + 1, none⟩ = some (.bool x.b)
  c2 : w.cell? ⟨p.block, p.off + 2, none⟩ = some (.int .i64 x.n)
  c3 : w.cell? ⟨p.block, p.off + 3, none⟩ = some (.float .f64 x.f)
  c4 : w.cell? ⟨p.block, p.off + 4, none⟩ = some (.string x.t)
theorem VAt.below {w w' : World} {p : Addr} {x : V} (h : VAt w p x) (hb : Below w.heap.size w w') : VAt w' p x :=
  ⟨(hb.cell (World.block_lt_of_cell? w _ h.c0)).trans h.c0, (hb.cell (World.block_lt_of_cell? w _ h.c1)).trans h.c1, (hb.cell (World.block_lt_of_cell? w _ h.c2)).trans h.c2, (hb.cell (World.block_lt_of_cell? w _ h.c3)).trans h.c3, (hb.cell (World.block_lt_of_cell? w _ h.c4)).trans h.c4⟩
theorem box_val (w : World) (x : V) : VAt (w.alloc (.cells #[.int .i64 x.k, .bool x.b, .int .i64 x.n, .float .f64 x.f, .string x.t] 32)) ⟨w.heap.size, 0, none⟩ x := by
  have hb := heap_alloc_new w (.cells #[.int .i64 x.k, .bool x.b, .int .i64 x.n, .float .f64 x.f, .string x.t] 32)
  refine ⟨?_, ?_, ?_, ?_, ?_⟩ <;> rw [cell_of_row _ _ _ _ _ _ hb] <;> rfl
theorem rng_take (I : List En) (lo hi : V) (k : Nat) (hk : k < I.length) : rngE (I.take (k + 1)) lo hi = if inV I[k].v lo hi = true then rngE (I.take k) lo hi ++ [I[k]] else rngE (I.take k) lo hi := by
  unfold rngE
  rw [List.take_add_one, List.getElem?_eq_getElem hk, Option.toList_some, List.filter_append]
  by_cases e : inV I[k].v lo hi = true
  · rw [if_pos e]
    unfold inV at e
    rw [List.filter_cons, if_pos e]; rfl
  · rw [if_neg e]
    unfold inV at e
    rw [List.filter_cons, if_neg e]; simp
theorem rng_len (I : List En) (lo hi : V) : (rngE I lo hi).length ≤ I.length := List.length_filter_le _ _
section
variable {F : Nat → Prop} {w w' : World} {a : Nat} {I : List En}
set_option maxHeartbeats 2000000 in
theorem rrange_any (h : TC F w a I) (lo hi : V) (hlo : lo.f < 2 * S) (hhi : hi.f < 2 * S) (hl : I.length ≤ 900000) :
    Calls Try.prog 23 #[.pointer (some ⟨a, 0, none⟩), vv lo, vv hi] w fun e w' => ∃ v, e = .returned v ∧ RE w.heap.size w' v (rngE I lo hi) ∧ Below w.heap.size w w' := by
  obtain ⟨v1, h⟩ := h
  have HM := Lib.hid h
  have hbig := h.big
  obtain ⟨A, cp, rfl⟩ := own_slice h.r1
  have hb1 := (Below.refl w.heap.size w).alloc (Nat.le_refl _) (.cells #[.int .i64 lo.k, .bool lo.b, .int .i64 lo.n, .float .f64 lo.f, .string lo.t] 32)
  have HL1 := Lib.hid (box_val w lo)
  have hs1 : (w.alloc (.cells #[.int .i64 lo.k, .bool lo.b, .int .i64 lo.n, .float .f64 lo.f, .string lo.t] 32)).heap.size = w.heap.size + 1 := by simp
  have hb2 := (Below.refl _ _).alloc (Nat.le_refl _) (.cells #[.int .i64 hi.k, .bool hi.b, .int .i64 hi.n, .float .f64 hi.f, .string hi.t] 32) (a := w.alloc (.cells #[.int .i64 lo.k, .bool lo.b, .int .i64 lo.n, .float .f64 lo.f, .string lo.t] 32))
  have HL2 := Lib.hid (box_val (w.alloc (.cells #[.int .i64 lo.k, .bool lo.b, .int .i64 lo.n, .float .f64 lo.f, .string lo.t] 32)) hi)
  rw [hs1] at HL2
  have HB0 := Lib.hid (bnext hb1 hb2)
  have HLO := Lib.hid (HL1.out.below hb2)
  have HHI := HL2
  have HC := Lib.hid (fun (y : En) (hy : y.v.f < 2 * S) W => rvin_any y.v lo hi hy hlo hhi W)
  obtain ⟨lk, lb, ln, lf, lt⟩ := lo
  obtain ⟨mk, mb, mn, mf, mt⟩ := hi
  clear h hlo hhi hs1 hb1 hb2 HL1 HL2
  obtain ⟨k0, kf⟩ := (HM.out.below HB0.out).cells
  go_enter Try.func23, Try.ntmps23
  go_wp2
  generalize hV : (w.alloc (.cells #[.int .i64 lk, .bool lb, .int .i64 ln, .float .f64 lf, .string lt] 32)).alloc (.cells #[.int .i64 mk, .bool mb, .int .i64 mn, .float .f64 mf, .string mt] 32) = V at *
  have HV := Lib.hid (HM.out.below HB0.out)
  clear hV k0 kf
  go_loopw [7, 8] (fun v i wr => ∃ (k : Nat) (L : List En), k ≤ I.length ∧ i = .int .i64 (k : Nat) ∧ Hid (L = rngE (I.take k) ⟨lk, lb, ln, lf, lt⟩ ⟨mk, mb, mn, mf, mt⟩) ∧ Hid (RE V.heap.size wr v L) ∧ Hid (Below V.heap.size V wr)) (fun _ i _ => I.length - (intOf i).toNat)
  case atStart => exact ⟨0, [], Nat.zero_le _, rfl, rfl, RE.nil _ _, Below.refl _ _⟩
  case round =>
    obtain ⟨k, L, hk, rfl, HL, HR, HB⟩ := hrel
    have hm := HV.out.below HB.out
    obtain ⟨k0, kf⟩ := hm.cells
    obtain ⟨b0, b1, b2, b3, b4⟩ := HLO.out.below HB.out
    obtain ⟨d0, d1, d2, d3, d4⟩ := HHI.out.below HB.out
    simp only [Nat.zero_add] at b0 b1 b2 b3 b4 d0 d1 d2 d3 d4
    by_cases hlt : k < I.length
    · obtain ⟨g, cp', hgg, _, he⟩ := hm.row hlt
      injection hgg with hgg _ hcp
      subst hgg
      subst hcp
      have hi5 : IntKind.i64.wrap (k : Int) = (k : Int) := wrapI (by omega)
      have hi0 : (0 : Int) ≤ (k : Int) := by omega
      have HCC := Lib.hid (HC.out I[k] (HM.out.ok _ (List.getElem_mem hlt)).2)
      have HTK := Lib.hid (rng_take I ⟨lk, lb, ln, lf, lt⟩ ⟨mk, mb, mn, mf, mt⟩ k hlt)
      have HLl : Hid (L.length ≤ 900000) := by
        simp only [Hid]; rw [HL.out]
        have := rng_len (I.take k) ⟨lk, lb, ln, lf, lt⟩ ⟨mk, mb, mn, mf, mt⟩
        rw [List.length_take] at this; omega
      generalize I[k] = y at he HCC HTK
      have HEY := Lib.hid he
      obtain ⟨⟨yk, yb, yn, yf, yt⟩, yi⟩ := y
      obtain ⟨e0, e1, e2, e3, e4, e5⟩ := he
      simp only at e0 e1 e2 e3 e4 e5 HCC HTK
      obtain ⟨A5, c5, hv5⟩ := own_slice HR.out.r
      subst hv5
      clear hm
      cases hin : inV ⟨yk, yb, yn, yf, yt⟩ ⟨lk, lb, ln, lf, lt⟩ ⟨mk, mb, mn, mf, mt⟩ with
      | true =>
        rw [hin] at HCC
        have HL2 : Hid (L ++ [⟨⟨yk, yb, yn, yf, yt⟩, yi⟩] = rngE (I.take (k + 1)) ⟨lk, lb, ln, lf, lt⟩ ⟨mk, mb, mn, mf, mt⟩) := by simp only [Hid]; rw [HTK.out, if_pos hin, HL.out]
        clear hin
        go_upto_region 5 with fail
        go_still_tail 10, (by kernel_rfl)
        change wpList _ _ _ _ _ wr.drew
        go_upto_region 6 with (go_at_call 36; (with_reducible refine (HCC.out _).mono ?_); rintro e w4 ⟨rfl, hb4⟩; have HW4 := Lib.hid (bnext (Below.refl wr.heap.size wr).drew hb4); clear hb4)
        clear k0 kf b0 b1 b2 b3 b4 d0 d1 d2 d3 d4 e0 e1 e2 e3 e4 e5
        have HB4 := Lib.hid (bnext HB.out HW4.out)
        obtain ⟨k0, kf⟩ := (HV.out.below HB4.out).cells
        obtain ⟨e0, e1, e2, e3, e4, e5⟩ := HEY.out.below HW4.out
        simp only at e0 e1 e2 e3 e4 e5
        have hb3 := (Below.refl w4.heap.size w4).alloc (Nat.le_refl _) (.cells #[.int .i64 yk, .bool yb, .int .i64 yn, .float .f64 yf, .string yt, .int .i64 yi] 34)
        have HB3 := Lib.hid (HB4.out.trans (hb3.mono HB4.out.size))
        have HR3 := Lib.hid ((HR.out.below HW4.out).below hb3)
        have HC3 := Lib.hid (show ∀ j u, (ec ⟨⟨yk, yb, yn, yf, yt⟩, yi⟩)[j]? = some u → (w4.alloc (.cells #[.int .i64 yk, .bool yb, .int .i64 yn, .float .f64 yf, .string yt, .int .i64 yi] 34)).cell? ((⟨w4.heap.size, 0, none⟩ : Addr).add j) = some u from enew_cells w4 ⟨⟨yk, yb, yn, yf, yt⟩, yi⟩ 34)
        clear hb3
        go_wp2_with (refine wp_own 27 34 _ 6 56 Try.underlying27 infoEn rfl (by decide) (by decide) rfl (.tmp 29) (.tmp 37) rfl _ _ (ecs L) HR3.out.r rfl ⟨w4.heap.size, 0, none⟩ 1 1 (ec ⟨⟨yk, yb, yn, yf, yt⟩, yi⟩) rfl rfl HC3.out (ec_one1 _) (by have := HLl.out; omega) ?_; intro v5 w5 hr5 hg5 ho5; have HR5 := Lib.hid (HR3.out.app HB3.out.size hr5 ho5); have HB5 := Lib.hid (HB3.out.grown hg5 HB3.out.size HR.out.n); clear hr5 hg5 ho5)
        exact ⟨⟨k + 1, _, by omega, by go_num, HL2.out, HR5.out, HB5.out⟩, by simp [intOf]; omega⟩
      | false =>
        rw [hin] at HCC
        have HL2 : Hid (L = rngE (I.take (k + 1)) ⟨lk, lb, ln, lf, lt⟩ ⟨mk, mb, mn, mf, mt⟩) := by simp only [Hid]; rw [HTK.out, if_neg (by rw [hin]; decide), HL.out]
        clear hin
        go_upto_region 5 with fail
        go_still_tail 10, (by kernel_rfl)
        change wpList _ _ _ _ _ wr.drew
        go_wp2_with (go_at_call 36; (with_reducible refine (HCC.out _).mono ?_); rintro e w4 ⟨rfl, hb4⟩; have HW4 := Lib.hid (bnext (Below.refl wr.heap.size wr).drew hb4); clear hb4)
        exact ⟨⟨k + 1, _, by omega, by go_num, HL2.out, HR.out.below HW4.out, bnext HB.out HW4.out⟩, by simp [intOf]; omega⟩
    · obtain rfl : k = I.length := by omega
      have HE : Hid (L = rngE I ⟨lk, lb, ln, lf, lt⟩ ⟨mk, mb, mn, mf, mt⟩) := by simp only [Hid]; rw [HL.out, List.take_length]
      clear hm
      go_wp2
      go_ret
      exact ⟨_, rfl, by rw [← HE.out]; exact ⟨HR.out.r, fun k hk => Nat.le_trans HB0.out.size (HR.out.n k hk)⟩, bnext HB0.out HB.out⟩
end
end Go.Proofs.Ytmbbmgkbhfnchaa
