/- The program's reader of chapter 10: node. Conditions: the reader's cells lie in memory. -/
import Derived.Test.YtdhpphbgobakhaaZw
namespace Go.Proofs.Ytdhpphbgobakhaa
set_option maxRecDepth 100000
set_option linter.unusedVariables false
open Go.ChangeShapes Go.WideShapes Go.ChangeAt Go.RowKit
open Fl (S cmpK keyN normN)
open Val (V cmpV isB ltT)
open Lb
/-- While a node is read: the box nb, the result's box rb, the labels so far (v1), the properties so far (v2). -/
structure NI (B r a : Nat) (g : Option Nat) (w : World) (nb rb : Nat) (q : Option (List UInt8)) (L : List ByteArray) (P : List Pr) (v1 v2 : Value) (W : World) : Prop where
  rs : RS B r a g q W
  ch : Chg (F2 r a) w W
  bx : BX W nb 43 #[v1, v2]
  br : BX W rb 43 #[.slice none 0 0, .slice none 0 0]
  l : RO 9 1 w.heap.size W v1 L.length (L.map Value.string)
  p : RO 49 6 w.heap.size W v2 P.length (pcs P)
section
variable {B r a : Nat} {g : Option Nat} {q q' : Option (List UInt8)} {w W W' : World} {nb rb : Nat} {L : List ByteArray} {P : List Pr} {v1 v2 v : Value}
theorem NI.below (h : NI B r a g w nb rb q L P v1 v2 W) (hb : Below W.heap.size W W') : NI B r a g w nb rb q L P v1 v2 W' :=
  ⟨h.rs.below hb, h.ch.grown (grown_of_below hb none) (fun k e => by cases e), h.bx.below hb, h.br.below hb, h.l.below hb, h.p.below hb⟩
/-- Something was read. -/
theorem NI.read (h : NI B r a g w nb rb q L P v1 v2 W) (hB : B ≤ w.heap.size) (hn : w.heap.size ≤ nb) (hr : w.heap.size ≤ rb) (hs : RS B r a g q' W') (hc : Chg (F2 r a) W W') : NI B r a g w nb rb q' L P v1 v2 W' :=
  ⟨hs, chg2 h.ch hc, h.bx.chg hc (h.rs.f2 (by omega)), h.br.chg hc (h.rs.f2 (by omega)), h.l.chg hB h.rs hc, h.p.chg hB h.rs hc⟩
/-- A label more. -/
theorem NI.lab {x : ByteArray} {W1 : World} (h : NI B r a g w nb rb q L P v1 v2 W1) (hB : B ≤ w.heap.size) (hn : w.heap.size ≤ nb) (hr : w.heap.size ≤ rb) (hnr : nb ≠ rb) (hw : w.heap.size ≤ W1.heap.size)
    (ho : W.ownsRow 0 9 1 v (L.length + 1) (L.map Value.string ++ [.string x])) (hg : W1.grownBy W v1.ownBlock) (hv : v.ownBlock = v1.ownBlock ∨ v.ownBlock = some W1.heap.size) :
    BX W nb 43 #[v1, v2] ∧ NI B r a g w nb rb q (L ++ [x]) P v v2 (W.setCell ⟨nb, 0, none⟩ v) := by
  have n1 : some nb ≠ v1.ownBlock := fun e => ro_bx h.l h.bx (by decide) e.symm
  have n2 : some rb ≠ v1.ownBlock := fun e => ro_bx h.l h.br (by decide) e.symm
  have b1 := h.bx.kept hg n1
  have hl : RO 9 1 w.heap.size W v (L.length + 1) (L.map Value.string ++ [.string x]) := h.l.next hw ho hv
  have m1 : ∀ k, v.ownBlock = some k → some k ≠ some nb := fun k hk e => ro_bx hl b1 (by decide) (hk.trans e)
  have hp : RO 49 6 w.heap.size W v2 P.length (pcs P) := h.p.kept hg (fun k hk e => by
    obtain ⟨c1, e1⟩ := own_type h.l.r (e.symm)
    obtain ⟨c2, e2⟩ := own_type h.p.r hk
    rw [e1] at e2
    injection e2 with e2
    injection e2 with _ e2
    exact absurd e2 (by decide))
  have m2 : ∀ k, v2.ownBlock = some k → some k ≠ some nb := fun k hk e => ro_bx hp b1 (by decide) (hk.trans e)
  refine ⟨b1, ⟨(h.rs.grown hg (fun k e => Nat.le_trans hB (h.l.n k e))).set (by omega) 0 v, chg_set (chg_row h.ch hg (fun k e => h.l.n k e)) hn 0 v, b1.set 0 v, (h.br.kept hg n2).other (fun e => hnr e.symm) 0 v, ?_, hp.kept (grown_set W nb 0 v) m2⟩⟩
  have := hl.kept (grown_set W nb 0 v) m1
  simpa using this
/-- A property more. -/
theorem NI.prp {x : Pr} {W1 : World} (h : NI B r a g w nb rb q L P v1 v2 W1) (hB : B ≤ w.heap.size) (hn : w.heap.size ≤ nb) (hr : w.heap.size ≤ rb) (hnr : nb ≠ rb) (hw : w.heap.size ≤ W1.heap.size)
    (ho : W.ownsRow 0 49 6 v (P.length + 1) (pcs P ++ prc x)) (hg : W1.grownBy W v2.ownBlock) (hv : v.ownBlock = v2.ownBlock ∨ v.ownBlock = some W1.heap.size) :
    BX W nb 43 #[v1, v2] ∧ NI B r a g w nb rb q L (P ++ [x]) v1 v (W.setCell ⟨nb, 1, none⟩ v) := by
  have n1 : some nb ≠ v2.ownBlock := fun e => ro_bx h.p h.bx (by decide) e.symm
  have n2 : some rb ≠ v2.ownBlock := fun e => ro_bx h.p h.br (by decide) e.symm
  have b1 := h.bx.kept hg n1
  have hl : RO 49 6 w.heap.size W v (P.length + 1) (pcs P ++ prc x) := h.p.next hw ho hv
  have m1 : ∀ k, v.ownBlock = some k → some k ≠ some nb := fun k hk e => ro_bx hl b1 (by decide) (hk.trans e)
  have hp : RO 9 1 w.heap.size W v1 L.length (L.map Value.string) := h.l.kept hg (fun k hk e => by
    obtain ⟨c1, e1⟩ := own_type h.p.r (e.symm)
    obtain ⟨c2, e2⟩ := own_type h.l.r hk
    rw [e1] at e2
    injection e2 with e2
    injection e2 with _ e2
    exact absurd e2 (by decide))
  have m2 : ∀ k, v1.ownBlock = some k → some k ≠ some nb := fun k hk e => ro_bx hp b1 (by decide) (hk.trans e)
  refine ⟨b1, ⟨(h.rs.grown hg (fun k e => Nat.le_trans hB (h.p.n k e))).set (by omega) 1 v, chg_set (chg_row h.ch hg (fun k e => h.p.n k e)) hn 1 v, b1.set 1 v, (h.br.kept hg n2).other (fun e => hnr e.symm) 1 v, hp.kept (grown_set W nb 1 v) m2, ?_⟩⟩
  have := hl.kept (grown_set W nb 1 v) m1
  rw [← pcs_snoc] at this
  simpa using this
end
section
variable {B r a : Nat} {g : Option Nat} {q : Option (List UInt8)} {w w1 w' : World}
theorem pP_step {s : Bool} {x : ByteArray} {y : V} (h : Is pS q x) (k : Is (pV s) (nx pS q) y) : Is (pP s) q (⟨x, y⟩ : Pr) ∧ nx (pP s) q = nx (pV s) (nx pS q) := by
  unfold pP
  exact ⟨is_and h (is_and k is_ret), by rw [(nx_and h).1, (nx_and k).1, nx_ret]⟩
set_option maxHeartbeats 4000000 in
theorem rnode2_any (h : RS B r a g q w) : Calls Try.prog 52 #[.pointer (some ⟨r, 0, none⟩)] w fun e w' => ∃ n s, e = .returned (ndv n s) ∧ RS B r a g (nx (pN false) q) w' ∧ Chg (F2 r a) w w' ∧ Is (pN false) q n ∧ NdN w.heap.size w' n s := by
  obtain ⟨V, hV⟩ : ∃ V, V = (w.alloc (.cells #[.slice none 0 0, .slice none 0 0] 43)).alloc (.cells #[.slice none 0 0, .slice none 0 0] 43) := ⟨_, rfl⟩
  have h1 := h.alloc (.cells #[.slice none 0 0, .slice none 0 0] 43)
  have hz : (w.alloc (.cells #[.slice none 0 0, .slice none 0 0] 43)).heap.size = w.heap.size + 1 := by simp
  have hn : BX V (w.heap.size + 1) 43 #[.slice none 0 0, .slice none 0 0] := by rw [hV, ← hz]; exact bx_new _ _ _
  have hr : BX V w.heap.size 43 #[.slice none 0 0, .slice none 0 0] := by rw [hV]; exact (bx_new w _ _).below (one_box _ _)
  have hI : NI B r a g w (w.heap.size + 1) w.heap.size q [] [] (.slice none 0 0) (.slice none 0 0) V := ⟨by rw [hV]; exact h1.alloc _, by rw [hV]; exact chg_alloc (chg_self w _) _, hn, hr, RO.nil _ _ _ _, RO.nil _ _ _ _⟩
  have HI := Lib.hid hI
  have hBw : B ≤ w.heap.size := h.size
  have HC0 := Lib.hid (count_any hI.rs 3 (by decide))
  clear h h1 hz hn hr
  go_enter Try.func52, Try.ntmps52
  go_upto_region 2 with fail
  rw [← hV]
  clear hV hI
  go_wp2_with fail
  refine HC0.out.mono ?_
  rintro e w1 ⟨c1, hc1, rfl, hR1, hch1, hi1⟩
  have H1 := Lib.hid (HI.out.read hBw (Nat.le_succ _) (Nat.le_refl _) hR1 hch1)
  have HI1 := Lib.hid hi1
  have HM0 := Lib.hid (many_zero (q := nx (pC 3) q) pS)
  clear hR1 hch1 hi1 HC0
  go_wp2
  go_loopw [6] (fun i wr => ∃ (L : List ByteArray) (v : Value), L.length ≤ c1 ∧ i = .int .i64 (L.length : Nat) ∧ Hid (NI B r a g w (w.heap.size + 1) w.heap.size (nx (pMany pS L.length) (nx (pC 3) q)) L [] v (.slice none 0 0) wr) ∧ Hid (Is (pMany pS L.length) (nx (pC 3) q) L)) (fun i _ => c1 - (intOf i).toNat)
  case atStart => exact ⟨[], _, Nat.zero_le _, rfl, by have := HM0.out.1; rw [← this] at H1; exact H1.out, HM0.out.2⟩
  case round =>
    obtain ⟨L, v, hk, rfl, HN, HS⟩ := hrel
    obtain ⟨A, cp, hv⟩ := own_slice HN.out.l.r
    by_cases hlt : L.length < c1
    · have hd := HN.out.below (Below.refl wr.heap.size wr).drew
      have HD := Lib.hid hd
      have HST := Lib.hid (rdS_any hd.rs)
      have b0 := hd.bx.cell 0
      have bf := hd.bx.frozen
      have c0 := hd.rs.c0
      rw [hv] at b0
      simp only [List.getElem?_toArray, List.getElem?_cons_zero] at b0
      have HLE : Hid (L.length + 1 ≤ 1000000) := by simp only [Hid]; omega
      clear hd
      go_upto_region 4 with fail
      go_region_law ((first
        | (refine st_of rfl (own_wp 40 9 _ 1 16 Try.underlying40 infoS rfl (by decide) (by decide) (.tmp 9) (.tmp 15) rfl _ _ (L.map Value.string) H3A.out.l.r (by rw [hv]; rfl) ⟨w3.heap.size, 0, none⟩ 1 1 [.string x] rfl rfl HCN.out (fun u hu => by simp at hu; rw [hu]; rfl) HLE.out ?_); intro v4 w4 ho4 hg4 hv4; obtain ⟨A4, c4, rfl⟩ := own_slice ho4; have H4 := Lib.hid (H3A.out.lab hBw (Nat.le_succ _) (Nat.le_refl _) (by omega) hsz3 ho4 hg4 hv4); have d0 := H4.out.1.cell 0; have df := H4.out.1.frozen; simp only [List.getElem?_toArray, List.getElem?_cons_zero] at d0; clear ho4 hg4 hv4)
        | (go_simp; go_at_call 73; refine HST.out.mono ?_; rintro e w3 ⟨x, rfl, hR3, hc3, hi3⟩; have h3 := HD.out.read hBw (Nat.le_succ _) (Nat.le_refl _) hR3 hc3; have HI3 := Lib.hid hi3; have e0 := h3.bx.cell 0; rw [hv] at e0; simp only [List.getElem?_toArray, List.getElem?_cons_zero] at e0; have h3a := h3.below (one_box w3 (.cells #[.string x] 9)); have H3A := Lib.hid h3a; have f0 := h3a.bx.cell 0; rw [hv] at f0; simp only [List.getElem?_toArray, List.getElem?_cons_zero] at f0; have HCN := Lib.hid (new_cells w3 #[.string x] 9); have hsz3 : w.heap.size ≤ (w3.alloc (.cells #[.string x] 9)).heap.size := h3a.ch.size; clear hR3 hc3 hi3 h3 h3a)))
      all_goals (
        have HN2 := Lib.hid H4.out.2
        have HMS := Lib.hid (many_step HS.out HI3.out)
        clear b0 bf c0 d0 df e0 f0 HD HST H3A H4 HCN HI3
        generalize w4.setCell ⟨w.heap.size + 1, 0, none⟩ (.slice A4 (L.length + 1) c4) = W4 at *
        have HN3 : Hid (NI B r a g w (w.heap.size + 1) w.heap.size (nx (pMany pS (L ++ [x]).length) (nx (pC 3) q)) (L ++ [x]) [] (.slice A4 (L.length + 1) c4) (.slice none 0 0) W4) := by
          have := HN2.out
          rw [← HMS.out.1] at this
          simp only [Hid]
          simpa using this
        have HS3 : Hid (Is (pMany pS (L ++ [x]).length) (nx (pC 3) q) (L ++ [x])) := by have := HMS.out.2; simp only [Hid]; simpa using this
        clear HN2 HMS
        go_wp2
        exact ⟨⟨L ++ [x], _, by simp; omega, by simp, HN3.out, HS3.out⟩, by simp [intOf]; omega⟩)
    · have hend : L.length = c1 := by omega
      have HEL := Lib.hid hend
      have HC2 := Lib.hid (count_any HN.out.rs 3 (by decide))
      go_wp2_with fail
      refine HC2.out.mono ?_
      rintro e w2 ⟨c2, hc2, rfl, hR2, hch2, hi2⟩
      have H2 := Lib.hid (HN.out.read hBw (Nat.le_succ _) (Nat.le_refl _) hR2 hch2)
      have HI2 := Lib.hid hi2
      have HM0 := Lib.hid (many_zero (q := nx (pC 3) (nx (pMany pS L.length) (nx (pC 3) q))) (pP false))
      clear hR2 hch2 hi2 HC2 HN hend hlt
      go_wp2
      go_loopw [21] (fun i wr => ∃ (P : List Pr) (v2 : Value), P.length ≤ c2 ∧ i = .int .i64 (P.length : Nat) ∧ Hid (NI B r a g w (w.heap.size + 1) w.heap.size (nx (pMany (pP false) P.length) (nx (pC 3) (nx (pMany pS L.length) (nx (pC 3) q)))) L P v v2 wr) ∧ Hid (Is (pMany (pP false) P.length) (nx (pC 3) (nx (pMany pS L.length) (nx (pC 3) q))) P)) (fun i _ => c2 - (intOf i).toNat)
      case atStart => exact ⟨[], _, Nat.zero_le _, rfl, by have := HM0.out.1; rw [← this] at H2; exact H2.out, HM0.out.2⟩
      case round =>
        obtain ⟨P, v2, hk2, rfl, HN, HS2⟩ := hrel
        obtain ⟨A2, cp2, hv2⟩ := own_slice HN.out.p.r
        by_cases hlt : P.length < c2
        · have hd := HN.out.below (Below.refl wr.heap.size wr).drew
          have HD := Lib.hid hd
          have HST := Lib.hid (rdS_any hd.rs)
          have b0 := hd.bx.cell 1
          have bf := hd.bx.frozen
          have c0 := hd.rs.c0
          rw [hv2] at b0
          simp only [List.getElem?_toArray, List.getElem?_cons_zero, List.getElem?_cons_succ] at b0
          have HLE : Hid (P.length + 1 ≤ 1000000) := by simp only [Hid]; omega
          clear hd
          go_upto_region 8 with fail
          go_region_law ((first
            | (refine st_of rfl (own_wp 41 49 _ 6 64 Try.underlying41 infoP rfl (by decide) (by decide) (.tmp 24) (.tmp 33) rfl _ _ (pcs P) H4A.out.p.r (by rw [hv2]; rfl) ⟨w4.heap.size, 0, none⟩ 1 1 (prc ⟨x, y⟩) rfl rfl HCN.out (prc_one _) HLE.out ?_); intro v5 w5 ho5 hg5 hv5; obtain ⟨A5, c5, rfl⟩ := own_slice ho5; have H5 := Lib.hid (H4A.out.prp hBw (Nat.le_succ _) (Nat.le_refl _) (by omega) hsz4 ho5 hg5 hv5); have d0 := H5.out.1.cell 1; have df := H5.out.1.frozen; simp only [List.getElem?_toArray, List.getElem?_cons_zero, List.getElem?_cons_succ] at d0; clear ho5 hg5 hv5)
            | (go_simp; go_at_call 75; refine (rval_any H3.out.rs).mono ?_; rintro e w4 ⟨y, rfl, hR4, hc4, hi4⟩; have h4 := H3.out.read hBw (Nat.le_succ _) (Nat.le_refl _) hR4 hc4; have HI4 := Lib.hid hi4; have g0 := h4.bx.cell 1; rw [hv2] at g0; simp only [List.getElem?_toArray, List.getElem?_cons_zero, List.getElem?_cons_succ] at g0; have h4a := h4.below (one_box w4 (.cells #[.string x, .int .i64 y.k, .bool y.b, .int .i64 y.n, .float .f64 y.f, .string y.t] 49)); have H4A := Lib.hid h4a; have f0 := h4a.bx.cell 1; rw [hv2] at f0; simp only [List.getElem?_toArray, List.getElem?_cons_zero, List.getElem?_cons_succ] at f0; have HCN := Lib.hid (new_cells w4 #[.string x, .int .i64 y.k, .bool y.b, .int .i64 y.n, .float .f64 y.f, .string y.t] 49); have hsz4 : w.heap.size ≤ (w4.alloc (.cells #[.string x, .int .i64 y.k, .bool y.b, .int .i64 y.n, .float .f64 y.f, .string y.t] 49)).heap.size := h4a.ch.size; clear hR4 hc4 hi4 h4 h4a)
            | (go_simp; go_at_call 73; refine HST.out.mono ?_; rintro e w3 ⟨x, rfl, hR3, hc3, hi3⟩; have h3 := HD.out.read hBw (Nat.le_succ _) (Nat.le_refl _) hR3 hc3; have HI3 := Lib.hid hi3; have H3 := Lib.hid h3; have e0 := h3.bx.cell 1; rw [hv2] at e0; simp only [List.getElem?_toArray, List.getElem?_cons_zero, List.getElem?_cons_succ] at e0; clear hR3 hc3 hi3 h3)))
          all_goals (
            have HN2 := Lib.hid H5.out.2
            have HXP := Lib.hid (pP_step HI3.out HI4.out)
            have HMS := Lib.hid (many_step HS2.out HXP.out.1)
            clear b0 bf c0 d0 df e0 f0 g0 HD HST H3 H4A H5 HCN HI3 HI4
            generalize w5.setCell ⟨w.heap.size + 1, 1, none⟩ (.slice A5 (P.length + 1) c5) = W5 at *
            have HN3 : Hid (NI B r a g w (w.heap.size + 1) w.heap.size (nx (pMany (pP false) (P ++ [(⟨x, y⟩ : Pr)]).length) (nx (pC 3) (nx (pMany pS L.length) (nx (pC 3) q)))) L (P ++ [(⟨x, y⟩ : Pr)]) v (.slice A5 (P.length + 1) c5) W5) := by
              have := HN2.out
              rw [← HXP.out.2, ← HMS.out.1] at this
              simp only [Hid]
              simpa using this
            have HS3 : Hid (Is (pMany (pP false) (P ++ [(⟨x, y⟩ : Pr)]).length) (nx (pC 3) (nx (pMany pS L.length) (nx (pC 3) q))) (P ++ [(⟨x, y⟩ : Pr)])) := by have := HMS.out.2; simp only [Hid]; simpa using this
            clear HN2 HMS HXP
            go_wp2
            exact ⟨⟨P ++ [(⟨x, y⟩ : Pr)], _, by simp; omega, by simp, HN3.out, HS3.out⟩, by simp [intOf]; omega⟩)
        · have hend : P.length = c2 := by omega
          have HEP := Lib.hid hend
          clear hend
          have b0 := HN.out.bx.cell 0
          have b1 := HN.out.bx.cell 1
          have r0 := HN.out.br.cell 0
          have r1 := HN.out.br.cell 1
          have rf := HN.out.br.frozen
          simp only [List.getElem?_toArray, List.getElem?_cons_zero, List.getElem?_cons_succ] at b0 b1 r0 r1
          subst hv
          subst hv2
          have n1 : ∀ k, (Value.slice A L.length cp).ownBlock = some k → some k ≠ some w.heap.size := fun k hk e => ro_bx HN.out.l HN.out.br (by decide) (hk.trans e)
          have n2 : ∀ k, (Value.slice A2 P.length cp2).ownBlock = some k → some k ≠ some w.heap.size := fun k hk e => ro_bx HN.out.p HN.out.br (by decide) (hk.trans e)
          have HEND : Hid (∀ W, W = (wr.setCell ⟨w.heap.size, 0, none⟩ (.slice A L.length cp)).setCell ⟨w.heap.size, 1, none⟩ (.slice A2 P.length cp2) → (W.cell? ⟨w.heap.size, 0, none⟩ = some (.slice A L.length cp) ∧ W.cell? ⟨w.heap.size, 1, none⟩ = some (.slice A2 P.length cp2)) ∧ ∃ n s, Ending.returned (ndv ⟨L, P⟩ ⟨A, cp, A2, cp2⟩) = .returned (ndv n s) ∧ RS B r a g (nx (pN false) q) W ∧ Chg (F2 r a) w W ∧ Is (pN false) q n ∧ NdN w.heap.size W n s) := by
            rintro W rfl
            have q1 := (HN.out.br.set 0 (.slice A L.length cp)).set 1 (.slice A2 P.length cp2)
            have x1 : Is (pC 3) q L.length := by rw [HEL.out]; exact HI1.out
            have x2 : Is (pC 3) (nx (pMany pS L.length) (nx (pC 3) q)) P.length := by rw [HEP.out]; exact HI2.out
            refine ⟨⟨by rw [q1.cell 0]; rfl, by rw [q1.cell 1]; rfl⟩, ⟨L, P⟩, ⟨A, cp, A2, cp2⟩, rfl, ?_, ?_, ?_, ?_⟩
            · unfold pN
              rw [(nx_and x1).1, (nx_and HS.out).1, (nx_and x2).1, (nx_and HS2.out).1, nx_ret]
              exact (HN.out.rs.set hBw 0 _).set hBw 1 _
            · exact chg_set (chg_set HN.out.ch (Nat.le_refl _) 0 _) (Nat.le_refl _) 1 _
            · unfold pN
              exact is_and x1 (is_and HS.out (is_and x2 (is_and HS2.out is_ret)))
            · exact ⟨(HN.out.l.kept (grown_set _ _ 0 _) n1).kept (grown_set _ _ 1 _) n1, (HN.out.p.kept (grown_set _ _ 0 _) n2).kept (grown_set _ _ 1 _) n2⟩
          clear n1 n2
          go_wp2
          obtain ⟨⟨s0, s1⟩, he⟩ := HEND.out _ rfl
          exact bodyPost_ret (v := ndv ⟨L, P⟩ ⟨A, cp, A2, cp2⟩) (by simp [results, Try.results52, go_sem, s0, s1]; try rfl) rfl he
end
end Go.Proofs.Ytdhpphbgobakhaa
