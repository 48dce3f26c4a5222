/- ligaturelaw8.ChainPlays, walked: it returns true for every slice of acts. Conditions: the contracts of Prog8. -/
import Derived.Test.YtfmbogpbhchelaaSm
namespace Go.Proofs.Ytfmbogpbhchelaa
set_option maxRecDepth 100000
set_option linter.unusedVariables false
open Go.ChangeShapes Go.WideShapes Go.ChangeAt Go.RowKit
theorem any_has (I : List It) (l i : Int) : (It.walk I l).any (fun x => decide (x = i)) = It.has I l i := by
  rw [Bool.eq_iff_iff, List.any_eq_true, It.has_iff, ← It.walk_mem]
  constructor
  · rintro ⟨x, h1, h2⟩
    have := of_decide_eq_true h2
    subst this; exact h1
  · intro h
    exact ⟨i, h, by simp⟩
def inB (L : List Int) (q : Nat) (i : Int) : Bool := (L.take q).any (fun x => decide (x = i))
theorem inB_succ (L : List Int) (q : Nat) (i : Int) (h : q < L.length) : inB L (q + 1) i = (inB L q i || decide (L[q] = i)) := by
  unfold inB
  rw [List.take_add_one, List.getElem?_eq_getElem h, Option.toList_some, List.any_append]
  simp
def LenLe (I : List It) (k : Nat) : Prop := I.length ≤ k
/-- What an act makes of the items. -/
def actI (I : List It) (k l i : Int) : List It := if k = 1 then It.add I l i else It.cut I l i
theorem actI_len (I : List It) (k l i : Int) : (actI I k l i).length ≤ I.length + 1 := by
  unfold actI
  split
  · exact It.add_len_le I l i
  · have := It.cut_len_le I l i; omega
section
variable {PL : (Nat → Prop) → World → Nat → List It → Prop} {K : Nat → Prop} {w wr : World} {a b : Nat} {I J : List It}
theorem same8 (A B : Option Addr) (L : List Int) (n ca cb : Nat) (w : World) (h1 : Row (.int .i64) w A L) (h2 : Row (.int .i64) w B L) (hn : L.length = n) (hl : n ≤ 900000) :
    Calls Try.prog 15 #[.slice A n ca, .slice B n cb] w fun e w' => e = .returned (.bool true) ∧ Below w.heap.size w w' := by
  subst hn
  have := same_below A B L L ca cb w h1 h2 hl
  rw [decide_eq_true rfl] at this
  exact this
theorem turned8 (A : Option Addr) (L : List Int) (n cp : Nat) (w : World) (h : Row (.int .i64) w A L) (hn : L.length = n) (hl : n ≤ 900000) :
    Calls Try.prog 18 #[.slice A n cp] w fun e w' => ∃ B c, e = .returned (.slice B n c) ∧ NR w.heap.size w' B L.reverse ∧ Below w.heap.size w w' := by
  subst hn
  refine (turned_any A L cp w h hl).mono ?_
  rintro e w' ⟨v, rfl, hr, hb⟩
  obtain ⟨B, c, e1, h1⟩ := hr.nr
  rw [List.length_reverse] at e1
  exact ⟨B, c, by rw [e1], h1, hb⟩
theorem D8.items (h : D8 PL K w wr a b I J) : ∃ A c, wr.cell? ⟨b, 0, none⟩ = some (.slice A J.length c) := by
  obtain ⟨F, G, h1, ⟨v1, h2⟩, _⟩ := h
  obtain ⟨A, c, e⟩ := own_slice h2.r1
  subst e
  exact ⟨A, c, h2.cells.1⟩
theorem keep_box {wr W : World} {o : Obj} {K : Nat → Prop} (h : Keep (fun k => K k ∨ k = wr.heap.size) (wr.alloc o) W) : W.heap[wr.heap.size]? = some o := (h.2 _ (.inr rfl)).trans (MapKept.heap_alloc wr o).1
theorem Keep.trans {K : Nat → Prop} {w w1 w2 : World} (h : Keep K w w1) (k : Keep K w1 w2) : Keep K w w2 := ⟨Nat.le_trans h.1 k.1, fun j hj => (k.2 j hj).trans (h.2 j hj)⟩
theorem box_cells {W : World} {z : Nat} {kd tl ti : Int} {t : TypeId} (h : W.heap[z]? = some (.cells #[.int .i64 kd, .int .i64 tl, .int .i64 ti] t (0, 0))) : W.cell? ⟨z, 1, none⟩ = some (.int .i64 tl) ∧ W.cell? ⟨z, 2, none⟩ = some (.int .i64 ti) := by
  refine ⟨?_, ?_⟩ <;> rw [cell_of_row W z _ _ _ _ h] <;> rfl
theorem box_items {w W : World} {z b : Nat} {tl : Int} {v : Value} (hb : Below w.heap.size w W) (h1 : w.cell? ⟨z, 1, none⟩ = some (.int .i64 tl)) (h2 : w.cell? ⟨b, 0, none⟩ = some v) : W.cell? ⟨z, 1, none⟩ = some (.int .i64 tl) ∧ W.cell? ⟨b, 0, none⟩ = some v :=
  ⟨(hb.cell (World.block_lt_of_cell? w _ h1)).trans h1, (hb.cell (World.block_lt_of_cell? w _ h2)).trans h2⟩
/-- What the program's methods return, the items being I. -/
theorem plays_calls (hP : Prog8 PL) (h : D8 PL K w wr a b I J) (t : Int) (hl : I.length ≤ 100000) :
    Calls Try.prog 16 #[.pointer (some ⟨a, 0, none⟩), .int .i64 t] wr (fun e w' => ∃ A c, e = .returned (.slice A (It.walk I t).length c) ∧ NR wr.heap.size w' A (It.walk I t) ∧ Below wr.heap.size wr w') ∧
    Calls Try.prog 17 #[.pointer (some ⟨a, 0, none⟩), .int .i64 t] wr (fun e w' => ∃ A c, e = .returned (.slice A (It.walk I t).length c) ∧ NR wr.heap.size w' A (It.walk I t).reverse ∧ Below wr.heap.size wr w') ∧
    Calls Try.prog 19 #[.pointer (some ⟨a, 0, none⟩)] wr (fun e w' => e = .returned (.int .i64 (I.length : Nat)) ∧ Below wr.heap.size wr w') :=
  ⟨d8_walk hP h t hl, d8_back hP h t hl, d8_len hP h hl⟩
theorem d8_start (hP : Prog8 PL) (h : S8 PL noG w wr a []) : D8 PL noG w (wr.alloc (.cells #[.slice none 0 0] 28)) a wr.heap.size [] [] := by
  have hb := (Below.refl wr.heap.size wr).alloc (Nat.le_refl _) (.cells #[.slice none 0 0] 28)
  obtain ⟨F, h1, h2, h3, h4⟩ := h
  refine ⟨F, fun k => k = wr.heap.size, hP.same h1 (fun _ h => h) (fun k hk => Nat.lt_of_lt_of_le (hP.lt h1 k hk) hb.size) (fun k hk => hb.block k (hP.lt h1 k hk)), ⟨.slice none 0 0, ⟨fun k hk => by simp [hk], rfl, fun k hk => by simp [Value.ownBlock] at hk, heap_alloc_new wr _, World.ownsRow_nil _ _ _ _⟩⟩, fun k hk => ⟨fun e => by have := hP.lt h1 k hk; omega, fun h => h.elim, (h2 k hk).2⟩, fun k hk => ⟨fun h => h.elim, by have := h4.size; omega⟩, fun k hk => hk.elim, h4.trans (hb.mono h4.size)⟩
set_option maxHeartbeats 8000000 in
theorem plays8_any (hP : Prog8 PL) {w : World} (A : Option Addr) (l : List Act8) (cp : Nat) (hs : SlK8 w ⟨A, l, cp⟩) :
    Calls Try.prog 3 #[.slice A l.length cp] w fun e w' => e = .returned (.bool true) ∧ Below w.heap.size w w' := by
  have HP := Lib.hid hP
  have HS := Lib.hid hs
  clear hs hP
  by_cases hbig : 10000 < l.length
  · have hb2 : (10000 : Int) < (l.length : Int) := by omega
    go_enter Try.func3, Try.ntmps3
    go_wp2
    go_ret
    exact ⟨rfl, Below.refl _ _⟩
  · have hb2 : (l.length : Int) ≤ 10000 := by omega
    have hlen : l.length ≤ 10000 := by omega
    clear hbig
    have HN := Lib.hid (s8_new (G := noG) HP.out (Below.refl w.heap.size w) (fun k hk => hk.elim))
    have DK := Lib.hid (known8_any HP.out)
    go_enter Try.func3, Try.ntmps3
    go_wp2_with (go_at_call 9; (with_reducible refine HN.out.mono ?_); rintro e w1 ⟨a, rfl, h1, hb1⟩; have H1 := Lib.hid (d8_start HP.out h1); clear h1 hb1)
    clear HN
    go_loopw [5] (fun i wr => ∃ (k : Nat) (I : List It), k ≤ l.length ∧ k ≤ 100 ∧ i = .int .i64 (k : Nat) ∧ Hid (I.length ≤ k) ∧ Hid (D8 PL noG w wr a w1.heap.size I I)) (fun i _ => 100 - (intOf i).toNat)
    case atStart => exact ⟨0, [], Nat.zero_le _, by omega, rfl, Nat.le_refl _, H1.out⟩
    case round =>
      obtain ⟨k, I, hk, hk100, rfl, HI, HD⟩ := hrel
      clear H1
      by_cases hlt : k < l.length ∧ k < 100
      · obtain ⟨hl1, hl2⟩ := hlt
        obtain ⟨ad, pk, hA, hpk, hcc⟩ := act8_at HS.out (k := k) hl1
        simp only at hA hcc hpk
        subst hA
        obtain ⟨x, hx⟩ : ∃ x, x = l[k] := ⟨_, rfl⟩
        rw [← hx] at hcc
        obtain ⟨c0, c1, c2⟩ := hcc wr HD.out.all
        clear hx hcc
        obtain ⟨kd, tl, ti⟩ := x
        simp only at c0 c1 c2
        have HBX := Lib.hid (HD.out.box HP.out (.cells #[.int .i64 kd, .int .i64 tl, .int .i64 ti] 30))
        have HIL := Lib.hid (show I.length ≤ 1000 by have := HI.out; omega)
        have HJ := Lib.hid (actI_len I kd tl ti)
        by_cases hk1 : kd = 1
        · subst hk1
          have HX : Hid (actI I 1 tl ti = It.add I tl ti) := rfl
          go_upto_region 11 with fail
          have HV := Lib.hid (show (wr.alloc (.cells #[.int .i64 1, .int .i64 tl, .int .i64 ti] 30)).heap[wr.heap.size]? = some (.cells #[.int .i64 1, .int .i64 tl, .int .i64 ti] 30 (0, 0)) from heap_alloc_new wr _)
          clear c0 c1 c2
          generalize wr.alloc (.cells #[.int .i64 1, .int .i64 tl, .int .i64 ti] 30) = V at *
          have HCL := Lib.hid (fun W (h : Keep (fun k => noG k ∨ k = wr.heap.size) V W) => box_cells ((h.2 _ (.inr rfl)).trans HV.out))
          obtain ⟨hd0, he0⟩ := HBX.out.below HP.out (Below.refl V.heap.size V).drew
          have E0 := Lib.hid he0
          have hS0 := HCL.out _ E0.out
          have C1 := Lib.hid (d8_add HP.out hd0 tl ti (by have := HIL.out; omega))
          have C2 := Lib.hid (fun W (h : D8 PL (fun k => noG k ∨ k = wr.heap.size) w W a w1.heap.size (It.add I tl ti) I) => d8r_add HP.out h tl ti (by have := HIL.out; omega))
          clear hd0 he0
          generalize hhb : It.has I tl ti = hb at C1 C2
          clear hhb
          go_region_held3 (fun W => W.cell? ⟨wr.heap.size, 1, none⟩ = some (.int .i64 tl) ∧ W.cell? ⟨wr.heap.size, 2, none⟩ = some (.int .i64 ti)) (first | exact hS0 | exact hS1 | exact hS2)
            (first
              | (go_at_call 11; (with_reducible refine (C2.out _ H2.out).mono ?_); rintro e w3 ⟨rfl, h3, e3⟩; have H3 := Lib.hid h3; have E3 := Lib.hid (E2.out.trans e3); have hS2 := HCL.out _ E3.out; clear h3 e3)
              | (go_at_call 10; (with_reducible refine C1.out.mono ?_); rintro e w2 ⟨rfl, h2, e2⟩; have H2 := Lib.hid h2; have E2 := Lib.hid (E0.out.trans e2); have hS1 := HCL.out _ E2.out; clear h2 e2))
          clear hS0 hS1 hS2
          go_upto_region 15 with fail
          rw [← HX.out] at H3
          generalize actI I 1 tl ti = I2 at *
          clear C1 C2 HX H2 E2 E0 HBX
          obtain ⟨k1, k2⟩ := HCL.out _ E3.out
          have C3 := Lib.hid (d8r_walk HP.out H3.out tl (by have := HJ.out; have := HIL.out; omega))
          have HP1 := Lib.hid (fun W (h : D8 PL (fun k => noG k ∨ k = wr.heap.size) w W a w1.heap.size I2 I2) => plays_calls HP.out h tl (by have := HJ.out; have := HIL.out; omega))
          have HWL := Lib.hid (It.walk_len_le I2 tl)
          generalize It.walk I2 tl = L at C3 HP1 HWL
          go_upto_region 16 with (go_at_call 14; (with_reducible refine C3.out.mono ?_); rintro e w4 ⟨v, rfl, hr, hb4⟩; obtain ⟨AW, cW, e4, hn4⟩ := hr.nr; subst e4; have HN4 := Lib.hid hn4; have HB4 := Lib.hid hb4; clear hr hb4 hn4)
          have H4 := Lib.hid (H3.out.below HP.out HB4.out).1
          have E4 := Lib.hid (E3.out.trans (H3.out.below HP.out HB4.out).2)
          clear k1 k2 C3 H3 E3
          obtain ⟨A1, c1, hit⟩ := H4.out.items
          obtain ⟨k1, k2⟩ := HCL.out _ E4.out
          have HW4 := Lib.hid (fun W (hb : Below w4.heap.size w4 W) => box_items hb k1 hit)
          have HD4 := Lib.hid (fun W (hb : Below w4.heap.size w4 W) => HP1.out W (H4.out.below HP.out hb).1)
          have HR4 := Lib.hid (fun W (hb : Below w4.heap.size w4 W) => HN4.out.r.below hb)
          generalize hLn : L.length = n at *
          have HLn := Lib.hid hLn
          have HJN := Lib.hid (show I2.length ≤ I.length + 1 from HJ.out)
          have HLN : Hid (n ≤ 900000) := by simp only [Hid]; have h1 := HWL.out; have h2 := HJ.out; have h3 := HIL.out; omega
          have HLE : Hid (LenLe I2 (k + 1)) := by simp only [Hid]; unfold LenLe; have h1 := HJ.out; have h2 := HI.out; omega
          generalize I2.length = N at *
          have B0 := Lib.hid ((Below.refl w4.heap.size w4).drew)
          have hS0 := HW4.out _ B0.out
          clear hit k1 k2 hLn
          go_region_held3 (fun W => W.cell? ⟨wr.heap.size, 1, none⟩ = some (.int .i64 tl) ∧ W.cell? ⟨w1.heap.size, 0, none⟩ = some (.slice A1 N c1)) (first | exact hS0 | exact hS5 | exact hS6 | exact hS7 | exact hS8 | exact hS9 | exact hS10)
            (first
              | (go_at_call 19; (with_reducible refine ((HD4.out _ B9.out).2.2).mono ?_); rintro e w10 ⟨rfl, hb⟩; have B10 := Lib.hid (bnext B9.out hb); have hS10 := HW4.out _ B10.out; clear hb)
              | (go_at_call 15; have _ := B8; (with_reducible refine (same8 _ _ L.reverse n _ _ _ R7.out R8.out (by rw [List.length_reverse]; exact HLn.out) HLN.out).mono ?_); rintro e w9 ⟨rfl, hb⟩; have B9 := Lib.hid (bnext B8.out hb); have hS9 := HW4.out _ B9.out; clear hb)
              | (go_at_call 18; (with_reducible refine (turned8 _ L n _ _ (HR4.out _ B7.out) HLn.out HLN.out).mono ?_); rintro e w8 ⟨A8, c8, rfl, hn8, hb⟩; have B8 := Lib.hid (bnext B7.out hb); have R8 := Lib.hid hn8.r; have R7 := Lib.hid (R70.out.below hb); have hS8 := HW4.out _ B8.out; clear hb hn8)
              | (go_at_call 17; (with_reducible refine ((HD4.out _ B6.out).2.1).mono ?_); rintro e w7 ⟨A7, c7, rfl, hn7, hb⟩; have B7 := Lib.hid (bnext B6.out hb); have R70 := Lib.hid hn7.r; have hS7 := HW4.out _ B7.out; clear hb hn7)
              | (go_at_call 15; (with_reducible refine (same8 _ _ L n _ _ _ R5.out (HR4.out _ B5.out) HLn.out HLN.out).mono ?_); rintro e w6 ⟨rfl, hb⟩; have B6 := Lib.hid (bnext B5.out hb); have hS6 := HW4.out _ B6.out; clear hb)
              | (go_at_call 16; (with_reducible refine ((HD4.out _ B0.out).1).mono ?_); rintro e w5 ⟨A5, c5, rfl, hn5, hb⟩; have B5 := Lib.hid (bnext B0.out hb); have R5 := Lib.hid hn5.r; have hS5 := HW4.out _ B5.out; clear hb hn5))
          clear hS0 hS5 hS6 hS7 hS8 hS9 hS10
          go_wp2
          exact ⟨⟨k + 1, I2, by omega, by omega, by go_num, HLE.out, (H4.out.below HP.out B10.out).1.less (fun j hj => .inl hj)⟩, by simp [intOf]; omega⟩
        · have hq1 : (kd == 1) = false := by simpa using hk1
          have HX : Hid (actI I kd tl ti = It.cut I tl ti) := by simp only [Hid]; unfold actI; rw [if_neg hk1]
          go_upto_region 13 with fail
          have HV := Lib.hid (show (wr.alloc (.cells #[.int .i64 kd, .int .i64 tl, .int .i64 ti] 30)).heap[wr.heap.size]? = some (.cells #[.int .i64 kd, .int .i64 tl, .int .i64 ti] 30 (0, 0)) from heap_alloc_new wr _)
          clear c0 c1 c2
          generalize wr.alloc (.cells #[.int .i64 kd, .int .i64 tl, .int .i64 ti] 30) = V at *
          have HCL := Lib.hid (fun W (h : Keep (fun k => noG k ∨ k = wr.heap.size) V W) => box_cells ((h.2 _ (.inr rfl)).trans HV.out))
          obtain ⟨hd0, he0⟩ := HBX.out.below HP.out (Below.refl V.heap.size V).drew
          have E0 := Lib.hid he0
          have hS0 := HCL.out _ E0.out
          have C1 := Lib.hid (d8_cut HP.out hd0 tl ti (by have := HIL.out; omega))
          have C2 := Lib.hid (fun W (h : D8 PL (fun k => noG k ∨ k = wr.heap.size) w W a w1.heap.size (It.cut I tl ti) I) => d8r_cut HP.out h tl ti (by have := HIL.out; omega))
          clear hd0 he0
          generalize hhb : It.has I tl ti = hb at C1 C2
          clear hhb
          go_region_held3 (fun W => W.cell? ⟨wr.heap.size, 1, none⟩ = some (.int .i64 tl) ∧ W.cell? ⟨wr.heap.size, 2, none⟩ = some (.int .i64 ti)) (first | exact hS0 | exact hS1 | exact hS2)
            (first
              | (go_at_call 13; (with_reducible refine (C2.out _ H2.out).mono ?_); rintro e w3 ⟨rfl, h3, e3⟩; have H3 := Lib.hid h3; have E3 := Lib.hid (E2.out.trans e3); have hS2 := HCL.out _ E3.out; clear h3 e3)
              | (go_at_call 12; (with_reducible refine C1.out.mono ?_); rintro e w2 ⟨rfl, h2, e2⟩; have H2 := Lib.hid h2; have E2 := Lib.hid (E0.out.trans e2); have hS1 := HCL.out _ E2.out; clear h2 e2))
          clear hS0 hS1 hS2
          go_upto_region 15 with fail
          rw [← HX.out] at H3
          generalize actI I kd tl ti = I2 at *
          clear C1 C2 HX H2 E2 E0 HBX
          obtain ⟨k1, k2⟩ := HCL.out _ E3.out
          have C3 := Lib.hid (d8r_walk HP.out H3.out tl (by have := HJ.out; have := HIL.out; omega))
          have HP1 := Lib.hid (fun W (h : D8 PL (fun k => noG k ∨ k = wr.heap.size) w W a w1.heap.size I2 I2) => plays_calls HP.out h tl (by have := HJ.out; have := HIL.out; omega))
          have HWL := Lib.hid (It.walk_len_le I2 tl)
          generalize It.walk I2 tl = L at C3 HP1 HWL
          go_upto_region 16 with (go_at_call 14; (with_reducible refine C3.out.mono ?_); rintro e w4 ⟨v, rfl, hr, hb4⟩; obtain ⟨AW, cW, e4, hn4⟩ := hr.nr; subst e4; have HN4 := Lib.hid hn4; have HB4 := Lib.hid hb4; clear hr hb4 hn4)
          have H4 := Lib.hid (H3.out.below HP.out HB4.out).1
          have E4 := Lib.hid (E3.out.trans (H3.out.below HP.out HB4.out).2)
          clear k1 k2 C3 H3 E3
          obtain ⟨A1, c1, hit⟩ := H4.out.items
          obtain ⟨k1, k2⟩ := HCL.out _ E4.out
          have HW4 := Lib.hid (fun W (hb : Below w4.heap.size w4 W) => box_items hb k1 hit)
          have HD4 := Lib.hid (fun W (hb : Below w4.heap.size w4 W) => HP1.out W (H4.out.below HP.out hb).1)
          have HR4 := Lib.hid (fun W (hb : Below w4.heap.size w4 W) => HN4.out.r.below hb)
          generalize hLn : L.length = n at *
          have HLn := Lib.hid hLn
          have HJN := Lib.hid (show I2.length ≤ I.length + 1 from HJ.out)
          have HLN : Hid (n ≤ 900000) := by simp only [Hid]; have h1 := HWL.out; have h2 := HJ.out; have h3 := HIL.out; omega
          have HLE : Hid (LenLe I2 (k + 1)) := by simp only [Hid]; unfold LenLe; have h1 := HJ.out; have h2 := HI.out; omega
          generalize I2.length = N at *
          have B0 := Lib.hid ((Below.refl w4.heap.size w4).drew)
          have hS0 := HW4.out _ B0.out
          clear hit k1 k2 hLn
          go_region_held3 (fun W => W.cell? ⟨wr.heap.size, 1, none⟩ = some (.int .i64 tl) ∧ W.cell? ⟨w1.heap.size, 0, none⟩ = some (.slice A1 N c1)) (first | exact hS0 | exact hS5 | exact hS6 | exact hS7 | exact hS8 | exact hS9 | exact hS10)
            (first
              | (go_at_call 19; (with_reducible refine ((HD4.out _ B9.out).2.2).mono ?_); rintro e w10 ⟨rfl, hb⟩; have B10 := Lib.hid (bnext B9.out hb); have hS10 := HW4.out _ B10.out; clear hb)
              | (go_at_call 15; have _ := B8; (with_reducible refine (same8 _ _ L.reverse n _ _ _ R7.out R8.out (by rw [List.length_reverse]; exact HLn.out) HLN.out).mono ?_); rintro e w9 ⟨rfl, hb⟩; have B9 := Lib.hid (bnext B8.out hb); have hS9 := HW4.out _ B9.out; clear hb)
              | (go_at_call 18; (with_reducible refine (turned8 _ L n _ _ (HR4.out _ B7.out) HLn.out HLN.out).mono ?_); rintro e w8 ⟨A8, c8, rfl, hn8, hb⟩; have B8 := Lib.hid (bnext B7.out hb); have R8 := Lib.hid hn8.r; have R7 := Lib.hid (R70.out.below hb); have hS8 := HW4.out _ B8.out; clear hb hn8)
              | (go_at_call 17; (with_reducible refine ((HD4.out _ B6.out).2.1).mono ?_); rintro e w7 ⟨A7, c7, rfl, hn7, hb⟩; have B7 := Lib.hid (bnext B6.out hb); have R70 := Lib.hid hn7.r; have hS7 := HW4.out _ B7.out; clear hb hn7)
              | (go_at_call 15; (with_reducible refine (same8 _ _ L n _ _ _ R5.out (HR4.out _ B5.out) HLn.out HLN.out).mono ?_); rintro e w6 ⟨rfl, hb⟩; have B6 := Lib.hid (bnext B5.out hb); have hS6 := HW4.out _ B6.out; clear hb)
              | (go_at_call 16; (with_reducible refine ((HD4.out _ B0.out).1).mono ?_); rintro e w5 ⟨A5, c5, rfl, hn5, hb⟩; have B5 := Lib.hid (bnext B0.out hb); have R5 := Lib.hid hn5.r; have hS5 := HW4.out _ B5.out; clear hb hn5))
          clear hS0 hS5 hS6 hS7 hS8 hS9 hS10
          go_wp2
          exact ⟨⟨k + 1, I2, by omega, by omega, by go_num, HLE.out, (H4.out.below HP.out B10.out).1.less (fun j hj => .inl hj)⟩, by simp [intOf]; omega⟩
      · have hend : ¬ k < l.length ∨ (k < l.length ∧ k = 100) := by omega
        have HIL := Lib.hid (show I.length ≤ 1000 by have := HI.out; omega)
        have HDL := HD
        clear hlt HI HD
        rcases hend with h1 | ⟨h1, h2⟩
        case' inr => subst h2
        all_goals (
          go_wp2
          go_loopw [8] (fun i wr => ∃ j : Nat, j ≤ l.length ∧ j ≤ 100 ∧ i = .int .i64 (j : Nat) ∧ Hid (D8 PL noG w wr a w1.heap.size I I)) (fun i _ => 100 - (intOf i).toNat)
          case atStart => exact ⟨0, Nat.zero_le _, by omega, rfl, HDL.out⟩
          case round =>
            obtain ⟨j, hj, hj100, rfl, HD⟩ := hrel
            clear HDL
            by_cases hlt : j < l.length ∧ j < 100
            · obtain ⟨hl1, hl2⟩ := hlt
              obtain ⟨ad, pk, hA, hpk, hcc⟩ := act8_at HS.out (k := j) hl1
              simp only at hA hcc hpk
              subst hA
              obtain ⟨x, hx⟩ : ∃ x, x = l[j] := ⟨_, rfl⟩
              rw [← hx] at hcc
              have HCC := Lib.hid hcc
              obtain ⟨c0, c1, c2⟩ := hcc wr HD.out.all
              clear hx hcc
              obtain ⟨kd, tl, ti⟩ := x
              simp only at c0 c1 c2 HCC
              have C3 := Lib.hid (d8r_walk HP.out HD.out tl (by have := HIL.out; omega))
              have HP1 := Lib.hid (fun W (h : D8 PL noG w W a w1.heap.size I I) => plays_calls HP.out h tl (by have := HIL.out; omega))
              have HP2 := Lib.hid (fun W (h : D8 PL noG w W a w1.heap.size I I) => d8_has HP.out h tl ti (by have := HIL.out; omega))
              have HWL := Lib.hid (It.walk_len_le I tl)
              have HHA := Lib.hid (any_has I tl ti)
              generalize It.walk I tl = L at C3 HP1 HWL HHA
              go_wp2_with (go_at_call 14; (with_reducible refine C3.out.mono ?_); rintro e w4 ⟨v, rfl, hr, hb4⟩; obtain ⟨AW, cW, e4, hn4⟩ := hr.nr; subst e4; have HN4 := Lib.hid hn4; have HB4 := Lib.hid hb4; clear hr hb4 hn4)
              have H4 := Lib.hid (HD.out.below HP.out HB4.out).1
              clear c0 c1 c2 C3 HD
              have HD4 := Lib.hid (fun W (hb : Below w4.heap.size w4 W) => HP1.out W (H4.out.below HP.out hb).1)
              have HE4 := Lib.hid (fun W (hb : Below w4.heap.size w4 W) => HP2.out W (H4.out.below HP.out hb).1)
              have HR4 := Lib.hid (fun W (hb : Below w4.heap.size w4 W) => HN4.out.r.below hb)
              have HC4 := Lib.hid (fun W (hb : Below w4.heap.size w4 W) => HCC.out W (H4.out.all.trans (hb.mono H4.out.all.size)))
              clear HP1 HP2 HCC HN4
              generalize hLn : L.length = n at *
              have HLn := Lib.hid hLn
              have HLN : Hid (n ≤ 900000) := by simp only [Hid]; have h1 := HWL.out; have h2 := HIL.out; omega
              have hn9 : n ≤ 900000 := HLN.out
              clear hLn
              go_loopw [9, 11] (fun z y wr => ∃ q : Nat, q ≤ n ∧ y = .int .i64 (q : Nat) ∧ z = .bool (inB L q ti) ∧ Hid (Below w4.heap.size w4 wr)) (fun _ y _ => n - (intOf y).toNat)
              case atStart => exact ⟨0, Nat.zero_le _, rfl, rfl, Below.refl _ _⟩
              case round =>
                obtain ⟨q, hq, rfl, rfl, HB⟩ := hrel
                by_cases hlt2 : q < n
                · have hq2 : q < L.length := by rw [HLn.out]; exact hlt2
                  obtain ⟨ad2, e2, hc2⟩ := HR4.out _ HB.out q hq2
                  subst e2
                  have HIN := Lib.hid (inB_succ L q ti hq2)
                  generalize L[q] = y at hc2 HIN
                  obtain ⟨c0, c1, c2⟩ := HC4.out _ HB.out
                  have hq5 : IntKind.i64.wrap (q : Int) = (q : Int) := wrapI (by omega)
                  have hq0 : (0 : Int) ≤ (q : Int) := by omega
                  clear hq2
                  generalize inB L q ti = bq at *
                  cases bq
                  all_goals (
                    go_wp2_with fail
                    go_quiet (fail)
                    go_wp2
                    exact ⟨⟨q + 1, by omega, by go_num, by rw [HIN.out]; rfl, below_drewN HB.out _⟩, by simp [intOf]; omega⟩)
                · obtain rfl : q = n := by omega
                  have HQ : inB L q ti = It.has I tl ti := by
                    unfold inB
                    rw [List.take_of_length_le (by have := HLn.out; omega)]
                    exact HHA.out
                  rw [HQ]
                  clear HQ HHA
                  generalize It.has I tl ti = hb at *
                  obtain ⟨c0, c1, c2⟩ := HC4.out _ HB.out
                  go_upto_region 27 with fail
                  have B0 := Lib.hid HB.out.drew
                  have hS0 := (HC4.out _ B0.out).2
                  clear c0 c1 c2
                  go_region_held3 (fun W => W.cell? ⟨pk.block, pk.off + 1, none⟩ = some (.int .i64 tl) ∧ W.cell? ⟨pk.block, pk.off + 2, none⟩ = some (.int .i64 ti)) (first | exact hS0 | exact hS2 | exact hS3 | exact hS4)
                    (first
                      | (go_at_call 15; (with_reducible refine (same8 _ _ L q _ _ _ R3.out (HR4.out _ B3.out) HLn.out HLN.out).mono ?_); rintro e w7 ⟨rfl, hb⟩; have B4 := Lib.hid (bnext B3.out hb); have hS4 := (HC4.out _ B4.out).2; clear hb)
                      | (go_at_call 16; (with_reducible refine ((HD4.out _ B2.out).1).mono ?_); rintro e w6 ⟨A6, c6, rfl, hn6, hb⟩; have B3 := Lib.hid (bnext B2.out hb); have R3 := Lib.hid hn6.r; have hS3 := (HC4.out _ B3.out).2; clear hb hn6)
                      | (go_at_call 20; (with_reducible refine (HE4.out _ B0.out).mono ?_); rintro e w5 ⟨rfl, hb⟩; have B2 := Lib.hid (bnext B0.out hb); have hS2 := (HC4.out _ B2.out).2; clear hb))
                  clear hS0 hS2 hS3 hS4
                  go_wp2
                  exact ⟨⟨j + 1, by omega, by omega, by go_num, (H4.out.below HP.out B4.out).1⟩, by simp [intOf]; omega⟩
            · have hend2 : ¬ j < l.length ∨ (j < l.length ∧ j = 100) := by omega
              clear hlt
              rcases hend2 with h3 | ⟨h3, h4⟩
              case' inr => subst h4
              all_goals (
                go_wp2_with (go_at_call 21; (with_reducible refine (DK.out _).mono ?_); rintro e w9 ⟨rfl, hb9⟩; have B9 := Lib.hid hb9; clear hb9)
                all_goals (
                  go_ret
                  exact ⟨rfl, bnext HD.out.all B9.out⟩)))
end
end Go.Proofs.Ytfmbogpbhchelaa
