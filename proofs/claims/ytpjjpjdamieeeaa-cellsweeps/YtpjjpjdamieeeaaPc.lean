/- What Spare of package cell returns. Conditions: the Cell and its Clock lie in memory. -/
import Derived.Test.YtpjjpjdamieeeaaPb
import Derived.Deep.CutBlock
namespace Go.Proofs.Ytpjjpjdamieeeaa
set_option maxRecDepth 100000
set_option linter.unusedVariables false
open Go.ChangeShapes Go.WideShapes Go.ChangeAt Go.RowKit
section
variable {F R : Nat → Prop} {w : World} {a b bx : Nat} {c : Ck} {l m : List (Ver Int)} {v : Value}
theorem cidx_any (h : ORow w 85 3 v m.length (pvs m)) (hr : PC R w b c) (hbx : w.cell? ⟨bx, 0, none⟩ = some (.pointer (some ⟨b, 0, none⟩))) :
    Calls Try.prog 68 #[v, .func (.func 51) #[] #[.pointer (some ⟨bx, 0, none⟩)]] w fun e w' => (∃ i : Int, e = .returned (.int .i64 i) ∧ decide (0 ≤ i) = m.any (fun x => c.settled x.w)) ∧ Below w.heap.size w w' := by
  have HC := Lib.hid (fun W (hW : Below w.heap.size w W) (x : Ver Int) => csp1_any (hr.below hW) x (bx := bx) ((hW.cell (p := ⟨bx, 0, none⟩) (World.block_lt_of_cell? w _ hbx)).trans hbx))
  have hbig := h.big
  have HR := Lib.hid (fun W (hW : Below w.heap.size w W) => h.same (w' := W) (fun k hk => hW.block k (h.lt k hk)))
  obtain ⟨A, cp, rfl⟩ := h.slice
  clear h hr hbx
  go_enter Try.func68, Try.ntmps68
  go_wp2
  go_loopw [5, 8] (fun _ i wr => ∃ k : Nat, k ≤ m.length ∧ i = .int .i64 k ∧ Hid (Below w.heap.size w wr) ∧ Hid (∀ j (hj : j < m.length), j < k → c.settled m[j].w = false)) (fun _ i _ => m.length - (intOf i).toNat)
  case atStart => exact ⟨0, Nat.zero_le _, rfl, Below.refl _ _, fun j hj h => absurd h (by omega)⟩
  case round =>
    obtain ⟨k, hk, rfl, HB, HN⟩ := hrel
    by_cases hlt : k < m.length
    · obtain ⟨g, o, cp', hgg, hcp⟩ := (HR.out wr HB.out).form (by omega)
      injection hgg with hgg _ hcc
      subst hgg
      subst hcc
      obtain ⟨q0, q1, q2, _⟩ := orow_at (HR.out wr HB.out) hlt
      have HX := HC.out wr HB.out m[k]
      cases hs : c.settled m[k].w with
      | true =>
        rw [hs] at HX
        have HANY : Hid (m.any (fun x => c.settled x.w) = true) := List.any_eq_true.2 ⟨_, List.getElem_mem hlt, hs⟩
        have HX := Lib.hid HX
        clear hs
        generalize m[k] = x at *
        unfold pvA at HX
        go_wp2_with (go_at_call 51; (with_reducible refine HX.out.mono ?_); rintro e w4 ⟨rfl, hb4⟩)
        go_ret
        exact ⟨⟨_, rfl, by rw [HANY.out]; exact decide_eq_true (by omega)⟩, HB.out.trans (hb4.mono HB.out.size)⟩
      | false =>
        rw [hs] at HX
        have HN2 : Hid (∀ j (hj : j < m.length), j < k + 1 → c.settled m[j].w = false) := fun j hj h => by
          by_cases e : j = k
          · subst e; exact hs
          · exact HN.out j hj (by omega)
        have HX := Lib.hid HX
        clear hs
        generalize m[k] = x at *
        unfold pvA at HX
        go_wp2_with (go_at_call 51; (with_reducible refine HX.out.mono ?_); rintro e w4 ⟨rfl, hb4⟩; have HB4 := Lib.hid (HB.out.trans (hb4.mono HB.out.size)); clear hb4)
        exact ⟨⟨k + 1, by omega, by go_num, HB4.out, HN2.out⟩, by simp [intOf]; omega⟩
    · obtain rfl : k = m.length := by omega
      have HANY : Hid (m.any (fun x => c.settled x.w) = false) := by
        simp only [Hid]
        rw [List.any_eq_false]
        intro x hx
        obtain ⟨j, hj, rfl⟩ := List.getElem_of_mem hx
        rw [HN.out j hj hj]; simp
      go_wp2
      go_ret
      exact ⟨⟨_, rfl, by rw [HANY.out]; rfl⟩, HB.out⟩
theorem chas_any (h : ORow w 85 3 v m.length (pvs m)) (hr : PC R w b c) (hbx : w.cell? ⟨bx, 0, none⟩ = some (.pointer (some ⟨b, 0, none⟩))) :
    Calls Try.prog 50 #[v, .func (.func 51) #[] #[.pointer (some ⟨bx, 0, none⟩)]] w fun e w' => e = .returned (.bool (m.any (fun x => c.settled x.w))) ∧ Below w.heap.size w w' := by
  have HI := Lib.hid (cidx_any h hr hbx)
  clear h hr hbx
  go_enter Try.func50, Try.ntmps50
  go_wp2_with (go_at_call 68; (with_reducible refine HI.out.mono ?_); rintro e w4 ⟨⟨i, rfl, hi⟩, hb4⟩)
  go_ret
  exact ⟨rfl, hb4⟩
theorem cspare_none (w : World) (p : Value) (ptr : Option Addr) (hp : p = .pointer ptr) (hl : ∀ W, Below w.heap.size w W → Calls Try.prog 18 #[p] W fun e w' => e = .returned (.int .i64 0) ∧ W = w') (q : Option Addr) :
    Calls Try.prog 20 #[p, .pointer q] w fun e w' => e = .returned (.bool false) ∧ Below w.heap.size w w' := by
  subst hp
  have hb := (Below.refl w.heap.size w).alloc (Nat.le_refl _) (.cells #[.pointer q] 30)
  have HL := Lib.hid (hl _ hb)
  have HB := Lib.hid hb
  clear hl hb
  go_enter Try.func20, Try.ntmps20
  go_wp2_with (go_at_call 18; (with_reducible refine HL.out.mono ?_); rintro e w4 ⟨rfl, rfl⟩)
  go_ret
  exact ⟨rfl, HB.out⟩
theorem cspare_nil (w : World) (q : Option Addr) : Calls Try.prog 20 #[.pointer none, .pointer q] w fun e w' => e = .returned (.bool false) ∧ Below w.heap.size w w' :=
  cspare_none w _ none rfl (fun W _ => clen_nil W) q
/-- What the front's slicing makes of a row. -/
theorem tail_row {y : Ver Int} {r : List (Ver Int)} {W : World} {g o cp : Nat} (h : ORow W 85 3 (.slice (some ⟨g, o, none⟩) (y :: r).length cp) (y :: r).length (pvs (y :: r))) :
    (cp = 1 → r = [] ∧ ORow W 85 3 (.slice (some ⟨g, o, none⟩) 0 0) 0 []) ∧ (cp ≠ 1 → ORow W 85 3 (.slice (some ⟨g, o + 3, none⟩) r.length (cp - 1)) r.length (pvs r)) := by
  obtain ⟨cur, _, hcp, _⟩ := h.open
  refine ⟨fun e => ⟨?_, h.nothing⟩, fun _ => ?_⟩
  · subst e
    simp at hcp
    exact hcp
  · have := h.drop (i := 1) (by simp)
    simpa [pvs, pv] using this
set_option maxHeartbeats 1000000 in
theorem cspare_some {y : Ver Int} {r : List (Ver Int)} (h : CC F w a (y :: r)) (hr : PC R w b c) :
    Calls Try.prog 20 #[.pointer (some ⟨a, 0, none⟩), .pointer (some ⟨b, 0, none⟩)] w fun e w' => e = .returned (.bool ((y.g && c.settled y.w) || r.any (fun x => c.settled x.w))) ∧ Below w.heap.size w w' := by
  have hb := (Below.refl w.heap.size w).alloc (Nat.le_refl _) (.cells #[.pointer (some ⟨b, 0, none⟩)] 30)
  have HL := clen_any (h.below hb)
  obtain ⟨v1, h⟩ := h
  have hm := h.below hb
  obtain ⟨k0, kf⟩ := hm.cells
  obtain ⟨g, o, cp, rfl, hcp, _, q0, q1, q2, qf⟩ := hm.row (k := 0) (by simp)
  have HT := Lib.hid (tail_row hm.r1)
  simp only [List.getElem_cons_zero, Nat.zero_mul, Nat.add_zero] at q0 q1 q2
  rw [List.length_cons] at k0 HL hcp
  have HL := Lib.hid HL
  have hbx := Lib.hid (heap_alloc_new w (.cells #[.pointer (some ⟨b, 0, none⟩)] 30))
  have hbig := hm.big
  have HCK := Lib.hid (hr.below hb)
  have HB := Lib.hid hb
  rw [List.length_cons] at hbig
  have hl1 : ((r.length : Int) + 1 == 0) = false := by rw [beq_eq_false_iff_ne]; omega
  have h1l : (1 : Int) ≤ (r.length : Int) + 1 := by omega
  have h1c : 1 ≤ cp := by omega
  have h1z : 0 < r.length + 1 := by omega
  have HAL : Hid (∀ ob : Obj, ((w.alloc (.cells #[.pointer (some ⟨b, 0, none⟩)] 30)).alloc ob).cell? ⟨a, 0, none⟩ = some (.slice (some ⟨g, o, none⟩) (r.length + 1) cp) ∧ ((w.alloc (.cells #[.pointer (some ⟨b, 0, none⟩)] 30)).alloc ob).cell? ⟨g, o, none⟩ = some (.int .i64 y.w) ∧ ((w.alloc (.cells #[.pointer (some ⟨b, 0, none⟩)] 30)).alloc ob).cell? ⟨g, o + 1, none⟩ = some (.int .i64 (kv y)) ∧ ((w.alloc (.cells #[.pointer (some ⟨b, 0, none⟩)] 30)).alloc ob).cell? ⟨g, o + 2, none⟩ = some (.bool y.g)) := fun ob => by
    have hb2 := (Below.refl (w.alloc (.cells #[.pointer (some ⟨b, 0, none⟩)] 30)).heap.size _).alloc (Nat.le_refl _) ob
    exact ⟨(hb2.cell (p := ⟨a, 0, none⟩) (World.block_lt_of_cell? _ _ k0)).trans k0, (hb2.cell (p := ⟨g, o, none⟩) (World.block_lt_of_cell? _ _ q0)).trans q0, (hb2.cell (p := ⟨g, o + 1, none⟩) (World.block_lt_of_cell? _ _ q1)).trans q1, (hb2.cell (p := ⟨g, o + 2, none⟩) (World.block_lt_of_cell? _ _ q2)).trans q2⟩
  have HSZ : Hid ((w.alloc (.cells #[.pointer (some ⟨b, 0, none⟩)] 30)).heap.size = w.heap.size + 1) := by simp [Hid]
  clear h hm hr hb
  generalize hW : (w.alloc (.cells #[.pointer (some ⟨b, 0, none⟩)] 30)) = W at *
  have HW := Lib.hid hW
  obtain ⟨a0, a1, a2, a3⟩ := HAL.out (.cells #[.int .i64 0, .int .i64 0, .bool false] 85)
  obtain ⟨b0, b1, b2, b3⟩ := HAL.out (.cells #[.int .i64 y.w, .int .i64 (kv y), .bool y.g] 85)
  have HB2 := Lib.hid ((Below.refl W.heap.size W).alloc (Nat.le_refl _) (.cells #[.int .i64 y.w, .int .i64 (kv y), .bool y.g] 85)).drew
  have HCK2 := Lib.hid (HCK.out.below HB2.out)
  have HST := Lib.hid (settled_any HCK2.out y.w)
  have hbx2 : ((W.alloc (.cells #[.int .i64 y.w, .int .i64 (kv y), .bool y.g] 85)).drew).cell? ⟨w.heap.size, 0, none⟩ = some (.pointer (some ⟨b, 0, none⟩)) := by
    rw [HB2.out.cell (p := ⟨w.heap.size, 0, none⟩) (by have := HSZ.out; show w.heap.size < W.heap.size; omega), cell_of_row W _ 0 _ _ _ hbx.out]; rfl
  clear hW
  by_cases hc1 : cp = 1
  · obtain ⟨hr0, HROW⟩ := HT.out.1 hc1
    subst hc1
    subst hr0
    have HRV := Lib.hid (HROW.same (w' := ((W.alloc (.cells #[.int .i64 y.w, .int .i64 (kv y), .bool y.g] 85)).drew)) (fun k hk => HB2.out.block k (HROW.lt k hk)))
    have HRV : Hid (ORow _ _ _ _ ([] : List (Ver Int)).length (pvs [])) := HRV
    clear HT HROW
    go_enter Try.func20, Try.ntmps20
    go_upto_region 1 with fail
    rw [HW.out]
    go_upto_region 3 with (go_at_call 18; (with_reducible refine HL.out.mono ?_); rintro e w4 ⟨rfl, rfl⟩)
    go_region
    clear a0 a1 a2 a3 b0 b1 b2 b3 k0 kf q0 q1 q2 qf HAL HL HCK
    generalize hV : ((W.alloc (.cells #[.int .i64 y.w, .int .i64 (kv y), .bool y.g] 85)).drew) = V at *
    have y0 : V.cell? ⟨W.heap.size, 0, none⟩ = some (.int .i64 y.w) := by rw [← hV]; simp [go_sem]
    have y2 : V.cell? ⟨W.heap.size, 2, none⟩ = some (.bool y.g) := by rw [← hV]; simp [go_sem]
    clear hV
    have HBV := Lib.hid (HB.out.trans (HB2.out.mono HB.out.size))
    have HHS : Hid (∀ V1, Below V.heap.size V V1 → V1.cell? ⟨w.heap.size, 0, none⟩ = some (.pointer (some ⟨b, 0, none⟩))) := fun V1 h1 => (h1.cell (p := ⟨w.heap.size, 0, none⟩) (World.block_lt_of_cell? _ _ hbx2)).trans hbx2
    cases hyg : y.g
    all_goals rw [hyg] at y2
    · have HC := Lib.hid (chas_any HRV.out HCK2.out (bx := w.heap.size) hbx2)
      have HYG := Lib.hid hyg
      clear hyg
      go_wp2_with (go_at_call 50; (with_reducible refine HC.out.mono ?_); rintro e w4 ⟨rfl, hb4⟩)
      go_ret
      exact ⟨ret_b (by rw [HYG.out]; simp), HBV.out.trans (hb4.mono HBV.out.size)⟩
    · cases hst : c.settled y.w
      all_goals rw [hst] at HST
      · have HC := Lib.hid (fun V1 (h1 : Below V.heap.size V V1) => chas_any (HRV.out.same (w' := V1) (fun k hk => h1.block k (HRV.out.lt k hk))) (HCK2.out.below h1) (bx := w.heap.size) (HHS.out V1 h1))
        have HYG := Lib.hid hyg
        have HSS := Lib.hid hst
        clear hst hyg
        go_wp2_with (first
          | (go_at_call 49; (with_reducible refine HST.out.mono ?_); rintro e w3 ⟨rfl, hb3⟩; have HB3 := Lib.hid hb3; clear hb3)
          | (go_at_call 50; (with_reducible refine (HC.out _ HB3.out).mono ?_); rintro e w4 ⟨rfl, hb4⟩))
        go_ret
        exact ⟨ret_b (by rw [HYG.out, HSS.out]; simp), HBV.out.trans ((HB3.out.trans (hb4.mono HB3.out.size)).mono HBV.out.size)⟩
      · have HYG := Lib.hid hyg
        have HSS := Lib.hid hst
        clear hst hyg
        go_wp2_with (go_at_call 49; (with_reducible refine HST.out.mono ?_); rintro e w3 ⟨rfl, hb3⟩; have HB3 := Lib.hid hb3; clear hb3)
        go_ret
        exact ⟨ret_b (by rw [HYG.out, HSS.out]; simp), HBV.out.trans (HB3.out.mono HBV.out.size)⟩
  · have HROW := HT.out.2 hc1
    have HRV := Lib.hid (HROW.same (w' := ((W.alloc (.cells #[.int .i64 y.w, .int .i64 (kv y), .bool y.g] 85)).drew)) (fun k hk => HB2.out.block k (HROW.lt k hk)))
    have hc2 : ¬ cp - 1 = 0 := by omega
    clear HT HROW
    go_enter Try.func20, Try.ntmps20
    go_upto_region 1 with fail
    rw [HW.out]
    go_upto_region 3 with (go_at_call 18; (with_reducible refine HL.out.mono ?_); rintro e w4 ⟨rfl, rfl⟩)
    go_region
    clear a0 a1 a2 a3 b0 b1 b2 b3 k0 kf q0 q1 q2 qf HAL HL HCK
    generalize hV : ((W.alloc (.cells #[.int .i64 y.w, .int .i64 (kv y), .bool y.g] 85)).drew) = V at *
    have y0 : V.cell? ⟨W.heap.size, 0, none⟩ = some (.int .i64 y.w) := by rw [← hV]; simp [go_sem]
    have y2 : V.cell? ⟨W.heap.size, 2, none⟩ = some (.bool y.g) := by rw [← hV]; simp [go_sem]
    clear hV
    have HBV := Lib.hid (HB.out.trans (HB2.out.mono HB.out.size))
    have HHS : Hid (∀ V1, Below V.heap.size V V1 → V1.cell? ⟨w.heap.size, 0, none⟩ = some (.pointer (some ⟨b, 0, none⟩))) := fun V1 h1 => (h1.cell (p := ⟨w.heap.size, 0, none⟩) (World.block_lt_of_cell? _ _ hbx2)).trans hbx2
    cases hyg : y.g
    all_goals rw [hyg] at y2
    · have HC := Lib.hid (chas_any HRV.out HCK2.out (bx := w.heap.size) hbx2)
      have HYG := Lib.hid hyg
      clear hyg
      go_wp2_with (go_at_call 50; (with_reducible refine HC.out.mono ?_); rintro e w4 ⟨rfl, hb4⟩)
      go_ret
      exact ⟨ret_b (by rw [HYG.out]; simp), HBV.out.trans (hb4.mono HBV.out.size)⟩
    · cases hst : c.settled y.w
      all_goals rw [hst] at HST
      · have HC := Lib.hid (fun V1 (h1 : Below V.heap.size V V1) => chas_any (HRV.out.same (w' := V1) (fun k hk => h1.block k (HRV.out.lt k hk))) (HCK2.out.below h1) (bx := w.heap.size) (HHS.out V1 h1))
        have HYG := Lib.hid hyg
        have HSS := Lib.hid hst
        clear hst hyg
        go_wp2_with (first
          | (go_at_call 49; (with_reducible refine HST.out.mono ?_); rintro e w3 ⟨rfl, hb3⟩; have HB3 := Lib.hid hb3; clear hb3)
          | (go_at_call 50; (with_reducible refine (HC.out _ HB3.out).mono ?_); rintro e w4 ⟨rfl, hb4⟩))
        go_ret
        exact ⟨ret_b (by rw [HYG.out, HSS.out]; simp), HBV.out.trans ((HB3.out.trans (hb4.mono HB3.out.size)).mono HBV.out.size)⟩
      · have HYG := Lib.hid hyg
        have HSS := Lib.hid hst
        clear hst hyg
        go_wp2_with (go_at_call 49; (with_reducible refine HST.out.mono ?_); rintro e w3 ⟨rfl, hb3⟩; have HB3 := Lib.hid hb3; clear hb3)
        go_ret
        exact ⟨ret_b (by rw [HYG.out, HSS.out]; simp), HBV.out.trans (HB3.out.mono HBV.out.size)⟩
theorem cspare_any (h : CC F w a l) (hr : PC R w b c) :
    Calls Try.prog 20 #[.pointer (some ⟨a, 0, none⟩), .pointer (some ⟨b, 0, none⟩)] w fun e w' => e = .returned (.bool (Ver.spare c l)) ∧ Below w.heap.size w w' := by
  cases l with
  | nil => exact cspare_none w _ (some ⟨a, 0, none⟩) rfl (fun W hW => clen_any (h.below hW)) _
  | cons y r => exact cspare_some h hr
end
end Go.Proofs.Ytpjjpjdamieeeaa
