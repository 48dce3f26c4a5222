/- What Write of package cell makes of a Cell. Conditions: the Cell and its Clock lie in memory; fewer than 900,000 versions. -/
import Derived.Test.YtpjjpjdamieeeaaPf
namespace Go.Proofs.Ytpjjpjdamieeeaa
set_option maxRecDepth 100000
set_option linter.unusedVariables false
open Go.ChangeShapes Go.WideShapes Go.ChangeAt Go.RowKit
section
variable {F R : Nat → Prop} {w W w' : World} {a b : Nat} {c : Ck} {l : List (Ver Int)} {v1 v' : Value} {t : Int}
theorem cwrite_nil (w : World) (p : Option Addr) (t v : Int) (g : Bool) : Calls Try.prog 23 #[.pointer none, .pointer p, .int .i64 t, .int .i64 v, .bool g] w fun e w' => e = .returned (.int .i64 4) ∧ w = w' := by
  have HC := Lib.hid (ccheck_nil w (.pointer p) t)
  go_enter Try.func23, Try.ntmps23
  go_wp2_with (go_at_call 17; (with_reducible refine HC.out.mono ?_); rintro e w1 ⟨rfl, rfl⟩)
  go_ret
  exact ⟨rfl, rfl⟩
theorem cwrite_no (h : CC F w a l) (hr : PC R w b c) (t v : Int) (g : Bool) (hk : Ver.chk c t l ≠ 0) :
    Calls Try.prog 23 #[.pointer (some ⟨a, 0, none⟩), .pointer (some ⟨b, 0, none⟩), .int .i64 t, .int .i64 v, .bool g] w (DoesC F w a (.int .i64 6) l) := by
  have H := Lib.hid h
  have HS := ccheck_any h hr t
  rw [(Ver.chk_le c t l).resolve_left hk] at HS
  have HS := Lib.hid HS
  clear h hr hk
  go_enter Try.func23, Try.ntmps23
  go_wp2_with (go_at_call 17; (with_reducible refine HS.out.mono ?_); rintro e w1 ⟨rfl, hb1⟩)
  go_ret
  exact doesC_of (H.out.below hb1) (Chg.below hb1) H.out.lt
theorem pnew_cells (W : World) (x : Ver Int) (t : TypeId) : ∀ j u, (pv x)[j]? = some u → (W.alloc (.cells #[.int .i64 x.w, .int .i64 (kv x), .bool x.g] t)).cell? ((⟨W.heap.size, 0, none⟩ : Addr).add j) = some u := fun j u hj => by
  rw [Addr.add_lit, Nat.zero_add, cell_of_row _ _ j _ _ _ (heap_alloc_new W _)]
  rw [← Array.getElem?_toList]
  exact hj
/-- As seen from the world in which Write began. -/
theorem cwrite_done {E : Int} {W5 : World} {L0 : List (Ver Int)} {v4 : Value} (h : CC F w a l) (hb : Below w.heap.size w W) (hp : CM (Nu F W W5) W5 a v4 L0 ∧ Chg F W W5) : DoesC F w a (.int .i64 E) L0 (.returned (.int .i64 E)) W5 := by
  have s1 := hb.size
  have s2 := hp.2.size
  refine ⟨rfl, ⟨v4, hp.1.same (fun k hk => ?_) (fun k hk => ?_) (fun _ _ => rfl)⟩, (Chg.below hb).trans (hp.2.mono (fun k hk => .inl hk))⟩
  · rcases hk with hk | hk
    · exact .inl hk
    · exact .inr ⟨by omega, hk.2⟩
  · rcases hk with hk | hk
    · have := h.lt k hk; omega
    · exact hk.2
set_option maxHeartbeats 2000000 in
theorem cwrite_yes (h : CC F w a l) (hr : PC R w b c) (t v : Int) (g : Bool) (hk : Ver.chk c t l = 0) (hl : l.length ≤ 800000) :
    Calls Try.prog 23 #[.pointer (some ⟨a, 0, none⟩), .pointer (some ⟨b, 0, none⟩), .int .i64 t, .int .i64 v, .bool g] w (DoesC F w a (.int .i64 0) (Ver.put t v g l)) := by
  have H := Lib.hid h
  have HS := ccheck_any h hr t
  rw [hk] at HS
  have HS := Lib.hid HS
  have HKV : Hid (kv ⟨t, v, g⟩ = if g then 0 else v) := rfl
  clear h hr hk
  cases g
  · go_enter Try.func23, Try.ntmps23
    go_upto_region 7 with (go_at_call 17; (with_reducible refine HS.out.mono ?_); rintro e w1 ⟨rfl, hb1⟩; have HB1 := Lib.hid hb1; clear hb1)
    have hbv := (Below.refl w1.heap.size w1).alloc (Nat.le_refl _) (.cells #[.int .i64 t, .int .i64 v, .bool false] 85)
    have HBV := Lib.hid (HB1.out.trans (hbv.mono HB1.out.size))
    have hblk := heap_alloc_new w1 (.cells #[.int .i64 t, .int .i64 v, .bool false] 85)
    generalize w1.alloc (.cells #[.int .i64 t, .int .i64 v, .bool false] 85) = V at *
    have y0 : V.cell? ⟨w1.heap.size, 0, none⟩ = some (.int .i64 t) := (cell_of_row V _ 0 _ _ _ hblk).trans rfl
    have y1 : V.cell? ⟨w1.heap.size, 1, none⟩ = some (.int .i64 v) := (cell_of_row V _ 1 _ _ _ hblk).trans rfl
    have y2 : V.cell? ⟨w1.heap.size, 2, none⟩ = some (.bool false) := (cell_of_row V _ 2 _ _ _ hblk).trans rfl
    clear hbv hblk HS HKV
    have HBA := Lib.hid ((Below.refl V.heap.size V).drew.alloc (Nat.le_refl _) (.cells #[.int .i64 t, .int .i64 v, .bool false] 85))
    have HC := Lib.hid (show ∀ j u, (pv ⟨t, v, false⟩)[j]? = some u → (V.drew.alloc (.cells #[.int .i64 t, .int .i64 v, .bool false] 85)).cell? ((⟨V.heap.size, 0, none⟩ : Addr).add j) = some u from pnew_cells V.drew ⟨t, v, false⟩ 85)
    obtain ⟨v1, hm⟩ := H.out.below HBV.out
    have HMV := Lib.hid hm
    obtain ⟨k0, kf⟩ := hm.cells
    have HR := Lib.hid (hm.below HBA.out).r1
    have k0' : (V.alloc (.cells #[.int .i64 t, .int .i64 v, .bool false] 85)).cell? ⟨a, 0, none⟩ = some v1 := (hm.below HBA.out).cells.1
    have e0 : ∀ k o, k < V.heap.size → (V.alloc (.cells #[.int .i64 t, .int .i64 v, .bool false] 85)).cell? ⟨k, o, none⟩ = V.cell? ⟨k, o, none⟩ := fun k o hk => HBA.out.cell (p := ⟨k, o, none⟩) hk
    have y0' := (e0 _ 0 (World.block_lt_of_cell? V _ y0)).trans y0
    have y1' := (e0 _ 1 (World.block_lt_of_cell? V _ y1)).trans y1
    have y2' := (e0 _ 2 (World.block_lt_of_cell? V _ y2)).trans y2
    clear e0
    rcases List.eq_nil_or_concat l with rfl | ⟨r, y, rfl⟩
    · have HPU : Hid (Ver.put t v false [] = [⟨t, v, false⟩]) := rfl
      rw [HPU.out]
      obtain ⟨A, cp, rfl⟩ := hm.r1.slice
      have HLL : Hid ((0 : Nat) ≤ 800000) := Nat.zero_le _
      clear hm
      go_upto_region 10 with fail
      go_region_law ((refine st_of rfl (orow_wp 83 85 _ 3 24 Try.underlying83 infoP rfl (by decide) (by decide) (.tmp 59) (.tmp 61) rfl _ _ (pvs ([] : List (Ver Int))) HR.out rfl ⟨V.heap.size, 0, none⟩ 1 1 (pv ⟨t, v, false⟩) rfl rfl HC.out (pv_one1 _) (by have := HLL.out; omega) ?_); intro v3 w3 hr3 hg3 ho3; have hr3' : ORow w3 85 3 v3 (0 + 1) (pvs ([] ++ [⟨t, v, false⟩])) := (by rw [pvs_app]; exact hr3); have HP := Lib.hid (HMV.out.lay HBA.out hr3' (by simp) hg3 ho3); obtain ⟨j0, jf⟩ := HP.out.2; obtain ⟨A3, c3, rfl⟩ := hr3.slice; clear hr3 hg3 ho3 hr3'))
      all_goals (
        go_wp2
        go_ret
        exact cwrite_done H.out HBV.out HP.out.1)
    · rw [List.concat_eq_append] at *
      have hrow := hm.row (k := r.length) (by simp)
      simp only [List.length_append, List.length_cons, List.length_nil, Nat.zero_add, List.getElem_append_right (Nat.le_refl r.length), Nat.sub_self, List.getElem_cons_zero] at hrow hl
      obtain ⟨gg, o, cp, rfl, hcp, _, q0, q1, q2, qf⟩ := hrow
      have hlr : r.length ≤ 800000 := by omega
      have hi5 : IntKind.i64.wrap (r.length : Int) = (r.length : Int) := wrapI (by omega)
      have hr0 : (0 : Int) ≤ (r.length : Int) := by omega
      have hr1 : r.length < r.length + 1 := by omega
      by_cases hy : y.w = t
      · have HPU : Hid (Ver.put t v false (r ++ [y]) = r ++ [⟨t, v, false⟩]) := by simp [Hid, Ver.put, hy]
        rw [HPU.out]
        have hst := ORow.storeds (o := o) (pv ⟨t, v, false⟩) V (pvs (r ++ [y])) (r.length * 3) (show ORow V 85 3 (.slice (some ⟨gg, o, none⟩) (r.length + 1) cp) (r.length + 1) (pvs (r ++ [y])) by have := hm.r1; simpa using this) (by simp [pv]; omega)
        rw [pvs_set _ _ (by simp), List.set_append_right _ _ (Nat.le_refl _), Nat.sub_self, List.set_cons_zero] at hst
        have HST := Lib.hid hst
        rw [hy] at q0
        clear hm hst hy k0' y0' y1' y2' HR HC HBA
        go_upto_region 9 with fail
        go_region
        go_wp2
        go_ret
        rw [HPU.out]
        have hsd := HST.out
        have hne : gg ≠ a := fun e => by
          obtain ⟨cur, q⟩ := HMV.out.r1.type (k := gg) rfl
          have := HMV.out.blk
          rw [← e, q] at this
          injection this with this; injection this with _ this; cases this
        have hblk := hsd.2.block a (HMV.out.lt a HMV.out.fa) (fun e => by injection e with e; exact hne e.symm)
        have hcg : Chg F V _ := (Chg.refl F V).grown hsd.2 (fun k e => by injection e with e; subst e; exact .inl (HMV.out.f1 gg rfl))
        exact doesC_of (w' := (V.setCells gg (o + r.length * 3) (pv ⟨t, v, false⟩)).drew) ⟨_, CM.same (F := F) (w := V.setCells gg (o + r.length * 3) (pv ⟨t, v, false⟩)) ⟨fun k hk => Nat.lt_of_lt_of_le (HMV.out.lt k hk) hsd.2.size, HMV.out.fa, HMV.out.f1, hblk.trans HMV.out.blk, by have := hsd.1; simpa using this⟩ (fun _ h => h) (fun k hk => Nat.lt_of_lt_of_le (HMV.out.lt k hk) hsd.2.size) (fun _ _ => rfl)⟩ ((Chg.below HBV.out).trans ((hcg.grown (grown_drew _ none) (fun k e => by cases e)).mono (fun k hk => .inl hk))) H.out.lt
      · have HPU : Hid (Ver.put t v false (r ++ [y]) = (r ++ [y]) ++ [⟨t, v, false⟩]) := by simp [Hid, Ver.put, hy]
        rw [HPU.out]
        have hq : (y.w == t) = false := by rw [beq_eq_false_iff_ne]; exact hy
        have HLL : Hid (r.length + 1 ≤ 800001) := by simp only [Hid]; omega
        have hhr := HR.out
        simp only [List.length_append, List.length_cons, List.length_nil, Nat.zero_add] at hhr
        have HR := Lib.hid hhr
        clear hm hhr hy
        go_upto_region 10 with fail
        go_region_law ((refine st_of rfl (orow_wp 83 85 _ 3 24 Try.underlying83 infoP rfl (by decide) (by decide) (.tmp 59) (.tmp 61) rfl _ _ (pvs (r ++ [y])) HR.out rfl ⟨V.heap.size, 0, none⟩ 1 1 (pv ⟨t, v, false⟩) rfl rfl HC.out (pv_one1 _) (by have := HLL.out; omega) ?_); intro v3 w3 hr3 hg3 ho3; have hr3' : ORow w3 85 3 v3 ((r.length + 1) + 1) (pvs ((r ++ [y]) ++ [⟨t, v, false⟩])) := (by rw [pvs_app]; exact hr3); have HP := Lib.hid (HMV.out.lay HBA.out hr3' (by simp) hg3 ho3); obtain ⟨j0, jf⟩ := HP.out.2; obtain ⟨A3, c3, rfl⟩ := hr3.slice; clear hr3 hg3 ho3 hr3'))
        all_goals (
          go_wp2
          go_ret
          rw [HPU.out]
          exact cwrite_done H.out HBV.out HP.out.1)
  · go_enter Try.func23, Try.ntmps23
    go_upto_region 7 with (go_at_call 17; (with_reducible refine HS.out.mono ?_); rintro e w1 ⟨rfl, hb1⟩; have HB1 := Lib.hid hb1; clear hb1)
    have hbv := (Below.refl w1.heap.size w1).alloc (Nat.le_refl _) (.cells #[.int .i64 t, .int .i64 0, .bool true] 85)
    have HBV := Lib.hid (HB1.out.trans (hbv.mono HB1.out.size))
    have hblk := heap_alloc_new w1 (.cells #[.int .i64 t, .int .i64 0, .bool true] 85)
    generalize w1.alloc (.cells #[.int .i64 t, .int .i64 0, .bool true] 85) = V at *
    have y0 : V.cell? ⟨w1.heap.size, 0, none⟩ = some (.int .i64 t) := (cell_of_row V _ 0 _ _ _ hblk).trans rfl
    have y1 : V.cell? ⟨w1.heap.size, 1, none⟩ = some (.int .i64 0) := (cell_of_row V _ 1 _ _ _ hblk).trans rfl
    have y2 : V.cell? ⟨w1.heap.size, 2, none⟩ = some (.bool true) := (cell_of_row V _ 2 _ _ _ hblk).trans rfl
    clear hbv hblk HS HKV
    have HBA := Lib.hid ((Below.refl V.heap.size V).drew.alloc (Nat.le_refl _) (.cells #[.int .i64 t, .int .i64 0, .bool true] 85))
    have HC := Lib.hid (show ∀ j u, (pv ⟨t, v, true⟩)[j]? = some u → (V.drew.alloc (.cells #[.int .i64 t, .int .i64 0, .bool true] 85)).cell? ((⟨V.heap.size, 0, none⟩ : Addr).add j) = some u from pnew_cells V.drew ⟨t, v, true⟩ 85)
    obtain ⟨v1, hm⟩ := H.out.below HBV.out
    have HMV := Lib.hid hm
    obtain ⟨k0, kf⟩ := hm.cells
    have HR := Lib.hid (hm.below HBA.out).r1
    have k0' : (V.alloc (.cells #[.int .i64 t, .int .i64 0, .bool true] 85)).cell? ⟨a, 0, none⟩ = some v1 := (hm.below HBA.out).cells.1
    have e0 : ∀ k o, k < V.heap.size → (V.alloc (.cells #[.int .i64 t, .int .i64 0, .bool true] 85)).cell? ⟨k, o, none⟩ = V.cell? ⟨k, o, none⟩ := fun k o hk => HBA.out.cell (p := ⟨k, o, none⟩) hk
    have y0' := (e0 _ 0 (World.block_lt_of_cell? V _ y0)).trans y0
    have y1' := (e0 _ 1 (World.block_lt_of_cell? V _ y1)).trans y1
    have y2' := (e0 _ 2 (World.block_lt_of_cell? V _ y2)).trans y2
    clear e0
    rcases List.eq_nil_or_concat l with rfl | ⟨r, y, rfl⟩
    · have HPU : Hid (Ver.put t v true [] = [⟨t, v, true⟩]) := rfl
      rw [HPU.out]
      obtain ⟨A, cp, rfl⟩ := hm.r1.slice
      have HLL : Hid ((0 : Nat) ≤ 800000) := Nat.zero_le _
      clear hm
      go_upto_region 10 with fail
      go_region_law ((refine st_of rfl (orow_wp 83 85 _ 3 24 Try.underlying83 infoP rfl (by decide) (by decide) (.tmp 59) (.tmp 61) rfl _ _ (pvs ([] : List (Ver Int))) HR.out rfl ⟨V.heap.size, 0, none⟩ 1 1 (pv ⟨t, v, true⟩) rfl rfl HC.out (pv_one1 _) (by have := HLL.out; omega) ?_); intro v3 w3 hr3 hg3 ho3; have hr3' : ORow w3 85 3 v3 (0 + 1) (pvs ([] ++ [⟨t, v, true⟩])) := (by rw [pvs_app]; exact hr3); have HP := Lib.hid (HMV.out.lay HBA.out hr3' (by simp) hg3 ho3); obtain ⟨j0, jf⟩ := HP.out.2; obtain ⟨A3, c3, rfl⟩ := hr3.slice; clear hr3 hg3 ho3 hr3'))
      all_goals (
        go_wp2
        go_ret
        exact cwrite_done H.out HBV.out HP.out.1)
    · rw [List.concat_eq_append] at *
      have hrow := hm.row (k := r.length) (by simp)
      simp only [List.length_append, List.length_cons, List.length_nil, Nat.zero_add, List.getElem_append_right (Nat.le_refl r.length), Nat.sub_self, List.getElem_cons_zero] at hrow hl
      obtain ⟨gg, o, cp, rfl, hcp, _, q0, q1, q2, qf⟩ := hrow
      have hlr : r.length ≤ 800000 := by omega
      have hi5 : IntKind.i64.wrap (r.length : Int) = (r.length : Int) := wrapI (by omega)
      have hr0 : (0 : Int) ≤ (r.length : Int) := by omega
      have hr1 : r.length < r.length + 1 := by omega
      by_cases hy : y.w = t
      · have HPU : Hid (Ver.put t v true (r ++ [y]) = r ++ [⟨t, v, true⟩]) := by simp [Hid, Ver.put, hy]
        rw [HPU.out]
        have hst := ORow.storeds (o := o) (pv ⟨t, v, true⟩) V (pvs (r ++ [y])) (r.length * 3) (show ORow V 85 3 (.slice (some ⟨gg, o, none⟩) (r.length + 1) cp) (r.length + 1) (pvs (r ++ [y])) by have := hm.r1; simpa using this) (by simp [pv]; omega)
        rw [pvs_set _ _ (by simp), List.set_append_right _ _ (Nat.le_refl _), Nat.sub_self, List.set_cons_zero] at hst
        have HST := Lib.hid hst
        rw [hy] at q0
        clear hm hst hy k0' y0' y1' y2' HR HC HBA
        go_upto_region 9 with fail
        go_region
        go_wp2
        go_ret
        rw [HPU.out]
        have hsd := HST.out
        have hne : gg ≠ a := fun e => by
          obtain ⟨cur, q⟩ := HMV.out.r1.type (k := gg) rfl
          have := HMV.out.blk
          rw [← e, q] at this
          injection this with this; injection this with _ this; cases this
        have hblk := hsd.2.block a (HMV.out.lt a HMV.out.fa) (fun e => by injection e with e; exact hne e.symm)
        have hcg : Chg F V _ := (Chg.refl F V).grown hsd.2 (fun k e => by injection e with e; subst e; exact .inl (HMV.out.f1 gg rfl))
        exact doesC_of (w' := (V.setCells gg (o + r.length * 3) (pv ⟨t, v, true⟩)).drew) ⟨_, CM.same (F := F) (w := V.setCells gg (o + r.length * 3) (pv ⟨t, v, true⟩)) ⟨fun k hk => Nat.lt_of_lt_of_le (HMV.out.lt k hk) hsd.2.size, HMV.out.fa, HMV.out.f1, hblk.trans HMV.out.blk, by have := hsd.1; simpa using this⟩ (fun _ h => h) (fun k hk => Nat.lt_of_lt_of_le (HMV.out.lt k hk) hsd.2.size) (fun _ _ => rfl)⟩ ((Chg.below HBV.out).trans ((hcg.grown (grown_drew _ none) (fun k e => by cases e)).mono (fun k hk => .inl hk))) H.out.lt
      · have HPU : Hid (Ver.put t v true (r ++ [y]) = (r ++ [y]) ++ [⟨t, v, true⟩]) := by simp [Hid, Ver.put, hy]
        rw [HPU.out]
        have hq : (y.w == t) = false := by rw [beq_eq_false_iff_ne]; exact hy
        have HLL : Hid (r.length + 1 ≤ 800001) := by simp only [Hid]; omega
        have hhr := HR.out
        simp only [List.length_append, List.length_cons, List.length_nil, Nat.zero_add] at hhr
        have HR := Lib.hid hhr
        clear hm hhr hy
        go_upto_region 10 with fail
        go_region_law ((refine st_of rfl (orow_wp 83 85 _ 3 24 Try.underlying83 infoP rfl (by decide) (by decide) (.tmp 59) (.tmp 61) rfl _ _ (pvs (r ++ [y])) HR.out rfl ⟨V.heap.size, 0, none⟩ 1 1 (pv ⟨t, v, true⟩) rfl rfl HC.out (pv_one1 _) (by have := HLL.out; omega) ?_); intro v3 w3 hr3 hg3 ho3; have hr3' : ORow w3 85 3 v3 ((r.length + 1) + 1) (pvs ((r ++ [y]) ++ [⟨t, v, true⟩])) := (by rw [pvs_app]; exact hr3); have HP := Lib.hid (HMV.out.lay HBA.out hr3' (by simp) hg3 ho3); obtain ⟨j0, jf⟩ := HP.out.2; obtain ⟨A3, c3, rfl⟩ := hr3.slice; clear hr3 hg3 ho3 hr3'))
        all_goals (
          go_wp2
          go_ret
          rw [HPU.out]
          exact cwrite_done H.out HBV.out HP.out.1)
theorem cwrite_any (h : CC F w a l) (hr : PC R w b c) (t v : Int) (g : Bool) (hl : l.length ≤ 800000) :
    Calls Try.prog 23 #[.pointer (some ⟨a, 0, none⟩), .pointer (some ⟨b, 0, none⟩), .int .i64 t, .int .i64 v, .bool g] w (DoesC F w a (.int .i64 (Ver.chk c t l)) (Ver.wrS c t v g l)) := by
  unfold Ver.wrS
  by_cases hk : Ver.chk c t l = 0
  · rw [if_pos hk, hk]
    exact cwrite_yes h hr t v g hk hl
  · rw [if_neg hk, (Ver.chk_le c t l).resolve_left hk]
    exact cwrite_no h hr t v g hk
end
end Go.Proofs.Ytpjjpjdamieeeaa
