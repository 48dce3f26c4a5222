/- What Undo of package cell makes of a Cell: slices.IndexFunc and DeleteFunc at versions. Conditions: the Cell lies in memory; at most one version is of the writer named. -/
import Derived.Test.YtpjjpjdamieeeaaPd
import Derived.Test.YtpjjpjdamieeeaaKf
namespace Go.Proofs.Ytpjjpjdamieeeaa
set_option maxRecDepth 100000
set_option linter.unusedVariables false
open Go.ChangeShapes Go.WideShapes Go.ChangeAt Go.RowKit
/-- What the row holds when i elements stand in their place. -/
structure GapG {α : Type} (L1 L2 : List α) (t : α) (i : Nat) (M : List α) : Prop where
  len : M.length = L1.length + 1 + L2.length
  low : ∀ k, k < i → M[k]? = (L1 ++ L2)[k]?
  high : ∀ k, i ≤ k → M[k]? = (L1 ++ t :: L2)[k]?
section
variable {α : Type} {L1 L2 M : List α} {t : α} {i : Nat}
theorem GapG.start (L1 L2 : List α) (t : α) : GapG L1 L2 t L1.length (L1 ++ t :: L2) :=
  ⟨by simp; omega, fun k hk => by rw [List.getElem?_append_left hk, List.getElem?_append_left hk], fun k hk => rfl⟩
theorem GapG.at (h : GapG L1 L2 t i M) (hi : L1.length ≤ i) (hj : i + 1 < M.length) : ∃ hi2 : i - L1.length < L2.length, M[i + 1] = L2[i - L1.length] := by
  have hl := h.len
  refine ⟨by omega, ?_⟩
  have := h.high (i + 1) (by omega)
  rw [List.getElem?_eq_getElem hj, List.getElem?_append_right (by omega), show i + 1 - L1.length = (i - L1.length) + 1 by omega, List.getElem?_cons_succ, List.getElem?_eq_getElem (show i - L1.length < L2.length by omega)] at this
  exact Option.some.inj this
theorem GapG.next (h : GapG L1 L2 t i M) (hi : L1.length ≤ i) (hj : i + 1 < M.length) : GapG L1 L2 t (i + 1) (M.set i M[i + 1]) := by
  obtain ⟨h1, h2⟩ := h.at hi hj
  refine ⟨by rw [List.length_set]; exact h.len, fun k hk => ?_, fun k hk => ?_⟩
  · rw [List.getElem?_set]
    by_cases e : i = k
    · subst e
      rw [if_pos rfl, if_pos (by omega), h2, List.getElem?_append_right hi, List.getElem?_eq_getElem h1]
    · rw [if_neg e]; exact h.low k (by omega)
  · rw [List.getElem?_set, if_neg (by omega)]
    exact h.high k (by omega)
theorem GapG.done (h : GapG L1 L2 t i M) (hj : i + 1 = M.length) : M.take i = L1 ++ L2 := by
  have hl := h.len
  apply List.ext_getElem?
  intro k
  rw [List.getElem?_take]
  split
  · exact h.low k (by omega)
  · rw [List.getElem?_eq_none (by simp; omega)]
end
section
variable {F : Nat → Prop} {w : World} {a bx : Nat} {l m : List (Ver Int)} {v : Value} {t : Int}
theorem cun1_any (x : Ver Int) (hbx : w.cell? ⟨bx, 0, none⟩ = some (.int .i64 t)) :
    Calls Try.prog 55 #[pvA x, .pointer (some ⟨bx, 0, none⟩)] w fun e w' => e = .returned (.bool (decide (x.w = t))) ∧ Below w.heap.size w w' := by
  have hb := (Below.refl w.heap.size w).alloc (Nat.le_refl _) (.cells #[.int .i64 x.w, .int .i64 (kv x), .bool x.g] 85)
  have HB := Lib.hid hb
  have hbx2 := (hb.cell (p := ⟨bx, 0, none⟩) (World.block_lt_of_cell? w _ hbx)).trans hbx
  clear hb hbx
  unfold pvA
  go_enter Try.func55, Try.ntmps55
  go_wp2
  go_ret
  exact ⟨ret_b rfl, HB.out⟩
def idxI (t : Int) (m : List (Ver Int)) : Int := if Ver.at? t m < m.length then (Ver.at? t m : Nat) else -1
theorem cidu_any (h : ORow w 85 3 v m.length (pvs m)) (hbx : w.cell? ⟨bx, 0, none⟩ = some (.int .i64 t)) :
    Calls Try.prog 68 #[v, .func (.func 55) #[] #[.pointer (some ⟨bx, 0, none⟩)]] w fun e w' => e = .returned (.int .i64 (idxI t m)) ∧ Below w.heap.size w w' := by
  have HC := Lib.hid (fun W (hW : Below w.heap.size w W) (x : Ver Int) => cun1_any x (bx := bx) (t := t) ((hW.cell (p := ⟨bx, 0, none⟩) (World.block_lt_of_cell? w _ hbx)).trans hbx))
  have hbig := h.big
  have HR := Lib.hid (fun W (hW : Below w.heap.size w W) => h.same (w' := W) (fun k hk => hW.block k (h.lt k hk)))
  obtain ⟨A, cp, rfl⟩ := h.slice
  obtain ⟨post, hpo⟩ : ∃ post, post = idxI t m := ⟨_, rfl⟩
  rw [← hpo]
  have HPO := Lib.hid hpo
  clear h hbx hpo
  go_enter Try.func68, Try.ntmps68
  go_wp2
  go_loopw [5, 8] (fun _ i wr => ∃ k : Nat, k ≤ m.length ∧ i = .int .i64 k ∧ Hid (Below w.heap.size w wr) ∧ Hid (∀ j (hj : j < m.length), j < k → m[j].w ≠ t)) (fun _ i _ => m.length - (intOf i).toNat)
  case atStart => exact ⟨0, Nat.zero_le _, rfl, Below.refl _ _, fun j hj h => absurd h (by omega)⟩
  case round =>
    obtain ⟨k, hk, rfl, HB, HN⟩ := hrel
    by_cases hlt : k < m.length
    · obtain ⟨g, o, cp', hgg, hcp⟩ := (HR.out wr HB.out).form (by omega)
      injection hgg with hgg _ hcc
      subst hgg
      subst hcc
      obtain ⟨q0, q1, q2, _⟩ := orow_at (HR.out wr HB.out) hlt
      have HX := HC.out wr HB.out m[k]
      by_cases hs : m[k].w = t
      · rw [decide_eq_true hs] at HX
        have HP : Hid (post = (k : Nat)) := by
          simp only [Hid]
          have e : Ver.at? t m = k := by
            unfold Ver.at?
            rw [List.findIdx_eq hlt]
            exact ⟨decide_eq_true hs, fun j hj => decide_eq_false (HN.out j (by omega) hj)⟩
          rw [HPO.out, idxI, e, if_pos hlt]
        have HX := Lib.hid HX
        clear hs
        generalize m[k] = x at *
        unfold pvA at HX
        go_wp2_with (go_at_call 55; (with_reducible refine HX.out.mono ?_); rintro e w4 ⟨rfl, hb4⟩)
        go_ret
        exact ⟨ret_i HP.out.symm, HB.out.trans (hb4.mono HB.out.size)⟩
      · rw [decide_eq_false hs] at HX
        have HN2 : Hid (∀ j (hj : j < m.length), j < k + 1 → m[j].w ≠ t) := fun j hj h => by
          by_cases e : j = k
          · subst e; exact hs
          · exact HN.out j hj (by omega)
        have HX := Lib.hid HX
        clear hs
        generalize m[k] = x at *
        unfold pvA at HX
        go_wp2_with (go_at_call 55; (with_reducible refine HX.out.mono ?_); rintro e w4 ⟨rfl, hb4⟩; have HB4 := Lib.hid (HB.out.trans (hb4.mono HB.out.size)); clear hb4)
        exact ⟨⟨k + 1, by omega, by go_num, HB4.out, HN2.out⟩, by simp [intOf]; omega⟩
    · obtain rfl : k = m.length := by omega
      have HP : Hid (post = -1) := by
        simp only [Hid]
        have e : Ver.at? t m = m.length := Ver.findIdx_none (fun x hx => by
          obtain ⟨j, hj, rfl⟩ := List.getElem_of_mem hx
          exact HN.out j hj hj)
        rw [HPO.out, idxI, e, if_neg (by omega)]
      go_wp2
      go_ret
      exact ⟨ret_i HP.out.symm, HB.out⟩
theorem at_split {L1 L2 : List (Ver Int)} {x : Ver Int} (h1 : ∀ y ∈ L1, y.w ≠ t) (hx : x.w = t) : Ver.at? t (L1 ++ x :: L2) = L1.length := by
  unfold Ver.at?
  rw [List.findIdx_eq (by simp)]
  refine ⟨by simp [hx], fun j hj => ?_⟩
  rw [List.getElem_append_left hj]
  exact decide_eq_false (h1 _ (List.getElem_mem hj))
theorem run_clear3 {P : Program} (w : World) (t e ty : TypeId) (z : Value) (ht : P.underlying t = some (.slice e)) (hv : ∀ w, (zeroValue e).run P w = .ok z w) (b o c : Nat) (vs : List Value) (hvs : z.cells = vs.toArray) (hpos : 0 < vs.length) (h1 : ∀ v ∈ vs, v.oneCell' = true)
    (hc : ∀ j, j < vs.length → (w.cell? ⟨b, o + j, none⟩).isSome = true) (hf : ∀ j, j < vs.length → w.frozen? ⟨b, o + j, none⟩ = false) :
    (Builtin.clear_ #[t] ty #[.slice (some ⟨b, o, none⟩) 1 c]).run P w = .ok (.tuple #[]) (w.setCells b o vs) := by
  have hzc : (Builtin.zeroCells z.cells 1).toList = vs := by
    rw [hvs]
    simp only [Builtin.zeroCells]
    apply List.ext_getElem
    · simp
    · intro i h1 h2
      simp [Nat.mod_eq_of_lt h2, List.getElem?_eq_getElem h2]
  have hst := run_storeCells_cells (P := P) b o vs 0 w (by simpa using hc) (by simpa using hf) h1
  simp only [Nat.add_zero] at hst
  simp [Builtin.clear_, run_underlying ht, hv, hzc, hst]
theorem pvs_set (M : List (Ver Int)) (k : Nat) (hk : k < M.length) (y : Ver Int) : splice (pvs M) (k * 3) (pv y) = pvs (M.set k y) := flat_set pv 3 M (pv_len M) y rfl k hk
theorem cdel_none (h : ORow w 85 3 v m.length (pvs m)) (hbx : w.cell? ⟨bx, 0, none⟩ = some (.int .i64 t)) (hn : ∀ y ∈ m, y.w ≠ t) :
    Calls Try.prog 54 #[v, .func (.func 55) #[] #[.pointer (some ⟨bx, 0, none⟩)]] w fun e w' => e = .returned v ∧ Below w.heap.size w w' := by
  have HI := cidu_any h hbx
  rw [show idxI t m = -1 by rw [idxI, Ver.findIdx_none hn, if_neg (by omega)]] at HI
  have HI := Lib.hid HI
  obtain ⟨A, cp, rfl⟩ := h.slice
  clear h hbx hn
  go_enter Try.func54, Try.ntmps54
  go_wp2_with (go_at_call 68; (with_reducible refine HI.out.mono ?_); rintro e w4 ⟨rfl, hb4⟩)
  go_ret
  exact ⟨rfl, hb4⟩
set_option maxHeartbeats 2000000 in
theorem cdel_one {L1 L2 : List (Ver Int)} {x : Ver Int} {g o cp : Nat} (hbg : bx ≠ g) (h1 : ∀ y ∈ L1, y.w ≠ t) (hx : x.w = t) (h2 : ∀ y ∈ L2, y.w ≠ t) (hr : ORow w 85 3 (.slice (some ⟨g, o, none⟩) (L1 ++ x :: L2).length cp) (L1 ++ x :: L2).length (pvs (L1 ++ x :: L2))) (hc : w.cell? ⟨bx, 0, none⟩ = some (.int .i64 t)) (hl : (L1 ++ x :: L2).length ≤ 1000000) :
    Calls Try.prog 54 #[.slice (some ⟨g, o, none⟩) (L1 ++ x :: L2).length cp, .func (.func 55) #[] #[.pointer (some ⟨bx, 0, none⟩)]] w fun e w' => e = .returned (.slice (some ⟨g, o, none⟩) (L1 ++ L2).length cp) ∧ ORow w' 85 3 (.slice (some ⟨g, o, none⟩) (L1 ++ L2).length cp) (L1 ++ L2).length (pvs (L1 ++ L2)) ∧ w.grownBy w' (some g) := by
  have HI := cidu_any hr hc
  rw [show idxI t (L1 ++ x :: L2) = (L1.length : Nat) by rw [idxI, at_split h1 hx, if_pos (by simp)]] at HI
  have HI := Lib.hid HI
  have HC := Lib.hid hc
  have H2 := Lib.hid h2
  have HG0 := Lib.hid (GapG.start L1 L2 x)
  have HN : Hid ((L1 ++ x :: L2).length = L1.length + 1 + L2.length) := by simp only [Hid]; simp; omega
  have HR0 := Lib.hid (fun W (hW : Below w.heap.size w W) => hr.same (w' := W) (fun k hk => hW.block k (hr.lt k hk)))
  have hcap : Hid ((L1 ++ x :: L2).length ≤ cp) := hr.open.choose_spec.2.1
  have HGL : Hid (g < w.heap.size) := hr.lt g rfl
  obtain ⟨n, hn⟩ : ∃ n, (L1 ++ x :: L2).length = n := ⟨_, rfl⟩
  rw [hn] at HI HN HR0 hl hcap ⊢
  clear hr hc h1 h2 hn hx
  have hb1 : L1.length ≤ 1000000 := by have := HN.out; omega
  have hne1 : ((L1.length : Int) == -1) = false := by rw [beq_eq_false_iff_ne]; omega
  go_enter Try.func54, Try.ntmps54
  go_wp2_with (go_at_call 68; (with_reducible refine HI.out.mono ?_); rintro e w4 ⟨rfl, hb4⟩; have HB4 := Lib.hid hb4; clear hb4)
  clear HI
  go_loopw [5, 6, 7] (fun i j _ wr => ∃ (k : Nat) (M : List (Ver Int)), L1.length ≤ k ∧ k + 1 ≤ n ∧ i = .int .i64 k ∧ j = .int .i64 ((k + 1 : Nat) : Int) ∧ Hid (GapG L1 L2 x k M) ∧ Hid (ORow wr 85 3 (.slice (some ⟨g, o, none⟩) n cp) n (pvs M)) ∧ Hid (w.grownBy wr (some g))) (fun _ j _ _ => n - (intOf j).toNat)
  case atStart => exact ⟨L1.length, _, Nat.le_refl _, by have := HN.out; omega, rfl, by go_num, HG0.out, HR0.out _ HB4.out, grown_of_below HB4.out _⟩
  case round =>
    obtain ⟨k, M, hk1, hk2, rfl, rfl, HGap, HRow, HGr⟩ := hrel
    have HML : Hid (M.length = n) := by simp only [Hid]; rw [HGap.out.len]; have := HN.out; omega
    have hcb := HGr.out.cell HC.out (by simp; exact hbg)
    have hgw : g < wr.heap.size := Nat.lt_of_lt_of_le HGL.out HGr.out.size
    have hbw : bx < wr.heap.size := World.block_lt_of_cell? wr _ hcb
    by_cases hlt : k + 1 < n
    · have hm : k + 1 < M.length := by have := HML.out; omega
      have hrow : ORow wr 85 3 (.slice (some ⟨g, o, none⟩) M.length cp) M.length (pvs M) := by rw [HML.out]; exact HRow.out
      obtain ⟨q0, q1, q2, qf⟩ := orow_at hrow hm
      obtain ⟨h3, h4⟩ := HGap.out.at hk1 hm
      have hne : M[k + 1].w ≠ t := fun e => H2.out _ (by rw [h4]; exact List.getElem_mem h3) e
      have HG2 := Lib.hid (HGap.out.next hk1 hm)
      obtain ⟨y, hy⟩ : ∃ y, y = M[k + 1] := ⟨_, rfl⟩
      rw [← hy] at q0 q1 q2 hne HG2
      clear h4 hy
      have hb3 := (Below.refl wr.heap.size wr).alloc (Nat.le_refl _) (.cells #[.int .i64 y.w, .int .i64 (kv y), .bool y.g] 85)
      have HX := Lib.hid (cun1_any y (w := wr.alloc (.cells #[.int .i64 y.w, .int .i64 (kv y), .bool y.g] 85)) (t := t) (bx := bx) ((hb3.cell (p := ⟨bx, 0, none⟩) hbw).trans hcb))
      rw [decide_eq_false hne] at HX
      have HB3 := Lib.hid hb3
      unfold pvA at HX
      have hi7 : IntKind.i64.wrap ((k : Int) + 1) = (k : Int) + 1 := by rw [show (k : Int) + 1 = ((k + 1 : Nat) : Int) by omega]; exact wrapI (by omega)
      clear hb3 hne hrow
      go_upto_region 9 with (go_at_call 55; (with_reducible refine HX.out.mono ?_); rintro e w5 ⟨rfl, hb5⟩; have HB5 := Lib.hid hb5; clear hb5)
      have HB35 : Hid (Below wr.heap.size wr w5) := HB3.out.trans (HB5.out.mono HB3.out.size)
      have y0 : w5.cell? ⟨wr.heap.size, 0, none⟩ = some (.int .i64 y.w) := box_at (heap_alloc_new wr _) HB5.out 0
      have y1 : w5.cell? ⟨wr.heap.size, 1, none⟩ = some (.int .i64 (kv y)) := box_at (heap_alloc_new wr _) HB5.out 1
      have y2 : w5.cell? ⟨wr.heap.size, 2, none⟩ = some (.bool y.g) := box_at (heap_alloc_new wr _) HB5.out 2
      have hrow5 : ORow w5 85 3 (.slice (some ⟨g, o, none⟩) n cp) n (pvs M) := HRow.out.same (fun k hk => HB35.out.block k (HRow.out.lt k hk))
      have hk0 : k < M.length := by omega
      have hrow6 : ORow w5 85 3 (.slice (some ⟨g, o, none⟩) M.length cp) M.length (pvs M) := by rw [HML.out]; exact hrow5
      obtain ⟨z0, z1, z2, zf⟩ := orow_at hrow6 hk0
      have HSt := ORow.storeds (o := o) (pv y) w5 (pvs M) (k * 3) hrow5 (by simp [pv]; omega)
      rw [pvs_set M k hk0] at HSt
      have HSt := Lib.hid HSt
      have hkn : k < n := by omega
      generalize kv M[k] = m1 at *
      generalize M[k].w = m0 at *
      generalize M[k].g = m2 at *
      clear hrow5 hrow6 q0 q1 q2 qf hcb hgw hbw HX
      go_wp2
      exact ⟨⟨k + 1, _, by omega, by omega, by go_num, by go_num, HG2.out, HSt.out.1, grown_next HGr.out (grown_next (grown_of_below HB35.out _) HSt.out.2)⟩, by simp [intOf]; omega⟩
    · obtain rfl : n = k + 1 := by omega
      have hk0 : k < M.length := by have := HML.out; omega
      have hrow6 : ORow wr 85 3 (.slice (some ⟨g, o, none⟩) M.length cp) M.length (pvs M) := by rw [HML.out]; exact HRow.out
      obtain ⟨z0, z1, z2, zf⟩ := orow_at hrow6 hk0
      have hcl : ∀ ty, (Builtin.clear_ #[83] ty #[.slice (some ⟨g, o + k * 3, none⟩) 1 (cp - k)]).run Try.prog wr = .ok (.tuple #[]) (wr.setCells g (o + k * 3) [.int .i64 0, .int .i64 0, .bool false]) :=
        fun ty => run_clear3 wr _ 85 ty (.agg #[.int .i64 0, .int .i64 0, .bool false]) Try.underlying83 (fun w => by kernel_rfl) g (o + k * 3) (cp - k) [.int .i64 0, .int .i64 0, .bool false] rfl (by simp) (by simp [Value.oneCell']) (fun j hj => by
          simp only [List.length_cons, List.length_nil] at hj
          have : j = 0 ∨ j = 1 ∨ j = 2 := by omega
          rcases this with rfl | rfl | rfl
          · rw [Nat.add_zero, z0]; rfl
          · rw [z1]; rfl
          · rw [z2]; rfl) (fun j hj => zf _)
      have HSt := ORow.storeds (o := o) [.int .i64 0, .int .i64 0, .bool false] wr (pvs M) (k * 3) HRow.out (by simp; omega)
      rw [show ([.int .i64 0, .int .i64 0, .bool false] : List Value) = pv ⟨0, 0, false⟩ from rfl, pvs_set M k hk0] at HSt
      have HSt := Lib.hid HSt
      clear hrow6 z0 z1 z2 zf hcb hgw hbw
      have hcp : k + 1 ≤ cp := hcap.out
      have hcp0 : k ≤ cp := by omega
      have hcp1 : ¬ cp - k = 0 := by omega
      have hkk : (k : Int) ≤ (k : Int) + 1 := by omega
      go_wp2
      go_ret
      have hd := HGap.out.done HML.out.symm
      have hlk : (L1 ++ L2).length = k := by rw [← hd, List.length_take]; have := HML.out; omega
      rw [hlk]
      refine ⟨rfl, ?_, grown_next HGr.out HSt.out.2⟩
      have := HSt.out.1.take (i := k) (by omega)
      rw [pvs_take _ k (by rw [List.length_set]; omega), List.take_set, List.set_eq_of_length_le (by rw [List.length_take]; omega), hd] at this
      exact this
end
end Go.Proofs.Ytpjjpjdamieeeaa
