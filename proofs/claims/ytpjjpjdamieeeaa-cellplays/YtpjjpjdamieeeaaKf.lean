/- slices.DeleteFunc, called by end of package clock, takes one number out of a row of our own; what end, Commit and Abort make of a Clock. Conditions: the Clock lies in memory, fewer than 1,000,000 commits. -/
import Derived.Test.YtpjjpjdamieeeaaKe
namespace Go.Proofs.Ytpjjpjdamieeeaa
set_option maxRecDepth 100000
set_option linter.unusedVariables false
open Go.ChangeShapes Go.WideShapes Go.ChangeAt Go.RowKit
theorem isT_any (x t : Int) (b : Nat) (W : World) (hc : W.cell? ⟨b, 0, none⟩ = some (.int .i64 t)) :
    Calls Try.prog 71 #[.int .i64 x, .pointer (some ⟨b, 0, none⟩)] W fun e w' => e = .returned (.bool (decide (x = t))) ∧ W = w' := by
  go_enter Try.func71, Try.ntmps71
  go_wp2
  go_ret
  exact ⟨ret_b rfl, rfl⟩
theorem index_any (g cp b : Nat) (L1 L2 : List Int) (t : Int) (w : World) (h1 : t ∉ L1) (hr : w.ownsRow 0 3 1 (.slice (some ⟨g, 0, none⟩) (L1 ++ t :: L2).length cp) (L1 ++ t :: L2).length (ics (L1 ++ t :: L2))) (hc : w.cell? ⟨b, 0, none⟩ = some (.int .i64 t)) (hl : (L1 ++ t :: L2).length ≤ 1000000) :
    Calls Try.prog 74 #[.slice (some ⟨g, 0, none⟩) (L1 ++ t :: L2).length cp, .func (.func 71) #[] #[.pointer (some ⟨b, 0, none⟩)]] w fun e w' => e = .returned (.int .i64 (L1.length : Nat)) ∧ w = w' := by
  have HR := Lib.hid (fun j (hj : j < (L1 ++ t :: L2).length) => show w.cell? ⟨g, j, none⟩ = some (.int .i64 (L1 ++ t :: L2)[j]) by
    rw [World.ownsRow.cellAt hr j (by omega)]; simp only [ics, List.getElem?_map, List.getElem?_eq_getElem hj, Option.map_some])
  obtain ⟨L, hL⟩ : ∃ L, L1 ++ t :: L2 = L := ⟨_, rfl⟩
  have HLn : Hid (L.length = L1.length + 1 + L2.length) := by simp only [Hid]; rw [← hL]; simp; omega
  have HE : Hid (∀ j (hj : j < L.length), j < L1.length → L[j] ≠ t) := fun j hj hj1 => by
    subst hL
    rw [List.getElem_append_left hj1]
    intro e
    exact h1 (e ▸ List.getElem_mem hj1)
  have HT : Hid (∀ (hj : L1.length < L.length), L[L1.length] = t) := fun hj => by subst hL; simp
  rw [hL] at HR hl ⊢
  have HC := Lib.hid (fun x => isT_any x t b w hc)
  clear hr h1 hL hc
  go_enter Try.func74, Try.ntmps74
  go_wp2
  go_loopw [5, 8] (fun _ i wr => ∃ k : Nat, k ≤ L1.length ∧ i = .int .i64 k ∧ wr = w) (fun _ i _ => L.length - (intOf i).toNat)
  case atStart => exact ⟨0, Nat.zero_le _, rfl, rfl⟩
  case round =>
    obtain ⟨k, hk, rfl, rfl⟩ := hrel
    have hkl : k < L.length := by have := HLn.out; omega
    have hcell := HR.out k hkl
    have hx := HC.out L[k]
    by_cases hlt : k < L1.length
    · rw [decide_eq_false (HE.out k hkl hlt)] at hx
      generalize L[k] = y at *
      have HX := Lib.hid hx
      clear hx
      go_wp2_with (go_at_call 71; (with_reducible refine HX.out.mono ?_); rintro e w4 ⟨rfl, rfl⟩)
      exact ⟨⟨k + 1, by omega, by go_num, trivial⟩, by simp [intOf]; omega⟩
    · obtain rfl : k = L1.length := by omega
      rw [decide_eq_true (HT.out hkl)] at hx
      generalize L[L1.length] = y at *
      have HX := Lib.hid hx
      clear hx
      go_wp2_with (go_at_call 71; (with_reducible refine HX.out.mono ?_); rintro e w4 ⟨rfl, rfl⟩)
      go_ret
      exact ⟨rfl, rfl⟩
/-- What the row holds when i numbers stand in their place. -/
structure Gap (L1 L2 : List Int) (t : Int) (i : Nat) (M : List Int) : Prop where
  len : M.length = L1.length + 1 + L2.length
  low : ∀ k, k < i → M[k]? = (L1 ++ L2)[k]?
  high : ∀ k, i ≤ k → M[k]? = (L1 ++ t :: L2)[k]?
theorem Gap.start (L1 L2 : List Int) (t : Int) : Gap L1 L2 t L1.length (L1 ++ t :: L2) :=
  ⟨by simp; omega, fun k hk => by rw [List.getElem?_append_left hk, List.getElem?_append_left hk], fun k hk => rfl⟩
theorem Gap.at {L1 L2 M : List Int} {t : Int} {i : Nat} (h : Gap L1 L2 t i M) (hi : L1.length ≤ i) (hj : i + 1 < M.length) : ∃ hi2 : i - L1.length < L2.length, M[i + 1] = L2[i - L1.length] := by
  have hl := h.len
  refine ⟨by omega, ?_⟩
  have := h.high (i + 1) (by omega)
  rw [List.getElem?_eq_getElem hj, List.getElem?_append_right (by omega), show i + 1 - L1.length = (i - L1.length) + 1 by omega, List.getElem?_cons_succ, List.getElem?_eq_getElem (show i - L1.length < L2.length by omega)] at this
  exact Option.some.inj this
theorem Gap.next {L1 L2 M : List Int} {t : Int} {i : Nat} (h : Gap L1 L2 t i M) (hi : L1.length ≤ i) (hj : i + 1 < M.length) : Gap L1 L2 t (i + 1) (M.set i M[i + 1]) := by
  obtain ⟨h1, h2⟩ := h.at hi hj
  refine ⟨by rw [List.length_set]; exact h.len, fun k hk => ?_, fun k hk => ?_⟩
  · rw [List.getElem?_set]
    by_cases e : i = k
    · subst e
      rw [if_pos rfl, if_pos (by omega), h2, List.getElem?_append_right hi, List.getElem?_eq_getElem h1]
    · rw [if_neg e]; exact h.low k (by omega)
  · rw [List.getElem?_set, if_neg (by omega)]
    exact h.high k (by omega)
theorem Gap.done {L1 L2 M : List Int} {t : Int} {i : Nat} (h : Gap L1 L2 t i M) (hj : i + 1 = M.length) : M.take i = L1 ++ L2 := by
  have hl := h.len
  apply List.ext_getElem?
  intro k
  rw [List.getElem?_take]
  split
  · exact h.low k (by omega)
  · rw [List.getElem?_eq_none (by simp; omega)]
theorem grown_next {x y z : World} {g : Option Nat} (h : x.grownBy y g) (k : y.grownBy z g) : x.grownBy z g :=
  ⟨k.os.trans h.os, k.tape.trans h.tape, k.output.trans h.output, Nat.le_trans h.size k.size, fun i hi hne => (k.block i (Nat.lt_of_lt_of_le hi h.size) hne).trans (h.block i hi hne)⟩
set_option maxHeartbeats 1000000 in
theorem delete_any (g cp b : Nat) (L1 L2 : List Int) (t : Int) (w : World) (hbg : b ≠ g) (h1 : t ∉ L1) (h2 : t ∉ L2) (hr : w.ownsRow 0 3 1 (.slice (some ⟨g, 0, none⟩) (L1 ++ t :: L2).length cp) (L1 ++ t :: L2).length (ics (L1 ++ t :: L2))) (hc : w.cell? ⟨b, 0, none⟩ = some (.int .i64 t)) (hl : (L1 ++ t :: L2).length ≤ 1000000) :
    Calls Try.prog 70 #[.slice (some ⟨g, 0, none⟩) (L1 ++ t :: L2).length cp, .func (.func 71) #[] #[.pointer (some ⟨b, 0, none⟩)]] w fun e w' => e = .returned (.slice (some ⟨g, 0, none⟩) (L1 ++ L2).length cp) ∧ w'.ownsRow 0 3 1 (.slice (some ⟨g, 0, none⟩) (L1 ++ L2).length cp) (L1 ++ L2).length (ics (L1 ++ L2)) ∧ w.grownBy w' (some g) := by
  have HI := Lib.hid (index_any g cp b L1 L2 t w h1 hr hc hl)
  have HC := Lib.hid hc
  have H2 := Lib.hid h2
  have HG0 := Lib.hid (Gap.start L1 L2 t)
  have HN : Hid ((L1 ++ t :: L2).length = L1.length + 1 + L2.length) := by simp only [Hid]; simp; omega
  have HR0 := Lib.hid hr
  have hcap : Hid ((L1 ++ t :: L2).length ≤ cp) := (own_open hr).choose_spec.2.1
  obtain ⟨n, hn⟩ : ∃ n, (L1 ++ t :: L2).length = n := ⟨_, rfl⟩
  rw [hn] at HI HN HR0 hl hcap ⊢
  clear hr hc h1 h2 hn
  have hb1 : L1.length ≤ 1000000 := by have := HN.out; omega
  have hne1 : ((L1.length : Int) == -1) = false := by rw [beq_eq_false_iff_ne]; omega
  go_enter Try.func70, Try.ntmps70
  go_wp2_with (go_at_call 74; (with_reducible refine HI.out.mono ?_); rintro e w4 ⟨rfl, rfl⟩)
  clear HI
  go_loopw [5, 6, 7] (fun i j _ wr => ∃ (k : Nat) (M : List Int), L1.length ≤ k ∧ k + 1 ≤ n ∧ i = .int .i64 k ∧ j = .int .i64 ((k + 1 : Nat) : Int) ∧ Hid (Gap L1 L2 t k M) ∧ Hid (wr.ownsRow 0 3 1 (.slice (some ⟨g, 0, none⟩) n cp) n (ics M)) ∧ Hid (w.grownBy wr (some g))) (fun _ j _ _ => n - (intOf j).toNat)
  case atStart => exact ⟨L1.length, _, Nat.le_refl _, by have := HN.out; omega, rfl, by go_num, HG0.out, HR0.out, World.grownBy.refl _ _⟩
  case round =>
    obtain ⟨k, M, hk1, hk2, rfl, rfl, HGap, HRow, HGr⟩ := hrel
    have HML : Hid (M.length = n) := by simp only [Hid]; rw [HGap.out.len]; have := HN.out; omega
    have HR := Lib.hid (fun j (hj : j < M.length) => show wr.cell? ⟨g, j, none⟩ = some (.int .i64 M[j]) by
      rw [World.ownsRow.cellAt HRow.out j (by have := HML.out; omega)]; simp only [ics, List.getElem?_map, List.getElem?_eq_getElem hj, Option.map_some])
    have hcb := HGr.out.cell HC.out (by simp; exact hbg)
    by_cases hlt : k + 1 < n
    · have hm : k + 1 < M.length := by have := HML.out; omega
      have hm0 : k < M.length := by omega
      have q0 := HR.out k (by have := HML.out; omega)
      have q1 := HR.out (k + 1) (by have := HML.out; omega)
      have qf := World.ownsRow.frozenAt HRow.out k
      obtain ⟨h3, h4⟩ := HGap.out.at hk1 (by have := HML.out; omega)
      have hne : M[k + 1] ≠ t := fun e => H2.out (by rw [← e, h4]; exact List.getElem_mem h3)
      have HX := isT_any M[k + 1] t b wr hcb
      rw [decide_eq_false hne] at HX
      have HX := Lib.hid HX
      have HG2 := Lib.hid (HGap.out.next hk1 (by have := HML.out; omega))
      have HW := Lib.hid (World.ownsRow.stored HRow.out k (.int .i64 M[k + 1]))
      clear h4 hne HR
      generalize M[k + 1] = y at *
      generalize M[k] = z at *
      go_wp2_with (go_at_call 71; (with_reducible refine HX.out.mono ?_); rintro e w4 ⟨rfl, rfl⟩)
      have HW1 : Hid ((wr.setCell ⟨g, k, none⟩ (.int .i64 y)).ownsRow 0 3 1 (.slice (some ⟨g, 0, none⟩) n cp) n (ics (M.set k y))) := by
        have := HW.out.1
        rwa [show (ics M).set k (.int .i64 y) = ics (M.set k y) by simp [ics, List.map_set]] at this
      exact ⟨⟨k + 1, _, by omega, by omega, by go_num, by go_num, HG2.out, HW1.out, grown_next HGr.out HW.out.2⟩, by simp [intOf]; omega⟩
    · obtain rfl : n = k + 1 := by omega
      have hcl : ∀ ty, (Builtin.clear_ #[36] ty #[.slice (some ⟨g, k, none⟩) 1 (cp - k)]).run Try.prog wr = .ok (.tuple #[]) (wr.setCells g k (List.replicate 1 (.int .i64 0))) :=
        fun ty => Lib.run_clear_slice wr _ _ ty _ Try.underlying36 (fun w => by kernel_rfl) rfl rfl g k 1 _ (by omega) (fun j hj => by rw [show k + j = k by omega, HR.out k (by have := HML.out; omega)]; rfl) (fun j hj => World.ownsRow.frozenAt HRow.out _)
      clear HR
      have hcp : k + 1 ≤ cp := hcap.out
      have hcp0 : k ≤ cp := by omega
      go_wp2
      go_ret
      have hd := HGap.out.done HML.out.symm
      have hlk : (L1 ++ L2).length = k := by rw [← hd, List.length_take]; have := HML.out; omega
      have hst := World.ownsRow.stored HRow.out k (.int .i64 0)
      have e : wr.setCells g k [.int .i64 0] = wr.setCell ⟨g, k, none⟩ (.int .i64 0) := rfl
      rw [e, hlk]
      refine ⟨rfl, ?_, grown_next HGr.out hst.2⟩
      rw [← hd]
      obtain ⟨cur, q1, q2, q3, q4, q5⟩ := own_open hst.1
      refine own_shut (by rw [ics, List.length_map, List.length_take]; have := HML.out; omega) q1 (by omega) q3 q4 ?_
      have e2 : cur.toList.take (k * 1) = (cur.toList.take ((k + 1) * 1)).take k := by rw [List.take_take]; congr 1; omega
      rw [e2, q5, List.take_set, List.set_eq_of_length_le (by rw [List.length_take]; omega)]
      simp [ics]
section
variable {F : Nat → Prop} {w W w' : World} {a : Nat} {v1 v2 v' : Value} {l : List Tx} {L : List Int} {n : Nat} {c : Ck}
theorem end_any (h : PM F w a v1 v2 l L n) (t : Int) (L1 L2 : List Int) (hL : L = L1 ++ t :: L2) (h1 : t ∉ L1) (h2 : t ∉ L2) (hl : L.length ≤ 1000000) :
    Calls Try.prog 53 #[.pointer (some ⟨a, 0, none⟩), .int .i64 t] w fun e w' => e = .returned (.tuple #[]) ∧ ∃ v', PM (Nu F w w') w' a v1 v' l (L1 ++ L2) n ∧ Chg F w w' := by
  subst hL
  have HM := Lib.hid h
  have HB := Lib.hid ((Below.refl w.heap.size w).alloc (Nat.le_refl _) (.cells #[.int .i64 t] 3))
  have hm := h.below HB.out
  obtain ⟨k0, k1, k2, kf⟩ := hm.cells
  obtain ⟨g, cp, rfl, _, hlt⟩ := World.ownsRow.form h.r2 (by simp; omega)
  have HD := Lib.hid (delete_any g cp w.heap.size L1 L2 t _ (by have := h.lt g (h.f2 g rfl); omega) h1 h2 hm.r2 (cell_of_row _ _ 0 _ _ _ (heap_alloc_new w (.cells #[.int .i64 t] 3))) hl)
  have hgb : Hid (some g ≠ some a) := h.nb h.r2 (by decide)
  obtain ⟨N, hN⟩ : ∃ N, (L1 ++ t :: L2).length = N := ⟨_, rfl⟩
  rw [hN] at k1 HD
  have HN := Lib.hid hN
  clear h hm h1 h2 hl hN
  go_enter Try.func53, Try.ntmps53
  go_wp2_with (go_at_call 70; (with_reducible refine HD.out.mono ?_); rintro e w2 ⟨rfl, hr2, hg2⟩; obtain ⟨i0, i1, i2, jf⟩ := HM.out.at1 HB.out hg2 hgb.out; have HP := Lib.hid (HM.out.put2 HB.out hr2 hg2 (.inl rfl)); clear hr2 hg2)
  go_end0
  have hp := HP.out
  simp only [List.length_append] at hp
  exact ⟨rfl, _, hp⟩
end
end Go.Proofs.Ytpjjpjdamieeeaa
