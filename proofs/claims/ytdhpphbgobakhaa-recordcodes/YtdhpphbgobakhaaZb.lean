/- The program's keys, valued and IsNode of chapter 10: contracts. Conditions: the node's rows lie in memory; strings are of a length that Go allows. -/
import Derived.Test.YtdhpphbgobakhaaZa
import Derived.Test.YtdhpphbgobakhaaZk
import Derived.Laws.MakeOwn
namespace Go.Proofs.Ytdhpphbgobakhaa
set_option maxRecDepth 100000
set_option linter.unusedVariables false
open Go.ChangeShapes Go.WideShapes Go.ChangeAt Go.RowKit
open Fl (S)
open Val (V cmpV isB ltT)
theorem infoS : (Try.prog.info? 9).map (fun i => (i.zero, i.size, i.bytes)) = some (some (.string ⟨#[]⟩), 1, 16) := by kernel_rfl
def kc (ps : List Pr) (k : Nat) : List Value := ((ps.take k).map fun p => Value.string p.k) ++ List.replicate (ps.length - k) (Value.string ⟨#[]⟩)
theorem kc_set (ps : List Pr) (k : Nat) (h : k < ps.length) : (kc ps k).set k (.string ps[k].k) = kc ps (k + 1) := by
  unfold kc
  have hl : ((ps.take k).map fun p => Value.string p.k).length = k := by simp; omega
  rw [List.set_append_right _ _ (by omega), hl, Nat.sub_self, show ps.length - k = (ps.length - (k + 1)) + 1 by omega, List.replicate_succ, List.set_cons_zero, List.take_succ_eq_append_getElem h, List.map_append, List.append_assoc]
  rfl
theorem kc_len (ps : List Pr) (k : Nat) (h : k ≤ ps.length) : (kc ps k).length = ps.length := by unfold kc; simp; omega
theorem kc_end (ps : List Pr) : kc ps ps.length = (ps.map (·.k)).map Value.string := by unfold kc; simp
set_option maxHeartbeats 1000000 in
theorem pkeys_any (A : Option Addr) (ps : List Pr) (c : Nat) (w : World) (h : PRow w A ps) (hl : ps.length ≤ 3) :
    Calls Try.prog 59 #[.slice A ps.length c] w fun e w' => ∃ g, e = .returned (.slice (some ⟨g, 0, none⟩) ps.length ps.length) ∧ Row .string w' (some ⟨g, 0, none⟩) (ps.map (·.k)) ∧ Below w.heap.size w w' := by
  obtain ⟨i0, hi0, hz0, hz1, hz2⟩ := info_parts infoS
  obtain ⟨wm, hrun, hown, hg⟩ := run_make_full (P := Try.prog) w 0 40 9 i0 _ 1 Try.underlying40 hi0 hz0 hz1 .i64 .i64 ps.length (by rw [hz2]; omega) (by unfold maxLen; omega) (Nat.zero_le _)
  have hk0 : (madeCells (Value.string ⟨#[]⟩).cells (ps.length * 1)).toList = kc ps 0 := by
    rw [show (Value.string ⟨#[]⟩).cells = #[Value.string ⟨#[]⟩] from rfl, toList_madeCells_one]; simp [kc]
  rw [hk0] at hown
  have HO := Lib.hid hown
  have HG := Lib.hid ((Below.refl w.heap.size w).grown hg (Nat.le_refl _) (fun k e => by cases e))
  have HR := Lib.hid h
  clear h hown hg hk0 hi0 hz0 hz1 hz2
  go_enter Try.func59, Try.ntmps59
  go_wp2
  clear hrun
  go_loopw [11] (fun i wr => ∃ k : Nat, k ≤ ps.length ∧ i = .int .i64 (k : Nat) ∧ Hid (wr.ownsRow 0 9 1 (.slice (some ⟨w.heap.size, 0, none⟩) ps.length ps.length) ps.length (kc ps k)) ∧ Hid (Below w.heap.size w wr)) (fun i _ => ps.length - (intOf i).toNat)
  case atStart => exact ⟨0, Nat.zero_le _, rfl, HO.out, HG.out⟩
  case round =>
    obtain ⟨k, hk, rfl, HW, HB⟩ := hrel
    by_cases hlt : k < ps.length
    · obtain ⟨ad, pk, e1, hp, he⟩ := (HR.out.below HB.out) k hlt
      subst e1
      have HS := Lib.hid (kc_set ps k hlt)
      have HLT := Lib.hid (World.ownsRow.lt HW.out w.heap.size rfl).2
      have hi5 : IntKind.i64.wrap (k : Int) = (k : Int) := wrap_small (show k ≤ 9223372036854775807 by omega)
      have hi0 : (0 : Int) ≤ (k : Int) := by omega
      generalize ps[k] = x at *
      obtain ⟨xk, vk, vb, vn, vf, vt⟩ := x
      obtain ⟨c0, c1, c2, c3, c4, c5⟩ := he
      simp only at c0 c1 c2 c3 c4 c5
      have hal : Below wr.heap.size wr (wr.alloc (.cells #[.string xk, .int .i64 vk, .bool vb, .int .i64 vn, .float .f64 vf, .string vt] 49)) := one_box wr _
      have HW2 := Lib.hid (own_same HW.out (fun j hj => hal.block j (by simp [Value.ownBlock] at hj; rw [← hj]; exact HLT.out)))
      have q0 := World.ownsRow.frozenAt HW2.out k
      have q1 : (wr.alloc (.cells #[.string xk, .int .i64 vk, .bool vb, .int .i64 vn, .float .f64 vf, .string vt] 49)).cell? ⟨w.heap.size, k, none⟩ = (kc ps k)[k]? := World.ownsRow.cellAt HW2.out k (by omega)
      have HST := Lib.hid (World.ownsRow.stored HW2.out k (.string xk))
      have HB2 := Lib.hid ((HB.out.trans (hal.mono HB.out.size)).grown HST.out.2 (by have := HB.out.size; simp; omega) (fun j e => by injection e with e; omega))
      rw [List.getElem?_eq_getElem (by rw [kc_len ps k hk]; exact hlt)] at q1
      generalize (kc ps k)[k]'(by rw [kc_len ps k hk]; exact hlt) = old at *
      clear hal
      go_wp2
      refine ⟨⟨k + 1, by omega, by go_num, ?_, HB2.out⟩, by simp [intOf]; omega⟩
      have := HST.out.1
      rw [HS.out] at this
      exact this
    · obtain rfl : k = ps.length := by omega
      go_wp2
      go_ret
      refine ⟨w.heap.size, rfl, ?_, HB.out⟩
      have := HW.out
      rw [kc_end, ← List.length_map (f := fun x : Pr => x.k)] at this
      exact row_own this
def valB (l : List Pr) (i : Nat) : Bool := isB (l.getD i default).v && decide ((l.getD i default).v.k ≠ 0)
set_option maxHeartbeats 1000000 in
theorem pvalued_any (A : Option Addr) (ps : List Pr) (c : Nat) (w : World) (h : PRow w A ps) (hs : ∀ x, x ∈ ps → x.v.t.size ≤ maxLen) (hl : ps.length ≤ 1000000) :
    Calls Try.prog 60 #[.slice A ps.length c] w fun e w' => e = .returned (.bool ((List.range ps.length).all (valB ps))) ∧ Below w.heap.size w w' := by
  have HR := Lib.hid h
  have HO := Lib.hid hs
  clear h hs
  go_enter Try.func60, Try.ntmps60
  go_wp2
  go_loopw [7] (fun i wr => ∃ k : Nat, k ≤ ps.length ∧ i = .int .i64 (k : Nat) ∧ Hid ((List.range k).all (valB ps) = true) ∧ Hid (Below w.heap.size w wr)) (fun i _ => ps.length - (intOf i).toNat)
  case atStart => exact ⟨0, Nat.zero_le _, rfl, rfl, Below.refl _ _⟩
  case round =>
    obtain ⟨k, hk, rfl, HA, HB⟩ := hrel
    by_cases hlt : k < ps.length
    · obtain ⟨ad, pk, e1, hp, he⟩ := (HR.out.below HB.out) k hlt
      subst e1
      have HSz := HO.out _ (List.getElem_mem hlt)
      have HGD := Lib.hid (getD_at ps k default hlt)
      have HUP := Lib.hid (all_up (valB ps) k)
      have HBD := Lib.hid (fun h => all_bad (f := valB ps) hlt h)
      have hi5 : IntKind.i64.wrap (k : Int) = (k : Int) := wrap_small (show k ≤ 9223372036854775807 by omega)
      have hi0 : (0 : Int) ≤ (k : Int) := by omega
      generalize ps[k] = x at *
      have HIS := Lib.hid (fun W => vis_any x.v HSz W)
      clear HSz
      obtain ⟨xk, vk, vb, vn, vf, vt⟩ := x
      obtain ⟨c0, c1, c2, c3, c4, c5⟩ := he
      simp only at c0 c1 c2 c3 c4 c5 HGD HIS
      have hal := Lib.hid (one_box wr (.cells #[.string xk, .int .i64 vk, .bool vb, .int .i64 vn, .float .f64 vf, .string vt] 49))
      by_cases h0 : vk = 0
      · subst h0
        have HF := Lib.hid (HBD.out (by unfold valB; rw [HGD.out]; simp))
        go_wp2
        go_ret
        exact ⟨ret_b HF.out.symm, bnext HB.out hal.out⟩
      · have h1 : (vk == 0) = false := by simpa using h0
        cases hv : isB ⟨vk, vb, vn, vf, vt⟩ with
        | false =>
          have HF := Lib.hid (HBD.out (by unfold valB; rw [HGD.out, hv]; rfl))
          rw [hv] at HIS
          clear hv h0
          go_wp2_with (go_at_call 77; (with_reducible refine (HIS.out _).mono ?_); rintro e w1 ⟨rfl, hb⟩; have B1 := Lib.hid hb; clear hb)
          go_ret
          exact ⟨ret_b HF.out.symm, bnext (bnext HB.out hal.out) B1.out⟩
        | true =>
          have HU := Lib.hid (show (List.range (k + 1)).all (valB ps) = true by rw [HUP.out, HA.out]; unfold valB; rw [HGD.out, hv]; simp [h0])
          rw [hv] at HIS
          clear hv h0
          go_wp2_with (go_at_call 77; (with_reducible refine (HIS.out _).mono ?_); rintro e w1 ⟨rfl, hb⟩; have B1 := Lib.hid hb; clear hb)
          exact ⟨⟨k + 1, by omega, by go_num, HU.out, bnext (bnext HB.out hal.out) B1.out⟩, by simp [intOf]; omega⟩
    · have HE := Lib.hid (show (List.range ps.length).all (valB ps) = true by rw [← show k = ps.length by omega]; exact HA.out)
      go_wp2
      go_ret
      exact ⟨ret_b HE.out.symm, HB.out⟩
theorem all_and (f g h : Nat → Bool) (n : Nat) (e : ∀ i, i < n → f i = (g i && h i)) : (List.range n).all f = ((List.range n).all g && (List.range n).all h) := by
  induction n with
  | zero => rfl
  | succ n ih =>
    rw [all_up, all_up, all_up, ih (fun i hi => e i (by omega)), e n (by omega)]
    cases (List.range n).all g <;> cases (List.range n).all h <;> cases g n <;> cases h n <;> rfl
theorem nodeB_eq (n : Nd) : nodeB n = (decide (n.ls.length ≤ 3) && ascB n.ls && decide (n.ps.length ≤ 3) && ascB (n.ps.map (·.k)) && (List.range n.ps.length).all (valB n.ps)) := by
  have e : (List.range n.ps.length).all (prpB n.ps) = (ascB (n.ps.map (·.k)) && (List.range n.ps.length).all (valB n.ps)) := by
    unfold ascB
    rw [List.length_map]
    apply all_and
    intro i hi
    have g : ∀ j, j < n.ps.length → (n.ps.map (·.k)).getD j ⟨#[]⟩ = (n.ps.getD j default).k := fun j hj => by
      rw [getD_at _ _ _ (by rw [List.length_map]; exact hj), getD_at _ _ _ hj, List.getElem_map]
    unfold prpB labB valB
    rw [g i hi, g (i - 1) (by omega), Bool.and_assoc]
  unfold nodeB
  rw [e]
  show (ascB n.ls && _ && _) = _
  generalize ascB n.ls = a
  generalize ascB (n.ps.map (·.k)) = b
  generalize (List.range n.ps.length).all (valB n.ps) = c
  generalize decide (n.ls.length ≤ 3) = d
  generalize decide (n.ps.length ≤ 3) = f
  cases a <;> cases b <;> cases c <;> cases d <;> cases f <;> rfl
set_option maxHeartbeats 1000000 in
theorem pnode_any (n : Nd) (s : Ns) (w : World) (h : NdAt w n s) (ho : NdOk n) : Calls Try.prog 34 #[ndv n s] w fun r w' => r = .returned (.bool (nodeB n)) ∧ Below w.heap.size w w' := by
  have HD := Lib.hid (nodeB_eq n)
  obtain ⟨ls, ps⟩ := n
  obtain ⟨A, lc, B, pc⟩ := s
  simp only at HD
  generalize nodeB ⟨ls, ps⟩ = r at *
  obtain ⟨V, hV⟩ : ∃ V, V = w.alloc (.cells #[.slice A ls.length lc, .slice B ps.length pc] 43) := ⟨_, rfl⟩
  have hal : Below w.heap.size w V := by rw [hV]; exact one_box w _
  have hbx : V.heap[w.heap.size]? = some (.cells #[.slice A ls.length lc, .slice B ps.length pc] 43 (0, 0)) := by rw [hV]; exact heap_alloc_new w _
  have HB0 := Lib.hid hal
  have HN := Lib.hid (h.below hal)
  have HO := Lib.hid ho
  have HBX := Lib.hid (fun W (hW : Below V.heap.size V W) => show W.cell? ⟨w.heap.size, 0, none⟩ = some (.slice A ls.length lc) ∧ W.cell? ⟨w.heap.size, 1, none⟩ = some (.slice B ps.length pc) from by
    have hq := (hW.block _ (block_of hbx)).trans hbx
    constructor <;> rw [cell_of_row W _ _ _ _ _ hq] <;> rfl)
  have hl1 := ho.l1
  have hl2 := ho.l2
  simp only at hl1 hl2
  have HAS := Lib.hid (pasc_any A ls lc V HN.out.r1 ho.s1 hl1)
  clear h ho hal hbx
  by_cases h1 : ls.length ≤ 3
  case neg =>
    have HF := Lib.hid (show r = false by rw [HD.out, decide_eq_false h1]; rfl)
    obtain ⟨b0, b1⟩ := HBX.out V (Below.refl _ _)
    go_enter Try.func34, Try.ntmps34
    go_upto_region 1 with fail
    rw [← hV]
    clear hV
    go_wp2
    go_ret
    exact ⟨ret_b HF.out.symm, HB0.out⟩
  cases h2 : ascB ls with
  | false =>
    have HF := Lib.hid (show r = false by rw [HD.out, decide_eq_true h1, h2]; rfl)
    rw [h2] at HAS
    clear h2
    obtain ⟨b0, b1⟩ := HBX.out V (Below.refl _ _)
    go_enter Try.func34, Try.ntmps34
    go_upto_region 1 with fail
    rw [← hV]
    clear hV
    go_wp2_with fail
    (with_reducible refine HAS.out.mono ?_); rintro e w1 ⟨rfl, rfl⟩
    go_wp2
    go_ret
    exact ⟨ret_b HF.out.symm, HB0.out⟩
  | true =>
    rw [h2] at HAS
    by_cases h3 : ps.length ≤ 3
    case neg =>
      have HF := Lib.hid (show r = false by rw [HD.out, decide_eq_true h1, h2, decide_eq_false h3]; rfl)
      clear h2
      obtain ⟨b0, b1⟩ := HBX.out V (Below.refl _ _)
      go_enter Try.func34, Try.ntmps34
      go_upto_region 1 with fail
      rw [← hV]
      clear hV
      go_wp2_with fail
      (with_reducible refine HAS.out.mono ?_); rintro e w1 ⟨rfl, rfl⟩
      go_wp2
      go_ret
      exact ⟨ret_b HF.out.symm, HB0.out⟩
    have HQ := Lib.hid (show r = (ascB (ps.map (·.k)) && (List.range ps.length).all (valB ps)) by rw [HD.out, decide_eq_true h1, h2, decide_eq_true h3]; simp)
    have HKY := Lib.hid (pkeys_any B ps pc V HN.out.r2 h3)
    have HVL := Lib.hid (fun W (hW : Below V.heap.size V W) => pvalued_any B ps pc W (HN.out.r2.below hW) (fun x hx => (HO.out.s2 x hx).2) hl2)
    have HAK := Lib.hid (fun W g (hR : Row .string W (some ⟨g, 0, none⟩) (ps.map (·.k))) => pasc_any (some ⟨g, 0, none⟩) (ps.map (·.k)) ps.length W hR (fun x hx => by obtain ⟨y, hy, rfl⟩ := List.mem_map.1 hx; exact (HO.out.s2 y hy).1) (by rw [List.length_map]; exact hl2))
    simp only [List.length_map] at HAK
    clear h2
    cases h4 : ascB (ps.map (·.k)) with
    | false =>
      have HF := Lib.hid (show r = false by rw [HQ.out, h4]; rfl)
      rw [h4] at HAK
      clear h4
      obtain ⟨b0, b1⟩ := HBX.out V (Below.refl _ _)
      go_enter Try.func34, Try.ntmps34
      go_upto_region 1 with fail
      rw [← hV]
      clear hV
      go_wp2_with fail
      (with_reducible refine HAS.out.mono ?_); rintro e w1 ⟨rfl, rfl⟩
      go_wp2_with fail
      (with_reducible refine HKY.out.mono ?_); rintro e w1 ⟨g, rfl, hr, hb⟩
      have HR := Lib.hid hr
      have B1 := Lib.hid hb
      clear hr hb
      go_wp2_with fail
      (with_reducible refine (HAK.out _ _ HR.out).mono ?_); rintro e w2 ⟨rfl, rfl⟩
      obtain ⟨d0, d1⟩ := HBX.out _ B1.out
      go_wp2
      go_ret
      exact ⟨ret_b HF.out.symm, bnext HB0.out B1.out⟩
    | true =>
      have HF := Lib.hid (show r = (List.range ps.length).all (valB ps) by rw [HQ.out, h4]; rfl)
      rw [h4] at HAK
      clear h4
      generalize (List.range ps.length).all (valB ps) = vr at *
      obtain ⟨b0, b1⟩ := HBX.out V (Below.refl _ _)
      go_enter Try.func34, Try.ntmps34
      go_upto_region 1 with fail
      rw [← hV]
      clear hV
      go_wp2_with fail
      (with_reducible refine HAS.out.mono ?_); rintro e w1 ⟨rfl, rfl⟩
      go_wp2_with fail
      (with_reducible refine HKY.out.mono ?_); rintro e w1 ⟨g, rfl, hr, hb⟩
      have HR := Lib.hid hr
      have B1 := Lib.hid hb
      clear hr hb
      go_wp2_with fail
      (with_reducible refine (HAK.out _ _ HR.out).mono ?_); rintro e w2 ⟨rfl, rfl⟩
      obtain ⟨d0, d1⟩ := HBX.out _ B1.out
      go_wp2_with fail
      (with_reducible refine (HVL.out _ B1.out).mono ?_); rintro e w3 ⟨rfl, hb⟩
      have B2 := Lib.hid (bnext B1.out hb)
      clear hb
      go_wp2
      go_ret
      exact ⟨ret_b HF.out.symm, bnext HB0.out B2.out⟩
end Go.Proofs.Ytdhpphbgobakhaa
