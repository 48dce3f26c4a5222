/- What Write of package drum does. Conditions: the Drum lies in memory, and what is written outside of it; at most 1000 writes wait. -/
import Derived.Test.YtembonenaoineaaDx
import Derived.Great.BuildSlice
namespace Go.Proofs.Ytembonenaoineaa
set_option maxRecDepth 100000
set_option linter.unusedVariables false
open Go.ChangeShapes Go.WideShapes Go.ChangeAt Go.RowKit

theorem zeroW : ∀ w, (zeroValue 89).run Try.prog w = .ok (.agg (wcs (0, zsec)).toArray) w := (zero_of_info (n := 65) (by kernel_rfl)).1
theorem infoW : (Try.prog.info? 89).map (fun i => (i.zero, i.size, i.bytes)) = some (some (.agg (wcs (0, zsec)).toArray), 65, 72) := by kernel_rfl
theorem run_build (i : Int) (w : World) : (Instr.build 89 #[(0, .int .i64 i)]).run Try.prog w = .ok (.agg (Value.int .i64 i :: bcs zsec).toArray) w := by kernel_rfl
theorem run_one {cs : List Value} (hn : cs.length = 65) (w : World) : (Instr.buildSlice 82 1 #[(0, .agg cs.toArray)]).run Try.prog w = .ok (.slice (some ⟨w.heap.size, 0, none⟩) 1 1) (w.alloc (.cells cs.toArray 89)) := by
  obtain ⟨i0, hi0, hz0, hz1, hz2⟩ := info_parts infoW
  refine run_buildSlice w _ 89 1 _ _ i0 _ Try.underlying82 hi0 hz0 (by rw [hz1]; decide) (by rw [hz1]; decide) ?_
  rw [hz1]
  have := Great.fill_whole (s := 65) (by omega) [Value.agg cs.toArray] ((Array.range (1 * 65)).map ((Value.agg (wcs (0, zsec)).toArray).cells[· % (Value.agg (wcs (0, zsec)).toArray).cells.size]!)) (fun v hv => by simp at hv; subst hv; simpa [Value.cells] using hn) (by simp)
  simpa [Value.cells] using this
section
variable {w : World} {ops : Array Oper} {rest : List Oper} {o : Oper} {a : Act} {Q : Exit → Act → World → Prop}
theorem wp_bld (hgd : o.guard = none) (x : Operand) (ho : o.op = .build 89 #[(0, x)]) (i : Int) (hx : a.eval x = .int .i64 i)
    (h : wpList Try.prog ops Q rest (a.put o.dst (.agg (Value.int .i64 i :: bcs zsec).toArray)) w) : wpList Try.prog ops Q (o :: rest) a w := by
  refine wpList_plain hgd fun K hK => ?_
  unfold Oper.wp execOp
  simp only [ho, List.map_toArray, List.map_cons, List.map_nil, hx, run_build, Sem.run_bind, Sem.run_pure, Result.andThen_ok]
  exact hK _ _ h
theorem wp_store_new {P : Program} (hgd : o.guard = none) (ty : TypeId) (x y : Operand) (ho : o.op = .store ty x y) (cells cur : Array Value) (hx : a.eval x = .pointer (some ⟨w.heap.size, 0, none⟩)) (hy : a.eval y = .agg cells)
    (hs : cur.size = cells.size) (hi : (P.info? ty).map (·.size) = some cells.size) (h1 : ∀ u ∈ cells.toList, u.oneCell' = true)
    (h : wpList P ops Q rest (a.put o.dst undef) (w.alloc (.cells cells ty))) : wpList P ops Q (o :: rest) a (w.alloc (.cells cur ty)) := by
  refine wpList_plain hgd fun K hK => ?_
  have hr := run_storeVar_new (P := P) w ty cur cells hi hs (by have := all_oneCell_toArray h1; simpa using this)
  unfold Oper.wp execOp
  simp only [ho, hx, hy, Instr.storeAt, Instr.sureAddr, Sem.run_bind, Sem.run_pure, Result.andThen_ok, hr]
  exact hK _ _ h
theorem wp_copy_new {P : Program} (hgd : o.guard = none) (d x : Operand) (dT sT : TypeId) (ho : o.op = .call { callee := .builtin .copy, args := #[d, x], argTypes := #[dT, sT] }) (elem : TypeId)
    (hu : P.underlying dT = some (.slice elem)) (hs : (P.info? elem).map (·.size) = some 1) (t : TypeId) (cur new : Array Value) (p dLen dCap sLen sCap : Nat) (A : Option Addr) (l : List UInt8) (hd : a.eval d = .slice (some ⟨w.heap.size, p, none⟩) dLen dCap) (hx : a.eval x = .slice A sLen sCap)
    (hb : BS (w.alloc (.cells cur t)) A l sCap) (hl : sLen = l.length) (hle : l.length ≤ dLen) (hfit : p + l.length ≤ cur.size) (hnew : (splice cur.toList p (bcs l)).toArray = new)
    (h : ∀ v, wpList P ops Q rest (a.put o.dst v) (w.alloc (.cells new t))) : wpList P ops Q (o :: rest) a (w.alloc (.cells cur t)) := by
  subst hl
  refine wp_copyK hgd d x dT sT ho elem 1 hu hs w.heap.size p dLen dCap _ sCap A hd hx cur t (bcs l) (heap_alloc_new w _) ?_ ?_ (by rw [bcs_len]; exact hfit) (bcs_one l) ?_
  · rw [bcs_len, Nat.mul_one]; exact (Nat.min_eq_left hle).symm
  · intro j v hj
    have hjl : j < l.length := by
      rcases Nat.lt_or_ge j l.length with h | h
      · exact h
      · rw [List.getElem?_eq_none (by rw [bcs_len]; exact h)] at hj; cases hj
    obtain ⟨ad, e, hc⟩ := hb.cells j hjl
    refine ⟨ad, e, ?_⟩
    rw [hc]
    simp [bcs, hjl] at hj
    rw [hj]
  · rw [World.setRow_alloc_new, hnew]
    exact h _
end
theorem wp_one {w : World} {a : Act} {o : Oper} {K : Act → World → Prop} {Q : Exit → Act → World → Prop} {cs : List Value} (hn : cs.length = 65) (x : Operand) (ho : o.op = .buildSlice 82 1 #[(0, x)]) (hx : a.eval x = .agg cs.toArray)
    (h : K (a.put o.dst (.slice (some ⟨w.heap.size, 0, none⟩) 1 1)) (w.alloc (.cells cs.toArray 89))) : o.wp Try.prog a w K Q := by
  unfold Oper.wp execOp
  simp only [ho, List.map_toArray, List.map_cons, List.map_nil, hx, run_one hn, Sem.run_bind, Sem.run_pure, Result.andThen_ok]
  exact h
theorem st_of {P : Program} {ops : Array Oper} {w : World} {a : Act} {o : Oper} {K : Act → World → Prop} {Q : Exit → Act → World → Prop} {E : Prop} (hgd : o.guard = none) (h : o.wp P a w K Q) : if Region.wanted o (yielded ops a.tmps) = true then o.wp P a w K Q else E := by
  have hw : Region.wanted o (yielded ops a.tmps) = true := by simp [Region.wanted, hgd]
  rw [if_pos hw]; exact h
theorem wp_load_one {P : Program} {w : World} {a : Act} {o : Oper} {K : Act → World → Prop} {Q : Exit → Act → World → Prop} (ty : TypeId) (x : Operand) (ho : o.op = .load ty x) (ad : Addr) (hx : a.eval x = .pointer (some ad)) (v : Value)
    (hi : (isAgg ty).run P w = .ok false w) (hc : w.cell? ad = some v) (h : K (a.put o.dst v) w) : o.wp P a w K Q := by
  unfold Oper.wp execOp
  simp [ho, hx, Instr.loadAt, Instr.sureAddr, loadVar, hi, hc]
  exact h
theorem splice_pad (i : Nat) (p : List UInt8) (hp : p.length ≤ 64) : splice (Value.int .i64 (i : Nat) :: bcs zsec) 1 (bcs p) = wcs (i, pad p) := by
  unfold splice wcs
  rw [bcs_len]
  have e : (bcs zsec).drop p.length = bcs (List.replicate (64 - p.length) 0) := by
    unfold bcs zsec
    rw [← List.map_drop, List.drop_replicate]
  rw [show 1 + p.length = p.length + 1 by omega, List.drop_succ_cons, e]
  simp [pad, bcs_append]
/-- What a write leaves in memory. -/
theorem write_end {F : Nat → Prop} {w W2 W3 W4 : World} {a g1 c1 g2 c2 : Nat} {pv : Value} {f : Bool} {n : Int} {d : Bool} {s : DS} (h : PM F w a g1 c1 g2 c2 pv f n d s) {j : Nat} {q : List UInt8} (hj : j < s.now.length) (hq : q.length = 64)
    (hb2 : Below w.heap.size w W2) {cur : Array Value} (hg1 : W2.heap[g1]? = some (.cells cur 87 (0, 0))) (hb3 : Below W2.heap.size (W2.setRow g1 (splice cur.toList (j * 64) (bcs q)).toArray) W3)
    {g cap : Nat} (ho : W4.ownsRow 0 89 65 (.slice (some ⟨g, 0, none⟩) (s.pend.length + 1) cap) (s.pend.length + 1) (pcs s.pend ++ wcs (j, q))) (hg : W3.grownBy W4 pv.ownBlock) (hat : pv.ownBlock = some g ∨ g = W3.heap.size) (hlt : g < W4.heap.size) :
    Does F w a (.int .i64 0) (put s j q) (.returned (.int .i64 0)) (W4.setCell ⟨a, 2, none⟩ (.slice (some ⟨g, 0, none⟩) (s.pend.length + 1) cap)) := by
  have s2 := hb2.size
  have s3 := hb3.size
  have s4 := hg.size
  simp only [size_setRow] at s3
  have hlta := h.lt a h.fa
  have hltg := h.lt g1 h.f1
  have hga : g ≠ a := by
    rcases hat with hat | hat
    · intro e; subst e; exact h.an3 hat
    · omega
  have hk4 : ∀ k, k < w.heap.size → k ≠ g1 → pv.ownBlock ≠ some k → W4.heap[k]? = w.heap[k]? := fun k hk h1 h3 => by
    rw [hg.block k (by omega) (fun e => h3 e.symm), hb3.block k (by omega), setRow_other W2 g1 k _ h1, hb2.block k hk]
  have hk : ∀ k, k < w.heap.size → k ≠ g1 → pv.ownBlock ≠ some k → k ≠ a → (W4.setCell ⟨a, 2, none⟩ (.slice (some ⟨g, 0, none⟩) (s.pend.length + 1) cap)).heap[k]? = w.heap[k]? := fun k hk h1 h3 ha => by
    rw [heap_setCell_other _ _ _ _ ha]; exact hk4 k hk h1 h3
  have hz : (W4.setCell ⟨a, 2, none⟩ (.slice (some ⟨g, 0, none⟩) (s.pend.length + 1) cap)).heap.size = W4.heap.size := by simp [World.setCell]
  have hr1 : W2.ownsRow 0 87 64 (.slice (some ⟨g1, 0, none⟩) s.now.length c1) s.now.length (scs s.now) := own_same h.r1 (fun k e => by simp [Value.ownBlock] at e; subst e; exact hb2.block _ hltg)
  have hbq : (bcs q).length = 64 := by rw [bcs_len, hq]
  have hr1' := own_splice hr1 hg1 (j * 64) (bcs q) (by rw [hbq]; omega)
  rw [show splice (scs s.now) (j * 64) (bcs q) = scs (s.now.set j q) from flat_set bcs 64 s.now (fun x hx => by rw [bcs_len, h.ok.sec x hx]) q hbq j hj] at hr1'
  have hg14 : (W4.setCell ⟨a, 2, none⟩ (.slice (some ⟨g, 0, none⟩) (s.pend.length + 1) cap)).heap[g1]? = (W2.setRow g1 (splice cur.toList (j * 64) (bcs q)).toArray).heap[g1]? := by
    rw [heap_setCell_other _ _ _ _ (fun e => h.an1 e.symm), hg.block g1 (by omega) (fun e => h.n13 e.symm), hb3.block g1 (by omega)]
  have hba : W4.heap[a]? = _ := (hk4 a hlta h.an1 h.an3).trans h.blk
  have hlen : (put s j q).now.length = s.now.length := by simp [put]
  have hpl : (put s j q).pend.length = s.pend.length + 1 := by simp [put]
  refine ⟨rfl, ⟨g1, c1, g2, c2, .slice (some ⟨g, 0, none⟩) (s.pend.length + 1) cap, f, n, d, ⟨put_ok h.ok hj hq, ?_, .inl h.fa, .inl h.f1, .inl h.f2, ?_, h.ne, ?_, ?_, ?_, ?_, h.life⟩⟩, ?_⟩
  · intro k hk'
    rw [hz]
    rcases hk' with hk' | hk'
    · have := h.lt k hk'; omega
    · rw [hz] at hk'; exact hk'.2
  · intro k e
    simp [Value.ownBlock] at e
    subst e
    rcases hat with hat | hat
    · exact .inl (h.f3 _ hat)
    · exact .inr ⟨by omega, by rw [hz]; exact hlt⟩
  · rw [hlen]
    exact heap_setCell_same W4 a 2 _ _ _ hba
  · rw [hlen]
    exact own_same hr1' (fun k e => by simp [Value.ownBlock] at e; subst e; exact hg14)
  · rw [hlen]
    exact own_same h.r2 (fun k e => by simp [Value.ownBlock] at e; subst e; exact hk _ (h.lt _ h.f2) (fun e => h.ne e.symm) h.n23 (fun e => h.an2 e.symm))
  · rw [hpl, show (put s j q).pend = s.pend ++ [(j, q)] from rfl, pcs_snoc]
    exact ownsRow_setCell_other ho (by simp only [Value.ownBlock]; intro e; injection e with e; exact hga e) _
  · exact ⟨by simp only [World.setCell]; exact hg.os.trans (hb3.os.trans (hb2.os)), by simp only [World.setCell]; exact hg.tape.trans (hb3.tape.trans (hb2.tape)), by simp only [World.setCell]; exact hg.output.trans (hb3.output.trans (hb2.output)), by rw [hz]; omega, fun k hk' hF =>
      hk k hk' (fun e => hF (e ▸ h.f1)) (fun e => hF (h.f3 k e)) (fun e => hF (e ▸ h.fa))⟩
theorem there_ticked (s : DS) (i : Int) : there (ticked s) i = there s i := rfl
theorem write_nil (w : World) (i : Int) (v : Value) : Calls Try.prog 21 #[.pointer none, .int .i64 i, v] w fun e w' => e = .returned (.int .i64 9) ∧ w = w' := by
  go_enter Try.func21, Try.ntmps21
  go_wp2_with (go_at_call 44; refine (runs_nil _).mono ?_; rintro e w' ⟨rfl, rfl⟩)
  go_ret
  exact ⟨rfl, rfl⟩
set_option maxRecDepth 100000 in
set_option maxHeartbeats 1000000 in
theorem write_any {F : Nat → Prop} {w : World} {a : Nat} {s : DS} (h : PD F w a s) (i : Int) (A : Option Addr) (p : List UInt8) (c : Nat) (hb : BS w A p c) (hA : ∀ ad, A = some ad → p = [] ∨ ¬ F ad.block) (hp : s.pend.length ≤ 1000) :
    Calls Try.prog 21 #[.pointer (some ⟨a, 0, none⟩), .int .i64 i, .slice A p.length c] w (Does F w a (.int .i64 (wrE s i p)) (wrS s i p)) := by
  have H := Lib.hid h
  have H0 := Lib.hid h.lt
  have HR := Lib.hid (runs_any h)
  have HB := Lib.hid hb
  have HA := Lib.hid hA
  clear h hb hA
  cases hr : runsB s with
  | false =>
    rw [hr] at HR
    rw [show wrE s i p = 9 by simp [wrE, hr], show wrS s i p = ticked s by simp [wrS, hr]]
    clear hr
    go_enter Try.func21, Try.ntmps21
    go_wp2_with fail
    refine HR.out.mono ?_
    rintro e w1 ⟨rfl, h1, h2⟩
    have h1' := Lib.hid h1
    have h2' := Lib.hid h2
    clear h1 h2
    go_wp2
    go_ret
    exact ⟨rfl, h1'.out, h2'.out⟩
  | true =>
    rw [hr] at HR
    cases hf : fits s i p with
    | false =>
      rw [show wrE s i p = 1 by simp [wrE, hr, hf], show wrS s i p = ticked s by simp [wrS, hf]]
      clear hr
      have hcase : there (ticked s) i = false ∨ (there (ticked s) i = true ∧ 64 < p.length) := by
        simp only [fits, decide_eq_false_iff_not] at hf
        rw [there_ticked]
        simp only [there, decide_eq_false_iff_not, decide_eq_true_eq]
        omega
      clear hf
      rcases hcase with ht | ⟨ht, hl⟩
      · go_enter Try.func21, Try.ntmps21
        go_wp2_with fail
        refine HR.out.mono ?_
        rintro e w1 ⟨rfl, h1, h2⟩
        have HH := Lib.hid (has_any h1 i)
        have h1' := Lib.hid h1
        have h2' := Lib.hid h2
        rw [ht] at HH
        clear h1 h2 ht
        go_wp2_with (go_at_call 45; refine HH.out.mono ?_; rintro e w' ⟨rfl, rfl⟩)
        go_ret
        exact ⟨rfl, h1'.out, h2'.out⟩
      · go_enter Try.func21, Try.ntmps21
        go_wp2_with fail
        refine HR.out.mono ?_
        rintro e w1 ⟨rfl, h1, h2⟩
        have HH := Lib.hid (has_any h1 i)
        have h1' := Lib.hid h1
        have h2' := Lib.hid h2
        rw [ht] at HH
        clear h1 h2 ht
        go_wp2_with (go_at_call 45; refine HH.out.mono ?_; rintro e w' ⟨rfl, rfl⟩)
        go_ret
        exact ⟨rfl, h1'.out, h2'.out⟩
    | true =>
      rw [show wrE s i p = 0 by simp [wrE, hr, hf], show wrS s i p = put (ticked s) i.toNat (pad p) by simp [wrS, hr, hf]]
      have hf2 := hf
      simp only [fits, decide_eq_true_eq] at hf2
      obtain ⟨i0, i1, hl⟩ := hf2
      obtain ⟨j, rfl⟩ : ∃ j : Nat, i = j := ⟨i.toNat, by omega⟩
      have ht : there (ticked s) j = true := by rw [there_ticked]; simp only [there, decide_eq_true_eq]; omega
      have hj : j < (ticked s).now.length := by simp only [ticked]; omega
      have hpn : (ticked s).pend.length ≤ 1000 := hp
      clear hr hf i1 i0 hp
      rw [show (j : Int).toNat = j by omega]
      have HS := Lib.hid (splice_pad j p hl)
      have Hq := Lib.hid (pad_len hl)
      generalize pad p = q at *
      generalize ticked s = s1 at *
      go_enter Try.func21, Try.ntmps21
      go_wp2_with fail
      refine HR.out.mono ?_
      rintro e w1 ⟨rfl, h1, h2⟩
      have HH := Lib.hid (has_any h1 j)
      have h2' := Lib.hid h2
      rw [ht] at HH
      have HB1 := Lib.hid ((HB.out.chg h2 HA.out).below ((Below.refl w1.heap.size w1).alloc (Nat.le_refl _) (.cells (Value.int .i64 (j : Nat) :: bcs zsec).toArray 89)))
      have h1' := Lib.hid h1
      clear h1 h2 ht
      go_wp2_with (first
        | (go_at_call 45; refine HH.out.mono ?_; rintro e w' ⟨rfl, rfl⟩)
        | (refine wp_bld rfl (.tmp 20) rfl (j : Nat) rfl ?_)
        | (refine wp_alloc rfl 89 rfl _ zeroW ?_)
        | (refine wp_store_new rfl 89 (.tmp 7) (.tmp 21) rfl _ _ rfl rfl rfl sizeW (fun u hu => by simp only [List.mem_cons] at hu; rcases hu with rfl | hu; rfl; exact bcs_one _ u hu) ?_)
        | (refine wp_copy_new rfl (.tmp 23) (.tmp 24) 36 36 rfl 5 Try.underlying36 (by kernel_rfl) _ _ (wcs (j, q)).toArray 1 64 64 _ c A p rfl rfl HB1.out rfl (by omega) (by simp [bcs_len, zsec]; omega) (by rw [← HS.out]) ?_; intro v0))
      obtain ⟨g1, c1, g2, c2, pv, f, n, d, hm⟩ := h1'.out
      have HM := Lib.hid hm
      obtain ⟨W2, HW2⟩ : ∃ W, Hid (W = w1.alloc (.cells (wcs (j, q)).toArray 89)) := ⟨_, rfl⟩
      rw [← HW2.out]
      have hB2 : Below w1.heap.size w1 W2 := by rw [HW2.out]; exact (Below.refl w1.heap.size w1).alloc (Nat.le_refl _) _
      have HB2 := Lib.hid hB2
      have hm2 := hm.same (F' := Nu F w w1) (w' := W2) (fun _ h => h) (fun k hk => Nat.lt_of_lt_of_le (hm.lt k hk) hB2.size) (fun k hk => hB2.block k (hm.lt k hk))
      obtain ⟨k0, k1, k2, k3, k4, k5, kf⟩ := hm2.cells
      have hBB : W2.heap[w1.heap.size]? = some (.cells (wcs (j, q)).toArray 89 (0, 0)) := by rw [HW2.out]; exact heap_alloc_new w1 _
      have HBB := Lib.hid hBB
      have HRG := Lib.hid (range_blk (w := W2) hBB (p := 1) (n := 64) (cs := bcs q) (by simp [wcs, List.take_of_length_le, bcs_len, Hq.out]))
      obtain ⟨cur, hg1, hc1, hc2, hc3, hc4⟩ := own_open hm2.r1
      have HG1 := Lib.hid hg1
      have HC3 := Lib.hid hc3
      have hc3' : (j + 1) * 64 ≤ cur.size := by rw [hc3]; exact Nat.mul_le_mul_right _ (by omega)
      clear hm hm2 hB2 hBB hg1 hc3 hc4 hc2
      refine wp_region_still_tail 8 (by kernel_rfl) (by kernel_rfl) ?_
      simp only [List.take_succ_cons, List.take_zero, List.drop_succ_cons, List.drop_zero]
      iterate 6 still_step
      refine load_still rfl 87 (.tmp 31) rfl w1.heap.size 1 rfl (bcs q) _ (fun i v hv => HRG.out i v hv) Try.underlying87 rfl (by rw [bcs_len, Hq.out]; exact sizeS) ?_
      still_step
      refine wpStill_nil ?_
      refine wp_store_blk rfl 87 (.tmp 33) (.tmp 32) rfl g1 (j * 64) (bcs q).toArray cur 87 rfl rfl HG1.out (by simp [bcs_len, Hq.out]; omega) (by rw [List.size_toArray, bcs_len, Hq.out]; exact sizeS) (bcs_one q) ?_
      have hz2 := HB2.out.size
      obtain ⟨W3, HW3⟩ : ∃ W, Hid (W = W2.drew.setRow g1 (splice cur.toList (j * 64) (bcs q)).toArray) := ⟨_, rfl⟩
      change wpList _ _ _ _ _ (W2.drew.setRow g1 (splice cur.toList (j * 64) (bcs q)).toArray)
      rw [← HW3.out]
      have hg3 : W2.grownBy W3 (some g1) := by rw [HW3.out]; exact (grown_drew W2 (some g1)).trans (grown_row _ g1 _)
      have hla := HM.out.lt a HM.out.fa
      have hl1 := HM.out.lt g1 HM.out.f1
      have hba : W3.heap[a]? = _ := (hg3.block a (by omega) (fun e => by injection e with e; exact HM.out.an1 e)).trans ((HB2.out.block a hla).trans HM.out.blk)
      have hs3 := hg3.size
      obtain ⟨V, HV⟩ : ∃ V, Hid (V = W3.drew) := ⟨_, rfl⟩
      have hvb : V.heap = W3.heap := by rw [HV.out]; rfl
      have hbv : V.heap[a]? = _ := (by rw [hvb] : V.heap[a]? = W3.heap[a]?).trans hba
      have j2 : V.cell? ⟨a, 2, none⟩ = some pv := by rw [cell_of_row V a _ _ _ _ hbv]; rfl
      have h3B : V.heap[w1.heap.size]? = some (.cells (wcs (j, q)).toArray 89 (0, 0)) := by rw [hvb]; exact (hg3.block _ (block_lt HBB.out) (fun e => by injection e with e; omega)).trans HBB.out
      have hwl : (wcs (j, q)).length = 65 := by simp [wcs, bcs_len, Hq.out]
      have HRG3 := Lib.hid (range_blk (w := V) h3B (p := 0) (n := 65) (cs := wcs (j, q)) (by simp [List.take_of_length_le, hwl]))
      have hr3 : V.ownsRow 0 89 65 pv s1.pend.length (pcs s1.pend) := own_same HM.out.r3 (fun k e => by rw [hvb]; exact (hg3.block k (Nat.lt_of_lt_of_le (HM.out.lt k (HM.out.f3 k e)) hz2) (fun e' => by injection e' with e'; subst e'; exact HM.out.n13 e)).trans (HB2.out.block k (HM.out.lt k (HM.out.f3 k e))))
      have HR3 := Lib.hid (hr3.alloc (.cells (wcs (j, q)).toArray 89))
      have HNW := Lib.hid (World.news_of_block (heap_alloc_new V (.cells (wcs (j, q)).toArray 89)))
      have HWL := Lib.hid hwl
      have HG3 := Lib.hid hg3
      have hva : a < V.heap.size := by rw [hvb]; omega
      have H3A : Hid (a < (V.alloc (.cells (wcs (j, q)).toArray 89)).heap.size) := by simp only [Hid]; simp; omega
      have HN3 : Hid (some a ≠ pv.ownBlock) := fun e => HM.out.an3 e.symm
      have j2a : (V.alloc (.cells (wcs (j, q)).toArray 89)).cell? ⟨a, 2, none⟩ = some pv := (World.cell?_alloc_past (w := V) _ a 2 hva).trans j2
      have JF : Hid ((V.alloc (.cells (wcs (j, q)).toArray 89)).frozen? ⟨a, 2, none⟩ = false) := (World.frozen?_alloc_past (w := V) _ a 2 hva).trans (frozen_of_row V a 2 _ _ hbv)
      have J2 := Lib.hid j2
      have J2A := Lib.hid j2a
      clear k0 k1 k2 k3 k4 k5 kf hg3 hba h3B hr3 hwl hc1 hc3' hbv hvb j2 j2a hva
      go_wp2_with fail
      obtain ⟨i0, hi0, hz0, hz1, hzb⟩ := info_parts infoW
      refine wp_region_any (by kernel_rfl) ?_
      change wpAny _ _ _ _ _ _ _ (World.drew W3)
      rw [← HV.out]
      refine wpAny_take (i := 0) (oi := ⟨some 34, .move (.tmp 0), _, _, _, none⟩) (v := .pointer (some ⟨a, 0, none⟩)) rfl (by kernel_rfl) (by kernel_rfl) (by kernel_rfl) (fun _ _ _ h => h) (Or.inl ⟨by rfl, fun w => by go_simp⟩) ?_
      refine wpAny_take (i := 1) (oi := ⟨some 35, .move (.tmp 0), _, _, _, none⟩) (v := .pointer (some ⟨a, 0, none⟩)) rfl (by kernel_rfl) (by kernel_rfl) (by kernel_rfl) (fun _ _ _ h => h) (Or.inl ⟨by rfl, fun w => by go_simp⟩) ?_
      refine wpAny_take (i := 2) (oi := ⟨some 36, .nilCheck (.tmp 35), _, _, _, none⟩) (v := .pointer (some ⟨a, 0, none⟩)) rfl (by kernel_rfl) (by kernel_rfl) (by kernel_rfl) (fun _ _ _ h => h) (Or.inl ⟨by rfl, fun w => by go_simp⟩) ?_
      refine wpAny_take (i := 3) (oi := ⟨some 37, .fieldAddr 84 (.tmp 36) 2, _, _, _, none⟩) (v := .pointer (some ⟨a, 2, none⟩)) rfl (by kernel_rfl) (by kernel_rfl) (by kernel_rfl) (fun _ _ _ h => h) (Or.inl ⟨by rfl, fun w => by go_simp⟩) ?_
      refine wpAny_ready (rs := [4, 5]) (by kernel_rfl) (by simp) ?_
      refine AllReady.cons (o := ⟨some 38, .load 82 (.tmp 37), _, _, _, none⟩) rfl (fun K hK => ?_) (AllReady.cons (o := ⟨some 39, .load 89 (.tmp 7), _, _, _, none⟩) rfl (fun K hK => ?_) AllReady.nil)
      focus
        with_reducible refine st_of rfl ?_
        with_reducible refine wp_load_one 82 (.tmp 37) rfl ⟨a, 2, none⟩ ?_ pv (Try.isAgg82 _) J2.out ?_
        · go_simp
        with_reducible refine hK _ _ ?_
        clear hK K
        refine wpAny_ready (rs := [5]) (by kernel_rfl) (by simp) ?_
        refine AllReady.cons (o := ⟨some 39, .load 89 (.tmp 7), _, _, _, none⟩) rfl (fun K hK => ?_) AllReady.nil
        with_reducible refine st_of rfl ?_
        with_reducible refine wp_load_mid 89 (.tmp 7) rfl w1.heap.size 0 ?_ (wcs (j, q)) _ HRG3.out Try.underlying89 ?_ ?_ ?_
        · go_simp
        · rfl
        · rw [HWL.out]; exact sizeW
        with_reducible refine hK _ _ ?_
        clear hK K
        refine wpAny_ready (rs := [6]) (by kernel_rfl) (by simp) ?_
        refine AllReady.cons (o := ⟨some 40, .buildSlice 82 1 #[(0, .tmp 39)], _, _, _, none⟩) rfl (fun K hK => ?_) AllReady.nil
        with_reducible refine st_of rfl ?_
        with_reducible refine wp_one HWL.out (.tmp 39) rfl ?_ ?_
        · go_simp
        with_reducible refine hK _ _ ?_
        clear hK K
      rotate_left
      focus
        with_reducible refine st_of rfl ?_
        with_reducible refine wp_load_mid 89 (.tmp 7) rfl w1.heap.size 0 ?_ (wcs (j, q)) _ HRG3.out Try.underlying89 ?_ ?_ ?_
        · go_simp
        · rfl
        · rw [HWL.out]; exact sizeW
        with_reducible refine hK _ _ ?_
        clear hK K
        refine wpAny_ready (rs := [4, 6]) (by kernel_rfl) (by simp) ?_
        refine AllReady.cons (o := ⟨some 38, .load 82 (.tmp 37), _, _, _, none⟩) rfl (fun K hK => ?_) (AllReady.cons (o := ⟨some 40, .buildSlice 82 1 #[(0, .tmp 39)], _, _, _, none⟩) rfl (fun K hK => ?_) AllReady.nil)
        focus
          with_reducible refine st_of rfl ?_
          with_reducible refine wp_load_one 82 (.tmp 37) rfl ⟨a, 2, none⟩ ?_ pv (Try.isAgg82 _) J2.out ?_
          · go_simp
          with_reducible refine hK _ _ ?_
          clear hK K
          refine wpAny_ready (rs := [6]) (by kernel_rfl) (by simp) ?_
          refine AllReady.cons (o := ⟨some 40, .buildSlice 82 1 #[(0, .tmp 39)], _, _, _, none⟩) rfl (fun K hK => ?_) AllReady.nil
          with_reducible refine st_of rfl ?_
          with_reducible refine wp_one HWL.out (.tmp 39) rfl ?_ ?_
          · go_simp
          with_reducible refine hK _ _ ?_
          clear hK K
        rotate_left
        focus
          with_reducible refine st_of rfl ?_
          with_reducible refine wp_one HWL.out (.tmp 39) rfl ?_ ?_
          · go_simp
          with_reducible refine hK _ _ ?_
          clear hK K
          refine wpAny_ready (rs := [4]) (by kernel_rfl) (by simp) ?_
          refine AllReady.cons (o := ⟨some 38, .load 82 (.tmp 37), _, _, _, none⟩) rfl (fun K hK => ?_) AllReady.nil
          with_reducible refine st_of rfl ?_
          with_reducible refine wp_load_one 82 (.tmp 37) rfl ⟨a, 2, none⟩ ?_ pv (Try.isAgg82 _) J2A.out ?_
          · go_simp
          with_reducible refine hK _ _ ?_
          clear hK K
      all_goals (
        refine wpAny_ready (rs := [7]) (by kernel_rfl) (by simp) ?_
        refine AllReady.cons (o := ⟨some 41, .call { callee := .builtin .append, args := #[.tmp 38, .tmp 40], argTypes := #[82, 82] }, _, _, _, none⟩) rfl (fun K hK => ?_) AllReady.nil
        with_reducible refine step_append_lies _ rfl (.tmp 38) (.tmp 40) 82 rfl 0 89 i0 _ 65 72 Try.underlying82 hi0 hz0 hz1 hzb ?_ (by decide) pv _ _ ?_ HR3.out ⟨V.heap.size, 0, none⟩ 1 1 (wcs (j, q)) ?_ ?_ HNW.out (wcs_one _) (by decide) ?_ ?_ (Nat.zero_le _) _ rfl ?_
        · rfl
        · go_simp
        · go_simp
        · rw [HWL.out]
        · unfold maxLen; omega
        · omega
        intro g cap W4 ho hgr hat hlt
        have q2 := (hgr.cell_far ⟨a, 2, none⟩ H3A.out HN3.out).trans J2A.out
        have qf := (hgr.frozen_far ⟨a, 2, none⟩ H3A.out HN3.out).trans JF.out
        with_reducible refine hK _ _ ?_
        clear hK K
        refine wpAny_take (i := 8) (oi := ⟨some 42, .nilCheck (.tmp 34), _, _, _, none⟩) (v := .pointer (some ⟨a, 0, none⟩)) rfl (by kernel_rfl) (by kernel_rfl) (by kernel_rfl) (fun _ _ _ h => h) (Or.inl ⟨by rfl, fun w => by go_simp⟩) ?_
        refine wpAny_take (i := 9) (oi := ⟨some 43, .fieldAddr 84 (.tmp 42) 2, _, _, _, none⟩) (v := .pointer (some ⟨a, 2, none⟩)) rfl (by kernel_rfl) (by kernel_rfl) (by kernel_rfl) (fun _ _ _ h => h) (Or.inl ⟨by rfl, fun w => by go_simp⟩) ?_
        refine wpAny_ready (rs := [10]) (by kernel_rfl) (by simp) ?_
        refine AllReady.cons (o := ⟨none, .store 82 (.tmp 43) (.tmp 41), _, _, _, none⟩) rfl (fun K hK => ?_) AllReady.nil
        go_simp
        with_reducible refine hK _ _ ?_
        clear hK K
        refine wpAny_done (by kernel_rfl) ?_ _
        clear q2 qf
        go_wp2
        go_ret
        have hV : Below W2.heap.size (W2.setRow g1 (splice cur.toList (j * 64) (bcs q)).toArray) V := by rw [HV.out, HW3.out]; exact ⟨rfl, rfl, rfl, Nat.le_refl _, fun _ _ => rfl⟩
        have hVs : W2.heap.size ≤ V.heap.size := by rw [HV.out]; exact hs3
        exact Does.next h2'.out (write_end HM.out hj Hq.out HB2.out HG1.out (hV.alloc hVs _) ho hgr hat hlt) H0.out)
end Go.Proofs.Ytembonenaoineaa
