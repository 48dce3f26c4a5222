/- What without, Undo, Write and Sweep of the reference's Cell make of it. Conditions: the Cell and its Clock lie in memory, fewer than 900,000 versions. -/
import Derived.Test.YtpjjpjdamieeeaaNb
namespace Go.Proofs.Ytpjjpjdamieeeaa
set_option maxRecDepth 100000
set_option linter.unusedVariables false
open Go.ChangeShapes Go.WideShapes Go.ChangeAt Go.RowKit
theorem infoV : (Try.prog.info? 77).map (fun i => (i.zero, i.size, i.bytes)) = some (some (.agg #[.int .i64 0, .int .i64 0, .bool false]), 3, 24) := by kernel_rfl
theorem vc_one (l : List (Ver Int)) : ∀ u ∈ vcs l, u.oneCell' = true := by
  intro u hu
  obtain ⟨x, _, hx⟩ := List.mem_flatMap.1 hu
  simp only [vc, List.mem_cons, List.not_mem_nil, or_false] at hx
  rcases hx with rfl | rfl | rfl <;> rfl
theorem vcs_app (l m : List (Ver Int)) : vcs (l ++ m) = vcs l ++ vcs m := by simp [vcs]
section
variable {w : World} {ops : Array Oper} {rest : List Oper} {o : Oper} {a : Act} {Q : Exit → Act → World → Prop}
/-- append(v, m...) where both are our own. -/
theorem own_wp_row {K : Act → World → Prop} (t e : TypeId) (z : Value) (size bytes : Nat) (ht : Try.prog.underlying t = some (.slice e)) (hinfo : (Try.prog.info? e).map (fun i => (i.zero, i.size, i.bytes)) = some (some z, size, bytes)) (hzs : z.cells.size = size) (h0 : 0 < size) (hby : bytes ≤ 100) (s x : Operand)
    (ho : o.op = .call { callee := .builtin .append, args := #[s, x], argTypes := #[t, t] }) (v v2 : Value) (n m : Nat) (xs ys : List Value) (hown : w.ownsRow 0 e size v n xs) (hs : a.eval s = v) (hsrc : w.ownsRow 0 e size v2 m ys) (hx : a.eval x = v2) (h1 : ∀ u ∈ ys, u.oneCell' = true) (hle : n + m ≤ 1000000)
    (h : ∀ v' w', w'.ownsRow 0 e size v' (n + m) (xs ++ ys) → w.grownBy w' v.ownBlock → (v'.ownBlock = v.ownBlock ∨ v'.ownBlock = some w.heap.size) → K (a.put o.dst v') w') : o.wp Try.prog a w K Q := by
  rcases hsrc.2 with ⟨hv, hm0⟩ | ⟨g, cap, cur, hv, _⟩
  · obtain ⟨i0, hi0, hz0, hz1, hz2⟩ := info_parts hinfo
    have hrun := run_append_owned_none (P := Try.prog) (w := w) 0 t o.type e i0 size ht hi0 v _ _ hown
    have hys : ys = [] := List.length_eq_zero_iff.1 (by rw [hsrc.1, hm0, Nat.zero_mul])
    subst hys
    subst hm0
    unfold Oper.wp
    simp [execOp, ho, resolve, invoke, builtin, hs, hx, hv, hrun, Result.andThen]
    exact h v w (by rw [List.append_nil]; exact hown) (World.grownBy.refl _ _) (.inl rfl)
  · subst hv
    exact own_wp t e z size bytes ht hinfo hzs h0 hby s x ho v n xs hown hs ⟨g, 0, none⟩ m cap ys hx hsrc.1 (fun j u hj => World.ownsRow.cells hsrc (g := g) rfl j u hj) h1 hle h
theorem wp_own_row (t e : TypeId) (z : Value) (size bytes : Nat) (ht : Try.prog.underlying t = some (.slice e)) (hinfo : (Try.prog.info? e).map (fun i => (i.zero, i.size, i.bytes)) = some (some z, size, bytes)) (hzs : z.cells.size = size) (h0 : 0 < size) (hby : bytes ≤ 100) (hgd : o.guard = none) (s x : Operand)
    (ho : o.op = .call { callee := .builtin .append, args := #[s, x], argTypes := #[t, t] }) (v v2 : Value) (n m : Nat) (xs ys : List Value) (hown : w.ownsRow 0 e size v n xs) (hs : a.eval s = v) (hsrc : w.ownsRow 0 e size v2 m ys) (hx : a.eval x = v2) (h1 : ∀ u ∈ ys, u.oneCell' = true) (hle : n + m ≤ 1000000)
    (h : ∀ v' w', w'.ownsRow 0 e size v' (n + m) (xs ++ ys) → w.grownBy w' v.ownBlock → (v'.ownBlock = v.ownBlock ∨ v'.ownBlock = some w.heap.size) → wpList Try.prog ops Q rest (a.put o.dst v') w') : wpList Try.prog ops Q (o :: rest) a w :=
  wpList_plain hgd fun K hK => own_wp_row t e z size bytes ht hinfo hzs h0 hby s x ho v v2 n m xs ys hown hs hsrc hx h1 hle fun v' w' h1 h2 h3 => hK _ _ (h v' w' h1 h2 h3)
end
/-- The first i elements of a row. -/
theorem own_take {w : World} {e size n c g i : Nat} {xs : List Value} (h : w.ownsRow 0 e size (.slice (some ⟨g, 0, none⟩) n c) n xs) (hi : i ≤ n) : w.ownsRow 0 e size (.slice (some ⟨g, 0, none⟩) i c) i (xs.take (i * size)) := by
  obtain ⟨cur, q1, q2, q3, q4, q5⟩ := own_open h
  have hle : i * size ≤ n * size := Nat.mul_le_mul_right _ hi
  refine own_shut (by rw [List.length_take, h.1]; omega) q1 (by omega) q3 q4 ?_
  rw [← q5, List.take_take, Nat.min_eq_left hle]
theorem vcs_take (l : List (Ver Int)) (i : Nat) (hi : i ≤ l.length) : (vcs l).take (i * 3) = vcs (l.take i) := by
  have e : l = l.take i ++ l.drop i := (List.take_append_drop i l).symm
  have hl : (vcs (l.take i)).length = i * 3 := by rw [vcs_len, List.length_take, Nat.min_eq_left hi]
  have e2 : vcs l = vcs (l.take i) ++ vcs (l.drop i) := by rw [← vcs_app, ← e]
  rw [e2, ← hl, List.take_left]
set_option maxHeartbeats 1000000 in
theorem without_any {w : World} {v : Value} {l : List (Ver Int)} (h : w.ownsRow 0 77 3 v l.length (vcs l)) (i : Nat) (hi : i < l.length) (hl : l.length ≤ 900000) :
    Calls Try.prog 59 #[v, .int .i64 (i : Nat)] w fun e w' => ∃ v', e = .returned v' ∧ w'.ownsRow 0 77 3 v' (l.eraseIdx i).length (vcs (l.eraseIdx i)) ∧ Below w.heap.size w w' ∧ ∀ k, v'.ownBlock = some k → w.heap.size ≤ k := by
  obtain ⟨g, cp, rfl, _, hglt⟩ := World.ownsRow.form h (by omega)
  have hcap : l.length ≤ cp := (own_open h).choose_spec.2.1
  have hb0 := (Below.refl w.heap.size w).drew.alloc (Nat.le_refl _) (.cells #[] 77)
  have HB0 := Lib.hid hb0
  have HE : Hid ((w.drew.alloc (.cells #[] 77)).ownsRow 0 77 3 (.slice (some ⟨w.heap.size, 0, none⟩) 0 0) 0 []) := World.ownsRow_made w.drew #[] 0 (Nat.zero_le _) (by unfold maxLen; omega) rfl
  have hr0 := own_same (w' := w.drew.alloc (.cells #[] 77)) h (fun k hk => hb0.block k (by simp [Value.ownBlock] at hk; omega))
  have HR0 := own_take hr0 (i := i) (by omega)
  rw [vcs_take l i (by omega)] at HR0
  have HR0 := Lib.hid HR0
  have HR := Lib.hid h
  have HER : Hid (vcs (l.take i) ++ vcs (l.drop (i + 1)) = vcs (l.eraseIdx i)) := by simp only [Hid]; rw [← vcs_app, List.eraseIdx_eq_take_drop_succ]
  have HLE : Hid ((l.eraseIdx i).length = i + (l.length - (i + 1))) := by simp only [Hid]; rw [List.length_eraseIdx, if_pos hi]; omega
  have HCD : Hid (∀ W, Below w.heap.size w W → ∀ j u, (vcs (l.drop (i + 1)))[j]? = some u → W.cell? ((⟨g, (i + 1) * 3, none⟩ : Addr).add j) = some u) := fun W hW j u hj => by
    rw [Addr.add_lit]
    have hjl : j < (l.drop (i + 1)).length * 3 := by
      rcases Nat.lt_or_ge j ((l.drop (i + 1)).length * 3) with h | h
      · exact h
      · rw [List.getElem?_eq_none (by rw [vcs_len]; exact h)] at hj; cases hj
    rw [List.length_drop] at hjl
    rw [hW.cell (p := ⟨g, (i + 1) * 3 + j, none⟩) hglt, World.ownsRow.cellAt HR.out _ (by omega)]
    have e2 : vcs l = vcs (l.take (i + 1)) ++ vcs (l.drop (i + 1)) := by rw [← vcs_app, List.take_append_drop]
    rw [e2, List.getElem?_append_right (by rw [vcs_len, List.length_take]; omega), vcs_len, List.length_take, Nat.min_eq_left (by omega), show (i + 1) * 3 + j - (i + 1) * 3 = j by omega]
    exact hj
  have hw1 : IntKind.i64.wrap ((i : Int) + 1) = ((i + 1 : Nat) : Int) := by rw [show (i : Int) + 1 = ((i + 1 : Nat) : Int) by omega]; exact wrapI (by omega)
  have hdl : Hid ((vcs (l.drop (i + 1))).length = (l.length - (i + 1)) * 3) := by simp only [Hid]; rw [vcs_len, List.length_drop]
  have hicp : i ≤ cp := by omega
  have hi2 : i + 1 ≤ l.length := by omega
  have h0i : (0 : Int) ≤ (i : Int) + 1 := by omega
  have hi3 : (i : Int) + 1 ≤ (l.length : Int) := by omega
  have hii : (i : Int) ≤ (i : Int) + 1 := by omega
  clear h hr0 hb0
  go_enter Try.func59, Try.ntmps59
  go_wp2_with fail
  by_cases hce : cp = i + 1
  · have hln : l.length = i + 1 := by omega
    have HND : Hid (vcs (l.drop (i + 1)) = []) := by simp only [Hid]; rw [List.drop_of_length_le (by omega)]; rfl
    have HLN := Lib.hid hln
    clear hln
    subst hce
    go_region_law ((first
      | (have _ := HW1; refine st_of rfl (own_wp 66 77 _ 3 24 Try.underlying66 infoV rfl (by decide) (by decide) (.tmp 9) (.tmp 13) rfl _ _ (vcs (l.take i)) HW1.out rfl ⟨g, 0, none⟩ 0 0 [] rfl rfl (fun j u hj => by cases hj) (fun u hu => by cases hu) (by omega) ?_); intro v2 w2 hr2 hg2 ho2; have HR2 := Lib.hid hr2; have HG2 := Lib.hid hg2; have HO2 := Lib.hid ho2; clear hr2 hg2 ho2)
      | (refine st_of rfl (own_wp_row 66 77 _ 3 24 Try.underlying66 infoV rfl (by decide) (by decide) (.tmp 5) (.tmp 8) rfl _ _ 0 i [] (vcs (l.take i)) HE.out rfl HR0.out rfl (vc_one _) (by omega) ?_); intro v1 w1 hr1 hg1 ho1; rw [Nat.zero_add, List.nil_append] at hr1; have HW1 := Lib.hid hr1; have HO1 := Lib.hid ho1; have HB1 := Lib.hid (HB0.out.grown hg1 HB0.out.size (fun k hk => by simp [Value.ownBlock] at hk; omega)); clear hr1 hg1 ho1)))
    all_goals (
      go_wp2
      go_ret
      have n1 : ∀ k, v1.ownBlock = some k → w.heap.size ≤ k := fun k hk => by
        rcases HO1.out with e | e
        · rw [e] at hk; simp [Value.ownBlock] at hk; omega
        · rw [e] at hk; injection hk with hk; have : w.drew.heap.size = w.heap.size := rfl; simp at hk; omega
      have s1 := HB1.out.size
      refine ⟨v2, rfl, by rw [HLE.out, ← HER.out, HND.out, HLN.out, Nat.sub_self]; exact HR2.out, HB1.out.grown HG2.out HB1.out.size n1, fun k hk => ?_⟩
      rcases HO2.out with e | e
      · exact n1 k (by rw [← e]; exact hk)
      · rw [e] at hk; injection hk with hk; omega)
  · go_region_law ((first
      | (have _ := HW1; refine st_of rfl (own_wp 66 77 _ 3 24 Try.underlying66 infoV rfl (by decide) (by decide) (.tmp 9) (.tmp 13) rfl _ _ (vcs (l.take i)) HW1.out rfl ⟨g, (i + 1) * 3, none⟩ (l.length - (i + 1)) (cp - (i + 1)) (vcs (l.drop (i + 1))) rfl hdl.out (HCD.out _ HB1.out) (vc_one _) (by omega) ?_); intro v2 w2 hr2 hg2 ho2; have HR2 := Lib.hid hr2; have HG2 := Lib.hid hg2; have HO2 := Lib.hid ho2; clear hr2 hg2 ho2)
      | (refine st_of rfl (own_wp_row 66 77 _ 3 24 Try.underlying66 infoV rfl (by decide) (by decide) (.tmp 5) (.tmp 8) rfl _ _ 0 i [] (vcs (l.take i)) HE.out rfl HR0.out rfl (vc_one _) (by omega) ?_); intro v1 w1 hr1 hg1 ho1; rw [Nat.zero_add, List.nil_append] at hr1; have HW1 := Lib.hid hr1; have HO1 := Lib.hid ho1; have HB1 := Lib.hid (HB0.out.grown hg1 HB0.out.size (fun k hk => by simp [Value.ownBlock] at hk; omega)); clear hr1 hg1 ho1)))
    all_goals (
      go_wp2
      go_ret
      have n1 : ∀ k, v1.ownBlock = some k → w.heap.size ≤ k := fun k hk => by
        rcases HO1.out with e | e
        · rw [e] at hk; simp [Value.ownBlock] at hk; omega
        · rw [e] at hk; injection hk with hk; have : w.drew.heap.size = w.heap.size := rfl; simp at hk; omega
      have s1 := HB1.out.size
      refine ⟨v2, rfl, by rw [HLE.out, ← HER.out]; exact HR2.out, HB1.out.grown HG2.out HB1.out.size n1, fun k hk => ?_⟩
      rcases HO2.out with e | e
      · exact n1 k (by rw [← e]; exact hk)
      · rw [e] at hk; injection hk with hk; omega)
section
variable {F R : Nat → Prop} {w w' W : World} {a b : Nat} {v1 v' : Value} {c : Ck} {l l' : List (Ver Int)}
/-- A row is laid into the Cell. -/
theorem VM.put (h : VM F w a v1 l) (hc : Chg F w w') (hba : w'.heap[a]? = w.heap[a]?) {n : Nat} (hr : w'.ownsRow 0 77 3 v' n (vcs l')) (hnl : n = l'.length) (hn : ∀ k, v'.ownBlock = some k → F k ∨ w.heap.size ≤ k) :
    VM (Nu F w (w'.setCell ⟨a, 0, none⟩ v')) (w'.setCell ⟨a, 0, none⟩ v') a v' l' ∧ Chg F w (w'.setCell ⟨a, 0, none⟩ v') := by
  subst hnl
  have hz : (w'.setCell ⟨a, 0, none⟩ v').heap.size = w'.heap.size := by simp [World.setCell]
  have hs := hc.size
  have ha : w'.heap[a]? = some (.cells #[v1] 68 (0, 0)) := hba.trans h.blk
  have hn' : v'.ownBlock ≠ some a := fun e => by
    obtain ⟨cur, h1⟩ := own_type hr e
    rw [h1] at ha
    injection ha with ha; injection ha with _ ha; cases ha
  refine ⟨⟨fun k hk => ?_, .inl h.fa, fun k hk => ?_, ?_, ownsRow_setCell_other hr hn' _⟩, hc.grown (grown_set w' a 0 v') (fun k e => by injection e with e; subst e; exact .inl h.fa)⟩
  · rcases hk with hk | hk
    · rw [hz]; have := h.lt k hk; omega
    · exact hk.2
  · rcases hn k hk with h1 | h1
    · exact .inl h1
    · exact .inr ⟨h1, by rw [hz]; exact (World.ownsRow.lt hr k hk).2⟩
  · have := heap_setCell_same w' a 0 _ _ v' ha
    rw [this]; rfl
theorem VM.cellsIn (h : VM F w a v1 l) (hba : w'.heap[a]? = w.heap[a]?) : w'.cell? ⟨a, 0, none⟩ = some v1 ∧ ∀ o, w'.frozen? ⟨a, o, none⟩ = false := by
  have ha := hba.trans h.blk
  refine ⟨?_, fun o => frozen_of_row w' a o _ _ ha⟩
  rw [cell_of_row w' a _ _ _ _ ha]; rfl
theorem vsweep_any (h : VC F w a l) (hr : RC R w b c) (hl : l.length ≤ 900000) :
    Calls Try.prog 42 #[.pointer (some ⟨a, 0, none⟩), .pointer (some ⟨b, 0, none⟩)] w (DoesV F w a (.bool (Ver.spare c l)) (Ver.swS c l)) := by
  have H := Lib.hid h
  have HS := vspare_any h hr
  unfold Ver.swS
  cases hsp : Ver.spare c l with
  | false =>
    rw [hsp] at HS
    simp only [Bool.false_eq_true, if_false] at HS ⊢
    have HS := Lib.hid HS
    clear hsp h hr
    go_enter Try.func42, Try.ntmps42
    go_wp2_with (go_at_call 61; (with_reducible refine HS.out.mono ?_); rintro e w1 ⟨rfl, hb1⟩)
    go_ret
    exact doesV_of (H.out.below hb1) (Chg.below hb1) H.out.lt
  | true =>
    rw [hsp] at HS
    simp only [if_true] at HS ⊢
    have HS := Lib.hid HS
    have h0 : 0 < l.length := by
      cases l with
      | nil => cases hsp
      | cons x r => simp
    have HT : Hid (l.eraseIdx 0 = l.tail) := by simp only [Hid]; cases l <;> rfl
    obtain ⟨v1, hm⟩ := h
    have HM := Lib.hid hm
    have HW := Lib.hid (fun W (hW : Below w.heap.size w W) => (show Calls Try.prog 59 #[v1, .int .i64 0] W _ from without_any (hm.below hW).r1 0 h0 hl))
    clear hsp hr hm
    go_enter Try.func42, Try.ntmps42
    go_wp2_with (first
      | (go_at_call 61; (with_reducible refine HS.out.mono ?_); rintro e w1 ⟨rfl, hb1⟩; have HB1 := Lib.hid hb1; obtain ⟨k0, kf⟩ := (HM.out.below hb1).cells; clear hb1)
      | (go_at_call 59; (with_reducible refine (HW.out _ HB1.out).mono ?_); rintro e w2 ⟨v2, rfl, hr2, hb2, hn2⟩; have HB2 := Lib.hid (HB1.out.trans (hb2.mono HB1.out.size)); have hba := HB2.out.block a (HM.out.lt a HM.out.fa); obtain ⟨j0, jf⟩ := HM.out.cellsIn hba; obtain ⟨n2, hN2⟩ : ∃ n, n = (l.eraseIdx 0).length := ⟨_, rfl⟩; rw [← hN2] at hr2; obtain ⟨A2, c2, rfl⟩ := own_slice hr2; have HP := Lib.hid (HM.out.put (Chg.below HB2.out) hba hr2 hN2 (fun k hk => .inr (Nat.le_trans HB1.out.size (hn2 k hk)))); clear hr2 hb2 hn2 hba hN2))
    go_ret
    have hp := HP.out
    rw [HT.out] at hp
    exact ⟨rfl, ⟨_, hp.1⟩, hp.2⟩
theorem vundo_any (h : VC F w a l) (t : Int) (hl : l.length ≤ 900000) :
    Calls Try.prog 38 #[.pointer (some ⟨a, 0, none⟩), .int .i64 t] w (DoesV F w a (.tuple #[]) (Ver.undo t l)) := by
  have H := Lib.hid h
  obtain ⟨v1, hm⟩ := h
  obtain ⟨k0, kf⟩ := hm.cells
  have HM := Lib.hid hm
  have hbig := hm.big
  obtain ⟨A, cp, rfl⟩ := own_slice hm.r1
  have HW := Lib.hid (fun i (hi : i < l.length) => without_any hm.r1 i hi hl)
  clear hm
  go_enter Try.func38, Try.ntmps38
  go_wp2
  go_loopw [4] (fun i wr => ∃ k : Nat, k ≤ l.length ∧ i = .int .i64 (k : Nat) ∧ wr = w ∧ Hid (∀ j (hj : j < l.length), j < k → l[j].w ≠ t)) (fun i _ => l.length - (intOf i).toNat)
  case atStart => exact ⟨0, Nat.zero_le _, rfl, rfl, fun j hj h => absurd h (by omega)⟩
  case round =>
    obtain ⟨k, hk, rfl, rfl, HN⟩ := hrel
    by_cases hlt : k < l.length
    · obtain ⟨g, cp', hgg, _, q0, q1, q2⟩ := HM.out.row hlt
      injection hgg with hgg _ hcp
      subst hgg
      subst hcp
      clear q1 q2
      by_cases hwt : l[k].w = t
      · have HI : Hid (Ver.undo t l = l.eraseIdx k) := by
          simp only [Hid]
          unfold Ver.undo Ver.at?
          rw [show l.findIdx (fun x => decide (x.w = t)) = k from ?_]
          rw [List.findIdx_eq hlt]
          exact ⟨by simpa using hwt, fun j hj => by simpa using HN.out j (by omega) hj⟩
        have C1 := Lib.hid (HW.out k hlt)
        rw [hwt] at q0
        clear hwt HW
        go_wp2_with (go_at_call 59; (with_reducible refine C1.out.mono ?_); rintro e w2 ⟨v2, rfl, hr2, hb2, hn2⟩; have hba := hb2.block a (HM.out.lt a HM.out.fa); obtain ⟨j0, jf⟩ := HM.out.cellsIn hba; obtain ⟨n2, hN2⟩ : ∃ n, n = (l.eraseIdx k).length := ⟨_, rfl⟩; rw [← hN2] at hr2; obtain ⟨A2, c2, rfl⟩ := own_slice hr2; have HP := Lib.hid (HM.out.put (Chg.below hb2) hba hr2 hN2 (fun k hk => .inr (hn2 k hk))); clear hr2 hb2 hn2 hba hN2)
        go_end0
        have hp := HP.out
        rw [← HI.out] at hp
        exact ⟨rfl, ⟨_, hp.1⟩, hp.2⟩
      · have HN2 : Hid (∀ j (hj : j < l.length), j < k + 1 → l[j].w ≠ t) := fun j hj h => by
          by_cases e : j = k
          · subst e; exact hwt
          · exact HN.out j hj (by omega)
        have hq : (l[k].w == t) = false := by rw [beq_eq_false_iff_ne]; exact hwt
        clear hwt
        generalize l[k].w = yw at *
        go_wp2
        exact ⟨⟨k + 1, by omega, by go_num, trivial, HN2.out⟩, by simp [intOf]; omega⟩
    · obtain rfl : k = l.length := by omega
      have HI : Hid (Ver.undo t l = l) := Ver.undo_none (fun x hx => by
        obtain ⟨j, hj, rfl⟩ := List.getElem_of_mem hx
        exact HN.out j hj hj)
      go_wp2
      go_end0
      have hd := doesV_of (v := .tuple #[]) H.out (Chg.refl F wr) H.out.lt
      rw [← HI.out] at hd
      exact hd
end
end Go.Proofs.Ytpjjpjdamieeeaa
