/- What at, Add, Cut and Walk of the reference's Lists do; Same of the reference and turned of chapter 8's laws. Conditions: the Lists lie in memory, fewer than 900,000 items. -/
import Derived.Test.YtfmbogpbhchelaaSb
namespace Go.Proofs.Ytfmbogpbhchelaa
set_option maxRecDepth 100000
set_option linter.unusedVariables false
open Go.ChangeShapes Go.WideShapes Go.ChangeAt Go.RowKit
section
variable {w : World} {ops : Array Oper} {rest : List Oper} {o : Oper} {a : Act} {Q : Exit → Act → World → Prop}
/-- append(v, m...) where both are our own. -/
theorem own_wp_row {K : Act → World → Prop} (t e : TypeId) (z : Value) (size bytes : Nat) (ht : Try.prog.underlying t = some (.slice e)) (hinfo : (Try.prog.info? e).map (fun i => (i.zero, i.size, i.bytes)) = some (some z, size, bytes)) (hzs : z.cells.size = size) (h0 : 0 < size) (hby : bytes ≤ 100) (s x : Operand)
    (ho : o.op = .call { callee := .builtin .append, args := #[s, x], argTypes := #[t, t] }) (v v2 : Value) (n m : Nat) (xs ys : List Value) (hown : w.ownsRow 0 e size v n xs) (hs : a.eval s = v) (hsrc : w.ownsRow 0 e size v2 m ys) (hx : a.eval x = v2) (h1 : ∀ u ∈ ys, u.oneCell' = true) (hle : n + m ≤ 1000000)
    (h : ∀ v' w', w'.ownsRow 0 e size v' (n + m) (xs ++ ys) → w.grownBy w' v.ownBlock → (v'.ownBlock = v.ownBlock ∨ v'.ownBlock = some w.heap.size) → K (a.put o.dst v') w') : o.wp Try.prog a w K Q := by
  rcases hsrc.2 with ⟨hv, hm0⟩ | ⟨g, cap, cur, hv, _⟩
  · obtain ⟨i0, hi0, hz0, hz1, hz2⟩ := info_parts hinfo
    have hrun := run_append_owned_none (P := Try.prog) (w := w) 0 t o.type e i0 size ht hi0 v _ _ hown
    have hys : ys = [] := List.length_eq_zero_iff.1 (by rw [hsrc.1, hm0, Nat.zero_mul])
    subst hys
    subst hm0
    unfold Oper.wp
    simp [execOp, ho, resolve, invoke, builtin, hs, hx, hv, hrun, Result.andThen]
    exact h v w (by rw [List.append_nil]; exact hown) (World.grownBy.refl _ _) (.inl rfl)
  · subst hv
    exact own_wp t e z size bytes ht hinfo hzs h0 hby s x ho v n xs hown hs ⟨g, 0, none⟩ m cap ys hx hsrc.1 (fun j u hj => World.ownsRow.cells hsrc (g := g) rfl j u hj) h1 hle h
theorem wp_own_row (t e : TypeId) (z : Value) (size bytes : Nat) (ht : Try.prog.underlying t = some (.slice e)) (hinfo : (Try.prog.info? e).map (fun i => (i.zero, i.size, i.bytes)) = some (some z, size, bytes)) (hzs : z.cells.size = size) (h0 : 0 < size) (hby : bytes ≤ 100) (hgd : o.guard = none) (s x : Operand)
    (ho : o.op = .call { callee := .builtin .append, args := #[s, x], argTypes := #[t, t] }) (v v2 : Value) (n m : Nat) (xs ys : List Value) (hown : w.ownsRow 0 e size v n xs) (hs : a.eval s = v) (hsrc : w.ownsRow 0 e size v2 m ys) (hx : a.eval x = v2) (h1 : ∀ u ∈ ys, u.oneCell' = true) (hle : n + m ≤ 1000000)
    (h : ∀ v' w', w'.ownsRow 0 e size v' (n + m) (xs ++ ys) → w.grownBy w' v.ownBlock → (v'.ownBlock = v.ownBlock ∨ v'.ownBlock = some w.heap.size) → wpList Try.prog ops Q rest (a.put o.dst v') w') : wpList Try.prog ops Q (o :: rest) a w :=
  wpList_plain hgd fun K hK => own_wp_row t e z size bytes ht hinfo hzs h0 hby s x ho v v2 n m xs ys hown hs hsrc hx h1 hle fun v' w' h1 h2 h3 => hK _ _ (h v' w' h1 h2 h3)
end
/-- The first i elements of a row. -/
theorem own_take {w : World} {e size n c g i : Nat} {xs : List Value} (h : w.ownsRow 0 e size (.slice (some ⟨g, 0, none⟩) n c) n xs) (hi : i ≤ n) : w.ownsRow 0 e size (.slice (some ⟨g, 0, none⟩) i c) i (xs.take (i * size)) := by
  obtain ⟨cur, q1, q2, q3, q4, q5⟩ := own_open h
  have hle : i * size ≤ n * size := Nat.mul_le_mul_right _ hi
  refine own_shut (by rw [List.length_take, h.1]; omega) q1 (by omega) q3 q4 ?_
  rw [← q5, List.take_take, Nat.min_eq_left hle]
section
variable {F : Nat → Prop} {w w' : World} {a : Nat} {I : List It}
def idxR (I : List It) (l i : Int) : Int := if It.has I l i then (atI I l i : Nat) else -1
theorem at_any (h : IC F w a I) (t u : Int) :
    Calls Try.prog 24 #[.pointer (some ⟨a, 0, none⟩), .int .i64 t, .int .i64 u] w fun e w' => e = .returned (.int .i64 (idxR I t u)) ∧ w = w' := by
  obtain ⟨v1, h⟩ := h
  obtain ⟨k0, kf⟩ := h.cells
  have HM := Lib.hid h
  have hbig := h.big
  obtain ⟨A, cp, rfl⟩ := own_slice h.r1
  obtain ⟨post, hpo⟩ : ∃ post, post = idxR I t u := ⟨_, rfl⟩
  rw [← hpo]
  have HPO := Lib.hid hpo
  clear h hpo
  go_enter Try.func24, Try.ntmps24
  go_wp2
  go_loopw [7] (fun i wr => ∃ k : Nat, k ≤ I.length ∧ i = .int .i64 (k : Nat) ∧ wr = w ∧ Hid (∀ j (hj : j < I.length), j < k → I[j] ≠ ⟨t, u⟩)) (fun i _ => I.length - (intOf i).toNat)
  case atStart => exact ⟨0, Nat.zero_le _, rfl, rfl, fun j hj h => absurd h (by omega)⟩
  case round =>
    obtain ⟨k, hk, rfl, rfl, HN⟩ := hrel
    by_cases hlt : k < I.length
    · obtain ⟨g, cp', hgg, _, q0, q1⟩ := HM.out.row hlt
      injection hgg with hgg _ hcp
      subst hgg
      subst hcp
      have hi5 : IntKind.i64.wrap (k : Int) = (k : Int) := wrapI (by omega)
      by_cases hx : I[k] = ⟨t, u⟩
      · have HP : Hid (post = (k : Nat)) := by
          simp only [Hid]
          have e : atI I t u = k := by
            unfold atI
            rw [List.findIdx_eq hlt]
            exact ⟨decide_eq_true hx, fun j hj => decide_eq_false (HN.out j (by omega) hj)⟩
          have hh : It.has I t u = true := It.has_iff.2 (by rw [← hx]; exact List.getElem_mem hlt)
          rw [HPO.out, idxR, if_pos hh, e]
        rw [hx] at q0 q1
        clear hx
        go_wp2
        go_ret
        exact ⟨ret_i HP.out.symm, rfl⟩
      · have HN2 : Hid (∀ j (hj : j < I.length), j < k + 1 → I[j] ≠ ⟨t, u⟩) := fun j hj h => by
          by_cases e : j = k
          · subst e; exact hx
          · exact HN.out j hj (by omega)
        obtain ⟨y, hy⟩ : ∃ y, y = I[k] := ⟨_, rfl⟩
        rw [← hy] at q0 q1 hx
        clear hy
        obtain ⟨yl, yi⟩ := y
        simp only at q0 q1
        by_cases h1 : yl = t
        · have h2 : yi ≠ u := fun e => hx (by rw [h1, e])
          have hq2 : (yi == u) = false := by rw [beq_eq_false_iff_ne]; exact h2
          subst h1
          clear hx h2
          go_wp2
          exact ⟨⟨k + 1, by omega, by go_num, trivial, HN2.out⟩, by simp [intOf]; omega⟩
        · have hq1 : (yl == t) = false := by rw [beq_eq_false_iff_ne]; exact h1
          clear hx h1
          go_wp2
          exact ⟨⟨k + 1, by omega, by go_num, trivial, HN2.out⟩, by simp [intOf]; omega⟩
    · obtain rfl : k = I.length := by omega
      have HP : Hid (post = -1) := by
        simp only [Hid]
        have hh : ¬ It.has I t u = true := fun e => by
          obtain ⟨j, hj, e2⟩ := List.getElem_of_mem (It.has_iff.1 e)
          exact HN.out j hj hj e2
        rw [HPO.out, idxR, if_neg hh]
      go_wp2
      go_ret
      exact ⟨ret_i HP.out.symm, rfl⟩
theorem one_item (W : World) (x : It) (t : TypeId) : (W.alloc (.cells #[.int .i64 x.l, .int .i64 x.i] t)).ownsRow 0 t 2 (.slice (some ⟨W.heap.size, 0, none⟩) 1 1) 1 (itc [x]) :=
  World.ownsRow_lit W #[.int .i64 x.l, .int .i64 x.i] 1 (Nat.zero_le _) (by unfold maxLen; omega) rfl
theorem radd_any (h : IC F w a I) (t u : Int) (hl : I.length ≤ 900000) :
    Calls Try.prog 11 #[.pointer (some ⟨a, 0, none⟩), .int .i64 t, .int .i64 u] w (DoesI F w a (.bool (!It.has I t u)) (It.add I t u)) := by
  have H := Lib.hid h
  have HA := at_any h t u
  unfold idxR at HA
  cases hh : It.has I t u with
  | true =>
    rw [hh, if_pos rfl] at HA
    have HA := Lib.hid HA
    have HE : Hid (It.add I t u = I) := by simp only [Hid]; unfold It.add; rw [hh]; rfl
    rw [HE.out]
    clear hh h
    generalize atI I t u = k at *
    go_enter Try.func11, Try.ntmps11
    go_wp2_with (go_at_call 24; (with_reducible refine HA.out.mono ?_); rintro e w1 ⟨rfl, rfl⟩)
    go_ret
    exact doesI_of H.out (Chg.refl F w) H.out.lt
  | false =>
    rw [hh, if_neg (by decide)] at HA
    have HA := Lib.hid HA
    have HE : Hid (It.add I t u = ⟨t, u⟩ :: I) := by simp only [Hid]; unfold It.add; rw [hh]; rfl
    rw [HE.out]
    obtain ⟨v1, hm⟩ := h
    have HM := Lib.hid hm
    have hb := (Below.refl w.heap.size w).alloc (Nat.le_refl _) (.cells #[.int .i64 t, .int .i64 u] 52)
    have HB := Lib.hid hb
    have HO := Lib.hid (one_item w ⟨t, u⟩ 52)
    have HR := Lib.hid (hm.below hb).r1
    obtain ⟨k0, kf⟩ := (hm.below hb).cells
    obtain ⟨A, cp, rfl⟩ := own_slice hm.r1
    clear hh hm hb
    go_enter Try.func11, Try.ntmps11
    go_wp2_with (first
      | (go_at_call 24; (with_reducible refine HA.out.mono ?_); rintro e w1 ⟨rfl, rfl⟩)
      | (refine wp_own_row 26 52 _ 2 16 Try.underlying26 infoIt rfl (by decide) (by decide) rfl (.tmp 16) (.tmp 20) rfl _ _ 1 I.length (itc [⟨t, u⟩]) (itc I) HO.out rfl HR.out rfl (ic_one _) (by omega) ?_; intro v2 w2 hr2 hg2 ho2; have hb2 := HB.out.grown hg2 HB.out.size (fun k hk => by simp [Value.ownBlock] at hk; omega); have hba := hb2.block a (HM.out.lt a HM.out.fa); obtain ⟨j0, jf⟩ := HM.out.cellsIn hba; have hr3 : w2.ownsRow 0 52 2 v2 (1 + I.length) (itc (⟨t, u⟩ :: I)) := (by rw [show (⟨t, u⟩ :: I : List It) = [⟨t, u⟩] ++ I from rfl, itc_app]; exact hr2); have HP := Lib.hid (HM.out.put (Chg.below hb2) hba hr3 (by simp; omega) (fun k hk => .inr (by rcases ho2 with e | e <;> rw [e] at hk <;> simp [Value.ownBlock] at hk <;> omega))); obtain ⟨A2, c2, rfl⟩ := own_slice hr2; clear hr2 hg2 ho2 hb2 hba hr3))
    go_ret
    exact ⟨rfl, ⟨_, HP.out.1⟩, HP.out.2⟩
theorem drewN_add (w : World) (m n : Nat) : (w.drewN m).drewN n = w.drewN (m + n) := by
  simp [World.drewN, Nat.add_assoc]
theorem drew_more {w wr : World} (h : ∃ m, wr = w.drewN m) (n : Nat) : ∃ m, wr.drewN n = w.drewN m := by
  obtain ⟨m, rfl⟩ := h
  exact ⟨_, drewN_add w m n⟩
theorem same_any (A B : Option Addr) (L M : List Int) (ca cb : Nat) (w : World) (h1 : Row (.int .i64) w A L) (h2 : Row (.int .i64) w B M) (hl : L.length ≤ 900000) :
    Calls Try.prog 15 #[.slice A L.length ca, .slice B M.length cb] w fun e w' => e = .returned (.bool (decide (L = M))) ∧ ∃ n, w' = w.drewN n := by
  have H1 := Lib.hid h1
  have H2 := Lib.hid h2
  clear h1 h2
  by_cases hne : L.length = M.length
  · have hq : ((L.length : Int) == (M.length : Int)) = true := by rw [beq_iff_eq]; omega
    obtain ⟨post, hpo⟩ : ∃ post, post = decide (L = M) := ⟨_, rfl⟩
    rw [← hpo]
    have HPO := Lib.hid hpo
    have HNE := Lib.hid hne
    clear hpo
    have hM : M.length = L.length := hne.symm
    rw [hM]
    clear hq
    have HMl := Lib.hid hM
    clear hM hne
    go_enter Try.func15, Try.ntmps15
    go_wp2
    go_loopw [5] (fun i wr => ∃ k : Nat, k ≤ L.length ∧ i = .int .i64 (k : Nat) ∧ Hid (∃ m, wr = w.drewN m) ∧ Hid (∀ j (hj : j < L.length) (hj2 : j < M.length), j < k → L[j] = M[j])) (fun i _ => L.length - (intOf i).toNat)
    case atStart => exact ⟨0, Nat.zero_le _, rfl, ⟨0, rfl⟩, fun j hj hj2 h => absurd h (by omega)⟩
    case round =>
      obtain ⟨k, hk, rfl, HW, HN⟩ := hrel
      by_cases hlt : k < L.length
      · have hlt2 : k < M.length := by have := HMl.out; omega
        obtain ⟨ad, hA, c1⟩ := H1.out k hlt
        obtain ⟨bd, hB, c2⟩ := H2.out k hlt2
        subst hA
        subst hB
        have hi5 : IntKind.i64.wrap (k : Int) = (k : Int) := wrapI (by omega)
        have d1 : wr.cell? (ad.add k) = some (.int .i64 L[k]) := by obtain ⟨m, e⟩ := HW.out; rw [e]; exact c1
        have d2 : wr.cell? (bd.add k) = some (.int .i64 M[k]) := by obtain ⟨m, e⟩ := HW.out; rw [e]; exact c2
        clear c1 c2
        by_cases he : L[k] = M[k]
        · have HN2 : Hid (∀ j (hj : j < L.length) (hj2 : j < M.length), j < k + 1 → L[j] = M[j]) := fun j hj hj2 h => by
            by_cases e : j = k
            · subst e; exact he
            · exact HN.out j hj hj2 (by omega)
          rw [← he] at d2
          clear he
          generalize L[k] = x at *
          go_wp2_with fail
          go_quiet (fail)
          go_wp2
          exact ⟨⟨k + 1, by omega, by go_num, drew_more HW.out nq, HN2.out⟩, by simp [intOf]; omega⟩
        · have HP : Hid (post = false) := by simp only [Hid]; rw [HPO.out]; exact decide_eq_false (fun e => he (by subst e; rfl))
          have hq2 : (L[k] == M[k]) = false := by rw [beq_eq_false_iff_ne]; exact he
          clear he
          generalize L[k] = x at *
          generalize M[k] = y at *
          go_wp2_with fail
          go_quiet (fail)
          go_wp2
          go_ret
          exact ⟨ret_b HP.out.symm, drew_more HW.out nq⟩
      · obtain rfl : k = L.length := by omega
        have HP : Hid (post = true) := by
          simp only [Hid]
          rw [HPO.out]
          refine decide_eq_true (List.ext_getElem HNE.out (fun j h1 h2 => HN.out j h1 h2 h1))
        go_wp2
        go_ret
        exact ⟨ret_b HP.out.symm, HW.out⟩
  · have hd : decide (L = M) = false := decide_eq_false (fun e => hne (by rw [e]))
    have hq : ((L.length : Int) == (M.length : Int)) = false := by rw [beq_eq_false_iff_ne]; omega
    rw [hd]
    clear hd
    go_enter Try.func15, Try.ntmps15
    go_wp2
    go_ret
    exact ⟨rfl, 0, rfl⟩
end
end Go.Proofs.Ytfmbogpbhchelaa
