/- What both, Sees and Clashes of a Clock of package clock return. Conditions: the Clock lies in memory. -/
import Derived.Test.YtpjjpjdamieeeaaKb
namespace Go.Proofs.Ytpjjpjdamieeeaa
set_option maxRecDepth 100000
set_option linter.unusedVariables false
open Go.ChangeShapes Go.WideShapes Go.ChangeAt Go.RowKit
/-- What find hands back. -/
def ft (c : Ck) (t : Int) : Tx := if c.has t then c.tx t else ⟨0, 0, true⟩
theorem ft_has {c : Ck} {t : Int} (h : c.has t = true) : ft c t = c.tx t := by simp [ft, h]
section
variable {F : Nat → Prop} {w : World} {a : Nat} {c : Ck}
theorem find_any (h : PC F w a c) (t : Int) :
    Calls Try.prog 66 #[.pointer (some ⟨a, 0, none⟩), .int .i64 t] w fun e w' => e = .returned (.tuple #[tv (ft c t), .bool (c.has t)]) ∧ Below w.heap.size w w' := by
  cases ht : c.has t with
  | false =>
    have e : tv (ft c t) = tv0 := by simp [ft, ht, tv, tv0, abd]
    rw [e]; exact find_none h t ht
  | true => rw [ft_has ht]; exact find_some h t ht
theorem frozen_at {W w1 : World} {g : Nat} {cs : Array Value} {t : TypeId} (h : W.heap[g]? = some (.cells cs t (0, 0))) (hb : Below W.heap.size W w1) (o : Nat) : w1.frozen? ⟨g, o, none⟩ = false := by
  rw [hb.frozen (p := ⟨g, o, none⟩) (block_lt h), frozen_of_row W g o cs t h]
theorem below_set {B : Nat} {w w1 : World} {g o : Nat} {u : Value} (h : Below B w w1) (hg : B ≤ g) : Below B w (w1.setCell ⟨g, o, none⟩ u) :=
  h.trans ⟨rfl, rfl, rfl, by simp [World.setCell], fun k hk => Below.heap_setCell w1 _ u k (fun e => by simp at e; omega)⟩
set_option maxHeartbeats 1000000 in
theorem both_of {ptr : Value} {t b : Int} {x y : Tx} {p1 p2 : Bool} (hf0 : ∀ W, Below w.heap.size w W → Calls Try.prog 66 #[ptr, .int .i64 t] W fun e w' => e = .returned (.tuple #[tv x, .bool p1]) ∧ Below W.heap.size W w')
    (hg0 : ∀ W, Below w.heap.size w W → Calls Try.prog 66 #[ptr, .int .i64 b] W fun e w' => e = .returned (.tuple #[tv y, .bool p2]) ∧ Below W.heap.size W w') :
    Calls Try.prog 64 #[ptr, .int .i64 t, .int .i64 b] w fun e w' => e = .returned (.tuple #[tv x, tv y, .bool (p1 && p2)]) ∧ Below w.heap.size w w' := by
  have hf := Lib.hid hf0
  have hg := Lib.hid hg0
  have B0 := Lib.hid (((Below.refl w.heap.size w).alloc (Nat.le_refl _) (.cells #[.int .i64 0, .int .i64 0, .bool false] 94)).alloc (by simp) (.cells #[.int .i64 0, .int .i64 0, .bool false] 94))
  have h2 := Lib.hid (heap_two w (.cells #[.int .i64 0, .int .i64 0, .bool false] 94) (.cells #[.int .i64 0, .int .i64 0, .bool false] 94))
  clear hf0 hg0
  unfold tv at *
  cases p1
  all_goals (
    go_enter Try.func64, Try.ntmps64
    go_wp2_with fail
    (with_reducible refine (hf.out _ B0.out).mono ?_)
    rintro e w1 ⟨rfl, hb1⟩
    have z1 := hb1.size
    simp only [World.size_alloc] at z1
    have B1 := Lib.hid ((hb1.alloc hb1.size (.cells #[.int .i64 (x.mark : Nat), .int .i64 (x.com : Nat), .bool (abd x)] 94)))
    have n1 := Lib.hid (heap_alloc_new w1 (.cells #[.int .i64 (x.mark : Nat), .int .i64 (x.com : Nat), .bool (abd x)] 94))
    have H1 := Lib.hid (B0.out.trans (B1.out.mono B0.out.size))
    clear hb1
    go_wp2_with fail
    (with_reducible refine (hg.out _ H1.out).mono ?_)
    rintro e w2 ⟨rfl, hb2⟩
    have z2 := hb2.size
    simp only [World.size_alloc] at z2
    have B2 := Lib.hid (B1.out.trans (hb2.mono (by have := B1.out.size; simpa using this)))
    have b2' := Lib.hid ((Below.refl w2.heap.size w2).alloc (Nat.le_refl _) (.cells #[.int .i64 (y.mark : Nat), .int .i64 (y.com : Nat), .bool (abd y)] 94))
    have c1 := Lib.hid (hb2.trans (b2'.out.mono hb2.size))
    have B3 := Lib.hid (B2.out.trans (b2'.out.mono B2.out.size))
    have j0 := box_at n1.out c1.out 0
    have j1 := box_at n1.out c1.out 1
    have j2 := box_at n1.out c1.out 2
    have m0 := box_at (heap_alloc_new w2 (.cells #[.int .i64 (y.mark : Nat), .int .i64 (y.com : Nat), .bool (abd y)] 94)) (Below.refl _ _) 0
    have m1 := box_at (heap_alloc_new w2 (.cells #[.int .i64 (y.mark : Nat), .int .i64 (y.com : Nat), .bool (abd y)] 94)) (Below.refl _ _) 1
    have m2 := box_at (heap_alloc_new w2 (.cells #[.int .i64 (y.mark : Nat), .int .i64 (y.com : Nat), .bool (abd y)] 94)) (Below.refl _ _) 2
    have k0 := box_at h2.out.1 B3.out 0
    have k1 := box_at h2.out.1 B3.out 1
    have k2 := box_at h2.out.1 B3.out 2
    have l0 := box_at h2.out.2 B3.out 0
    have l1 := box_at h2.out.2 B3.out 1
    have l2 := box_at h2.out.2 B3.out 2
    have kf := fun o => frozen_at h2.out.1 B3.out o
    have lf := fun o => frozen_at h2.out.2 B3.out o
    simp only [List.getElem?_toArray, List.getElem?_cons_zero, List.getElem?_cons_succ] at m0 m1 m2 j0 j1 j2 k0 k1 k2 l0 l1 l2
    clear hb2 H1 hf hg
    have B4 := Lib.hid (B0.out.trans (B3.out.mono B0.out.size))
    clear B0 B1 B2 B3 b2' c1 h2 n1
    go_wp2_with fail
    generalize w2.alloc (.cells #[.int .i64 (y.mark : Nat), .int .i64 (y.com : Nat), .bool (abd y)] 94) = W2 at *
    go_region
    all_goals (
      go_wp2
      refine bodyPost_ret (v := .tuple #[.agg #[.int .i64 (x.mark : Nat), .int .i64 (x.com : Nat), .bool (abd x)], .agg #[.int .i64 (y.mark : Nat), .int .i64 (y.com : Nat), .bool (abd y)], .bool _]) (by simp [results, Try.results64, go_sem, k0, k1, k2, l0, l1, l2]) rfl ⟨rfl, ?_⟩
      (with_reducible refine Below.drew ?_)
      iterate 6 (with_reducible refine below_set ?_ (by omega))
      exact B4.out))
theorem both_any (h : PC F w a c) (t b : Int) :
    Calls Try.prog 64 #[.pointer (some ⟨a, 0, none⟩), .int .i64 t, .int .i64 b] w fun e w' => e = .returned (.tuple #[tv (ft c t), tv (ft c b), .bool (c.has t && c.has b)]) ∧ Below w.heap.size w w' :=
  both_of (fun W hW => find_any (h.below hW) t) (fun W hW => find_any (h.below hW) b)
def t0 : Tx := ⟨0, 0, true⟩
theorem both_nil (w : World) (t b : Int) :
    Calls Try.prog 64 #[.pointer none, .int .i64 t, .int .i64 b] w fun e w' => e = .returned (.tuple #[tv t0, tv t0, .bool false]) ∧ Below w.heap.size w w' :=
  both_of (p1 := false) (p2 := false) (fun W hW => find_nil W t) (fun W hW => find_nil W b)
/-- Two boxes more. -/
theorem below_two {w w1 : World} (h : Below w.heap.size w w1) (A B : Obj) : Below w.heap.size w ((w1.alloc A).alloc B) := (h.alloc h.size A).alloc (by have := h.size; simp; omega) B
theorem sees_of {ptr : Value} {t b : Int} {x y : Tx} {p : Bool} (hf0 : Calls Try.prog 64 #[ptr, .int .i64 t, .int .i64 b] w fun e w' => e = .returned (.tuple #[tv x, tv y, .bool p]) ∧ Below w.heap.size w w') :
    Calls Try.prog 47 #[ptr, .int .i64 t, .int .i64 b] w fun e w' => e = .returned (.bool (p && (decide (b = t) || (decide (0 < y.com) && decide (y.com ≤ x.mark))))) ∧ Below w.heap.size w w' := by
  have hf := Lib.hid hf0
  have hbf := Lib.hid (before_any y x)
  clear hf0
  unfold tv at *
  cases p with
  | false =>
    go_enter Try.func47, Try.ntmps47
    go_wp2_with (go_at_call 64; (with_reducible refine hf.out.mono ?_); rintro e w1 ⟨rfl, hb1⟩)
    go_ret
    exact ⟨rfl, below_two hb1 _ _⟩
  | true =>
    by_cases hbt : b = t
    · subst hbt
      go_enter Try.func47, Try.ntmps47
      go_wp2_with (go_at_call 64; (with_reducible refine hf.out.mono ?_); rintro e w1 ⟨rfl, hb1⟩)
      go_ret
      exact ⟨ret_b (by simp), below_two hb1 _ _⟩
    · have hne : (b == t) = false := by simpa using hbt
      go_enter Try.func47, Try.ntmps47
      go_wp2_with (first
        | (go_at_call 64; (with_reducible refine hf.out.mono ?_); rintro e w1 ⟨rfl, hb1⟩; have HB1 := Lib.hid (below_two hb1 (.cells #[.int .i64 (x.mark : Nat), .int .i64 (x.com : Nat), .bool (abd x)] 94) (.cells #[.int .i64 (y.mark : Nat), .int .i64 (y.com : Nat), .bool (abd y)] 94)); clear hb1)
        | (go_at_call 65; (with_reducible refine (hbf.out _).mono ?_); rintro e w2 ⟨rfl, hb2⟩))
      go_ret
      exact ⟨ret_b (by simp [hbt]), HB1.out.trans (hb2.mono HB1.out.size)⟩
theorem sees_any (h : PC F w a c) (t b : Int) :
    Calls Try.prog 47 #[.pointer (some ⟨a, 0, none⟩), .int .i64 t, .int .i64 b] w fun e w' => e = .returned (.bool (c.sees t b)) ∧ Below w.heap.size w w' := by
  have e : c.sees t b = ((c.has t && c.has b) && (decide (b = t) || (decide (0 < (ft c b).com) && decide ((ft c b).com ≤ (ft c t).mark)))) := by
    unfold Ck.sees
    cases h1 : c.has t with
    | false => simp
    | true =>
      cases h2 : c.has b with
      | false => simp
      | true => rw [ft_has h1, ft_has h2]; simp [eq_comm]
  rw [e]
  exact sees_of (both_any h t b)
theorem sees_nil (w : World) (t b : Int) :
    Calls Try.prog 47 #[.pointer none, .int .i64 t, .int .i64 b] w fun e w' => e = .returned (.bool false) ∧ Below w.heap.size w w' := sees_of (both_nil w t b)
theorem clashes_of {ptr : Value} {t b : Int} {x y : Tx} {p : Bool} (hf0 : Calls Try.prog 64 #[ptr, .int .i64 t, .int .i64 b] w fun e w' => e = .returned (.tuple #[tv x, tv y, .bool p]) ∧ Below w.heap.size w w') :
    Calls Try.prog 48 #[ptr, .int .i64 t, .int .i64 b] w fun e w' => e = .returned (.bool (p && (!decide (b = t) && (!abd y && !(decide (0 < y.com) && decide (y.com ≤ x.mark)))))) ∧ Below w.heap.size w w' := by
  have hf := Lib.hid hf0
  have hbf := Lib.hid (before_any y x)
  clear hf0
  unfold tv at *
  cases p with
  | false =>
    go_enter Try.func48, Try.ntmps48
    go_wp2_with (go_at_call 64; (with_reducible refine hf.out.mono ?_); rintro e w1 ⟨rfl, hb1⟩)
    go_ret
    exact ⟨rfl, below_two hb1 _ _⟩
  | true =>
    by_cases hbt : b = t
    · subst hbt
      go_enter Try.func48, Try.ntmps48
      go_wp2_with (go_at_call 64; (with_reducible refine hf.out.mono ?_); rintro e w1 ⟨rfl, hb1⟩)
      go_ret
      exact ⟨ret_b (by simp), below_two hb1 _ _⟩
    · have hne : (b == t) = false := by simpa using hbt
      generalize abd y = ay at *
      cases ay with
      | true =>
        go_enter Try.func48, Try.ntmps48
        go_wp2_with (go_at_call 64; (with_reducible refine hf.out.mono ?_); rintro e w1 ⟨rfl, hb1⟩)
        go_ret
        exact ⟨ret_b (by simp), below_two hb1 _ _⟩
      | false =>
        go_enter Try.func48, Try.ntmps48
        go_wp2_with (first
          | (go_at_call 64; (with_reducible refine hf.out.mono ?_); rintro e w1 ⟨rfl, hb1⟩; have HB1 := Lib.hid (below_two hb1 (.cells #[.int .i64 (x.mark : Nat), .int .i64 (x.com : Nat), .bool (abd x)] 94) (.cells #[.int .i64 (y.mark : Nat), .int .i64 (y.com : Nat), .bool false] 94)); clear hb1)
          | (go_at_call 65; (with_reducible refine (hbf.out _).mono ?_); rintro e w2 ⟨rfl, hb2⟩))
        go_ret
        exact ⟨ret_b (by simp [hbt]), HB1.out.trans (hb2.mono HB1.out.size)⟩
theorem clashes_any (h : PC F w a c) (t b : Int) :
    Calls Try.prog 48 #[.pointer (some ⟨a, 0, none⟩), .int .i64 t, .int .i64 b] w fun e w' => e = .returned (.bool (c.clashes t b)) ∧ Below w.heap.size w w' := by
  have e : c.clashes t b = ((c.has t && c.has b) && (!decide (b = t) && (!abd (ft c b) && !(decide (0 < (ft c b).com) && decide ((ft c b).com ≤ (ft c t).mark))))) := by
    unfold Ck.clashes
    cases h1 : c.has t with
    | false => simp
    | true =>
      cases h2 : c.has b with
      | false => simp
      | true =>
        rw [ft_has h1, ft_has h2]
        have hfr := h.ok.fresh _ (Ck.tx_mem h2)
        generalize c.tx b = y at *
        generalize c.tx t = x at *
        unfold abd
        by_cases hbt : t = b
        · simp [hbt]
        · rw [decide_eq_false hbt, decide_eq_false (show ¬ b = t from fun e => hbt e.symm)]
          cases hl : y.live with
          | true => rw [hfr hl]; simp
          | false =>
            by_cases h0 : y.com = 0
            · rw [h0]; simp
            · rw [decide_eq_false h0, decide_eq_true (show 0 < y.com by omega)]
              by_cases h3 : y.com ≤ x.mark
              · rw [decide_eq_true h3, decide_eq_false (show ¬ x.mark < y.com by omega)]; rfl
              · rw [decide_eq_false h3, decide_eq_true (show x.mark < y.com by omega)]; rfl
  rw [e]
  exact clashes_of (both_any h t b)
theorem clashes_nil (w : World) (t b : Int) :
    Calls Try.prog 48 #[.pointer none, .int .i64 t, .int .i64 b] w fun e w' => e = .returned (.bool false) ∧ Below w.heap.size w w' := clashes_of (both_nil w t b)
/-- Settled where by is not there, or not committed. -/
theorem settled_no {ptr : Value} {b : Int} {x : Tx} {p : Bool} (hf0 : Calls Try.prog 66 #[ptr, .int .i64 b] w fun e w' => e = .returned (.tuple #[tv x, .bool p]) ∧ Below w.heap.size w w') (hp : p = true → x.com = 0) :
    Calls Try.prog 49 #[ptr, .int .i64 b] w fun e w' => e = .returned (.bool false) ∧ Below w.heap.size w w' := by
  have hf := Lib.hid hf0
  have hc := Lib.hid (committed_any x)
  have HX := Lib.hid hp
  clear hf0 hp
  unfold tv at *
  cases p with
  | false =>
    clear HX
    go_enter Try.func49, Try.ntmps49
    go_wp2_with (go_at_call 66; (with_reducible refine hf.out.mono ?_); rintro e w1 ⟨rfl, hb1⟩)
    go_ret
    exact ⟨rfl, hb1.alloc hb1.size _⟩
  | true =>
    rw [decide_eq_false (show ¬ 0 < x.com by rw [HX.out rfl]; omega)] at hc
    clear HX
    go_enter Try.func49, Try.ntmps49
    go_wp2_with (first
      | (go_at_call 66; (with_reducible refine hf.out.mono ?_); rintro e w1 ⟨rfl, hb1⟩; have HB1 := Lib.hid (hb1.alloc hb1.size (.cells #[.int .i64 (x.mark : Nat), .int .i64 (x.com : Nat), .bool (abd x)] 94)); clear hb1)
      | (go_at_call 67; (with_reducible refine (hc.out _).mono ?_); rintro e w2 ⟨rfl, hb2⟩))
    go_ret
    exact ⟨rfl, HB1.out.trans (hb2.mono HB1.out.size)⟩
theorem settled_nil (w : World) (b : Int) :
    Calls Try.prog 49 #[.pointer none, .int .i64 b] w fun e w' => e = .returned (.bool false) ∧ Below w.heap.size w w' := settled_no (x := t0) (find_nil w b) (fun _ => rfl)
/-- Number k among the live ones. -/
theorem PM.liveAt {v1 v2 : Value} {l : List Tx} {L : List Int} {n : Nat} (h : PM F w a v1 v2 l L n) {k : Nat} (hk : k < L.length) : ∃ g cp, v2 = .slice (some ⟨g, 0, none⟩) L.length cp ∧ F g ∧ w.cell? ⟨g, k, none⟩ = some (.int .i64 L[k]) := by
  obtain ⟨g, cp, rfl, hb, hlt⟩ := World.ownsRow.form h.r2 (by omega)
  refine ⟨g, cp, rfl, h.f2 g rfl, ?_⟩
  rw [World.ownsRow.cellAt h.r2 k (by omega)]
  simp [ics, hk]
end
end Go.Proofs.Ytpjjpjdamieeeaa
