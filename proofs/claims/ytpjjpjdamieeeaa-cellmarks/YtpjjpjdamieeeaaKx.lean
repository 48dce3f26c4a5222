/- The clock that ligaturelaw6.ClockOrder makes, without memory and in memory beside a row of ints of the law's own. No condition but those that each fact names. -/
import Derived.Test.YtpjjpjdamieeeaaKi
namespace Go.Proofs.Ytpjjpjdamieeeaa
set_option maxRecDepth 100000
set_option linter.unusedVariables false
open Go.ChangeShapes Go.WideShapes Go.ChangeAt Go.RowKit
/-- m transactions one behind the other, each committed at once. -/
def prE (a m : Nat) : List Tx := (List.range' a m).map fun j => ⟨j, j + 1, false⟩
theorem prE_len (a m : Nat) : (prE a m).length = m := by simp [prE]
theorem prE_get (a m i : Nat) (h : i < m) : (prE a m)[i]? = some ⟨a + i, a + i + 1, false⟩ := by simp [prE, h]
theorem prE_succ (a m : Nat) : prE a (m + 1) = prE a m ++ [⟨a + m, a + m + 1, false⟩] := by
  unfold prE
  rw [List.range'_concat, List.map_append]
  simp
theorem prE_dead (a m : Nat) : ∀ x ∈ prE a m, x.live = false := fun x hx => by
  unfold prE at hx
  obtain ⟨j, _, rfl⟩ := List.mem_map.1 hx
  rfl
theorem prE_cnt (a m : Nat) : (prE a m).countP (·.live) = 0 := List.countP_eq_zero.2 fun x hx => by simp [prE_dead a m x hx]
def O1 (i : Nat) : Ck := ⟨prE 0 i, i⟩
def O2 (k i : Nat) : Ck := ⟨prE 0 k ++ ⟨k, 0, true⟩ :: prE k (i - k), i⟩
def num (k j : Nat) : Int := if j < k then (j : Int) + 1 else (j : Int) + 2
theorem done_c {c : Ck} (hf : ¬ 4 ≤ c.cnt) : c.beg.comS ((c.l.length : Int) + 1) = ⟨c.l ++ [⟨c.n, c.n + 1, false⟩], c.n + 1⟩ ∧ c.beg.endE ((c.l.length : Int) + 1) = 0 ∧ c.begT = (c.l.length : Int) + 1 ∧ c.begE = 0 := by
  obtain ⟨n1, n2⟩ := Ck.beg_new hf
  have e0 : ((c.l.length + 1 : Nat) : Int) = (c.l.length : Int) + 1 := by omega
  rw [e0] at n1 n2
  have hl : c.beg.isLive ((c.l.length : Int) + 1) = true := by unfold Ck.isLive; rw [n1, n2]; rfl
  have e : c.beg = ⟨c.l ++ [⟨c.n, 0, true⟩], c.n⟩ := by unfold Ck.beg; rw [if_neg hf]
  refine ⟨?_, ?_, ?_, ?_⟩
  · unfold Ck.comS
    rw [if_pos hl, n1, e]
    simp only [Ck.mk.injEq, and_true]
    rw [show ((c.l.length : Int) + 1).toNat - 1 = c.l.length by omega, List.set_append_right _ _ (by omega)]
    simp
  · unfold Ck.endE; rw [if_pos hl]
  · unfold Ck.begT; rw [if_neg hf, e0]
  · unfold Ck.begE; rw [if_neg hf]
theorem O1_cnt (i : Nat) : ¬ 4 ≤ (O1 i).cnt := by unfold O1 Ck.cnt; rw [prE_cnt]; omega
theorem O2_cnt (k i : Nat) : ¬ 4 ≤ (O2 k i).cnt := by
  unfold O2 Ck.cnt
  rw [List.countP_append, List.countP_cons, prE_cnt, prE_cnt]
  simp
theorem O1_len (i : Nat) : (O1 i).l.length = i := prE_len _ _
theorem O2_len (k i : Nat) (h : k ≤ i) : (O2 k i).l.length = i + 1 := by unfold O2; simp [prE_len]; omega
theorem O1_next (i : Nat) : (O1 i).beg.comS ((i : Int) + 1) = O1 (i + 1) ∧ (O1 i).beg.endE ((i : Int) + 1) = 0 ∧ (O1 i).begT = (i : Int) + 1 ∧ (O1 i).begE = 0 := by
  have := done_c (O1_cnt i)
  rw [O1_len] at this
  refine ⟨?_, this.2⟩
  rw [this.1]
  unfold O1
  rw [prE_succ]; simp
theorem O2_next (k i : Nat) (h : k ≤ i) : (O2 k i).beg.comS ((i : Int) + 2) = O2 k (i + 1) ∧ (O2 k i).beg.endE ((i : Int) + 2) = 0 ∧ (O2 k i).begT = (i : Int) + 2 ∧ (O2 k i).begE = 0 := by
  have := done_c (O2_cnt k i)
  rw [O2_len k i h, show ((i + 1 : Nat) : Int) + 1 = (i : Int) + 2 by omega] at this
  refine ⟨?_, this.2⟩
  rw [this.1]
  unfold O2
  rw [show i + 1 - k = (i - k) + 1 by omega, prE_succ, show k + (i - k) = i by omega]
  simp
theorem O1_beg (k : Nat) : (O1 k).beg = O2 k k := by
  unfold Ck.beg
  rw [if_neg (O1_cnt k)]
  unfold O1 O2
  rw [Nat.sub_self]
  rfl
theorem O2_ne {k q : Nat} : ¬ (k : Int) + 1 = num k q := by unfold num; split <;> omega
theorem O2_r {k n : Nat} (hk : k ≤ n) : (O2 k n).has ((k : Int) + 1) = true ∧ (O2 k n).tx ((k : Int) + 1) = ⟨k, 0, true⟩ := by
  constructor
  · rw [Ck.has_iff, O2_len k n hk]; omega
  · unfold Ck.tx O2
    rw [show ((k : Int) + 1).toNat - 1 = k by omega, List.getD]
    simp only
    rw [List.getElem?_append_right (by rw [prE_len]; omega), prE_len, Nat.sub_self]
    rfl
theorem O2_num {k n : Nat} (hk : k ≤ n) {q : Nat} (hq : q < n) : (O2 k n).has (num k q) = true ∧ (O2 k n).tx (num k q) = ⟨q, q + 1, false⟩ := by
  unfold num
  constructor
  · rw [Ck.has_iff, O2_len k n hk]; split <;> omega
  · unfold Ck.tx O2
    rw [List.getD]
    simp only
    split
    · rename_i hlt
      rw [show ((q : Int) + 1).toNat - 1 = q by omega, List.getElem?_append_left (by rw [prE_len]; omega), prE_get 0 k q hlt]
      simp
    · rename_i hlt
      rw [show ((q : Int) + 2).toNat - 1 = q + 1 by omega, List.getElem?_append_right (by rw [prE_len]; omega), prE_len, show q + 1 - k = (q - k) + 1 by omega, List.getElem?_cons_succ, prE_get k (n - k) (q - k) (by omega), show k + (q - k) = q by omega]
      rfl
theorem O2_sees {k n : Nat} (hk : k ≤ n) {q : Nat} (hq : q < n) : (O2 k n).sees ((k : Int) + 1) (num k q) = decide (q < k) := by
  obtain ⟨r1, r2⟩ := O2_r hk
  obtain ⟨n1, n2⟩ := O2_num hk hq
  unfold Ck.sees
  rw [r1, r2, n1, n2, decide_eq_false O2_ne]
  simp only [Bool.true_and, Bool.false_or]
  rw [decide_eq_true (show 0 < q + 1 by omega)]
  simp only [Bool.true_and]
  rfl
theorem O2_clashes {k n : Nat} (hk : k ≤ n) {q : Nat} (hq : q < n) : (O2 k n).clashes ((k : Int) + 1) (num k q) = decide (k ≤ q) := by
  obtain ⟨r1, r2⟩ := O2_r hk
  obtain ⟨n1, n2⟩ := O2_num hk hq
  unfold Ck.clashes
  rw [r1, r2, n1, n2, decide_eq_false O2_ne]
  simp only [Bool.true_and, Bool.false_or, Bool.not_false]
  by_cases h : k ≤ q
  · rw [decide_eq_true h, decide_eq_true (show k < q + 1 by omega)]
  · rw [decide_eq_false h, decide_eq_false (show ¬ k < q + 1 by omega)]
theorem O2_settled {k n : Nat} (hk : k ≤ n) {q : Nat} (hq : q < n) : (O2 k n).settled (num k q) = decide (q < k) := by
  obtain ⟨n1, n2⟩ := O2_num hk hq
  unfold Ck.settled
  rw [n1, n2]
  simp only [Bool.true_and]
  rw [decide_eq_true (show 0 < q + 1 by omega), Bool.true_and]
  unfold O2
  simp only
  rw [List.all_append, List.all_cons]
  have e1 : ∀ a m, (prE a m).all (fun x => !x.live || decide (q + 1 ≤ x.mark)) = true := fun a m => List.all_eq_true.2 fun x hx => by rw [prE_dead a m x hx]; rfl
  rw [e1, e1]
  simp only [Bool.true_and, Bool.and_true, Bool.not_true, Bool.false_or]
  rfl
theorem O2_live {k n : Nat} (hk : k ≤ n) : (O2 k n).isLive ((k : Int) + 1) = true := by
  obtain ⟨r1, r2⟩ := O2_r hk
  unfold Ck.isLive
  rw [r1, r2]; rfl
/-! In memory, beside a row of ints. -/
def SysG (G : Nat → Prop) (w wr : World) (a : Nat) (c : Ck) : Prop := ∃ F, PC F wr a c ∧ (∀ k, F k → ¬ G k ∧ w.heap.size ≤ k) ∧ (∀ k, G k → k < wr.heap.size) ∧ Below w.heap.size w wr
structure SysR (w wr : World) (a : Nat) (c : Ck) (v : Value) (L : List Int) : Prop where
  sys : SysG (fun k => v.ownBlock = some k) w wr a c
  row : wr.ownsRow 0 3 1 v L.length (ics L)
  new : ∀ k, v.ownBlock = some k → w.heap.size ≤ k
section
variable {w wr w' : World} {a : Nat} {c c' : Ck} {v v' : Value} {L : List Int}
theorem SysR.all (h : SysR w wr a c v L) : Below w.heap.size w wr := by obtain ⟨F, _, _, _, h⟩ := h.sys; exact h
theorem SysR.to (h : SysR w wr a c v L) : Sys w wr a c := by obtain ⟨F, h1, h2, _, h4⟩ := h.sys; exact ⟨F, h1, fun k hk => (h2 k hk).2, h4⟩
theorem SysR.below (h : SysR w wr a c v L) (hb : Below wr.heap.size wr w') : SysR w w' a c v L := by
  obtain ⟨⟨F, h1, h2, h3, h4⟩, hr, hn⟩ := h
  exact ⟨⟨F, h1.below hb, h2, fun k hk => Nat.lt_of_lt_of_le (h3 k hk) hb.size, h4.trans (hb.mono h4.size)⟩, own_same hr (fun k hk => hb.block k (h3 k hk)), hn⟩
theorem SysR.next (h : SysR w wr a c v L) {u : Value} {Q : Ending → World → Prop} {f : FuncId} {args : Array Value} (hc : ∀ F, PC F wr a c → Calls Try.prog f args wr (Does F wr a u c')) : Calls Try.prog f args wr fun e w' => e = .returned u ∧ SysR w w' a c' v L := by
  obtain ⟨⟨F, h1, h2, h3, h4⟩, hr, hn⟩ := h
  refine (hc F h1).mono fun e w' ⟨e1, e2, e3⟩ => ⟨e1, ⟨Nu F wr w', e2, fun k hk => ?_, fun k hk => Nat.lt_of_lt_of_le (h3 k hk) e3.size, Chg.of_below h4 e3 (fun k hk => (h2 k hk).2)⟩, own_same hr (fun k hk => e3.block k (h3 k hk) (fun hf => (h2 k hf).1 hk)), hn⟩
  rcases hk with hk | hk
  · exact h2 k hk
  · exact ⟨fun hg => by have := h3 k hg; omega, by have := h4.size; omega⟩
theorem sysR_begin (h : SysR w wr a c v L) (hn : c.l.length ≤ 900000) : Calls Try.prog 22 #[.pointer (some ⟨a, 0, none⟩)] wr fun e w' => e = .returned (.tuple #[.int .i64 c.begT, .int .i64 c.begE]) ∧ SysR w w' a c.beg v L :=
  h.next (Q := fun _ _ => True) fun F hF => begin_any hF hn
theorem sysR_commit (h : SysR w wr a c v L) (t : Int) (hn : c.n ≤ 900000) (hl : c.l.length ≤ 900000) : Calls Try.prog 24 #[.pointer (some ⟨a, 0, none⟩), .int .i64 t] wr fun e w' => e = .returned (.int .i64 (c.endE t)) ∧ SysR w w' a (c.comS t) v L :=
  h.next (Q := fun _ _ => True) fun F hF => commit_any hF t hn hl
theorem SysR.app (h : SysR w wr a c v L) {W : World} (hb : Below wr.heap.size wr W) {x : Int} (hr : w'.ownsRow 0 3 1 v' (L.length + 1) (ics L ++ [.int .i64 x])) (hg : W.grownBy w' v.ownBlock) (ho : v'.ownBlock = v.ownBlock ∨ v'.ownBlock = some W.heap.size) : SysR w w' a c v' (L ++ [x]) := by
  have hW := h.below hb
  have hsW := hW.all.size
  obtain ⟨⟨F, h1, h2, h3, h4⟩, hr0, hn⟩ := hW
  have hs := hg.size
  refine ⟨⟨F, h1.same (fun _ h => h) (fun k hk => Nat.lt_of_lt_of_le (h1.lt k hk) hs) (fun k hk => hg.block k (h1.lt k hk) (fun e => (h2 k hk).1 e.symm)), fun k hk => ⟨fun hg' => ?_, (h2 k hk).2⟩, fun k hk => (World.ownsRow.lt hr k hk).2, h4.grown hg h4.size hn⟩, ?_, fun k hk => ?_⟩
  · rcases ho with ho | ho
    · exact (h2 k hk).1 (by rw [← ho]; exact hg')
    · rw [ho] at hg'; injection hg' with hg'; have := h1.lt k hk; omega
  · rw [List.length_append, ics_snoc]
    exact hr
  · rcases ho with ho | ho
    · exact hn k (by rw [← ho]; exact hk)
    · rw [ho] at hk; injection hk with hk; omega
theorem sysR_new {F : Nat → Prop} (h1 : PC F w' a c) (hF : ∀ k, F k → w.heap.size ≤ k) (hb : Below w.heap.size w w') : SysR w w' a c (.slice none 0 0) [] :=
  ⟨⟨F, h1, fun k hk => ⟨fun e => by simp [Value.ownBlock] at e, hF k hk⟩, fun k hk => by simp [Value.ownBlock] at hk, hb⟩, World.ownsRow_nil _ _ _ _, fun k hk => by simp [Value.ownBlock] at hk⟩
end
end Go.Proofs.Ytpjjpjdamieeeaa
