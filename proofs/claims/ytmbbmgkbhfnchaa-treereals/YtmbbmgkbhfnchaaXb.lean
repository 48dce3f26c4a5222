/- The nodes of the program's tree in memory (NA: a node; DP: a side's depth as it is kept; TN: a balanced tree, its blocks and entries in order). No condition but those that each fact names. -/
import Derived.Test.YtmbbmgkbhfnchaaXa
import Derived.Test.YtmbbmgkbhfnchaaUc
import Derived.Laws.Pointers
import Derived.LaidEqlPtr
namespace Go.Proofs.Ytmbbmgkbhfnchaa
set_option maxRecDepth 100000
set_option linter.unusedVariables false
open Go.ChangeShapes Go.WideShapes Go.ChangeAt Go.RowKit
open Fl (S)
open Val (V cmpV cmpI isB)
/-- A pointer to a node. -/
def pa : Option Nat → Option Addr
  | none => none
  | some b => some ⟨b, 0, none⟩
abbrev po (p : Option Nat) : Value := .pointer (pa p)
theorem po_some (b : Nat) : po (some b) = .pointer (some ⟨b, 0, none⟩) := rfl
theorem po_none : po none = .pointer none := rfl
abbrev pt (b : Nat) : Value := .pointer (some ⟨b, 0, none⟩)
abbrev nc (x : En) (l r : Option Nat) (d : Nat) : Array Value := #[.int .i64 x.v.k, .bool x.v.b, .int .i64 x.v.n, .float .f64 x.v.f, .string x.v.t, .int .i64 x.i, po l, po r, .int .i64 (d : Nat)]
/-- In block b lies a node: its entry, its sides, its depth. -/
def NA (w : World) (b : Nat) (x : En) (l r : Option Nat) (d : Nat) : Prop := w.heap[b]? = some (.cells (nc x l r d) 72 (0, 0))
/-- The depth that the node at p keeps. -/
def DP (w : World) (p : Option Nat) (d : Nat) : Prop := match p with
  | none => d = 0
  | some b => ∃ x l r, NA w b x l r d
section
variable {F G : Nat → Prop} {w w' w2 : World} {b : Nat} {x : En} {l r p : Option Nat} {d d' : Nat}
theorem NA.lt (h : NA w b x l r d) : b < w.heap.size := block_lt h
theorem NA.same (h : NA w b x l r d) (hw : w'.heap[b]? = w.heap[b]?) : NA w' b x l r d := hw.trans h
theorem NA.chg (h : NA w b x l r d) (hc : Chg F w w') (hF : ¬ F b) : NA w' b x l r d := h.same (hc.block b h.lt hF)
theorem NA.below (h : NA w b x l r d) (hb : Below w.heap.size w w') : NA w' b x l r d := h.same (hb.block b h.lt)
theorem NA.cells (h : NA w b x l r d) : w.cell? ⟨b, 0, none⟩ = some (.int .i64 x.v.k) ∧ w.cell? ⟨b, 1, none⟩ = some (.bool x.v.b) ∧ w.cell? ⟨b, 2, none⟩ = some (.int .i64 x.v.n) ∧ w.cell? ⟨b, 3, none⟩ = some (.float .f64 x.v.f) ∧ w.cell? ⟨b, 4, none⟩ = some (.string x.v.t) ∧ w.cell? ⟨b, 5, none⟩ = some (.int .i64 x.i) ∧ w.cell? ⟨b, 6, none⟩ = some (po l) ∧ w.cell? ⟨b, 7, none⟩ = some (po r) ∧ w.cell? ⟨b, 8, none⟩ = some (.int .i64 (d : Nat)) ∧ ∀ o, w.frozen? ⟨b, o, none⟩ = false := by
  refine ⟨?_, ?_, ?_, ?_, ?_, ?_, ?_, ?_, ?_, fun o => frozen_of_row w b o _ _ h⟩ <;> rw [cell_of_row w b _ _ _ _ h] <;> rfl
theorem NA.setL (h : NA w b x l r d) (q : Option Nat) : NA (w.setCell ⟨b, 6, none⟩ (po q)) b x q r d := by
  unfold NA
  rw [heap_setCell_same w b 6 _ _ (po q) h]; rfl
theorem NA.setR (h : NA w b x l r d) (q : Option Nat) : NA (w.setCell ⟨b, 7, none⟩ (po q)) b x l q d := by
  unfold NA
  rw [heap_setCell_same w b 7 _ _ (po q) h]; rfl
theorem NA.setD (h : NA w b x l r d) (e : Nat) : NA (w.setCell ⟨b, 8, none⟩ (.int .i64 (e : Nat))) b x l r e := by
  unfold NA
  rw [heap_setCell_same w b 8 _ _ (.int .i64 (e : Nat)) h]; rfl
theorem NA.set (h : NA w b x l r d) {c : Nat} (hc : b ≠ c) (o : Nat) (v : Value) : NA (w.setCell ⟨c, o, none⟩ v) b x l r d := h.same (heap_setCell_other w ⟨c, o, none⟩ b v hc)
theorem DP.chg (h : DP w p d) (hc : Chg F w w') (hF : ∀ k, p = some k → ¬ F k) : DP w' p d := by
  cases p with
  | none => exact h
  | some b =>
    obtain ⟨x, l, r, h⟩ := h
    exact ⟨x, l, r, h.chg hc (hF b rfl)⟩
theorem DP.below (h : DP w p d) (hb : Below w.heap.size w w') : DP w' p d := by
  cases p with
  | none => exact h
  | some b =>
    obtain ⟨x, l, r, h⟩ := h
    exact ⟨x, l, r, h.below hb⟩
theorem NA.dp (h : NA w b x l r d) : DP w (some b) d := ⟨x, l, r, h⟩
/-- A balanced tree of depth d from p: its blocks and its entries in order. -/
def TN (w : World) (d : Nat) (p : Option Nat) (B : List Nat) (L : List En) : Prop := match p with
  | none => d = 0 ∧ B = [] ∧ L = []
  | some b => ∃ (x : En) (l r : Option Nat) (dl dr : Nat) (Bl Br : List Nat) (Ll Lr : List En) (_ : dl < d) (_ : dr < d), d = max dl dr + 1 ∧ dl ≤ dr + 1 ∧ dr ≤ dl + 1 ∧ B = Bl ++ b :: Br ∧ L = Ll ++ x :: Lr ∧ NA w b x l r d ∧ TN w dl l Bl Ll ∧ TN w dr r Br Lr
termination_by d
theorem tn_none (w : World) : TN w 0 none [] [] := by unfold TN; exact ⟨rfl, rfl, rfl⟩
theorem TN.nil {B : List Nat} {L : List En} (h : TN w d none B L) : d = 0 ∧ B = [] ∧ L = [] := by unfold TN at h; exact h
theorem TN.node {B : List Nat} {L : List En} (h : TN w d (some b) B L) : ∃ (x : En) (l r : Option Nat) (dl dr : Nat) (Bl Br : List Nat) (Ll Lr : List En), d = max dl dr + 1 ∧ dl ≤ dr + 1 ∧ dr ≤ dl + 1 ∧ B = Bl ++ b :: Br ∧ L = Ll ++ x :: Lr ∧ NA w b x l r d ∧ TN w dl l Bl Ll ∧ TN w dr r Br Lr := by
  unfold TN at h
  obtain ⟨x, l, r, dl, dr, Bl, Br, Ll, Lr, _, _, h⟩ := h
  exact ⟨x, l, r, dl, dr, Bl, Br, Ll, Lr, h⟩
theorem tn_mk {dl dr : Nat} {Bl Br : List Nat} {Ll Lr : List En} (h : NA w b x l r (max dl dr + 1)) (hl : TN w dl l Bl Ll) (hr : TN w dr r Br Lr) (h1 : dl ≤ dr + 1) (h2 : dr ≤ dl + 1) : TN w (max dl dr + 1) (some b) (Bl ++ b :: Br) (Ll ++ x :: Lr) := by
  unfold TN
  exact ⟨x, l, r, dl, dr, Bl, Br, Ll, Lr, by omega, by omega, rfl, h1, h2, rfl, rfl, h, hl, hr⟩
theorem TN.dp {B : List Nat} {L : List En} (h : TN w d p B L) : DP w p d := by
  cases p with
  | none => exact h.nil.1
  | some b =>
    obtain ⟨x, l, r, dl, dr, Bl, Br, Ll, Lr, _, _, _, _, _, h, _⟩ := h.node
    exact h.dp
theorem TN.ind {P : Nat → Option Nat → List Nat → List En → Prop} (h0 : P 0 none [] [])
    (h1 : ∀ (b : Nat) (x : En) (l r : Option Nat) (dl dr : Nat) (Bl Br : List Nat) (Ll Lr : List En), dl ≤ dr + 1 → dr ≤ dl + 1 → NA w b x l r (max dl dr + 1) → TN w dl l Bl Ll → TN w dr r Br Lr → P dl l Bl Ll → P dr r Br Lr → P (max dl dr + 1) (some b) (Bl ++ b :: Br) (Ll ++ x :: Lr)) :
    ∀ (d : Nat) (p : Option Nat) (B : List Nat) (L : List En), TN w d p B L → P d p B L := by
  intro d
  induction d using Nat.strongRecOn with
  | _ d ih =>
    intro p B L h
    cases p with
    | none =>
      obtain ⟨rfl, rfl, rfl⟩ := h.nil
      exact h0
    | some b =>
      obtain ⟨x, l, r, dl, dr, Bl, Br, Ll, Lr, rfl, g1, g2, rfl, rfl, g3, g4, g5⟩ := h.node
      exact h1 b x l r dl dr Bl Br Ll Lr g1 g2 g3 g4 g5 (ih dl (by omega) _ _ _ g4) (ih dr (by omega) _ _ _ g5)
theorem TN.lt {B : List Nat} {L : List En} (h : TN w d p B L) : ∀ k, k ∈ B → k < w.heap.size := by
  refine TN.ind (w := w) (P := fun d p B L => ∀ k, k ∈ B → k < w.heap.size) (fun k hk => by cases hk) ?_ d p B L h
  intro b x l r dl dr Bl Br Ll Lr _ _ h _ _ h1 h2 k hk
  rcases List.mem_append.1 hk with hk | hk
  · exact h1 k hk
  · rcases List.mem_cons.1 hk with rfl | hk
    · exact h.lt
    · exact h2 k hk
theorem TN.same {B : List Nat} {L : List En} (h : TN w d p B L) : (∀ k, k ∈ B → w'.heap[k]? = w.heap[k]?) → TN w' d p B L := by
  refine TN.ind (w := w) (P := fun d p B L => (∀ k, k ∈ B → w'.heap[k]? = w.heap[k]?) → TN w' d p B L) (fun _ => tn_none w') ?_ d p B L h
  intro b x l r dl dr Bl Br Ll Lr g1 g2 h _ _ h1 h2 hw
  exact tn_mk (h.same (hw b (by simp))) (h1 (fun k hk => hw k (by simp [hk]))) (h2 (fun k hk => hw k (by simp [hk]))) g1 g2
theorem TN.chg {B : List Nat} {L : List En} (h : TN w d p B L) (hc : Chg F w w') (hF : ∀ k, k ∈ B → ¬ F k) : TN w' d p B L := h.same (fun k hk => hc.block k (h.lt k hk) (hF k hk))
theorem TN.below {B : List Nat} {L : List En} (h : TN w d p B L) (hb : Below w.heap.size w w') : TN w' d p B L := h.same (fun k hk => hb.block k (h.lt k hk))
theorem TN.few {B : List Nat} {L : List En} (h : TN w d p B L) : fewest d ≤ L.length := by
  refine TN.ind (w := w) (P := fun d p B L => fewest d ≤ L.length) (Nat.zero_le _) ?_ d p B L h
  intro b x l r dl dr Bl Br Ll Lr g1 g2 h _ _ h1 h2
  rw [List.length_append, List.length_cons]
  exact fewest_node h1 h2 g1 g2
theorem TN.le {B : List Nat} {L : List En} (h : TN w d p B L) : d ≤ L.length := Nat.le_trans (fewest_le d) h.few
theorem TN.zero {B : List Nat} {L : List En} (h : TN w d p B L) : d = 0 ↔ L = [] := by
  cases p with
  | none => obtain ⟨rfl, rfl, rfl⟩ := h.nil; simp
  | some b =>
    obtain ⟨x, l, r, dl, dr, Bl, Br, Ll, Lr, rfl, _, _, rfl, rfl, _⟩ := h.node
    simp
/-- The root is one of the blocks. -/
theorem TN.root {B : List Nat} {L : List En} (h : TN w d p B L) : ∀ k, p = some k → k ∈ B := fun k e => by
  subst e
  obtain ⟨x, l, r, dl, dr, Bl, Br, Ll, Lr, _, _, _, rfl, _⟩ := h.node
  simp
/-- Not empty, where its depth is not 0. -/
theorem TN.pos {B : List Nat} {L : List En} (h : TN w d p B L) (hd : 0 < d) : ∃ b, p = some b := by
  cases p with
  | none => have := h.nil.1; omega
  | some b => exact ⟨b, rfl⟩
theorem chg_set {F : Nat → Prop} (h : Chg F w w') {b : Nat} (hb : F b) (o : Nat) (v : Value) : Chg F w (w'.setCell ⟨b, o, none⟩ v) := h.grown (grown_set w' b o v) (fun k e => by injection e with e; subst e; exact .inl hb)
theorem Chg.drew {F : Nat → Prop} (h : Chg F w w') : Chg F w w'.drew := h.grown (grown_drew w' none) (fun k e => by cases e)
theorem Chg.weak {F G : Nat → Prop} (h : Chg F w w') (hF : ∀ k, F k → G k) : Chg G w w' := ⟨h.os, h.tape, h.output, h.size, fun k hk hG => h.block k hk (fun e => hG (hF k e))⟩
/-- Two steps, each within F. -/
theorem Chg.then {F : Nat → Prop} (h : Chg F w w') (k : Chg F w' w2) : Chg F w w2 := h.trans (k.weak fun _ h => .inl h)
end
end Go.Proofs.Ytmbbmgkbhfnchaa
