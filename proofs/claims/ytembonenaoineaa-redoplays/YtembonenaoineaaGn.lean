/- Arguments of the laws of chapter 5, opened: rows of slices of bytes, slices of acts; how long what they hold is. -/
import Derived.Test.YtembonenaoineaaGr
import Derived.Test.YtembonenaoineaaDo
import Derived.SizedLaws
namespace Go.Proofs.Ytembonenaoineaa
set_option maxRecDepth 100000
set_option linter.unusedVariables false
open Go.ChangeShapes Go.WideShapes Go.ChangeAt Go.RowKit

instance : Inhabited (Sl UInt8) := ⟨⟨none, [], 0⟩⟩
def SlR (w : World) (s : Sl (List UInt8)) : Prop := Es w s.a s.l ∧ (s.a = none → s.c = 0)
/-- What a row of rows holds in all. -/
def sumB (l : List (List UInt8)) : Nat := (l.map fun p => p.length + 1).sum
theorem sumB_mem {es : List (List UInt8)} {p : List UInt8} (h : p ∈ es) : p.length + 1 ≤ sumB es := by
  induction es with
  | nil => cases h
  | cons q es ih =>
    simp only [sumB, List.map_cons, List.sum_cons] at *
    rcases List.mem_cons.1 h with rfl | h
    · omega
    · have := ih h; omega
theorem sumB_app (a b : List (List UInt8)) : sumB (a ++ b) = sumB a + sumB b := by simp [sumB]
theorem sumB_take (l : List (List UInt8)) (k : Nat) : sumB (l.take k) ≤ sumB l := by
  have := sumB_app (l.take k) (l.drop k)
  rw [List.take_append_drop] at this
  omega
theorem sumB_succ {l : List (List UInt8)} {k : Nat} (h : k < l.length) : sumB (l.take (k + 1)) = sumB (l.take k) + (l[k].length + 1) := by
  rw [List.take_succ_eq_append_getElem h, sumB_app]; simp [sumB]
theorem sumB_few (es : List (List UInt8)) : es.length ≤ sumB es := by
  induction es with
  | nil => simp [sumB]
  | cons q es ih => simp only [sumB, List.map_cons, List.sum_cons, List.length_cons] at *; omega
/-- How long what lies in data of a type is at most. -/
def Fits {H : Type} (t : TypeId) (d : DataW H) : Prop := ∀ n ∈ d.weights Try.prog t, n ≤ reachBytes
section
variable {H : Type} {enc : TypeId × Value → H} {w : World} {base : Nat} {held : Bool} {r : Reach} {b0 : Nat} {v : Value} {d : DataW H} {p : List MemPlace}
theorem bulk_len (l : List (DataW H)) : l.length ≤ Rows.uptoBulkAll l := by
  induction l with
  | nil => simp [Rows.uptoBulkAll]
  | cons x l ih =>
    have : 1 ≤ Rows.uptoBulk x := by
      cases x with
      | lit l => cases l <;> simp [Rows.uptoBulk]
      | nil => simp [Rows.uptoBulk]
      | ptr d => simp [Rows.uptoBulk]
      | slice elems spare => simp [Rows.uptoBulk]
      | agg parts => simp [Rows.uptoBulk]
      | iface t d => simp [Rows.uptoBulk]
      | map entries => simp [Rows.uptoBulk]
      | held h => simp [Rows.uptoBulk]
    simp only [Rows.uptoBulkAll, List.length_cons]; omega
/-- The length of a slice, by its data. -/
theorem slice_len {t e : TypeId} (ht : Try.prog.underlying t = some (.slice e)) {fuel : Nat} {x : DataW H × List MemPlace} {A : Option Addr} {n c : Nat} (h : DataW.trod enc Try.prog w base (fun _ => true) held fuel t [.slice A n c] = some x) : (Fits t x.1 → n * Try.prog.bytesOf e ≤ reachBytes) ∧ n + 1 ≤ Rows.uptoBulk x.1 := by
  rcases Deep.open_slice ht h with ⟨hcs, hx⟩ | ⟨ad, len, cap, m, n', D, Pl, hcs, _, _, _, _, hx, _⟩
  · injection hcs with hcs
    injection hcs with _ hn _
    subst hn
    subst hx
    exact ⟨fun _ => by simp, by simp [Rows.uptoBulk]⟩
  · injection hcs with hcs
    injection hcs with _ hn _
    subst hn
    subst hx
    refine ⟨fun hf => ?_, ?_⟩
    · have := hf ((((List.range n).map D).length + ((List.range (m - n)).map fun j => D (n + j)).length) * Try.prog.bytesOf e) (by simp [DataW.weights, ht])
      refine Nat.le_trans (Nat.mul_le_mul_right _ ?_) this
      simp
    · have := bulk_len ((List.range n).map D)
      simp only [List.length_map, List.length_range] at this
      simp only [Rows.uptoBulk]; omega
theorem weights_all {e : TypeId} {D : Nat → DataW H} : ∀ (n : Nat) {i : Nat}, i < n → ∀ k ∈ (D i).weights Try.prog e, k ∈ DataW.weightsAll Try.prog e ((List.range n).map D) := by
  have gen : ∀ (l : List (DataW H)) (x : DataW H), x ∈ l → ∀ k ∈ x.weights Try.prog e, k ∈ DataW.weightsAll Try.prog e l := by
    intro l
    induction l with
    | nil => intro x hx; cases hx
    | cons y l ih =>
      intro x hx k hk
      simp only [DataW.weightsAll, List.mem_append]
      rcases List.mem_cons.1 hx with rfl | hx
      · exact .inl hk
      · exact .inr (ih x hx k hk)
  intro n i hi k hk
  exact gen _ _ (List.mem_map.2 ⟨i, by simpa using hi, rfl⟩) k hk
theorem bulk_sum (D : Nat → DataW H) (f : Nat → Nat) : ∀ (n : Nat), (∀ i, i < n → f i + 1 ≤ Rows.uptoBulk (D i)) → ((List.range n).map fun i => f i + 1).sum ≤ Rows.uptoBulkAll ((List.range n).map D)
  | 0, _ => by simp [Rows.uptoBulkAll]
  | n + 1, h => by
    have ih := bulk_sum D f n (fun i hi => h i (by omega))
    have app : ∀ (l m : List (DataW H)), Rows.uptoBulkAll (l ++ m) = Rows.uptoBulkAll l + Rows.uptoBulkAll m := by
      intro l m
      induction l with
      | nil => simp [Rows.uptoBulkAll]
      | cons x l ih => simp only [List.cons_append, Rows.uptoBulkAll, ih]; omega
    have hn := h n (by omega)
    rw [List.range_succ, List.map_append, List.map_append, app, List.sum_append]
    simp only [List.map_cons, List.map_nil, List.sum_cons, List.sum_nil, Rows.uptoBulkAll]
    omega
/-- A row of slices of bytes that came in. -/
theorem open_rows (hv : Value.okWide Try.prog w r b0 29 v) (h : DataW.Trod enc Try.prog w base (fun _ => true) held 29 v d p) : ∃ s : Sl (List UInt8), v = slv s ∧ SlR w s ∧ (Fits 29 d → ∀ x ∈ s.l, x.length ≤ 140737488351232) ∧ sumB s.l + 1 ≤ Rows.uptoBulk d := by
  obtain ⟨a0, len0, cap0, rfl⟩ := okWide_slice Try.underlying29 hv
  obtain ⟨fuel, hf⟩ := h
  have ce : Try.prog.cellsOf 36 = 1 := by kernel_rfl
  have be : Try.prog.bytesOf 5 = 1 := by kernel_rfl
  rcases Deep.open_slice1 Try.underlying29 ce hf with ⟨hcs, hx⟩ | ⟨ad, len, cap, m, n, V, D, Pl, hcs, _, hl, hm, hmm, hxx, hx⟩
  · simp [Value.cells] at hcs
    obtain ⟨rfl, rfl, rfl⟩ := hcs
    injection hx with hx _
    subst hx
    exact ⟨⟨none, [], 0⟩, rfl, ⟨fun i hi => absurd hi (by simp), fun _ => rfl⟩, fun _ x hx => by simp at hx, by simp [sumB, Rows.uptoBulk]⟩
  · simp [Value.cells] at hcs
    obtain ⟨rfl, rfl, rfl⟩ := hcs
    simp only [if_true] at hmm
    subst hmm
    injection hxx with hxx _
    have each : ∀ k, k < len0 → ∃ t : Sl UInt8, V k = slv t ∧ SlB w t ∧ (Fits 36 (D k) → t.l.length ≤ 140737488351232) ∧ t.l.length + 1 ≤ Rows.uptoBulk (D k) := by
      intro k hk
      obtain ⟨h1, h2⟩ := hx k (by omega)
      obtain ⟨s, hs, hb⟩ := cell_bytes h2
      rw [hs] at h2
      have hln := slice_len Try.underlying36 h2
      rw [be, Nat.mul_one] at hln
      exact ⟨s, hs, hb, hln.1, hln.2⟩
    obtain ⟨f, hf'⟩ := Deep.choose_lt each
    refine ⟨⟨some ad, (List.range len0).map fun k => (f k).l, m⟩, by simp [slv], ⟨fun i hi => ?_, fun e => by cases e⟩, fun hfit x hx' => ?_, ?_⟩
    · have hi2 : i < len0 := by simpa using hi
      obtain ⟨e1, e2, _, _⟩ := hf' i hi2
      refine ⟨ad, (f i).a, (f i).c, rfl, ?_, ?_⟩
      · have := (hx i (by omega)).1
        rw [this, e1]
        simp
      · have e3 : BS w (f i).a (f i).l (f i).c := e2
        simpa using e3
    · obtain ⟨k, hk, rfl⟩ := List.mem_map.1 hx'
      have hk2 : k < len0 := by simpa using hk
      refine (hf' k hk2).2.2.1 (fun q hq => hfit q ?_)
      rw [hxx]
      simp only [DataW.weights, Try.underlying29, List.mem_cons, List.mem_append]
      exact .inr (.inl (weights_all len0 hk2 q hq))
    · rw [hxx]
      have := bulk_sum D (fun k => (f k).l.length) len0 (fun i hi => (hf' i hi).2.2.2)
      simp only [Rows.uptoBulk, sumB, List.map_map]
      have e : (fun p : List UInt8 => p.length + 1) ∘ (fun k => (f k).l) = fun i => (f i).l.length + 1 := rfl
      rw [e]; omega
/-- A slice of bytes or bools that came in, and how long it is. -/
theorem open_bytes' (hv : Value.okWide Try.prog w r b0 36 v) (h : DataW.Trod enc Try.prog w base (fun _ => true) held 36 v d p) : ∃ s : Sl UInt8, v = slv s ∧ SlB w s ∧ (Fits 36 d → s.l.length ≤ 140737488351232) ∧ s.l.length + 1 ≤ Rows.uptoBulk d := by
  obtain ⟨s, rfl, hb⟩ := open_bytes hv h
  obtain ⟨fuel, hf⟩ := h
  have be : Try.prog.bytesOf 5 = 1 := by kernel_rfl
  have hln := slice_len Try.underlying36 hf
  rw [be, Nat.mul_one] at hln
  exact ⟨s, rfl, hb, hln⟩
end
end Go.Proofs.Ytembonenaoineaa
