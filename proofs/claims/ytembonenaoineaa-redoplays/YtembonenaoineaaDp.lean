/- A disk told without memory: its sectors, what lasts, what waits, its fuse. Lists of equal pieces laid end to end. -/
import Derived.Test.YtembonenaoineaaMo
import Derived.Laws.CopyOwn
namespace Go.Proofs.Ytembonenaoineaa
set_option maxRecDepth 100000
set_option linter.unusedVariables false
open Go.ChangeShapes Go.WideShapes Go.ChangeAt Go.RowKit

/-- now: as last written; old: what lasts; pend: what waits; life: none: dead; some none: no fuse; some (some k): k calls are left. -/
structure DS where
  now : List (List UInt8)
  old : List (List UInt8)
  pend : List (Nat × List UInt8)
  life : Option (Option Nat)
structure DOk (s : DS) : Prop where
  sec : ∀ x ∈ s.now, x.length = 64
  sec' : ∀ x ∈ s.old, x.length = 64
  len : s.old.length = s.now.length
  few : s.now.length ≤ 200
  pnd : ∀ x ∈ s.pend, x.1 < s.now.length ∧ x.2.length = 64
  fus : ∀ k, s.life = some (some k) → k ≤ 9223372036854775807
def pad (p : List UInt8) : List UInt8 := p ++ List.replicate (64 - p.length) 0
theorem pad_len {p : List UInt8} (h : p.length ≤ 64) : (pad p).length = 64 := by simp [pad]; omega
def zsec : List UInt8 := List.replicate 64 0
theorem pad_nil : pad [] = zsec := rfl
def tickL : Option (Option Nat) → Bool × Option (Option Nat)
  | none => (false, none)
  | some none => (true, some none)
  | some (some 0) => (false, none)
  | some (some (k + 1)) => (true, some (some k))
def ticked (s : DS) : DS := { s with life := (tickL s.life).2 }
def runsB (s : DS) : Bool := (tickL s.life).1
theorem ticked_ok {s : DS} (h : DOk s) : DOk (ticked s) := by
  refine ⟨h.sec, h.sec', h.len, h.few, h.pnd, fun k hk => ?_⟩
  unfold ticked at hk
  cases hl : s.life with
  | none => rw [hl] at hk; cases hk
  | some f =>
    cases f with
    | none => rw [hl] at hk; cases hk
    | some j =>
      cases j with
      | zero => rw [hl] at hk; cases hk
      | succ j =>
        rw [hl] at hk
        have := h.fus _ hl
        simp [tickL] at hk
        omega
/-- What Write leaves where it is done. -/
def put (s : DS) (i : Nat) (q : List UInt8) : DS := { s with now := s.now.set i q, pend := s.pend ++ [(i, q)] }
theorem put_ok {s : DS} (h : DOk s) {i : Nat} {q : List UInt8} (hi : i < s.now.length) (hq : q.length = 64) : DOk (put s i q) := by
  refine ⟨fun x hx => ?_, h.sec', by simpa [put] using h.len, by simpa [put] using h.few, fun x hx => ?_, h.fus⟩
  · rcases List.mem_or_eq_of_mem_set hx with hx | rfl
    · exact h.sec x hx
    · exact hq
  · simp only [put, List.mem_append, List.mem_singleton, List.length_set] at hx ⊢
    rcases hx with hx | rfl
    · exact h.pnd x hx
    · exact ⟨hi, hq⟩
def fits (s : DS) (i : Int) (p : List UInt8) : Bool := decide (0 ≤ i ∧ i < s.now.length ∧ p.length ≤ 64)
def wrE (s : DS) (i : Int) (p : List UInt8) : Int := if runsB s then (if fits s i p then 0 else 1) else 9
def wrS (s : DS) (i : Int) (p : List UInt8) : DS := if runsB s && fits s i p then put (ticked s) i.toNat (pad p) else ticked s
theorem wrS_ok {s : DS} (h : DOk s) (i : Int) (p : List UInt8) : DOk (wrS s i p) := by
  unfold wrS
  split
  · rename_i hc
    simp only [Bool.and_eq_true, fits, decide_eq_true_eq] at hc
    exact put_ok (ticked_ok h) (show i.toNat < s.now.length by omega) (pad_len hc.2.2.2)
  · exact ticked_ok h
theorem wrS_len (s : DS) (i : Int) (p : List UInt8) : (wrS s i p).now.length = s.now.length := by
  unfold wrS; split <;> simp [put, ticked]
theorem wrS_pend (s : DS) (i : Int) (p : List UInt8) : (wrS s i p).pend.length ≤ s.pend.length + 1 := by
  unfold wrS; split <;> simp [put, ticked]
/-- What Sync leaves where it is done. -/
def held (s : DS) : DS := { s with old := s.now, pend := [] }
theorem held_ok {s : DS} (h : DOk s) : DOk (held s) := ⟨h.sec, h.sec, rfl, h.few, (fun x hx => by cases hx), h.fus⟩
def syE (s : DS) : Int := if runsB s then 0 else 9
def syS (s : DS) : DS := if runsB s then held (ticked s) else ticked s
theorem syS_ok {s : DS} (h : DOk s) : DOk (syS s) := by
  unfold syS; split
  · exact held_ok (ticked_ok h)
  · exact ticked_ok h
theorem syS_len (s : DS) : (syS s).now.length = s.now.length := by unfold syS; split <;> simp [held, ticked]
theorem syS_pend (s : DS) : (syS s).pend.length ≤ s.pend.length := by unfold syS; split <;> simp [held, ticked]
def fuseL (l : Option (Option Nat)) (n : Int) : Option (Option Nat) :=
  match l with
  | none => none
  | some _ => if n < 0 then some none else some (some n.toNat)
def fzS (s : DS) (n : Int) : DS := { s with life := fuseL s.life n }
theorem fzS_ok {s : DS} (h : DOk s) {n : Int} (hn : n ≤ 9223372036854775807) : DOk (fzS s n) := by
  refine ⟨h.sec, h.sec', h.len, h.few, h.pnd, fun k hk => ?_⟩
  simp only [fzS, fuseL] at hk
  split at hk
  · cases hk
  · split at hk
    · cases hk
    · injection hk with hk; injection hk with hk; omega
theorem getD_at {α : Type} {l : List α} {k : Nat} {d : α} (h : k < l.length) : l.getD k d = l[k] := by simp [List.getD, h]
theorem getD_past {α : Type} {l : List α} {k : Nat} {d : α} (h : l.length ≤ k) : l.getD k d = d := by simp [List.getD, h]
/-- What is kept of the writes that wait, the first k of them looked at. -/
def crs (keep : List Bool) (pend : List (Nat × List UInt8)) (l : List (List UInt8)) : Nat → List (List UInt8)
  | 0 => l
  | k + 1 => if keep.getD k false then (crs keep pend l k).set (pend.getD k (0, [])).1 (pend.getD k (0, [])).2 else crs keep pend l k
theorem crs_len (keep : List Bool) (pend : List (Nat × List UInt8)) (l : List (List UInt8)) : ∀ k, (crs keep pend l k).length = l.length
  | 0 => rfl
  | k + 1 => by unfold crs; split <;> simp [crs_len keep pend l k]
theorem crs_sec {keep : List Bool} {pend : List (Nat × List UInt8)} {l : List (List UInt8)} (hl : ∀ x ∈ l, x.length = 64) (hp : ∀ x ∈ pend, x.2.length = 64) : ∀ k, k ≤ pend.length → ∀ x ∈ crs keep pend l k, x.length = 64
  | 0, _ => hl
  | k + 1, hk => by
    have ih := crs_sec (keep := keep) hl hp k (by omega)
    intro x hx
    unfold crs at hx
    split at hx
    · rcases List.mem_or_eq_of_mem_set hx with hx | rfl
      · exact ih x hx
      · refine hp _ ?_
        rw [getD_at (show k < pend.length by omega)]
        exact List.getElem_mem _
    · exact ih x hx
theorem crs_stop {keep : List Bool} {pend : List (Nat × List UInt8)} {l : List (List UInt8)} {k : Nat} (hk : keep.length ≤ k) : ∀ n, crs keep pend l (k + n) = crs keep pend l k
  | 0 => rfl
  | n + 1 => by
    have e : crs keep pend l (k + (n + 1)) = crs keep pend l (k + n) := by
      rw [← Nat.add_assoc, crs, getD_past (show keep.length ≤ k + n by omega)]
      simp
    rw [e]
    exact crs_stop hk n
def crL (s : DS) (keep : List Bool) : List (List UInt8) := crs keep s.pend s.old s.pend.length
def fresh (l : List (List UInt8)) : DS := ⟨l, l, [], some none⟩
def crS (s : DS) (keep : List Bool) : DS := fresh (crL s keep)
theorem fresh_ok {l : List (List UInt8)} (h : ∀ x ∈ l, x.length = 64) (hn : l.length ≤ 200) : DOk (fresh l) := ⟨h, h, rfl, hn, (fun x hx => by cases hx), (fun k hk => by cases hk)⟩
theorem crL_len {s : DS} (h : DOk s) (keep : List Bool) : (crL s keep).length = s.now.length := by unfold crL; rw [crs_len, h.len]
theorem crL_sec {s : DS} (h : DOk s) (keep : List Bool) : ∀ x ∈ crL s keep, x.length = 64 := crs_sec h.sec' (fun x hx => (h.pnd x hx).2) _ (Nat.le_refl _)
theorem crS_ok {s : DS} (h : DOk s) (keep : List Bool) : DOk (crS s keep) := fresh_ok (crL_sec h keep) (by rw [crL_len h]; exact h.few)
def many (n : Int) : Nat := (min (max n 0) 200).toNat
def nwS (n : Int) : DS := fresh (List.replicate (many n) zsec)
theorem nwS_ok (n : Int) : DOk (nwS n) := fresh_ok (fun x hx => by rw [List.eq_of_mem_replicate hx]; rfl) (by simp [many]; omega)
theorem nwS_len (n : Int) : (nwS n).now.length = many n := by simp [nwS, fresh]
def there (s : DS) (i : Int) : Bool := decide (0 ≤ i ∧ i < s.now.length)
def rdL (s : DS) (i : Int) : List UInt8 := if there s i then s.now.getD i.toNat [] else []

/-! Lists of equal pieces, end to end. -/
section
variable {α : Type} (f : α → List Value) (n : Nat)
theorem flat_len : ∀ (l : List α), (∀ x ∈ l, (f x).length = n) → (l.flatMap f).length = l.length * n
  | [], _ => by simp
  | x :: l, h => by
    rw [List.flatMap_cons, List.length_append, flat_len l (fun y hy => h y (by simp [hy])), h x (by simp), List.length_cons, Nat.add_mul, Nat.one_mul, Nat.add_comm]
theorem flat_get : ∀ (l : List α), (∀ x ∈ l, (f x).length = n) → ∀ i (hi : i < l.length), ((l.flatMap f).drop (i * n)).take n = f l[i]
  | x :: l, h, 0, _ => by
    rw [List.flatMap_cons, Nat.zero_mul, List.drop_zero, ← h x (by simp), List.take_left]; rfl
  | x :: l, h, i + 1, hi => by
    have hx := h x (by simp)
    rw [List.flatMap_cons, show (i + 1) * n = (f x).length + i * n by rw [hx, Nat.add_mul, Nat.one_mul, Nat.add_comm], ← List.drop_drop, List.drop_left]
    exact flat_get l (fun y hy => h y (by simp [hy])) i (by simpa using hi)
theorem flat_set : ∀ (l : List α), (∀ x ∈ l, (f x).length = n) → ∀ (y : α), (f y).length = n → ∀ i, i < l.length → splice (l.flatMap f) (i * n) (f y) = (l.set i y).flatMap f
  | x :: l, h, y, hy, 0, _ => by
    have hx := h x (by simp)
    simp only [splice, Nat.zero_mul, List.take_zero, List.nil_append, Nat.zero_add, List.set_cons_zero, List.flatMap_cons]
    rw [hy, ← hx, List.drop_left]
  | x :: l, h, y, hy, i + 1, hi => by
    have hx := h x (by simp)
    have ih := flat_set l (fun z hz => h z (by simp [hz])) y hy i (by simpa using hi)
    unfold splice at ih ⊢
    rw [List.set_cons_succ, List.flatMap_cons, List.flatMap_cons, ← ih, show (i + 1) * n = (f x).length + i * n by rw [hx, Nat.add_mul, Nat.one_mul, Nat.add_comm]]
    rw [List.take_append, List.take_of_length_le (by omega), show (f x).length + i * n - (f x).length = i * n by omega, Nat.add_assoc, ← List.drop_drop, List.drop_left, List.append_assoc]
end
def scs (l : List (List UInt8)) : List Value := l.flatMap bcs
def wcs (x : Nat × List UInt8) : List Value := .int .i64 (x.1 : Nat) :: bcs x.2
def pcs (l : List (Nat × List UInt8)) : List Value := l.flatMap wcs
def stc (p : List UInt8) : Value := .string (bstr p)
def qc (x : Nat × List UInt8) : List Value := [.int .i64 (x.1 : Nat), stc x.2]
def qcs (l : List (Nat × List UInt8)) : List Value := l.flatMap qc
theorem scs_len {l : List (List UInt8)} (h : ∀ x ∈ l, x.length = 64) : (scs l).length = l.length * 64 := flat_len bcs 64 l fun x hx => by rw [bcs_len, h x hx]
theorem pcs_len {l : List (Nat × List UInt8)} (h : ∀ x ∈ l, x.2.length = 64) : (pcs l).length = l.length * 65 := flat_len wcs 65 l fun x hx => by simp [wcs, bcs_len, h x hx]
theorem qcs_len (l : List (Nat × List UInt8)) : (qcs l).length = l.length * 2 := flat_len qc 2 l fun x hx => rfl
theorem scs_one (l : List (List UInt8)) : ∀ u ∈ scs l, u.oneCell' = true := by
  intro u hu
  obtain ⟨x, _, hx⟩ := List.mem_flatMap.1 hu
  exact bcs_one x u hx
theorem wcs_one (x : Nat × List UInt8) : ∀ u ∈ wcs x, u.oneCell' = true := by
  intro u hu
  simp only [wcs, List.mem_cons] at hu
  rcases hu with rfl | hu
  · rfl
  · exact bcs_one _ u hu
theorem qc_one (x : Nat × List UInt8) : ∀ u ∈ qc x, u.oneCell' = true := by
  intro u hu
  simp only [qc, List.mem_cons, List.not_mem_nil, or_false] at hu
  rcases hu with rfl | rfl <;> rfl
theorem pcs_snoc (l : List (Nat × List UInt8)) (x : Nat × List UInt8) : pcs (l ++ [x]) = pcs l ++ wcs x := by simp [pcs]
theorem qcs_snoc (l : List (Nat × List UInt8)) (x : Nat × List UInt8) : qcs (l ++ [x]) = qcs l ++ qc x := by simp [qcs]
end Go.Proofs.Ytembonenaoineaa
