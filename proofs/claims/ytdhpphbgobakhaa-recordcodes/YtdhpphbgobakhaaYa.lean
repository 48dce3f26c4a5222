/- Chapter 10's names, nodes, edges and writes without memory: which are valid. No condition but those that each fact names. -/
import Derived.Test.YtdhpphbgobakhaaVq
namespace Go.Proofs.Ytdhpphbgobakhaa
set_option maxRecDepth 100000
set_option linter.unusedVariables false
open Fl (S)
open Val (V cmpV isB ltT)
/-- A float64 that is not less than 0. -/
def geW (x : Nat) : Bool := FloatKind.f64.format.order x 0 == some .gt || FloatKind.f64.format.order x 0 == some .eq
def lowByte (c : UInt8) : Bool := decide (97 ≤ c.toNat) && decide (c.toNat ≤ 122)
def lowB (l : List UInt8) : Bool := l.all lowByte
def nameB (s : ByteArray) : Bool := lowB s.data.toList && (decide (1 ≤ s.size) && decide (s.size ≤ 8))
theorem lowB_take (l : List UInt8) (k : Nat) (h : k < l.length) : lowB (l.take (k + 1)) = (lowB (l.take k) && lowByte l[k]) := by
  unfold lowB; rw [List.take_succ_eq_append_getElem h, List.all_append]; simp
theorem lowB_bad (l : List UInt8) (k : Nat) (h : k < l.length) (hb : lowByte l[k] = false) : lowB l = false := by
  unfold lowB; rw [List.all_eq_false]; exact ⟨l[k], List.getElem_mem h, by rw [hb]; decide⟩
theorem low_at (t : ByteArray) (k : Nat) (h : k < t.size) : lowByte (t.data.toList[k]'(by rw [Val.size_data]; exact h)) = lowByte t[k] := rfl
theorem nameB_len {s : ByteArray} (h : nameB s = true) : 1 ≤ s.size ∧ s.size ≤ 8 := by
  unfold nameB at h
  rw [Bool.and_eq_true, Bool.and_eq_true] at h
  exact ⟨of_decide_eq_true h.2.1, of_decide_eq_true h.2.2⟩
/-- A property, a node, an edge, a write. -/
structure Pr where
  k : ByteArray
  v : V
structure Nd where
  ls : List ByteArray
  ps : List Pr
structure Eg where
  a : Int
  b : Int
  t : ByteArray
  w : Nat
structure Wr where
  e : Bool
  id : Int
  gone : Bool
  n : Nd
  g : Eg
instance : Inhabited Pr := ⟨⟨⟨#[]⟩, ⟨0, false, 0, 0, ⟨#[]⟩⟩⟩⟩
instance : Inhabited Nd := ⟨⟨[], []⟩⟩
instance : Inhabited Eg := ⟨⟨0, 0, ⟨#[]⟩, 0⟩⟩
instance : Inhabited Wr := ⟨⟨false, 0, false, ⟨[], []⟩, ⟨0, 0, ⟨#[]⟩, 0⟩⟩⟩
def edgeB (e : Eg) : Bool := decide (1 ≤ e.a) && decide (e.a ≤ 24) && decide (1 ≤ e.b) && decide (e.b ≤ 24) && nameB e.t && geW e.w
/-- Is label i a name, and greater than the one before? -/
def labB (l : List ByteArray) (i : Nat) : Bool := nameB (l.getD i ⟨#[]⟩) && (decide (i = 0) || ltT (l.getD (i - 1) ⟨#[]⟩) (l.getD i ⟨#[]⟩))
/-- Is property i's key a name, greater than the one before, and its value valid and something? -/
def prpB (l : List Pr) (i : Nat) : Bool := nameB (l.getD i default).k && (decide (i = 0) || ltT (l.getD (i - 1) default).k (l.getD i default).k) && isB (l.getD i default).v && decide ((l.getD i default).v.k ≠ 0)
def nodeB (n : Nd) : Bool := (List.range n.ls.length).all (labB n.ls) && (List.range n.ps.length).all (prpB n.ps) && (decide (n.ls.length ≤ 3) && decide (n.ps.length ≤ 3))
theorem all_up (f : Nat → Bool) (k : Nat) : (List.range (k + 1)).all f = ((List.range k).all f && f k) := by
  rw [List.range_succ, List.all_append]; simp
theorem all_bad {f : Nat → Bool} {n k : Nat} (hk : k < n) (h : f k = false) : (List.range n).all f = false := by
  rw [List.all_eq_false]; exact ⟨k, List.mem_range.2 hk, by rw [h]; decide⟩
end Go.Proofs.Ytdhpphbgobakhaa
