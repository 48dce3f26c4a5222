/- Slices of bytes: what their cells hold, how append makes them longer, how they become strings. Conditions: as each fact names them. -/
import Derived.Test.YtdhpphbgobakhaaRows
import Derived.WalkKit
import Derived.WalkLawsBesides
import Derived.ProofKit
import Derived.OpenShut
import Derived.Lib.Hide
import Derived.Maps.AppendAt
import Derived.OwnWalk
import Derived.Laws.AppendOwnNone
import Derived.Lib.AppendStr
import Derived.Laws.BytesArg
import Derived.Laws.Concat
import Derived.Deep.Onto
import Derived.Deep.AppendLies
import Derived.Below
namespace Go.Proofs.Ytdhpphbgobakhaa
set_option maxRecDepth 100000
open Go.ChangeShapes Go.WideShapes Go.ChangeAt Go.RowKit

theorem ret_i {a b : Int} (h : a = b) : Ending.returned (.int .i64 a) = .returned (.int .i64 b) := by rw [h]
theorem ret_b {a b : Bool} (h : a = b) : Ending.returned (.bool a) = .returned (.bool b) := by rw [h]
theorem bcell {W w1 : World} (hb : Below W.heap.size W w1) : (∀ b o, b < W.heap.size → w1.cell? ⟨b, o, none⟩ = W.cell? ⟨b, o, none⟩) ∧ (∀ b o, b < W.heap.size → w1.frozen? ⟨b, o, none⟩ = W.frozen? ⟨b, o, none⟩) :=
  ⟨fun b o h => hb.cell (p := ⟨b, o, none⟩) h, fun b o h => hb.frozen (p := ⟨b, o, none⟩) h⟩
theorem bnext {a b c : World} (h : Below a.heap.size a b) (k : Below b.heap.size b c) : Below a.heap.size a c := h.trans (k.mono h.size)

/-- A list of bytes as cells, as a string. -/
def bcs (l : List UInt8) : List Value := l.map fun b => Value.int .u8 (b.toNat : Nat)
def bstr (l : List UInt8) : ByteArray := ⟨l.toArray⟩
theorem bstr_list (l : List UInt8) : (bstr l).toList = l := ByteArray.toList_mk l
theorem bstr_data (s : ByteArray) : bstr s.data.toList = s := by cases s; simp [bstr]
theorem bstr_size (l : List UInt8) : (bstr l).size = l.length := by simp [bstr, ByteArray.size]
theorem bstr_append (x y : List UInt8) : bstr x ++ bstr y = bstr (x ++ y) := ByteArray.mk_append_mk x y
theorem bcs_len (l : List UInt8) : (bcs l).length = l.length := by simp [bcs]
theorem bcs_append (x y : List UInt8) : bcs (x ++ y) = bcs x ++ bcs y := by simp [bcs]
theorem bcs_one (l : List UInt8) : ∀ u ∈ bcs l, u.oneCell' = true := by
  intro u hu
  obtain ⟨_, _, rfl⟩ := List.mem_map.1 hu
  rfl
theorem bcs_str (s : ByteArray) : Lib.strCells s = bcs s.data.toList := rfl

/-- The cells behind A hold l, each by f. -/
def Row {α : Type} (f : α → Value) (w : World) (A : Option Addr) (l : List α) : Prop := ∀ i (h : i < l.length), ∃ ad, A = some ad ∧ w.cell? (ad.add i) = some (f l[i])
theorem Row.below {α : Type} {f : α → Value} {w w' : World} {A : Option Addr} {l : List α} (h : Row f w A l) (hb : Below w.heap.size w w') : Row f w' A l := by
  intro i hi
  obtain ⟨ad, e, hc⟩ := h i hi
  exact ⟨ad, e, by rw [hb.cell (World.block_lt_of_cell? w _ hc)]; exact hc⟩
theorem row_new {α : Type} (f : α → Value) (w : World) (t : TypeId) (l : List α) (cs : Array Value) (hf : cs.toList = l.map f) : Row f (w.alloc (.cells cs t)) (some ⟨w.heap.size, 0, none⟩) l := by
  intro k hk
  refine ⟨_, rfl, ?_⟩
  have e : (Addr.add ⟨w.heap.size, 0, none⟩ k) = ⟨w.heap.size, k, none⟩ := by unfold Addr.add; split <;> simp_all
  rw [e]
  have h1 : (w.alloc (.cells cs t)).cell? ⟨w.heap.size, k, none⟩ = cs[k]? := cell_of_row _ _ k cs t (0, 0) (heap_alloc_new w _)
  rw [h1, ← Array.getElem?_toList, hf]
  simp [hk]
theorem row_own {α : Type} {f : α → Value} {w : World} {base e c : Nat} {A : Option Addr} {l : List α} (h : w.ownsRow base e 1 (.slice A l.length c) l.length (l.map f)) : Row f w A l := by
  intro k hk
  rcases h.2 with ⟨h0, h1⟩ | ⟨g, cap, cur, hv, _⟩
  · omega
  · have hA : A = some ⟨g, 0, none⟩ := by injection hv
    subst hA
    exact ⟨_, rfl, h.cells (g := g) rfl k _ (by simp [hk])⟩
theorem own_slice {w : World} {base e size n : Nat} {v : Value} {xs : List Value} (h : w.ownsRow base e size v n xs) : ∃ A c, v = .slice A n c := by
  rcases h.2 with ⟨rfl, rfl⟩ | ⟨g, cap, cur, rfl, _⟩
  · exact ⟨_, _, rfl⟩
  · exact ⟨_, _, rfl⟩
/-- The slice of bytes at A, of capacity c, reads l. -/
structure BS (w : World) (A : Option Addr) (l : List UInt8) (c : Nat) : Prop where
  cells : ∀ i (h : i < l.length), ∃ ad, A = some ad ∧ w.cell? (ad.add i) = some (.int .u8 (l[i].toNat : Nat))
  cap : l.length ≤ c
  bare : A = none → c = 0
theorem BS.none_nil {w : World} {l : List UInt8} {c : Nat} (h : BS w none l c) : l = [] ∧ c = 0 := by
  have h0 := h.bare rfl
  have := h.cap
  exact ⟨List.length_eq_zero_iff.1 (by omega), h0⟩
theorem BS.below {w w' : World} {A : Option Addr} {l : List UInt8} {c : Nat} (h : BS w A l c) (hb : Below w.heap.size w w') : BS w' A l c :=
  ⟨fun i hi => by
    obtain ⟨ad, e, hc⟩ := h.cells i hi
    exact ⟨ad, e, by rw [hb.cell (World.block_lt_of_cell? w _ hc)]; exact hc⟩, h.cap, h.bare⟩
theorem add_block (a : Addr) (n : Nat) : (a.add n).block = a.block := by unfold Addr.add; split <;> rfl
theorem BS.kept {w w' : World} {row : Option Nat} {A : Option Addr} {l : List UInt8} {c : Nat} (h : BS w A l c) (hg : w.grownBy w' row) (hne : ∀ ad, A = some ad → some ad.block ≠ row) : BS w' A l c :=
  ⟨fun i hi => by
    obtain ⟨ad, e, hc⟩ := h.cells i hi
    exact ⟨ad, e, hg.cell hc (by rw [add_block]; exact hne ad e)⟩, h.cap, h.bare⟩
theorem BS.take {w : World} {A : Option Addr} {l : List UInt8} {c : Nat} (h : BS w A l c) (k : Nat) : BS w A (l.take k) c :=
  ⟨fun i hi => by
    obtain ⟨ad, e, hc⟩ := h.cells i (by simp at hi; omega)
    exact ⟨ad, e, by rw [hc]; simp⟩, by have := h.cap; simp; omega, h.bare⟩
/-- Where a slice begins that is cut off from k on. -/
def fromA (A : Option Addr) (c k : Nat) : Option Addr := if c = k then A else A.map (·.add (k * 1))
theorem BS.drop {w : World} {A : Option Addr} {l : List UInt8} {c : Nat} (h : BS w A l c) (k : Nat) (hk : k ≤ l.length) : BS w (fromA A c k) (l.drop k) (c - k) := by
  have hc := h.cap
  refine ⟨fun i hi => ?_, by simp; omega, fun hA => ?_⟩
  · simp at hi
    obtain ⟨ad, rfl, hc⟩ := h.cells (k + i) (by omega)
    refine ⟨ad.add k, ?_, ?_⟩
    · unfold fromA; rw [if_neg (by omega)]; simp
    · rw [Addr.add_add, hc]; simp
  · unfold fromA at hA
    split at hA
    · have := h.bare hA; omega
    · cases A with
      | none => have := h.bare rfl; omega
      | some a => cases hA
theorem fromA_block {A : Option Addr} {c k : Nat} {p : Nat → Prop} (h : ∀ ad, A = some ad → p ad.block) : ∀ ad, fromA A c k = some ad → p ad.block := by
  intro ad e
  unfold fromA at e
  split at e
  · exact h ad e
  · cases A with
    | none => cases e
    | some a => simp at e; subst e; rw [add_block]; exact h a rfl
/-- To a string. -/
theorem BS.conv {w : World} {A : Option Addr} {l : List UInt8} {c : Nat} (h : BS w A l c) (n : Nat) (hn : n = l.length) :
    (convert 23 9 (.slice A n c)).run Try.prog w = .ok (.string (bstr l)) w := by
  subst hn
  cases A with
  | none =>
    obtain ⟨rfl, rfl⟩ := h.none_nil
    exact run_convert_bytes_nil w _ _ Try.underlying23 Try.underlying5 _ _ _ Try.underlying9
  | some ad =>
    have hl : (loadCells ad l.length).run Try.prog w = .ok ((l.map fun b => ((b.toNat : Nat) : Int)).map (Value.int .u8)).toArray w := by
      have := run_loadCells_list (P := Try.prog) w ad (bcs l) (fun j v hj => by
        have hjl : j < l.length := by
          rcases Nat.lt_or_ge j l.length with h | h
          · exact h
          · rw [List.getElem?_eq_none (by rw [bcs_len]; exact h)] at hj; cases hj
        obtain ⟨ad', e, hc⟩ := h.cells j hjl
        injection e with e
        subst e
        rw [hc]
        simp [bcs, hjl] at hj
        rw [hj])
      rw [bcs_len] at this
      rw [this]
      simp [bcs]
    rw [run_convert_bytes_string w _ _ 5 _ _ _ Try.underlying23 Try.underlying5 Try.underlying9, run_bytesToString w _ _ _ _ hl, foldl_push_bytes]
    simp [bstr, ByteArray.empty, ByteArray.emptyWithCapacity, Function.comp_def]
    rfl

/-- The slice value v reads l, in memory of the call's own, from block B on. -/
def Own (B : Nat) (w : World) (v : Value) (l : List UInt8) : Prop := w.ownsRow B 5 1 v l.length (bcs l)
theorem Own.nil (B : Nat) (w : World) : Own B w (.slice none 0 0) [] := World.ownsRow_nil _ _ _ _
theorem Own.below {B : Nat} {w w' : World} {v : Value} {l : List UInt8} (h : Own B w v l) (hb : Below w.heap.size w w') : Own B w' v l :=
  World.ownsRow.kept (row := none) h ⟨hb.os, hb.tape, hb.output, hb.size, fun k hk _ => hb.block k hk⟩ (by cases v.ownBlock <;> simp)
theorem Own.mono {B B' : Nat} {w : World} {v : Value} {l : List UInt8} (h : Own B w v l) (hb : B' ≤ B) : Own B' w v l := World.ownsRow.mono h hb
theorem Own.open {B : Nat} {w : World} {v : Value} {l : List UInt8} (h : Own B w v l) : ∃ A c, v = .slice A l.length c ∧ BS w A l c ∧ ∀ ad, A = some ad → ad.spot = none ∧ B ≤ ad.block ∧ ad.block < w.heap.size := by
  have h' := h
  rcases h with ⟨h0, ⟨rfl, h1⟩ | ⟨g, cap, cur, rfl, hg, hh, hn, hm, hs, ht⟩⟩
  · have : l = [] := List.length_eq_zero_iff.1 h1
    subst this
    exact ⟨_, _, rfl, ⟨fun i hi => absurd hi (by simp), by simp, fun _ => rfl⟩, fun ad e => by cases e⟩
  · refine ⟨_, _, rfl, ⟨fun i hi => ⟨_, rfl, ?_⟩, hn, fun e => by cases e⟩, fun ad e => ?_⟩
    · exact World.ownsRow.cells h' (g := g) rfl i _ (by simp [bcs, hi])
    · injection e with e
      subst e
      exact ⟨rfl, World.ownsRow.lt h' g rfl⟩
theorem infoB : (Try.prog.info? 5).map (fun i => (i.zero, i.size, i.bytes)) = some (some (.int .u8 0), 1, 1) := by kernel_rfl

section
variable {w : World} {ops : Array Oper} {rest : List Oper} {o : Oper} {a : Act} {Q : Exit → Act → World → Prop}
/-- append(v, m...), m any slice of bytes. -/
theorem wp_app (hgd : o.guard = none) (s x : Operand)
    (ho : o.op = .call { callee := .builtin .append, args := #[s, x], argTypes := #[23, 23] })
    (B : Nat) (v : Value) (l : List UInt8) (hown : Own B w v l) (hs : a.eval s = v) (A : Option Addr) (m : List UInt8) (n c : Nat) (hx : a.eval x = .slice A n c) (hn : n = m.length) (hm : BS w A m c)
    (hle : l.length + m.length ≤ 100000000) (hB : B ≤ w.heap.size)
    (h : ∀ v' w', Own B w' v' (l ++ m) → Below B w w' → wpList Try.prog ops Q rest (a.put o.dst v') w') : wpList Try.prog ops Q (o :: rest) a w := by
  subst hn
  obtain ⟨i0, hi0, hz0, hz1, hz2⟩ := info_parts infoB
  cases A with
  | none =>
    obtain ⟨rfl, rfl⟩ := hm.none_nil
    refine wpList_append_own_none hgd s x _ ho B 5 i0 1 Try.underlying23 hi0 v _ _ hs hown hx (h _ _ ?_ (Below.refl _ _))
    rw [List.append_nil]; exact hown
  | some ad =>
    refine wpList_append_own _ hgd s x _ ho B 5 i0 (.int .u8 0) 1 1 Try.underlying23 hi0 hz0 hz1 hz2 rfl (by decide) v _ _ hs hown ad _ _ (bcs m) hx (by rw [bcs_len, Nat.mul_one]) ?_ (bcs_one m) (by unfold maxLen; omega) (by omega) hB ?_
    · intro j u hj
      have hjl : j < m.length := by
        rcases Nat.lt_or_ge j m.length with h | h
        · exact h
        · rw [List.getElem?_eq_none (by rw [bcs_len]; exact h)] at hj; cases hj
      obtain ⟨ad', e, hc⟩ := hm.cells j hjl
      injection e with e
      subst e
      rw [hc]
      simp [bcs, hjl] at hj
      rw [hj]
    · intro v' w' h1 h2 _
      refine h v' w' ?_ ((Below.refl _ _).grown h2 hB fun k hk => (World.ownsRow.lt hown k hk).1)
      unfold Own
      rw [List.length_append, bcs_append]; exact h1
/-- append(v, b), the byte laid in a block of its own. -/
theorem wp_app1 (hgd : o.guard = none) (s x : Operand)
    (ho : o.op = .call { callee := .builtin .append, args := #[s, x], argTypes := #[23, 23] })
    (B : Nat) (v : Value) (l : List UInt8) (b : UInt8) (y : Int) (hown : Own B w v l) (hs : a.eval s = v) (hx : a.eval x = .slice (some ⟨w.heap.size, 0, none⟩) 1 1) (hy : y = (b.toNat : Nat))
    (hle : l.length ≤ 10000000) (hB : B ≤ w.heap.size)
    (h : ∀ v' w', Own B w' v' (l ++ [b]) → Below B w w' → wpList Try.prog ops Q rest (a.put o.dst v') w') : wpList Try.prog ops Q (o :: rest) a (w.alloc (.cells #[.int .u8 y] 5)) := by
  subst hy
  have hb1 := (Below.refl w.heap.size w).alloc (Nat.le_refl _) (.cells #[.int .u8 (b.toNat : Nat)] 5)
  refine wp_app hgd s x ho B v l (hown.below hb1) hs _ [b] _ _ hx rfl ⟨fun i hi => ⟨_, rfl, ?_⟩, by simp, fun e => by cases e⟩ (by simp; omega) (by simp; omega) fun v' w' h1 h2 => h v' w' h1 ?_
  · obtain rfl : i = 0 := by simpa using hi
    exact cell_one_new _ _ _ 0 _ rfl
  · exact (hb1.mono hB).trans h2
/-- append(v, t...), t a string. -/
theorem wp_appS (hgd : o.guard = none) (s x : Operand)
    (ho : o.op = .call { callee := .builtin .append, args := #[s, x], argTypes := #[23, 9] })
    (B : Nat) (v : Value) (l : List UInt8) (hown : Own B w v l) (hs : a.eval s = v) (t : ByteArray) (hx : a.eval x = .string t)
    (hle : l.length + t.size ≤ 100000000) (hB : B ≤ w.heap.size)
    (h : ∀ v' w', Own B w' v' (l ++ t.data.toList) → Below B w w' → wpList Try.prog ops Q rest (a.put o.dst v') w') : wpList Try.prog ops Q (o :: rest) a w := by
  obtain ⟨i0, hi0, hz0, hz1, hz2⟩ := info_parts infoB
  refine Lib.wpList_append_own_string w hgd s x _ _ ho B 5 i0 Try.underlying23 Try.underlying9 hi0 hz0 hz1 hz2 v _ _ hs hown t hx (by unfold maxLen; omega) (by omega) hB ?_
  intro v' w' h1 h2 _
  refine h v' w' ?_ ((Below.refl _ _).grown h2 hB fun k hk => (World.ownsRow.lt hown k hk).1)
  unfold Own
  rw [List.length_append, bcs_append, ← bcs_str]
  exact h1
end
end Go.Proofs.Ytdhpphbgobakhaa
