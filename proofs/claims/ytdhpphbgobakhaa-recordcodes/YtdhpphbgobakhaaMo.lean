/- Arguments that are slices of bytes, integers or strings, opened: the list that each reads as. -/
import Derived.Test.YtdhpphbgobakhaaMa
import Derived.ChangeOld
import Derived.SliceStrings
import Derived.Deep.Draws
namespace Go.Proofs.Ytdhpphbgobakhaa
set_option maxRecDepth 100000
set_option linter.unusedVariables false
open Go.ChangeShapes Go.WideShapes Go.ChangeAt Go.RowKit
theorem u8_of {n : Nat} (h : n < 256) : n.toUInt8.toNat = n := by simp [Nat.toUInt8]; omega
/-- A slice: where it begins, what it reads as, its capacity. -/
structure Sl (α : Type) where
  a : Option Addr
  l : List α
  c : Nat
abbrev slv {α : Type} (s : Sl α) : Value := .slice s.a s.l.length s.c
def SlB (w : World) (s : Sl UInt8) : Prop := BS w s.a s.l s.c
def SlI (k : IntKind) (w : World) (s : Sl Int) : Prop := Row (.int k) w s.a s.l ∧ (∀ n ∈ s.l, (Lit.int k n).wf = true) ∧ (s.a = none → s.c = 0)
def SlS (w : World) (s : Sl ByteArray) : Prop := Row .string w s.a s.l ∧ ∀ x ∈ s.l, x.size ≤ 9223372036854775807
section
variable {H : Type} {enc : TypeId × Value → H} {w : World} {base : Nat} {held : Bool} {r : Reach} {b0 : Nat} {v : Value} {d : DataW H} {p : List MemPlace}
theorem row_ints {k : IntKind} {t e : TypeId} (ht : Try.prog.underlying t = some (.slice e)) (he : Try.prog.underlying e = some (.int k)) (hc : Try.prog.cellsOf e = 1)
    (hv : Value.okWide Try.prog w r b0 t v) (h : DataW.Trod enc Try.prog w base (fun _ => true) held t v d p) :
    ∃ (a : Option Addr) (zs : List Int) (c : Nat), v = .slice a zs.length c ∧ Row (.int k) w a zs ∧ zs.length ≤ c ∧ (a = none → c = 0) ∧ ∀ n ∈ zs, (Lit.int k n).wf = true := by
  obtain ⟨a0, len, cap, rfl⟩ := okWide_slice ht hv
  obtain ⟨fuel, hf⟩ := h
  rcases open_ints ht he hc hf with ⟨hcs, _⟩ | ⟨x, l, c, zs, hcs, _, hl, hm, hz, _, hcell, hwz⟩
  · simp [Value.cells] at hcs
    obtain ⟨rfl, rfl, rfl⟩ := hcs
    exact ⟨none, [], 0, rfl, fun i hi => absurd hi (by simp), by simp, fun _ => rfl, by simp⟩
  · simp [Value.cells] at hcs
    obtain ⟨rfl, rfl, rfl⟩ := hcs
    have hz' : zs.length = cap := by simpa using hz
    have hlen : (zs.take len).length = len := by simp; omega
    refine ⟨some x, zs.take len, cap, by rw [hlen], fun i hi => ⟨x, rfl, ?_⟩, by omega, (fun e => by cases e), fun n hn => hwz n (List.mem_of_mem_take hn)⟩
    have hi2 : i < zs.length := by simp at hi; omega
    rw [hcell i hi2]; simp [hi2]
theorem open_ints64 (hv : Value.okWide Try.prog w r b0 80 v) (h : DataW.Trod enc Try.prog w base (fun _ => true) held 80 v d p) : ∃ s : Sl Int, v = slv s ∧ SlI .i64 w s := by
  obtain ⟨a, zs, c, rfl, h1, h2, h3, h4⟩ := row_ints Try.underlying80 Try.underlying3 (by kernel_rfl) hv h
  exact ⟨⟨a, zs, c⟩, rfl, h1, h4, h3⟩
theorem u8_list {w : World} {a : Option Addr} {zs : List Int} (hr : Row (.int .u8) w a zs) (hw : ∀ n ∈ zs, (Lit.int .u8 n).wf = true) :
    ∃ l : List UInt8, l.length = zs.length ∧ ∀ i (h : i < l.length), ∃ ad, a = some ad ∧ w.cell? (ad.add i) = some (.int .u8 (l[i].toNat : Nat)) := by
  refine ⟨zs.map fun n => n.toNat.toUInt8, by simp, fun i hi => ?_⟩
  have hi2 : i < zs.length := by simpa using hi
  obtain ⟨ad, e, hc⟩ := hr i hi2
  refine ⟨ad, e, ?_⟩
  have hb : 0 ≤ zs[i] ∧ zs[i] ≤ 255 := by
    have := hw zs[i] (List.getElem_mem hi2)
    simpa [Lit.wf, IntKind.min, IntKind.max, IntKind.signed, IntKind.bits] using this
  rw [hc, List.getElem_map, u8_of (by omega)]
  congr 2
  omega
theorem open_bytes (hv : Value.okWide Try.prog w r b0 23 v) (h : DataW.Trod enc Try.prog w base (fun _ => true) held 23 v d p) : ∃ s : Sl UInt8, v = slv s ∧ SlB w s := by
  obtain ⟨a, zs, c, rfl, h1, h2, h3, h4⟩ := row_ints Try.underlying23 Try.underlying5 (by kernel_rfl) hv h
  obtain ⟨l, e, hl⟩ := u8_list h1 h4
  exact ⟨⟨a, l, c⟩, by unfold slv; rw [e], hl, (show l.length ≤ c by omega), h3⟩
theorem open_strs (hv : Value.okWide Try.prog w r b0 40 v) (h : DataW.Trod enc Try.prog w base (fun _ => true) held 40 v d p) : ∃ s : Sl ByteArray, v = slv s ∧ SlS w s := by
  obtain ⟨a0, len, cap, rfl⟩ := okWide_slice Try.underlying40 hv
  obtain ⟨fuel, hf⟩ := h
  rcases open_strings Try.underlying40 Try.underlying9 (by kernel_rfl) hf with ⟨hcs, _⟩ | ⟨x, l, c, zs, hcs, _, hl, hm, hz, _, hcell, hwz⟩
  · simp [Value.cells] at hcs
    obtain ⟨rfl, rfl, rfl⟩ := hcs
    exact ⟨⟨none, [], 0⟩, rfl, fun i hi => absurd hi (by simp), by simp⟩
  · simp [Value.cells] at hcs
    obtain ⟨rfl, rfl, rfl⟩ := hcs
    have hz' : zs.length = cap := by simpa using hz
    have hlen : (zs.take len).length = len := by simp; omega
    refine ⟨⟨some x, zs.take len, cap⟩, by unfold slv; rw [hlen], fun i hi => ⟨x, rfl, ?_⟩, fun n hn => hwz n (List.mem_of_mem_take hn)⟩
    have hi2 : i < zs.length := by simp at hi; omega
    rw [hcell i hi2]; simp [hi2]
end
/-- Of what was there nothing has turned, where only block a has, and a is new. -/
theorem below_grown {B : Nat} {w w1 w2 : World} {a : Nat} (h : Below B w w1) (hg : w1.grownBy w2 (some a)) (hB : B ≤ w.heap.size) (ha : B ≤ a) : Below B w w2 :=
  h.grown hg (Nat.le_trans hB h.size) fun k e => by injection e with e; omega
theorem bs_nil (W : World) : BS W none [] 0 := ⟨fun i hi => absurd hi (by simp), by simp, fun _ => rfl⟩
theorem BS.drewN {W : World} {A : Option Addr} {l : List UInt8} {c : Nat} (h : BS W A l c) (n : Nat) : BS (W.drewN n) A l c := ⟨h.cells, h.cap, h.bare⟩
theorem below_drewN {B : Nat} {a w : World} (h : Below B a w) (n : Nat) : Below B a (w.drewN n) := ⟨h.os, h.tape, h.output, h.size, h.block⟩
theorem quiet_eq {P : Program} {f : FuncId} {args : Array Value} {w : World} {n : Nat} {v : Value}
    (h : Calls P f args (w.drewN n) fun e w' => e = .returned v ∧ w.drewN n = w') : Calls P f args (w.drewN n) fun e w'' => e = .returned v ∧ ∃ m, w'' = w.drewN m :=
  h.mono fun _ _ ⟨he, hm⟩ => ⟨he, n, hm.symm⟩
theorem grown_of_below {w w' : World} (hb : Below w.heap.size w w') (row : Option Nat) : w.grownBy w' row := ⟨hb.os, hb.tape, hb.output, hb.size, fun k hk _ => hb.block k hk⟩
theorem grown_set (w : World) (a o : Nat) (u : Value) : w.grownBy (w.setCell ⟨a, o, none⟩ u) (some a) :=
  ⟨rfl, rfl, rfl, by simp [World.setCell], fun k hk hne => Below.heap_setCell w _ u k (fun e => hne (by rw [e]))⟩
end Go.Proofs.Ytdhpphbgobakhaa
