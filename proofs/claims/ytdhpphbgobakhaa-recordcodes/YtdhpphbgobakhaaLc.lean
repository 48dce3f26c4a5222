/- What a Cursor of package leb does: contracts of its methods and of what they call. Conditions: the cells of the Cursor, and of the bytes that it reads, lie in memory. -/
import Derived.Test.YtdhpphbgobakhaaLv
import Derived.Test.YtdhpphbgobakhaaMo
namespace Go.Proofs.Ytdhpphbgobakhaa
set_option maxRecDepth 100000
set_option linter.unusedVariables false
open Go.ChangeShapes Go.WideShapes Go.ChangeAt Go.RowKit
open Lb
open Fl (S IR nanB normN keyN NaNw cmpK unkN ofB)
open Go.Lib (uvarint zigzag uvarint_small uvarint_big unzigzag)

/-- The bytes l behind A, if there are any, lie in block g. -/
def Lies (A : Option Addr) (l : List UInt8) (g : Option Nat) : Prop := ∀ ad, A = some ad → l = [] ∨ some ad.block = g
theorem BS.keptL {w w' : World} {row g : Option Nat} {A : Option Addr} {l : List UInt8} {c : Nat} (h : BS w A l c) (hg : w.grownBy w' row) (hA : Lies A l g) (hne : g = none ∨ g ≠ row) : BS w' A l c :=
  ⟨fun i hi => by
    obtain ⟨ad, e, hc⟩ := h.cells i hi
    have hb : some ad.block = g := (hA ad e).resolve_left (fun hl => by subst hl; simp at hi)
    exact ⟨ad, e, hg.cell hc (by rw [add_block, hb]; exact hne.resolve_left (fun h => by rw [h] at hb; cases hb))⟩, h.cap, h.bare⟩
/-- The Cursor in block a, whose bytes lie in block g: it has failed (none), or l remains (some l). -/
def Cur (w : World) (a : Nat) (g : Option Nat) (st : Option (List UInt8)) : Prop :=
  a < w.heap.size ∧ some a ≠ g ∧ w.frozen? ⟨a, 0, none⟩ = false ∧ w.frozen? ⟨a, 1, none⟩ = false ∧
  match st with
  | none => w.cell? ⟨a, 0, none⟩ = some (.slice none 0 0) ∧ w.cell? ⟨a, 1, none⟩ = some (.bool true)
  | some l => ∃ A c, w.cell? ⟨a, 0, none⟩ = some (.slice A l.length c) ∧ w.cell? ⟨a, 1, none⟩ = some (.bool false) ∧ BS w A l c ∧ Lies A l g ∧ l.length ≤ 1000000
theorem Cur.kept {w w' : World} {a : Nat} {g : Option Nat} {st : Option (List UInt8)} {row : Option Nat} (h : Cur w a g st) (hg : w.grownBy w' row) (ha : some a ≠ row) (hgr : g = none ∨ g ≠ row) : Cur w' a g st := by
  obtain ⟨h1, h2, h3, h4, h5⟩ := h
  have e : ∀ o, w'.cell? ⟨a, o, none⟩ = w.cell? ⟨a, o, none⟩ := fun o => hg.cell_far ⟨a, o, none⟩ h1 ha
  have f : ∀ o, w'.frozen? ⟨a, o, none⟩ = w.frozen? ⟨a, o, none⟩ := fun o => hg.frozen_far ⟨a, o, none⟩ h1 ha
  refine ⟨Nat.lt_of_lt_of_le h1 hg.size, h2, by rw [f]; exact h3, by rw [f]; exact h4, ?_⟩
  cases st with
  | none => exact ⟨by rw [e]; exact h5.1, by rw [e]; exact h5.2⟩
  | some l =>
    obtain ⟨A, c, k1, k2, k3, k4, k5⟩ := h5
    exact ⟨A, c, by rw [e]; exact k1, by rw [e]; exact k2, k3.keptL hg k4 hgr, k4, k5⟩
theorem Cur.below {w w' : World} {a : Nat} {g : Option Nat} {st : Option (List UInt8)} (h : Cur w a g st) (hb : Below w.heap.size w w') : Cur w' a g st :=
  h.kept (grown_of_below hb none) (by simp) (by cases g <;> simp)
theorem BS.set {w : World} {A : Option Addr} {l : List UInt8} {c a o : Nat} {g : Option Nat} {u : Value} (h : BS w A l c) (hA : Lies A l g) (ha : some a ≠ g) : BS (w.setCell ⟨a, o, none⟩ u) A l c :=
  h.keptL (grown_set w a o u) hA (.inr (Ne.symm ha))
theorem ne01 (a : Nat) : (⟨a, 0, none⟩ : Addr) ≠ ⟨a, 1, none⟩ := by simp
theorem Cur.step {w : World} {a : Nat} {g : Option Nat} {l l' : List UInt8} {A : Option Addr} {c : Nat} (h : Cur w a g (some l)) (hb : BS w A l' c) (hA : Lies A l' g) (hl : l'.length ≤ 1000000) :
    Cur (w.setCell ⟨a, 0, none⟩ (.slice A l'.length c)) a g (some l') := by
  obtain ⟨h1, h2, h3, h4, A0, c0, k1, k2, _⟩ := h
  exact ⟨by simpa [World.setCell] using h1, h2, by simpa using h3, by simpa using h4, A, c, World.cell?_setCell_same _ _ _ k1, by rw [World.cell?_setCell_other _ _ _ _ (ne01 a)]; exact k2, hb.set hA h2, hA, hl⟩
theorem Cur.cells {w : World} {a : Nat} {g : Option Nat} {st : Option (List UInt8)} (h : Cur w a g st) : (∃ u, w.cell? ⟨a, 0, none⟩ = some u) ∧ ∃ u, w.cell? ⟨a, 1, none⟩ = some u := by
  obtain ⟨h1, h2, h3, h4, h5⟩ := h
  cases st with
  | none => exact ⟨⟨_, h5.1⟩, _, h5.2⟩
  | some l =>
    obtain ⟨A, c, k1, k2, _⟩ := h5
    exact ⟨⟨_, k1⟩, _, k2⟩
def Moves (a : Nat) (g : Option Nat) (w : World) (v : Value) (st : Option (List UInt8)) (e : Ending) (w' : World) : Prop := e = .returned v ∧ Cur w' a g st ∧ w.grownBy w' (some a)
theorem only_trans {a b c : World} {row : Option Nat} (h : a.grownBy b row) (k : b.grownBy c row) : a.grownBy c row := h.trans k

theorem good_any (a : Nat) (g : Option Nat) (st : Option (List UInt8)) (w : World) (h : Cur w a g st) :
    Calls Try.prog 46 #[.pointer (some ⟨a, 0, none⟩)] w fun e w' => e = .returned (.bool st.isSome) ∧ w = w' := by
  obtain ⟨h1, h2, h3, h4, h5⟩ := h
  cases st with
  | none =>
    obtain ⟨k1, k2⟩ := h5
    go_enter Try.func46, Try.ntmps46
    go_wp2
    go_ret
    exact ⟨rfl, rfl⟩
  | some l =>
    obtain ⟨A, c, k1, k2, k3, k4, k5⟩ := h5
    go_enter Try.func46, Try.ntmps46
    go_wp2
    go_ret
    exact ⟨rfl, rfl⟩
theorem good_nil (w : World) : Calls Try.prog 46 #[.pointer none] w fun e w' => e = .returned (.bool false) ∧ w = w' := by
  go_enter Try.func46, Try.ntmps46
  go_wp2
  go_ret
  exact ⟨rfl, rfl⟩
def whole : Option (List UInt8) → Bool
  | none => false
  | some l => l.isEmpty
theorem whole_any (a : Nat) (g : Option Nat) (st : Option (List UInt8)) (w : World) (h : Cur w a g st) :
    Calls Try.prog 24 #[.pointer (some ⟨a, 0, none⟩)] w fun e w' => e = .returned (.bool (whole st)) ∧ w = w' := by
  have HG := Lib.hid (good_any a g st w h)
  obtain ⟨h1, h2, h3, h4, h5⟩ := h
  cases st with
  | none =>
    obtain ⟨k1, k2⟩ := h5
    go_enter Try.func24, Try.ntmps24
    go_wp2_with fail
    refine HG.out.mono ?_
    rintro e w' ⟨rfl, rfl⟩
    go_wp2
    go_ret
    exact ⟨rfl, rfl⟩
  | some l =>
    obtain ⟨A, c, k1, k2, k3, k4, k5⟩ := h5
    have K3 := Lib.hid k3
    clear k3 k4
    cases l with
    | nil =>
      go_enter Try.func24, Try.ntmps24
      go_wp2_with fail
      refine HG.out.mono ?_
      rintro e w' ⟨rfl, rfl⟩
      go_wp2
      go_ret
      exact ⟨rfl, rfl⟩
    | cons x l =>
      have hq : (((x :: l).length : Int) == 0) = false := by simp; omega
      go_enter Try.func24, Try.ntmps24
      go_wp2_with fail
      refine HG.out.mono ?_
      rintro e w' ⟨rfl, rfl⟩
      go_wp2
      go_ret
      exact ⟨ret_b (by simp [whole]; omega), rfl⟩
theorem whole_nil (w : World) : Calls Try.prog 24 #[.pointer none] w fun e w' => e = .returned (.bool false) ∧ w = w' := by
  go_enter Try.func24, Try.ntmps24
  go_wp2_with fail
  refine (good_nil _).mono ?_
  rintro e w' ⟨rfl, rfl⟩
  go_wp2
  go_ret
  exact ⟨rfl, rfl⟩
theorem fail_any (a : Nat) (g : Option Nat) (st : Option (List UInt8)) (w : World) (h : Cur w a g st) :
    Calls Try.prog 48 #[.pointer (some ⟨a, 0, none⟩)] w (Moves a g w (.tuple #[]) none) := by
  have H := Lib.hid h
  obtain ⟨⟨u0, c0⟩, u1, c1⟩ := h.cells
  obtain ⟨h1, h2, h3, h4, _⟩ := h
  go_enter Try.func48, Try.ntmps48
  go_wp2
  go_end0
  have d1 : (w.setCell ⟨a, 0, none⟩ (.slice none 0 0)).cell? ⟨a, 1, none⟩ = some u1 := by rw [World.cell?_setCell_other _ _ _ _ (ne01 a)]; exact c1
  refine ⟨rfl, ⟨by simpa [World.setCell] using h1, h2, by simpa using h3, by simpa using h4, ?_, World.cell?_setCell_same _ _ _ d1⟩, only_trans (grown_set w a 0 _) (grown_set _ a 1 _)⟩
  rw [World.cell?_setCell_other _ _ _ _ (Ne.symm (ne01 a))]
  exact World.cell?_setCell_same _ _ _ c0
end Go.Proofs.Ytdhpphbgobakhaa
