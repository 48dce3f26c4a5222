/- The program's reader of chapter 10 in memory: what a Cursor of it reads. Conditions: the reader's cells lie in memory. -/
import Derived.Test.YtdhpphbgobakhaaZo
import Derived.Test.YtdhpphbgobakhaaLx
namespace Go.Proofs.Ytdhpphbgobakhaa
set_option maxRecDepth 100000
set_option linter.unusedVariables false
open Go.ChangeShapes Go.WideShapes Go.ChangeAt Go.RowKit
open Fl (S cmpK keyN normN)
open Val (V cmpV isB ltT)
open Lb
/-- What remains behind a part, and the part, where there is one. -/
def nx {α : Type} (p : Prs α) (q : Option (List UInt8)) : Option (List UInt8) := q.bind fun l => (p l).map (·.2)
def rs {α : Type} (p : Prs α) (q : Option (List UInt8)) : Option α := q.bind fun l => (p l).map (·.1)
/-- x is the part, where there is one. -/
def Is {α : Type} (p : Prs α) (q : Option (List UInt8)) (x : α) : Prop := ∀ y, rs p q = some y → x = y
theorem nx_none {α : Type} (p : Prs α) : nx p none = none := rfl
theorem rs_none {α : Type} (p : Prs α) : rs p none = none := rfl
theorem is_none {α : Type} (p : Prs α) (x : α) : Is p none x := fun y h => by cases h
section
variable {α β : Type} {p : Prs α} {f : α → Prs β} {q : Option (List UInt8)} {x : α} {y : β}
theorem nx_and (h : Is p q x) : nx (andT p f) q = nx (f x) (nx p q) ∧ rs (andT p f) q = rs (f x) (nx p q) := by
  cases q with
  | none => exact ⟨rfl, rfl⟩
  | some l =>
    unfold Is rs at h
    unfold nx rs andT
    simp only [Option.bind_some] at h ⊢
    cases hp : p l with
    | none => exact ⟨rfl, rfl⟩
    | some z =>
      obtain ⟨z, r⟩ := z
      rw [hp] at h
      have := h z rfl
      subst this
      exact ⟨rfl, rfl⟩
theorem is_and (h : Is p q x) (k : Is (f x) (nx p q) y) : Is (andT p f) q y := fun z hz => k z (by rw [(nx_and h).2] at hz; exact hz)
theorem nx_ret : nx (ret x) q = q := by cases q <;> rfl
theorem is_ret : Is (ret x) q x := fun z hz => by
  cases q with
  | none => cases hz
  | some l => injection hz
theorem nx_bad : nx (bad (α := α)) q = none := by cases q <;> rfl
theorem is_bad : Is (bad (α := α)) q x := fun z hz => by cases q <;> cases hz
end
theorem pI_nxt (l : List UInt8) : nxtI (some l) = nx pI (some l) ∧ Is pI (some l) (resI (some l)) := by
  obtain ⟨h1, h2⟩ := nxtI_pI l
  refine ⟨h1, fun y hy => ?_⟩
  unfold rs at hy
  simp only [Option.bind_some] at hy
  rw [h2, hy]; rfl
theorem pS_nxt (l : List UInt8) : nxtS (some l) = nx pS (some l) ∧ Is pS (some l) (bstr (resS (some l))) := by
  unfold nx pS Is rs
  simp only [Option.bind_some, Option.map_map]
  cases nxtS (some l) with
  | none => exact ⟨rfl, fun y hy => by cases hy⟩
  | some r => exact ⟨rfl, fun y hy => by injection hy⟩
theorem pR_nxt (l : List UInt8) : nxtR (some l) = nx pR (some l) ∧ Is pR (some l) (resR (some l)) := by
  unfold nx pR Is rs
  simp only [Option.bind_some, Option.map_map]
  cases nxtR (some l) with
  | none => exact ⟨rfl, fun y hy => by cases hy⟩
  | some r => exact ⟨rfl, fun y hy => by injection hy⟩
/-- The reader in block r, its Cursor in block a, the bytes in block g: it has failed (none), or l remains; all of them older than B. -/
structure RS (B r a : Nat) (g : Option Nat) (q : Option (List UInt8)) (w : World) : Prop where
  cur : ∃ st bd, Cur w a g st ∧ w.cell? ⟨r, 1, none⟩ = some (.bool bd) ∧ (match q with | some l => st = some l ∧ bd = false | none => st = none ∨ bd = true)
  c0 : w.cell? ⟨r, 0, none⟩ = some (.pointer (some ⟨a, 0, none⟩))
  fz : w.frozen? ⟨r, 1, none⟩ = false
  ra : r ≠ a
  rg : some r ≠ g
  rB : r < B
  aB : a < B
  gB : ∀ k, g = some k → k < B
  size : B ≤ w.heap.size
/-- Only the reader and its Cursor may have changed. -/
def F2 (r a : Nat) : Nat → Prop := fun k => k = r ∨ k = a
section
variable {B r a : Nat} {g : Option Nat} {q : Option (List UInt8)} {w w' : World}
theorem RS.grown {row : Option Nat} (h : RS B r a g q w) (hg : w.grownBy w' row) (hr : ∀ k, row = some k → B ≤ k) : RS B r a g q w' := by
  have na : some a ≠ row := fun e => by have := hr a e.symm; have := h.aB; omega
  have nr : some r ≠ row := fun e => by have := hr r e.symm; have := h.rB; omega
  have hrs : r < w.heap.size := Nat.lt_of_lt_of_le h.rB h.size
  obtain ⟨st, bd, h1, h2, h3⟩ := h.cur
  refine ⟨⟨st, bd, h1.kept hg na ?_, (hg.cell_far ⟨r, 1, none⟩ hrs nr).trans h2, h3⟩, (hg.cell_far ⟨r, 0, none⟩ hrs nr).trans h.c0, (hg.frozen_far ⟨r, 1, none⟩ hrs nr).trans h.fz, h.ra, h.rg, h.rB, h.aB, h.gB, Nat.le_trans h.size hg.size⟩
  cases g with
  | none => exact .inl rfl
  | some k => exact .inr (fun e => by have := hr k e.symm; have := h.gB k rfl; omega)
theorem RS.below (h : RS B r a g q w) (hb : Below w.heap.size w w') : RS B r a g q w' := h.grown (grown_of_below hb none) (fun k e => by cases e)
/-- The Cursor has moved. -/
theorem RS.moved {st : Option (List UInt8)} {q' : Option (List UInt8)} {bd : Bool} (h : RS B r a g q w) (h2 : w.cell? ⟨r, 1, none⟩ = some (.bool bd)) (hc : Cur w' a g st) (hg : w.grownBy w' (some a)) (hq : match q' with | some l => st = some l ∧ bd = false | none => st = none ∨ bd = true) : RS B r a g q' w' := by
  have hrs : r < w.heap.size := Nat.lt_of_lt_of_le h.rB h.size
  have nr : some r ≠ some a := fun e => by injection e with e; exact h.ra e
  exact ⟨⟨st, bd, hc, (hg.cell_far ⟨r, 1, none⟩ hrs nr).trans h2, hq⟩, (hg.cell_far ⟨r, 0, none⟩ hrs nr).trans h.c0, (hg.frozen_far ⟨r, 1, none⟩ hrs nr).trans h.fz, h.ra, h.rg, h.rB, h.aB, h.gB, Nat.le_trans h.size hg.size⟩
theorem chg_a (hg : w.grownBy w' (some a)) : Chg (F2 r a) w w' := (Chg.refl _ w).grown hg (fun k e => by injection e with e; subst e; exact .inl (.inr rfl))
theorem RS.failed (h : RS B r a g q w) : RS B r a g none (w.setCell ⟨r, 1, none⟩ (.bool true)) ∧ Chg (F2 r a) w (w.setCell ⟨r, 1, none⟩ (.bool true)) := by
  have hg := grown_set w r 1 (.bool true)
  obtain ⟨st, bd, h1, h2, h3⟩ := h.cur
  refine ⟨⟨⟨st, true, h1.kept hg (fun e => by injection e with e; exact h.ra e.symm) ?_, World.cell?_setCell_same _ _ _ h2, .inr rfl⟩, ?_, by simpa using h.fz, h.ra, h.rg, h.rB, h.aB, h.gB, by simpa [World.setCell] using h.size⟩, (Chg.refl _ w).grown hg (fun k e => by injection e with e; subst e; exact .inl (.inl rfl))⟩
  · exact .inr (fun e => h.rg e.symm)
  · rw [World.cell?_setCell_other _ _ _ _ (by simp)]
    exact h.c0
/-- What a method hands back, and where the reader stands. -/
def RdM {α : Type} (p : Prs α) (f : α → Value) (B r a : Nat) (g : Option Nat) (q : Option (List UInt8)) (w : World) (e : Ending) (w' : World) : Prop :=
  ∃ x, e = .returned (f x) ∧ RS B r a g (nx p q) w' ∧ Chg (F2 r a) w w' ∧ Is p q x
theorem rdI_any (h : RS B r a g q w) : Calls Try.prog 21 #[.pointer (some ⟨a, 0, none⟩)] w (RdM pI (.int .i64) B r a g q w) := by
  obtain ⟨st, bd, h1, h2, h3⟩ := h.cur
  refine (cint_any a g st w h1).mono ?_
  rintro e w' ⟨rfl, hc, hg⟩
  refine ⟨_, rfl, ?_, chg_a hg, ?_⟩
  · refine h.moved h2 hc hg ?_
    cases q with
    | none => rcases h3 with rfl | rfl; exact .inl rfl; exact .inr rfl
    | some l =>
      obtain ⟨rfl, rfl⟩ := h3
      rw [(pI_nxt l).1]
      cases nx pI (some l) with
      | none => exact .inl rfl
      | some l' => exact ⟨rfl, rfl⟩
  · cases q with
    | none => exact is_none _ _
    | some l => obtain ⟨rfl, rfl⟩ := h3; exact (pI_nxt l).2
theorem rdS_any (h : RS B r a g q w) : Calls Try.prog 73 #[.pointer (some ⟨a, 0, none⟩)] w (RdM pS .string B r a g q w) := by
  obtain ⟨st, bd, h1, h2, h3⟩ := h.cur
  refine (cstr_any a g st w h1).mono ?_
  rintro e w' ⟨rfl, hc, hg⟩
  refine ⟨_, rfl, ?_, chg_a hg, ?_⟩
  · refine h.moved h2 hc hg ?_
    cases q with
    | none => rcases h3 with rfl | rfl; exact .inl rfl; exact .inr rfl
    | some l =>
      obtain ⟨rfl, rfl⟩ := h3
      rw [(pS_nxt l).1]
      cases nx pS (some l) with
      | none => exact .inl rfl
      | some l' => exact ⟨rfl, rfl⟩
  · cases q with
    | none => exact is_none _ _
    | some l => obtain ⟨rfl, rfl⟩ := h3; exact (pS_nxt l).2
theorem rdR_any (h : RS B r a g q w) : Calls Try.prog 74 #[.pointer (some ⟨a, 0, none⟩)] w (RdM pR (.float .f64) B r a g q w) := by
  obtain ⟨st, bd, h1, h2, h3⟩ := h.cur
  refine (creal_any a g st w h1).mono ?_
  rintro e w' ⟨rfl, hc, hg⟩
  refine ⟨_, rfl, ?_, chg_a hg, ?_⟩
  · refine h.moved h2 hc hg ?_
    cases q with
    | none => rcases h3 with rfl | rfl; exact .inl rfl; exact .inr rfl
    | some l =>
      obtain ⟨rfl, rfl⟩ := h3
      rw [(pR_nxt l).1]
      cases nx pR (some l) with
      | none => exact .inl rfl
      | some l' => exact ⟨rfl, rfl⟩
  · cases q with
    | none => exact is_none _ _
    | some l => obtain ⟨rfl, rfl⟩ := h3; exact (pR_nxt l).2
/-- Only r and a changed, twice. -/
theorem chg2 {w1 w2 : World} (h : Chg (F2 r a) w w1) (k : Chg (F2 r a) w1 w2) : Chg (F2 r a) w w2 := h.trans (k.mono fun _ hk => .inl hk)
theorem chg_row {w1 w2 : World} {row : Option Nat} (h : Chg (F2 r a) w w1) (hg : w1.grownBy w2 row) (hr : ∀ k, row = some k → w.heap.size ≤ k) : Chg (F2 r a) w w2 := h.grown hg (fun k e => .inr (hr k e))
theorem RS.f2 (h : RS B r a g q w) {k : Nat} (hk : B ≤ k) : ¬ F2 r a k := fun e => by
  rcases e with e | e
  · have := h.rB; omega
  · have := h.aB; omega
theorem RO.chg {e size n B' : Nat} {v : Value} {xs : List Value} {w0 : World} (h : RO e size B' w v n xs) (hb : B ≤ B') (hs : RS B r a g q w0) (hc : Chg (F2 r a) w w') : RO e size B' w' v n xs :=
  ⟨own_same h.r (fun k hk => hc.block k (h.lt hk) (hs.f2 (Nat.le_trans hb (h.n k hk)))), h.n⟩
end
section
variable {B r a : Nat} {g : Option Nat} {q : Option (List UInt8)} {w : World}
set_option maxHeartbeats 1000000 in
theorem flag_any (h : RS B r a g q w) : Calls Try.prog 50 #[.pointer (some ⟨r, 0, none⟩)] w (RdM pB .bool B r a g q w) := by
  have HI := Lib.hid (rdI_any h)
  have k0 := h.c0
  have HW := Lib.hid (fun x W => within_any x 0 1 W)
  have HWQ : Hid (∀ x : Int, witB x 0 1 = decide (0 ≤ x ∧ x ≤ 1)) := by intro x; unfold witB; simp
  clear h
  go_enter Try.func50, Try.ntmps50
  go_wp2_with fail
  refine HI.out.mono ?_
  rintro e w1 ⟨x, rfl, h1, hc, hi⟩
  have H1 := Lib.hid h1
  have HC := Lib.hid hc
  have HS := Lib.hid hi
  obtain ⟨st, bd, d0, d1, d2⟩ := h1.cur
  have d3 := h1.fz
  clear h1 hc hi d0 d2 k0
  have HQ := Lib.hid (HWQ.out x)
  cases hw : witB x 0 1 with
  | true =>
    have hx : 0 ≤ x ∧ x ≤ 1 := by rw [HQ.out] at hw; simpa using hw
    have HW1 := Lib.hid (fun W => HW.out x W)
    rw [hw] at HW1
    have HX := Lib.hid hx
    clear hw hx
    go_wp2_with fail
    refine (HW1.out _).mono ?_
    rintro e w2 ⟨rfl, rfl⟩
    go_wp2
    go_ret
    refine ⟨decide (x = 1), rfl, ?_, HC.out, ?_⟩
    · unfold pB; rw [(nx_and HS.out).1, if_pos HX.out, nx_ret]; exact H1.out
    · unfold pB; exact is_and HS.out (by rw [if_pos HX.out]; exact is_ret)
  | false =>
    have hx : ¬ (0 ≤ x ∧ x ≤ 1) := by rw [HQ.out] at hw; simpa using hw
    have HW1 := Lib.hid (fun W => HW.out x W)
    rw [hw] at HW1
    have HX := Lib.hid hx
    have HF := Lib.hid H1.out.failed
    clear hw hx
    go_wp2_with fail
    refine (HW1.out _).mono ?_
    rintro e w2 ⟨rfl, rfl⟩
    go_wp2
    go_ret
    refine ⟨decide (x = 1), rfl, ?_, chg2 HC.out HF.out.2, ?_⟩
    · unfold pB; rw [(nx_and HS.out).1, if_neg HX.out, nx_bad]; exact HF.out.1
    · unfold pB; exact is_and HS.out (by rw [if_neg HX.out]; exact is_bad)
end
end Go.Proofs.Ytdhpphbgobakhaa
