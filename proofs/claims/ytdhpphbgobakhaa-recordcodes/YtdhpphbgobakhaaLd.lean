/- What the methods Int, Str and Real of a Cursor of package leb, and Open, do: contracts. Conditions: the cells of the Cursor, and of the bytes that it reads, lie in memory. -/
import Derived.Test.YtdhpphbgobakhaaLc
namespace Go.Proofs.Ytdhpphbgobakhaa
set_option maxRecDepth 100000
set_option linter.unusedVariables false
open Go.ChangeShapes Go.WideShapes Go.ChangeAt Go.RowKit
open Lb
open Fl (S IR nanB normN keyN NaNw cmpK unkN ofB)
open Go.Lib (uvarint zigzag uvarint_small uvarint_big unzigzag)

theorem sizeB (W : World) : (sizeOf (Try.prog.elem 23)).run Try.prog W = .ok 1 W := by
  have h : Try.prog.elem 23 = 5 := by kernel_rfl
  obtain ⟨i0, hi0, hz0, hz1, hz2⟩ := info_parts infoB
  rw [h]
  simp [sizeOf, typeInfo, hi0, hz1]
theorem slice_from (A : Option Addr) (n c s : Nat) (h : s ≤ n) (W : World) :
    (Instr.slice 23 (.slice A n c) (some (.int .i64 (s : Nat))) none none).run Try.prog W = .ok (.slice (fromA A c s) (n - s) (c - s)) W := by
  have ht : Try.prog.underlying 23 = some (.slice (Try.prog.elem 23)) := by kernel_rfl
  rw [run_slice_l W _ A n c ht .i64 s (by omega) (by omega), sizeB]
  simp [sliced, fromA, Result.andThen]
theorem slice_to (A : Option Addr) (n c s : Nat) (h : s ≤ c) (W : World) :
    (Instr.slice 23 (.slice A n c) none (some (.int .i64 (s : Nat))) none).run Try.prog W = .ok (.slice A s c) W := by
  have ht : Try.prog.underlying 23 = some (.slice (Try.prog.elem 23)) := by kernel_rfl
  rw [run_slice_h W _ A n c ht .i64 s (by omega) (by omega), sizeB]
  simp [sliced, Result.andThen]
  cases A <;> simp [Addr.add]
theorem nxtI_none {l : List UInt8} (h : dv 0 l = none) : nxtI (some l) = none ∧ resI (some l) = 0 := by simp [nxtI, resI, h]
theorem nxtI_some {l : List UInt8} {z s : Nat} (h : dv 0 l = some (z, s)) : nxtI (some l) = some (l.drop s) ∧ resI (some l) = unzigzag z := by simp [nxtI, resI, h]
theorem dv_size {l : List UInt8} {z s : Nat} (h : dv 0 l = some (z, s)) : 1 ≤ s ∧ s ≤ l.length ∧ z < M := by
  obtain ⟨h1, _, h3, h4⟩ := dv_some l 0 z s (by omega) h
  have := Lib.uvarint_pos z
  have e := congrArg List.length h4
  rw [List.length_append, List.length_drop] at e
  exact ⟨by omega, by omega, h1⟩
theorem moves_same {a : Nat} {g : Option Nat} {w : World} {v : Value} {st : Option (List UInt8)} (h : Cur w a g st) : Moves a g w v st (.returned v) w := ⟨rfl, h, World.grownBy.refl _ _⟩

theorem cur_step {w : World} {a : Nat} {g : Option Nat} {l : List UInt8} {A : Option Addr} {c s : Nat} (h : Cur w a g (some l)) (hb : BS w A l c) (hA : Lies A l g) (hs : s ≤ l.length) (hl : l.length ≤ 1000000) :
    Cur (w.setCell ⟨a, 0, none⟩ (.slice (fromA A c s) (l.length - s) (c - s))) a g (some (l.drop s)) := by
  have := h.step (hb.drop s hs) (fromA_block (p := fun b => l.drop s = [] ∨ some b = g) fun ad e => (hA ad e).imp_left fun h => by rw [h]; simp) (by simp; omega)
  rw [List.length_drop] at this
  exact this
theorem cint_any (a : Nat) (g : Option Nat) (st : Option (List UInt8)) (w : World) (h : Cur w a g st) :
    Calls Try.prog 21 #[.pointer (some ⟨a, 0, none⟩)] w (Moves a g w (.int .i64 (resI st)) (nxtI st)) := by
  have H := Lib.hid h
  obtain ⟨h1, h2, h3, h4, h5⟩ := h
  cases st with
  | none =>
    obtain ⟨k1, k2⟩ := h5
    go_enter Try.func21, Try.ntmps21
    go_wp2_with fail
    refine (good_any a g _ _ H.out).mono ?_
    rintro e w' ⟨rfl, rfl⟩
    go_wp2
    go_ret
    exact moves_same H.out
  | some l =>
    obtain ⟨A, c, k1, k2, k3, k4, k5⟩ := h5
    have K3 := Lib.hid k3
    have K4 := Lib.hid k4
    have HV := Lib.hid (varint_any A l c w k3 (by omega))
    clear k3 k4
    cases hd : dv 0 l with
    | none =>
      have Hn := Lib.hid (nxtI_none hd)
      rw [hd] at HV
      clear hd
      go_enter Try.func21, Try.ntmps21
      go_wp2_with fail
      refine (good_any a g _ _ H.out).mono ?_
      rintro e w' ⟨rfl, rfl⟩
      go_wp2_with fail
      refine HV.out.mono ?_
      rintro e w' ⟨rfl, rfl⟩
      go_wp2_with fail
      refine (fail_any a g _ _ H.out).mono ?_
      rintro e w' ⟨rfl, hc, hg⟩
      go_wp2
      go_ret
      rw [Hn.out.1, Hn.out.2]
      exact ⟨rfl, hc, hg⟩
    | some p =>
      obtain ⟨z, s⟩ := p
      obtain ⟨s1, s2, hz⟩ := dv_size hd
      have Hz := Lib.hid hz
      have Hn := Lib.hid (nxtI_some hd)
      rw [hd] at HV
      clear hd hz
      have hsl := slice_from A l.length c s s2
      have hs0 : ((s : Int) == 0) = false := by simp; omega
      go_enter Try.func21, Try.ntmps21
      go_wp2_with fail
      refine (good_any a g _ _ H.out).mono ?_
      rintro e w' ⟨rfl, rfl⟩
      go_wp2_with fail
      refine HV.out.mono ?_
      rintro e w' ⟨rfl, rfl⟩
      have Hst := Lib.hid (cur_step H.out K3.out K4.out s2 k5)
      go_wp2_with fail
      refine (unfolded_any z Hz.out _).mono ?_
      rintro e w' ⟨rfl, rfl⟩
      go_wp2_with fail
      go_ret
      rw [Hn.out.1, Hn.out.2]
      exact ⟨rfl, Hst.out, grown_set _ _ _ _⟩
theorem cint_nil (w : World) : Calls Try.prog 21 #[.pointer none] w fun e w' => e = .returned (.int .i64 0) ∧ w = w' := by
  go_enter Try.func21, Try.ntmps21
  go_wp2_with fail
  refine (good_nil _).mono ?_
  rintro e w' ⟨rfl, rfl⟩
  go_wp2
  go_ret
  exact ⟨rfl, rfl⟩
theorem cstr_any (a : Nat) (g : Option Nat) (st : Option (List UInt8)) (w : World) (h : Cur w a g st) :
    Calls Try.prog 73 #[.pointer (some ⟨a, 0, none⟩)] w (Moves a g w (.string (bstr (resS st))) (nxtS st)) := by
  have H := Lib.hid (cint_any a g st w h)
  clear h
  cases hn : nxtI st with
  | none =>
    rw [hn] at H
    have Hn := Lib.hid (show nxtS st = none ∧ resS st = [] by simp [nxtS, resS, hn])
    clear hn
    go_enter Try.func73, Try.ntmps73
    go_wp2_with fail
    refine H.out.mono ?_
    rintro e w1 ⟨rfl, hc1, hg1⟩
    have HC := Lib.hid hc1
    clear hc1
    go_wp2_with fail
    refine (good_any a g _ _ HC.out).mono ?_
    rintro e w' ⟨rfl, rfl⟩
    go_wp2
    go_ret
    rw [Hn.out.1, Hn.out.2]
    exact ⟨rfl, HC.out, hg1⟩
  | some l =>
    rw [hn] at H
    have Hn := Lib.hid hn
    clear hn
    obtain ⟨n, hrn⟩ : ∃ n : Int, resI st = n := ⟨_, rfl⟩
    rw [hrn] at H
    by_cases hf : 0 ≤ n ∧ n ≤ (l.length : Int)
    · obtain ⟨m, rfl⟩ : ∃ m : Nat, n = m := ⟨n.toNat, by omega⟩
      have hm : m ≤ l.length := by omega
      have HN := Lib.hid (show nxtS st = some (l.drop m) ∧ resS st = l.take m by
        have hff : fits (m : Int) l = true := by simp [fits]; omega
        unfold nxtS resS
        rw [Hn.out, hrn]
        simp [hff])
      clear hrn hf
      go_enter Try.func73, Try.ntmps73
      go_wp2_with fail
      refine H.out.mono ?_
      rintro e w1 ⟨rfl, hc1, hg1⟩
      have HC := Lib.hid hc1
      obtain ⟨h1, h2, h3, h4, A, c, k1, k2, k3, k4, k5⟩ := hc1
      have K3 := Lib.hid k3
      have K4 := Lib.hid k4
      have hcap := k3.cap
      have hcv := (k3.take m).conv m (by simp; omega)
      have Hst := Lib.hid (cur_step HC.out k3 k4 hm k5)
      have hsl := slice_from A l.length c m hm
      have hst := slice_to A l.length c m (by omega)
      clear k3 k4
      go_wp2_with fail
      refine (good_any a g _ _ HC.out).mono ?_
      rintro e w' ⟨rfl, rfl⟩
      go_wp2_with fail
      go_ret
      rw [HN.out.1, HN.out.2]
      exact ⟨rfl, Hst.out, only_trans hg1 (grown_set _ _ _ _)⟩
    · have HN := Lib.hid (show nxtS st = none ∧ resS st = [] by
        have hff : fits n l = false := by simp [fits]; omega
        unfold nxtS resS
        rw [Hn.out, hrn]
        simp [hff])
      clear hrn
      have hf2 : n < 0 ∨ (0 ≤ n ∧ (l.length : Int) < n) := by omega
      clear hf
      rcases hf2 with hf2 | ⟨hf2, hf3⟩
      all_goals
        go_enter Try.func73, Try.ntmps73
        go_wp2_with fail
        refine H.out.mono ?_
        rintro e w1 ⟨rfl, hc1, hg1⟩
        have HC := Lib.hid hc1
        obtain ⟨h1, h2, h3, h4, A, c, k1, k2, k3, k4, k5⟩ := hc1
        clear k3 k4
        go_wp2_with fail
        refine (good_any a g _ _ HC.out).mono ?_
        rintro e w' ⟨rfl, rfl⟩
        go_wp2_with fail
        refine (fail_any a g _ _ HC.out).mono ?_
        rintro e w' ⟨rfl, hc, hg⟩
        go_wp2
        go_ret
        rw [HN.out.1, HN.out.2]
        exact ⟨rfl, hc, only_trans hg1 hg⟩
theorem cstr_nil (w : World) : Calls Try.prog 73 #[.pointer none] w fun e w' => e = .returned (.string (bstr [])) ∧ w = w' := by
  go_enter Try.func73, Try.ntmps73
  go_wp2_with fail
  refine (cint_nil _).mono ?_
  rintro e w' ⟨rfl, rfl⟩
  go_wp2_with fail
  refine (good_nil _).mono ?_
  rintro e w' ⟨rfl, rfl⟩
  go_wp2
  go_ret
  exact ⟨rfl, rfl⟩
theorem creal_any (a : Nat) (g : Option Nat) (st : Option (List UInt8)) (w : World) (h : Cur w a g st) :
    Calls Try.prog 74 #[.pointer (some ⟨a, 0, none⟩)] w (Moves a g w (.float .f64 (resR st)) (nxtR st)) := by
  have H := Lib.hid h
  obtain ⟨h1, h2, h3, h4, h5⟩ := h
  cases st with
  | none =>
    obtain ⟨k1, k2⟩ := h5
    go_enter Try.func74, Try.ntmps74
    go_wp2_with fail
    refine (good_any a g _ _ H.out).mono ?_
    rintro e w' ⟨rfl, rfl⟩
    go_wp2
    go_ret
    exact moves_same H.out
  | some l =>
    obtain ⟨A, c, k1, k2, k3, k4, k5⟩ := h5
    have K3 := Lib.hid k3
    have K4 := Lib.hid k4
    have hcap := k3.cap
    clear k3 k4
    by_cases h8 : l.length < 8
    · have Hn := Lib.hid (show nxtR (some l) = none ∧ resR (some l) = 0 by
        have : okR l = false := by simp [okR]; omega
        simp [nxtR, resR, this])
      go_enter Try.func74, Try.ntmps74
      go_wp2_with fail
      refine (good_any a g _ _ H.out).mono ?_
      rintro e w' ⟨rfl, rfl⟩
      go_wp2_with fail
      refine (fail_any a g _ _ H.out).mono ?_
      rintro e w' ⟨rfl, hc, hg⟩
      go_wp2
      go_ret
      rw [Hn.out.1, Hn.out.2]
      exact ⟨rfl, hc, hg⟩
    · have h8' : 8 ≤ l.length := by omega
      have Hl8 := Lib.hid (show (l.take 8).length = 8 by simp; omega)
      have HK := Lib.hid (key_bytes A (l.take 8) c w (K3.out.take 8) Hl8.out)
      have hbe := be_lt8 (l.take 8) Hl8.out
      have HO := Lib.hid (of_any (be (l.take 8)) hbe w)
      have hsl := slice_from A l.length c 8 h8'
      have hst := slice_to A l.length c 8 (by omega)
      have e8 : ((8 : Nat) : Int) = 8 := rfl
      rw [e8] at hsl hst
      clear hbe e8 h8
      cases ho : ofB (be (l.take 8)) with
      | false =>
        have Hn := Lib.hid (show nxtR (some l) = none ∧ resR (some l) = 0 by
          have : okR l = false := by simp [okR, ho]
          simp [nxtR, resR, this])
        rw [ho, ofF_no _ ho] at HO
        clear ho
        go_enter Try.func74, Try.ntmps74
        go_wp2_with fail
        refine (good_any a g _ _ H.out).mono ?_
        rintro e w' ⟨rfl, rfl⟩
        go_wp2_with fail
        refine HK.out.mono ?_
        rintro e w' ⟨rfl, rfl⟩
        go_wp2_with fail
        refine HO.out.mono ?_
        rintro e w' ⟨rfl, rfl⟩
        go_wp2_with fail
        refine (fail_any a g _ _ H.out).mono ?_
        rintro e w' ⟨rfl, hc, hg⟩
        go_wp2
        go_ret
        rw [Hn.out.1, Hn.out.2]
        exact ⟨rfl, hc, hg⟩
      | true =>
        have Hn := Lib.hid (show nxtR (some l) = some (l.drop 8) ∧ resR (some l) = unkN (be (l.take 8)) by
          have : okR l = true := by simp [okR, ho]; omega
          simp [nxtR, resR, this])
        rw [ho, ofF_yes _ ho] at HO
        clear ho
        have Hst := Lib.hid (cur_step H.out K3.out K4.out h8' k5)
        go_enter Try.func74, Try.ntmps74
        go_wp2_with fail
        refine (good_any a g _ _ H.out).mono ?_
        rintro e w' ⟨rfl, rfl⟩
        go_wp2_with fail
        refine HK.out.mono ?_
        rintro e w' ⟨rfl, rfl⟩
        go_wp2_with fail
        refine HO.out.mono ?_
        rintro e w' ⟨rfl, rfl⟩
        go_wp2_with fail
        go_ret
        rw [Hn.out.1, Hn.out.2]
        exact ⟨rfl, Hst.out, grown_set _ _ _ _⟩
theorem creal_nil (w : World) : Calls Try.prog 74 #[.pointer none] w fun e w' => e = .returned (.float .f64 0) ∧ w = w' := by
  go_enter Try.func74, Try.ntmps74
  go_wp2_with fail
  refine (good_nil _).mono ?_
  rintro e w' ⟨rfl, rfl⟩
  go_wp2
  go_ret
  exact ⟨rfl, rfl⟩
/-- A new Cursor. -/
def Opens (l : List UInt8) (w : World) (e : Ending) (w' : World) : Prop := ∃ (a : Nat) (g : Option Nat), e = .returned (.pointer (some ⟨a, 0, none⟩)) ∧ Cur w' a g (some l) ∧ Below w.heap.size w w' ∧ w.heap.size ≤ a ∧ ∀ k, g = some k → w.heap.size ≤ k ∧ k < a
theorem cur_new {w : World} {A : Option Addr} {l : List UInt8} {c : Nat} (t : TypeId) (g : Option Nat) (hb : BS w A l c) (hA : Lies A l g) (hg : some w.heap.size ≠ g) (hl : l.length ≤ 1000000) :
    Cur (w.alloc (.cells #[.slice A l.length c, .bool false] t)) w.heap.size g (some l) := by
  have hbl := (Below.refl w.heap.size w).alloc (Nat.le_refl _) (.cells #[.slice A l.length c, .bool false] t)
  have hcell : ∀ k, (w.alloc (.cells #[.slice A l.length c, .bool false] t)).cell? ⟨w.heap.size, k, none⟩ = #[.slice A l.length c, .bool false][k]? := fun k => cell_of_row _ _ k _ t (0, 0) (heap_alloc_new w _)
  have hfr : ∀ k, (w.alloc (.cells #[.slice A l.length c, .bool false] t)).frozen? ⟨w.heap.size, k, none⟩ = false := fun k => by
    unfold World.frozen?
    rw [heap_alloc_new w _]
    simp
  exact ⟨by simp, hg, hfr 0, hfr 1, A, c, hcell 0, hcell 1, hb.below hbl, hA, hl⟩
theorem open_any (A : Option Addr) (l : List UInt8) (c : Nat) (w : World) (h : BS w A l c) (hl : l.length ≤ 1000000) :
    Calls Try.prog 20 #[.slice A l.length c] w (Opens l w) := by
  go_enter Try.func20, Try.ntmps20
  go_wp2_with fail
  refine (copied_any A l c w h (by omega)).mono ?_
  rintro e w1 ⟨v, rfl, hown, hbel⟩
  obtain ⟨A1, c1, rfl, hbs, hA⟩ := hown.open
  have HA := Lib.hid hA
  clear hA h hown
  go_wp2_with fail
  go_ret
  have hsz := hbel.size
  refine ⟨w1.heap.size, A1.map (·.block), rfl, ?_, hbel.alloc hsz _, hsz, fun k hk => ?_⟩
  · refine cur_new _ _ hbs (fun ad e => .inr (by rw [e]; rfl)) ?_ hl
    intro e
    cases A1 with
    | none => cases e
    | some ad =>
      have := (HA.out ad rfl).2.2
      simp at e
      omega
  · cases A1 with
    | none => cases hk
    | some ad =>
      have := (HA.out ad rfl).2
      simp at hk
      omega
end Go.Proofs.Ytdhpphbgobakhaa
