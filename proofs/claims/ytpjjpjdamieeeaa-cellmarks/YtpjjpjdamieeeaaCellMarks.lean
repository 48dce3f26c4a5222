/- Proved: ligaturelaw7.CellMarks returns true for every two ints. No condition. -/
import Derived.Test.YtpjjpjdamieeeaaRows
import Derived.Test.YtpjjpjdamieeeaaPj
import Derived.Test.YtpjjpjdamieeeaaKx
import Derived.WalkKit
import Derived.ProofKit
import Derived.OpenShut
import Derived.ShutString
import Derived.ChangeOld
import Derived.Below
namespace Go.Proofs.Ytpjjpjdamieeeaa.cellMarks
set_option maxRecDepth 100000
open Go.ChangeShapes Go.WideShapes Go.ChangeAt Go.RowKit
open Go.ChangeMaps (open_string shut_string)
set_option linter.unusedVariables false
theorem own : ownKnob Try.prog.godebug = none := by kernel_rfl
theorem laidOut : laidOutB Try.prog = true := by kernel_rfl
theorem new_write {c : Ck} (hf : ¬ 4 ≤ c.cnt) (l : List (Ver Int)) (hl : ∀ x ∈ l, c.has x.w = true ∧ (c.tx x.w).live = false ∧ (c.tx x.w).com ≤ c.n) (v : Int) :
    Ver.chk c.beg ((c.l.length : Int) + 1) l = 0 ∧ Ver.wrS c.beg ((c.l.length : Int) + 1) v false l = l ++ [⟨(c.l.length : Int) + 1, v, false⟩] := by
  obtain ⟨n1, n2⟩ := Ck.beg_new hf
  rw [show ((c.l.length + 1 : Nat) : Int) = (c.l.length : Int) + 1 by omega] at n1 n2
  have hne : ∀ x ∈ l, x.w ≠ (c.l.length : Int) + 1 := fun x hx e => by
    have := Ck.has_iff.1 (hl x hx).1
    omega
  have h0 : Ver.chk c.beg ((c.l.length : Int) + 1) l = 0 := by
    unfold Ver.chk
    cases hg : l.getLast? with
    | none => rfl
    | some x =>
      have hx : x ∈ l := List.mem_of_getLast? hg
      obtain ⟨q1, q2, q3⟩ := hl x hx
      have : c.beg.clashes ((c.l.length : Int) + 1) x.w = false := by
        unfold Ck.clashes
        rw [n1, n2, Ck.beg_has q1, Ck.beg_tx q1, q2, decide_eq_false (show ¬ c.n < (c.tx x.w).com by omega)]
        simp
      simp [this]
  refine ⟨h0, ?_⟩
  unfold Ver.wrS
  rw [if_pos h0]
  unfold Ver.put
  cases hg : l.getLast? with
  | none =>
    rw [List.getLast?_eq_none_iff] at hg
    subst hg; rfl
  | some x =>
    simp only
    rw [if_neg (hne x (List.mem_of_getLast? hg))]
def mkL (k i : Nat) : List (Ver Int) := (List.range i).map fun j => ⟨num k j, (j : Int) + 100, false⟩
theorem mkL_len (k i : Nat) : (mkL k i).length = i := by simp [mkL]
theorem mkL_get (k i j : Nat) (h : j < (mkL k i).length) : (mkL k i)[j] = ⟨num k j, (j : Int) + 100, false⟩ := by simp [mkL]
theorem mkL_succ (k i : Nat) : mkL k (i + 1) = mkL k i ++ [⟨num k i, (i : Int) + 100, false⟩] := by unfold mkL; rw [List.range_succ, List.map_append]; rfl
theorem mkL_mem {k i : Nat} {x : Ver Int} (h : x ∈ mkL k i) : ∃ q, q < i ∧ x.w = num k q := by
  unfold mkL at h
  obtain ⟨q, hq, rfl⟩ := List.mem_map.1 h
  exact ⟨q, List.mem_range.1 hq, rfl⟩
theorem O1_num {k i : Nat} (hk : i ≤ k) {q : Nat} (hq : q < i) : (O1 i).has (num k q) = true ∧ (O1 i).tx (num k q) = ⟨q, q + 1, false⟩ := by
  unfold num
  rw [if_pos (by omega)]
  constructor
  · rw [Ck.has_iff, O1_len]; omega
  · unfold Ck.tx O1
    rw [List.getD]
    simp only
    rw [show ((q : Int) + 1).toNat - 1 = q by omega, prE_get 0 i q hq]
    simp
theorem mk_w1 {k i : Nat} (hk : i < k) : Ver.chk (O1 i).beg ((i : Int) + 1) (mkL k i) = 0 ∧ Ver.wrS (O1 i).beg ((i : Int) + 1) ((i : Int) + 100) false (mkL k i) = mkL k (i + 1) := by
  have h := new_write (O1_cnt i) (mkL k i) (fun x hx => by
    obtain ⟨q, hq, e⟩ := mkL_mem hx
    obtain ⟨a, b⟩ := O1_num (k := k) (by omega) hq
    rw [e, a, b]
    exact ⟨rfl, rfl, hq⟩) ((i : Int) + 100)
  rw [O1_len] at h
  refine ⟨h.1, h.2.trans ?_⟩
  rw [mkL_succ, show num k i = (i : Int) + 1 by unfold num; rw [if_pos hk]]
theorem mk_w2 {k i : Nat} (hk : k ≤ i) : Ver.chk (O2 k i).beg ((i : Int) + 2) (mkL k i) = 0 ∧ Ver.wrS (O2 k i).beg ((i : Int) + 2) ((i : Int) + 100) false (mkL k i) = mkL k (i + 1) := by
  have h := new_write (O2_cnt k i) (mkL k i) (fun x hx => by
    obtain ⟨q, hq, e⟩ := mkL_mem hx
    obtain ⟨a, b⟩ := O2_num hk hq
    rw [e, a, b]
    exact ⟨rfl, rfl, hq⟩) ((i : Int) + 100)
  rw [O2_len k i hk, show ((i + 1 : Nat) : Int) + 1 = (i : Int) + 2 by omega] at h
  refine ⟨h.1, h.2.trans ?_⟩
  rw [mkL_succ, show num k i = (i : Int) + 2 by unfold num; rw [if_neg (by omega)]]
theorem mk_read {k n : Nat} (hk : k ≤ n) : Ver.rdX (O2 k n) ((k : Int) + 1) (mkL k n) = if k = 0 then none else some ⟨num k (k - 1), ((k - 1 : Nat) : Int) + 100, false⟩ := by
  by_cases h0 : k = 0
  · rw [if_pos h0]
    refine rd_none (fun j hj => ?_)
    rw [mkL_get, O2_sees hk (by rw [mkL_len] at hj; exact hj)]
    exact decide_eq_false (by omega)
  · rw [if_neg h0]
    have hlt : k - 1 < (mkL k n).length := by rw [mkL_len]; omega
    have := rd_at (c := O2 k n) (t := (k : Int) + 1) hlt (by rw [mkL_get, O2_sees hk (by omega)]; exact decide_eq_true (by omega)) (fun j hj hlt => by
      rw [mkL_get, O2_sees hk (by rw [mkL_len] at hj; exact hj)]
      exact decide_eq_false (by omega))
    rw [this, mkL_get]
theorem mk_chk {k n : Nat} (hk : k ≤ n) (hn : 1 ≤ n) : Ver.chk (O2 k n) ((k : Int) + 1) (mkL k n) = if k = n then 0 else 6 := by
  unfold Ver.chk
  have hlt : n - 1 < (mkL k n).length := by rw [mkL_len]; omega
  rw [List.getLast?_eq_getElem?, mkL_len, List.getElem?_eq_getElem hlt, mkL_get]
  simp only
  rw [O2_clashes hk (by omega)]
  by_cases h : k = n
  · rw [if_pos h, decide_eq_false (by omega)]; rfl
  · rw [if_neg h, decide_eq_true (by omega)]; rfl

set_option maxHeartbeats 4000000 in
theorem walk (a0 : Int) (a1 : Int) (w : World) (w0 : (Lit.int .i64 a0).wf = true) (w1 : (Lit.int .i64 a1).wf = true) :
    Calls Try.prog 8 #[.int .i64 a0, .int .i64 a1] w fun e w' => e = .returned (.bool true) ∧ Below w.heap.size w w' := by
  by_cases hbad : a0 < 1 ∨ 20 < a0 ∨ a1 < 0 ∨ a0 < a1
  · rcases (show a0 < 1 ∨ (1 ≤ a0 ∧ 20 < a0) ∨ (1 ≤ a0 ∧ a0 ≤ 20 ∧ a1 < 0) ∨ (1 ≤ a0 ∧ a0 ≤ 20 ∧ 0 ≤ a1 ∧ a0 < a1) by omega) with q | ⟨q, q'⟩ | ⟨q, q', q''⟩ | ⟨q, q', q'', q3⟩
    all_goals (
      clear hbad
      go_enter Try.func8, Try.ntmps8
      go_wp2
      go_ret
      exact ⟨rfl, Below.refl _ _⟩)
  · obtain ⟨n, rfl⟩ : ∃ n : Nat, a0 = n := ⟨a0.toNat, by omega⟩
    obtain ⟨k, rfl⟩ : ∃ k : Nat, a1 = k := ⟨a1.toNat, by omega⟩
    have hn1 : 1 ≤ n := by omega
    have hn20 : n ≤ 20 := by omega
    have hkn : k ≤ n := by omega
    clear hbad
    have HN := Lib.hid (new_any w)
    have DK := Lib.hid known7_any
    go_enter Try.func8, Try.ntmps8
    go_wp2_with fail
    (with_reducible refine HN.out.mono ?_)
    rintro e w1 ⟨rfl, h1, hb1⟩
    have HN2 := Lib.hid (cnew_any w1)
    have HP := Lib.hid h1
    have HB1 := Lib.hid hb1
    clear h1 hb1 HN
    go_wp2_with (go_at_call 34; (with_reducible refine HN2.out.mono ?_); rintro e w2 ⟨rfl, h2, hb2⟩; have H0 : Hid (Two noG w w2 w.heap.size w1.heap.size (O1 0) (mkL k 0)) := two_new (G := noG) (Below.refl w.heap.size w) HP.out HB1.out h2 hb2 (fun k hk => hk.elim); clear h2 hb2)
    clear HN2 HP HB1
    obtain ⟨aa, haa⟩ : ∃ aa, aa = w.heap.size := ⟨_, rfl⟩
    obtain ⟨xx, hxx⟩ : ∃ xx, xx = w1.heap.size := ⟨_, rfl⟩
    rw [← haa, ← hxx] at H0
    rw [← haa, ← hxx]
    clear haa hxx
    go_loopw [7, 8, 9, 10] (fun r i _ _ wr => ∃ j : Nat, j ≤ n ∧ i = .int .i64 (j : Nat) ∧ ((j ≤ k ∧ r = .int .i64 0 ∧ Hid (Two noG w wr aa xx (O1 j) (mkL k j))) ∨ (k < j ∧ r = .int .i64 ((k : Int) + 1) ∧ Hid (Two noG w wr aa xx (O2 k j) (mkL k j))))) (fun _ i _ _ _ => n - (intOf i).toNat)
    case atStart => exact ⟨0, Nat.zero_le _, rfl, .inl ⟨Nat.zero_le _, rfl, H0.out⟩⟩
    case round =>
      obtain ⟨j, hj, rfl, hrel⟩ := hrel
      clear H0
      by_cases hlt : j < n
      · have HLL : Hid ((mkL k j).length ≤ 20) := by simp only [Hid]; rw [mkL_len]; omega
        rcases hrel with ⟨hjk, rfl, HS⟩ | ⟨hjk, rfl, HS⟩
        · by_cases hjk2 : j < k
          · have hne : ((j : Int) == (k : Int)) = false := by rw [beq_eq_false_iff_ne]; omega
            obtain ⟨o1, o2, o3, o4⟩ := O1_next j
            have C1 := two_begin HS.out (by rw [O1_len]; omega)
            rw [o3, o4] at C1
            have C1 := Lib.hid C1
            obtain ⟨p1, p2⟩ := mk_w1 hjk2
            have C2 := fun W (h : Two noG w W aa xx (O1 j).beg (mkL k j)) => two_write h ((j : Int) + 1) ((j : Int) + 100) false (by have := HLL.out; omega)
            rw [p1, p2] at C2
            have C2 := Lib.hid C2
            have C3 := fun W (h : Two noG w W aa xx (O1 j).beg (mkL k (j + 1))) => two_commit h ((j : Int) + 1) (by rw [show (O1 j).beg.n = j by unfold Ck.beg; split <;> rfl]; omega) (by rw [Ck.beg_len, O1_len]; split <;> omega)
            rw [o1, o2] at C3
            have C3 := Lib.hid C3
            clear o1 o2 o3 o4 p1 p2
            go_wp2_with (first
              | (go_at_call 22; (with_reducible refine C1.out.mono ?_); rintro e w2 ⟨rfl, h2, _⟩; have H2 := Lib.hid h2; clear h2)
              | (go_at_call 23; (with_reducible refine (C2.out _ H2.out).mono ?_); rintro e w3 ⟨rfl, h3, _⟩; have H3 := Lib.hid h3; clear h3)
              | (go_at_call 24; (with_reducible refine (C3.out _ H3.out).mono ?_); rintro e w4 ⟨rfl, h4, _⟩; have H4 := Lib.hid h4; clear h4))
            exact ⟨⟨j + 1, by omega, by go_num, .inl ⟨by omega, rfl, H4.out⟩⟩, by simp [intOf]; omega⟩
          · obtain rfl : j = k := by omega
            obtain ⟨_, _, q3, q4⟩ := O1_next j
            obtain ⟨o1, o2, o3, o4⟩ := O2_next j j (Nat.le_refl _)
            have C0 := two_begin HS.out (by rw [O1_len]; omega)
            rw [q3, q4, O1_beg] at C0
            have C0 := Lib.hid C0
            have C1 := fun W (h : Two noG w W aa xx (O2 j j) (mkL j j)) => two_begin h (by rw [O2_len _ _ (Nat.le_refl _)]; omega)
            rw [o3, o4] at C1
            have C1 := Lib.hid C1
            obtain ⟨p1, p2⟩ := mk_w2 (Nat.le_refl j)
            have C2 := fun W (h : Two noG w W aa xx (O2 j j).beg (mkL j j)) => two_write h ((j : Int) + 2) ((j : Int) + 100) false (by have := HLL.out; omega)
            rw [p1, p2] at C2
            have C2 := Lib.hid C2
            have C3 := fun W (h : Two noG w W aa xx (O2 j j).beg (mkL j (j + 1))) => two_commit h ((j : Int) + 2) (by rw [show (O2 j j).beg.n = j by unfold Ck.beg; split <;> rfl]; omega) (by rw [Ck.beg_len, O2_len _ _ (Nat.le_refl _)]; split <;> omega)
            rw [o1, o2] at C3
            have C3 := Lib.hid C3
            clear o1 o2 o3 o4 p1 p2 q3 q4 hjk hjk2
            go_wp2_with (first
              | (go_at_call 22; (with_reducible refine (C1.out _ H1.out).mono ?_); rintro e w2 ⟨rfl, h2, _⟩; have H2 := Lib.hid h2; clear h2)
              | (go_at_call 22; (with_reducible refine C0.out.mono ?_); rintro e w5 ⟨rfl, h1, _⟩; have H1 := Lib.hid h1; clear h1)
              | (go_at_call 23; (with_reducible refine (C2.out _ H2.out).mono ?_); rintro e w3 ⟨rfl, h3, _⟩; have H3 := Lib.hid h3; clear h3)
              | (go_at_call 24; (with_reducible refine (C3.out _ H3.out).mono ?_); rintro e w4 ⟨rfl, h4, _⟩; have H4 := Lib.hid h4; clear h4))
            exact ⟨⟨j + 1, by omega, by go_num, .inr ⟨by omega, rfl, H4.out⟩⟩, by simp [intOf]; omega⟩
        · have hne : ((j : Int) == (k : Int)) = false := by rw [beq_eq_false_iff_ne]; omega
          obtain ⟨o1, o2, o3, o4⟩ := O2_next k j (by omega)
          have C1 := two_begin HS.out (by rw [O2_len _ _ (by omega)]; omega)
          rw [o3, o4] at C1
          have C1 := Lib.hid C1
          obtain ⟨p1, p2⟩ := mk_w2 (show k ≤ j by omega)
          have C2 := fun W (h : Two noG w W aa xx (O2 k j).beg (mkL k j)) => two_write h ((j : Int) + 2) ((j : Int) + 100) false (by have := HLL.out; omega)
          rw [p1, p2] at C2
          have C2 := Lib.hid C2
          have C3 := fun W (h : Two noG w W aa xx (O2 k j).beg (mkL k (j + 1))) => two_commit h ((j : Int) + 2) (by rw [show (O2 k j).beg.n = j by unfold Ck.beg; split <;> rfl]; omega) (by rw [Ck.beg_len, O2_len _ _ (by omega)]; split <;> omega)
          rw [o1, o2] at C3
          have C3 := Lib.hid C3
          clear o1 o2 o3 o4 p1 p2
          go_wp2_with (first
            | (go_at_call 22; (with_reducible refine C1.out.mono ?_); rintro e w2 ⟨rfl, h2, _⟩; have H2 := Lib.hid h2; clear h2)
            | (go_at_call 23; (with_reducible refine (C2.out _ H2.out).mono ?_); rintro e w3 ⟨rfl, h3, _⟩; have H3 := Lib.hid h3; clear h3)
            | (go_at_call 24; (with_reducible refine (C3.out _ H3.out).mono ?_); rintro e w4 ⟨rfl, h4, _⟩; have H4 := Lib.hid h4; clear h4))
          exact ⟨⟨j + 1, by omega, by go_num, .inr ⟨by omega, rfl, H4.out⟩⟩, by simp [intOf]; omega⟩
      · obtain rfl : j = n := by omega
        have R := fun W (h : Two noG w W aa xx (O2 k j) (mkL k j)) => two_read h ((k : Int) + 1)
        rw [mk_read hkn] at R
        have CH := fun W (h : Two noG w W aa xx (O2 k j) (mkL k j)) => two_check h ((k : Int) + 1)
        rw [mk_chk hkn hn1] at CH
        rcases hrel with ⟨hjk, rfl, HS⟩ | ⟨hjk, rfl, HS⟩
        · obtain rfl : j = k := by omega
          obtain ⟨_, _, q3, q4⟩ := O1_next j
          have C0 := two_begin HS.out (by rw [O1_len]; omega)
          rw [q3, q4, O1_beg] at C0
          have C0 := Lib.hid C0
          have hj0 : ¬ j = 0 := by omega
          have hj1 : ((j : Int) == 0) = false := by rw [beq_eq_false_iff_ne]; omega
          have hjv : (((j - 1 : Nat) : Int) + 100 == (j : Int) + 99) = true := by rw [beq_iff_eq]; omega
          rw [if_neg hj0] at R
          rw [if_pos rfl] at CH
          have R := Lib.hid R
          have CH := Lib.hid CH
          simp only [Ver.rdV, Ver.rdB, Bool.not_false] at R
          clear q3 q4 hj0
          go_wp2_with (first
            | (go_at_call 22; (with_reducible refine C0.out.mono ?_); rintro e w5 ⟨rfl, h1, _⟩; have H1 := Lib.hid h1; clear h1)
            | (go_at_call 16; (with_reducible refine (R.out _ H1.out).mono ?_); rintro e w6 ⟨rfl, h2, _⟩; have H2 := Lib.hid h2; clear h2)
            | (go_at_call 17; (with_reducible refine (CH.out _ H2.out).mono ?_); rintro e w7 ⟨rfl, h3, _⟩; have H3 := Lib.hid h3; clear h3)
            | (go_at_call 14; (with_reducible refine (DK.out _).mono ?_); rintro e w9 ⟨rfl, hb9⟩; have H9 := Lib.hid ((H3.out.below hb9).1); clear hb9))
          go_ret
          exact ⟨rfl, H9.out.all⟩
        · have hne : ((k : Int) == (j : Int)) = false := by rw [beq_eq_false_iff_ne]; omega
          rw [if_neg (show ¬ k = j by omega)] at CH
          by_cases hk0 : k = 0
          · subst hk0
            rw [if_pos rfl] at R
            have R : Hid (∀ W, Two noG w W aa xx (O2 0 j) (mkL 0 j) → Calls Try.prog 16 #[.pointer (some ⟨xx, 0, none⟩), .pointer (some ⟨aa, 0, none⟩), .int .i64 1] W (fun e w' => e = .returned (.tuple #[.int .i64 0, .bool false]) ∧ Two noG w w' aa xx (O2 0 j) (mkL 0 j) ∧ Keep noG W w')) := R
            go_wp2_with (first
              | (go_at_call 16; (with_reducible refine (R.out _ HS.out).mono ?_); rintro e w6 ⟨rfl, h2, _⟩; have H2 := Lib.hid h2; clear h2)
              | (go_at_call 14; (with_reducible refine (DK.out _).mono ?_); rintro e w9 ⟨rfl, hb9⟩; have H9 := Lib.hid ((H2.out.below hb9).1); clear hb9))
            go_ret
            exact ⟨rfl, H9.out.all⟩
          · have hj1 : ((k : Int) == 0) = false := by rw [beq_eq_false_iff_ne]; omega
            have hjv : (((k - 1 : Nat) : Int) + 100 == (k : Int) + 99) = true := by rw [beq_iff_eq]; omega
            rw [if_neg hk0] at R
            have R := Lib.hid R
            have CH := Lib.hid CH
            simp only [Ver.rdV, Ver.rdB, Bool.not_false] at R
            go_wp2_with (first
              | (go_at_call 16; (with_reducible refine (R.out _ HS.out).mono ?_); rintro e w6 ⟨rfl, h2, _⟩; have H2 := Lib.hid h2; clear h2)
              | (go_at_call 17; (with_reducible refine (CH.out _ H2.out).mono ?_); rintro e w7 ⟨rfl, h3, _⟩; have H3 := Lib.hid h3; clear h3)
              | (go_at_call 14; (with_reducible refine (DK.out _).mono ?_); rintro e w9 ⟨rfl, hb9⟩; have H9 := Lib.hid ((H3.out.below hb9).1); clear hb9))
            go_ret
            exact ⟨rfl, H9.out.all⟩

set_option maxRecDepth 100000 in
theorem lifted (os : Os) (started : os.Started) (H : Type) (enc : TypeId × Value → H) :
    ReturnsInHanded {} Try.checked os 8 .any (Rows.cellMarksSpec.pre6 enc Try.prog Try.f8 Rows.cellMarksRow.domain false) (Rows.cellMarksSpec.post enc Try.prog Try.f8 false true false false) := by
  refine returnsInHanded_of_change (C := Try.checked) own started (by kernel_rfl) Try.func8
    (ChangeSpec.witness6 (enc := enc) (C := Try.checked) false ⟨#[], #[.int .i64 0, .int .i64 0], []⟩ 8 (by kernel_rfl) (by kernel_rfl) (by kernel_rfl) (by kernel_rfl)) ?_
  intro W base args ds gs before hval0 hW hcnd _
  have hval : ∀ (j : Nat) t v, Try.f8.params[j]? = some t → args[j]? = some v → Value.okWide Try.prog W .any base t v := hval0
  have hW' := hW
  obtain ⟨p, q, hA0, hV, rfl, hfz, hnd⟩ := hW
  have hA : DataW.TrodAll enc Try.prog W 0 (fun _ => true) true Try.f8.params.toList args.toList ds p := hA0
  rw [Try.params8] at hA hval
  obtain ⟨v0, vs0, d0, ds0, p0, q0, hargs, rfl, rfl, h0, r0⟩ := trodAll_cons hA
  obtain ⟨v1, vs1, d1, ds1, p1, q1, rfl, rfl, rfl, h1, r1⟩ := trodAll_cons r0
  obtain ⟨rfl, rfl, rfl⟩ := trodAll_nil r1
  obtain rfl : args = #[v0, v1] := by cases args; simp_all
  obtain ⟨rfl, rfl⟩ := trodVars_none hV
  obtain ⟨a0, rfl, rfl, rfl, w0⟩ := open_int Try.underlying3 (hval 0 3 v0 rfl rfl) h0
  obtain ⟨a1, rfl, rfl, rfl, w1⟩ := open_int Try.underlying3 (hval 1 3 v1 rfl rfl) h1
  clear hA0 hval0
  refine (walk a0 a1 W w0 w1).mono fun e W' ⟨he, bel⟩ => ?_
  subst he
  exact ⟨_, rfl, _, _, _, [], _, [], hW', trodAll_mk1 (shut_bool Try.underlying4 _), (trodAll_cons_mk (shut_int Try.underlying3 w0) (trodAll_cons_mk (shut_int Try.underlying3 w1) trodAll_mk0)), rfl, bel.frame _, fun h => by cases h⟩

theorem over : Rows.cellMarksRow.holds Try.pinned (OpenSpec.ofChange Rows.cellMarksSpec) :=
  OpenClaim.holds_of_wide 8 Try.f8 rfl rfl rfl rfl rfl rfl rfl ⟨rfl, rfl, rfl, rfl, rfl⟩ rfl rfl rfl rfl rfl (by kernel_rfl) Try.func8 (by kernel_rfl)
    (of_decide_eq_true (by kernel_rfl)) (by unfold Func.isWrapper; first | (rw [if_pos (by decide +kernel)]; kernel_rfl) | (rw [if_neg (by decide +kernel)]; exact ⟨rfl, rfl⟩))
    (fun os started H enc _ => lifted os started H enc)

theorem proved : Rows.CellMarksSaid := over
#print axioms proved
end Go.Proofs.Ytpjjpjdamieeeaa.cellMarks
