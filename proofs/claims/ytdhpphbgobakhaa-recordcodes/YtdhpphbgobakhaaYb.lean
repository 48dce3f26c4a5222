/- The reference's IsName, Weight, IsEdge and none of chapter 10. Condition: strings are of a length that Go allows. -/
import Derived.Test.YtdhpphbgobakhaaYa
import Derived.Test.YtdhpphbgobakhaaVi
namespace Go.Proofs.Ytdhpphbgobakhaa
set_option maxRecDepth 100000
set_option linter.unusedVariables false
open Go.ChangeShapes Go.WideShapes Go.ChangeAt Go.RowKit
open Fl (S)
open Val (V cmpV isB ltT)
theorem rname_any (s : ByteArray) (hs : s.size ≤ maxLen) (w : World) : Calls Try.prog 85 #[.string s] w fun e w' => e = .returned (.bool (nameB s)) ∧ w = w' := by
  unfold maxLen at hs
  have HD : Hid (nameB s = (lowB s.data.toList && (decide (1 ≤ s.size) && decide (s.size ≤ 8)))) := rfl
  go_enter Try.func85, Try.ntmps85
  go_wp2
  go_loop [3] (fun i => ∃ k : Nat, k ≤ s.size ∧ i = .int .i64 k ∧ lowB (s.data.toList.take k) = true) (fun i => s.size - (intOf i).toNat)
  case atStart => exact ⟨0, Nat.zero_le _, rfl, rfl⟩
  case round =>
    obtain ⟨k, hk, rfl, htk⟩ := hrel
    have Ht := Lib.hid htk
    clear htk
    by_cases hlt : k < s.size
    · have hl : k < s.data.toList.length := by rw [Val.size_data]; exact hlt
      have HS := Lib.hid (lowB_take s.data.toList k hl)
      by_cases g1 : 97 ≤ s[k].toNat
      · by_cases g2 : s[k].toNat ≤ 122
        · have HB := Lib.hid (show lowByte (s.data.toList[k]'hl) = true by rw [low_at s k hlt]; simp [lowByte, g1, g2])
          go_wp2
          go_round
          case rel => exact ⟨k + 1, by omega, by go_num, by rw [HS.out, Ht.out, HB.out]; rfl⟩
          case measure => simp [intOf]; omega
        · have HB := Lib.hid (show lowByte (s.data.toList[k]'hl) = false by rw [low_at s k hlt]; simp [lowByte, g1, g2])
          have HF := Lib.hid (lowB_bad _ k hl HB.out)
          go_wp2
          go_ret
          exact ⟨ret_b (by rw [HD.out, HF.out]; rfl), rfl⟩
      · have HB := Lib.hid (show lowByte (s.data.toList[k]'hl) = false by rw [low_at s k hlt]; simp [lowByte, g1])
        have HF := Lib.hid (lowB_bad _ k hl HB.out)
        go_wp2
        go_ret
        exact ⟨ret_b (by rw [HD.out, HF.out]; rfl), rfl⟩
    · have HE := Lib.hid (show lowB s.data.toList = true by rw [← List.take_of_length_le (l := s.data.toList) (i := k) (by rw [Val.size_data]; omega)]; exact Ht.out)
      by_cases h1 : 1 ≤ s.size
      · by_cases h2 : s.size ≤ 8
        · have HN := Lib.hid (show nameB s = true by rw [HD.out, HE.out, decide_eq_true h1, decide_eq_true h2]; rfl)
          go_wp2
          go_ret
          exact ⟨ret_b (by rw [HN.out]; first | exact decide_eq_true (by omega) | exact decide_eq_false (by omega)), rfl⟩
        · have HN := Lib.hid (show nameB s = false by rw [HD.out, HE.out, decide_eq_true h1, decide_eq_false h2]; rfl)
          go_wp2
          go_ret
          exact ⟨ret_b (by rw [HN.out]; first | exact decide_eq_true (by omega) | exact decide_eq_false (by omega)), rfl⟩
      · have HN := Lib.hid (show nameB s = false by rw [HD.out, HE.out, decide_eq_false h1]; rfl)
        go_wp2
        go_ret
        exact ⟨ret_b HN.out.symm, rfl⟩
theorem rweight_any (x : Nat) (w : World) : Calls Try.prog 86 #[.float .f64 x] w fun e w' => e = .returned (.bool (geW x)) ∧ w = w' := by
  go_enter Try.func86, Try.ntmps86
  go_wp2
  all_goals (go_ret; exact ⟨rfl, rfl⟩)
/-- An edge as the model holds it. -/
abbrev egv (e : Eg) : Value := .agg #[.int .i64 e.a, .int .i64 e.b, .string e.t, .float .f64 e.w]
theorem redge_any (e : Eg) (hs : e.t.size ≤ maxLen) (w : World) : Calls Try.prog 68 #[egv e] w fun r w' => r = .returned (.bool (edgeB e)) ∧ Below w.heap.size w w' := by
  obtain ⟨a, b, t, f⟩ := e
  have HD : Hid (edgeB ⟨a, b, t, f⟩ = (decide (1 ≤ a) && decide (a ≤ 24) && decide (1 ≤ b) && decide (b ≤ 24) && nameB t && geW f)) := rfl
  have HN := Lib.hid (fun W => rname_any t hs W)
  have HW := Lib.hid (fun W => rweight_any f W)
  clear hs
  by_cases h1 : 1 ≤ a
  case neg =>
    have HE := Lib.hid (show edgeB ⟨a, b, t, f⟩ = false by rw [HD.out, decide_eq_false h1]; rfl)
    go_enter Try.func68, Try.ntmps68
    go_wp2
    go_ret
    exact ⟨ret_b HE.out.symm, one_box w _⟩
  by_cases h2 : a ≤ 24
  case neg =>
    have HE := Lib.hid (show edgeB ⟨a, b, t, f⟩ = false by rw [HD.out, decide_eq_false h2]; simp)
    go_enter Try.func68, Try.ntmps68
    go_wp2
    go_ret
    exact ⟨ret_b HE.out.symm, one_box w _⟩
  by_cases h3 : 1 ≤ b
  case neg =>
    have HE := Lib.hid (show edgeB ⟨a, b, t, f⟩ = false by rw [HD.out, decide_eq_false h3]; simp)
    go_enter Try.func68, Try.ntmps68
    go_wp2
    go_ret
    exact ⟨ret_b HE.out.symm, one_box w _⟩
  by_cases h4 : b ≤ 24
  case neg =>
    have HE := Lib.hid (show edgeB ⟨a, b, t, f⟩ = false by rw [HD.out, decide_eq_false h4]; simp)
    go_enter Try.func68, Try.ntmps68
    go_wp2
    go_ret
    exact ⟨ret_b HE.out.symm, one_box w _⟩
  have HQ := Lib.hid (show edgeB ⟨a, b, t, f⟩ = (nameB t && geW f) by rw [HD.out, decide_eq_true h1, decide_eq_true h2, decide_eq_true h3, decide_eq_true h4]; simp)
  cases hn : nameB t with
  | false =>
    rw [hn] at HN HQ
    clear hn
    go_enter Try.func68, Try.ntmps68
    go_wp2_with (go_at_call 85; (with_reducible refine (HN.out _).mono ?_); rintro e w1 ⟨rfl, rfl⟩)
    go_ret
    exact ⟨ret_b HQ.out.symm, one_box w _⟩
  | true =>
    rw [hn] at HN HQ
    clear hn
    generalize geW f = g at *
    go_enter Try.func68, Try.ntmps68
    go_wp2_with (first
      | (go_at_call 86; (with_reducible refine (HW.out _).mono ?_); rintro e w2 ⟨rfl, rfl⟩)
      | (go_at_call 85; (with_reducible refine (HN.out _).mono ?_); rintro e w1 ⟨rfl, rfl⟩))
    go_ret
    exact ⟨ret_b HQ.out.symm, one_box w _⟩
end Go.Proofs.Ytdhpphbgobakhaa
