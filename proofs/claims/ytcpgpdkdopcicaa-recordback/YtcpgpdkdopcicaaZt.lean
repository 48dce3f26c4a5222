/- The walk of the law RecordTwice of chapter 10. No condition. -/
import Derived.Test.YtcpgpdkdopcicaaZo
namespace Go.Proofs.Ytcpgpdkdopcicaa
set_option maxRecDepth 100000
set_option linter.unusedVariables false
open Go.ChangeShapes Go.WideShapes Go.ChangeAt Go.RowKit
open Fl (S cmpK keyN normN)
open Val (V cmpV isB ltT)
/-- Gone. -/
def tw (e : Bool) (id : Int) : Wr := ⟨e, id, true, zN, zE⟩
theorem tw_write (e : Bool) (id : Int) : writeB 20 20 (tw e id) = (decide (1 ≤ id) && decide (id ≤ 20)) := by
  have h1 : emptyN zN = true := by decide +kernel
  have h2 : edgeB zE = false := by decide +kernel
  have h3 : zeroE zE = true := by decide +kernel
  unfold writeB tw
  cases e <;> simp [h1, h2, h3]
theorem tw_may (e : Bool) (a b : Int) : mayB 20 20 [tw e a, tw e b, tw (!e) 1] = (decide (1 ≤ a) && decide (a ≤ 20) && decide (1 ≤ b) && decide (b ≤ 20) && decide (a ≠ b)) := by
  have e1 : (List.range 3).all (mayW 20 20 [tw e a, tw e b, tw (!e) 1]) = (mayW 20 20 [tw e a, tw e b, tw (!e) 1] 0 && mayW 20 20 [tw e a, tw e b, tw (!e) 1] 1 && mayW 20 20 [tw e a, tw e b, tw (!e) 1] 2) := by
    simp [List.range_succ, Bool.and_assoc]
  have m0 : mayW 20 20 [tw e a, tw e b, tw (!e) 1] 0 = (decide (1 ≤ a) && decide (a ≤ 20)) := by
    rw [← tw_write e a]; simp [mayW]
  have m1 : mayW 20 20 [tw e a, tw e b, tw (!e) 1] 1 = (decide (1 ≤ b) && decide (b ≤ 20) && decide (a ≠ b)) := by
    rw [← tw_write e b]; simp [mayW, twinB, tw]; rfl
  have m2 : mayW 20 20 [tw e a, tw e b, tw (!e) 1] 2 = true := by
    have : writeB 20 20 (tw (!e) 1) = true := by rw [tw_write]; rfl
    simp [mayW, twinB, this, List.range_succ]
    cases e <;> simp [tw]
  unfold mayB
  show (_ && (List.range 3).all _) = _
  rw [e1, m0, m1, m2]
  generalize decide (1 ≤ a) = p
  generalize decide (a ≤ 20) = q
  generalize decide (1 ≤ b) = r
  generalize decide (b ≤ 20) = s
  generalize decide (a ≠ b) = t
  cases p <;> cases q <;> cases r <;> cases s <;> cases t <;> rfl
theorem nd_zero (w : World) : NdAt w zN zS := ⟨fun k hk => absurd hk (by simp [zN]), fun k hk => absurd hk (by simp [zN])⟩
theorem ok_zero : NdOk zN := ⟨by simp [zN], by simp [zN], (fun x hx => by cases hx), (fun x hx => by cases hx)⟩
set_option maxHeartbeats 2000000 in
theorem twice10_any (e : Bool) (a b : Int) (w : World) : Calls Try.prog 5 #[.bool e, .int .i64 a, .int .i64 b] w fun e w' => e = .returned (.bool true) ∧ Below w.heap.size w w' := by
  have HKN := Lib.hid (fun W => known10_any W)
  have hc : (a < 0) ∨ (¬ a < 0 ∧ 40 < a) ∨ (¬ a < 0 ∧ ¬ 40 < a ∧ b < 0) ∨ (¬ a < 0 ∧ ¬ 40 < a ∧ ¬ b < 0 ∧ 40 < b) ∨ (0 ≤ a ∧ a ≤ 40 ∧ 0 ≤ b ∧ b ≤ 40) := by omega
  rcases hc with h | ⟨h, h2⟩ | ⟨h, h2, h3⟩ | ⟨h, h2, h3, h4⟩ | ⟨h, h2, h3, h4⟩
  case inr.inr.inr.inr =>
    have hin : ∀ x, x ∈ ([(tw e a, zS), (tw e b, zS), (tw (!e) 1, zS)] : List (Wr × Ns)) → WOk x.1 ∧ WrIn x.1 := by
      intro x hx
      simp at hx
      rcases hx with rfl | rfl | rfl
      · exact ⟨⟨ok_zero, by show (0 : Nat) ≤ maxLen; exact Nat.zero_le _⟩, zN_in, ⟨by show _ ≤ a; omega, by show a ≤ _; omega⟩, zE_in⟩
      · exact ⟨⟨ok_zero, by show (0 : Nat) ≤ maxLen; exact Nat.zero_le _⟩, zN_in, ⟨by show _ ≤ b; omega, by show b ≤ _; omega⟩, zE_in⟩
      · exact ⟨⟨ok_zero, by show (0 : Nat) ≤ maxLen; exact Nat.zero_le _⟩, zN_in, ⟨by show _ ≤ (1 : Int); omega, by show (1 : Int) ≤ _; omega⟩, zE_in⟩
    obtain ⟨V, hV2⟩ : ∃ V, V = w.alloc (.cells #[.bool e, .int .i64 a, .bool true, .slice none 0 0, .slice none 0 0, .int .i64 0, .int .i64 0, .string ⟨#[]⟩, .float .f64 0, .bool e, .int .i64 b, .bool true, .slice none 0 0, .slice none 0 0, .int .i64 0, .int .i64 0, .string ⟨#[]⟩, .float .f64 0, .bool (!e), .int .i64 1, .bool true, .slice none 0 0, .slice none 0 0, .int .i64 0, .int .i64 0, .string ⟨#[]⟩, .float .f64 0] 47) := ⟨_, rfl⟩
    have hal : Below w.heap.size w V := by rw [hV2]; exact one_box w _
    have hcs : wcs [(tw e a, zS), (tw e b, zS), (tw (!e) 1, zS)] = [.bool e, .int .i64 a, .bool true, .slice none 0 0, .slice none 0 0, .int .i64 0, .int .i64 0, .string ⟨#[]⟩, .float .f64 0, .bool e, .int .i64 b, .bool true, .slice none 0 0, .slice none 0 0, .int .i64 0, .int .i64 0, .string ⟨#[]⟩, .float .f64 0, .bool (!e), .int .i64 1, .bool true, .slice none 0 0, .slice none 0 0, .int .i64 0, .int .i64 0, .string ⟨#[]⟩, .float .f64 0] := by simp [wcs, tw, zN, zE, zS]
    have hrow : WRow V (some ⟨w.heap.size, 0, none⟩) [(tw e a, zS), (tw e b, zS), (tw (!e) 1, zS)] := by
      have h1 := World.ownsRow_lit (base := 0) (e := 47) (size := 9) w #[.bool e, .int .i64 a, .bool true, .slice none 0 0, .slice none 0 0, .int .i64 0, .int .i64 0, .string ⟨#[]⟩, .float .f64 0, .bool e, .int .i64 b, .bool true, .slice none 0 0, .slice none 0 0, .int .i64 0, .int .i64 0, .string ⟨#[]⟩, .float .f64 0, .bool (!e), .int .i64 1, .bool true, .slice none 0 0, .slice none 0 0, .int .i64 0, .int .i64 0, .string ⟨#[]⟩, .float .f64 0] 3 (Nat.zero_le _) (by unfold maxLen; omega) rfl
      rw [← hV2] at h1
      refine wrow_own (c := 3) ?_ (fun x hx => by simp at hx; rcases hx with rfl | rfl | rfl <;> exact nd_zero V)
      rw [hcs]
      exact h1
    have HE := Lib.hid (penc_any 20 20 (some ⟨w.heap.size, 0, none⟩) 3 [(tw e a, zS), (tw e b, zS), (tw (!e) 1, zS)] V hrow (fun x hx => (hin x hx).1) (fun x hx => (hin x hx).2) (by simp))
    have HM := tw_may e a b
    have HP : Hid (∀ r w', EncP V.heap.size 20 20 ([(tw e a, zS), (tw e b, zS), (tw (!e) 1, zS)].map (·.1)) r w' → ∃ A n c, r = .returned (.tuple #[.slice A n c, .int .i64 (if mayB 20 20 [tw e a, tw e b, tw (!e) 1] then 0 else 1)])) := by
      intro r w' h
      unfold EncP at h
      simp only [List.map_cons, List.map_nil] at h
      cases hm : mayB 20 20 [tw e a, tw e b, tw (!e) 1] with
      | true => rw [hm, if_pos rfl] at h; obtain ⟨A, c, h1, _⟩ := h; exact ⟨A, _, c, h1⟩
      | false => rw [hm, if_neg (by decide)] at h; exact ⟨none, 0, 0, h⟩
    have HAL := Lib.hid hal
    have HD := Lib.hid HM
    generalize mayB 20 20 [tw e a, tw e b, tw (!e) 1] = r at *
    have hcc : (1 ≤ a ∧ a ≤ 20 ∧ 1 ≤ b ∧ b ≤ 20 ∧ a ≠ b) ∨ (¬ 1 ≤ a) ∨ (1 ≤ a ∧ ¬ a ≤ 20) ∨ (1 ≤ a ∧ a ≤ 20 ∧ ¬ 1 ≤ b) ∨ (1 ≤ a ∧ a ≤ 20 ∧ 1 ≤ b ∧ ¬ b ≤ 20) ∨ (1 ≤ a ∧ a ≤ 20 ∧ 1 ≤ b ∧ b ≤ 20 ∧ a = b) := by omega
    clear hin hal hrow HM
    clear hcs
    go_enter Try.func5, Try.ntmps5
    go_upto_region 4 with fail
    rw [← hV2]
    clear hV2
    go_wp2_with fail
    refine HE.out.mono ?_
    rintro e w1 ⟨hp, hb⟩
    obtain ⟨A, n, c, rfl⟩ := HP.out _ _ hp
    have B1 := Lib.hid (bnext HAL.out hb)
    clear hp hb
    rcases hcc with ⟨g1, g2, g3, g4, g5⟩ | g1 | ⟨g1, g2⟩ | ⟨g1, g2, g3⟩ | ⟨g1, g2, g3, g4⟩ | ⟨g1, g2, g3, g4, g5⟩
    all_goals
      first
        | (have hr : r = true := by rw [HD.out]; simp; omega)
        | (have hr : r = false := by rw [HD.out]; simp; omega)
      subst hr
      clear HD
      simp only [Bool.false_eq_true, if_false, if_true]
      first
        | (have hne : (a != b) = true := by simp; omega)
        | (have hne : (a != b) = false := by simp; omega)
        | skip
      go_wp2_with fail
      refine (HKN.out _).mono ?_
      rintro e w3 ⟨rfl, hb⟩
      have B3 := Lib.hid (bnext B1.out hb)
      clear hb
      go_wp2
      go_ret
      exact ⟨rfl, B3.out⟩
  all_goals
    go_enter Try.func5, Try.ntmps5
    go_wp2
    go_ret
    exact ⟨rfl, Below.refl _ _⟩
end Go.Proofs.Ytcpgpdkdopcicaa
