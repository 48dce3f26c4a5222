/- The walks of the laws RecordNames and RecordEnds of chapter 10. Condition: strings are of a length that Go allows. -/
import Derived.Test.YtcpgpdkdopcicaaZj
import Derived.Test.YtcpgpdkdopcicaaIw
namespace Go.Proofs.Ytcpgpdkdopcicaa
set_option maxRecDepth 100000
set_option linter.unusedVariables false
open Go.ChangeShapes Go.WideShapes Go.ChangeAt Go.RowKit
open Fl (S cmpK keyN normN)
open Val (V cmpV isB ltT)
def lowAt (s : ByteArray) (k : Nat) : Bool := (decide (1 ≤ s.size) && decide (s.size ≤ 8)) && lowB (s.data.toList.take k)
theorem lowAt_succ (s : ByteArray) (k : Nat) (h : k < s.size) : lowAt s (k + 1) = (lowAt s k && lowByte s[k]) := by
  unfold lowAt; rw [lowB_take s.data.toList k (by rw [Val.size_data]; exact h), low_at s k h]
  generalize lowB (s.data.toList.take k) = a
  generalize lowByte s[k] = b
  generalize (decide (1 ≤ s.size) && decide (s.size ≤ 8)) = c
  cases a <;> cases b <;> cases c <;> rfl
theorem lowAt_all (s : ByteArray) (k : Nat) (h : s.size ≤ k) : lowAt s k = nameB s := by
  unfold lowAt nameB; rw [List.take_of_length_le (by rw [Val.size_data]; exact h), Bool.and_comm]
theorem lowAt_zero (s : ByteArray) : lowAt s 0 = (decide (1 ≤ s.size) && decide (s.size ≤ 8)) := by unfold lowAt; simp [lowB]
theorem one_node (s : ByteArray) : nodeB ⟨[s], []⟩ = nameB s := by
  unfold nodeB
  simp [labB, List.range_succ]
theorem one_edge (s : ByteArray) : edgeB ⟨1, 2, s, 0⟩ = nameB s := by
  unfold edgeB
  rw [show geW 0 = true by decide +kernel]
  simp
set_option maxHeartbeats 2000000 in
theorem names10_any (a0 : ByteArray) (hsz : a0.size ≤ maxLen) (w : World) : Calls Try.prog 7 #[.string a0] w fun e w' => e = .returned (.bool true) ∧ Below w.heap.size w w' := by
  have hsz0 := hsz
  unfold maxLen at hsz
  by_cases hbig : 40 < a0.size
  · go_enter Try.func7, Try.ntmps7
    go_wp2
    go_ret
    exact ⟨rfl, Below.refl _ _⟩
  have HKN := Lib.hid (fun W => known10_any W)
  have HNM := Lib.hid (fun W => pname_any a0 hsz0 W)
  have HED := Lib.hid (fun W => pedge_any ⟨1, 2, a0, 0⟩ hsz0 W)
  rw [one_edge] at HED
  have HND := Lib.hid (fun W => pnode_any ⟨[a0], []⟩ ⟨some ⟨W.heap.size, 0, none⟩, 1, none, 0⟩ (W.alloc (.cells #[.string a0] 9)) ⟨row_new .string W 9 [a0] #[.string a0] rfl, fun k hk => absurd hk (by simp)⟩ ⟨by simp, by simp, (fun x hx => by simp at hx; rw [hx]; exact hsz0), (fun x hx => by cases hx)⟩)
  rw [one_node] at HND
  have HAA := Lib.hid (fun k (h : a0.size ≤ k) => lowAt_all a0 k h)
  have HAS := Lib.hid (fun k (h : k < a0.size) => lowAt_succ a0 k h)
  have H0 := Lib.hid (lowAt_zero a0)
  have hc : (1 ≤ a0.size ∧ a0.size ≤ 8 ∧ Hid (lowAt a0 0 = true)) ∨ (¬ 1 ≤ a0.size ∧ Hid (lowAt a0 0 = false)) ∨ (1 ≤ a0.size ∧ ¬ a0.size ≤ 8 ∧ Hid (lowAt a0 0 = false)) := by
    by_cases h1 : 1 ≤ a0.size
    · by_cases h2 : a0.size ≤ 8
      · exact .inl ⟨h1, h2, by rw [H0.out, decide_eq_true h1, decide_eq_true h2]; rfl⟩
      · exact .inr (.inr ⟨h1, h2, by rw [H0.out, decide_eq_true h1, decide_eq_false h2]; rfl⟩)
    · exact .inr (.inl ⟨h1, by rw [H0.out, decide_eq_false h1]; rfl⟩)
  rcases hc with ⟨h1, h2, HZ⟩ | ⟨h1, HZ⟩ | ⟨h1, h2, HZ⟩
  all_goals
    go_enter Try.func7, Try.ntmps7
    go_wp2
    clear h1
    try have HQ8 := Lib.hid (show lowAt a0 0 = decide ((a0.size : Int) ≤ 8) by rw [HZ.out]; first | exact (decide_eq_true (by omega)).symm | exact (decide_eq_false (by omega)).symm)
    try clear h2
    go_loopw [3, 4] (fun v i wr => ∃ k : Nat, k ≤ a0.size ∧ i = .int .i64 (k : Nat) ∧ v = .bool (lowAt a0 k) ∧ w = wr) (fun _ i _ => a0.size - (intOf i).toNat)
    case atStart => exact ⟨0, Nat.zero_le _, rfl, by first | (rw [HQ8.out]; done) | (rw [HZ.out]; done), rfl⟩
    case round =>
      obtain ⟨k, hk, rfl, rfl, rfl⟩ := hrel
      by_cases hlt : k < a0.size
      · have HS := Lib.hid (HAS.out k hlt)
        have hlb : lowByte a0[k] = (decide (97 ≤ a0[k].toNat) && decide (a0[k].toNat ≤ 122)) := rfl
        cases hv : lowAt a0 k with
        | false =>
          rw [hv] at HS
          clear hv hlb
          go_wp2
          exact ⟨⟨k + 1, by omega, by go_num, by rw [HS.out]; rfl, by first | rfl | trivial⟩, by simp [intOf]; omega⟩
        | true =>
          rw [hv] at HS
          clear hv
          by_cases g1 : 97 ≤ a0[k].toNat
          · by_cases g2 : a0[k].toNat ≤ 122
            · have HB := Lib.hid (show lowByte a0[k] = true by rw [hlb, decide_eq_true g1, decide_eq_true g2]; rfl)
              clear hlb
              go_wp2
              all_goals exact ⟨⟨k + 1, by omega, by go_num, by rw [HS.out, HB.out] <;> first | rfl | exact congrArg _ (decide_eq_true (by omega)) | exact congrArg _ (decide_eq_false (by omega)), by first | rfl | trivial⟩, by simp [intOf]; omega⟩
            · have HB := Lib.hid (show lowByte a0[k] = false by rw [hlb, decide_eq_false g2]; simp)
              clear hlb
              go_wp2
              all_goals exact ⟨⟨k + 1, by omega, by go_num, by rw [HS.out, HB.out] <;> first | rfl | exact congrArg _ (decide_eq_true (by omega)) | exact congrArg _ (decide_eq_false (by omega)), by first | rfl | trivial⟩, by simp [intOf]; omega⟩
          · have HB := Lib.hid (show lowByte a0[k] = false by rw [hlb, decide_eq_false g1]; rfl)
            clear hlb
            go_wp2
            all_goals exact ⟨⟨k + 1, by omega, by go_num, by rw [HS.out, HB.out] <;> first | rfl | exact congrArg _ (decide_eq_true (by omega)) | exact congrArg _ (decide_eq_false (by omega)), by first | rfl | trivial⟩, by simp [intOf]; omega⟩
      · have HE := HAA.out k (by omega)
        rw [HE]
        clear HE HAA HAS HZ H0
        generalize nameB a0 = r at *
        go_wp2_with fail
        (with_reducible refine (HNM.out _).mono ?_); rintro e w1 ⟨rfl, rfl⟩
        cases r
        all_goals
          go_wp2_with fail
          refine (HND.out _).mono ?_
          rintro e w2 ⟨rfl, hb⟩
          have B1 := Lib.hid ((one_box w (.cells #[.string a0] 9)).trans (hb.mono (one_box w (.cells #[.string a0] 9)).size))
          clear hb
          go_wp2_with fail
          refine (HED.out _).mono ?_
          rintro e w3 ⟨rfl, hb⟩
          have B2 := Lib.hid (bnext B1.out hb)
          clear hb
          go_wp2_with fail
          refine (HKN.out _).mono ?_
          rintro e w4 ⟨rfl, hb⟩
          have B3 := Lib.hid (bnext B2.out hb)
          clear hb
          go_wp2
          go_ret
          exact ⟨rfl, B3.out⟩
/-- A whole number as a weight. -/
theorem neg_word' (s : Bool) (r : Nat) (h : r ≤ Fl.IR) : Fl.neg (Ieee.double.word s r) = s := by
  have hs : Ieee.double.signWeight = Fl.S := by decide
  have hI : Fl.IR < Fl.S := by decide
  unfold Ieee.Format.word Fl.neg; rw [hs]
  cases s
  · simp only [Bool.false_eq_true, if_false]; rw [Nat.div_eq_of_lt (by omega)]; rfl
  · simp only [if_true]; rw [Nat.add_div_left _ (by decide), Nat.div_eq_of_lt (by omega)]; rfl
theorem geW_nearest (n : Int) : geW (FloatKind.f64.nearest n) = decide (0 ≤ n) := by
  by_cases h0 : n = 0
  · subst h0; decide +kernel
  obtain ⟨r, e, h1, h2⟩ := Fl.nearest_rung (decide (n < 0)) n.natAbs (by omega)
  have e' : FloatKind.f64.nearest n = Ieee.double.word (decide (n < 0)) r := e
  have hr := Fl.rung_word' (decide (n < 0)) r h2
  have hn := neg_word' (decide (n < 0)) r h2
  rw [e']
  unfold geW
  rw [Fl.order_eq _ 0 (by rw [hr]; exact h2) (by decide)]
  have hs : Fl.srung (Ieee.double.word (decide (n < 0)) r) = if n < 0 then -(r : Int) else (r : Int) := by
    unfold Fl.srung
    rw [hr, hn]
    by_cases hn0 : n < 0 <;> simp [hn0, Fl.sg]
  have hz : Fl.srung 0 = 0 := by decide +kernel
  rw [hs, hz]
  by_cases hn0 : n < 0
  · rw [if_pos hn0, decide_eq_false (by omega)]
    have : compare (-(r : Int)) 0 = .lt := by rw [Int.compare_eq_lt]; omega
    rw [this]; rfl
  · rw [if_neg hn0, decide_eq_true (by omega)]
    have : compare (r : Int) 0 = .gt := by rw [Int.compare_eq_gt]; omega
    rw [this]; rfl
set_option maxHeartbeats 2000000 in
theorem ends10_any (a b n : Int) (w : World) : Calls Try.prog 9 #[.int .i64 a, .int .i64 b, .int .i64 n] w fun e w' => e = .returned (.bool true) ∧ Below w.heap.size w w' := by
  have HKN := Lib.hid (fun W => known10_any W)
  have HD : Hid (edgeB ⟨a, b, ⟨#[101]⟩, floatOfInt FloatKind.f64 n⟩ = (decide (1 ≤ a) && decide (a ≤ 24) && decide (1 ≤ b) && decide (b ≤ 24) && decide (0 ≤ n))) := by
    simp only [Hid]
    show (decide (1 ≤ a) && decide (a ≤ 24) && decide (1 ≤ b) && decide (b ≤ 24) && nameB ⟨#[101]⟩ && geW (FloatKind.f64.nearest n)) = _
    rw [geW_nearest, show nameB ⟨#[101]⟩ = true by decide +kernel, Bool.and_true]
  have h1 : ByteArray.size ⟨#[101]⟩ ≤ maxLen := by decide
  have HP := Lib.hid (fun W => pedge_any ⟨a, b, ⟨#[101]⟩, floatOfInt FloatKind.f64 n⟩ h1 W)
  have HR := Lib.hid (fun W => redge_any ⟨a, b, ⟨#[101]⟩, floatOfInt FloatKind.f64 n⟩ h1 W)
  generalize edgeB ⟨a, b, ⟨#[101]⟩, floatOfInt FloatKind.f64 n⟩ = r at *
  obtain ⟨V, hV⟩ : ∃ V, V = w.alloc (.cells #[.int .i64 a, .int .i64 b, .string ⟨#[101]⟩, .float .f64 (floatOfInt FloatKind.f64 n)] 45) := ⟨_, rfl⟩
  have hbx : V.heap[w.heap.size]? = some (.cells #[.int .i64 a, .int .i64 b, .string ⟨#[101]⟩, .float .f64 (floatOfInt FloatKind.f64 n)] 45 (0, 0)) := by rw [hV]; exact heap_alloc_new w _
  have hal : Below w.heap.size w V := by rw [hV]; exact one_box w _
  have HX := Lib.hid (fun W (hW : Below V.heap.size V W) => edge_box (x := ⟨a, b, ⟨#[101]⟩, floatOfInt FloatKind.f64 n⟩) hbx rfl hW)
  have HAL := Lib.hid hal
  clear hbx hal h1
  simp only at HX
  have hc : (1 ≤ a ∧ a ≤ 24 ∧ 1 ≤ b ∧ b ≤ 24 ∧ 0 ≤ n) ∨ (¬ 1 ≤ a) ∨ (1 ≤ a ∧ ¬ a ≤ 24) ∨ (1 ≤ a ∧ a ≤ 24 ∧ ¬ 1 ≤ b) ∨ (1 ≤ a ∧ a ≤ 24 ∧ 1 ≤ b ∧ ¬ b ≤ 24) ∨ (1 ≤ a ∧ a ≤ 24 ∧ 1 ≤ b ∧ b ≤ 24 ∧ ¬ 0 ≤ n) := by omega
  obtain ⟨b0, b1, b2, b3⟩ := HX.out V (Below.refl _ _)
  go_enter Try.func9, Try.ntmps9
  go_upto_region 2 with fail
  rw [← hV]
  clear hV
  rcases hc with ⟨h1, h2, h3, h4, h5⟩ | h1 | ⟨h1, h2⟩ | ⟨h1, h2, h3⟩ | ⟨h1, h2, h3, h4⟩ | ⟨h1, h2, h3, h4, h5⟩
  all_goals
    have HQ : Hid (r = true) ∨ Hid (r = false) := by cases r <;> simp [Hid]
    first
      | (have hr : r = true := by rw [HD.out]; simp; omega)
      | (have hr : r = false := by rw [HD.out]; simp; omega)
    subst hr
    clear HD HQ
    go_wp2_with fail
    refine (HP.out _).mono ?_
    rintro e w1 ⟨rfl, hb⟩
    have B1 := Lib.hid hb
    obtain ⟨d0, d1, d2, d3⟩ := HX.out _ hb
    clear hb
    go_wp2_with fail
    refine (HR.out _).mono ?_
    rintro e w2 ⟨rfl, hb⟩
    have B2 := Lib.hid (bnext B1.out hb)
    clear hb
    go_wp2_with fail
    refine (HKN.out _).mono ?_
    rintro e w3 ⟨rfl, hb⟩
    have B3 := Lib.hid (bnext HAL.out (bnext B2.out hb))
    clear hb
    go_wp2
    go_ret
    exact ⟨rfl, B3.out⟩
end Go.Proofs.Ytcpgpdkdopcicaa
