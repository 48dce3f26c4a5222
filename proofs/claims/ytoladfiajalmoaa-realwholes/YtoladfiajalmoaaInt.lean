/- Plain facts: whole numbers below 2^53 are float64 words exactly; their sums and their order are exact. -/
import Derived.Test.YtoladfiajalmoaaSum
import Derived.Laws.Cover2
import Derived.Laws.BitsLemmas
namespace Go.Proofs.Ytoladfiajalmoaa.Fl
open Ieee

/-- The rung of the whole number m. -/
def R (m : Nat) : Nat := if m = 0 then 0 else (m.log2 + 1022) * 2 ^ 52 + m * 2 ^ (52 - m.log2)
/-- 1074, behind a name. -/
def E : Nat := 1074
theorem E_eq : E = 1074 := rfl
def encI (n : Int) : Nat := FloatKind.f64.nearest n
theorem log2_le (m : Nat) (h0 : m ≠ 0) (h : m < 2 ^ 53) : m.log2 ≤ 52 := by
  have := (Nat.log2_lt h0).2 h; omega
theorem kept_bd (m : Nat) (h0 : m ≠ 0) (h : m < 2 ^ 53) : 2 ^ 52 ≤ m * 2 ^ (52 - m.log2) ∧ m * 2 ^ (52 - m.log2) < 2 ^ 53 := by
  have hl := log2_le m h0 h
  have a := Nat.log2_self_le h0
  have b := Nat.lt_log2_self (n := m)
  have e1 : 2 ^ m.log2 * 2 ^ (52 - m.log2) = 2 ^ 52 := by rw [← Nat.pow_add]; congr 1; omega
  have e2 : 2 ^ (m.log2 + 1) * 2 ^ (52 - m.log2) = 2 ^ 53 := by rw [← Nat.pow_add]; congr 1; omega
  constructor
  · rw [← e1]; exact Nat.mul_le_mul_right _ a
  · rw [← e2]; exact Nat.mul_lt_mul_of_pos_right b (Nat.two_pow_pos _)
theorem log2_mul (m k : Nat) (h0 : m ≠ 0) : (m * 2 ^ k).log2 = m.log2 + k := by
  have hne : m * 2 ^ k ≠ 0 := Nat.mul_ne_zero h0 (Nat.ne_of_gt (Nat.two_pow_pos _))
  rw [Nat.log2_eq_iff hne]
  have a := Nat.log2_self_le h0
  have b := Nat.lt_log2_self (n := m)
  constructor
  · rw [Nat.pow_add]; exact Nat.mul_le_mul_right _ a
  · rw [show m.log2 + k + 1 = m.log2 + 1 + k by omega, Nat.pow_add]; exact Nat.mul_lt_mul_of_pos_right b (Nat.two_pow_pos _)
theorem cut_exact (neg : Bool) (q d : Nat) (hq : q ≠ 0) : Toward.even.cut neg (q * 2 ^ d) d = q := by
  unfold Toward.cut
  have hl : min d ((q * 2 ^ d).log2 + 2) = d := by rw [log2_mul q d hq]; omega
  simp only [hl, Nat.shiftLeft_eq, Nat.one_mul]
  rw [Nat.mul_div_cancel _ (Nat.two_pow_pos d), Nat.mul_mod_left]
  have : 0 < 2 ^ d := Nat.two_pow_pos d
  simp
theorem R_lt (m : Nat) (h : m < 2 ^ 53) : R m < IR := by
  unfold R IR; split
  · decide
  · rename_i h0
    have hl := log2_le m h0 h
    have ⟨_, b⟩ := kept_bd m h0 h
    generalize m * 2 ^ (52 - m.log2) = q at *
    omega
/-- A whole number below 2^53, however its digits are shifted, is written as its own word. -/
theorem nearest_exact (neg : Bool) (m k : Nat) (h : m < 2 ^ 53) : double.nearest neg (m * 2 ^ k) (-(k : Int)) = if m = 0 then double.word neg 0 else double.word neg (R m) := by
  by_cases h0 : m = 0
  · subst h0; simp [Format.nearest]
  · rw [if_neg h0]
    have hne : m * 2 ^ k ≠ 0 := Nat.mul_ne_zero h0 (Nat.ne_of_gt (Nat.two_pow_pos _))
    have hl := log2_le m h0 h
    unfold Format.nearest
    rw [if_neg hne, log2_mul m k h0]
    have hf : double.fractionBits = 52 := rfl
    have hp : double.leastPlace = -1074 := by decide
    have hb : double.binade = 2 ^ 52 := rfl
    have hi : double.infRung = IR := by decide
    simp only [hf, hp, hb, hi]
    have elast : max (-(k : Int) + ((m.log2 + k : Nat) : Int) - ((52 : Nat) : Int)) (-1074) = (m.log2 : Int) - 52 := by omega
    rw [elast]
    have ekept : Toward.even.cut neg ((m * 2 ^ k) <<< (-(k : Int) - ((m.log2 : Int) - 52)).toNat) ((m.log2 : Int) - 52 - -(k : Int)).toNat = m * 2 ^ (52 - m.log2) := by
      have hq : m * 2 ^ (52 - m.log2) ≠ 0 := Nat.mul_ne_zero h0 (Nat.ne_of_gt (Nat.two_pow_pos _))
      by_cases hc : k ≤ 52 - m.log2
      · rw [show ((m.log2 : Int) - 52 - -(k : Int)).toNat = 0 by omega, show (-(k : Int) - ((m.log2 : Int) - 52)).toNat = 52 - m.log2 - k by omega, Nat.shiftLeft_eq, Nat.mul_assoc, ← Nat.pow_add, show k + (52 - m.log2 - k) = 52 - m.log2 by omega]
        have := cut_exact neg _ 0 hq
        rwa [Nat.pow_zero, Nat.mul_one] at this
      · rw [show (-(k : Int) - ((m.log2 : Int) - 52)).toNat = 0 by omega, show ((m.log2 : Int) - 52 - -(k : Int)).toNat = k - (52 - m.log2) by omega, Nat.shiftLeft_eq, Nat.pow_zero, Nat.mul_one]
        have := cut_exact neg _ (k - (52 - m.log2)) hq
        rwa [Nat.mul_assoc, ← Nat.pow_add, show 52 - m.log2 + (k - (52 - m.log2)) = k by omega] at this
    rw [ekept]
    have er : ((m.log2 : Int) - 52 - -1074).toNat = m.log2 + 1022 := by omega
    rw [er]
    have hR : (m.log2 + 1022) * 2 ^ 52 + m * 2 ^ (52 - m.log2) = R m := by unfold R; rw [if_neg h0]
    rw [hR, Nat.min_eq_left (Nat.le_of_lt (R_lt m h))]
theorem R_zero : R 0 = 0 := rfl
theorem nearest_word (neg : Bool) (m k : Nat) (h : m < 2 ^ 53) : double.nearest neg (m * 2 ^ k) (-(k : Int)) = double.word neg (R m) := by
  rw [nearest_exact neg m k h]; split
  · rename_i h0; subst h0; rfl
  · rfl
theorem encI_eq (n : Int) (h : n.natAbs < 2 ^ 53) : encI n = double.word (decide (n < 0)) (R n.natAbs) := by
  have := nearest_word (decide (n < 0)) n.natAbs 0 h
  rw [Nat.pow_zero, Nat.mul_one] at this
  exact this
theorem rung_word (s : Bool) (r : Nat) (h : r < IR) : rung (double.word s r) = r := by
  have hs : double.signWeight = S := by decide
  have : IR < S := by decide
  unfold Format.word rung; rw [hs]; split
  · rw [Nat.add_mod_left, Nat.mod_eq_of_lt (by omega)]
  · rw [Nat.mod_eq_of_lt (by omega)]
theorem neg_word (s : Bool) (r : Nat) (h : r < IR) : neg (double.word s r) = s := by
  have hs : double.signWeight = S := by decide
  have hI : IR < S := by decide
  unfold Format.word neg; rw [hs]
  cases s
  · simp only [Bool.false_eq_true, if_false]; rw [Nat.div_eq_of_lt (by omega)]; rfl
  · simp only [if_true]; rw [Nat.add_div_left _ (by decide), Nat.div_eq_of_lt (by omega)]; rfl
theorem read_word (s : Bool) (m : Nat) (h : m < 2 ^ 53) : ∃ a : Nat, a ≤ E ∧ double.read (double.word s (R m)) = .number s (m * 2 ^ (E - a)) (-(E : Int) + a) := by
  have hr := R_lt m h
  have hs : double.signWeight = S := by decide
  have hb : double.binade = 2 ^ 52 := rfl
  have hi : double.infRung = IR := by decide
  have hp : double.leastPlace = -(E : Int) := by decide
  have e1 := neg_word s _ hr
  have e2 := rung_word s _ hr
  have hE := E_eq
  unfold neg at e1; unfold rung at e2
  unfold Format.read
  simp only [hs, hb, hi, hp, e1, e2]
  by_cases h0 : m = 0
  · subst h0; exact ⟨0, Nat.zero_le _, by rw [R_zero, if_pos (Nat.two_pow_pos _), Nat.zero_mul]; simp⟩
  · have hl := log2_le m h0 h
    have ⟨b1, b2⟩ := kept_bd m h0 h
    refine ⟨m.log2 + 1022, by omega, ?_⟩
    have hR : R m = (m.log2 + 1022) * 2 ^ 52 + m * 2 ^ (52 - m.log2) := by unfold R; rw [if_neg h0]
    rw [show E - (m.log2 + 1022) = 52 - m.log2 by omega]
    generalize m * 2 ^ (52 - m.log2) = q at *
    rw [if_neg (by omega), if_pos hr]
    rw [show R m % 2 ^ 52 = q - 2 ^ 52 by omega, show R m / 2 ^ 52 = m.log2 + 1023 by omega, show 2 ^ 52 + (q - 2 ^ 52) = q by omega, show ((m.log2 + 1023 - 1 : Nat) : Int) = ((m.log2 + 1022 : Nat) : Int) by omega]
theorem val_R (m : Nat) (h : m < 2 ^ 53) : val (R m) = m * 2 ^ E := by
  by_cases h0 : m = 0
  · subst h0; rw [R_zero, val_zero, Nat.zero_mul]
  · have hl := log2_le m h0 h
    have ⟨b1, b2⟩ := kept_bd m h0 h
    have hE := E_eq
    have hR : R m = (m.log2 + 1022) * 2 ^ 52 + m * 2 ^ (52 - m.log2) := by unfold R; rw [if_neg h0]
    have e : m * 2 ^ E = m * 2 ^ (52 - m.log2) * 2 ^ (m.log2 + 1022) := by
      rw [Nat.mul_assoc, ← Nat.pow_add, show 52 - m.log2 + (m.log2 + 1022) = E by omega]
    rw [e]
    generalize m * 2 ^ (52 - m.log2) = q at *
    unfold val
    rw [if_neg (by omega), show 2 ^ 52 + R m % 2 ^ 52 = q by omega, show R m / 2 ^ 52 - 1 = m.log2 + 1022 by omega]
theorem R_mono (m n : Nat) (hm : m < 2 ^ 53) (hn : n < 2 ^ 53) : R m < R n ↔ m < n := by
  rw [← val_lt_iff, val_R m hm, val_R n hn]
  exact Nat.mul_lt_mul_right (Nat.two_pow_pos _)
theorem sg_int (a : Int) : sg (decide (a < 0)) a.natAbs = a := by
  unfold sg; by_cases h : a < 0 <;> simp [h] <;> omega
/-- THE SUM OF TWO WHOLE NUMBERS IS EXACT. -/
theorem add_int (a b : Int) (ha : a.natAbs < 2 ^ 53) (hb : b.natAbs < 2 ^ 53) (hab : (a + b).natAbs < 2 ^ 53) : FloatKind.f64.format.add (encI a) (encI b) = some (encI (a + b)) := by
  show double.add _ _ = _
  rw [encI_eq a ha, encI_eq b hb, encI_eq (a + b) hab]
  obtain ⟨x, hx, ex⟩ := read_word (decide (a < 0)) a.natAbs ha
  obtain ⟨y, hy, ey⟩ := read_word (decide (b < 0)) b.natAbs hb
  unfold Format.add
  rw [ex, ey]
  generalize hc : min x y = c
  have e0 : min (-(E : Int) + x) (-(E : Int) + y) = -(E : Int) + c := by omega
  have e1 : (-(E : Int) + x - (-(E : Int) + c)).toNat = x - c := by omega
  have e2 : (-(E : Int) + y - (-(E : Int) + c)).toNat = y - c := by omega
  have g1 : a.natAbs * 2 ^ (E - x) * 2 ^ (x - c) = a.natAbs * 2 ^ (E - c) := by
    rw [Nat.mul_assoc, ← Nat.pow_add, show E - x + (x - c) = E - c by omega]
  have g2 : b.natAbs * 2 ^ (E - y) * 2 ^ (y - c) = b.natAbs * 2 ^ (E - c) := by
    rw [Nat.mul_assoc, ← Nat.pow_add, show E - y + (y - c) = E - c by omega]
  simp only [Datum.sum, e0, e1, e2, signed_sg, g1, g2, sg_mul, sg_int, Option.map]
  rw [← Int.add_mul]
  have hpos : 0 < 2 ^ (E - c) := Nat.two_pow_pos _
  have hk : (-(E : Int) + c) = -((E - c : Nat) : Int) := by omega
  rw [hk]
  have hd : (0 : Int) < ((2 ^ (E - c) : Nat) : Int) := by omega
  have z : (a + b) * ((2 ^ (E - c) : Nat) : Int) = 0 ↔ a + b = 0 := by
    constructor
    · intro h
      rcases Int.mul_eq_zero.1 h with h | h
      · exact h
      · omega
    · intro h; rw [h, Int.zero_mul]
  have n : (a + b) * ((2 ^ (E - c) : Nat) : Int) < 0 ↔ a + b < 0 := by
    constructor
    · intro h
      by_cases g : a + b < 0
      · exact g
      · have := Int.mul_nonneg (Int.not_lt.1 g) (Int.le_of_lt hd); omega
    · intro h; exact Int.mul_neg_of_neg_of_pos h hd
  have sgn : (if (a + b) * ((2 ^ (E - c) : Nat) : Int) = 0 then decide (a < 0) && decide (b < 0) else decide ((a + b) * ((2 ^ (E - c) : Nat) : Int) < 0)) = decide (a + b < 0) := by
    simp only [z, n]
    split
    · rename_i h
      by_cases h1 : a < 0 <;> by_cases h2 : b < 0 <;> simp [h1, h2] <;> omega
    · rfl
  rw [sgn, Int.natAbs_mul, Int.natAbs_natCast]
  exact congrArg some (nearest_word _ _ _ hab)
theorem nanB_encI (a : Int) (h : a.natAbs < 2 ^ 53) : nanB (encI a) = false := by
  rw [nanB_false, encI_eq a h, rung_word _ _ (R_lt _ h)]; exact Nat.le_of_lt (R_lt _ h)
theorem encI_lt (a : Int) (h : a.natAbs < 2 ^ 53) : encI a < 2 * S := by
  have h1 := R_lt _ h
  have hs : double.signWeight = S := by decide
  have hI : IR < S := by decide
  rw [encI_eq a h]; unfold Format.word; rw [hs]; split <;> omega
theorem keyN_encI (m : Nat) (h : m < 2 ^ 53) : keyN (encI (m : Int)) = R m + S := by
  have hn : (m : Int).natAbs = m := Int.natAbs_natCast m
  have h' : (m : Int).natAbs < 2 ^ 53 := by rw [hn]; exact h
  have hb := nanB_encI (m : Int) h'
  have e : encI (m : Int) = R m := by
    rw [encI_eq _ h', hn]
    have : decide ((m : Int) < 0) = false := by simp
    rw [this]; rfl
  have h1 := R_lt m h
  have hI : IR < S := by decide
  have hnorm : normN (encI (m : Int)) = R m := by unfold normN; rw [if_neg (by rw [hb]; decide), e]
  unfold keyN
  rw [hnorm, if_pos (by omega)]
theorem cmp_encI (m n : Nat) (hm : m < 2 ^ 53) (hn : n < 2 ^ 53) : cmpK (keyN (encI (m : Int))) (keyN (encI (n : Int))) = cmpK m n := by
  rw [keyN_encI m hm, keyN_encI n hn]
  have h1 := R_mono m n hm hn
  have h2 := R_mono n m hn hm
  unfold cmpK
  simp only [Nat.add_lt_add_iff_right, h1, h2]
/-- The sum of whole numbers of at most 2^20 each, at most 2^20 of them. -/
def isum (l : List Int) : Int := l.foldl (· + ·) 0
theorem isum_snoc (l : List Int) (x : Int) : isum (l ++ [x]) = isum l + x := by unfold isum; rw [List.foldl_append]; rfl
theorem fold_bd : ∀ (l : List Int) (acc : Int), (∀ x ∈ l, x.natAbs ≤ 1048576) → (l.foldl (· + ·) acc).natAbs ≤ acc.natAbs + l.length * 1048576
  | [], acc, _ => by simp
  | x :: r, acc, h => by
    have h1 := fold_bd r (acc + x) (fun y hy => h y (by simp [hy]))
    have h2 := h x (by simp)
    simp only [List.foldl_cons, List.length_cons]; omega
theorem isum_bd (l : List Int) (h : ∀ x ∈ l, x.natAbs ≤ 1048576) : (isum l).natAbs ≤ l.length * 1048576 := by
  have := fold_bd l 0 h
  unfold isum; simpa using this
theorem fold_acc : ∀ (l : List Int) (acc : Int), (∀ x ∈ l, x.natAbs ≤ 1048576) → acc.natAbs + l.length * 1048576 ≤ 4503599627370496 → (l.map encI).foldl addN (encI acc) = encI (l.foldl (· + ·) acc)
  | [], acc, _, _ => rfl
  | x :: r, acc, h, hl => by
    have h2 := h x (by simp)
    simp only [List.length_cons] at hl
    have e : addN (encI acc) (encI x) = encI (acc + x) := by
      unfold addN; rw [add_int _ _ (by omega) (by omega) (by omega)]
    simp only [List.map_cons, List.foldl_cons]
    rw [e]
    exact fold_acc r (acc + x) (fun y hy => h y (by simp [hy])) (by omega)
theorem fold_int (l : List Int) (h : ∀ x ∈ l, x.natAbs ≤ 1048576) (hl : l.length ≤ 1048576) : foldN (l.map encI) = encI (isum l) := by
  have := fold_acc l 0 h (by simp; omega)
  have e0 : encI 0 = 0 := by decide
  rw [e0] at this
  exact this
theorem sum_int (l : List Int) (h : ∀ x ∈ l, x.natAbs ≤ 1048576) (hl : l.length ≤ 1048576) : sumN (l.map encI) = encI (isum l) := by
  have hb := isum_bd l h
  unfold sumN; rw [fold_int l h hl]; unfold normN; rw [if_neg (by rw [nanB_encI _ (by omega)]; decide)]
theorem and20 (n : Int) : bits .and .i64 n 1048575 = n % 1048576 := by
  have hm : (BitVec.ofInt 64 1048575).toNat = 2 ^ 20 - 1 := by decide
  have key : (BitVec.ofInt 64 n &&& BitVec.ofInt 64 1048575).toNat = (n % ((2 ^ 64 : Nat) : Int)).toNat % 2 ^ 20 := by
    rw [BitVec.toNat_and, BitVec.toNat_ofInt, hm, Nat.and_two_pow_sub_one_eq_mod]
  show IntKind.i64.wrap ((BitVec.ofInt 64 n &&& BitVec.ofInt 64 1048575).toNat : Nat) = n % 1048576
  rw [key, IntKind.wrap_i64]
  omega
theorem and28 (n : Int) : bits .and .i64 n 268435455 = n % 268435456 := by
  have hm : (BitVec.ofInt 64 268435455).toNat = 2 ^ 28 - 1 := by decide
  have key : (BitVec.ofInt 64 n &&& BitVec.ofInt 64 268435455).toNat = (n % ((2 ^ 64 : Nat) : Int)).toNat % 2 ^ 28 := by
    rw [BitVec.toNat_and, BitVec.toNat_ofInt, hm, Nat.and_two_pow_sub_one_eq_mod]
  show IntKind.i64.wrap ((BitVec.ofInt 64 n &&& BitVec.ofInt 64 268435455).toNat : Nat) = n % 268435456
  rw [key, IntKind.wrap_i64]
  omega
end Go.Proofs.Ytoladfiajalmoaa.Fl
