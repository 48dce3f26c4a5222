/- Plain facts on the words of float64: their order is the order of signed rungs; what Key does to a word. No condition. -/
import Derived.WalkLawsBesides
import Derived.Laws.Bits64b
namespace Go.Proofs.Ytdhpphbgobakhaa.Fl
open Ieee

/-- 2^63, 2^52, the rung of infinity: behind names. -/
def S : Nat := 9223372036854775808
def IR : Nat := 9218868437227405312
def nanB (x : Nat) : Bool := FloatKind.f64.format.order x x != some .eq
def neg (x : Nat) : Bool := x / S % 2 == 1
def rung (x : Nat) : Nat := x % S
def val (r : Nat) : Nat := if r < 2 ^ 52 then r else (2 ^ 52 + r % 2 ^ 52) * 2 ^ (r / 2 ^ 52 - 1)
def sg (s : Bool) (n : Nat) : Int := if s then -(n : Int) else (n : Int)
def srung (x : Nat) : Int := sg (neg x) (rung x)

theorem cmp_def (a b : Int) : compare a b = if a < b then .lt else if a = b then .eq else .gt := rfl
theorem cmp_lt {a b : Int} (h : a < b) : compare a b = .lt := by rw [cmp_def, if_pos h]
theorem cmp_gt {a b : Int} (h : b < a) : compare a b = .gt := by rw [cmp_def, if_neg (by omega), if_neg (by omega)]
theorem cmp_mul (a b : Int) (c : Nat) (hc : 0 < c) : compare (a * c) (b * c) = compare a b := by
  have hc' : (0 : Int) < c := by omega
  rw [cmp_def, cmp_def]
  have h1 : a * c < b * c ↔ a < b := Int.mul_lt_mul_right hc'
  have h2 : a * c = b * c ↔ a = b := ⟨fun h => Int.eq_of_mul_eq_mul_right (by omega) h, fun h => by rw [h]⟩
  simp only [h1, h2]

theorem signed_sg (s : Bool) (m k : Nat) : signed s m k = sg s (m * 2 ^ k) := by
  unfold signed sg; rw [Nat.shiftLeft_eq]
theorem sg_mul (s : Bool) (a c : Nat) : sg s (a * c) = sg s a * c := by
  cases s <;> simp [sg, Int.natCast_mul, Int.neg_mul]

theorem order_num (L : Int) (s t : Bool) (m n a b : Nat) :
    Datum.order (.number s m (L + a)) (.number t n (L + b)) = some (compare (sg s (m * 2 ^ a)) (sg t (n * 2 ^ b))) := by
  simp only [Datum.order, signed_sg]
  have e1 : (L + a - min (L + a) (L + b)).toNat = a - min a b := by omega
  have e2 : (L + b - min (L + a) (L + b)).toNat = b - min a b := by omega
  rw [e1, e2]
  have f1 : m * 2 ^ a = m * 2 ^ (a - min a b) * 2 ^ (min a b) := by
    rw [Nat.mul_assoc, ← Nat.pow_add]; congr 2; omega
  have f2 : n * 2 ^ b = n * 2 ^ (b - min a b) * 2 ^ (min a b) := by
    rw [Nat.mul_assoc, ← Nat.pow_add]; congr 2; omega
  rw [f1, f2, sg_mul s _ (2 ^ min a b), sg_mul t _ (2 ^ min a b), cmp_mul _ _ _ (Nat.two_pow_pos _)]

theorem val_mono (r q : Nat) (h : r < q) : val r < val q := by
  have hp : (2 : Nat) ^ 52 = 4503599627370496 := by decide
  unfold val
  rw [hp]
  split
  · split
    · exact h
    · have : 0 < 2 ^ (q / 4503599627370496 - 1) := Nat.two_pow_pos _
      have h2 : (4503599627370496 + q % 4503599627370496) * 1 ≤ (4503599627370496 + q % 4503599627370496) * 2 ^ (q / 4503599627370496 - 1) := Nat.mul_le_mul_left _ this
      omega
  · rename_i h1
    have h3 : ¬ q < 4503599627370496 := by omega
    rw [if_neg h3]
    by_cases he : r / 4503599627370496 = q / 4503599627370496
    · rw [he]
      exact Nat.mul_lt_mul_of_pos_right (by omega) (Nat.two_pow_pos _)
    · have hlt : r / 4503599627370496 < q / 4503599627370496 := by
        have := Nat.div_le_div_right (c := 4503599627370496) (Nat.le_of_lt h); omega
      have hr1 : 1 ≤ r / 4503599627370496 := by omega
      generalize hA : r / 4503599627370496 = A at *
      generalize hB : q / 4503599627370496 = B at *
      have g1 : (4503599627370496 + r % 4503599627370496) * 2 ^ (A - 1) < 9007199254740992 * 2 ^ (A - 1) :=
        Nat.mul_lt_mul_of_pos_right (by omega) (Nat.two_pow_pos _)
      have g2 : 9007199254740992 * 2 ^ (A - 1) = 4503599627370496 * 2 ^ A := by
        have : A = (A - 1) + 1 := by omega
        rw [this, Nat.pow_succ]; simp only [Nat.add_sub_cancel]; omega
      have g3 : 2 ^ A ≤ 2 ^ (B - 1) := Nat.pow_le_pow_right (by decide) (by omega)
      have g4 : 4503599627370496 * 2 ^ A ≤ (4503599627370496 + q % 4503599627370496) * 2 ^ (B - 1) :=
        Nat.mul_le_mul (by omega) g3
      omega

theorem val_lt_iff (r q : Nat) : val r < val q ↔ r < q :=
  ⟨fun h => by
    rcases Nat.lt_trichotomy r q with g | g | g
    · exact g
    · subst g; omega
    · have := val_mono q r g; omega, val_mono r q⟩
theorem val_inj (r q : Nat) : val r = val q ↔ r = q :=
  ⟨fun h => by
    rcases Nat.lt_trichotomy r q with g | g | g
    · have := val_mono r q g; omega
    · exact g
    · have := val_mono q r g; omega, fun h => by rw [h]⟩
theorem val_zero : val 0 = 0 := by decide

/-- The order of the values is the order of the signed rungs. -/
theorem cmp_val (s t : Bool) (r q : Nat) : compare (sg s (val r)) (sg t (val q)) = compare (sg s r) (sg t q) := by
  have h1 := val_lt_iff r q
  have h2 := val_lt_iff q r
  have h3 := val_inj r q
  have z := val_zero
  have z1 := val_inj r 0
  have z2 := val_inj q 0
  rw [z] at z1 z2
  rw [cmp_def, cmp_def]
  have a : (sg s (val r) < sg t (val q)) ↔ (sg s r < sg t q) := by
    cases s <;> cases t <;> simp only [sg] <;> simp <;> omega
  have b : (sg s (val r) = sg t (val q)) ↔ (sg s r = sg t q) := by
    cases s <;> cases t <;> simp only [sg] <;> simp <;> omega
  simp only [a, b]

theorem read_num (x : Nat) (h : rung x < IR) : ∃ m a : Nat, FloatKind.f64.format.read x = .number (neg x) m (double.leastPlace + a) ∧ m * 2 ^ a = val (rung x) := by
  have hs : double.signWeight = S := by decide
  have hb : double.binade = 2 ^ 52 := by decide
  have hi : double.infRung = IR := by decide
  show ∃ m a : Nat, double.read x = _ ∧ _
  unfold Format.read
  rw [hs, hb, hi]
  show ∃ m a : Nat, (if rung x < 2 ^ 52 then Datum.number (neg x) (rung x) double.leastPlace else if rung x < IR then _ else _) = _ ∧ _
  by_cases h1 : rung x < 2 ^ 52
  · refine ⟨rung x, 0, ?_, ?_⟩
    · rw [if_pos h1]; simp
    · unfold val; rw [if_pos h1]; simp
  · refine ⟨2 ^ 52 + rung x % 2 ^ 52, rung x / 2 ^ 52 - 1, ?_, ?_⟩
    · rw [if_neg h1, if_pos h]; rfl
    · unfold val; rw [if_neg h1]

theorem read_inf (x : Nat) (h : rung x = IR) : FloatKind.f64.format.read x = .infinity (neg x) := by
  have hs : double.signWeight = S := by decide
  have hb : double.binade = 2 ^ 52 := by decide
  have hi : double.infRung = IR := by decide
  show double.read x = _
  unfold Format.read
  rw [hs, hb, hi]
  show (if rung x < 2 ^ 52 then _ else if rung x < IR then _ else if rung x = IR then Datum.infinity (neg x) else _) = _
  rw [if_neg (by rw [h]; decide), if_neg (by omega), if_pos h]

theorem read_nan (x : Nat) (h : IR < rung x) : FloatKind.f64.format.read x = .nan (neg x) (rung x - IR) := by
  have hs : double.signWeight = S := by decide
  have hb : double.binade = 2 ^ 52 := by decide
  have hi : double.infRung = IR := by decide
  show double.read x = _
  unfold Format.read
  rw [hs, hb, hi]
  show (if rung x < 2 ^ 52 then _ else if rung x < IR then _ else if rung x = IR then _ else Datum.nan (neg x) (rung x - IR)) = _
  have : (2 : Nat) ^ 52 < IR := by decide
  rw [if_neg (by omega), if_neg (by omega), if_neg (by omega)]

/-- TWO NUMBERS THAT ARE NO NaN STAND AS THEIR SIGNED RUNGS DO. -/
theorem order_eq (x y : Nat) (hx : rung x ≤ IR) (hy : rung y ≤ IR) :
    FloatKind.f64.format.order x y = some (compare (srung x) (srung y)) := by
  unfold Format.order
  rcases Nat.lt_or_eq_of_le hx with h1 | h1 <;> rcases Nat.lt_or_eq_of_le hy with h2 | h2
  · obtain ⟨m, a, e1, e2⟩ := read_num x h1
    obtain ⟨n, b, e3, e4⟩ := read_num y h2
    rw [e1, e3, order_num, e2, e4, cmp_val]; rfl
  · obtain ⟨m, a, e1, e2⟩ := read_num x h1
    rw [e1, read_inf y h2]
    simp only [Datum.order, srung]
    have hz : (0 : Nat) < IR := by decide
    cases neg x <;> cases neg y <;> simp only [sg] <;> first | (rw [cmp_lt (by simp; omega)]; rfl) | (rw [cmp_gt (by simp; omega)]; rfl)
  · obtain ⟨n, b, e3, e4⟩ := read_num y h2
    rw [e3, read_inf x h1]
    simp only [Datum.order, srung]
    have hz : (0 : Nat) < IR := by decide
    cases neg x <;> cases neg y <;> simp only [sg] <;> first | (rw [cmp_lt (by simp; omega)]; rfl) | (rw [cmp_gt (by simp; omega)]; rfl)
  · rw [read_inf x h1, read_inf y h2]
    simp only [Datum.order, srung, h1, h2]
    cases neg x <;> cases neg y <;> decide

theorem order_nan_left (x y : Nat) (h : IR < rung x) : FloatKind.f64.format.order x y = none := by
  unfold Format.order; rw [read_nan x h]; rfl
theorem order_nan_right (x y : Nat) (h : IR < rung y) : FloatKind.f64.format.order x y = none := by
  unfold Format.order; rw [read_nan y h]; cases FloatKind.f64.format.read x <;> rfl

theorem cmp_self (a : Int) : compare a a = .eq := by rw [cmp_def]; simp
theorem nanB_iff (x : Nat) : nanB x = true ↔ IR < rung x := by
  unfold nanB
  by_cases h : IR < rung x
  · rw [order_nan_left x x h]; simp [h]
  · rw [order_eq x x (by omega) (by omega), cmp_self]; simp [h]
theorem nanB_false (x : Nat) : nanB x = false ↔ rung x ≤ IR := by
  have := nanB_iff x
  cases h : nanB x <;> simp [h] at this ⊢ <;> omega

def NaNw : Nat := 9221120237041090560
def normN (x : Nat) : Nat := if nanB x then NaNw else x
def keyN (x : Nat) : Nat := if normN x < S then normN x + S else 2 * S - 1 - normN x
theorem normN_lt (x : Nat) (h : x < 2 * S) : normN x < 2 * S := by
  unfold normN; split
  · decide
  · exact h
theorem nanB_NaNw : nanB NaNw = true := by rw [nanB_iff]; decide
theorem nanB_normN (x : Nat) : nanB (normN x) = nanB x := by
  unfold normN; split
  · rename_i h; rw [h]; exact nanB_NaNw
  · rfl
theorem normN_normN (x : Nat) : normN (normN x) = normN x := by
  rw [normN, nanB_normN]; unfold normN; split <;> simp [*]
theorem keyN_normN (x : Nat) : keyN (normN x) = keyN x := by unfold keyN; rw [normN_normN]
theorem keyN_lt (x : Nat) (h : x < 2 * S) : keyN x < 2 * S := by
  have := normN_lt x h
  unfold keyN; split <;> omega


/-- Compare of two keys. -/
def cmpK (a b : Nat) : Int := if a < b then -1 else if b < a then 1 else 0
theorem cmpK_lo {a b : Nat} (h : a < b) : cmpK a b = -1 := by unfold cmpK; rw [if_pos h]
theorem cmpK_hi {a b : Nat} (h : b < a) : cmpK a b = 1 := by unfold cmpK; rw [if_neg (by omega), if_pos h]
theorem cmpK_eq {a b : Nat} (h : a = b) : cmpK a b = 0 := by unfold cmpK; rw [if_neg (by omega), if_neg (by omega)]
theorem cmpK_self (a : Nat) : cmpK a a = 0 := cmpK_eq rfl
theorem cmpK_swap (a b : Nat) : cmpK a b = - cmpK b a := by unfold cmpK; split <;> split <;> omega
theorem cmpK_bd (a b : Nat) : -1 ≤ cmpK a b ∧ cmpK a b ≤ 1 := by unfold cmpK; split <;> (try split) <;> omega

/-- What Key undoes. -/
def unkN (k : Nat) : Nat := if k < S then 2 * S - 1 - k else k - S
theorem unkN_lt (k : Nat) (h : k < 2 * S) : unkN k < 2 * S := by unfold unkN; split <;> omega
theorem unkN_keyN (x : Nat) (h : x < 2 * S) : unkN (keyN x) = normN x := by
  have := normN_lt x h
  unfold keyN unkN; split
  · rw [if_neg (by omega)]; omega
  · rw [if_pos (by omega)]; omega
def ofB (k : Nat) : Bool := keyN (unkN k) == k
theorem ofB_keyN (x : Nat) (h : x < 2 * S) : ofB (keyN x) = true := by
  unfold ofB; rw [unkN_keyN x h, keyN_normN]; simp
end Go.Proofs.Ytdhpphbgobakhaa.Fl
