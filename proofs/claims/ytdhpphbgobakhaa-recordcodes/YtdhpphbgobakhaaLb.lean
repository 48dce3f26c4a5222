/- Plain facts on the encodings of chapter 3: varints of folded integers, strings, keys in eight bytes, and their decoding. No condition but those that each fact names. -/
import Derived.Test.YtdhpphbgobakhaaFl
import Derived.Lib.Zigzag
import Derived.Lib.VarintDec
import Derived.Lib.VarintBits
namespace Go.Proofs.Ytdhpphbgobakhaa
set_option maxRecDepth 100000
set_option linter.unusedVariables false
namespace Lb
open Go.Lib (uvarint zigzag uvarint_small uvarint_big unzigzag)
open Fl (S keyN unkN ofB)

theorem u8n {a : Nat} (h : a < 256) : (a.toUInt8).toNat = a := by
  simp [Nat.toUInt8]; omega
theorem u8m (a : Nat) : (a.toUInt8).toNat = a % 256 := by simp [Nat.toUInt8]
theorem u8e (b : UInt8) : (b.toNat).toUInt8 = b := by simp [Nat.toUInt8]
theorem u8lt (b : UInt8) : b.toNat < 256 := b.toNat_lt

/-- The encodings. -/
def encI (n : Int) : List UInt8 := uvarint (zigzag n)
def encIs (l : List Int) : List UInt8 := l.flatMap encI
def encS (s : List UInt8) : List UInt8 := encI s.length ++ s
def encSs (l : List ByteArray) : List UInt8 := l.flatMap fun s => encS s.data.toList
def kb (k i : Nat) : UInt8 := (k / 256 ^ (7 - i)).toUInt8
def keyB (k : Nat) : List UInt8 := [kb k 0, kb k 1, kb k 2, kb k 3, kb k 4, kb k 5, kb k 6, kb k 7]
def encR (f : Nat) : List UInt8 := keyB (keyN f)
def encRs (l : List Nat) : List UInt8 := l.flatMap encR

theorem encI_len (n : Int) (h0 : -9223372036854775808 ≤ n) (h1 : n ≤ 9223372036854775807) : (encI n).length ≤ 10 ∧ 1 ≤ (encI n).length :=
  ⟨Lib.uvarint_length64 (Lib.zigzag_lt h0 h1), Lib.uvarint_pos _⟩

def In64 (n : Int) : Prop := -9223372036854775808 ≤ n ∧ n ≤ 9223372036854775807
theorem encIs_snoc (l : List Int) (k : Nat) (h : k < l.length) : encIs (l.take (k + 1)) = encIs (l.take k) ++ encI l[k] := by
  unfold encIs; rw [List.take_succ_eq_append_getElem h, List.flatMap_append]; simp
theorem encIs_len : ∀ (l : List Int), (∀ n ∈ l, In64 n) → (encIs l).length ≤ 10 * l.length
  | [], _ => by simp [encIs]
  | n :: l, h => by
    have h1 := (encI_len n (h n (by simp)).1 (h n (by simp)).2).1
    have h2 := encIs_len l (fun m hm => h m (by simp [hm]))
    unfold encIs at *
    simp only [List.flatMap_cons, List.length_append, List.length_cons]; omega
theorem encSs_snoc (l : List ByteArray) (k : Nat) (h : k < l.length) : encSs (l.take (k + 1)) = encSs (l.take k) ++ encS l[k].data.toList := by
  unfold encSs; rw [List.take_succ_eq_append_getElem h, List.flatMap_append]; simp
theorem encSs_take (l : List ByteArray) (k : Nat) : (encSs (l.take k)).length ≤ (encSs l).length := by
  have e : encSs l = encSs (l.take k) ++ encSs (l.drop k) := by unfold encSs; rw [← List.flatMap_append, List.take_append_drop]
  rw [e, List.length_append]; omega
theorem encS_len (s : ByteArray) (h : s.size ≤ 9223372036854775807) : (encS s.data.toList).length ≤ 10 + s.size ∧ s.size ≤ (encS s.data.toList).length := by
  have e : s.data.toList.length = s.size := rfl
  have := (encI_len (s.data.toList.length : Int) (by omega) (by omega)).1
  unfold encS; rw [List.length_append]; omega
theorem encSs_len (m : Nat) : ∀ (l : List ByteArray), (∀ s ∈ l, s.size ≤ m) → m ≤ 9223372036854775807 → (encSs l).length ≤ (10 + m) * l.length
  | [], _, _ => by simp [encSs]
  | s :: l, h, hm => by
    have h1 := (encS_len s (by have := h s (by simp); omega)).1
    have h2 := encSs_len m l (fun m hm => h m (by simp [hm])) hm
    have h3 := h s (by simp)
    unfold encSs at *
    simp only [List.flatMap_cons, List.length_append, List.length_cons, Nat.mul_add]; omega
theorem encRs_snoc (l : List Nat) (k : Nat) (h : k < l.length) : encRs (l.take (k + 1)) = encRs (l.take k) ++ encR l[k] := by
  unfold encRs; rw [List.take_succ_eq_append_getElem h, List.flatMap_append]; simp
theorem encRs_len : ∀ (l : List Nat), (encRs l).length = 8 * l.length
  | [] => by simp [encRs]
  | n :: l => by
    have h2 := encRs_len l
    unfold encRs at *
    simp only [List.flatMap_cons, List.length_append, List.length_cons]
    have : (encR n).length = 8 := rfl
    omega
theorem keyB_snoc (k : Nat) : ∀ j, j < 8 → (keyB k).take (j + 1) = (keyB k).take j ++ [kb k j]
  | 0, _ => rfl
  | 1, _ => rfl
  | 2, _ => rfl
  | 3, _ => rfl
  | 4, _ => rfl
  | 5, _ => rfl
  | 6, _ => rfl
  | 7, _ => rfl
  | j + 8, h => absurd h (by omega)
theorem kb_int (k j : Nat) : (k : Int) / 2 ^ (8 * (7 - j)) % 256 = ((kb k j).toNat : Nat) := by
  unfold kb; rw [u8m, show (256 : Nat) ^ (7 - j) = 2 ^ (8 * (7 - j)) by rw [Nat.pow_mul]]; simp
/-- The number at the head of a list of bytes, the i-th byte of a varint being next: the rest of the number and how many bytes it takes. -/
def dv : Nat → List UInt8 → Option (Nat × Nat)
  | _, [] => none
  | i, b :: r => if 10 ≤ i ∨ (i = 9 ∧ 1 < b.toNat % 128) then none
     else if 128 ≤ b.toNat then (dv (i + 1) r).map fun p => (b.toNat % 128 + 128 * p.1, p.2 + 1)
     else if 0 < i ∧ b.toNat = 0 then none else some (b.toNat, 1)
def lim (i : Nat) : Nat := 2 ^ (64 - 7 * i)
theorem lim_succ (i : Nat) (h : i ≤ 8) : lim i = 128 * lim (i + 1) := by
  unfold lim; rw [show 64 - 7 * i = (64 - 7 * (i + 1)) + 7 by omega, Nat.pow_add]; omega
theorem lim_nine : lim 9 = 2 := rfl
theorem dv_ten (i : Nat) (h : 10 ≤ i) (l : List UInt8) : dv i l = none := by
  cases l with
  | nil => rfl
  | cons b r => rw [dv, if_pos (.inl h)]
theorem dv_of : ∀ (l : List UInt8) (i z : Nat) (r : List UInt8), uvarint z ++ r = l → z < lim i → (0 < i → 0 < z) → i ≤ 9 → dv i l = some (z, (uvarint z).length)
  | [], i, z, r, h, _, _, _ => by
    have := Lib.uvarint_pos z
    have e := congrArg List.length h
    rw [List.length_append] at e
    simp only [List.length_nil] at e; omega
  | b :: t, i, z, r, h, hz, hp, hi => by
    by_cases hs : z < 128
    · rw [uvarint_small hs] at h ⊢
      simp only [List.cons_append, List.nil_append, List.cons.injEq] at h
      obtain ⟨rfl, rfl⟩ := h
      have e := u8n (a := z) (by omega)
      rw [dv, e]
      have h9 : ¬ (10 ≤ i ∨ (i = 9 ∧ 1 < z % 128)) := by
        rintro (h | ⟨rfl, h⟩)
        · omega
        · rw [lim_nine] at hz; omega
      rw [if_neg h9, if_neg (by omega), if_neg (by rintro ⟨a, b⟩; have := hp a; omega)]
      rfl
    · rw [uvarint_big (by omega)] at h ⊢
      simp only [List.cons_append, List.cons.injEq] at h
      obtain ⟨rfl, h⟩ := h
      have hi8 : i ≤ 8 := by
        rcases Nat.lt_or_ge i 9 with h | h
        · omega
        · obtain rfl : i = 9 := by omega
          rw [lim_nine] at hz; omega
      have e := u8n (a := z % 128 + 128) (by omega)
      have ih := dv_of t (i + 1) (z / 128) r h (by rw [lim_succ i hi8] at hz; omega) (fun _ => by omega) (by omega)
      rw [dv, e, if_neg (by rintro (h | ⟨h, _⟩) <;> omega), if_pos (by omega), ih]
      simp; omega
theorem dv_some : ∀ (l : List UInt8) (i z s : Nat), i ≤ 9 → dv i l = some (z, s) → z < lim i ∧ (0 < i → 0 < z) ∧ s = (uvarint z).length ∧ uvarint z ++ l.drop s = l
  | [], i, z, s, _, h => by simp [dv] at h
  | b :: t, i, z, s, hi, h => by
    have hb := u8lt b
    rw [dv] at h
    by_cases h1 : 10 ≤ i ∨ (i = 9 ∧ 1 < b.toNat % 128)
    · rw [if_pos h1] at h; cases h
    rw [if_neg h1] at h
    by_cases h2 : 128 ≤ b.toNat
    · rw [if_pos h2] at h
      rcases Nat.lt_or_ge i 9 with hi9 | hi9
      · cases hd : dv (i + 1) t with
        | none => rw [hd] at h; cases h
        | some p =>
          obtain ⟨z', s'⟩ := p
          rw [hd] at h
          simp at h
          obtain ⟨rfl, rfl⟩ := h
          obtain ⟨a1, a2, rfl, a4⟩ := dv_some t (i + 1) z' s' (by omega) hd
          have a2' := a2 (by omega)
          have e1 : (b.toNat % 128 + 128 * z') % 128 + 128 = b.toNat := by omega
          have e2 : (b.toNat % 128 + 128 * z') / 128 = z' := by omega
          have eu : uvarint (b.toNat % 128 + 128 * z') = b :: uvarint z' := by
            rw [uvarint_big (by omega), e1, e2, u8e]
          refine ⟨by rw [lim_succ i (by omega)]; omega, fun _ => by omega, by rw [eu]; simp, ?_⟩
          rw [eu]; simpa using a4
      · rw [dv_ten (i + 1) (by omega)] at h; cases h
    · rw [if_neg h2] at h
      by_cases h3 : 0 < i ∧ b.toNat = 0
      · rw [if_pos h3] at h; cases h
      rw [if_neg h3] at h
      simp at h
      obtain ⟨rfl, rfl⟩ := h
      have hs : b.toNat < 128 := by omega
      refine ⟨?_, fun h => by omega, by rw [uvarint_small hs]; rfl, by rw [uvarint_small hs, u8e]; rfl⟩
      rcases Nat.lt_or_ge i 9 with hi9 | hi9
      · have := lim_succ i (by omega)
        have : 0 < lim (i + 1) := Nat.two_pow_pos _
        omega
      · obtain rfl : i = 9 := by omega
        rw [lim_nine]; omega
/-- One step of a decoding that goes on. -/
theorem dv_more (l : List UInt8) (k acc : Nat) (h : k < l.length) (h1 : ¬ (10 ≤ k ∨ (k = 9 ∧ 1 < l[k].toNat % 128))) (h2 : 128 ≤ l[k].toNat) (he : dv 0 l = (dv k (l.drop k)).map fun p => (acc + 128 ^ k * p.1, k + p.2)) :
    dv 0 l = (dv (k + 1) (l.drop (k + 1))).map fun p => (acc + 128 ^ k * (l[k].toNat % 128) + 128 ^ (k + 1) * p.1, k + 1 + p.2) := by
  rw [he, List.drop_eq_getElem_cons h, dv, if_neg h1, if_pos h2, Option.map_map]
  congr 1
  funext p
  simp only [Function.comp_apply, Prod.mk.injEq]
  refine ⟨?_, by omega⟩
  rw [Nat.pow_succ, Nat.mul_add, Nat.mul_assoc]; omega
section
variable {l : List UInt8} {j acc : Nat} (he : dv 0 l = (dv j (l.drop j)).map fun p => (acc + 128 ^ j * p.1, j + p.2))
include he
theorem dv_out (h : l.length ≤ j ∨ 10 ≤ j) : dv 0 l = none := by
  rcases h with h | h
  · rw [he, List.drop_of_length_le h]; rfl
  · rw [he, dv_ten j h]; rfl
theorem dv_over (h : j < l.length) (h1 : j = 9 ∧ 1 < l[j].toNat % 128) : dv 0 l = none := by
  rw [he, List.drop_eq_getElem_cons h, dv, if_pos (.inr h1)]; rfl
theorem dv_zero (h : j < l.length) (h2 : ¬ 128 ≤ l[j].toNat) (h3 : 0 < j ∧ l[j].toNat = 0) : dv 0 l = none := by
  rw [he, List.drop_eq_getElem_cons h, dv, if_neg h2, if_pos h3]
  split <;> rfl
theorem dv_done (h : j < l.length) (h1 : ¬ (10 ≤ j ∨ (j = 9 ∧ 1 < l[j].toNat % 128))) (h2 : ¬ 128 ≤ l[j].toNat) (h3 : ¬ (0 < j ∧ l[j].toNat = 0)) : dv 0 l = some (acc + 128 ^ j * (l[j].toNat % 128), j + 1) := by
  rw [he, List.drop_eq_getElem_cons h, dv, if_neg h1, if_neg h2, if_neg h3, Nat.mod_eq_of_lt (by omega)]; rfl
end
theorem acc_lt (j acc lo : Nat) (h : acc < 128 ^ j) (hl : lo < 128) : acc + 128 ^ j * lo < 128 ^ (j + 1) := by
  rw [Nat.pow_succ]
  have : 128 ^ j * (lo + 1) ≤ 128 ^ j * 128 := Nat.mul_le_mul_left _ (by omega)
  rw [Nat.mul_add] at this
  omega
set_option maxRecDepth 100000 in
theorem andNot128 : ∀ a : Fin 256, bits .andNot .u8 (a.val : Int) 128 = ((a.val % 128 : Nat) : Int) := by decide +kernel
set_option maxRecDepth 100000 in
theorem and128 : ∀ a : Fin 256, (bits .and .u8 (a.val : Int) 128 != 0) = decide (128 ≤ a.val) := by decide +kernel
set_option maxRecDepth 100000 in
theorem and127 : ∀ a : Fin 256, bits .and .u8 (a.val : Int) 127 = ((a.val % 128 : Nat) : Int) := by decide +kernel
theorem shl_lt (j lo : Nat) (hlo : lo < 128) (hj : j < 9 ∨ (j = 9 ∧ lo ≤ 1)) : 128 ^ j * lo < 18446744073709551616 := by
  rcases hj with h | ⟨rfl, h⟩
  · have : 128 ^ j ≤ 128 ^ 8 := Nat.pow_le_pow_right (by omega) (by omega)
    have : 128 ^ j * lo ≤ 128 ^ 8 * 127 := Nat.mul_le_mul this (by omega)
    omega
  · omega
theorem or_shl (acc j lo : Nat) (ha : acc < 128 ^ j) (hlo : lo < 128) (hj : j < 9 ∨ (j = 9 ∧ lo ≤ 1)) :
    bits BinOp.or IntKind.u64 (acc : Int) (IntKind.u64.wrap ((lo : Int) * 2 ^ (7 * j))) = ((acc + 128 ^ j * lo : Nat) : Int) := by
  have h1 := shl_lt j lo hlo hj
  have e : (lo : Int) * 2 ^ (7 * j) = ((128 ^ j * lo : Nat) : Int) := by
    rw [show (128 : Nat) ^ j = 2 ^ (7 * j) by rw [Nat.pow_mul]]; push_cast; rw [Int.mul_comm]
  have h2 : acc < 18446744073709551616 := by
    have : 128 ^ j ≤ 128 ^ 9 := Nat.pow_le_pow_right (by omega) (by omega)
    omega
  rw [e, IntKind.wrap_u64, Int.emod_eq_of_lt (by omega) (by omega)]
  have hn := (bits_nat .u64 64 (by decide) wraps_u64 acc (128 ^ j * lo) (by simpa using h2) (by simpa using h1)).2
  rw [hn]
  have hor : acc ||| 128 ^ j * lo = acc + 128 ^ j * lo := by
    rw [Nat.or_comm, Nat.add_comm, show (128 : Nat) ^ j = 2 ^ (7 * j) by rw [Nat.pow_mul]]
    exact (Nat.two_pow_add_eq_or_of_lt (by rw [Nat.pow_mul]; exact ha) lo).symm
  rw [hor]
theorem or_low (k x q : Nat) (hx : x < 18446744073709551616) (hm : x % 2 ^ k = 0) (hq : q < 2 ^ k) (hk : k ≤ 64) : bits BinOp.or IntKind.u64 (x : Int) (q : Int) = ((x + q : Nat) : Int) := by
  have h2 : q < 18446744073709551616 := by
    have : 2 ^ k ≤ 2 ^ 64 := Nat.pow_le_pow_right (by omega) hk
    omega
  have hn := (bits_nat .u64 64 (by decide) wraps_u64 x q (by simpa using hx) (by simpa using h2)).2
  rw [hn]
  have e : x = 2 ^ k * (x / 2 ^ k) := by have := Nat.div_add_mod x (2 ^ k); omega
  have hor : x ||| q = x + q := by
    rw [e]; exact (Nat.two_pow_add_eq_or_of_lt hq _).symm
  rw [hor]
theorem or_shl7 (y q : Nat) (hy : y < 18446744073709551616) (hq : q < 128) : bits BinOp.or IntKind.u64 (IntKind.u64.wrap ((y : Int) * 128)) (q : Int) = ((128 * y % 18446744073709551616 + q : Nat) : Int) := by
  rw [IntKind.wrap_u64, show (y : Int) * 128 % 18446744073709551616 = ((128 * y % 18446744073709551616 : Nat) : Int) by omega]
  exact or_low 7 _ q (by omega) (by omega) hq (by omega)
theorem or_shl8 (acc j q : Nat) (ha : acc < 256 ^ j) (hq : q < 256) (hj : j < 8) : bits BinOp.or IntKind.u64 (IntKind.u64.wrap ((acc : Int) * 256)) (q : Int) = ((acc * 256 + q : Nat) : Int) := by
  have h1 : acc * 256 < 18446744073709551616 := by
    have : 256 ^ j ≤ 256 ^ 7 := Nat.pow_le_pow_right (by omega) (by omega)
    omega
  rw [show (acc : Int) * 256 = ((acc * 256 : Nat) : Int) by omega, IntKind.wrap_u64, Int.emod_eq_of_lt (by omega) (by omega)]
  exact or_low 8 _ q h1 (by omega) hq (by omega)
/-- The number that bytes of a varint spell, whatever their form. -/
def val : List UInt8 → Nat
  | [] => 0
  | b :: r => b.toNat % 128 + 128 * val r
theorem val_snoc (l : List UInt8) (b : UInt8) : val (l ++ [b]) = val l + 128 ^ l.length * (b.toNat % 128) := by
  induction l with
  | nil => simp [val]
  | cons a r ih => simp only [List.cons_append, val, ih, List.length_cons, Nat.pow_succ, Nat.mul_add]; rw [Nat.mul_comm (128 ^ r.length) 128, Nat.mul_assoc]; omega
theorem val_take (l : List UInt8) (k : Nat) (h : k < l.length) : val (l.take (k + 1)) = val (l.take k) + 128 ^ k * (l[k].toNat % 128) := by
  rw [List.take_succ_eq_append_getElem h, val_snoc, List.length_take, Nat.min_eq_left (by omega)]
theorem dv_skip (l : List UInt8) : ∀ k, k ≤ l.length → (∀ j (h : j < l.length), j < k → 128 ≤ l[j].toNat) →
    dv 0 l = none ∨ dv 0 l = (dv k (l.drop k)).map fun p => (val (l.take k) + 128 ^ k * p.1, k + p.2)
  | 0, _, _ => .inr (by simp [val])
  | k + 1, hk, hb => by
    rcases dv_skip l k (by omega) (fun j h hj => hb j h (by omega)) with h | h
    · exact .inl h
    · by_cases h1 : 10 ≤ k ∨ (k = 9 ∧ 1 < l[k].toNat % 128)
      · left
        rw [h, List.drop_eq_getElem_cons (by omega), dv, if_pos h1]; rfl
      · right
        rw [val_take l k (by omega)]
        exact dv_more l k _ (by omega) h1 (hb k (by omega) (by omega)) h
theorem dv_stop (l : List UInt8) (k : Nat) (hk : k ≤ l.length) (hb : ∀ j (h : j < l.length), j < k → 128 ≤ l[j].toNat) (he : k = l.length ∨ 10 ≤ k) : dv 0 l = none := by
  rcases dv_skip l k hk hb with h | h
  · exact h
  · rcases he with rfl | he
    · rw [h, List.drop_length]; rfl
    · rw [h, dv_ten k he]; rfl
def M : Nat := 18446744073709551616
theorem lim_zero : lim 0 = M := rfl
theorem dv_yes (l : List UInt8) (k z : Nat) (hz : z < M) (h : uvarint z = l.take (k + 1)) (hk : k < l.length) : dv 0 l = some (z, k + 1) := by
  have e := dv_of l 0 z (l.drop (k + 1)) (by rw [h, List.take_append_drop]) (by rw [lim_zero]; exact hz) (fun h => absurd h (by omega)) (by omega)
  rw [e, h, List.length_take, Nat.min_eq_left (by omega)]
theorem dv_no (l : List UInt8) (k : Nat) (hk : k < l.length) (hb : ∀ j (h : j < l.length), j < k → 128 ≤ l[j].toNat) (hl : l[k].toNat < 128)
    (hne : uvarint (val (l.take (k + 1)) % M) ≠ l.take (k + 1)) : dv 0 l = none := by
  cases hd : dv 0 l with
  | none => rfl
  | some p =>
    obtain ⟨z, s⟩ := p
    exfalso
    rcases dv_skip l k (by omega) hb with h | h
    · rw [h] at hd; cases hd
    · obtain ⟨a1, _, a3, a4⟩ := dv_some l 0 z s (by omega) hd
      rw [hd, List.drop_eq_getElem_cons hk, dv] at h
      by_cases h1 : 10 ≤ k ∨ (k = 9 ∧ 1 < l[k].toNat % 128)
      · rw [if_pos h1] at h; cases h
      rw [if_neg h1, if_neg (by omega)] at h
      by_cases h3 : 0 < k ∧ l[k].toNat = 0
      · rw [if_pos h3] at h; cases h
      rw [if_neg h3] at h
      simp only [Option.map_some, Option.some.injEq, Prod.mk.injEq] at h
      obtain ⟨rfl, rfl⟩ := h
      have ev : val (l.take (k + 1)) = val (l.take k) + 128 ^ k * l[k].toNat := by rw [val_take l k hk, Nat.mod_eq_of_lt hl]
      rw [lim_zero] at a1
      apply hne
      rw [ev, Nat.mod_eq_of_lt a1]
      have := congrArg (List.take (k + 1)) a4
      rw [List.take_append_of_le_length (by omega), List.take_of_length_le (by omega)] at this
      exact this
/-- One step of the reference's sum, from the last byte to the first. -/
theorem val_drop (t : List UInt8) (i : Nat) (h : i < t.length) : val (t.drop i) % M = 128 * (val (t.drop (i + 1)) % M) % M + t[i].toNat % 128 := by
  rw [List.drop_eq_getElem_cons h]
  simp only [val]; unfold M; omega
theorem unzig_zig (n : Int) : unzigzag (zigzag n) = n := by
  unfold unzigzag zigzag; split <;> split <;> omega
theorem zig_unzig (z : Nat) : zigzag (unzigzag z) = z := by
  unfold unzigzag zigzag; split <;> split <;> omega
theorem unzig_bd (z : Nat) (h : z < M) : -9223372036854775808 ≤ unzigzag z ∧ unzigzag z ≤ 9223372036854775807 := by
  unfold unzigzag; unfold M at h; split <;> omega

/-- Big-endian. -/
def be (l : List UInt8) : Nat := l.foldl (fun a b => a * 256 + b.toNat) 0
theorem be_snoc (l : List UInt8) (b : UInt8) : be (l ++ [b]) = be l * 256 + b.toNat := by unfold be; rw [List.foldl_append]; rfl
theorem be_take (l : List UInt8) (k : Nat) (h : k < l.length) : be (l.take (k + 1)) = be (l.take k) * 256 + l[k].toNat := by
  rw [List.take_succ_eq_append_getElem h, be_snoc]
theorem be_lt (l : List UInt8) : ∀ k, k ≤ l.length → be (l.take k) < 256 ^ k
  | 0, _ => by simp [be]
  | k + 1, h => by
    rw [be_take l k (by omega), Nat.pow_succ]
    have := be_lt l k (by omega)
    have := u8lt l[k]
    omega
theorem be_lt8 (l : List UInt8) (h : l.length = 8) : be l < M := by
  have := be_lt l 8 (by omega)
  rw [List.take_of_length_le (by omega)] at this
  exact this
theorem keyB_len (k : Nat) : (keyB k).length = 8 := rfl
theorem kb_nat (k i : Nat) : (kb k i).toNat = k / 256 ^ (7 - i) % 256 := by unfold kb; rw [u8m]
theorem be_keyB (k : Nat) (h : k < M) : be (keyB k) = k := by
  unfold keyB be
  simp only [List.foldl_cons, List.foldl_nil, kb_nat]
  unfold M at h
  omega
theorem keyB_be (l : List UInt8) (h : l.length = 8) : keyB (be l) = l := by
  match l, h with
  | [b0, b1, b2, b3, b4, b5, b6, b7], _ =>
    have h0 := u8lt b0
    have h1 := u8lt b1
    have h2 := u8lt b2
    have h3 := u8lt b3
    have h4 := u8lt b4
    have h5 := u8lt b5
    have h6 := u8lt b6
    have h7 := u8lt b7
    have e : ∀ i (b : UInt8), be [b0, b1, b2, b3, b4, b5, b6, b7] / 256 ^ (7 - i) % 256 = b.toNat → kb (be [b0, b1, b2, b3, b4, b5, b6, b7]) i = b := by
      intro i b hh
      apply UInt8.toNat.inj
      rw [kb_nat, hh]
    unfold keyB
    rw [e 0 b0, e 1 b1, e 2 b2, e 3 b3, e 4 b4, e 5 b5, e 6 b6, e 7 b7]
    all_goals
      unfold be
      simp only [List.foldl_cons, List.foldl_nil]
      omega
/-- What a Cursor does, told without memory: none: it has failed; some l: l remains. -/
def nxtI (st : Option (List UInt8)) : Option (List UInt8) := st.bind fun l => (dv 0 l).map fun p => l.drop p.2
def resI (st : Option (List UInt8)) : Int := match st.bind (dv 0) with | some p => unzigzag p.1 | none => 0
def fits (n : Int) (l : List UInt8) : Bool := decide (0 ≤ n) && decide (n ≤ l.length)
def nxtS (st : Option (List UInt8)) : Option (List UInt8) := (nxtI st).bind fun l => if fits (resI st) l then some (l.drop (resI st).toNat) else none
def resS (st : Option (List UInt8)) : List UInt8 := match nxtI st with | some l => if fits (resI st) l then l.take (resI st).toNat else [] | none => []
def okR (l : List UInt8) : Bool := decide (8 ≤ l.length) && ofB (be (l.take 8))
def nxtR (st : Option (List UInt8)) : Option (List UInt8) := st.bind fun l => if okR l then some (l.drop 8) else none
def resR (st : Option (List UInt8)) : Nat := match st with | some l => if okR l then unkN (be (l.take 8)) else 0 | none => 0
theorem dv_enc (n : Int) (h0 : -9223372036854775808 ≤ n) (h1 : n ≤ 9223372036854775807) (r : List UInt8) : dv 0 (encI n ++ r) = some (zigzag n, (encI n).length) :=
  dv_of _ 0 _ r rfl (Lib.zigzag_lt h0 h1) (fun h => absurd h (by omega)) (by omega)
theorem nxtI_enc (n : Int) (h0 : -9223372036854775808 ≤ n) (h1 : n ≤ 9223372036854775807) (r : List UInt8) : nxtI (some (encI n ++ r)) = some r := by
  simp [nxtI, dv_enc n h0 h1]
theorem resI_enc (n : Int) (h0 : -9223372036854775808 ≤ n) (h1 : n ≤ 9223372036854775807) (r : List UInt8) : resI (some (encI n ++ r)) = n := by
  simp [resI, dv_enc n h0 h1, unzig_zig]
theorem nxtS_enc (s r : List UInt8) (h : s.length ≤ 9223372036854775807) : nxtS (some (encS s ++ r)) = some r := by
  have e : encS s ++ r = encI s.length ++ (s ++ r) := by unfold encS; rw [List.append_assoc]
  unfold nxtS
  rw [e, nxtI_enc _ (by omega) (by omega), resI_enc _ (by omega) (by omega)]
  have hf : fits (s.length : Int) (s ++ r) = true := by simp [fits]; omega
  simp [hf]
theorem resS_enc (s r : List UInt8) (h : s.length ≤ 9223372036854775807) : resS (some (encS s ++ r)) = s := by
  have e : encS s ++ r = encI s.length ++ (s ++ r) := by unfold encS; rw [List.append_assoc]
  unfold resS
  rw [e, nxtI_enc _ (by omega) (by omega), resI_enc _ (by omega) (by omega)]
  have hf : fits (s.length : Int) (s ++ r) = true := by simp [fits]; omega
  simp [hf]
theorem encR_okR (f : Nat) (hf : f < 2 * S) (r : List UInt8) : okR (encR f ++ r) = true ∧ be ((encR f ++ r).take 8) = keyN f := by
  have e : (encR f ++ r).take 8 = keyB (keyN f) := by
    unfold encR; rw [List.take_append_of_le_length (by rw [keyB_len]; omega), List.take_of_length_le (by rw [keyB_len]; omega)]
  have hb : be ((encR f ++ r).take 8) = keyN f := by rw [e]; exact be_keyB _ (Fl.keyN_lt f hf)
  refine ⟨?_, hb⟩
  unfold okR
  rw [hb, Fl.ofB_keyN f hf]
  simp [encR, keyB_len]
theorem nxtR_enc (f : Nat) (hf : f < 2 * S) (r : List UInt8) : nxtR (some (encR f ++ r)) = some r := by
  have h := (encR_okR f hf r).1
  have h2 : (encR f ++ r).drop 8 = r := by unfold encR; rw [List.drop_append_of_le_length (by rw [keyB_len]; omega), List.drop_of_length_le (by rw [keyB_len]; omega)]; rfl
  unfold nxtR
  simp only [Option.bind_some, h, if_true, h2]
theorem resR_enc (f : Nat) (hf : f < 2 * S) (r : List UInt8) : resR (some (encR f ++ r)) = Fl.normN f := by
  obtain ⟨h1, h2⟩ := encR_okR f hf r
  unfold resR
  simp only [h1, if_true, h2]
  exact Fl.unkN_keyN f hf
end Lb
end Go.Proofs.Ytdhpphbgobakhaa
