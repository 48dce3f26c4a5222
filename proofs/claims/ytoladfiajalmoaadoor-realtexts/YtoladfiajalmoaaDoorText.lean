/- What strconv.FormatUint at base 16, strings.Repeat of a zero, real.Text and the reference's Key and Text return: contracts. Condition: the table math/bits.deBruijn64tab holds 4 at place 15. -/
import Derived.Test.YtoladfiajalmoaaDoorWalk
import Derived.Laws.IdiomStrings
import Derived.Laws.Rows
import Derived.Laws.OwnMore
import Derived.Below
namespace Go.Proofs.YtoladfiajalmoaaDoor
open Go.ChangeShapes Go.WideShapes Go.ChangeAt Go.RowKit
open Fl (S IR nanB normN keyN NaNw cmpK unkN ofB)
theorem pow2_any (w : World) : Calls Tryd.prog 50 #[.int .i64 16] w fun e w' => e = .returned (.bool true) ∧ w = w' := by
  have h : bits .and .i64 16 15 = 0 := by decide
  go_enter Tryd.func50, Tryd.ntmps50
  go_wp2
  all_goals (go_ret; exact ⟨rfl, rfl⟩)
theorem tz_any (w : World) (hT : w.cell? ⟨4, 15, none⟩ = some (.int .u8 4)) : Calls Tryd.prog 55 #[.int .u64 16] w fun e w' => e = .returned (.int .i64 4) ∧ w = w' := by
  have h1 : bits .and .u64 16 (IntKind.u64.wrap (-16)) = 16 := by decide
  go_enter Tryd.func55, Tryd.ntmps55
  go_wp2
  all_goals (go_ret; exact ⟨rfl, rfl⟩)
theorem tz0_any (w : World) (hT : w.cell? ⟨4, 15, none⟩ = some (.int .u8 4)) : Calls Tryd.prog 51 #[.int .u64 16] w fun e w' => e = .returned (.int .i64 4) ∧ w = w' := by
  go_enter Tryd.func51, Tryd.ntmps51
  go_wp2_with (go_at_call 55; refine (tz_any _ (by assumption)).mono ?_; rintro e w' ⟨rfl, rfl⟩)
  all_goals (go_ret; exact ⟨rfl, rfl⟩)
def Z65 : Array Value := Array.replicate 65 (.int .u8 0)
theorem zinfo : (Tryd.prog.info? 73).map (·.zero) = some (some (.agg Z65)) := by kernel_rfl
theorem zero65 (W : World) : (zeroValue 73).run Tryd.prog W = .ok (.agg Z65) W := by
  cases h : Tryd.prog.info? 73 with
  | none => have := zinfo; rw [h] at this; cases this
  | some i =>
    have hz : i.zero = some (.agg Z65) := by have := zinfo; rw [h] at this; simpa using this
    simp [zeroValue, typeInfo, h, hz]
def hexd (n : Nat) : Nat := if n < 10 then 48 + n else 87 + n
def arr (k : Nat) : Nat → Array Value
  | 0 => Z65
  | j + 1 => (arr k j).setIfInBounds (64 - j) (.int .u8 (hexd (k / 16 ^ j % 16)))
theorem arr_size (k j : Nat) : (arr k j).size = 65 := by
  induction j with
  | zero => rfl
  | succ j ih => rw [arr, Array.size_setIfInBounds, ih]
theorem and15 (u : Nat) (h : u < 2 * S) : bits .and .u64 (u : Int) 15 = ((u % 16 : Nat) : Int) := by
  have e := bits_and_u64_nat u 15 (by unfold S at h; omega) (by decide)
  rw [show ((15 : Nat) : Int) = 15 from rfl] at e
  rw [e, show (15 : Nat) = 2 ^ 4 - 1 by decide, Nat.and_two_pow_sub_one_eq_mod]
theorem dig (n : Nat) (h : n < 16) (h' : n < (ByteArray.mk #[48, 49, 50, 51, 52, 53, 54, 55, 56, 57, 97, 98, 99, 100, 101, 102, 103, 104, 105, 106, 107, 108, 109, 110, 111, 112, 113, 114, 115, 116, 117, 118, 119, 120, 121, 122]).size) :
    (ByteArray.mk #[48, 49, 50, 51, 52, 53, 54, 55, 56, 57, 97, 98, 99, 100, 101, 102, 103, 104, 105, 106, 107, 108, 109, 110, 111, 112, 113, 114, 115, 116, 117, 118, 119, 120, 121, 122])[n].toNat = hexd n := by
  rcases n with _|_|_|_|_|_|_|_|_|_|_|_|_|_|_|_|n <;> first | rfl | omega
def hexL (k : Nat) : Nat → List UInt8
  | 0 => []
  | n + 1 => UInt8.ofNat (hexd (k / 16 ^ n % 16)) :: hexL k n
theorem hexL_length (k n : Nat) : (hexL k n).length = n := by
  induction n with
  | zero => rfl
  | succ n ih => rw [hexL, List.length_cons, ih]
theorem hexd_lt (n : Nat) (h : n < 16) : hexd n < 256 := by unfold hexd; split <;> omega
theorem arr_at (k n t : Nat) (hn : n ≤ 65) (ht : t < n) (h : t < (hexL k n).length) : (arr k n)[65 - n + t]? = some (.int .u8 ((hexL k n)[t].toNat : Int)) := by
  induction n generalizing t with
  | zero => omega
  | succ n ih =>
    have hs := arr_size k n
    rw [arr, Array.getElem?_setIfInBounds]
    rcases t with _ | t
    · have hm : k / 16 ^ n % 16 < 16 := Nat.mod_lt _ (by decide)
      rw [if_pos (by omega), if_pos (by omega)]
      simp only [hexL, List.getElem_cons_zero]
      rw [UInt8.toNat_ofNat_of_lt' (hexd_lt _ hm)]
    · rw [if_neg (by omega), show 65 - (n + 1) + (t + 1) = 65 - n + t by omega]
      have := ih t (by omega) (by omega) (by rw [hexL_length]; omega)
      simp only [hexL, List.getElem_cons_succ]
      exact this
theorem slice65 (b j : Nat) (hj : j ≤ 15) (W : World) : (Instr.sliceAt 73 (.pointer (some ⟨b, 0, none⟩)) (some (.int .i64 (65 - (j : Int) - 1))) none none).run Tryd.prog W = .ok (.slice (some ⟨b, 64 - j, none⟩) (j + 1) (j + 1)) W := by
  have hal : Tryd.prog.arrayLen 73 = 65 := by kernel_rfl
  have hel : Tryd.prog.elem 73 = 5 := by kernel_rfl
  rw [run_sliceAt_array_l W 73 ⟨b, 0, none⟩ (by rw [hal, hel]; exact Tryd.underlying73) .i64 (65 - (j : Int) - 1) (by omega) (by rw [hal]; omega)]
  rw [hal, hel]
  go_simp
  rw [if_neg (by omega), show 65 - j - 1 = 64 - j by omega]
  exact ⟨rfl, by omega⟩
theorem conv65 (w : World) (k j : Nat) (hj : j ≤ 15) : (convert 48 9 (.slice (some ⟨w.heap.size, 64 - j, none⟩) (j + 1) (j + 1))).run Tryd.prog (w.alloc (.cells (arr k (j + 1)) 73)) = .ok (.string ⟨(hexL k (j + 1)).toArray⟩) (w.alloc (.cells (arr k (j + 1)) 73)) := by
  have := run_convert_bytes_back (P := Tryd.prog) (w.alloc (.cells (arr k (j + 1)) 73)) 48 9 5 ⟨w.heap.size, 64 - j, none⟩ (j + 1) (hexL k (j + 1)) Tryd.underlying48 Tryd.underlying5 Tryd.underlying9 (by
    intro t ht
    have e : (Addr.add ⟨w.heap.size, 64 - j, none⟩ t) = ⟨w.heap.size, 65 - (j + 1) + t, none⟩ := by unfold Addr.add; split <;> simp_all <;> omega
    rw [e, cell_of_row _ _ (65 - (j + 1) + t) (arr k (j + 1)) 73 (0, 0) (heap_alloc_new w _)]
    exact arr_at k (j + 1) t (by omega) (by rw [hexL_length] at ht; exact ht) ht)
  rw [hexL_length] at this
  exact this
/-- The first j of sixteen digits. -/
def hexT (k : Nat) (j : Nat) : List UInt8 := (hexL k 16).take j
theorem hexL_get (k : Nat) : ∀ (n j : Nat) (h : j < (hexL k n).length) (_ : j < n), (hexL k n)[j] = UInt8.ofNat (hexd (k / 16 ^ (n - 1 - j) % 16))
  | 0, j, _, h => by omega
  | n + 1, 0, _, _ => by simp [hexL]
  | n + 1, j + 1, h, h2 => by
    simp only [hexL, List.getElem_cons_succ]
    rw [hexL_get k n j (by rw [hexL_length]; omega) (by omega), show n + 1 - 1 - (j + 1) = n - 1 - j by omega]
theorem hexT_succ (k j : Nat) (h : j < 16) : hexT k (j + 1) = hexT k j ++ [UInt8.ofNat (hexd (k / 16 ^ (15 - j) % 16))] := by
  have hl : j < (hexL k 16).length := by rw [hexL_length]; exact h
  unfold hexT
  rw [List.take_succ_eq_append_getElem hl, hexL_get k 16 j hl h]
theorem dig1 (d : Nat) (h : d < 16) : ((ByteArray.mk #[48, 49, 50, 51, 52, 53, 54, 55, 56, 57, 97, 98, 99, 100, 101, 102]).extract d (d + 1)).data = #[UInt8.ofNat (hexd d)] := by
  rcases d with _|_|_|_|_|_|_|_|_|_|_|_|_|_|_|_|d <;> first | rfl | omega
theorem sliceD (d : Nat) (h : d < 16) (W : World) : (Instr.slice 9 (.string ⟨#[48, 49, 50, 51, 52, 53, 54, 55, 56, 57, 97, 98, 99, 100, 101, 102]⟩) (some (.int .i64 (d : Int))) (some (.int .i64 ((d : Int) + 1))) none).run Tryd.prog W = .ok (.string ⟨#[UInt8.ofNat (hexd d)]⟩) W := by
  have hsz : (ByteArray.mk #[48, 49, 50, 51, 52, 53, 54, 55, 56, 57, 97, 98, 99, 100, 101, 102]).size = 16 := rfl
  rw [run_slice_string W 9 _ .i64 .i64 (d : Int) ((d : Int) + 1) Tryd.underlying9 (by omega) (by omega) (by rw [hsz]; omega)]
  rw [show ((d : Int) + 1).toNat = d + 1 by omega, Int.toNat_natCast]
  exact congrArg (fun b => Result.ok (Value.string b) W) (ByteArray.ext (dig1 d h))
def Drawn (w w' : World) : Prop := ∃ m, w' = w.drewN m
theorem rkey_any (x : Nat) (hx : x < 2 * S) (w : World) : Calls Tryd.prog 14 #[.float .f64 x] w fun e w' => e = .returned (.int .u64 (keyN x : Nat)) ∧ w = w' := by
  have hn := Fl.normN_lt x hx
  have Hk := Lib.hid (fun W => rnorm_any x W)
  by_cases h : normN x < S
  · have hb : ((normN x : Int) / 9223372036854775808 == 1) = false := by unfold S at h; simp; omega
    have Hv := Lib.hid (show bits BinOp.or IntKind.u64 (↑(normN x)) 9223372036854775808 = ((keyN x : Nat) : Int) by rw [Fl.orS _ h, keyN, if_pos h])
    clear hn hx
    go_enter Tryd.func14, Tryd.ntmps14
    go_wp2_with fail
    refine (Hk.out _).mono ?_
    rintro e w' ⟨rfl, rfl⟩
    go_wp2_with fail
    all_goals (go_ret; exact ⟨ret_u Hv.out, rfl⟩)
  · have hb : ((normN x : Int) / 9223372036854775808 == 1) = true := by unfold S at h hn; simp; omega
    have Hv := Lib.hid (show bits BinOp.xor IntKind.u64 IntKind.u64.max (↑(normN x)) = ((keyN x : Nat) : Int) by rw [Fl.xorM _ hn, keyN, if_neg h])
    clear hn hx
    go_enter Tryd.func14, Tryd.ntmps14
    go_wp2_with fail
    refine (Hk.out _).mono ?_
    rintro e w' ⟨rfl, rfl⟩
    go_wp2_with fail
    all_goals (go_ret; exact ⟨ret_u Hv.out, rfl⟩)
theorem fb (k : Nat) (w : World) (hk : k < 2 * S) (hk0 : 281474976710656 ≤ k) (hT : w.cell? ⟨4, 15, none⟩ = some (.int .u8 4)) :
    Calls Tryd.prog 41 #[.slice none 0 0, .int .u64 (k : Int), .int .i64 16, .bool false, .bool false] w fun e w' => ∃ n, 13 ≤ n ∧ n ≤ 16 ∧ k < 16 ^ n ∧ e = .returned (.tuple #[.slice none 0 0, .string ⟨(hexL k n).toArray⟩]) ∧ Below w.heap.size w w' := by
  have hT2 : ∀ o, (w.alloc o).cell? ⟨4, 15, none⟩ = some (.int .u8 4) := fun o => by rw [World.cell?_alloc_lt w o _ (World.block_lt_of_cell? w _ hT)]; exact hT
  have HT2 := Lib.hid hT2
  have hz := zero65
  have h64 : k < 18446744073709551616 := by unfold S at hk; omega
  have Hh := Lib.hid h64
  clear hT2 hT h64 hk
  go_enter Tryd.func41, Tryd.ntmps41
  go_wp2_with fail
  refine (pow2_any _).mono ?_
  rintro e w' ⟨rfl, rfl⟩
  go_wp2_with fail
  refine (tz0_any _ (HT2.out _)).mono ?_
  rintro e w' ⟨rfl, rfl⟩
  go_wp2_with fail
  go_loopw [1, 13] (fun u i w1 => ∃ j : Nat, j ≤ 15 ∧ u = .int .u64 ((k / 16 ^ j : Nat) : Int) ∧ i = .int .i64 (65 - j : Int) ∧ w1 = w.alloc (.cells (arr k j) 73)) (fun u _ _ => (intOf u).toNat)
  case atStart => exact ⟨0, by omega, by simp, by simp, rfl⟩
  case round =>
    obtain ⟨j, hj, rfl, rfl, rfl⟩ := hrel
    have hub : k / 16 ^ j < 2 * S := Nat.lt_of_le_of_lt (Nat.div_le_self _ _) (by have := Hh.out; unfold S; omega)
    have ha := and15 (k / 16 ^ j) hub
    clear hub
    have Hu1 := Lib.hid (show k / 16 ^ j / 16 = k / 16 ^ (j + 1) by rw [Nat.div_div_eq_div_mul, Nat.pow_succ])
    have Harr := Lib.hid (show (arr k j).setIfInBounds (65 - j - 1) (.int .u8 (hexd (k / 16 ^ j % 16))) = arr k (j + 1) by rw [arr, show 65 - j - 1 = 64 - j by omega])
    have H15 := Lib.hid (show k / 16 ^ 15 < 16 by have := Hh.out; omega)
    generalize hu : k / 16 ^ j = u at *
    have Hu := Lib.hid hu
    clear hu
    have hc : (arr k j)[65 - j - 1]? = some (arr k j)[65 - j - 1]! := by
      have hs := arr_size k j
      rw [getElem!_pos _ _ (by omega), Array.getElem?_eq_getElem]
    have hm : u % 16 < 16 := Nat.mod_lt _ (by decide)
    by_cases hlt : 16 ≤ u
    · have Hj : Hid (j + 1 ≤ 15) := by
        rcases Nat.lt_or_eq_of_le hj with h | h
        · exact h
        · exfalso; subst h; have := H15.out; rw [Hu.out] at this; omega
      have Hd := Lib.hid (dig (u % 16) hm)
      go_wp2_with fail
      exact ⟨⟨j + 1, Hj.out, by rw [← Hu1.out]; simp, by simp; omega, by rw [← Harr.out, ← Hd.out]⟩, by simp [intOf]; omega⟩
    · have hlt2 : u < 16 := by omega
      have Hd := Lib.hid (dig u hlt2)
      have Hmod := Lib.hid (Nat.mod_eq_of_lt hlt2)
      have Hlo := Lib.hid (show 12 ≤ j by
        rcases Nat.lt_or_ge j 12 with h | h
        · exfalso
          have h1 : 16 ^ j ≤ 16 ^ 11 := Nat.pow_le_pow_right (by decide) (by omega)
          have h2 : k / 16 ^ 11 ≤ k / 16 ^ j := Nat.div_le_div_left h1 (Nat.pow_pos (by decide))
          rw [Hu.out] at h2; omega
        · exact h)
      have Hhi := Lib.hid (show k < 16 ^ (j + 1) by
        have h1 := Hu.out
        have h2 : k / 16 ^ j < 16 := by omega
        have h3 := (Nat.div_lt_iff_lt_mul (Nat.pow_pos (by decide))).1 h2
        rw [Nat.pow_succ, Nat.mul_comm]; exact h3)
      have hsl := slice65 w.heap.size j hj
      have hcv := conv65 w k j hj
      go_wp2_with fail
      rw [Hd.out]
      rw [Hmod.out] at Harr
      rw [Harr.out]
      clear hc ha
      rw [hcv]
      clear hcv
      go_wp2_with fail
      go_ret2
      exact ⟨j + 1, by have := Hlo.out; omega, by omega, Hhi.out, rfl, (Below.refl _ _).alloc (Nat.le_refl _) _⟩
/-- The string of a number's hexadecimal digits, as many as it has. -/
def HexS (k : Nat) (w : World) (e : Ending) (w' : World) : Prop := ∃ n, 13 ≤ n ∧ n ≤ 16 ∧ k < 16 ^ n ∧ e = .returned (.string ⟨(hexL k n).toArray⟩) ∧ Below w.heap.size w w'
theorem fu (k : Nat) (w : World) (hk : k < 2 * S) (hk0 : 281474976710656 ≤ k) (hT : w.cell? ⟨4, 15, none⟩ = some (.int .u8 4)) :
    Calls Tryd.prog 31 #[.int .u64 (k : Int), .int .i64 16] w (HexS k w) := by
  have Hf := Lib.hid (fb k w hk hk0 hT)
  clear hT hk hk0
  go_enter Tryd.func31, Tryd.ntmps31
  go_wp2_with fail
  refine Hf.out.mono ?_
  rintro e w' ⟨n, h1, h2, h3, rfl, hb⟩
  go_wp2_with fail
  go_ret
  exact ⟨n, h1, h2, h3, rfl, hb⟩
theorem fu0 (k : Nat) (w : World) (hk : k < 2 * S) (hk0 : 281474976710656 ≤ k) (hT : w.cell? ⟨4, 15, none⟩ = some (.int .u8 4)) :
    Calls Tryd.prog 27 #[.int .u64 (k : Int), .int .i64 16] w (HexS k w) := by
  have Hf := Lib.hid (fu k w hk hk0 hT)
  clear hT hk hk0
  go_enter Tryd.func27, Tryd.ntmps27
  go_wp2_with fail
  refine Hf.out.mono ?_
  rintro e w' ⟨n, h1, h2, h3, rfl, hb⟩
  go_wp2_with fail
  go_ret
  exact ⟨n, h1, h2, h3, rfl, hb⟩
theorem mul64_c (c : Int) (w : World) (h : c = 2 ∨ c = 3) : Calls Tryd.prog 43 #[.int .u64 1, .int .u64 c] w fun e w' => e = .returned (.tuple #[.int .u64 0, .int .u64 c]) ∧ w = w' := by
  have b0 : bits .and .u64 0 4294967295 = 0 := by decide
  have b1 : bits .and .u64 1 4294967295 = 1 := by decide
  have b2 : bits .and .u64 2 4294967295 = 2 := by decide
  have b3 : bits .and .u64 3 4294967295 = 3 := by decide
  rcases h with rfl | rfl
  all_goals
    go_enter Tryd.func43, Tryd.ntmps43
    go_wp2
    all_goals (go_ret2; exact ⟨rfl, rfl⟩)
theorem mul_c (c : Int) (w : World) (h : c = 2 ∨ c = 3) : Calls Tryd.prog 32 #[.int .u64 1, .int .u64 c] w fun e w' => e = .returned (.tuple #[.int .u64 0, .int .u64 c]) ∧ w = w' := by
  have Hm := Lib.hid (mul64_c c w h)
  clear h
  go_enter Tryd.func32, Tryd.ntmps32
  go_wp2_with fail
  refine Hm.out.mono ?_
  rintro e w' ⟨rfl, rfl⟩
  go_wp2_with fail
  go_ret2
  exact ⟨rfl, rfl⟩
def hp (s : ByteArray) : Bool := (s.extract 0 1).toList == [48]
theorem hp44 (s : ByteArray) (hs : 1 ≤ s.size) (hm : s.size ≤ 1000) (w : World) : Calls Tryd.prog 44 #[.string s, .string ⟨#[48]⟩] w fun e w' => e = .returned (.bool (hp s)) ∧ w = w' := by
  go_enter Tryd.func44, Tryd.ntmps44
  go_wp2
  all_goals (go_ret; exact ⟨rfl, rfl⟩)
theorem hp33 (s : ByteArray) (hs : 1 ≤ s.size) (hm : s.size ≤ 1000) (w : World) : Calls Tryd.prog 33 #[.string s, .string ⟨#[48]⟩] w fun e w' => e = .returned (.bool (hp s)) ∧ w = w' := by
  have Hm := Lib.hid (hp44 s hs hm w)
  clear hs hm
  go_enter Tryd.func33, Tryd.ntmps33
  go_wp2_with fail
  refine Hm.out.mono ?_
  rintro e w' ⟨rfl, rfl⟩
  go_wp2_with fail
  go_ret
  exact ⟨rfl, rfl⟩
set_option maxRecDepth 100000 in
theorem rep0 (w : World) : Calls Tryd.prog 28 #[.string ⟨#[48]⟩, .int .i64 0] w fun e w' => e = .returned (.string ⟨#[]⟩) ∧ w = w' := by
  go_enter Tryd.func28, Tryd.ntmps28
  go_wp2
  all_goals (go_ret; exact ⟨rfl, rfl⟩)
set_option maxRecDepth 100000 in
theorem rep1 (w : World) : Calls Tryd.prog 28 #[.string ⟨#[48]⟩, .int .i64 1] w fun e w' => e = .returned (.string ⟨#[48]⟩) ∧ w = w' := by
  go_enter Tryd.func28, Tryd.ntmps28
  go_wp2
  all_goals (go_ret; exact ⟨rfl, rfl⟩)
set_option maxRecDepth 100000 in
theorem rep2 (w : World) : Calls Tryd.prog 28 #[.string ⟨#[48]⟩, .int .i64 2] w fun e w' => e = .returned (.string ⟨#[48, 48]⟩) ∧ w = w' := by
  go_enter Tryd.func28, Tryd.ntmps28
  go_wp2_with fail
  refine (mul_c 2 _ (by omega)).mono ?_
  rintro e w' ⟨rfl, rfl⟩
  go_wp2_with fail
  refine (hp33 _ (by decide) (by decide) _).mono ?_
  rintro e w' ⟨rfl, rfl⟩
  rw [show hp _ = false by decide +kernel]
  go_wp2_with fail
  refine (hp33 _ (by decide) (by decide) _).mono ?_
  rintro e w' ⟨rfl, rfl⟩
  rw [show hp _ = false by decide +kernel]
  go_wp2_with fail
  refine (hp33 _ (by decide) (by decide) _).mono ?_
  rintro e w' ⟨rfl, rfl⟩
  rw [show hp _ = true by decide +kernel]
  go_wp2_with fail
  go_ret
  exact ⟨rfl, rfl⟩
set_option maxRecDepth 100000 in
theorem rep3 (w : World) : Calls Tryd.prog 28 #[.string ⟨#[48]⟩, .int .i64 3] w fun e w' => e = .returned (.string ⟨#[48, 48, 48]⟩) ∧ w = w' := by
  go_enter Tryd.func28, Tryd.ntmps28
  go_wp2_with fail
  refine (mul_c 3 _ (by omega)).mono ?_
  rintro e w' ⟨rfl, rfl⟩
  go_wp2_with fail
  refine (hp33 _ (by decide) (by decide) _).mono ?_
  rintro e w' ⟨rfl, rfl⟩
  rw [show hp _ = false by decide +kernel]
  go_wp2_with fail
  refine (hp33 _ (by decide) (by decide) _).mono ?_
  rintro e w' ⟨rfl, rfl⟩
  rw [show hp _ = false by decide +kernel]
  go_wp2_with fail
  refine (hp33 _ (by decide) (by decide) _).mono ?_
  rintro e w' ⟨rfl, rfl⟩
  rw [show hp _ = true by decide +kernel]
  go_wp2_with fail
  go_ret
  exact ⟨rfl, rfl⟩
theorem rep_any (n : Nat) (v : Int) (h1 : 13 ≤ n) (h2 : n ≤ 16) (hv : v = 16 - n) (w : World) : Calls Tryd.prog 28 #[.string ⟨#[48]⟩, .int .i64 v] w fun e w' => e = .returned (.string ⟨(List.replicate (16 - n) 48).toArray⟩) ∧ w = w' := by
  rcases (show n = 13 ∨ n = 14 ∨ n = 15 ∨ n = 16 by omega) with rfl | rfl | rfl | rfl
  · obtain rfl : v = 3 := by omega
    exact rep3 w
  · obtain rfl : v = 2 := by omega
    exact rep2 w
  · obtain rfl : v = 1 := by omega
    exact rep1 w
  · obtain rfl : v = 0 := by omega
    exact rep0 w
theorem hexL_zero (k n : Nat) (h : k < 16 ^ n) : hexL k (n + 1) = 48 :: hexL k n := by
  rw [hexL, Nat.div_eq_of_lt h]; rfl
theorem hexL_pad (k n : Nat) (h : k < 16 ^ n) (hn : 13 ≤ n) (hn2 : n ≤ 16) : hexL k 16 = List.replicate (16 - n) 48 ++ hexL k n := by
  have h16 : ∀ m, n ≤ m → k < 16 ^ m := fun m hm => Nat.lt_of_lt_of_le h (Nat.pow_le_pow_right (by decide) hm)
  rcases (show n = 13 ∨ n = 14 ∨ n = 15 ∨ n = 16 by omega) with rfl | rfl | rfl | rfl
  · rw [hexL_zero k 15 (h16 15 (by omega)), hexL_zero k 14 (h16 14 (by omega)), hexL_zero k 13 (h16 13 (by omega))]; rfl
  · rw [hexL_zero k 15 (h16 15 (by omega)), hexL_zero k 14 (h16 14 (by omega))]; rfl
  · rw [hexL_zero k 15 (h16 15 (by omega))]; rfl
  · rfl
theorem kmin (x : Nat) (hx : x < 2 * S) : 281474976710656 ≤ keyN x := by
  cases h : nanB x
  · have hr := (Fl.nanB_false x).1 h
    have e : normN x = x := by unfold normN; rw [if_neg (by rw [h]; decide)]
    unfold keyN; rw [e]
    unfold Fl.rung at hr
    unfold S IR at *
    split <;> omega
  · unfold keyN normN; rw [if_pos h]; decide
theorem text_any (x : Nat) (hx : x < 2 * S) (w : World) (hT : w.cell? ⟨4, 15, none⟩ = some (.int .u8 4)) :
    Calls Tryd.prog 19 #[.float .f64 x] w fun e w' => e = .returned (.string ⟨(hexL (keyN x) 16).toArray⟩) ∧ Below w.heap.size w w' := by
  have hk := Fl.keyN_lt x hx
  have hk0 := kmin x hx
  have Hf := Lib.hid (fu0 (keyN x) w hk hk0 hT)
  have Hk := Lib.hid (key_any x hx w)
  clear hT hk hk0 hx
  go_enter Tryd.func19, Tryd.ntmps19
  go_wp2_with fail
  refine Hk.out.mono ?_
  rintro e w' ⟨rfl, rfl⟩
  go_wp2_with fail
  refine Hf.out.mono ?_
  rintro e w' ⟨n, h1, h2, h3, rfl, hb⟩
  have Hp := Lib.hid (hexL_pad (keyN x) n h3 h1 h2)
  clear h3
  go_wp2_with fail
  refine (rep_any n _ h1 h2 (by rw [hexL_length]; unfold wrap64; omega) _).mono ?_
  rintro e w'' ⟨rfl, rfl⟩
  have hl : (hexL (keyN x) n).length ≤ 16 := by rw [hexL_length]; exact h2
  go_wp2_with fail
  go_ret
  exact ⟨congrArg (fun b => Ending.returned (.string b)) (ByteArray.ext (by rw [Hp.out]; simp)), hb⟩
theorem rtext_any (x : Nat) (hx : x < 2 * S) (w : World) :
    Calls Tryd.prog 20 #[.float .f64 x] w fun e w' => e = .returned (.string ⟨(hexL (keyN x) 16).toArray⟩) ∧ Drawn w w' := by
  have Hk := Lib.hid (fun W => rkey_any x hx W)
  have Hl := Lib.hid (Fl.keyN_lt x hx)
  clear hx
  generalize keyN x = k at *
  go_enter Tryd.func20, Tryd.ntmps20
  go_wp2_with fail
  refine (Hk.out _).mono ?_
  rintro e w' ⟨rfl, rfl⟩
  go_wp2_with fail
  go_loop [5, 6] (fun s i => ∃ j : Nat, j ≤ 16 ∧ i = .int .i64 (15 - j : Int) ∧ s = .string ⟨(hexT k j).toArray⟩) (fun _ i => (intOf i + 1).toNat)
  case atStart => exact ⟨0, by omega, by simp, by simp [hexT]⟩
  case round =>
    obtain ⟨j, hj, rfl, rfl⟩ := hrel
    by_cases hlt : j < 16
    · have hd : bits .and .u64 ((k : Int) / 2 ^ (4 * (15 - j))) 15 = ((k / 16 ^ (15 - j) % 16 : Nat) : Int) := by
        have e : ((k : Int) / 2 ^ (4 * (15 - j))) = ((k / 16 ^ (15 - j) : Nat) : Int) := by
          rw [show (2 : Int) ^ (4 * (15 - j)) = ((16 ^ (15 - j) : Nat) : Int) by rw [Int.pow_mul]; push_cast; rfl]
          exact (Int.natCast_ediv _ _).symm
        rw [e]
        exact and15 _ (Nat.lt_of_le_of_lt (Nat.div_le_self _ _) Hl.out)
      have hm : k / 16 ^ (15 - j) % 16 < 16 := Nat.mod_lt _ (by decide)
      have HS := Lib.hid (hexT_succ k j hlt)
      generalize k / 16 ^ (15 - j) % 16 = d at *
      have hl : (hexT k j).length ≤ 16 := by unfold hexT; rw [List.length_take, hexL_length]; omega
      have hsl := fun W => sliceD d hm W
      go_wp2_with fail
      exact ⟨⟨j + 1, by omega, by simp; omega, by rw [HS.out]; exact congrArg Value.string (ByteArray.ext (by simp))⟩, by simp [intOf]; omega⟩
    · obtain rfl : j = 16 := by omega
      go_wp2_with fail
      go_ret
      exact ⟨by rw [show hexL k 16 = hexT k 16 by unfold hexT; rw [List.take_of_length_le (by rw [hexL_length]; omega)]]; rfl, 0, rfl⟩
end Go.Proofs.YtoladfiajalmoaaDoor
