/- The program's bit, valBytes, edgeBytes of chapter 10: the bytes that they return. Conditions: numbers in the range of Go's types, words of float64 below 2^64, short strings. -/
import Derived.Test.YtdhpphbgobakhaaZf
namespace Go.Proofs.Ytdhpphbgobakhaa
set_option maxRecDepth 100000
set_option linter.unusedVariables false
open Go.ChangeShapes Go.WideShapes Go.ChangeAt Go.RowKit
open Fl (S cmpK keyN normN)
open Val (V cmpV isB ltT)
open Lb
/-- Numbers, a string, a number with places behind bytes, laid in a block of their own. -/
theorem pints_any (A : Option Addr) (b : List UInt8) (c : Nat) (xs : List Int) (cs : Array Value) (n : Nat) (W : World) (hb : BS W A b c) (hx : ∀ x ∈ xs, In64 x) (h1 : b.length ≤ 10000) (h2 : xs.length ≤ 10) (hcs : cs.toList = xs.map (.int .i64)) (hn : n = xs.length) :
    Calls Try.prog 12 #[.slice A b.length c, .slice (some ⟨W.heap.size, 0, none⟩) n n] (W.alloc (.cells cs 3)) (fun e w' => ∃ v, e = .returned v ∧ Own W.heap.size w' v (b ++ encIs xs) ∧ Below W.heap.size W w') := by
  subst hn
  have hr := row_new (.int .i64) W 3 xs cs hcs
  have hal := one_box W (.cells cs 3)
  have hl := encIs_len xs hx
  refine (int_any A b c (some ⟨W.heap.size, 0, none⟩) xs xs.length _ (hb.below hal) hr hx (by omega) (by omega)).mono ?_
  rintro e w' ⟨v, rfl, ho, hbl⟩
  exact ⟨v, rfl, ho.mono hal.size, hal.trans (hbl.mono hal.size)⟩
theorem pstr1_any (A : Option Addr) (b : List UInt8) (c : Nat) (x : ByteArray) (W : World) (hb : BS W A b c) (hx : x.size ≤ 100) (h1 : b.length ≤ 10000) :
    Calls Try.prog 65 #[.slice A b.length c, .slice (some ⟨W.heap.size, 0, none⟩) 1 1] (W.alloc (.cells #[.string x] 9)) (fun e w' => ∃ v, e = .returned v ∧ Own W.heap.size w' v (b ++ encS x.data.toList) ∧ Below W.heap.size W w') := by
  have hr := row_new .string W 9 [x] #[.string x] rfl
  have hal := one_box W (.cells #[.string x] 9)
  have hl := encS_len x (by omega)
  have e1 : encSs [x] = encS x.data.toList := by simp [encSs]
  refine (str_any A b c (some ⟨W.heap.size, 0, none⟩) [x] 1 _ (hb.below hal) hr (by simp; omega) (by rw [e1, List.length_append]; omega) (by simp)).mono ?_
  rintro e w' ⟨v, rfl, ho, hbl⟩
  rw [e1] at ho
  exact ⟨v, rfl, ho.mono hal.size, hal.trans (hbl.mono hal.size)⟩
theorem preal1_any (A : Option Addr) (b : List UInt8) (c : Nat) (x : Nat) (W : World) (hb : BS W A b c) (hx : x < 2 * S) (h1 : b.length ≤ 10000) :
    Calls Try.prog 66 #[.slice A b.length c, .slice (some ⟨W.heap.size, 0, none⟩) 1 1] (W.alloc (.cells #[.float .f64 x] 37)) (fun e w' => ∃ v, e = .returned v ∧ Own W.heap.size w' v (b ++ encR x) ∧ Below W.heap.size W w') := by
  have hr := row_new (.float .f64) W 37 [x] #[.float .f64 x] rfl
  have hal := one_box W (.cells #[.float .f64 x] 37)
  have e1 : encRs [x] = encR x := by simp [encRs]
  refine (real_any A b c (some ⟨W.heap.size, 0, none⟩) [x] 1 _ (hb.below hal) hr (by simpa using hx) (by omega) (by simp)).mono ?_
  rintro e w' ⟨v, rfl, ho, hbl⟩
  rw [e1] at ho
  exact ⟨v, rfl, ho.mono hal.size, hal.trans (hbl.mono hal.size)⟩
theorem bit_any (b : Bool) (w : World) : Calls Try.prog 39 #[.bool b] w fun e w' => e = .returned (.int .i64 (b2i b)) ∧ w = w' := by
  cases b
  all_goals
    go_enter Try.func39, Try.ntmps39
    go_wp2
    go_ret
    exact ⟨rfl, rfl⟩
theorem b2i_in (b : Bool) : In64 (b2i b) := by cases b <;> simp [b2i, In64]
theorem val_box {W W' : World} {g : Nat} {x : V} {cs : Array Value} (h : W.heap[g]? = some (.cells cs 47 (0, 0))) (hcs : cs = #[.int .i64 x.k, .bool x.b, .int .i64 x.n, .float .f64 x.f, .string x.t]) (hb : Below W.heap.size W W') : W'.cell? ⟨g, 0, none⟩ = some (.int .i64 x.k) ∧ W'.cell? ⟨g, 1, none⟩ = some (.bool x.b) ∧ W'.cell? ⟨g, 2, none⟩ = some (.int .i64 x.n) ∧ W'.cell? ⟨g, 3, none⟩ = some (.float .f64 x.f) ∧ W'.cell? ⟨g, 4, none⟩ = some (.string x.t) := by
  subst hcs
  have hq := (hb.block _ (block_of h)).trans h
  refine ⟨?_, ?_, ?_, ?_, ?_⟩ <;> rw [cell_of_row W' g _ _ _ _ hq] <;> rfl
set_option maxHeartbeats 1000000 in
theorem pval_any (x : V) (hk : In64 x.k) (hn : In64 x.n) (hf : x.f < 2 * S) (ht : x.t.size ≤ 100) (w : World) : Calls Try.prog 67 #[vv x] w (Gives w.heap.size (encV x) w) := by
  obtain ⟨V, hV⟩ : ∃ V, V = w.alloc (.cells #[.int .i64 x.k, .bool x.b, .int .i64 x.n, .float .f64 x.f, .string x.t] 47) := ⟨_, rfl⟩
  have hbx : V.heap[w.heap.size]? = some (.cells #[.int .i64 x.k, .bool x.b, .int .i64 x.n, .float .f64 x.f, .string x.t] 47 (0, 0)) := by rw [hV]; exact heap_alloc_new w _
  have hal : Below w.heap.size w V := by rw [hV]; exact one_box w _
  have HX := Lib.hid (fun W (hW : Below V.heap.size V W) => val_box hbx rfl hW)
  have HAL := Lib.hid hal
  have HK := Lib.hid (pints_any none [] 0 [x.k] #[.int .i64 x.k] 1 V (bs_nil V) (by simpa using hk) (by simp) (by simp) rfl rfl)
  rw [show ([] ++ encIs [x.k] : List UInt8) = encI x.k by simp [encIs]] at HK
  have hlk := (encI_len x.k hk.1 hk.2).1
  have HE : Hid (encV x = encI x.k ++ (if x.k = 1 then encI (b2i x.b) else if x.k = 2 then encI x.n else if x.k = 3 then encR x.f else encS x.t.data.toList)) := rfl
  have HI := Lib.hid (fun W A c y (hb : BS W A (encI x.k) c) (hy : In64 y) => pints_any A (encI x.k) c [y] #[.int .i64 y] 1 W hb (by simpa using hy) (by omega) (by simp) rfl rfl)
  have HS := Lib.hid (fun W A c (hb : BS W A (encI x.k) c) => pstr1_any A (encI x.k) c x.t W hb ht (by omega))
  have HR := Lib.hid (fun W A c (hb : BS W A (encI x.k) c) => preal1_any A (encI x.k) c x.f W hb hf (by omega))
  clear hbx hal hlk hf ht
  obtain ⟨k, b, n, f, t⟩ := x
  simp only at HX HK HE HI HS HR hk hn hV
  generalize encV ⟨k, b, n, f, t⟩ = out at *
  by_cases h1 : k = 1
  · subst h1
    rw [if_pos rfl] at HE
    have HB := Lib.hid (fun W => bit_any b W)
    obtain ⟨b0, b1, b2, b3, b4⟩ := HX.out V (Below.refl _ _)
    go_enter Try.func67, Try.ntmps67
    go_upto_region 1 with fail
    rw [← hV]
    clear hV
    go_wp2_with fail
    refine HK.out.mono ?_
    rintro e w1 ⟨v, rfl, ho, hb1⟩
    obtain ⟨A, c, rfl, hbs, _⟩ := ho.open
    have HBS := Lib.hid hbs
    have B1 := Lib.hid hb1
    obtain ⟨d0, d1, d2, d3, d4⟩ := HX.out w1 hb1
    clear ho hbs hb1
    go_wp2_with fail
    (with_reducible refine (HB.out _).mono ?_); rintro e w2 ⟨rfl, rfl⟩
    go_wp2_with fail
    refine (HI.out _ _ _ _ HBS.out (b2i_in b)).mono ?_
    rintro e w3 ⟨v, rfl, ho, hb3⟩
    have HO := Lib.hid ho
    have B3 := Lib.hid (bnext (bnext HAL.out B1.out) hb3)
    have HSZ := Lib.hid (bnext HAL.out B1.out).size
    clear ho hb3
    go_wp2
    go_ret
    refine ⟨_, rfl, ?_, B3.out⟩
    have := HO.out.mono HSZ.out
    rw [HE.out]
    simpa [encIs] using this
  by_cases h2 : k = 2
  · subst h2
    rw [if_neg h1, if_pos rfl] at HE
    clear h1
    obtain ⟨b0, b1, b2, b3, b4⟩ := HX.out V (Below.refl _ _)
    go_enter Try.func67, Try.ntmps67
    go_upto_region 1 with fail
    rw [← hV]
    clear hV
    go_wp2_with fail
    refine HK.out.mono ?_
    rintro e w1 ⟨v, rfl, ho, hb1⟩
    obtain ⟨A, c, rfl, hbs, _⟩ := ho.open
    have HBS := Lib.hid hbs
    have B1 := Lib.hid hb1
    obtain ⟨d0, d1, d2, d3, d4⟩ := HX.out w1 hb1
    clear ho hbs hb1
    go_wp2_with fail
    refine (HI.out _ _ _ _ HBS.out hn).mono ?_
    rintro e w3 ⟨v, rfl, ho, hb3⟩
    have HO := Lib.hid ho
    have B3 := Lib.hid (bnext (bnext HAL.out B1.out) hb3)
    have HSZ := Lib.hid (bnext HAL.out B1.out).size
    clear ho hb3
    go_wp2
    go_ret
    refine ⟨_, rfl, ?_, B3.out⟩
    have := HO.out.mono HSZ.out
    rw [HE.out]
    simpa [encIs] using this
  by_cases h3 : k = 3
  · subst h3
    rw [if_neg h1, if_neg h2, if_pos rfl] at HE
    clear h1 h2
    obtain ⟨b0, b1, b2, b3, b4⟩ := HX.out V (Below.refl _ _)
    go_enter Try.func67, Try.ntmps67
    go_upto_region 1 with fail
    rw [← hV]
    clear hV
    go_wp2_with fail
    refine HK.out.mono ?_
    rintro e w1 ⟨v, rfl, ho, hb1⟩
    obtain ⟨A, c, rfl, hbs, _⟩ := ho.open
    have HBS := Lib.hid hbs
    have B1 := Lib.hid hb1
    obtain ⟨d0, d1, d2, d3, d4⟩ := HX.out w1 hb1
    clear ho hbs hb1
    go_wp2_with fail
    refine (HR.out _ _ _ HBS.out).mono ?_
    rintro e w3 ⟨v, rfl, ho, hb3⟩
    have HO := Lib.hid ho
    have B3 := Lib.hid (bnext (bnext HAL.out B1.out) hb3)
    have HSZ := Lib.hid (bnext HAL.out B1.out).size
    clear ho hb3
    go_wp2
    go_ret
    refine ⟨_, rfl, ?_, B3.out⟩
    have := HO.out.mono HSZ.out
    rw [HE.out]
    simpa [encIs] using this
  have e1 : (k == 1) = false := by simpa using h1
  have e2 : (k == 2) = false := by simpa using h2
  have e3 : (k == 3) = false := by simpa using h3
  rw [if_neg h1, if_neg h2, if_neg h3] at HE
  clear h1 h2 h3
  obtain ⟨b0, b1, b2, b3, b4⟩ := HX.out V (Below.refl _ _)
  go_enter Try.func67, Try.ntmps67
  go_upto_region 1 with fail
  rw [← hV]
  clear hV
  go_wp2_with fail
  refine HK.out.mono ?_
  rintro e w1 ⟨v, rfl, ho, hb1⟩
  obtain ⟨A, c, rfl, hbs, _⟩ := ho.open
  have HBS := Lib.hid hbs
  have B1 := Lib.hid hb1
  obtain ⟨d0, d1, d2, d3, d4⟩ := HX.out w1 hb1
  clear ho hbs hb1
  go_wp2_with fail
  refine (HS.out _ _ _ HBS.out).mono ?_
  rintro e w3 ⟨v, rfl, ho, hb3⟩
  have HO := Lib.hid ho
  have B3 := Lib.hid (bnext (bnext HAL.out B1.out) hb3)
  have HSZ := Lib.hid (bnext HAL.out B1.out).size
  clear ho hb3
  go_wp2
  go_ret
  refine ⟨_, rfl, ?_, B3.out⟩
  have := HO.out.mono HSZ.out
  rw [HE.out]
  simpa [encIs] using this
end Go.Proofs.Ytdhpphbgobakhaa
