/- What the encoders of package leb, and those of the reference, return: contracts. Conditions: the slices read as lists; lengths below 100,000,000. -/
import Derived.Test.YtdhpphbgobakhaaLm
namespace Go.Proofs.Ytdhpphbgobakhaa
set_option maxRecDepth 100000
set_option linter.unusedVariables false
open Go.ChangeShapes Go.WideShapes Go.ChangeAt Go.RowKit
open Lb
open Fl (S IR nanB normN keyN NaNw cmpK unkN ofB)
open Go.Lib (uvarint zigzag uvarint_small uvarint_big unzigzag)

theorem ret_u64 {a b : Int} (h : a = b) : Ending.returned (.int .u64 a) = .returned (.int .u64 b) := by rw [h]
/-- A call's result is a slice of bytes of its own, from block B on, that reads l. -/
def Gives (B : Nat) (l : List UInt8) (w : World) (e : Ending) (w' : World) : Prop := ∃ v, e = .returned v ∧ Own B w' v l ∧ Below B w w'

theorem zig_neg (n : Int) (h0 : -9223372036854775808 ≤ n) (hn : n < 0) : bits BinOp.xor IntKind.u64 IntKind.u64.max (IntKind.u64.wrap (IntKind.u64.wrap n * 2)) = (zigzag n : Nat) := by
  have e : IntKind.u64.wrap (IntKind.u64.wrap n * 2) = ((18446744073709551616 + 2 * n).toNat : Nat) := by
    rw [IntKind.wrap_u64, IntKind.wrap_u64]; omega
  rw [e, Fl.xorM _ (by unfold S; omega)]
  unfold zigzag S; rw [if_neg (by omega)]; omega
theorem zig_pos (n : Int) (h0 : 0 ≤ n) (h1 : n ≤ 9223372036854775807) : n * 2 = (zigzag n : Nat) := by
  unfold zigzag; rw [if_pos (by omega)]; omega
theorem u64_and1' (z : Nat) (hz : z < M) : bits .and .u64 (z : Int) 1 = ((z % 2 : Nat) : Int) := by
  unfold M at hz
  rw [Lib.u64_and1 _ (by omega) (by omega)]; omega
theorem unz_even (z : Nat) (h : z % 2 = 0) : (z : Int) / 2 = unzigzag z := by unfold unzigzag; rw [if_pos h]; omega
theorem unz_odd (z : Nat) (hz : z < M) (h : ¬ z % 2 = 0) : bits .xor .i64 (-1) ((z : Int) / 2) = unzigzag z := by
  unfold M at hz
  rw [show (z : Int) / 2 = ((z / 2 : Nat) : Int) by omega, Lib.i64_not _ (by omega)]
  unfold unzigzag; rw [if_neg h]
theorem copied_any (A : Option Addr) (l : List UInt8) (c : Nat) (w : World) (h : BS w A l c) (hl : l.length ≤ 10000000) :
    Calls Try.prog 37 #[.slice A l.length c] w (Gives w.heap.size l w) := by
  go_enter Try.func37, Try.ntmps37
  go_wp2_with (at_builtin; refine wp_app rfl _ _ rfl w.heap.size _ [] (Own.nil _ _) rfl A l _ c rfl rfl h (by simp; omega) (Nat.le_refl _) ?_)
  intro v' w' h1 h2
  go_wp2
  go_ret
  exact ⟨_, rfl, h1, h2⟩
theorem folded_any (n : Int) (h0 : -9223372036854775808 ≤ n) (h1 : n ≤ 9223372036854775807) (w : World) :
    Calls Try.prog 64 #[.int .i64 n] w fun e w' => e = .returned (.int .u64 (zigzag n : Nat)) ∧ w = w' := by
  by_cases hn : n < 0
  · have Hz := Lib.hid (zig_neg n h0 hn)
    go_enter Try.func64, Try.ntmps64
    go_wp2
    go_ret
    exact ⟨ret_u64 Hz.out, rfl⟩
  · have Hz := Lib.hid (zig_pos n (by omega) h1)
    go_enter Try.func64, Try.ntmps64
    go_wp2
    go_ret
    exact ⟨ret_u64 Hz.out, rfl⟩
theorem unfolded_any (z : Nat) (hz : z < M) (w : World) :
    Calls Try.prog 49 #[.int .u64 (z : Nat)] w fun e w' => e = .returned (.int .i64 (unzigzag z)) ∧ w = w' := by
  have ha := u64_and1' z hz
  by_cases h : z % 2 = 0
  · have hb : (bits BinOp.and IntKind.u64 (↑z) 1 != 0) = false := by rw [ha]; simp; omega
    have Hv := Lib.hid (unz_even z h)
    unfold M at hz
    clear ha h
    go_enter Try.func49, Try.ntmps49
    go_wp2
    go_ret
    exact ⟨ret_i Hv.out, rfl⟩
  · have hb : (bits BinOp.and IntKind.u64 (↑z) 1 != 0) = true := by rw [ha]; simp; omega
    have Hv := Lib.hid (unz_odd z hz h)
    unfold M at hz
    clear ha h
    go_enter Try.func49, Try.ntmps49
    go_wp2
    go_ret
    exact ⟨ret_i Hv.out, rfl⟩
theorem or128 (y : Nat) (b : UInt8) (hb : b = (y % 128 + 128).toUInt8) : bits BinOp.or IntKind.u8 ((y : Int) % 256) 128 = (b.toNat : Nat) := by
  subst hb
  rw [Lib.u8_or128_any _ (by omega) (by omega), u8n (by omega)]; omega
set_option maxRecDepth 100000 in
theorem appendInt_any (B : Nat) (v : Value) (l : List UInt8) (n : Int) (h0 : -9223372036854775808 ≤ n) (h1 : n ≤ 9223372036854775807) (w : World) (hown : Own B w v l) (hB : B ≤ w.heap.size) (hl : l.length ≤ 1000000) :
    Calls Try.prog 38 #[v, .int .i64 n] w (Gives B (l ++ encI n) w) := by
  have H10 := Lib.hid (encI_len n h0 h1).1
  go_enter Try.func38, Try.ntmps38
  go_wp2_with fail
  refine (folded_any _ h0 h1 _).mono ?_
  rintro e w' ⟨rfl, rfl⟩
  have Hz : Hid (zigzag n < M) := Lib.hid (Lib.zigzag_lt h0 h1)
  have Hn := Lib.hid (show encI n = uvarint (zigzag n) from rfl)
  clear h0 h1
  generalize zigzag n = z at *
  go_wp2
  go_loopw [0, 5] (fun v1 i w1 => ∃ (d : List UInt8) (y : Nat), i = .int .u64 y ∧ Hid (y < M ∧ encI n = d ++ uvarint y) ∧ Own B w1 v1 (l ++ d) ∧ Below B w w1) (fun _ i _ => (intOf i).toNat)
  case atStart => exact ⟨[], z, rfl, ⟨Hz.out, by rw [Hn.out]; rfl⟩, by simpa using hown, Below.refl _ _⟩
  case round =>
    obtain ⟨d, y, rfl, Hd, hown1, hbel⟩ := hrel
    have hsz := hbel.size
    have hle : (l ++ d).length ≤ 1000010 := by
      have := congrArg List.length Hd.out.2
      have := H10.out
      simp at *; omega
    have Hle := Lib.hid hle
    have hy := Hd.out.1
    unfold M at hy
    clear hle
    by_cases hlt : 128 ≤ y
    · obtain ⟨b, hb⟩ : ∃ b : UInt8, b = (y % 128 + 128).toUInt8 := ⟨_, rfl⟩
      have Hb := Lib.hid hb
      clear hb
      go_wp2_with (at_builtin; refine wp_app1 rfl _ _ rfl B _ _ b _ hown1 rfl rfl ?c1 ?c2 ?c3 ?_)
      case c1 => exact or128 y b Hb.out
      case c2 => have := Hle.out; omega
      case c3 => omega
      intro v' w1 hown2 hbel2
      have hbel3 := hbel.trans hbel2
      clear hbel2 hbel hown1
      go_wp2
      refine ⟨⟨d ++ [b], y / 128, by go_num, ⟨?_, ?_⟩, by simpa using hown2, hbel3⟩, by simp [intOf]; omega⟩
      · unfold M; omega
      · rw [Hd.out.2, uvarint_big hlt, Hb.out]; simp
    · obtain ⟨b, hb⟩ : ∃ b : UInt8, b = y.toUInt8 := ⟨_, rfl⟩
      have Hb := Lib.hid hb
      clear hb
      have hlt2 : y < 128 := by omega
      go_wp2_with (at_builtin; refine wp_app1 rfl _ _ rfl B _ _ b _ hown1 rfl rfl ?d1 ?d2 ?d3 ?_)
      case d1 => rw [Hb.out, u8n (by omega)]
      case d2 => have := Hle.out; omega
      case d3 => omega
      intro v' w1 hown2 hbel2
      have hbel3 := hbel.trans hbel2
      clear hbel2 hbel hown1
      have Hown := Lib.hid hown2
      clear hown2
      go_wp2
      go_ret
      refine ⟨_, rfl, ?_, hbel3⟩
      rw [Hd.out.2, uvarint_small hlt2, ← Hb.out]
      simpa using Hown.out
set_option maxRecDepth 100000 in
theorem appendKey_any (B : Nat) (v : Value) (l : List UInt8) (k : Nat) (hk : k < M) (w : World) (hown : Own B w v l) (hB : B ≤ w.heap.size) (hl : l.length ≤ 1000000) :
    Calls Try.prog 83 #[v, .int .u64 k] w (Gives B (l ++ keyB k) w) := by
  unfold M at hk
  go_enter Try.func83, Try.ntmps83
  go_wp2
  go_loopw [0, 6] (fun v1 i w1 => ∃ (j : Nat) (d : List UInt8), i = .int .i64 j ∧ j ≤ 8 ∧ Hid (d = (keyB k).take j) ∧ Own B w1 v1 (l ++ d) ∧ Below B w w1) (fun _ i _ => 8 - (intOf i).toNat)
  case atStart => exact ⟨0, [], rfl, by omega, rfl, by simpa using hown, Below.refl _ _⟩
  case round =>
    obtain ⟨j, d, rfl, hj, Hd, hown1, hbel⟩ := hrel
    have hsz := hbel.size
    have Hle : Hid ((l ++ d).length ≤ 1000008) := by
      show (l ++ d).length ≤ 1000008
      rw [Hd.out]; simp [keyB_len]; omega
    by_cases hlt : j < 8
    · obtain ⟨b, hb⟩ : ∃ b : UInt8, b = kb k j := ⟨_, rfl⟩
      have Hb := Lib.hid hb
      clear hb
      go_wp2_with (at_builtin; refine wp_app1 rfl _ _ rfl B _ _ b _ hown1 rfl rfl ?c1 ?c2 ?c3 ?_)
      case c1 => rw [Hb.out]; exact kb_int k j
      case c2 => have := Hle.out; omega
      case c3 => omega
      intro v' w1 hown2 hbel2
      have hbel3 := hbel.trans hbel2
      clear hbel2 hbel hown1
      go_wp2
      refine ⟨⟨j + 1, d ++ [b], by go_num, by omega, ?_, by simpa using hown2, hbel3⟩, by simp [intOf]; omega⟩
      show d ++ [b] = _
      rw [keyB_snoc k j hlt, Hd.out, Hb.out]
    · obtain rfl : j = 8 := by omega
      have hd := Hd.out
      rw [List.take_of_length_le (by rw [keyB_len]; omega)] at hd
      subst hd
      go_wp2
      go_ret
      exact ⟨_, rfl, hown1, hbel⟩
theorem int_any (A : Option Addr) (b : List UInt8) (c : Nat) (L : Option Addr) (ns : List Int) (cl : Nat) (w : World) (hb : BS w A b c) (hr : Row (.int .i64) w L ns) (hw : ∀ n ∈ ns, In64 n)
    (h1 : b.length ≤ 100000) (h2 : ns.length ≤ 10000) : Calls Try.prog 12 #[.slice A b.length c, .slice L ns.length cl] w (Gives w.heap.size (b ++ encIs ns) w) := by
  have HB := Lib.hid hb
  have HR := Lib.hid hr
  have HW := Lib.hid hw
  clear hb hr hw
  go_enter Try.func12, Try.ntmps12
  go_wp2_with fail
  refine (copied_any _ _ _ _ HB.out (by omega)).mono ?_
  rintro e w1 ⟨v, rfl, hown, hbel⟩
  go_wp2
  go_loopw [5, 12] (fun v1 i w2 => ∃ (k : Nat) (d : List UInt8), k ≤ ns.length ∧ i = .int .i64 k ∧ Hid (d = encIs (ns.take k)) ∧ Own w.heap.size w2 v1 (b ++ d) ∧ Below w.heap.size w w2) (fun _ i _ => ns.length - (intOf i).toNat)
  case atStart => exact ⟨0, [], by omega, rfl, rfl, by simpa using hown, hbel⟩
  case round =>
    obtain ⟨k, d, hk, rfl, Hd, hown1, hbel1⟩ := hrel
    have hsz := hbel1.size
    have Hle : Hid ((b ++ d).length ≤ 200000) := by
      show (b ++ d).length ≤ 200000
      have := encIs_len (ns.take k) (fun n hn => HW.out n (List.mem_of_mem_take hn))
      rw [Hd.out]; simp at *; omega
    by_cases hlt : k < ns.length
    · obtain ⟨ad, rfl, hc⟩ := (HR.out.below hbel1) k hlt
      have Hn := Lib.hid (HW.out _ (List.getElem_mem hlt))
      have HS := Lib.hid (encIs_snoc ns k hlt)
      go_wp2_with fail
      refine (appendInt_any w.heap.size _ _ _ Hn.out.1 Hn.out.2 _ hown1 hsz (by have := Hle.out; omega)).mono ?_
      rintro e w2 ⟨v2, rfl, hown2, hbel2⟩
      have hbel3 := hbel1.trans hbel2
      have Hown := Lib.hid hown2
      clear hbel2 hbel1 hown1 hc hown2
      go_wp2
      refine ⟨⟨k + 1, d ++ encI ns[k], hlt, by go_num, ?_, ?_, hbel3⟩, by simp [intOf]; omega⟩
      · show d ++ _ = _
        rw [HS.out, Hd.out]
      · rw [← List.append_assoc]; exact Hown.out
    · obtain rfl : k = ns.length := by omega
      have hd := Hd.out
      rw [List.take_length] at hd
      subst hd
      go_wp2
      go_ret
      exact ⟨_, rfl, hown1, hbel1⟩
theorem real_any (A : Option Addr) (b : List UInt8) (c : Nat) (L : Option Addr) (fs : List Nat) (cl : Nat) (w : World) (hb : BS w A b c) (hr : Row (.float .f64) w L fs) (hw : ∀ n ∈ fs, n < 2 * S)
    (h1 : b.length ≤ 100000) (h2 : fs.length ≤ 10000) : Calls Try.prog 66 #[.slice A b.length c, .slice L fs.length cl] w (Gives w.heap.size (b ++ encRs fs) w) := by
  have HB := Lib.hid hb
  have HR := Lib.hid hr
  have HW := Lib.hid hw
  clear hb hr hw
  go_enter Try.func66, Try.ntmps66
  go_wp2_with fail
  refine (copied_any _ _ _ _ HB.out (by omega)).mono ?_
  rintro e w1 ⟨v, rfl, hown, hbel⟩
  go_wp2
  go_loopw [5, 12] (fun v1 i w2 => ∃ (k : Nat) (d : List UInt8), k ≤ fs.length ∧ i = .int .i64 k ∧ Hid (d = encRs (fs.take k)) ∧ Own w.heap.size w2 v1 (b ++ d) ∧ Below w.heap.size w w2) (fun _ i _ => fs.length - (intOf i).toNat)
  case atStart => exact ⟨0, [], by omega, rfl, rfl, by simpa using hown, hbel⟩
  case round =>
    obtain ⟨k, d, hk, rfl, Hd, hown1, hbel1⟩ := hrel
    have hsz := hbel1.size
    have Hle : Hid ((b ++ d).length ≤ 200000) := by
      show (b ++ d).length ≤ 200000
      have := encRs_len (fs.take k)
      rw [Hd.out]; simp at *; omega
    by_cases hlt : k < fs.length
    · obtain ⟨ad, rfl, hc⟩ := (HR.out.below hbel1) k hlt
      have Hn := Lib.hid (HW.out _ (List.getElem_mem hlt))
      have HS := Lib.hid (encRs_snoc fs k hlt)
      go_wp2_with fail
      refine (key_any _ Hn.out _).mono ?_
      rintro e w2 ⟨rfl, rfl⟩
      go_wp2_with fail
      refine (appendKey_any w.heap.size _ _ _ (Fl.keyN_lt _ Hn.out) _ hown1 hsz (by have := Hle.out; omega)).mono ?_
      rintro e w2 ⟨v2, rfl, hown2, hbel2⟩
      have hbel3 := hbel1.trans hbel2
      have Hown := Lib.hid hown2
      clear hbel2 hbel1 hown1 hc hown2
      go_wp2
      refine ⟨⟨k + 1, d ++ encR fs[k], hlt, by go_num, ?_, ?_, hbel3⟩, by simp [intOf]; omega⟩
      · show d ++ _ = _
        rw [HS.out, Hd.out]
      · rw [← List.append_assoc]; exact Hown.out
    · obtain rfl : k = fs.length := by omega
      have hd := Hd.out
      rw [List.take_length] at hd
      subst hd
      go_wp2
      go_ret
      exact ⟨_, rfl, hown1, hbel1⟩
theorem str_any (A : Option Addr) (b : List UInt8) (c : Nat) (L : Option Addr) (ss : List ByteArray) (cl : Nat) (w : World) (hb : BS w A b c) (hr : Row .string w L ss) (hw : ∀ s ∈ ss, s.size ≤ 9223372036854775807)
    (h1 : (b ++ encSs ss).length ≤ 100000) (h2 : ss.length ≤ 10000) : Calls Try.prog 65 #[.slice A b.length c, .slice L ss.length cl] w (Gives w.heap.size (b ++ encSs ss) w) := by
  have HB := Lib.hid hb
  have HR := Lib.hid hr
  have HW := Lib.hid hw
  have H1 := Lib.hid h1
  have h1' : b.length ≤ 100000 := by simp at h1; omega
  clear hb hr hw h1
  go_enter Try.func65, Try.ntmps65
  go_wp2_with fail
  refine (copied_any _ _ _ _ HB.out (by omega)).mono ?_
  rintro e w1 ⟨v, rfl, hown, hbel⟩
  go_wp2
  go_loopw [5, 12] (fun v1 i w2 => ∃ (k : Nat) (d : List UInt8), k ≤ ss.length ∧ i = .int .i64 k ∧ Hid (d = encSs (ss.take k)) ∧ Own w.heap.size w2 v1 (b ++ d) ∧ Below w.heap.size w w2) (fun _ i _ => ss.length - (intOf i).toNat)
  case atStart => exact ⟨0, [], by omega, rfl, rfl, by simpa using hown, hbel⟩
  case round =>
    obtain ⟨k, d, hk, rfl, Hd, hown1, hbel1⟩ := hrel
    have hsz := hbel1.size
    have Hle : Hid ((b ++ d).length ≤ 100000) := by
      show (b ++ d).length ≤ 100000
      have := encSs_take ss k
      have := H1.out
      rw [Hd.out]; simp at *; omega
    by_cases hlt : k < ss.length
    · obtain ⟨ad, rfl, hc⟩ := (HR.out.below hbel1) k hlt
      have Hn := Lib.hid (HW.out _ (List.getElem_mem hlt))
      have HS := Lib.hid (encSs_snoc ss k hlt)
      have hs1 := encS_len ss[k] Hn.out
      have Hs2 : Hid ((b ++ d).length + (encS ss[k].data.toList).length ≤ 100000) := by
        show (b ++ d).length + (encS ss[k].data.toList).length ≤ 100000
        have e1 := encSs_take ss (k + 1)
        have e2 := H1.out
        rw [HS.out] at e1
        rw [Hd.out]; simp at *; omega
      have hs3 : ss[k].size ≤ 100000 := by have := Hs2.out; omega
      clear hs1
      go_wp2_with fail
      refine (appendInt_any w.heap.size _ _ _ (by omega) (by omega) _ hown1 hsz (by have := Hle.out; omega)).mono ?_
      rintro e w2 ⟨v2, rfl, hown2, hbel2⟩
      have hbel3 := hbel1.trans hbel2
      have hsz2 := hbel3.size
      have Hle2 : Hid ((b ++ d ++ encI ss[k].size).length + ss[k].size ≤ 100000000) := by
        show _ ≤ 100000000
        have := Hle.out
        have := (encI_len (ss[k].size : Int) (by omega) (by omega)).1
        simp at *; omega
      clear hbel2 hbel1 hown1 hc
      go_wp2_with (at_builtin; refine wp_appS rfl _ _ rfl w.heap.size _ _ hown2 rfl _ rfl ?c1 ?c2 ?_)
      case c1 => exact Hle2.out
      case c2 => exact hsz2
      intro v3 w3 hown3 hbel4
      have hbel5 := hbel3.trans hbel4
      have Hown := Lib.hid hown3
      clear hbel4 hbel3 hown3 hown2
      go_wp2
      refine ⟨⟨k + 1, d ++ encS ss[k].data.toList, hlt, by go_num, ?_, ?_, hbel5⟩, by simp [intOf]; omega⟩
      · show d ++ _ = _
        rw [HS.out, Hd.out]
      · have := Hown.out
        unfold encS
        have e : ss[k].data.toList.length = ss[k].size := rfl
        rw [e]
        simpa using this
    · obtain rfl : k = ss.length := by omega
      have hd := Hd.out
      rw [List.take_length] at hd
      subst hd
      go_wp2
      go_ret
      exact ⟨_, rfl, hown1, hbel1⟩
end Go.Proofs.Ytdhpphbgobakhaa
