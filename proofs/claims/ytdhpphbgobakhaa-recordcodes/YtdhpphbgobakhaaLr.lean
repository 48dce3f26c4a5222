/- What the reference's encoders and the law's own example return: contracts. Conditions: lengths below 100,000. -/
import Derived.Test.YtdhpphbgobakhaaLe
import Derived.Lib.ConvBytes
namespace Go.Proofs.Ytdhpphbgobakhaa
set_option maxRecDepth 100000
set_option linter.unusedVariables false
open Go.ChangeShapes Go.WideShapes Go.ChangeAt Go.RowKit
open Lb
open Fl (S IR nanB normN keyN NaNw cmpK unkN ofB)
open Go.Lib (uvarint zigzag uvarint_small uvarint_big unzigzag)

/-- The loop of the reference's Int, whatever way it was come to. -/
def RI (B : Nat) (n : Int) (w : World) (v1 i : Value) (w1 : World) : Prop := ∃ (d : List UInt8) (y : Nat), i = .int .u64 y ∧ Hid (y < M ∧ encI n = d ++ uvarint y) ∧ Own B w1 v1 d ∧ Below B w w1
set_option maxRecDepth 100000 in
theorem rint_any (n : Int) (h0 : -9223372036854775808 ≤ n) (h1 : n ≤ 9223372036854775807) (w : World) :
    Calls Try.prog 43 #[.int .i64 n] w (Gives w.heap.size (encI n) w) := by
  have H10 := Lib.hid (encI_len n h0 h1).1
  have Hz : Hid (zigzag n < M) := Lib.hid (Lib.zigzag_lt h0 h1)
  by_cases hn : n < 0
  focus
    have Hzn := Lib.hid (zig_neg n h0 hn)
    go_enter Try.func43, Try.ntmps43
    go_wp2
    rw [Hzn.out]
    clear h
  rotate_left
  focus
    have Hzn := Lib.hid (zig_pos n (by omega) h1)
    go_enter Try.func43, Try.ntmps43
    go_wp2
    rw [Hzn.out]
  all_goals
    clear h0 h1 hn Hzn
    generalize hzz : zigzag n = z at *
    have Hzz := Lib.hid hzz
    clear hzz
    go_loopw [4, 3] (fun v1 i w1 => ∃ (d : List UInt8) (y : Nat), i = .int .u64 y ∧ Hid (y < M ∧ encI n = d ++ uvarint y) ∧ Own w.heap.size w1 v1 d ∧ Below w.heap.size w w1) (fun _ i _ => (intOf i).toNat)
    case atStart => exact ⟨[], z, rfl, ⟨Hz.out, by unfold encI; rw [Hzz.out]; rfl⟩, Own.nil _ _, Below.refl _ _⟩
    case round =>
      obtain ⟨d, y, rfl, Hd, hown1, hbel⟩ := hrel
      have hsz := hbel.size
      have Hle : Hid (d.length ≤ 10) := by
        show d.length ≤ 10
        have := congrArg List.length Hd.out.2
        have := H10.out
        simp at *; omega
      have hy := Hd.out.1
      unfold M at hy
      by_cases hlt : 128 ≤ y
      · obtain ⟨b, hb⟩ : ∃ b : UInt8, b = (y % 128 + 128).toUInt8 := ⟨_, rfl⟩
        have Hb := Lib.hid hb
        clear hb
        go_wp2_with (at_builtin; refine wp_app1 rfl _ _ rfl w.heap.size _ _ b _ hown1 rfl rfl ?c1 ?c2 ?c3 ?_)
        case c1 => exact or128 y b Hb.out
        case c2 => have := Hle.out; omega
        case c3 => omega
        intro v' w1 hown2 hbel2
        have hbel3 := hbel.trans hbel2
        clear hbel2 hbel hown1
        go_wp2
        refine ⟨⟨d ++ [b], y / 128, by go_num, ⟨?_, ?_⟩, hown2, hbel3⟩, by simp [intOf]; omega⟩
        · unfold M; omega
        · rw [Hd.out.2, uvarint_big hlt, Hb.out]; simp
      · obtain ⟨b, hb⟩ : ∃ b : UInt8, b = y.toUInt8 := ⟨_, rfl⟩
        have Hb := Lib.hid hb
        clear hb
        have hlt2 : y < 128 := by omega
        go_wp2_with (at_builtin; refine wp_app1 rfl _ _ rfl w.heap.size _ _ b _ hown1 rfl rfl ?d1 ?d2 ?d3 ?_)
        case d1 => rw [Hb.out, u8n (by omega)]
        case d2 => have := Hle.out; omega
        case d3 => omega
        intro v' w1 hown2 hbel2
        have hbel3 := hbel.trans hbel2
        clear hbel2 hbel hown1
        have Hown := Lib.hid hown2
        clear hown2
        go_wp2
        go_ret
        refine ⟨_, rfl, ?_, hbel3⟩
        rw [Hd.out.2, uvarint_small hlt2, ← Hb.out]
        exact Hown.out
theorem bytes_below (w : World) (s : ByteArray) : Below w.heap.size w (Lib.bytesWorld w 5 s) := by
  refine ⟨rfl, rfl, rfl, ?_, fun k hk => Lib.bytesWorld_at_old w _ s k hk⟩
  rw [Lib.bytesWorld_size]; omega
theorem bytes_bs (w : World) (s : ByteArray) : BS (Lib.bytesWorld w 5 s) (some ⟨w.heap.size, 0, none⟩) s.data.toList (grownCap w s.size 0 5) := by
  refine ⟨fun i hi => ⟨_, rfl, ?_⟩, ?_, fun e => by cases e⟩
  · have hi' : i < s.size := hi
    rw [Addr.add_lit, Nat.zero_add, Lib.bytesWorld_cell w _ s i hi']
    simp [List.getD, hi']
  · exact grownCap_ge w s.size 0 _
theorem rstr_any (s : ByteArray) (hs : s.size ≤ 100000) (w : World) :
    Calls Try.prog 17 #[.string s] w (Gives w.heap.size (encS s.data.toList) w) := by
  have hcv := fun W : World => Lib.run_convert_string_bytes (P := Try.prog) W 9 23 5 s Try.underlying9 Try.underlying23 Try.underlying5
  have Hcv := Lib.hid hcv
  clear hcv
  go_enter Try.func17, Try.ntmps17
  go_wp2_with fail
  refine (rint_any _ (by omega) (by omega) _).mono ?_
  rintro e w1 ⟨v, rfl, hown, hbel⟩
  have hb2 := bytes_below w1 s
  have hbs := bytes_bs w1 s
  have hcv := Hcv.out w1
  clear Hcv
  have hle := (encI_len (s.size : Int) (by omega) (by omega)).1
  have hsz := hbel.size
  have hsz2 := hb2.size
  go_wp2_with (at_builtin; refine wp_app rfl _ _ rfl w.heap.size _ _ (hown.below hb2) rfl _ s.data.toList _ _ rfl rfl hbs ?c1 ?c2 ?_)
  case c1 => have e : s.data.toList.length = s.size := rfl
             omega
  case c2 => omega
  intro v3 w3 hown3 hbel3
  have hbel4 := hbel.trans ((hb2.mono hsz).trans hbel3)
  clear hcv hb2 hbs hbel hbel3 hown
  go_wp2
  go_ret
  exact ⟨_, rfl, hown3, hbel4⟩
set_option maxRecDepth 100000 in
theorem rreal_any (f : Nat) (hf : f < 2 * S) (w : World) :
    Calls Try.prog 18 #[.float .f64 f] w (Gives w.heap.size (encR f) w) := by
  have Hk := Lib.hid (Fl.keyN_lt f hf)
  go_enter Try.func18, Try.ntmps18
  go_wp2_with fail
  refine (rkey_any _ hf _).mono ?_
  rintro e w' ⟨rfl, rfl⟩
  have He := Lib.hid (show encR f = keyB (keyN f) from rfl)
  clear hf
  generalize keyN f = k at *
  have hk := Hk.out
  unfold S at hk
  go_wp2
  go_loopw [4, 5] (fun v1 i w1 => ∃ (j : Nat) (d : List UInt8), i = .int .i64 (7 - j) ∧ j ≤ 8 ∧ Hid (d = (keyB k).take j) ∧ Own w.heap.size w1 v1 d ∧ Below w.heap.size w w1) (fun _ i _ => (1 + intOf i).toNat)
  case atStart => exact ⟨0, [], rfl, by omega, rfl, Own.nil _ _, Below.refl _ _⟩
  case round =>
    obtain ⟨j, d, rfl, hj, Hd, hown1, hbel⟩ := hrel
    have hsz := hbel.size
    have Hle : Hid (d.length ≤ 8) := by
      show d.length ≤ 8
      rw [Hd.out]; simp [keyB_len]; omega
    by_cases hlt : j < 8
    · obtain ⟨b, hb⟩ : ∃ b : UInt8, b = kb k j := ⟨_, rfl⟩
      have Hb := Lib.hid hb
      clear hb
      go_wp2_with (at_builtin; refine wp_app1 rfl _ _ rfl w.heap.size _ _ b _ hown1 rfl rfl ?c1 ?c2 ?c3 ?_)
      case c1 => rw [Hb.out]; exact kb_int k j
      case c2 => have := Hle.out; omega
      case c3 => omega
      intro v' w1 hown2 hbel2
      have hbel3 := hbel.trans hbel2
      clear hbel2 hbel hown1
      go_wp2
      refine ⟨⟨j + 1, d ++ [b], by go_num, by omega, ?_, hown2, hbel3⟩, by simp [intOf]; omega⟩
      show d ++ [b] = _
      rw [keyB_snoc k j hlt, Hd.out, Hb.out]
    · obtain rfl : j = 8 := by omega
      have hd := Hd.out
      rw [List.take_of_length_le (by rw [keyB_len]; omega)] at hd
      subst hd
      go_wp2
      go_ret
      exact ⟨_, rfl, by rw [He.out]; exact hown1, hbel⟩
end Go.Proofs.Ytdhpphbgobakhaa
