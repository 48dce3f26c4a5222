/- A Clock and a Cell of the program that a law has made, side by side (Two), and what their methods do; known of chapter 7's laws returns true. Conditions: each contract names its own. -/
import Derived.Test.YtpjjpjdamieeeaaPi
import Derived.Test.YtpjjpjdamieeeaaKu
namespace Go.Proofs.Ytpjjpjdamieeeaa
set_option maxRecDepth 100000
set_option linter.unusedVariables false
open Go.ChangeShapes Go.WideShapes Go.ChangeAt Go.RowKit
/-- The Clock in blocks of F, the Cell in blocks of X, apart from each other and from G, all newer than w. -/
structure TwoS (G F X : Nat → Prop) (w wr : World) (a x : Nat) (c : Ck) (l : List (Ver Int)) : Prop where
  pc : PC F wr a c
  cc : CC X wr x l
  ap : ∀ k, F k → ¬ X k
  fG : ∀ k, F k → ¬ G k ∧ w.heap.size ≤ k
  xG : ∀ k, X k → ¬ G k ∧ w.heap.size ≤ k
  gl : ∀ k, G k → k < wr.heap.size
  bl : Below w.heap.size w wr
def Two (G : Nat → Prop) (w wr : World) (a x : Nat) (c : Ck) (l : List (Ver Int)) : Prop := ∃ F X, TwoS G F X w wr a x c l
section
variable {G G' F X : Nat → Prop} {w wr w' : World} {a x : Nat} {c c' : Ck} {l l' : List (Ver Int)} {v : Value} {e : Ending}
theorem TwoS.left (h : TwoS G F X w wr a x c l) (hd : Does F wr a v c' e w') : e = .returned v ∧ Two G w w' a x c' l ∧ Keep G wr w' := by
  obtain ⟨h1, h2, h3⟩ := hd
  have hs := h3.size
  refine ⟨h1, ⟨Nu F wr w', X, h2, h.cc.chg h3 (fun k hk hf => h.ap k hf hk), fun k hk hr => ?_, fun k hk => ?_, h.xG, fun k hk => by have := h.gl k hk; omega, Chg.of_below h.bl h3 (fun k hk => (h.fG k hk).2)⟩, hs, fun k hk => h3.block k (h.gl k hk) (fun hf => (h.fG k hf).1 hk)⟩
  · rcases hk with hk | hk
    · exact h.ap k hk hr
    · have := h.cc.lt k hr; omega
  · rcases hk with hk | hk
    · exact h.fG k hk
    · exact ⟨fun hg => by have := h.gl k hg; omega, by have := h.bl.size; omega⟩
theorem TwoS.right (h : TwoS G F X w wr a x c l) (hd : DoesC X wr x v l' e w') : e = .returned v ∧ Two G w w' a x c l' ∧ Keep G wr w' := by
  obtain ⟨h1, h2, h3⟩ := hd
  have hs := h3.size
  refine ⟨h1, ⟨F, Nu X wr w', h.pc.chg h3 h.ap, h2, fun k hk hr => ?_, h.fG, fun k hk => ?_, fun k hk => by have := h.gl k hk; omega, Chg.of_below h.bl h3 (fun k hk => (h.xG k hk).2)⟩, hs, fun k hk => h3.block k (h.gl k hk) (fun hf => (h.xG k hf).1 hk)⟩
  · rcases hr with hr | hr
    · exact h.ap k hk hr
    · have := h.pc.lt k hk; omega
  · rcases hk with hk | hk
    · exact h.xG k hk
    · exact ⟨fun hg => by have := h.gl k hg; omega, by have := h.bl.size; omega⟩
theorem Two.below (h : Two G w wr a x c l) (hb : Below wr.heap.size wr w') : Two G w w' a x c l ∧ Keep G wr w' := by
  obtain ⟨F, R, h⟩ := h
  exact ⟨⟨F, R, h.pc.below hb, h.cc.below hb, h.ap, h.fG, h.xG, fun k hk => Nat.lt_of_lt_of_le (h.gl k hk) hb.size, h.bl.trans (hb.mono h.bl.size)⟩, hb.size, fun k hk => hb.block k (h.gl k hk)⟩
theorem Two.all (h : Two G w wr a x c l) : Below w.heap.size w wr := by obtain ⟨F, R, h⟩ := h; exact h.bl
theorem Two.ok (h : Two G w wr a x c l) : c.Ok := by obtain ⟨F, R, h⟩ := h; exact h.pc.ok
theorem Two.drew (h : Two G w wr a x c l) : Two G w wr.drew a x c l := (h.below (Below.refl _ _).drew).1
theorem two_new {w1 w2 : World} (hb : Below w.heap.size w wr) (h1 : PC (fun k => k = wr.heap.size) w1 wr.heap.size Ck.new) (h2 : Below wr.heap.size wr w1) (h3 : CC (fun k => k = w1.heap.size) w2 w1.heap.size []) (h4 : Below w1.heap.size w1 w2) (hG : ∀ k, G k → k < wr.heap.size) :
    Two G w w2 wr.heap.size w1.heap.size Ck.new [] := by
  have s1 := hb.size
  have s2 := h1.lt _ rfl
  have s3 := h2.size
  refine ⟨_, _, h1.below h4, h3, fun k hk hk2 => ?_, fun k hk => ⟨fun hg => ?_, ?_⟩, fun k hk => ⟨fun hg => ?_, ?_⟩, fun k hk => ?_, hb.trans ((h2.trans (h4.mono s3)).mono s1)⟩
  · omega
  · have := hG k hg; omega
  · omega
  · have := hG k hg; omega
  · omega
  · have := hG k hk; have := h4.size; omega
theorem two_begin (h : Two G w wr a x c l) (hn : c.l.length ≤ 900000) : Calls Try.prog 22 #[.pointer (some ⟨a, 0, none⟩)] wr fun e w' => e = .returned (.tuple #[.int .i64 c.begT, .int .i64 c.begE]) ∧ Two G w w' a x c.beg l ∧ Keep G wr w' := by
  obtain ⟨F, X, h⟩ := h
  exact (begin_any h.pc hn).mono fun e w' he => h.left he
theorem two_commit (h : Two G w wr a x c l) (t : Int) (hn : c.n ≤ 900000) (hl : c.l.length ≤ 900000) : Calls Try.prog 24 #[.pointer (some ⟨a, 0, none⟩), .int .i64 t] wr fun e w' => e = .returned (.int .i64 (c.endE t)) ∧ Two G w w' a x (c.comS t) l ∧ Keep G wr w' := by
  obtain ⟨F, X, h⟩ := h
  exact (commit_any h.pc t hn hl).mono fun e w' he => h.left he
theorem two_abort (h : Two G w wr a x c l) (t : Int) (hl : c.l.length ≤ 900000) : Calls Try.prog 25 #[.pointer (some ⟨a, 0, none⟩), .int .i64 t] wr fun e w' => e = .returned (.int .i64 (c.endE t)) ∧ Two G w w' a x (c.abS t) l ∧ Keep G wr w' := by
  obtain ⟨F, X, h⟩ := h
  exact (abort_any h.pc t hl).mono fun e w' he => h.left he
theorem two_write (h : Two G w wr a x c l) (t v : Int) (g : Bool) (hl : l.length ≤ 800000) : Calls Try.prog 23 #[.pointer (some ⟨x, 0, none⟩), .pointer (some ⟨a, 0, none⟩), .int .i64 t, .int .i64 v, .bool g] wr fun e w' => e = .returned (.int .i64 (Ver.chk c t l)) ∧ Two G w w' a x c (Ver.wrS c t v g l) ∧ Keep G wr w' := by
  obtain ⟨F, X, h⟩ := h
  exact (cwrite_any h.cc h.pc t v g hl).mono fun e w' he => h.right he
theorem two_undo (h : Two G w wr a x c l) (t : Int) (hu : ∀ y ∈ l.drop (Ver.at? t l + 1), y.w ≠ t) (hl : l.length ≤ 900000) : Calls Try.prog 26 #[.pointer (some ⟨x, 0, none⟩), .int .i64 t] wr fun e w' => e = .returned (.tuple #[]) ∧ Two G w w' a x c (Ver.undo t l) ∧ Keep G wr w' := by
  obtain ⟨F, X, h⟩ := h
  exact (cundo_any h.cc hu hl).mono fun e w' he => h.right he
theorem two_sweep (h : Two G w wr a x c l) : Calls Try.prog 19 #[.pointer (some ⟨x, 0, none⟩), .pointer (some ⟨a, 0, none⟩)] wr fun e w' => e = .returned (.bool (Ver.spare c l)) ∧ Two G w w' a x c (Ver.swS c l) ∧ Keep G wr w' := by
  obtain ⟨F, X, h⟩ := h
  exact (csweep_any h.cc h.pc).mono fun e w' he => h.right he
theorem two_spare (h : Two G w wr a x c l) : Calls Try.prog 20 #[.pointer (some ⟨x, 0, none⟩), .pointer (some ⟨a, 0, none⟩)] wr fun e w' => e = .returned (.bool (Ver.spare c l)) ∧ Two G w w' a x c l ∧ Keep G wr w' := by
  have h' := h
  obtain ⟨F, X, h⟩ := h
  exact (cspare_any h.cc h.pc).mono fun e w' he => ⟨he.1, h'.below he.2⟩
theorem two_check (h : Two G w wr a x c l) (t : Int) : Calls Try.prog 17 #[.pointer (some ⟨x, 0, none⟩), .pointer (some ⟨a, 0, none⟩), .int .i64 t] wr fun e w' => e = .returned (.int .i64 (Ver.chk c t l)) ∧ Two G w w' a x c l ∧ Keep G wr w' := by
  have h' := h
  obtain ⟨F, X, h⟩ := h
  exact (ccheck_any h.cc h.pc t).mono fun e w' he => ⟨he.1, h'.below he.2⟩
theorem two_read (h : Two G w wr a x c l) (t : Int) : Calls Try.prog 16 #[.pointer (some ⟨x, 0, none⟩), .pointer (some ⟨a, 0, none⟩), .int .i64 t] wr fun e w' => e = .returned (.tuple #[.int .i64 (Ver.rdV 0 (Ver.rdX c t l)), .bool (Ver.rdB (Ver.rdX c t l))]) ∧ Two G w w' a x c l ∧ Keep G wr w' := by
  have h' := h
  obtain ⟨F, X, h⟩ := h
  exact (cread_any h.cc h.pc t).mono fun e w' he => ⟨he.1, h'.below he.2⟩
theorem two_len (h : Two G w wr a x c l) : Calls Try.prog 18 #[.pointer (some ⟨x, 0, none⟩)] wr fun e w' => e = .returned (.int .i64 (l.length : Nat)) ∧ wr = w' := by
  obtain ⟨F, X, h⟩ := h
  exact clen_any h.cc
end
/-- What known has made behind k rounds. -/
def kC : Nat → Ck
  | 0 => Ck.new
  | k + 1 => (kC k).beg.comS ((k : Int) + 1)
def kL : Nat → List (Ver Int)
  | 0 => []
  | k + 1 => Ver.wrS (kC k).beg ((k : Int) + 1) (k : Int) ((k : Int) == 2) (kL k)
theorem k_ok : ∀ k, k < 3 → (kC k).begT = (k : Int) + 1 ∧ (kC k).begE = 0 ∧ Ver.chk (kC k).beg ((k : Int) + 1) (kL k) = 0 ∧ (kC k).beg.endE ((k : Int) + 1) = 0 ∧ (kC k).l.length ≤ 10 ∧ (kC k).beg.l.length ≤ 10 ∧ (kC k).beg.n ≤ 10 ∧ (kL k).length ≤ 10 := by decide
theorem k_sw : ∀ k, k < 3 → Ver.spare (kC 3) ((kL 3).drop k) = true := by decide
theorem k_len : (kL 3).length = 3 := by decide
def noG : Nat → Prop := fun _ => False
set_option maxHeartbeats 1000000 in
theorem known7_any (w : World) : Calls Try.prog 14 #[] w fun e w' => e = .returned (.bool true) ∧ Below w.heap.size w w' := by
  have HN := Lib.hid (new_any w)
  go_enter Try.func14, Try.ntmps14
  go_wp2_with fail
  (with_reducible refine HN.out.mono ?_)
  rintro e w1 ⟨rfl, h1, hb1⟩
  have HN2 := Lib.hid (cnew_any w1)
  have HP := Lib.hid h1
  have HB1 := Lib.hid hb1
  clear h1 hb1 HN
  go_wp2_with (go_at_call 34; (with_reducible refine HN2.out.mono ?_); rintro e w2 ⟨rfl, h2, hb2⟩; have HT := Lib.hid (two_new (G := noG) (Below.refl w.heap.size w) HP.out HB1.out h2 hb2 (fun k hk => hk.elim)); clear h2 hb2)
  clear HN2 HP HB1
  go_loopw [3, 4, 5, 6, 7] (fun i _ _ _ _ wr => ∃ k : Nat, k ≤ 3 ∧ i = .int .i64 (k : Nat) ∧ Hid (Two noG w wr w.heap.size w1.heap.size (kC k) (kL k))) (fun i _ _ _ _ _ => 3 - (intOf i).toNat)
  case atStart => exact ⟨0, Nat.zero_le _, rfl, HT.out⟩
  case round =>
    obtain ⟨k, hk, rfl, HS⟩ := hrel
    clear HT
    by_cases hlt : k < 3
    · obtain ⟨e1, e2, e3, e4, b1, b2, b3, b4⟩ := k_ok k hlt
      have C1 := two_begin HS.out (by omega)
      rw [e1, e2] at C1
      have C1 := Lib.hid C1
      have C2 := fun W (hW : Two noG w W w.heap.size w1.heap.size (kC k).beg (kL k)) => two_write hW ((k : Int) + 1) (k : Int) ((k : Int) == 2) (by omega)
      rw [e3] at C2
      have C2 := Lib.hid C2
      have C3 := fun W l (hW : Two noG w W w.heap.size w1.heap.size (kC k).beg l) => two_commit hW ((k : Int) + 1) (by omega) (by omega)
      rw [e4] at C3
      have C3 := Lib.hid C3
      clear e1 e2 e3 e4 b1 b2 b3 b4
      go_wp2_with (first
        | (go_at_call 22; (with_reducible refine C1.out.mono ?_); rintro e w4 ⟨rfl, h4, _⟩; have H4 := Lib.hid h4; clear h4)
        | (go_at_call 23; (with_reducible refine (C2.out _ H4.out).mono ?_); rintro e w5 ⟨rfl, h5, _⟩; have H5 := Lib.hid h5; clear h5)
        | (go_at_call 24; (with_reducible refine (C3.out _ _ H5.out).mono ?_); rintro e w6 ⟨rfl, h6, _⟩; have H6 := Lib.hid h6; clear h6))
      exact ⟨⟨k + 1, by omega, by go_num, H6.out⟩, by simp [intOf]; omega⟩
    · obtain rfl : k = 3 := by omega
      have C1 := two_len HS.out
      rw [k_len] at C1
      have C1 := Lib.hid C1
      go_wp2_with (go_at_call 18; (with_reducible refine C1.out.mono ?_); rintro e w4 ⟨rfl, rfl⟩)
      clear C1
      go_loopw [8, 9] (fun n i wr => ∃ j : Nat, j ≤ 3 ∧ i = .int .i64 (j : Nat) ∧ n = .int .i64 (3 - (j : Nat) : Int) ∧ Hid (Two noG w wr w.heap.size w1.heap.size (kC 3) ((kL 3).drop j))) (fun n i _ => 5 - (intOf i).toNat)
      case atStart => exact ⟨0, Nat.zero_le _, rfl, rfl, HS.out⟩
      case round =>
        obtain ⟨j, hj, rfl, rfl, HJ⟩ := hrel
        by_cases hlt : j < 3
        · have C2 := two_sweep HJ.out
          rw [k_sw j hlt] at C2
          have hd : Ver.swS (kC 3) ((kL 3).drop j) = (kL 3).drop (j + 1) := by unfold Ver.swS; rw [k_sw j hlt, if_pos rfl, List.tail_drop]
          rw [hd] at C2
          have C2 := Lib.hid C2
          have h5 : (j : Int) < 5 := by omega
          clear hd
          go_wp2_with (go_at_call 19; (with_reducible refine C2.out.mono ?_); rintro e w5 ⟨rfl, h5, _⟩; have H5 := Lib.hid h5; clear h5)
          exact ⟨⟨j + 1, by omega, by go_num, by go_num, H5.out⟩, by simp [intOf]; omega⟩
        · obtain rfl : j = 3 := by omega
          have hnil : (kL 3).drop 3 = [] := by decide
          rw [hnil] at HJ
          have C2 := Lib.hid (show Calls Try.prog 19 #[.pointer (some ⟨w1.heap.size, 0, none⟩), .pointer (some ⟨w.heap.size, 0, none⟩)] wr (fun e w' => e = .returned (.bool false) ∧ Two noG w w' w.heap.size w1.heap.size (kC 3) [] ∧ Keep noG wr w') from two_sweep HJ.out)
          have C3 := Lib.hid (fun W (h : Two noG w W w.heap.size w1.heap.size (kC 3) []) => (show Calls Try.prog 18 #[.pointer (some ⟨w1.heap.size, 0, none⟩)] W (fun e w' => e = .returned (.int .i64 0) ∧ W = w') from two_len h))
          have C4 := Lib.hid (fun W (h : Two noG w W w.heap.size w1.heap.size (kC 3) []) => (show Calls Try.prog 20 #[.pointer (some ⟨w1.heap.size, 0, none⟩), .pointer (some ⟨w.heap.size, 0, none⟩)] W (fun e w' => e = .returned (.bool false) ∧ Two noG w w' w.heap.size w1.heap.size (kC 3) [] ∧ Keep noG W w') from two_spare h))
          clear hnil
          go_wp2_with (first
            | (go_at_call 19; (with_reducible refine C2.out.mono ?_); rintro e w5 ⟨rfl, h5, _⟩; have H5 := Lib.hid h5; clear h5)
            | (go_at_call 18; (with_reducible refine (C3.out _ H5.out).mono ?_); rintro e w6 ⟨rfl, rfl⟩)
            | (go_at_call 20; (with_reducible refine (C4.out _ H5.out).mono ?_); rintro e w7 ⟨rfl, h7, _⟩; have H7 := Lib.hid h7; clear h7))
          go_ret
          exact ⟨rfl, H7.out.all⟩
end Go.Proofs.Ytpjjpjdamieeeaa
