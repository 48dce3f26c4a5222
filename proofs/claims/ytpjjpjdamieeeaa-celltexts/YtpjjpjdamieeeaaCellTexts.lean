/- Proved: ligaturelaw7.CellTexts returns true for every slice of strings. No condition. -/
import Derived.Test.YtpjjpjdamieeeaaRows
import Derived.Test.YtpjjpjdamieeeaaPj
import Derived.Test.YtpjjpjdamieeeaaPs
import Derived.Test.YtpjjpjdamieeeaaPo
import Derived.WalkKit
import Derived.ProofKit
import Derived.OpenShut
import Derived.ShutString
import Derived.ChangeOld
import Derived.Below
namespace Go.Proofs.Ytpjjpjdamieeeaa.cellTexts
set_option maxRecDepth 100000
open Go.ChangeShapes Go.WideShapes Go.ChangeAt Go.RowKit
open Go.ChangeMaps (open_string shut_string)
set_option linter.unusedVariables false
theorem own : ownKnob Try.prog.godebug = none := by kernel_rfl
theorem laidOut : laidOutB Try.prog = true := by kernel_rfl
/-- The Clock in blocks of F, the Cell in blocks of X, apart from each other and from G, all newer than w. -/
structure TwtS (G F X : Nat → Prop) (w wr : World) (a x : Nat) (c : Ck) (l : List (Ver ByteArray)) : Prop where
  pc : PC F wr a c
  cc : CCS X wr x l
  ap : ∀ k, F k → ¬ X k
  fG : ∀ k, F k → ¬ G k ∧ w.heap.size ≤ k
  xG : ∀ k, X k → ¬ G k ∧ w.heap.size ≤ k
  gl : ∀ k, G k → k < wr.heap.size
  bl : Below w.heap.size w wr
def Twt (G : Nat → Prop) (w wr : World) (a x : Nat) (c : Ck) (l : List (Ver ByteArray)) : Prop := ∃ F X, TwtS G F X w wr a x c l
section
variable {G G' F X : Nat → Prop} {w wr w' : World} {a x : Nat} {c c' : Ck} {l l' : List (Ver ByteArray)} {v : Value} {e : Ending}
theorem TwtS.left (h : TwtS G F X w wr a x c l) (hd : Does F wr a v c' e w') : e = .returned v ∧ Twt G w w' a x c' l ∧ Keep G wr w' := by
  obtain ⟨h1, h2, h3⟩ := hd
  have hs := h3.size
  refine ⟨h1, ⟨Nu F wr w', X, h2, h.cc.chg h3 (fun k hk hf => h.ap k hf hk), fun k hk hr => ?_, fun k hk => ?_, h.xG, fun k hk => by have := h.gl k hk; omega, Chg.of_below h.bl h3 (fun k hk => (h.fG k hk).2)⟩, hs, fun k hk => h3.block k (h.gl k hk) (fun hf => (h.fG k hf).1 hk)⟩
  · rcases hk with hk | hk
    · exact h.ap k hk hr
    · have := h.cc.lt k hr; omega
  · rcases hk with hk | hk
    · exact h.fG k hk
    · exact ⟨fun hg => by have := h.gl k hg; omega, by have := h.bl.size; omega⟩
theorem TwtS.right (h : TwtS G F X w wr a x c l) (hd : DoesCS X wr x v l' e w') : e = .returned v ∧ Twt G w w' a x c l' ∧ Keep G wr w' := by
  obtain ⟨h1, h2, h3⟩ := hd
  have hs := h3.size
  refine ⟨h1, ⟨F, Nu X wr w', h.pc.chg h3 h.ap, h2, fun k hk hr => ?_, h.fG, fun k hk => ?_, fun k hk => by have := h.gl k hk; omega, Chg.of_below h.bl h3 (fun k hk => (h.xG k hk).2)⟩, hs, fun k hk => h3.block k (h.gl k hk) (fun hf => (h.xG k hf).1 hk)⟩
  · rcases hr with hr | hr
    · exact h.ap k hk hr
    · have := h.pc.lt k hk; omega
  · rcases hk with hk | hk
    · exact h.xG k hk
    · exact ⟨fun hg => by have := h.gl k hg; omega, by have := h.bl.size; omega⟩
theorem Twt.below (h : Twt G w wr a x c l) (hb : Below wr.heap.size wr w') : Twt G w w' a x c l ∧ Keep G wr w' := by
  obtain ⟨F, R, h⟩ := h
  exact ⟨⟨F, R, h.pc.below hb, h.cc.below hb, h.ap, h.fG, h.xG, fun k hk => Nat.lt_of_lt_of_le (h.gl k hk) hb.size, h.bl.trans (hb.mono h.bl.size)⟩, hb.size, fun k hk => hb.block k (h.gl k hk)⟩
theorem Twt.all (h : Twt G w wr a x c l) : Below w.heap.size w wr := by obtain ⟨F, R, h⟩ := h; exact h.bl
theorem Twt.ok (h : Twt G w wr a x c l) : c.Ok := by obtain ⟨F, R, h⟩ := h; exact h.pc.ok
theorem Twt.drew (h : Twt G w wr a x c l) : Twt G w wr.drew a x c l := (h.below (Below.refl _ _).drew).1
theorem twt_new {w1 w2 : World} (hb : Below w.heap.size w wr) (h1 : PC (fun k => k = wr.heap.size) w1 wr.heap.size Ck.new) (h2 : Below wr.heap.size wr w1) (h3 : CCS (fun k => k = w1.heap.size) w2 w1.heap.size []) (h4 : Below w1.heap.size w1 w2) (hG : ∀ k, G k → k < wr.heap.size) :
    Twt G w w2 wr.heap.size w1.heap.size Ck.new [] := by
  have s1 := hb.size
  have s2 := h1.lt _ rfl
  have s3 := h2.size
  refine ⟨_, _, h1.below h4, h3, fun k hk hk2 => ?_, fun k hk => ⟨fun hg => ?_, ?_⟩, fun k hk => ⟨fun hg => ?_, ?_⟩, fun k hk => ?_, hb.trans ((h2.trans (h4.mono s3)).mono s1)⟩
  · omega
  · have := hG k hg; omega
  · omega
  · have := hG k hg; omega
  · omega
  · have := hG k hk; have := h4.size; omega
theorem twt_begin (h : Twt G w wr a x c l) (hn : c.l.length ≤ 900000) : Calls Try.prog 22 #[.pointer (some ⟨a, 0, none⟩)] wr fun e w' => e = .returned (.tuple #[.int .i64 c.begT, .int .i64 c.begE]) ∧ Twt G w w' a x c.beg l ∧ Keep G wr w' := by
  obtain ⟨F, X, h⟩ := h
  exact (begin_any h.pc hn).mono fun e w' he => h.left he
theorem twt_write (h : Twt G w wr a x c l) (t : Int) (v : ByteArray) (g : Bool) (hl : l.length ≤ 800000) : Calls Try.prog 29 #[.pointer (some ⟨x, 0, none⟩), .pointer (some ⟨a, 0, none⟩), .int .i64 t, .string v, .bool g] wr fun e w' => e = .returned (.int .i64 (Ver.chk c t l)) ∧ Twt G w w' a x c (Ver.wrS c t v g l) ∧ Keep G wr w' := by
  obtain ⟨F, X, h⟩ := h
  exact (cwrite_anyS h.cc h.pc t v g hl).mono fun e w' he => h.right he
theorem twt_read (h : Twt G w wr a x c l) (t : Int) : Calls Try.prog 30 #[.pointer (some ⟨x, 0, none⟩), .pointer (some ⟨a, 0, none⟩), .int .i64 t] wr fun e w' => e = .returned (.tuple #[.string (Ver.rdV (ByteArray.mk #[]) (Ver.rdX c t l)), .bool (Ver.rdB (Ver.rdX c t l))]) ∧ Twt G w w' a x c l ∧ Keep G wr w' := by
  have h' := h
  obtain ⟨F, X, h⟩ := h
  exact (cread_anyS h.cc h.pc t).mono fun e w' he => ⟨he.1, h'.below he.2⟩
theorem twt_len (h : Twt G w wr a x c l) : Calls Try.prog 31 #[.pointer (some ⟨x, 0, none⟩)] wr fun e w' => e = .returned (.int .i64 (l.length : Nat)) ∧ wr = w' := by
  obtain ⟨F, X, h⟩ := h
  exact clen_anyS h.cc
end
def tC : Ck := Ck.new.beg

set_option maxHeartbeats 4000000 in
theorem walk (a0 : Sl ByteArray) (w : World) (w0 : SlS w a0) :
    Calls Try.prog 6 #[slv a0] w fun e w' => e = .returned (.bool true) ∧ Below w.heap.size w w' := by
  obtain ⟨A, ss, cl⟩ := a0
  simp only [slv] at *
  have HS : Hid (Row .string w A ss) := w0.1
  have HW : Hid (∀ x ∈ ss, x.size ≤ 9223372036854775807) := w0.2
  clear w0
  by_cases hbad : ss.length < 1 ∨ 50 < ss.length
  · rcases (show ss.length < 1 ∨ (1 ≤ ss.length ∧ 50 < ss.length) by omega) with q | ⟨q, q'⟩
    all_goals (
      clear hbad
      go_enter Try.func6, Try.ntmps6
      go_wp2
      go_ret
      exact ⟨rfl, Below.refl _ _⟩)
  · have h1 : 1 ≤ ss.length := by omega
    have h50 : ss.length ≤ 50 := by omega
    clear hbad
    obtain ⟨ad, hA, _⟩ := HS.out 0 h1
    subst hA
    have HN := Lib.hid (new_any w)
    have DK := Lib.hid known7_any
    have HI := Lib.hid (fun wr (hb : Below w.heap.size w wr) k (hk : k < ss.length) => show wr.cell? (ad.add k) = some (.string ss[k]) by
      obtain ⟨ad', e, h⟩ := (HS.out.below hb) k hk
      injection e with e
      subst e; exact h)
    go_enter Try.func6, Try.ntmps6
    go_wp2_with fail
    (with_reducible refine HN.out.mono ?_)
    rintro e w1 ⟨rfl, h1', hb1⟩
    have HN2 := Lib.hid (cnew_anyS w1)
    have HP := Lib.hid h1'
    have HB1 := Lib.hid hb1
    clear h1' hb1 HN
    go_wp2_with fail
    (with_reducible refine HN2.out.mono ?_)
    rintro e w2 ⟨rfl, h2, hb2⟩
    have H0 := Lib.hid (twt_new (G := noG) (Below.refl w.heap.size w) HP.out HB1.out h2 hb2 (fun k hk => hk.elim))
    clear h2 hb2 HN2 HP HB1
    obtain ⟨aa, haa⟩ : ∃ aa, aa = w.heap.size := ⟨_, rfl⟩
    obtain ⟨xx, hxx⟩ : ∃ xx, xx = w1.heap.size := ⟨_, rfl⟩
    rw [← haa, ← hxx] at H0
    rw [← haa, ← hxx]
    clear haa hxx
    have CB := Lib.hid (show Calls Try.prog 22 #[.pointer (some ⟨aa, 0, none⟩)] w2 (fun e w' => e = .returned (.tuple #[.int .i64 1, .int .i64 0]) ∧ Twt noG w w' aa xx tC [] ∧ Keep noG w2 w') from twt_begin H0.out (by decide))
    go_wp2_with (go_at_call 22; (with_reducible refine CB.out.mono ?_); rintro e w3 ⟨rfl, h3, _⟩; have H3 := Lib.hid h3; clear h3)
    clear CB H0
    go_loopw [7] (fun i wr => ∃ j : Nat, j ≤ ss.length ∧ i = .int .i64 (j : Nat) ∧ Hid ((j = 0 ∧ Twt noG w wr aa xx tC []) ∨ (∃ hj : j - 1 < ss.length, 1 ≤ j ∧ Twt noG w wr aa xx tC [⟨1, ss[j - 1], false⟩]))) (fun i _ => ss.length - (intOf i).toNat)
    case atStart => exact ⟨0, Nat.zero_le _, rfl, .inl ⟨rfl, H3.out⟩⟩
    case round =>
      obtain ⟨j, hj, rfl, HR⟩ := hrel
      clear H3
      have HBL : Hid (Below w.heap.size w wr) := by
        rcases HR.out with ⟨_, h⟩ | ⟨_, _, h⟩
        · exact h.all
        · exact h.all
      by_cases hlt : j < ss.length
      · have hc := HI.out wr HBL.out j hlt
        have hsz := HW.out _ (List.getElem_mem hlt)
        have CW : Hid (Calls Try.prog 29 #[.pointer (some ⟨xx, 0, none⟩), .pointer (some ⟨aa, 0, none⟩), .int .i64 1, .string ss[j], .bool false] wr (fun e w' => e = .returned (.int .i64 0) ∧ Twt noG w w' aa xx tC [⟨1, ss[j], false⟩])) := by
          rcases HR.out with ⟨_, h⟩ | ⟨_, _, h⟩
          · exact (twt_write h 1 ss[j] false (by simp)).mono fun e w' he => ⟨he.1, he.2.1⟩
          · exact (twt_write h 1 ss[j] false (by simp)).mono fun e w' he => ⟨he.1, he.2.1⟩
        have HEQ : Hid (j + 1 - 1 < ss.length ∧ ∀ h : j + 1 - 1 < ss.length, ss[j + 1 - 1] = ss[j]) := ⟨by omega, fun h => rfl⟩
        generalize hs : ss[j] = s at *
        by_cases h200 : 200 < s.size
        · have h200' : (200 : Int) < (s.size : Int) := by omega
          clear CW hs
          go_wp2
          go_ret
          exact ⟨rfl, HBL.out⟩
        · have h200' : ¬ (200 : Int) < (s.size : Int) := by omega
          go_wp2_with (go_at_call 29; (with_reducible refine CW.out.mono ?_); rintro e w4 ⟨rfl, h4⟩; have H4 := Lib.hid h4; clear h4)
          refine ⟨⟨j + 1, by omega, by go_num, .inr ⟨HEQ.out.1, by omega, ?_⟩⟩, by simp [intOf]; omega⟩
          rw [HEQ.out.2 HEQ.out.1, hs]
          exact H4.out
      · obtain rfl : j = ss.length := by omega
        rcases HR.out with ⟨h0, _⟩ | ⟨hj1, _, hT⟩
        · omega
        have HT := Lib.hid hT
        have hc := HI.out
        have HC := Lib.hid (fun W (h : Twt noG w W aa xx tC [⟨1, ss[ss.length - 1], false⟩]) => HI.out W h.all (ss.length - 1) hj1)
        generalize ss[ss.length - 1] = s at *
        have CR := Lib.hid (show Calls Try.prog 30 #[.pointer (some ⟨xx, 0, none⟩), .pointer (some ⟨aa, 0, none⟩), .int .i64 1] wr (fun e w' => e = .returned (.tuple #[.string s, .bool true]) ∧ Twt noG w w' aa xx tC [⟨1, s, false⟩] ∧ Keep noG wr w') from twt_read HT.out 1)
        have CL := Lib.hid (fun W (h : Twt noG w W aa xx tC [⟨1, s, false⟩]) => (show Calls Try.prog 31 #[.pointer (some ⟨xx, 0, none⟩)] W (fun e w' => e = .returned (.int .i64 1) ∧ W = w') from twt_len h))
        have hml : IntKind.i64.wrap ((ss.length : Int) - 1) = ((ss.length - 1 : Nat) : Int) := by
          rw [show (ss.length : Int) - 1 = ((ss.length - 1 : Nat) : Int) by omega]; exact wrapI (by omega)
        clear hT hc
        go_wp2_with (first
          | (go_at_call 30; (with_reducible refine CR.out.mono ?_); rintro e w6 ⟨rfl, h2, _⟩; have H2 := Lib.hid h2; have hc := HC.out _ h2; clear h2)
          | (go_at_call 31; (with_reducible refine (CL.out _ H2.out).mono ?_); rintro e w7 ⟨rfl, rfl⟩)
          | (go_at_call 14; (with_reducible refine (DK.out _).mono ?_); rintro e w9 ⟨rfl, hb9⟩; have H9 := Lib.hid ((H2.out.below hb9).1); clear hb9))
        go_ret
        exact ⟨rfl, H9.out.all⟩

set_option maxRecDepth 100000 in
theorem lifted (os : Os) (started : os.Started) (H : Type) (enc : TypeId × Value → H) :
    ReturnsInHanded {} Try.checked os 6 .any (Rows.cellTextsSpec.pre6 enc Try.prog Try.f6 Rows.cellTextsRow.domain false) (Rows.cellTextsSpec.post enc Try.prog Try.f6 false true false false) := by
  refine returnsInHanded_of_change (C := Try.checked) own started (by kernel_rfl) Try.func6
    (ChangeSpec.witness6 (enc := enc) (C := Try.checked) false ⟨#[], #[.slice none 0 0], []⟩ 8 (by kernel_rfl) (by kernel_rfl) (by kernel_rfl) (by kernel_rfl)) ?_
  intro W base args ds gs before hval0 hW hcnd _
  have hval : ∀ (j : Nat) t v, Try.f6.params[j]? = some t → args[j]? = some v → Value.okWide Try.prog W .any base t v := hval0
  have hW' := hW
  obtain ⟨p, q, hA0, hV, rfl, hfz, hnd⟩ := hW
  have hA : DataW.TrodAll enc Try.prog W 0 (fun _ => true) true Try.f6.params.toList args.toList ds p := hA0
  rw [Try.params6] at hA hval
  obtain ⟨v0, vs0, d0, ds0, p0, q0, hargs, rfl, rfl, h0, r0⟩ := trodAll_cons hA
  obtain ⟨rfl, rfl, rfl⟩ := trodAll_nil r0
  obtain rfl : args = #[v0] := by cases args; simp_all
  obtain ⟨rfl, rfl⟩ := trodVars_none hV
  have k0 := h0
  have lt0 : ∀ x ∈ p0, x.block < W.heap.size := by obtain ⟨m, hm⟩ := k0; exact DataW.trod_lt m _ _ _ hm
  obtain ⟨a0, rfl, w0⟩ := open_strs (hval 0 52 v0 rfl rfl) h0
  clear hA0 hval0
  refine (walk a0 W w0).mono fun e W' ⟨he, bel⟩ => ?_
  subst he
  exact ⟨_, rfl, _, _, _, [], _, [], hW', trodAll_mk1 (shut_bool Try.underlying4 _), (trodAll_cons_mk (Below.trod laidOut (by kernel_rfl) (of_decide_eq_true (by kernel_rfl)) k0 bel lt0) trodAll_mk0), rfl, bel.frame _, fun h => by cases h⟩

theorem over : Rows.cellTextsRow.holds Try.pinned (OpenSpec.ofChange Rows.cellTextsSpec) :=
  OpenClaim.holds_of_wide 6 Try.f6 rfl rfl rfl rfl rfl rfl rfl ⟨rfl, rfl, rfl, rfl, rfl⟩ rfl rfl rfl rfl rfl (by kernel_rfl) Try.func6 (by kernel_rfl)
    (of_decide_eq_true (by kernel_rfl)) (by unfold Func.isWrapper; first | (rw [if_pos (by decide +kernel)]; kernel_rfl) | (rw [if_neg (by decide +kernel)]; exact ⟨rfl, rfl⟩))
    (fun os started H enc _ => lifted os started H enc)

theorem proved : Rows.CellTextsSaid := over
#print axioms proved
end Go.Proofs.Ytpjjpjdamieeeaa.cellTexts
