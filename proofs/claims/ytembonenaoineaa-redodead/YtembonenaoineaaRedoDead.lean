/- Proved: ligaturelaw5.RedoDead returns true for every slice of slices of bytes and int, and leaves its arguments as they were. No condition. -/
import Derived.Test.YtembonenaoineaaRows
import Derived.Test.YtembonenaoineaaGk
import Derived.Test.YtembonenaoineaaGn
import Derived.WalkKit
import Derived.ProofKit
import Derived.OpenShut
import Derived.ShutString
import Derived.ChangeOld
import Derived.Below
namespace Go.Proofs.Ytembonenaoineaa.redoDead
set_option maxRecDepth 100000
open Go.ChangeShapes Go.WideShapes Go.ChangeAt Go.RowKit
open Go.ChangeMaps (open_string shut_string)
set_option linter.unusedVariables false
theorem own : ownKnob Try.prog.godebug = none := by kernel_rfl
theorem laidOut : laidOutB Try.prog = true := by kernel_rfl
theorem sum100 {es : List (List UInt8)} (h : ∀ p ∈ es, p.length ≤ 100) : sumL es ≤ 102 * es.length := by
  induction es with
  | nil => simp [sumL]
  | cons q es ih =>
    have h1 := h q (by simp)
    have h2 := ih (fun p hp => h p (by simp [hp]))
    simp only [sumL, List.map_cons, List.sum_cons, List.length_cons] at *; omega
def LoopR (l : List (List UInt8)) (k : Nat) (s : DS) (L : LG) (n : Nat) (dead : Bool) : Prop :=
  s.now.length = 200 ∧ n ≤ k ∧ ((dead = false ∧ n = k ∧ Rst s L (l.take k) ∧ L.h.n ≤ k ∧ ∀ p ∈ l.take k, p.length ≤ 100) ∨ (dead = true ∧ n = L.cnt ∧ Gone s L))

set_option maxHeartbeats 8000000 in
set_option maxRecDepth 100000 in
theorem walk (a0 : Sl (List UInt8)) (a1 : Int) (w : World) (w0 : SlR w a0) (w1 : (Lit.int .i64 a1).wf = true) :
    Calls Try.prog 8 #[slv a0, .int .i64 a1] w fun e w' => e = .returned (.bool true) ∧ Below w.heap.size w w' := by
  obtain ⟨A, l, cl⟩ := a0
  have H0 : Hid (Es w A l) := w0.1
  obtain ⟨n0, n1⟩ := (show -9223372036854775808 ≤ a1 ∧ a1 ≤ 9223372036854775807 by simpa [Lit.wf, IntKind.min, IntKind.max, IntKind.signed, IntKind.bits] using w1)
  clear w1 w0
  unfold slv
  simp only
  by_cases hbad : l.length < 1 ∨ 30 < l.length ∨ a1 < 0 ∨ 60 < a1
  · rcases (show l.length < 1 ∨ (1 ≤ l.length ∧ 30 < l.length) ∨ (1 ≤ l.length ∧ l.length ≤ 30 ∧ a1 < 0) ∨ (1 ≤ l.length ∧ l.length ≤ 30 ∧ 0 ≤ a1 ∧ 60 < a1) by omega) with q | ⟨q, q'⟩ | ⟨q, q', q''⟩ | ⟨q, q', q'', q3⟩
    all_goals (
      clear hbad
      go_enter Try.func8, Try.ntmps8
      go_wp2
      go_ret
      exact ⟨rfl, Below.refl _ _⟩)
  · have hl1 : 1 ≤ l.length := by omega
    have hl30 : l.length ≤ 30 := by omega
    have hf0 : 0 ≤ a1 := by omega
    have hf60 : a1 ≤ 60 := by omega
    clear hbad
    go_enter Try.func8, Try.ntmps8
    go_wp2_with fail
    refine (new_any 200 w).mono ?_
    rintro e w1 ⟨a, rfl, hp1, hb1⟩
    have HB1 := Lib.hid hb1
    have HF1 := Lib.hid (nu_ge (F := fun _ => False) (w := w) (w' := w1) (B := w.heap.size) (fun _ h => absurd h id) (Nat.le_refl _))
    have HP1 := Lib.hid hp1
    have HR := Lib.hid (rst_new 200 (by omega) (by omega))
    have HN : Hid ((nwS ((200 : Nat) : Int)).now.length = 200) := by simp only [Hid]; rw [nwS_len]; decide
    change Hid (PD _ w1 a (nwS ((200 : Nat) : Int))) at HP1
    clear hp1 hb1
    generalize Nu (fun _ => False) w w1 = F1 at *
    generalize nwS ((200 : Nat) : Int) = s1 at *
    go_wp2_with fail
    refine (open_rst HP1.out HR.out.rest (by simp)).mono ?_
    rintro e w2 ⟨hb2, c, v, rfl, hl2, hc2, hrs2⟩
    obtain ⟨A2, c2, rfl, _, _, _⟩ := hrs2.open
    have HS2 := Lib.hid (sys_open HB1.out HP1.out HF1.out hb2 hl2 hc2)
    clear hb2 hl2 hc2 hrs2 HP1 HB1 HF1
    go_wp2_with fail
    refine (fuse_any HS2.out.pd a1 n0 n1).mono ?_
    rintro e w3 hd3
    have HS3 := Lib.hid (HS2.out.does hd3)
    obtain ⟨rfl, _, _⟩ := hd3
    have HLR : Hid (LoopR l 0 (fzS s1 a1) ⟨hd0, 0, false⟩ 0 false) := ⟨HN.out, Nat.le_refl _, .inl ⟨rfl, rfl, by simpa using HR.out.fuse n1, Nat.zero_le _, by simp⟩⟩
    generalize Nu F1 w2 w3 = F3 at *
    generalize fzS s1 a1 = s3 at *
    clear HS2 HR HN
    go_wp2
    go_loopw [9, 10, 11] (fun n dd i wr => ∃ (k m : Nat) (b : Bool) (s : DS) (L : LG) (F : Nat → Prop), k ≤ l.length ∧ n = .int .i64 m ∧ dd = .bool b ∧ i = .int .i64 k ∧ Hid (LoopR l k s L m b) ∧ Hid (Sys w wr F a c s L)) (fun _ _ i _ => l.length - (intOf i).toNat)
    case atStart => exact ⟨0, 0, false, s3, _, F3, Nat.zero_le _, rfl, rfl, rfl, HLR.out, HS3.out⟩
    case round =>
      clear HLR HS3
      obtain ⟨k, m, b, s, L, F, hkl, rfl, rfl, rfl, HLR, HS⟩ := hrel
      have hm := HLR.out.2.1
      by_cases hlt : k < l.length
      · obtain ⟨ad, Ai, ci, hA, hcell, hbs⟩ := (H0.out.below HS.out.bl) k hlt
        subst hA
        have HBS := Lib.hid hbs
        have HTK := Lib.hid (List.take_succ_eq_append_getElem hlt)
        generalize hpk : l[k] = p at *
        clear hbs hpk
        by_cases h100 : 100 < p.length
        · go_wp2
          go_ret
          exact ⟨rfl, HS.out.bl⟩
        · have hp100 : p.length ≤ 100 := by omega
          cases b with
          | false =>
            obtain ⟨hN, _, ⟨_, hmk, hr, hLn, hle⟩ | ⟨h0, _⟩⟩ := HLR.out
            · have HN := Lib.hid hN
              have HRS := Lib.hid hr
              have HLN := Lib.hid hLn
              have HLE := Lib.hid hle
              subst hmk
              have hbk : bk s.now = 99 := by unfold bk; rw [HN.out]
              have hen := enc_len (l.take m) (fun q hq => by have := HLE.out q hq; omega)
              have hsm := sum100 HLE.out
              have htl : (l.take m).length ≤ 30 := by rw [List.length_take]; omega
              have hep := encS_two (p := p) (by omega)
              have HAP := Lib.hid (app_rst HS.out hr Ai p ci HBS.out (by omega) (by rw [List.length_append, hbk]; omega) (by omega))
              have hdec : decide ((100 : Int) < (p.length : Int)) = false := by simp; omega
              clear hN hr hLn hle hbk hen hsm htl hep
              go_wp2_with fail
              refine HAP.out.mono ?_
              rintro e w4 ⟨E, s', L', rfl, hs4, hc4, hst⟩
              by_cases hE : E = 0
              · subst hE
                rcases hst.res with ⟨_, hr4, hn4, _⟩ | ⟨h9, _⟩
                · have HS4 := Lib.hid hs4
                  have HLL := Lib.hid (llen_any hs4.lm)
                  have hct : L'.cnt = m + 1 := by rw [hr4.cnt]; simp [esOf, List.length_take]; omega
                  rw [hct] at HLL
                  have hq5 : (((m + 1 : Nat) : Int) != (m : Int) + 1) = false := by simp
                  have HLR2 : Hid (LoopR l (m + 1) s' L' (m + 1) false) := by
                    refine ⟨hst.len.trans HN.out, Nat.le_refl _, .inl ⟨rfl, rfl, ?_, by rw [hn4]; have := HLN.out; omega, ?_⟩⟩
                    · rw [HTK.out]; exact hr4
                    · rw [HTK.out]
                      intro q hq
                      rcases List.mem_append.1 hq with hq | hq
                      · exact HLE.out q hq
                      · simp at hq; subst hq; exact hp100
                  clear hs4 hc4 hst hr4 hn4 hct HAP
                  go_wp2_with fail
                  refine HLL.out.mono ?_
                  rintro e w5 ⟨rfl, rfl⟩
                  go_wp2
                  refine ⟨⟨m + 1, m + 1, false, s', L', _, by omega, by go_num, rfl, by go_num, HLR2.out, HS4.out⟩, by simp [intOf]; omega⟩
                · cases h9
              · obtain ⟨rfl, hg, hcn, _⟩ := hst.gone HRS.out hE
                have HS4 := Lib.hid hs4
                have HLL := Lib.hid (llen_any hs4.lm)
                have hct : L'.cnt = m := by rw [hcn, HRS.out.cnt]; simp [List.length_take]; omega
                rw [hct] at HLL
                have HLR2 : Hid (LoopR l (m + 1) s' L' m true) := ⟨hst.len.trans HN.out, by omega, .inr ⟨rfl, hct.symm, hg⟩⟩
                clear hs4 hc4 hst hcn hct HAP hg hE
                go_wp2_with fail
                refine HLL.out.mono ?_
                rintro e w5 ⟨rfl, rfl⟩
                go_wp2
                refine ⟨⟨m + 1, m, true, s', L', _, by omega, rfl, rfl, by go_num, HLR2.out, HS4.out⟩, by simp [intOf]; omega⟩
            · cases h0
          | true =>
            obtain ⟨hN, _, ⟨h0, _⟩ | ⟨_, hmk, hg⟩⟩ := HLR.out
            · cases h0
            · have HN := Lib.hid hN
              have HG := Lib.hid hg
              have HMK := Lib.hid hmk
              have HAP := Lib.hid (app_dead HS.out hg.dead Ai p ci HBS.out (by omega) hg.bd)
              clear hN hmk hg
              go_wp2_with fail
              refine HAP.out.mono ?_
              rintro e w4 ⟨rfl, hs4, hc4⟩
              have HS4 := Lib.hid hs4
              have HLL := Lib.hid (llen_any hs4.lm)
              rw [← HMK.out] at HLL
              have HLR2 : Hid (LoopR l (k + 1) s L m true) := ⟨HN.out, by omega, .inr ⟨rfl, HMK.out, HG.out⟩⟩
              clear hs4 hc4 HAP
              go_wp2_with fail
              refine HLL.out.mono ?_
              rintro e w5 ⟨rfl, rfl⟩
              go_wp2
              refine ⟨⟨k + 1, m, true, s, L, _, by omega, rfl, rfl, by go_num, HLR2.out, HS4.out⟩, by simp [intOf]; omega⟩
      · obtain rfl : k = l.length := by omega
        cases b with
        | false =>
          go_wp2_with fail
          refine (known5_any _).mono ?_
          rintro e w4 ⟨rfl, hb4⟩
          have HB4 := Lib.hid (HS.out.bl.trans (hb4.mono HS.out.bl.size))
          clear hb4
          go_wp2
          go_ret
          exact ⟨rfl, HB4.out⟩
        | true =>
          obtain ⟨hN, _, ⟨h0, _⟩ | ⟨_, hmk, hg⟩⟩ := HLR.out
          · cases h0
          · have HAP := Lib.hid (res_dead HS.out hg.dead none [] 0 (bs_nil _) (by decide) hg.bd)
            change Hid (Calls _ _ #[_, .slice none 0 0] _ _) at HAP
            clear hN hmk hg
            go_wp2_with fail
            refine HAP.out.mono ?_
            rintro e w4 ⟨rfl, hs4, hc4⟩
            have HS4 := Lib.hid hs4
            clear hs4 hc4
            go_wp2_with fail
            refine (known5_any _).mono ?_
            rintro e w5 ⟨rfl, hb5⟩
            have HB5 := Lib.hid (HS4.out.bl.trans (hb5.mono HS4.out.bl.size))
            clear hb5
            go_wp2
            go_ret
            exact ⟨rfl, HB5.out⟩

set_option maxRecDepth 100000 in
theorem lifted (os : Os) (started : os.Started) (H : Type) (enc : TypeId × Value → H) :
    ReturnsInHanded {} Try.checked os 8 .any (Rows.redoDeadSpec.pre6 enc Try.prog Try.f8 Rows.redoDeadRow.domain false) (Rows.redoDeadSpec.post enc Try.prog Try.f8 false true false false) := by
  refine returnsInHanded_of_change (C := Try.checked) own started (by kernel_rfl) Try.func8
    (ChangeSpec.witness6 (enc := enc) (C := Try.checked) false ⟨#[], #[.slice none 0 0, .int .i64 0], []⟩ 8 (by kernel_rfl) (by kernel_rfl) (by kernel_rfl) (by kernel_rfl)) ?_
  intro W base args ds gs before hval0 hW hcnd _
  have hval : ∀ (j : Nat) t v, Try.f8.params[j]? = some t → args[j]? = some v → Value.okWide Try.prog W .any base t v := hval0
  have hW' := hW
  obtain ⟨p, q, hA0, hV, rfl, hfz, hnd⟩ := hW
  have hA : DataW.TrodAll enc Try.prog W 0 (fun _ => true) true Try.f8.params.toList args.toList ds p := hA0
  rw [Try.params8] at hA hval
  obtain ⟨v0, vs0, d0, ds0, p0, q0, hargs, rfl, rfl, h0, r0⟩ := trodAll_cons hA
  obtain ⟨v1, vs1, d1, ds1, p1, q1, rfl, rfl, rfl, h1, r1⟩ := trodAll_cons r0
  obtain ⟨rfl, rfl, rfl⟩ := trodAll_nil r1
  obtain rfl : args = #[v0, v1] := by cases args; simp_all
  obtain ⟨rfl, rfl⟩ := trodVars_none hV
  have k0 := h0
  have lt0 : ∀ x ∈ p0, x.block < W.heap.size := by obtain ⟨m, hm⟩ := k0; exact DataW.trod_lt m _ _ _ hm
  obtain ⟨a0, rfl, w0, x0⟩ := open_rows (hval 0 29 v0 rfl rfl) h0
  obtain ⟨a1, rfl, rfl, rfl, w1⟩ := open_int Try.underlying3 (hval 1 3 v1 rfl rfl) h1
  clear hA0 hval0
  refine (walk a0 a1 W w0 w1).mono fun e W' ⟨he, bel⟩ => ?_
  subst he
  exact ⟨_, rfl, _, _, _, [], _, [], hW', trodAll_mk1 (shut_bool Try.underlying4 _), (trodAll_cons_mk (Below.trod laidOut (by kernel_rfl) (of_decide_eq_true (by kernel_rfl)) k0 bel lt0) (trodAll_cons_mk (shut_int Try.underlying3 w1) trodAll_mk0)), rfl, bel.frame _, fun h => by cases h⟩

theorem over : Rows.redoDeadRow.holds Try.pinned (OpenSpec.ofChange Rows.redoDeadSpec) :=
  OpenClaim.holds_of_wide 8 Try.f8 rfl rfl rfl rfl rfl rfl rfl ⟨rfl, rfl, rfl, rfl, rfl⟩ rfl rfl rfl rfl rfl (by kernel_rfl) Try.func8 (by kernel_rfl)
    (of_decide_eq_true (by kernel_rfl)) (by unfold Func.isWrapper; first | (rw [if_pos (by decide +kernel)]; kernel_rfl) | (rw [if_neg (by decide +kernel)]; exact ⟨rfl, rfl⟩))
    (fun os started H enc _ => lifted os started H enc)

theorem proved : Rows.RedoDeadSaid := over
#print axioms proved
end Go.Proofs.Ytembonenaoineaa.redoDead
