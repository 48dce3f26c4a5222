/- Proved: ligaturelaw5.RedoLasts returns true for every slice of slices of bytes, slice of bytes, bool, int and slice of bools within the second form's bound on what they hold in all, and leaves its arguments as they were. -/
import Derived.Test.YtembonenaoineaaRows
import Derived.Test.YtembonenaoineaaGm
import Derived.Test.YtembonenaoineaaGn
import Derived.Deep.RegionLaw
import Derived.SizedLaws
import Derived.Deep.DeepCutAuto
import Derived.Deep.CutRange
import Derived.WalkKit
import Derived.ProofKit
import Derived.OpenShut
import Derived.ShutString
import Derived.ChangeOld
import Derived.Below
import Derived.JoinedCond
namespace Go.Proofs.Ytembonenaoineaa.redoLasts
set_option maxRecDepth 100000
open Go.ChangeShapes Go.WideShapes Go.ChangeAt Go.RowKit
open Go.ChangeMaps (open_string shut_string)
set_option linter.unusedVariables false
theorem own : ownKnob Try.prog.godebug = none := by kernel_rfl
theorem laidOut : laidOutB Try.prog = true := by kernel_rfl
theorem sumL_sumB (es : List (List UInt8)) : sumL es ≤ 2 * sumB es := by
  induction es with
  | nil => simp [sumL]
  | cons q es ih => simp only [sumL, sumB, List.map_cons, List.sum_cons] at *; omega
def LoopR (l : List (List UInt8)) (k : Nat) (s : DS) (L : LG) : Prop :=
  s.now.length = 100 ∧ s.life = some none ∧ Rst s L (l.take k) ∧ L.h.n ≤ k
def Mid (w : World) (a c : Nat) (l : List (List UInt8)) (p : List UInt8) (rs : Bool) (f wv : Value) (wx : World) : Prop :=
  ∃ (E : Int) (s s' : DS) (L L' : LG) (F : Nat → Prop) (A : Option Addr) (cw : Nat), f = .int .i64 E ∧ wv = .slice A (esOf rs l ++ [p]).length cw ∧ Es wx A (esOf rs l ++ [p]) ∧ Sys w wx F a c s' L' ∧ Rst s L l ∧ Stepd rs s L l p E s' L' ∧ s.now.length = 100

set_option maxHeartbeats 8000000 in
set_option maxRecDepth 100000 in
theorem walk (a0 : Sl (List UInt8)) (a1 : Sl UInt8) (a2 : Bool) (a3 : Int) (a4 : Sl Bool) (w : World) (w0 : SlR w a0) (w1 : SlB w a1) (w3 : (Lit.int .i64 a3).wf = true) (w4 : SlT w a4) (y0 : sumB a0.l ≤ 1048576) (y1 : a1.l.length ≤ 1048576) :
    Calls Try.prog 4 #[slv a0, slv a1, .bool a2, .int .i64 a3, slv a4] w fun e w' => e = .returned (.bool true) ∧ Below w.heap.size w w' := by
  obtain ⟨A, l, cl⟩ := a0
  obtain ⟨P, p, cp⟩ := a1
  obtain ⟨K, keep, kc⟩ := a4
  have H0 : Hid (Es w A l) := w0.1
  have HA0 : Hid (A = none → cl = 0) := w0.2
  have HP : Hid (BS w P p cp) := w1
  have HK : Hid (Row .bool w K keep) := w4
  obtain ⟨f0, f1⟩ := (show -9223372036854775808 ≤ a3 ∧ a3 ≤ 9223372036854775807 by simpa [Lit.wf, IntKind.min, IntKind.max, IntKind.signed, IntKind.bits] using w3)
  have hy0 : sumB l ≤ 1048576 := y0
  have hy1 : p.length ≤ 1048576 := y1
  have hll := sumB_few l
  clear w0 w1 w3 w4 y0 y1
  unfold slv
  simp only
  go_enter Try.func4, Try.ntmps4
  go_wp2
  go_loopw [11, 12] (fun n i wr => ∃ (k N : Nat), k ≤ l.length ∧ n = .int .i64 N ∧ i = .int .i64 k ∧ Hid (N = p.length + sumB (l.take k) ∧ w = wr)) (fun _ i _ => l.length - (intOf i).toNat)
  case atStart => exact ⟨0, p.length, Nat.zero_le _, rfl, rfl, by simp [sumB], rfl⟩
  case round =>
    obtain ⟨k, N, hkl, rfl, rfl, HW⟩ := hrel
    have hNb : N ≤ p.length + sumB l := by rw [HW.out.1]; have := sumB_take l k; omega
    obtain rfl := HW.out.2
    by_cases hlt : k < l.length
    · obtain ⟨ad, Ai, ci, hA, hcell, _⟩ := H0.out k hlt
      subst hA
      have hlk := sumB_mem (List.getElem_mem hlt)
      have HTK := Lib.hid (sumB_succ hlt)
      generalize l[k] = q at *
      go_wp2
      refine ⟨⟨k + 1, N + 1 + q.length, by omega, by go_num, by go_num, ⟨by rw [HTK.out]; have := HW.out.1; omega, by trivial⟩⟩, by simp [intOf]; omega⟩
    · obtain rfl : k = l.length := by omega
      have hNe : N = p.length + sumB l := by have := HW.out.1; rwa [List.take_length] at this
      clear HW
      by_cases hbad : 1500 < N ∨ 200 < keep.length ∨ a3 < 0 ∨ 40 < a3
      · clear hNe
        rcases (show 1500 < N ∨ (N ≤ 1500 ∧ 200 < keep.length) ∨ (N ≤ 1500 ∧ keep.length ≤ 200 ∧ a3 < 0) ∨ (N ≤ 1500 ∧ keep.length ≤ 200 ∧ 0 ≤ a3 ∧ 40 < a3) by omega) with q | ⟨q, q'⟩ | ⟨q, q', q''⟩ | ⟨q, q', q'', q3⟩
        all_goals (
          clear hbad
          go_wp2
          go_ret
          exact ⟨rfl, Below.refl _ _⟩)
      · have HSZ : Hid (p.length + sumB l ≤ 1500) := by simp only [Hid]; omega
        have hN15 : N ≤ 1500 := by omega
        have hp15 : p.length ≤ 1500 := by omega
        have hk200 : keep.length ≤ 200 := by omega
        have ha0 : 0 ≤ a3 := by omega
        have ha40 : a3 ≤ 40 := by omega
        have HLL : Hid (l.length ≤ 1500) := by simp only [Hid]; have := sumB_few l; omega
        clear hbad hNe hNb hlt hy0 hy1 hll
        have hll : l.length ≤ 1500 := HLL.out
        go_wp2_with fail
        refine (new_any 100 w).mono ?_
        rintro e w1 ⟨a, rfl, hp1, hb1⟩
        have HB1 := Lib.hid hb1
        have HF1 := Lib.hid (nu_ge (F := fun _ => False) (w := w) (w' := w1) (B := w.heap.size) (fun _ h => absurd h id) (Nat.le_refl _))
        have HP1 := Lib.hid hp1
        have HR := Lib.hid (rst_new 100 (by omega) (by omega))
        have HN : Hid ((nwS ((100 : Nat) : Int)).now.length = 100) := by simp only [Hid]; rw [nwS_len]; decide
        have HLF : Hid ((nwS ((100 : Nat) : Int)).life = some none) := rfl
        change Hid (PD _ w1 a (nwS ((100 : Nat) : Int))) at HP1
        clear hp1 hb1
        generalize Nu (fun _ => False) w w1 = F1 at *
        generalize nwS ((100 : Nat) : Int) = s1 at *
        go_wp2_with fail
        refine (open_rst HP1.out HR.out.rest (by simp)).mono ?_
        rintro e w2 ⟨hb2, c, v, rfl, hl2, hc2, hrs2⟩
        obtain ⟨A2, c2, rfl, _, _, _⟩ := hrs2.open
        have HS2 := Lib.hid (sys_open HB1.out HP1.out HF1.out hb2 hl2 hc2)
        have HLR : Hid (LoopR l 0 s1 ⟨hd0, 0, false⟩) := ⟨HN.out, HLF.out, by simpa using HR.out, Nat.zero_le _⟩
        clear hb2 hl2 hc2 hrs2 HP1 HB1 HF1 HR HN HLF
        go_wp2
        go_loopw [17] (fun i wr => ∃ (k : Nat) (s : DS) (L : LG) (F : Nat → Prop), k ≤ l.length ∧ i = .int .i64 k ∧ Hid (LoopR l k s L) ∧ Hid (Sys w wr F a c s L)) (fun i _ => l.length - (intOf i).toNat)
        case atStart => exact ⟨0, s1, _, F1, Nat.zero_le _, rfl, HLR.out, HS2.out⟩
        case round =>
          clear HLR HS2
          obtain ⟨k, s, L, F, hkl, rfl, HLR, HS⟩ := hrel
          by_cases hlt : k < l.length
          · obtain ⟨ad, Ai, ci, hA, hcell, hbs⟩ := (H0.out.below HS.out.bl) k hlt
            subst hA
            have HBS := Lib.hid hbs
            have HTK := Lib.hid (List.take_succ_eq_append_getElem hlt)
            have HTS := Lib.hid (sumB_succ hlt)
            have HTL := Lib.hid (sumB_take l (k + 1))
            generalize l[k] = q at *
            clear hbs
            obtain ⟨hsn, hlf, hr, hLn⟩ := HLR.out
            have hkL := HLL.out
            have hsb : sumB (l.take k) + (q.length + 1) ≤ 1500 := by have h1 := HTS.out; have h2 := HTL.out; have h3 := HSZ.out; omega
            have hbk : bk s.now = 49 := by unfold bk; rw [hsn]
            have hs2 := sumL_sumB (l.take k)
            have hen := enc_len (l.take k) (fun x hx => by have := sumB_mem hx; omega)
            have hep := encS_two (p := q) (by omega)
            have HAP := Lib.hid (app_rst HS.out hr Ai q ci HBS.out (by omega) (by rw [List.length_append, hbk]; omega) (by omega))
            have HST : Hid (s.life = some none ∧ s.now.length = 100 ∧ L.h.n ≤ k) := ⟨hlf, hsn, hLn⟩
            clear hsn hlf hr hLn hbk hs2 hen hep hsb hkL
            go_wp2_with fail
            refine HAP.out.mono ?_
            rintro e w4 ⟨E, s', L', rfl, hs4, hc4, hst⟩
            rcases hst.res with ⟨rfl, hr4, hn4, hlf4⟩ | ⟨_, hl, _⟩
            · have HS4 := Lib.hid hs4
              have HLR2 : Hid (LoopR l (k + 1) s' L') := ⟨hst.len.trans HST.out.2.1, hlf4 HST.out.1, by rw [HTK.out]; exact hr4, by rw [hn4]; have := HST.out.2.2; omega⟩
              clear hs4 hc4 hst hr4 hn4 hlf4 HAP hcell
              go_wp2
              refine ⟨⟨k + 1, s', L', _, by omega, by go_num, HLR2.out, HS4.out⟩, by simp [intOf]; omega⟩
            · exact absurd HST.out.1 hl
          · obtain rfl : k = l.length := by omega
            have hLR := HLR.out
            unfold LoopR at hLR
            rw [List.take_length] at hLR
            have HLR' := Lib.hid hLR
            clear hLR HLR hlt hkl
            go_wp2_with fail
            refine (fuse_any HS.out.pd a3 f0 f1).mono ?_
            rintro e w4 hd4
            have HS4 := Lib.hid (HS.out.does hd4)
            obtain ⟨rfl, _, _⟩ := hd4
            have HR4 := Lib.hid (HLR'.out.2.2.1.fuse (n := a3) f1)
            have HN4 : Hid ((fzS s a3).now.length = 100) := HLR'.out.1
            have HLn := Lib.hid HLR'.out.2.2.2
            generalize fzS s a3 = s4 at *
            generalize Nu F wr w4 = F4 at *
            clear HLR' HS
            have HRA : Hid (Rs (fun k => k < w.heap.size) w4.heap.size (w4.alloc (.cells #[] 36)) (.slice (some ⟨w4.heap.size, 0, none⟩) 0 0) []) := Rs.empty _ w4.heap.size w4 (Nat.le_refl _)
            have HBA : Hid (Below w4.heap.size w4 (w4.alloc (.cells #[] 36))) := (Below.refl _ _).alloc (Nat.le_refl _) _
            have HBW : Hid (Below w.heap.size w (w4.alloc (.cells #[] 36))) := HS4.out.bl.alloc HS4.out.bl.size _
            have hsz4 := HS4.out.bl.size
            go_upto_if 90 with (first
              | (at_builtin; refine wp_rs rfl (.tmp 84) (.tmp 85) rfl HRA.out rfl A l _ cl rfl rfl (H0.out.below HBW.out) HA0.out (hl_arg H0.out HBW.out _ (rs_ge HRA.out hsz4)) (by have := HLL.out; simp; omega) (by simp) ?_; intro v1 w5 hr5 hb5 hg5 ha5; rw [List.nil_append] at hr5; have HR5 := Lib.hid hr5; have HB5 := Lib.hid (HBA.out.trans hb5); have HP5 := Lib.hid (HP.out.below (HS4.out.bl.trans (HB5.out.mono hsz4))); have HI5 := Lib.hid (in_arg HP.out v1 (rs_ge hr5 hsz4)); have hz5 := HB5.out.size; clear hr5 hb5 hg5 ha5)
              | (at_builtin; refine wp_rs1 rfl (.tmp 86) (.tmp 88) rfl HR5.out rfl P p cp rfl HP5.out HI5.out (by have := HLL.out; omega) (by omega) ?_; intro v2 w6 hr6 hb6))
            have HS6 := Lib.hid (HS4.out.below (HB5.out.trans hb6))
            have HP6 := Lib.hid (HP.out.below HS6.out.bl)
            have HWT : Hid (Wt w w6 F4 c v2 (l ++ [p])) := Wt.of hr6 hsz4 HS4.out.pd.lt HS4.out.lm.lt
            have HIN := Lib.hid (arg_in (wr := w) HP.out)
            clear hr6 hb6 HR5 HB5 HP5 HI5 hz5 HRA HBA HBW HS4 hsz4
            go_cut [18, 19] from 24 to 146 (fun f wv wx => Hid (Mid w a c l p a2 f wv wx))
            case first =>
              have hbk : bk s4.now = 49 := by unfold bk; rw [HN4.out]
              have hsz := HSZ.out
              have hs2 := sumL_sumB l
              have hen := enc_len l (fun x hx => by have := sumB_mem hx; omega)
              have hep := encS_two (p := p) (by omega)
              have hln := HLn.out
              cases a2 with
              | true =>
                have HAP := Lib.hid (res_rst HS6.out HR4.out P p cp HP6.out (by omega) (by rw [hbk]; omega) (by omega))
                clear hbk hsz hs2 hen hep hln
                go_wp2_with fail
                refine HAP.out.mono ?_
                rintro e w7 ⟨E, s', L', rfl, hs7, hc7, hst⟩
                have HS7 := Lib.hid hs7
                have HST := Lib.hid hst
                clear hs7 hc7 hst HAP
                go_wp2
                go_meet
                have hb8 := (Below.refl w7.heap.size w7).alloc (Nat.le_refl _) (.cells #[.slice P p.length cp] 36)
                exact ⟨E, s4, s', L, L', _, _, 1, rfl, rfl, es_one (cell_new1 w7 (.slice P p.length cp) 36) ((HP.out.below HS7.out.bl).below hb8), HS7.out.below hb8, HR4.out, HST.out, HN4.out⟩
              | false =>
                have HAP := Lib.hid (app_rst HS6.out HR4.out P p cp HP6.out (by omega) (by rw [List.length_append, hbk]; omega) (by omega))
                clear hbk hsz hs2 hen hep hln
                go_wp2_with fail
                refine HAP.out.mono ?_
                rintro e w7 ⟨E, s', L', rfl, hs7, hc7, hst⟩
                have hw7 := HWT.out.puts HS6.out.fF HS6.out.fc hc7
                obtain ⟨A7, c7, hv7, hes7, _, _⟩ := hw7.1.open
                have HS7 := Lib.hid hs7
                have HST := Lib.hid hst
                have HV7 := Lib.hid hv7
                have HE7 := Lib.hid hes7
                clear hs7 hc7 hst HAP hw7 hv7 hes7
                go_wp2
                go_meet
                exact ⟨E, s4, s', L, L', _, A7, c7, rfl, HV7.out, HE7.out, HS7.out, HR4.out, HST.out, HN4.out⟩
            case rest =>
              clear HS6 HP6 HWT HR4 HN4 HLn
              obtain ⟨E, s5, s', L5, L', F5, Aw, cw, rfl, rfl, hes, hs, hr, hst, hn⟩ := hcut.out
              have hW1 : ∀ q ∈ esOf a2 l ++ [p], q.length ≤ 9223372036854775807 := fun q hq => by
                rcases List.mem_append.1 hq with hq | hq
                · cases a2 with
                  | true => simp [esOf] at hq
                  | false => have := sumB_mem (show q ∈ l from hq); have := HSZ.out; omega
                · simp at hq; subst hq; omega
              have hW2 : (esOf a2 l ++ [p]).length ≤ 100000 := by cases a2 <;> simp [esOf] <;> omega
              have hL1 : ∀ q ∈ l, q.length ≤ 9223372036854775807 := fun q hq => by have := sumB_mem hq; have := HSZ.out; omega
              have hpn : s'.pend.length ≤ 1000 := by have := hst.pend; rw [hr.rest.pend] at this; simp at this; omega
              have HCR := Lib.hid (crash_any hs.pd K keep kc (row_below' HK.out hs.bl) hpn)
              have H4' : Hid (4 ≤ s'.now.length) := by simp only [Hid]; rw [hst.len, hn]; decide
              have HALL := Lib.hid (hst.all keep)
              have HLEF := Lib.hid (hst.left keep)
              have HOK := Lib.hid hst.ok
              have HGO := Lib.hid (fun hE => hst.gone hr hE)
              have HS7 := Lib.hid hs
              have HES := Lib.hid hes
              have HW1 := Lib.hid hW1
              have HL1 := Lib.hid hL1
              clear hes hs hr hst hn hW1 hL1 hpn hcut
              generalize esOf a2 l ++ [p] = want at *
              go_wp2_with fail
              refine HCR.out.mono ?_
              rintro e w8 ⟨a8, rfl, hp8, hb8⟩
              have HS8 := Lib.hid (HS7.out.below hb8)
              have HES8 := Lib.hid (HES.out.below hb8)
              have HP8 := Lib.hid hp8
              generalize Nu (fun _ => False) wc w8 = F8 at *
              clear hp8 hb8 HCR HES HS7
              by_cases hE : E = 0
              · subst hE
                obtain ⟨hd, hr9, _⟩ := rst_crash HOK.out H4'.out (HALL.out rfl)
                have HOP := Lib.hid (open_rst HP8.out hr9.rest HW1.out)
                clear hr9 HALL HLEF HGO
                go_wp2_with fail
                refine HOP.out.mono ?_
                rintro e w9 ⟨hb9, c9, v9, rfl, _, _, hrs9⟩
                obtain ⟨A9, cc9, rfl, hes9, _, _⟩ := hrs9.open
                have HRO := Lib.hid (rows_any A9 want cc9 Aw want cw hes9 (HES8.out.below hb9) hW2)
                rw [show decide (want = want) = true by simp] at HRO
                have HS9 := Lib.hid (HS8.out.below hb9)
                clear hb9 hrs9 hes9 HOP
                go_wp2_with fail
                refine HRO.out.mono ?_
                rintro e w10 ⟨rfl, hb10⟩
                have HS10 := Lib.hid (HS9.out.below hb10)
                clear hb10 HRO
                go_wp2_with fail
                refine (known5_any _).mono ?_
                rintro e w11 ⟨rfl, hb11⟩
                have HS11 := Lib.hid (HS10.out.below hb11)
                clear hb11
                go_wp2
                go_ret
                exact ⟨rfl, HS11.out.bl⟩
              · obtain ⟨rfl, hg, _, _⟩ := HGO.out hE
                have HG := Lib.hid hg
                clear hE hg
                obtain ⟨es', hes', hleft⟩ : ∃ es', (es' = l ∨ es' = want) ∧ Left (crL s' keep) es' (L5.h.n + 1) := by
                  rcases HLEF.out with h | h
                  · exact ⟨l, .inl rfl, h⟩
                  · exact ⟨want, .inr rfl, h⟩
                obtain ⟨hd, hr9, _⟩ := rst_crash HOK.out H4'.out hleft
                have HOP := Lib.hid (open_rst HP8.out hr9.rest (by rcases hes' with rfl | rfl; exact HL1.out; exact HW1.out))
                have hE2 : es'.length ≤ 100000 := by rcases hes' with rfl | rfl <;> omega
                have HEO := Lib.hid hes'
                clear hr9 HALL HLEF HGO hleft hes'
                go_wp2_with fail
                refine HOP.out.mono ?_
                rintro e w9 ⟨hb9, c9, v9, rfl, _, _, hrs9⟩
                obtain ⟨A9, cc9, rfl, hes9, _, _⟩ := hrs9.open
                have HE9 := Lib.hid hes9
                have HRO := Lib.hid (rows_any A9 es' cc9 Aw want cw hes9 (HES8.out.below hb9) hE2)
                have HS9 := Lib.hid (HS8.out.below hb9)
                clear hb9 hrs9 hes9 HOP
                by_cases hq : es' = want
                · rw [decide_eq_true hq] at HRO
                  clear hq
                  go_wp2_with fail
                  refine HRO.out.mono ?_
                  rintro e w10 ⟨rfl, hb10⟩
                  have HS10 := Lib.hid (HS9.out.below hb10)
                  have HAD := Lib.hid (app_dead HS10.out HG.out.dead P p cp (HP.out.below HS10.out.bl) (by omega) HG.out.bd)
                  clear hb10 HRO
                  go_wp2_with fail
                  refine HAD.out.mono ?_
                  rintro e w11 ⟨rfl, hs11, _⟩
                  have HS11 := Lib.hid hs11
                  clear hs11 HAD
                  go_wp2_with fail
                  refine (known5_any _).mono ?_
                  rintro e w12 ⟨rfl, hb12⟩
                  have HS12 := Lib.hid (HS11.out.below hb12)
                  clear hb12
                  go_wp2
                  go_ret
                  exact ⟨rfl, HS12.out.bl⟩
                · rw [decide_eq_false hq] at HRO
                  have hel : es' = l := HEO.out.resolve_right hq
                  have HEL := Lib.hid hel
                  clear hq hel
                  go_wp2_with fail
                  refine HRO.out.mono ?_
                  rintro e w10 ⟨rfl, hb10⟩
                  have HS10 := Lib.hid (HS9.out.below hb10)
                  have HRL := Lib.hid (rows_any A9 es' cc9 A l cl (HE9.out.below hb10) (H0.out.below HS10.out.bl) hE2)
                  rw [decide_eq_true HEL.out] at HRL
                  clear hb10 HRO
                  go_wp2_with fail
                  refine HRL.out.mono ?_
                  rintro e w13 ⟨rfl, hb13⟩
                  have HS13 := Lib.hid (HS10.out.below hb13)
                  have HAD := Lib.hid (app_dead HS13.out HG.out.dead P p cp (HP.out.below HS13.out.bl) (by omega) HG.out.bd)
                  clear hb13 HRL
                  go_wp2_with fail
                  refine HAD.out.mono ?_
                  rintro e w11 ⟨rfl, hs11, _⟩
                  have HS11 := Lib.hid hs11
                  clear hs11 HAD
                  go_wp2_with fail
                  refine (known5_any _).mono ?_
                  rintro e w12 ⟨rfl, hb12⟩
                  have HS12 := Lib.hid (HS11.out.below hb12)
                  clear hb12
                  go_wp2
                  go_ret
                  exact ⟨rfl, HS12.out.bl⟩

theorem contract (H : Type) (enc : TypeId × Value → H) (W : World) (base : Nat) (args : Array Value) (ds gs : List (DataW H)) (before : List MemPlace)
    (hval0 : ∀ (j : Nat) t v, Try.f4.params[j]? = some t → args[j]? = some v → Value.okWide Try.prog W .any base t v)
    (hW : DataW.Whole enc Try.prog Try.f4.params.toList Rows.redoLastsSpec.vars false W args.toList ds gs before) (hk : Rows.uptoSmall H (ds ++ gs) = true) :
    Calls Try.prog 4 args W fun e W' => ∃ v, e = .returned v ∧ Rows.redoLastsSpec.post enc Try.prog Try.f4 false true false false W args v W' := by
  have hval : ∀ (j : Nat) t v, Try.f4.params[j]? = some t → args[j]? = some v → Value.okWide Try.prog W .any base t v := hval0
  have hW' := hW
  obtain ⟨p, q, hA0, hV, rfl, hfz, hnd⟩ := hW
  have hA : DataW.TrodAll enc Try.prog W 0 (fun _ => true) true Try.f4.params.toList args.toList ds p := hA0
  rw [Try.params4] at hA hval
  obtain ⟨v0, vs0, d0, ds0, p0, q0, hargs, rfl, rfl, h0, r0⟩ := trodAll_cons hA
  obtain ⟨v1, vs1, d1, ds1, p1, q1, rfl, rfl, rfl, h1, r1⟩ := trodAll_cons r0
  obtain ⟨v2, vs2, d2, ds2, p2, q2, rfl, rfl, rfl, h2, r2⟩ := trodAll_cons r1
  obtain ⟨v3, vs3, d3, ds3, p3, q3, rfl, rfl, rfl, h3, r3⟩ := trodAll_cons r2
  obtain ⟨v4, vs4, d4, ds4, p4, q4, rfl, rfl, rfl, h4, r4⟩ := trodAll_cons r3
  obtain ⟨rfl, rfl, rfl⟩ := trodAll_nil r4
  obtain rfl : args = #[v0, v1, v2, v3, v4] := by cases args; simp_all
  obtain ⟨rfl, rfl⟩ := trodVars_none hV
  simp only [List.append_nil] at hk
  have k0 := h0
  have lt0 : ∀ x ∈ p0, x.block < W.heap.size := by obtain ⟨m, hm⟩ := k0; exact DataW.trod_lt m _ _ _ hm
  obtain ⟨a0, rfl, w0, x0⟩ := open_rows (hval 0 29 v0 rfl rfl) h0
  have k1 := h1
  have lt1 : ∀ x ∈ p1, x.block < W.heap.size := by obtain ⟨m, hm⟩ := k1; exact DataW.trod_lt m _ _ _ hm
  obtain ⟨a1, rfl, w1, x1⟩ := open_bytes' (hval 1 36 v1 rfl rfl) h1
  obtain ⟨a2, rfl, rfl, rfl⟩ := open_bool Try.underlying4 (hval 2 4 v2 rfl rfl) h2
  obtain ⟨a3, rfl, rfl, rfl, w3⟩ := open_int Try.underlying3 (hval 3 3 v3 rfl rfl) h3
  have k4 := h4
  have lt4 : ∀ x ∈ p4, x.block < W.heap.size := by obtain ⟨m, hm⟩ := k4; exact DataW.trod_lt m _ _ _ hm
  obtain ⟨a4, rfl, w4⟩ := open_bools (hval 4 37 v4 rfl rfl) h4
  have y0 : sumB a0.l ≤ 1048576 := by
    have h1 := x0.2
    have h2 : Rows.uptoBulkAll [d0, d1, _, _, d4] ≤ 1048576 := of_decide_eq_true hk
    simp only [Rows.uptoBulkAll] at h2
    omega
  have y1 : a1.l.length ≤ 1048576 := by
    have h1 := x1.2
    have h2 : Rows.uptoBulkAll [d0, d1, _, _, d4] ≤ 1048576 := of_decide_eq_true hk
    simp only [Rows.uptoBulkAll] at h2
    omega
  clear hA0 hval0
  refine (walk a0 a1 a2 a3 a4 W w0 w1 w3 w4 y0 y1).mono fun e W' ⟨he, bel⟩ => ?_
  subst he
  exact ⟨_, rfl, _, _, _, [], _, [], hW', trodAll_mk1 (shut_bool Try.underlying4 _), (trodAll_cons_mk (Below.trod laidOut (by kernel_rfl) (of_decide_eq_true (by kernel_rfl)) k0 bel lt0) (trodAll_cons_mk (Below.trod laidOut (by kernel_rfl) (of_decide_eq_true (by kernel_rfl)) k1 bel lt1) (trodAll_cons_mk (shut_bool Try.underlying4 _) (trodAll_cons_mk (shut_int Try.underlying3 w3) (trodAll_cons_mk (Below.trod laidOut (by kernel_rfl) (of_decide_eq_true (by kernel_rfl)) k4 bel lt4) trodAll_mk0))))), rfl, bel.frame _, fun h => by cases h⟩

theorem lifted (os : Os) (started : os.Started) (H : Type) (enc : TypeId × Value → H) (F : Stop.Interp) :
    ReturnsInHanded {} Try.checked os 4 .any ((Rows.OpenSpec.upto Rows.redoLastsSpec).pre6 enc Try.prog Try.f4 Rows.redoLastsUptoRow.domain false) (((Rows.OpenSpec.upto Rows.redoLastsSpec).at F).post enc Try.prog Try.f4 false true false false) := by
  refine returnsInHanded_of_cond (C := Try.checked) (s := Rows.OpenSpec.upto Rows.redoLastsSpec) (k := Rows.uptoSmall) rfl own started (by kernel_rfl) Try.func4
    (OpenSpec.witness (enc := enc) (C := Try.checked) (s := Rows.OpenSpec.upto Rows.redoLastsSpec) (k := Rows.uptoSmall) rfl false ⟨#[], #[.slice none 0 0, .slice none 0 0, .bool false, .int .i64 0, .slice none 0 0], []⟩ 8 (by kernel_rfl) (by kernel_rfl) (by kernel_rfl)
      (x := ([.nil, .nil, .lit (.bool false), .lit (.int .i64 0), .nil], [], [])) (by kernel_rfl) rfl (by kernel_rfl)) ?_
  intro W base args ds gs before hval hW _ hk _
  exact contract H enc W base args ds gs before hval hW hk

theorem proved : Rows.RedoLastsUptoSaid :=
  OpenClaim.holds_of_cond 4 Try.f4 rfl rfl rfl rfl rfl rfl rfl ⟨rfl, rfl, rfl, rfl, rfl⟩ rfl rfl rfl rfl rfl (by kernel_rfl) Try.func4 (by kernel_rfl)
    (of_decide_eq_true (by kernel_rfl)) (by unfold Func.isWrapper; first | (rw [if_pos (by decide +kernel)]; kernel_rfl) | (rw [if_neg (by decide +kernel)]; exact ⟨rfl, rfl⟩))
    (fun os started H enc _ F => lifted os started H enc F)
#print axioms proved
end Go.Proofs.Ytembonenaoineaa.redoLasts
