/- Proved: ligaturelaw5.RedoTwice returns true for every slice of slices of bytes, slice of bytes, slice of bools and slice of bytes within the second form's bound on what they hold in all, and leaves its arguments as they were. -/
import Derived.Test.YtembonenaoineaaRows
import Derived.Test.YtembonenaoineaaGm
import Derived.Test.YtembonenaoineaaGn
import Derived.Deep.RegionLaw
import Derived.SizedLaws
import Derived.Deep.DeepCutAuto
import Derived.Deep.CutRange
import Derived.WalkKit
import Derived.ProofKit
import Derived.OpenShut
import Derived.ShutString
import Derived.ChangeOld
import Derived.Below
import Derived.JoinedCond
namespace Go.Proofs.Ytembonenaoineaa.redoTwice
set_option maxRecDepth 100000
open Go.ChangeShapes Go.WideShapes Go.ChangeAt Go.RowKit
open Go.ChangeMaps (open_string shut_string)
set_option linter.unusedVariables false
theorem own : ownKnob Try.prog.godebug = none := by kernel_rfl
theorem laidOut : laidOutB Try.prog = true := by kernel_rfl
section
variable {L : Nat → Prop} {B : Nat} {w w' : World} {v : Value} {es : List (List UInt8)} {ops : Array Oper} {rest : List Oper} {o : Oper} {a : Act} {Q : Exit → Act → World → Prop}
theorem wp_rsW (hw : Region.wanted o (yielded ops a.tmps) = true) (s x : Operand) (ho : o.op = .call { callee := .builtin .append, args := #[s, x], argTypes := #[29, 29] })
    (hown : Rs L B w v es) (hs : a.eval s = v) (A : Option Addr) (ms : List (List UInt8)) (n c : Nat) (hx : a.eval x = .slice A n c) (hn : n = ms.length) (hm : Es w A ms) (hbare : A = none → c = 0)
    (hL : ∀ i (hi : i < ms.length) Ai ci ad, A.map (·.add i) = some ad → w.cell? ad = some (.slice Ai ms[i].length ci) → ∀ bd, Ai = some bd → ms[i] = [] ∨ (L bd.block ∧ v.ownBlock ≠ some bd.block))
    (hle : es.length + ms.length ≤ 1000000) (hB : B ≤ w.heap.size)
    (h : ∀ v' w', Rs L B w' v' (es ++ ms) → Below B w w' → w.grownBy w' v.ownBlock → (v'.ownBlock = v.ownBlock ∨ v'.ownBlock = some w.heap.size) → wpList Try.prog ops Q rest (a.put o.dst v') w') : wpList Try.prog ops Q (o :: rest) a w :=
  BigFrame.wpList_want hw fun _ hK => rs_wp s x ho hown hs A ms n c hx hn hm hbare hL hle hB fun v' w' h1 h2 h3 h4 => hK _ _ (h v' w' h1 h2 h3 h4)
/-- What the slices of a row hold lies in blocks that are there. -/
theorem rs_tight (h : Rs L B w v es) : Rs (fun k => L k ∧ k < w.heap.size) B w v es := by
  obtain ⟨rs, h1, h2, h3⟩ := h
  refine ⟨rs, h1, h2, fun i hi => ?_⟩
  obtain ⟨A, c, e, hb, hA⟩ := h3 i hi
  refine ⟨A, c, e, hb, fun ad ea => ?_⟩
  rcases hA ad ea with h | h
  · exact .inl h
  · rcases arg_in (wr := w) hb ad ea with g | g
    · exact .inl g
    · exact .inr ⟨⟨h.1, g⟩, h.2⟩
end
theorem sumL_sumB (es : List (List UInt8)) : sumL es ≤ 2 * sumB es := by
  induction es with
  | nil => simp [sumL]
  | cons q es ih => simp only [sumL, sumB, List.map_cons, List.sum_cons] at *; omega
def LoopR (l : List (List UInt8)) (k : Nat) (s : DS) (L : LG) : Prop :=
  s.now.length = 100 ∧ s.life = some none ∧ Rst s L (l.take k) ∧ L.h.n ≤ k

set_option maxHeartbeats 8000000 in
set_option maxRecDepth 100000 in
theorem walk (a0 : Sl (List UInt8)) (a1 : Sl UInt8) (a2 : Sl Bool) (a3 : Sl UInt8) (w : World) (w0 : SlR w a0) (w1 : SlB w a1) (w2 : SlT w a2) (w3 : SlB w a3) (y0 : sumB a0.l ≤ 1048576) (y1 : a1.l.length ≤ 1048576) (y3 : a3.l.length ≤ 1048576) :
    Calls Try.prog 5 #[slv a0, slv a1, slv a2, slv a3] w fun e w' => e = .returned (.bool true) ∧ Below w.heap.size w w' := by
  obtain ⟨A, l, cl⟩ := a0
  obtain ⟨P, p, cp⟩ := a1
  obtain ⟨K, keep, kc⟩ := a2
  obtain ⟨M, more, cm⟩ := a3
  have H0 : Hid (Es w A l) := w0.1
  have HP : Hid (BS w P p cp) := w1
  have HK : Hid (Row .bool w K keep) := w2
  have HM : Hid (BS w M more cm) := w3
  have hy0 : sumB l ≤ 1048576 := y0
  have hy1 : p.length ≤ 1048576 := y1
  have hy3 : more.length ≤ 1048576 := y3
  have hll := sumB_few l
  clear w0 w1 w2 w3 y0 y1 y3
  unfold slv
  simp only
  go_enter Try.func5, Try.ntmps5
  go_wp2
  go_loopw [9, 10] (fun n i wr => ∃ (k N : Nat), k ≤ l.length ∧ n = .int .i64 N ∧ i = .int .i64 k ∧ Hid (N = p.length + more.length + sumB (l.take k) ∧ w = wr)) (fun _ i _ => l.length - (intOf i).toNat)
  case atStart => exact ⟨0, p.length + more.length, Nat.zero_le _, by go_num, rfl, by simp [sumB], rfl⟩
  case round =>
    obtain ⟨k, N, hkl, rfl, rfl, HW⟩ := hrel
    have hNb : N ≤ p.length + more.length + sumB l := by rw [HW.out.1]; have := sumB_take l k; omega
    obtain rfl := HW.out.2
    by_cases hlt : k < l.length
    · obtain ⟨ad, Ai, ci, hA, hcell, _⟩ := H0.out k hlt
      subst hA
      have hlk := sumB_mem (List.getElem_mem hlt)
      have HTK := Lib.hid (sumB_succ hlt)
      generalize l[k] = q at *
      go_wp2
      refine ⟨⟨k + 1, N + 1 + q.length, by omega, by go_num, by go_num, ⟨by rw [HTK.out]; have := HW.out.1; omega, by trivial⟩⟩, by simp [intOf]; omega⟩
    · obtain rfl : k = l.length := by omega
      have hNe : N = p.length + more.length + sumB l := by have := HW.out.1; rwa [List.take_length] at this
      clear HW
      by_cases hbad : 1500 < N ∨ 200 < keep.length
      · clear hNe
        rcases (show 1500 < N ∨ (N ≤ 1500 ∧ 200 < keep.length) by omega) with q | ⟨q, q'⟩
        all_goals (
          clear hbad
          go_wp2
          go_ret
          exact ⟨rfl, Below.refl _ _⟩)
      · have HSZ : Hid (p.length + more.length + sumB l ≤ 1500) := by simp only [Hid]; omega
        have hN15 : N ≤ 1500 := by omega
        have hp15 : p.length ≤ 1500 := by omega
        have hm15 : more.length ≤ 1500 := by omega
        have hk200 : keep.length ≤ 200 := by omega
        have HLL : Hid (l.length ≤ 1500) := by simp only [Hid]; omega
        clear hbad hNe hNb hlt hy0 hy1 hy3 hll
        have hll : l.length ≤ 1500 := HLL.out
        go_wp2_with fail
        refine (new_any 100 w).mono ?_
        rintro e w1 ⟨a, rfl, hp1, hb1⟩
        have HB1 := Lib.hid hb1
        have HF1 := Lib.hid (nu_ge (F := fun _ => False) (w := w) (w' := w1) (B := w.heap.size) (fun _ h => absurd h id) (Nat.le_refl _))
        have HP1 := Lib.hid hp1
        have HR := Lib.hid (rst_new 100 (by omega) (by omega))
        have HN : Hid ((nwS ((100 : Nat) : Int)).now.length = 100) := by simp only [Hid]; rw [nwS_len]; decide
        have HLF : Hid ((nwS ((100 : Nat) : Int)).life = some none) := rfl
        change Hid (PD _ w1 a (nwS ((100 : Nat) : Int))) at HP1
        clear hp1 hb1
        generalize Nu (fun _ => False) w w1 = F1 at *
        generalize nwS ((100 : Nat) : Int) = s1 at *
        go_wp2_with fail
        refine (open_rst HP1.out HR.out.rest (by simp)).mono ?_
        rintro e w2 ⟨hb2, c, v, rfl, hl2, hc2, hrs2⟩
        obtain ⟨A2, c2, rfl, _, _, _⟩ := hrs2.open
        have HS2 := Lib.hid (sys_open HB1.out HP1.out HF1.out hb2 hl2 hc2)
        have HLR : Hid (LoopR l 0 s1 ⟨hd0, 0, false⟩) := ⟨HN.out, HLF.out, by simpa using HR.out, Nat.zero_le _⟩
        clear hb2 hl2 hc2 hrs2 HP1 HB1 HF1 HR HN HLF
        go_wp2
        go_loopw [15] (fun i wr => ∃ (k : Nat) (s : DS) (L : LG) (F : Nat → Prop), k ≤ l.length ∧ i = .int .i64 k ∧ Hid (LoopR l k s L) ∧ Hid (Sys w wr F a c s L)) (fun i _ => l.length - (intOf i).toNat)
        case atStart => exact ⟨0, s1, _, F1, Nat.zero_le _, rfl, HLR.out, HS2.out⟩
        case round =>
          clear HLR HS2
          obtain ⟨k, s, L, F, hkl, rfl, HLR, HS⟩ := hrel
          by_cases hlt : k < l.length
          · obtain ⟨ad, Ai, ci, hA, hcell, hbs⟩ := (H0.out.below HS.out.bl) k hlt
            subst hA
            have HBS := Lib.hid hbs
            have HTK := Lib.hid (List.take_succ_eq_append_getElem hlt)
            have HTS := Lib.hid (sumB_succ hlt)
            have HTL := Lib.hid (sumB_take l (k + 1))
            generalize l[k] = q at *
            clear hbs
            obtain ⟨hsn, hlf, hr, hLn⟩ := HLR.out
            have hkL := HLL.out
            have hsb : sumB (l.take k) + (q.length + 1) ≤ 1500 := by have h1 := HTS.out; have h2 := HTL.out; have h3 := HSZ.out; omega
            have hbk : bk s.now = 49 := by unfold bk; rw [hsn]
            have hs2 := sumL_sumB (l.take k)
            have hen := enc_len (l.take k) (fun x hx => by have := sumB_mem hx; omega)
            have hep := encS_two (p := q) (by omega)
            have HAP := Lib.hid (app_rst HS.out hr Ai q ci HBS.out (by omega) (by rw [List.length_append, hbk]; omega) (by omega))
            have HST : Hid (s.life = some none ∧ s.now.length = 100 ∧ L.h.n ≤ k) := ⟨hlf, hsn, hLn⟩
            clear hsn hlf hr hLn hbk hs2 hen hep hsb hkL
            go_wp2_with fail
            refine HAP.out.mono ?_
            rintro e w4 ⟨E, s', L', rfl, hs4, hc4, hst⟩
            rcases hst.res with ⟨rfl, hr4, hn4, hlf4⟩ | ⟨_, hl, _⟩
            · have HS4 := Lib.hid hs4
              have HLR2 : Hid (LoopR l (k + 1) s' L') := ⟨hst.len.trans HST.out.2.1, hlf4 HST.out.1, by rw [HTK.out]; exact hr4, by rw [hn4]; have := HST.out.2.2; omega⟩
              clear hs4 hc4 hst hr4 hn4 hlf4 HAP hcell
              go_wp2
              refine ⟨⟨k + 1, s', L', _, by omega, by go_num, HLR2.out, HS4.out⟩, by simp [intOf]; omega⟩
            · exact absurd HST.out.1 hl
          · obtain rfl : k = l.length := by omega
            have hLR := HLR.out
            unfold LoopR at hLR
            rw [List.take_length] at hLR
            have HLR' := Lib.hid hLR
            clear hLR HLR hlt hkl
            go_wp2_with fail
            refine (fuse_any HS.out.pd 2 (by decide) (by decide)).mono ?_
            rintro e w4 hd4
            have HS4 := Lib.hid (HS.out.does hd4)
            obtain ⟨rfl, _, _⟩ := hd4
            have HR4 := Lib.hid (HLR'.out.2.2.1.fuse (n := 2) (by decide))
            have HN4 : Hid ((fzS s 2).now.length = 100) := HLR'.out.1
            have hln := HLR'.out.2.2.2
            generalize fzS s 2 = s4 at *
            generalize Nu F wr w4 = F4 at *
            clear HLR' HS
            have hbk : bk s4.now = 49 := by unfold bk; rw [HN4.out]
            have hsz := HSZ.out
            have hs2 := sumL_sumB l
            have hen := enc_len l (fun x hx => by have := sumB_mem hx; omega)
            have hep := encS_two (p := p) (by omega)
            have HAP := Lib.hid (app_rst HS4.out HR4.out P p cp (HP.out.below HS4.out.bl) (by omega) (by rw [List.length_append, hbk]; omega) (by omega))
            clear hbk hs2 hen hep
            go_wp2_with fail
            refine HAP.out.mono ?_
            rintro e w7 ⟨E, s', L', rfl, hs7, hc7, hst⟩
            have hpn : s'.pend.length ≤ 1000 := by have := hst.pend; rw [HR4.out.rest.pend] at this; simp at this; omega
            have HCR := Lib.hid (crash_any hs7.pd K keep kc (row_below' HK.out hs7.bl) hpn)
            have h4' : 4 ≤ s'.now.length := by rw [hst.len, HN4.out]; decide
            have HN8 : Hid ((crS s' keep).now.length = 100) := by
              simp only [Hid]
              show (crL s' keep).length = 100
              rw [crL_len hst.ok, hst.len, HN4.out]
            have HLF8 : Hid ((crS s' keep).life = some none) := rfl
            obtain ⟨es', hes', hleft⟩ : ∃ es', (es' = l ∨ es' = l ++ [p]) ∧ Left (crL s' keep) es' (L.h.n + 1) := by
              rcases hst.left keep with h | h
              · exact ⟨l, .inl rfl, h⟩
              · exact ⟨l ++ [p], .inr rfl, h⟩
            have hsb : sumL es' ≤ 2 * sumB l + p.length + 2 := by
              have := sumL_sumB l
              rcases hes' with rfl | rfl
              · omega
              · rw [sumL_snoc]; omega
            obtain ⟨hd, hr8, hd8⟩ := rst_crash hst.ok h4' hleft
            have HR8 := Lib.hid hr8
            have HB7 := Lib.hid hs7.bl
            clear hs7 hc7 hst hpn h4' hes' hleft hr8 HAP HS4 HR4 HN4
            go_wp2_with fail
            refine HCR.out.mono ?_
            rintro e w8 ⟨a8, rfl, hp8, hb8⟩
            have HB8 := Lib.hid (HB7.out.trans (hb8.mono HB7.out.size))
            have HF8 := Lib.hid (nu_ge (F := fun _ => False) (w := w7) (w' := w8) (B := w.heap.size) (fun _ h => absurd h id) HB7.out.size)
            have HP8 := Lib.hid hp8
            generalize Nu (fun _ => False) w7 w8 = F8 at *
            generalize crS s' keep = s8 at *
            clear hp8 hb8 HCR HB7
            have HE1 : Hid (∀ q ∈ es', q.length ≤ 9223372036854775807) := fun q hq => by have := sumL_mem hq; omega
            have hE2 : es'.length ≤ 3100 := by have := sumL_few es'; omega
            have HOP := Lib.hid (open_rst HP8.out HR8.out.rest HE1.out)
            go_wp2_with fail
            refine HOP.out.mono ?_
            rintro e w9 ⟨hb9, c9, v9, rfl, _, _, hrs9⟩
            have HT9 := Lib.hid (rs_tight hrs9)
            have HB9 := Lib.hid (HB8.out.trans (hb9.mono HB8.out.size))
            have HP9 := Lib.hid (HP8.out.below hb9)
            have hz9 := hb9.size
            have HL8 := Lib.hid HP8.out.lt
            obtain ⟨A9, cc9, rfl, _, _, _⟩ := hrs9.open
            have HV9 : Hid (∀ k, (Value.slice A9 es'.length cc9).ownBlock = some k → k < w9.heap.size) := fun k hk => (HT9.out.lt hk).2
            have HOP2 := Lib.hid (open_rst HP9.out HR8.out.rest HE1.out)
            clear hb9 hrs9 HOP HP8
            go_wp2_with fail
            refine HOP2.out.mono ?_
            rintro e w10 ⟨hb10, c10, v10, rfl, hl10, hc10, hrs10⟩
            have HS10 := Lib.hid (sys_open HB9.out HP9.out HF8.out hb10 hl10 hc10)
            have HT10 := Lib.hid (HT9.out.below hb10)
            obtain ⟨A10, cc10, rfl, hes10, _, _⟩ := hrs10.open
            obtain ⟨A9', cc9', hv9, hes9, _, _⟩ := HT10.out.open
            injection hv9 with hv9 _ hv9'
            subst hv9; subst hv9'
            have HRO := Lib.hid (rows_any A9 es' cc9 A10 es' cc10 hes9 hes10 (by omega))
            rw [show decide (es' = es') = true by simp] at HRO
            clear hb10 hl10 hrs10 hes10 hes9 HOP2 HT9 HP9
            go_wp2_with fail
            refine HRO.out.mono ?_
            rintro e w11 ⟨rfl, hb11⟩
            have HS11 := Lib.hid (HS10.out.below hb11)
            have HT11 := Lib.hid (HT10.out.below hb11)
            clear hb11 HRO HT10 HS10
            have hbk : bk s8.now = 49 := by unfold bk; rw [HN8.out]
            have hen := enc_len es' (fun x hx => by have := sumL_mem hx; omega)
            have hep := encS_two (p := more) (by omega)
            have HAP := Lib.hid (app_rst HS11.out HR8.out M more cm (HM.out.below HS11.out.bl) (by omega) (by rw [List.length_append, hbk]; omega) (by show hd.n < _; omega))
            clear hbk hen hep
            go_wp2_with fail
            refine HAP.out.mono ?_
            rintro e w12 ⟨E2, s12, L12, rfl, hs12, hc12, hst⟩
            rcases hst.res with ⟨rfl, hr12, _, _⟩ | ⟨_, hl, _⟩
            · have HS12 := Lib.hid hs12
              have HR12 : Hid (Rst s12 L12 (es' ++ [more])) := hr12
              have HT12 := Lib.hid (HT11.out.chg hc12 (fun k hk e => by
                have h1 := HT11.out.lt hk
                rcases e with e | e
                · have := HL8.out k e; omega
                · have := HV9.out k hk; omega) (fun k hk e => by
                rcases e with e | e
                · have := HL8.out k e; omega
                · have := hk.2; omega))
              have HOP3 := Lib.hid (open_rst hs12.pd hr12.rest (fun q hq => by
                rcases List.mem_append.1 hq with hq | hq
                · exact HE1.out q hq
                · simp at hq; subst hq; omega))
              change Hid (Calls _ _ _ _ fun e w' => _ ∧ ∃ c v, _ ∧ _ ∧ _ ∧ Rs _ _ w' v (es' ++ [more])) at HOP3
              clear hs12 hc12 hst hr12 HAP HT11 HS11
              go_wp2_with fail
              refine HOP3.out.mono ?_
              rintro e w13 ⟨hb13, c13, v13, rfl, _, _, hrs13⟩
              have HS13 := Lib.hid (HS12.out.below hb13)
              have HT13 := Lib.hid (HT12.out.below hb13)
              obtain ⟨A13, cc13, rfl, hes13, _, _⟩ := hrs13.open
              obtain ⟨A9', cc9', hv9, hes9, hbare9, _⟩ := HT13.out.open
              injection hv9 with hv9 _ hv9'
              subst hv9; subst hv9'
              have HE13 := Lib.hid hes13
              have HE9 := Lib.hid hes9
              have HBR := Lib.hid hbare9
              have HM13 := Lib.hid (HM.out.below HS13.out.bl)
              have HRA : Hid (Rs (fun k => k < w13.heap.size) w13.heap.size (w13.alloc (.cells #[] 36)) (.slice (some ⟨w13.heap.size, 0, none⟩) 0 0) []) := Rs.empty _ w13.heap.size w13 (Nat.le_refl _)
              have HBA : Hid (Below w13.heap.size w13 (w13.alloc (.cells #[] 36))) := (Below.refl _ _).alloc (Nat.le_refl _) _
              clear hb13 hrs13 hes13 hes9 hbare9 HOP3 HT12 HS12
              go_wp2_with (first
                | (have _ := HRO14; at_builtin; refine wp_rsW (by rfl) (.tmp 131) (.tmp 133) rfl HRO14.out rfl (some ⟨w14.heap.size, 0, none⟩) [more] 1 1 rfl rfl EO.out (fun e => by cases e) LO.out (by show es'.length + 1 ≤ 1000000; omega) BO.out.size ?_; intro v15 w15 hr15 hb15 hg15 ha15; have HB15 := Lib.hid (BO.out.trans hb15); obtain ⟨A15, c15, hv15, hes15, _, _⟩ := hr15.open; subst hv15; have HE15 := Lib.hid hes15; have HS15 := Lib.hid (HS13.out.below HB15.out); have HRO := Lib.hid (rows_any A13 (es' ++ [more]) cc13 A15 (es' ++ [more]) c15 (HE13.out.below HB15.out) hes15 (by simp; omega)); rw [show decide (es' ++ [more] = es' ++ [more]) = true by simp] at HRO; clear hr15 hb15 hg15 ha15 hes15)
                | (at_builtin; refine wp_rsW (by rfl) (.tmp 129) (.tmp 130) rfl HRA.out rfl A9 es' _ cc9 rfl rfl (HE9.out.below HBA.out) HBR.out (hl_arg HE9.out HBA.out _ (rs_ge HRA.out (Nat.le_refl _))) (by simp; omega) (by simp) ?_; intro v14 w14 hr14 hb14 hg14 ha14; rw [List.nil_append] at hr14; have HR14 := Lib.hid hr14; have HB14 := Lib.hid (HBA.out.trans hb14); have HRO14 : Hid (Rs (fun k => k < w13.heap.size) w13.heap.size (w14.alloc (.cells #[.slice M more.length cm] 36)) v14 es') := (hr14.below ((Below.refl _ _).alloc (Nat.le_refl _) _)); have CO := Lib.hid (cell_new1 w14 (.slice M more.length cm) 36); have BO : Hid (Below w13.heap.size w13 (w14.alloc (.cells #[.slice M more.length cm] 36))) := (HB14.out.alloc HB14.out.size _); have EO := Lib.hid (es_one CO.out (HM13.out.below BO.out)); have LO := Lib.hid (hl_one CO.out (arg_in (wr := w13) HM13.out) v14 (rs_ge hr14 (Nat.le_refl _))); clear hr14 hb14 hg14 ha14))
              rw [show (es' ++ [more]).length = es'.length + 1 by simp] at HRO
              refine HRO.out.mono ?_
              rintro e w16 ⟨rfl, hb16⟩
              have HS16 := Lib.hid (HS15.out.below hb16)
              clear hb16 HRO
              go_wp2_with fail
              refine (known5_any _).mono ?_
              rintro e w17 ⟨rfl, hb17⟩
              have HS17 := Lib.hid (HS16.out.below hb17)
              clear hb17
              go_wp2
              go_ret
              exact ⟨rfl, HS17.out.bl⟩
            · exact absurd HLF8.out hl

theorem contract (H : Type) (enc : TypeId × Value → H) (W : World) (base : Nat) (args : Array Value) (ds gs : List (DataW H)) (before : List MemPlace)
    (hval0 : ∀ (j : Nat) t v, Try.f5.params[j]? = some t → args[j]? = some v → Value.okWide Try.prog W .any base t v)
    (hW : DataW.Whole enc Try.prog Try.f5.params.toList Rows.redoTwiceSpec.vars false W args.toList ds gs before) (hk : Rows.uptoSmall H (ds ++ gs) = true) :
    Calls Try.prog 5 args W fun e W' => ∃ v, e = .returned v ∧ Rows.redoTwiceSpec.post enc Try.prog Try.f5 false true false false W args v W' := by
  have hval : ∀ (j : Nat) t v, Try.f5.params[j]? = some t → args[j]? = some v → Value.okWide Try.prog W .any base t v := hval0
  have hW' := hW
  obtain ⟨p, q, hA0, hV, rfl, hfz, hnd⟩ := hW
  have hA : DataW.TrodAll enc Try.prog W 0 (fun _ => true) true Try.f5.params.toList args.toList ds p := hA0
  rw [Try.params5] at hA hval
  obtain ⟨v0, vs0, d0, ds0, p0, q0, hargs, rfl, rfl, h0, r0⟩ := trodAll_cons hA
  obtain ⟨v1, vs1, d1, ds1, p1, q1, rfl, rfl, rfl, h1, r1⟩ := trodAll_cons r0
  obtain ⟨v2, vs2, d2, ds2, p2, q2, rfl, rfl, rfl, h2, r2⟩ := trodAll_cons r1
  obtain ⟨v3, vs3, d3, ds3, p3, q3, rfl, rfl, rfl, h3, r3⟩ := trodAll_cons r2
  obtain ⟨rfl, rfl, rfl⟩ := trodAll_nil r3
  obtain rfl : args = #[v0, v1, v2, v3] := by cases args; simp_all
  obtain ⟨rfl, rfl⟩ := trodVars_none hV
  simp only [List.append_nil] at hk
  have k0 := h0
  have lt0 : ∀ x ∈ p0, x.block < W.heap.size := by obtain ⟨m, hm⟩ := k0; exact DataW.trod_lt m _ _ _ hm
  obtain ⟨a0, rfl, w0, x0⟩ := open_rows (hval 0 29 v0 rfl rfl) h0
  have k1 := h1
  have lt1 : ∀ x ∈ p1, x.block < W.heap.size := by obtain ⟨m, hm⟩ := k1; exact DataW.trod_lt m _ _ _ hm
  obtain ⟨a1, rfl, w1, x1⟩ := open_bytes' (hval 1 36 v1 rfl rfl) h1
  have k2 := h2
  have lt2 : ∀ x ∈ p2, x.block < W.heap.size := by obtain ⟨m, hm⟩ := k2; exact DataW.trod_lt m _ _ _ hm
  obtain ⟨a2, rfl, w2⟩ := open_bools (hval 2 37 v2 rfl rfl) h2
  have k3 := h3
  have lt3 : ∀ x ∈ p3, x.block < W.heap.size := by obtain ⟨m, hm⟩ := k3; exact DataW.trod_lt m _ _ _ hm
  obtain ⟨a3, rfl, w3, x3⟩ := open_bytes' (hval 3 36 v3 rfl rfl) h3
  have y0 : sumB a0.l ≤ 1048576 := by
    have h1 := x0.2
    have h2 : Rows.uptoBulkAll [d0, d1, d2, d3] ≤ 1048576 := of_decide_eq_true hk
    simp only [Rows.uptoBulkAll] at h2
    omega
  have y1 : a1.l.length ≤ 1048576 := by
    have h1 := x1.2
    have h2 : Rows.uptoBulkAll [d0, d1, d2, d3] ≤ 1048576 := of_decide_eq_true hk
    simp only [Rows.uptoBulkAll] at h2
    omega
  have y3 : a3.l.length ≤ 1048576 := by
    have h1 := x3.2
    have h2 : Rows.uptoBulkAll [d0, d1, d2, d3] ≤ 1048576 := of_decide_eq_true hk
    simp only [Rows.uptoBulkAll] at h2
    omega
  clear hA0 hval0
  refine (walk a0 a1 a2 a3 W w0 w1 w2 w3 y0 y1 y3).mono fun e W' ⟨he, bel⟩ => ?_
  subst he
  exact ⟨_, rfl, _, _, _, [], _, [], hW', trodAll_mk1 (shut_bool Try.underlying4 _), (trodAll_cons_mk (Below.trod laidOut (by kernel_rfl) (of_decide_eq_true (by kernel_rfl)) k0 bel lt0) (trodAll_cons_mk (Below.trod laidOut (by kernel_rfl) (of_decide_eq_true (by kernel_rfl)) k1 bel lt1) (trodAll_cons_mk (Below.trod laidOut (by kernel_rfl) (of_decide_eq_true (by kernel_rfl)) k2 bel lt2) (trodAll_cons_mk (Below.trod laidOut (by kernel_rfl) (of_decide_eq_true (by kernel_rfl)) k3 bel lt3) trodAll_mk0)))), rfl, bel.frame _, fun h => by cases h⟩

theorem lifted (os : Os) (started : os.Started) (H : Type) (enc : TypeId × Value → H) (F : Stop.Interp) :
    ReturnsInHanded {} Try.checked os 5 .any ((Rows.OpenSpec.upto Rows.redoTwiceSpec).pre6 enc Try.prog Try.f5 Rows.redoTwiceUptoRow.domain false) (((Rows.OpenSpec.upto Rows.redoTwiceSpec).at F).post enc Try.prog Try.f5 false true false false) := by
  refine returnsInHanded_of_cond (C := Try.checked) (s := Rows.OpenSpec.upto Rows.redoTwiceSpec) (k := Rows.uptoSmall) rfl own started (by kernel_rfl) Try.func5
    (OpenSpec.witness (enc := enc) (C := Try.checked) (s := Rows.OpenSpec.upto Rows.redoTwiceSpec) (k := Rows.uptoSmall) rfl false ⟨#[], #[.slice none 0 0, .slice none 0 0, .slice none 0 0, .slice none 0 0], []⟩ 8 (by kernel_rfl) (by kernel_rfl) (by kernel_rfl)
      (x := ([.nil, .nil, .nil, .nil], [], [])) (by kernel_rfl) rfl (by kernel_rfl)) ?_
  intro W base args ds gs before hval hW _ hk _
  exact contract H enc W base args ds gs before hval hW hk

theorem proved : Rows.RedoTwiceUptoSaid :=
  OpenClaim.holds_of_cond 5 Try.f5 rfl rfl rfl rfl rfl rfl rfl ⟨rfl, rfl, rfl, rfl, rfl⟩ rfl rfl rfl rfl rfl (by kernel_rfl) Try.func5 (by kernel_rfl)
    (of_decide_eq_true (by kernel_rfl)) (by unfold Func.isWrapper; first | (rw [if_pos (by decide +kernel)]; kernel_rfl) | (rw [if_neg (by decide +kernel)]; exact ⟨rfl, rfl⟩))
    (fun os started H enc _ F => lifted os started H enc F)
#print axioms proved
end Go.Proofs.Ytembonenaoineaa.redoTwice
