/- Proved: ligaturelaw3.LebLays returns true for every slice of bytes, every list of integers, every list of strings and every list of uint64, and leaves its arguments as they were. No condition. -/
import Derived.Test.YtkdffblpoelcfaaRows
import Derived.Test.YtkdffblpoelcfaaLq
import Derived.BigQuiet
import Derived.Deep.QuietTactic
import Derived.WalkKit
import Derived.ProofKit
import Derived.OpenShut
import Derived.ShutString
import Derived.ChangeOld
import Derived.Below
namespace Go.Proofs.Ytkdffblpoelcfaa.lebLays
open Lb
open Fl (S IR nanB normN keyN NaNw cmpK unkN ofB)
open Go.ChangeShapes Go.WideShapes Go.ChangeAt Go.RowKit
open Go.ChangeMaps (open_string shut_string)
set_option linter.unusedVariables false
theorem own : ownKnob Try.prog.godebug = none := by kernel_rfl
theorem laidOut : laidOutB Try.prog = true := by kernel_rfl
theorem own_empty (w : World) : Own w.heap.size (w.alloc (.cells #[] 5)) (.slice (some ⟨w.heap.size, 0, none⟩) 0 0) [] :=
  World.ownsRow_made w #[] 0 (Nat.le_refl _) (by unfold maxLen; omega) rfl
theorem u64w {n : Int} (h : (Lit.int .u64 n).wf = true) : n.toNat < 2 * S := by
  obtain ⟨m, rfl, hm⟩ := u64_nat h
  simpa using hm

set_option maxHeartbeats 4000000 in
set_option maxRecDepth 100000 in
theorem walk (a0 : Sl UInt8) (a1 : Sl Int) (a2 : Sl ByteArray) (a3 : Sl Int) (w : World) (w0 : SlB w a0) (w1 : SlI .i64 w a1) (w2 : SlS w a2) (w3 : SlI .u64 w a3) :
    Calls Try.prog 3 #[slv a0, slv a1, slv a2, slv a3] w fun e w' => e = .returned (.bool true) ∧ Below w.heap.size w w' := by
  obtain ⟨A0, b, c0⟩ := a0
  obtain ⟨A1, ns, c1⟩ := a1
  obtain ⟨A2, ss, c2⟩ := a2
  obtain ⟨A3, fs, c3⟩ := a3
  have H0 : Hid (BS w A0 b c0) := w0
  have HN : Hid (Row (.int .i64) w A1 ns) := w1.1
  have HNw : Hid (∀ n ∈ ns, In64 n) := fun n hn => in64 (w1.2.1 n hn)
  have HS : Hid (Row .string w A2 ss) := w2.1
  have HX : Hid (∀ x ∈ ss, x.size ≤ 9223372036854775807) := w2.2
  have HF : Hid (Row (.int .u64) w A3 fs) := w3.1
  have HFw : Hid (∀ n ∈ fs, n.toNat < 2 * S) := fun n hn => u64w (w3.2.1 n hn)
  clear w0 w1 w2 w3
  unfold slv
  simp only
  by_cases hb0 : 200 < b.length
  · go_enter Try.func3, Try.ntmps3
    go_wp2
    go_ret
    exact ⟨rfl, Below.refl _ _⟩
  by_cases hb1 : 100 < ns.length
  · go_enter Try.func3, Try.ntmps3
    go_wp2
    go_ret
    exact ⟨rfl, Below.refl _ _⟩
  by_cases hb2 : 60 < ss.length
  · go_enter Try.func3, Try.ntmps3
    go_wp2
    go_ret
    exact ⟨rfl, Below.refl _ _⟩
  by_cases hb3 : 60 < fs.length
  · go_enter Try.func3, Try.ntmps3
    go_wp2
    go_ret
    exact ⟨rfl, Below.refl _ _⟩
  have hl0 : b.length ≤ 200 := by omega
  have hl1 : ns.length ≤ 100 := by omega
  have hl2 : ss.length ≤ 60 := by omega
  have hl3 : fs.length ≤ 60 := by omega
  clear hb0 hb1 hb2 hb3
  have hcb := fun q => (H0.out.drewN q).conv b.length rfl
  go_enter Try.func3, Try.ntmps3
  go_wp2_with fail
  go_quiet (fail)
  clear hcb
  have HBq := Lib.hid (below_drewN (Below.refl w.heap.size w) nq)
  generalize w.drewN nq = W0 at *
  go_wp2_with fail
  go_loopw [9, 13] (fun x i w1 => ∃ (k : Nat) (X : List UInt8), k ≤ ns.length ∧ i = .int .i64 k ∧ x = .string (bstr X) ∧ Hid (X = b ++ encIs (ns.take k)) ∧ Hid (Below w.heap.size w w1)) (fun _ i _ => ns.length - (intOf i).toNat)
  case atStart => exact ⟨0, b, by omega, rfl, rfl, (show b = b ++ encIs (ns.take 0) by simp [encIs]), HBq.out⟩
  case round =>
    obtain ⟨k, X, hk, rfl, rfl, HXX, HB1⟩ := hrel
    by_cases hlt : k < ns.length
    · obtain ⟨ad, hA, hc⟩ := (HN.out.below HB1.out) k hlt
      subst hA
      have Hn := Lib.hid (HNw.out _ (List.getElem_mem hlt))
      have HE := Lib.hid (encIs_snoc ns k hlt)
      have Hlen : Hid ((X ++ encI ns[k]).length ≤ 10000) := by
        show _ ≤ 10000
        have h1 := encIs_len (ns.take k) (fun n hn => HNw.out n (List.mem_of_mem_take hn))
        have h2 := (encI_len ns[k] Hn.out.1 Hn.out.2).1
        rw [List.length_take] at h1
        rw [HXX.out, List.length_append, List.length_append]; omega
      go_wp2_with fail
      refine (rint_any _ Hn.out.1 Hn.out.2 _).mono ?_
      rintro e w2 ⟨v2, rfl, hown2, hbel2⟩
      obtain ⟨A, c, rfl, hbs2, _⟩ := hown2.open
      have hcv := hbs2.conv _ rfl
      have HB2 := Lib.hid (bnext HB1.out hbel2)
      have hj := fun W : World => join_run (P := Try.prog) (W := W) X (encI ns[k]) (by have := Hlen.out; omega)
      clear hown2 hbel2 hbs2 hc
      go_wp2_with fail
      refine ⟨⟨k + 1, X ++ encI ns[k], hlt, by go_num, rfl, ?_, HB2.out⟩, by simp [intOf]; omega⟩
      show _ = _
      rw [HE.out, HXX.out, List.append_assoc]
    · obtain rfl : k = ns.length := by omega
      have hX := HXX.out
      rw [List.take_length] at hX
      have HXn := Lib.hid hX
      clear hX
      clear HXX hk hlt
      go_wp2_with fail
      go_loopw [10, 14] (fun y i w2 => ∃ (k : Nat) (Y : List UInt8), k ≤ ss.length ∧ i = .int .i64 k ∧ y = .string (bstr Y) ∧ Hid (Y = b ++ encSs (ss.take k)) ∧ Hid (∀ x ∈ ss.take k, x.size ≤ 300) ∧ Hid (Below w.heap.size w w2)) (fun _ i _ => ss.length - (intOf i).toNat)
      case atStart => exact ⟨0, b, by omega, rfl, rfl, (show b = b ++ encSs (ss.take 0) by simp [encSs]), (by intro x hx; simp at hx), HB1.out⟩
      case round =>
        obtain ⟨k, Y, hk, rfl, rfl, HYY, Hk, HB2⟩ := hrel
        have Hly := Lib.hid (encSs_len 300 (ss.take k) Hk.out (by omega))
        by_cases hlt : k < ss.length
        · obtain ⟨ad, hA, hc⟩ := (HS.out.below HB2.out) k hlt
          subst hA
          by_cases hsz : 300 < ss[k].size
          · go_wp2_with fail
            go_ret
            exact ⟨rfl, HB2.out⟩
          · have hsz2 : ss[k].size ≤ 300 := by omega
            have HE := Lib.hid (encSs_snoc ss k hlt)
            have Hlen : Hid ((Y ++ encS ss[k].data.toList).length ≤ 100000) := by
              show _ ≤ 100000
              have h1 := Hly.out
              have h2 := (encS_len ss[k] (by omega)).1
              rw [List.length_take] at h1
              have h3 : (10 + 300) * min k ss.length ≤ 310 * 60 := Nat.mul_le_mul_left 310 (by omega)
              rw [HYY.out, List.length_append, List.length_append]; omega
            go_wp2_with fail
            refine (rstr_any _ (by omega) _).mono ?_
            rintro e w3 ⟨v3, rfl, hown3, hbel3⟩
            obtain ⟨A, c, rfl, hbs3, _⟩ := hown3.open
            have hcv := hbs3.conv _ rfl
            have HB3 := Lib.hid (bnext HB2.out hbel3)
            have hj := fun W : World => join_run (P := Try.prog) (W := W) Y (encS ss[k].data.toList) (by have := Hlen.out; omega)
            clear hown3 hbel3 hbs3 hc
            go_wp2_with fail
            refine ⟨⟨k + 1, Y ++ encS ss[k].data.toList, hlt, by go_num, rfl, ?_, ?_, HB3.out⟩, by simp [intOf]; omega⟩
            · show _ = _
              rw [HE.out, HYY.out, List.append_assoc]
            · intro x hx
              rw [List.take_succ_eq_append_getElem hlt] at hx
              rcases List.mem_append.1 hx with hx | hx
              · exact Hk.out x hx
              · simp at hx; subst hx; exact hsz2
        · obtain rfl : k = ss.length := by omega
          have hY := HYY.out
          have hly := Hly.out
          rw [List.take_length] at hY hly
          have HYn := Lib.hid hY
          have Hly2 := Lib.hid (show (b ++ encSs ss).length ≤ 20000 by rw [List.length_append]; omega)
          clear hY HYY hk hlt hly Hly
          go_wp2_with fail
          go_loopw [11, 12, 15] (fun z v i w3 => ∃ (k : Nat) (Z : List UInt8), k ≤ fs.length ∧ i = .int .i64 k ∧ z = .string (bstr Z) ∧ Hid (Z = b ++ encRs ((fs.map Int.toNat).take k)) ∧ Hid (OwnG 29 (.float .f64) w.heap.size w3 v ((fs.map Int.toNat).take k)) ∧ Hid (Below w.heap.size w w3)) (fun _ _ i _ => fs.length - (intOf i).toNat)
          case atStart => exact ⟨0, b, by omega, rfl, rfl, (show b = b ++ encRs ((fs.map Int.toNat).take 0) by simp [encRs]), OwnG.nil _ _ _ _, HB2.out⟩
          case round =>
            obtain ⟨k, Z, hk, rfl, rfl, HZZ, Hown, HB3⟩ := hrel
            by_cases hlt : k < fs.length
            · obtain ⟨ad, hA, hc⟩ := (HF.out.below HB3.out) k hlt
              subst hA
              have Hfw := Lib.hid (HFw.out _ (List.getElem_mem hlt))
              have HT : Hid ((fs.map Int.toNat).take (k + 1) = (fs.map Int.toNat).take k ++ [fs[k].toNat]) := by
                show _ = _
                rw [List.take_succ_eq_append_getElem (by simpa using hlt)]; simp
              have HE : Hid (encRs ((fs.map Int.toNat).take (k + 1)) = encRs ((fs.map Int.toNat).take k) ++ encR fs[k].toNat) := by
                show _ = _
                rw [HT.out]; unfold encRs; rw [List.flatMap_append]; simp
              have Hlt2 : Hid (((fs.map Int.toNat).take k).length = k) := by show _ = _; simp; omega
              obtain ⟨fk, hfk⟩ : ∃ n, fs[k].toNat = n := ⟨_, rfl⟩
              have Hlen : Hid ((Z ++ encR fk).length ≤ 100000) := by
                show _ ≤ 100000
                have h1 := encRs_len ((fs.map Int.toNat).take k)
                have h2 : (encR fk).length = 8 := rfl
                rw [Hlt2.out] at h1
                rw [HZZ.out, List.length_append, List.length_append]; omega
              rw [hfk] at HT HE Hfw
              generalize hPl : (fs.map Int.toNat).take k = Pl at *
              have HPl := Lib.hid hPl
              clear hPl
              have hown := Hown.out
              have hsz := HB3.out.size
              have hPn : Pl.length ≤ 60 := by have := Hlt2.out; omega
              go_wp2_with (at_builtin; refine wp_appG1 (f := .float .f64) 26 29 (.float .f64 0) 8 Try.underlying26 infoF rfl (by decide) (fun _ => rfl) rfl (.tmp 80) (.tmp 86) rfl w.heap.size _ Pl fk hown rfl rfl (by omega) hsz ?_)
              intro v4 w4 hown4 hbel4
              have HB4 := Lib.hid (HB3.out.trans hbel4)
              have Hlk := Lib.hid (show (Pl ++ [fk]).length = k + 1 by rw [List.length_append, Hlt2.out]; rfl)
              have Hown4 := Lib.hid hown4
              obtain ⟨A4, c4, rfl, hr4, _⟩ := hown4.open
              obtain ⟨ad4, rfl, hc4⟩ := hr4 k (by rw [Hlk.out]; omega)
              rw [show (Pl ++ [fk])[k]'(by rw [Hlk.out]; omega) = fk by simp [← Hlt2.out]] at hc4
              rw [Hlk.out] at *
              clear hbel4 hr4 hown Hown hc
              go_wp2_with fail
              refine (rreal_any _ Hfw.out _).mono ?_
              rintro e w5 ⟨v5, rfl, hown5, hbel5⟩
              obtain ⟨A, c, rfl, hbs5, _⟩ := hown5.open
              have hcv := hbs5.conv _ rfl
              have HB5 := Lib.hid (bnext HB4.out hbel5)
              have Hown5 := Lib.hid (Hown4.out.below hbel5)
              have hj := fun W : World => join_run (P := Try.prog) (W := W) Z (encR fk) (by have := Hlen.out; omega)
              clear hown5 hbel5 hbs5 hc4
              go_wp2_with fail
              refine ⟨⟨k + 1, Z ++ encR fk, hlt, by go_num, rfl, ?_, ?_, HB5.out⟩, by simp [intOf]; omega⟩
              · show _ = _
                rw [HE.out, HZZ.out, List.append_assoc]
              · show OwnG _ _ _ _ _ _
                rw [HT.out]
                exact Hown5.out
            · obtain rfl : k = fs.length := by omega
              have hZ := HZZ.out
              have hown := Hown.out
              rw [List.take_of_length_le (by simp)] at hZ hown
              have HZn := Lib.hid hZ
              obtain ⟨A3', c3', rfl, hr3, _⟩ := hown.open
              have HR3 := Lib.hid hr3
              have hlr : (fs.map Int.toNat).length = fs.length := by simp
              rw [hlr]
              have Hlr := Lib.hid hlr
              have Hrw : Hid (∀ n ∈ fs.map Int.toNat, n < 2 * S) := by
                intro n hn
                obtain ⟨m, hm, rfl⟩ := List.mem_map.1 hn
                exact HFw.out m hm
              clear HZZ hk hlt hZ Hown hown hr3 hlr
              -- the first: integers
              have HD1 := Lib.hid ((Below.refl wr.heap.size wr).alloc (Nat.le_refl _) (.cells #[] 5))
              have HB4 := Lib.hid (bnext HB3.out HD1.out)
              have He1 := Lib.hid (own_empty wr)
              go_wp2_with (at_builtin; refine wp_app rfl (.tmp 96) (.tmp 97) rfl wr.heap.size _ [] He1.out rfl A0 b _ c0 rfl rfl (H0.out.below HB4.out) (by simp; omega) HD1.out.size ?_)
              intro v5 w5 hown5 hbel5
              have HD5 := Lib.hid (HD1.out.trans hbel5)
              obtain ⟨A5, c5, rfl, hbs5, _⟩ := hown5.open
              have HS5 := Lib.hid hbs5
              have hq1 : ((bstr X).toList == (bstr X).toList) = true := by simp
              have hq2 : ((bstr Y).toList == (bstr Y).toList) = true := by simp
              have hq3 : ((bstr Z).toList == (bstr Z).toList) = true := by simp
              clear hbel5 hown5 hbs5
              go_wp2_with fail
              refine (int_any A5 b c5 A1 ns c1 _ HS5.out (HN.out.below (bnext HB3.out HD5.out)) HNw.out (by omega) (by omega)).mono ?_
              rintro e w6 ⟨v6, rfl, hown6, hbel6⟩
              rw [← HXn.out] at hown6
              obtain ⟨A6, c6, rfl, hbs6, _⟩ := hown6.open
              have hcx := hbs6.conv X.length rfl
              have HD6 := Lib.hid (bnext HD5.out hbel6)
              have HD7 := Lib.hid ((Below.refl w6.heap.size w6).alloc (Nat.le_refl _) (.cells #[] 5))
              have HB7 := Lib.hid (bnext HB3.out (bnext HD6.out HD7.out))
              have He2 := Lib.hid (own_empty w6)
              clear hbel6 hown6 hbs6
              -- the second: strings
              go_wp2_with (at_builtin; refine wp_appW (by rfl) (.tmp 105) (.tmp 106) rfl w6.heap.size _ [] He2.out rfl A0 b _ c0 rfl rfl (H0.out.below HB7.out) (by simp; omega) HD7.out.size ?_)
              intro v8 w8 hown8 hbel8
              have HD8 := Lib.hid (HD7.out.trans hbel8)
              have HB8 := Lib.hid (bnext HB3.out (bnext HD6.out HD8.out))
              obtain ⟨A8, c8, rfl, hbs8, _⟩ := hown8.open
              have HS8 := Lib.hid hbs8
              clear hbel8 hown8 hbs8 hcx
              go_wp2_with fail
              refine (str_any A8 b c8 A2 ss c2 _ HS8.out (HS.out.below HB8.out) HX.out (by have := Hly2.out; omega) (by omega)).mono ?_
              rintro e w9 ⟨v9, rfl, hown9, hbel9⟩
              rw [← HYn.out] at hown9
              obtain ⟨A9, c9, rfl, hbs9, _⟩ := hown9.open
              have hcy := hbs9.conv Y.length rfl
              have HD9 := Lib.hid (bnext HD6.out (bnext HD8.out hbel9))
              have HDa := Lib.hid ((Below.refl w9.heap.size w9).alloc (Nat.le_refl _) (.cells #[] 5))
              have HBa := Lib.hid (bnext HB3.out (bnext HD9.out HDa.out))
              have He3 := Lib.hid (own_empty w9)
              clear hbel9 hown9 hbs9
              -- the third: floating-point numbers
              go_wp2_with (at_builtin; refine wp_appW (by rfl) (.tmp 115) (.tmp 116) rfl w9.heap.size _ [] He3.out rfl A0 b _ c0 rfl rfl (H0.out.below HBa.out) (by simp; omega) HDa.out.size ?_)
              intro va wa howna hbela
              have HDb := Lib.hid (bnext HD9.out (HDa.out.trans hbela))
              obtain ⟨Aa, ca, rfl, hbsa, _⟩ := howna.open
              have HSa := Lib.hid hbsa
              have HRe := Lib.hid (real_any Aa b ca A3' (fs.map Int.toNat) c3' wa hbsa (HR3.out.below HDb.out) Hrw.out (by omega) (by rw [Hlr.out]; omega))
              rw [Hlr.out, ← HZn.out] at HRe
              clear hbela howna hbsa hcy
              go_wp2_with fail
              refine HRe.out.mono ?_
              rintro e wb ⟨vb, rfl, hownb, hbelb⟩
              obtain ⟨Ab, cb, rfl, hbsb, _⟩ := hownb.open
              have hcz := hbsb.conv Z.length rfl
              have HBb := Lib.hid (bnext HB3.out (bnext HDb.out hbelb))
              clear hbelb hownb hbsb
              go_wp2_with fail
              refine (known_any _).mono ?_
              rintro e wk ⟨rfl, hbk⟩
              go_wp2_with fail
              go_ret
              exact ⟨rfl, bnext HBb.out hbk⟩

set_option maxRecDepth 100000 in
theorem lifted (os : Os) (started : os.Started) (H : Type) (enc : TypeId × Value → H) :
    ReturnsInHanded {} Try.checked os 3 .any (Rows.lebLaysSpec.pre6 enc Try.prog Try.f3 Rows.lebLaysRow.domain false) (Rows.lebLaysSpec.post enc Try.prog Try.f3 false true false false) := by
  refine returnsInHanded_of_change (C := Try.checked) own started (by kernel_rfl) Try.func3
    (ChangeSpec.witness6 (enc := enc) (C := Try.checked) false ⟨#[], #[.slice none 0 0, .slice none 0 0, .slice none 0 0, .slice none 0 0], []⟩ 8 (by kernel_rfl) (by kernel_rfl) (by kernel_rfl) (by kernel_rfl)) ?_
  intro W base args ds gs before hval0 hW hcnd _
  have hval : ∀ (j : Nat) t v, Try.f3.params[j]? = some t → args[j]? = some v → Value.okWide Try.prog W .any base t v := hval0
  have hW' := hW
  obtain ⟨p, q, hA0, hV, rfl, hfz, hnd⟩ := hW
  have hA : DataW.TrodAll enc Try.prog W 0 (fun _ => true) true Try.f3.params.toList args.toList ds p := hA0
  rw [Try.params3] at hA hval
  obtain ⟨v0, vs0, d0, ds0, p0, q0, hargs, rfl, rfl, h0, r0⟩ := trodAll_cons hA
  obtain ⟨v1, vs1, d1, ds1, p1, q1, rfl, rfl, rfl, h1, r1⟩ := trodAll_cons r0
  obtain ⟨v2, vs2, d2, ds2, p2, q2, rfl, rfl, rfl, h2, r2⟩ := trodAll_cons r1
  obtain ⟨v3, vs3, d3, ds3, p3, q3, rfl, rfl, rfl, h3, r3⟩ := trodAll_cons r2
  obtain ⟨rfl, rfl, rfl⟩ := trodAll_nil r3
  obtain rfl : args = #[v0, v1, v2, v3] := by cases args; simp_all
  obtain ⟨rfl, rfl⟩ := trodVars_none hV
  have k0 := h0
  have lt0 : ∀ x ∈ p0, x.block < W.heap.size := by obtain ⟨m, hm⟩ := k0; exact DataW.trod_lt m _ _ _ hm
  obtain ⟨a0, rfl, w0⟩ := open_bytes (hval 0 22 v0 rfl rfl) h0
  have k1 := h1
  have lt1 : ∀ x ∈ p1, x.block < W.heap.size := by obtain ⟨m, hm⟩ := k1; exact DataW.trod_lt m _ _ _ hm
  obtain ⟨a1, rfl, w1⟩ := open_ints64 (hval 1 23 v1 rfl rfl) h1
  have k2 := h2
  have lt2 : ∀ x ∈ p2, x.block < W.heap.size := by obtain ⟨m, hm⟩ := k2; exact DataW.trod_lt m _ _ _ hm
  obtain ⟨a2, rfl, w2⟩ := open_strs (hval 2 24 v2 rfl rfl) h2
  have k3 := h3
  have lt3 : ∀ x ∈ p3, x.block < W.heap.size := by obtain ⟨m, hm⟩ := k3; exact DataW.trod_lt m _ _ _ hm
  obtain ⟨a3, rfl, w3⟩ := open_uints64 (hval 3 25 v3 rfl rfl) h3
  clear hA0 hval0
  refine (walk a0 a1 a2 a3 W w0 w1 w2 w3).mono fun e W' ⟨he, bel⟩ => ?_
  subst he
  exact ⟨_, rfl, _, _, _, [], _, [], hW', trodAll_mk1 (shut_bool Try.underlying4 _), (trodAll_cons_mk (Below.trod laidOut (by kernel_rfl) (of_decide_eq_true (by kernel_rfl)) k0 bel lt0) (trodAll_cons_mk (Below.trod laidOut (by kernel_rfl) (of_decide_eq_true (by kernel_rfl)) k1 bel lt1) (trodAll_cons_mk (Below.trod laidOut (by kernel_rfl) (of_decide_eq_true (by kernel_rfl)) k2 bel lt2) (trodAll_cons_mk (Below.trod laidOut (by kernel_rfl) (of_decide_eq_true (by kernel_rfl)) k3 bel lt3) trodAll_mk0)))), rfl, bel.frame _, fun h => by cases h⟩

theorem over : Rows.lebLaysRow.holds Try.pinned (OpenSpec.ofChange Rows.lebLaysSpec) :=
  OpenClaim.holds_of_wide 3 Try.f3 rfl rfl rfl rfl rfl rfl rfl ⟨rfl, rfl, rfl, rfl, rfl⟩ rfl rfl rfl rfl rfl (by kernel_rfl) Try.func3 (by kernel_rfl)
    (of_decide_eq_true (by kernel_rfl)) (by unfold Func.isWrapper; first | (rw [if_pos (by decide +kernel)]; kernel_rfl) | (rw [if_neg (by decide +kernel)]; exact ⟨rfl, rfl⟩))
    (fun os started H enc _ => lifted os started H enc)

theorem proved : Rows.LebLaysSaid := over
#print axioms proved
end Go.Proofs.Ytkdffblpoelcfaa.lebLays
