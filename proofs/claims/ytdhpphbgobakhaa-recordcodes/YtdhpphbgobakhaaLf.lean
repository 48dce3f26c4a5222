/- What Int of a Cursor of the reference does: a contract. Conditions: the cells of the Cursor, and of the bytes that it reads, lie in memory. -/
import Derived.Test.YtdhpphbgobakhaaLx
import Derived.Deep.RegionWith
import Derived.Deep.DeepCutAuto
import Derived.IntWalk
namespace Go.Proofs.Ytdhpphbgobakhaa
set_option maxRecDepth 100000
set_option linter.unusedVariables false
open Go.ChangeShapes Go.WideShapes Go.ChangeAt Go.RowKit
open Lb
open Fl (S IR nanB normN keyN NaNw cmpK unkN ofB)
open Go.Lib (uvarint zigzag uvarint_small uvarint_big unzigzag)

set_option maxRecDepth 100000 in
set_option maxHeartbeats 2000000 in
theorem rcint_any (a : Nat) (g : Option Nat) (st : Option (List UInt8)) (w : World) (h : Cur w a g st) :
    Calls Try.prog 25 #[.pointer (some ⟨a, 0, none⟩)] w (Moves a g w (.int .i64 (resI st)) (nxtI st)) := by
  have H := Lib.hid h
  obtain ⟨h1, h2, h3, h4, h5⟩ := h
  cases st with
  | none =>
    obtain ⟨k1, k2⟩ := h5
    go_enter Try.func25, Try.ntmps25
    go_wp2_with fail
    go_loop [3] (fun i => i = .int .i64 0) (fun _ => 0)
    case atStart => rfl
    case round =>
      subst hrel
      go_wp2_with fail
      refine (rfail_any a g _ _ H.out).mono ?_
      rintro e w' ⟨rfl, hc, hg⟩
      go_wp2
      go_ret
      exact ⟨rfl, hc, hg⟩
  | some l =>
    obtain ⟨A, c, k1, k2, k3, k4, k5⟩ := h5
    have K3 := Lib.hid k3
    have K4 := Lib.hid k4
    have hcap := k3.cap
    clear k3 k4
    go_enter Try.func25, Try.ntmps25
    go_wp2_with fail
    go_loop [3] (fun i => ∃ k : Nat, i = .int .i64 k ∧ k ≤ l.length ∧ k ≤ 10 ∧ Hid (∀ j (h : j < l.length), j < k → 128 ≤ l[j].toNat)) (fun i => 10 - (intOf i).toNat)
    case atStart => exact ⟨0, rfl, by omega, by omega, fun j h hj => absurd hj (by omega)⟩
    case round =>
      obtain ⟨k, rfl, hk, hk2, Hk⟩ := hrel
      by_cases hlt : k < l.length
      · by_cases hlt2 : k < 10
        · obtain ⟨ad, hA, hc⟩ := K3.out.cells k hlt
          subst hA
          have hb := u8lt l[k]
          obtain ⟨q, hq⟩ : ∃ q : Nat, l[k].toNat = q := ⟨_, rfl⟩
          rw [hq] at hc hb
          have Hq := Lib.hid hq
          clear hq
          by_cases hge : 128 ≤ q
          · go_wp2_with fail
            refine ⟨⟨k + 1, by go_num, by omega, by omega, ?_⟩, by simp [intOf]; omega⟩
            intro j hj hjk
            rcases Nat.lt_or_ge j k with hh | hh
            · exact Hk.out j hj hh
            · obtain rfl : j = k := by omega
              rw [Hq.out]; exact hge
          · go_wp2_with fail
            go_loop [4, 5] (fun z i => ∃ (p y : Nat), i = .int .i64 ((p : Int) - 1) ∧ z = .int .u64 y ∧ p ≤ k + 1 ∧ Hid (y = val ((l.take (k + 1)).drop p) % M)) (fun _ i => (1 + intOf i).toNat)
            case atStart => exact ⟨k + 1, 0, by go_num, rfl, by omega, by show 0 = _; rw [List.drop_of_length_le (by simp; omega)]; rfl⟩
            case round =>
              obtain ⟨p, y, rfl, rfl, hp, Hy⟩ := hrel
              have hy : y < 18446744073709551616 := by rw [Hy.out]; exact Nat.mod_lt _ (by decide)
              cases p with
              | succ p =>
                have hpl : p < l.length := by omega
                obtain ⟨ad', hA', hcp⟩ := K3.out.cells p hpl
                injection hA' with hA'
                subst hA'
                have hbp := u8lt l[p]
                have Hv := Lib.hid (val_drop (l.take (k + 1)) p (by simp; omega))
                have Hg : Hid ((l.take (k + 1))[p]'(by simp; omega) = l[p]) := by show _ = _; simp
                obtain ⟨qp, hqp⟩ : ∃ q : Nat, l[p].toNat = q := ⟨_, rfl⟩
                rw [hqp] at hcp hbp
                have Hqp := Lib.hid hqp
                clear hqp
                have hlo := and127 ⟨qp, hbp⟩
                simp only at hlo
                have hlo2 : qp % 128 < 128 := by omega
                obtain ⟨lo, hlq⟩ : ∃ lo : Nat, qp % 128 = lo := ⟨_, rfl⟩
                rw [hlq] at hlo hlo2
                have Hlq := Lib.hid hlq
                clear hlq
                have Ho := Lib.hid (or_shl7 y lo hy hlo2)
                rw [show (((p + 1 : Nat) : Int) - 1) = (p : Int) by omega]
                go_wp2_with fail
                refine ⟨⟨p, 128 * y % 18446744073709551616 + lo, by go_num, by rw [Ho.out], by omega, ?_⟩, by simp [intOf]; omega⟩
                show _ = _
                rw [Hv.out, Hg.out, Hqp.out, Hlq.out, ← Hy.out]
                rfl
              | zero =>
                have Hy0 := Lib.hid (show y = val (l.take (k + 1)) % M from Hy.out)
                have Hyd := Lib.hid (Lib.hid hy)
                have ha1 := u64_and1' y hy
                have Hzig := Lib.hid (zig_unzig y)
                have hbd := unzig_bd y hy
                obtain ⟨n, hn⟩ : ∃ n, unzigzag y = n := ⟨_, rfl⟩
                rw [hn] at Hzig hbd
                obtain ⟨hn0, hn1⟩ := hbd
                have Hn := Lib.hid hn
                have He : Hid (encI n = uvarint y) := by show _ = _; unfold encI; rw [Hzig.out]
                have HS : Hid (∀ w', Below w.heap.size w w' → (w'.cell? ⟨a, 0, none⟩ = some (.slice (some ad) l.length c) ∧ (convert 23 9 (.slice (some ad) (k + 1) c)).run Try.prog w' = .ok (.string (bstr (l.take (k + 1)))) w' ∧ Below w.heap.size w w')) := by
                  show ∀ w', _
                  intro w' hb'
                  exact ⟨by rw [hb'.cell (p := ⟨a, 0, none⟩) h1]; exact k1, ((K3.out.below hb').take (k + 1)).conv (k + 1) (by simp; omega), hb'⟩
                have hst := slice_to (some ad) l.length c (k + 1) (by omega)
                have hsl := slice_from (some ad) l.length c (k + 1) (by omega)
                rw [show (((k + 1 : Nat)) : Int) = (k : Int) + 1 by omega] at hst hsl
                have hwr : IntKind.i64.wrap ((k : Int) + 1) = (k : Int) + 1 := IntWalk.i64_in _ (by omega)
                by_cases hpar : y % 2 = 0
                focus
                  have hb1 : (bits BinOp.and IntKind.u64 (y : Int) 1 == 1) = false := by rw [ha1]; simp; omega
                  have Hv := Lib.hid ((unz_even y hpar).trans hn)
                  clear ha1 hn
                  go_upto_region 15 with fail
                  rw [Hv.out]
                rotate_left
                focus
                  have hb1 : (bits BinOp.and IntKind.u64 (y : Int) 1 == 1) = true := by rw [ha1]; simp; omega
                  have Hv := Lib.hid ((unz_odd y hy hpar).trans hn)
                  clear ha1 hn
                  go_upto_region 15 with fail
                  rw [if_pos (show IntKind.i64.signed = true from rfl), Hv.out]
                all_goals
                  go_cut [85] (fun s wx => s = .bool (!((bstr (encI n)).toList == (bstr (l.take (k + 1))).toList)) ∧ Below w.heap.size w wx)
                  case first =>
                    have hd1 := (HS.out _ (Below.refl w.heap.size w).drew).1
                    have hd2 := (HS.out _ (Below.refl w.heap.size w).drew).2.1
                    go_region_with ((first | (go_at_call 43; refine (rint_any n hn0 hn1 _).mono ?_; rintro e w2 ⟨v2, rfl, hown2, hbel2⟩; obtain ⟨A2, c2, rfl, hbs2, hA2⟩ := hown2.open; have hcv2 := hbs2.conv _ rfl; have hbw : Below w.heap.size w w2 := (Below.refl w.heap.size w).drew.trans hbel2; have hx1 := (HS.out _ hbw).1; have hx2 := (HS.out _ hbw).2.1)))
                    all_goals
                      go_wp2_with fail
                      go_meet
                      exact ⟨rfl, hbw⟩
                  case rest =>
                    obtain ⟨rfl, hbw⟩ := hcut
                    have HC := Lib.hid (H.out.below hbw)
                    have HB := Lib.hid (K3.out.below hbw)
                    have Hg := Lib.hid (grown_of_below hbw (some a))
                    obtain ⟨hcc, hff⟩ := bcell hbw
                    clear hbw
                    by_cases heq : uvarint y = l.take (k + 1)
                    · have hq : ((bstr (encI n)).toList == (bstr (l.take (k + 1))).toList) = true := by rw [He.out, heq]; simp
                      have HN := Lib.hid (nxtI_some (dv_yes l k y hy heq hlt))
                      have Hst := Lib.hid (cur_step (s := k + 1) HC.out HB.out K4.out (by omega) k5)
                      clear heq
                      rw [hq]
                      clear hq
                      go_wp2_with fail
                      go_ret
                      rw [HN.out.1, HN.out.2, Hn.out]
                      exact ⟨rfl, Hst.out, only_trans Hg.out (grown_set _ _ _ _)⟩
                    · have hq : ((bstr (encI n)).toList == (bstr (l.take (k + 1))).toList) = false := by rw [He.out, bstr_list, bstr_list]; simpa using heq
                      have HN := Lib.hid (nxtI_none (dv_no l k hlt Hk.out (by rw [Hq.out]; omega) (by rw [← Hy0.out]; exact heq)))
                      clear heq
                      rw [hq]
                      clear hq
                      go_wp2_with fail
                      refine (rfail_any a g _ _ HC.out).mono ?_
                      rintro e w' ⟨rfl, hc', hg'⟩
                      go_wp2
                      go_ret
                      rw [HN.out.1, HN.out.2]
                      exact ⟨rfl, hc', only_trans Hg.out hg'⟩
        · have Hn := Lib.hid (nxtI_none (dv_stop l k hk Hk.out (.inr (by omega))))
          go_wp2_with fail
          refine (rfail_any a g _ _ H.out).mono ?_
          rintro e w' ⟨rfl, hc, hg⟩
          go_wp2
          go_ret
          rw [Hn.out.1, Hn.out.2]
          exact ⟨rfl, hc, hg⟩
      · have Hn := Lib.hid (nxtI_none (dv_stop l k hk Hk.out (.inl (by omega))))
        go_wp2_with fail
        refine (rfail_any a g _ _ H.out).mono ?_
        rintro e w' ⟨rfl, hc, hg⟩
        go_wp2
        go_ret
        rw [Hn.out.1, Hn.out.2]
        exact ⟨rfl, hc, hg⟩
end Go.Proofs.Ytdhpphbgobakhaa
