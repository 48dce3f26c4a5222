/- The walk of the law RecordBack of chapter 10. Conditions: the rows lie in memory; numbers are words; lengths are of what a machine holds. -/
import Derived.Test.YtcpgpdkdopcicaaYw
import Derived.Test.YtcpgpdkdopcicaaYs
import Derived.Test.YtcpgpdkdopcicaaZl
namespace Go.Proofs.Ytcpgpdkdopcicaa
set_option maxRecDepth 100000
set_option linter.unusedVariables false
open Go.ChangeShapes Go.WideShapes Go.ChangeAt Go.RowKit
open Fl (S cmpK keyN normN)
open Val (V cmpV isB ltT)
open Lb
theorem and16 (n : Int) : bits .and .i64 n 65535 = n % 65536 := by
  have hm : (BitVec.ofInt 64 65535).toNat = 2 ^ 16 - 1 := by decide
  have key : (BitVec.ofInt 64 n &&& BitVec.ofInt 64 65535).toNat = (n % ((2 ^ 64 : Nat) : Int)).toNat % 2 ^ 16 := by
    rw [BitVec.toNat_and, BitVec.toNat_ofInt, hm, Nat.and_two_pow_sub_one_eq_mod]
  show IntKind.i64.wrap ((BitVec.ofInt 64 n &&& BitVec.ofInt 64 65535).toNat : Nat) = n % 65536
  rw [key, IntKind.wrap_i64]
  omega
theorem WSz.ok {x : Wr} (h : WSz 5000 x) : WOk x :=
  have e : 5000 ≤ maxLen := by unfold maxLen; omega
  ⟨⟨by have := h.l; omega, by have := h.p; omega, fun y hy => Nat.le_trans (h.s y hy) e, fun y hy => ⟨Nat.le_trans (h.k y hy).1 e, Nat.le_trans (h.k y hy).2 e⟩⟩, Nat.le_trans h.t e⟩
theorem wfine {x : Wr} (h : WSz 5000 x) (hi : WrIn x) : WFine x := ⟨h.ok.n, fun y hy => (hi.1 y hy).2, hi.2.2.2.2⟩
set_option maxHeartbeats 8000000 in
theorem back10_any (nn ne cut : Int) (A C : Option Addr) (c mc : Nat) (L : List (Wr × Ns)) (more : List UInt8) (w : World) (h : WRow w A L) (hi : ∀ x, x ∈ L → WrIn x.1) (hz : ∀ x, x ∈ L → WSz 140737488351232 x.1) (hl : L.length ≤ 140737488351232) (hm : BS w C more mc) (hml : more.length ≤ 9223372036854775807) : Calls Try.prog 4 #[.int .i64 nn, .int .i64 ne, .slice A L.length c, .int .i64 cut, .slice C more.length mc] w fun e w' => e = .returned (.bool true) ∧ Below w.heap.size w w' := by
  have HKN := Lib.hid (fun W => known10_any W)
  have HW := Lib.hid (wide10_any A c L w h hz hl)
  have HR := Lib.hid h
  have HI := Lib.hid hi
  have HM := Lib.hid hm
  clear h hi hz hm
  go_enter Try.func4, Try.ntmps4
  go_wp2_with fail
  refine HW.out.mono ?_
  rintro e w1 ⟨⟨b, rfl, hb⟩, hb1⟩
  have B1 := Lib.hid hb1
  clear hb1 HW
  cases b with
  | true =>
    clear hb
    go_wp2
    go_ret
    exact ⟨rfl, B1.out⟩
  | false =>
    obtain ⟨hl5, hs5⟩ := hb rfl
    clear hb
    have hok := fun x (hx : x ∈ L) => (hs5 x hx).ok
    have HF := Lib.hid (fun x (hx : x ∈ L) => wfine (hs5 x hx) (HI.out x hx))
    have HEN := Lib.hid (penc_any nn ne A c L w1 (HR.out.below B1.out) hok HI.out (by omega))
    have HRM := Lib.hid (fun W (hW : Below w.heap.size w W) => rmay_any nn ne A c L W (HR.out.below hW) hok (by omega))
    clear hs5 hok
    by_cases m1 : more.length < 1
    · go_wp2
      go_ret
      exact ⟨rfl, B1.out⟩
    by_cases m2 : 100 < more.length
    · go_wp2
      go_ret
      exact ⟨rfl, B1.out⟩
    cases hmay : mayB nn ne (L.map (·.1)) with
    | false =>
      rw [hmay] at HRM
      have HEP : Hid (∀ B e w', EncP B nn ne (L.map (·.1)) e w' → e = .returned (.tuple #[.slice none 0 0, .int .i64 1])) := by
        intro B e w' h
        unfold EncP at h
        rw [hmay, if_neg (by decide)] at h
        exact h
      clear hmay
      go_wp2_with fail
      refine HEN.out.mono ?_
      rintro e w2 ⟨hp, hb2⟩
      obtain rfl := HEP.out _ _ _ hp
      have B2 := Lib.hid (bnext B1.out hb2)
      clear hp hb2
      go_wp2_with fail
      refine (HRM.out _ B2.out).mono ?_
      rintro e w3 ⟨rfl, hb3⟩
      have B3 := Lib.hid (bnext B2.out hb3)
      clear hb3
      go_wp2_with fail
      refine (HKN.out _).mono ?_
      rintro e w4 ⟨rfl, hb4⟩
      have B4 := Lib.hid (bnext B3.out hb4)
      clear hb4
      go_wp2
      go_ret
      exact ⟨rfl, B4.out⟩
    | true =>
      rw [hmay] at HRM
      have hin : ∀ x ∈ L.map (·.1), WrIn x := fun x hx => by
        obtain ⟨y, hy, rfl⟩ := List.mem_map.1 hx
        exact HI.out y hy
      have HEP : Hid (∀ B e w', EncP B nn ne (L.map (·.1)) e w' → ∃ A c, e = .returned (.tuple #[.slice A (encA nn ne (L.map (·.1))).length c, .int .i64 0]) ∧ Own B w' (.slice A (encA nn ne (L.map (·.1))).length c) (encA nn ne (L.map (·.1))) ∧ (encA nn ne (L.map (·.1))).length ≤ 15000) := by
        intro B e w' h
        unfold EncP at h
        rw [hmay, if_pos rfl] at h
        exact h
      have HDP := Lib.hid (fun e w' (h : DecP (encA nn ne (L.map (·.1))) e w') => decP_enc hmay hin h)
      have HDC := Lib.hid (fun k (hk : k < (encA nn ne (L.map (·.1))).length) e w' (h : DecP ((encA nn ne (L.map (·.1))).take k) e w') => show e = .returned (.tuple #[.int .i64 0, .int .i64 0, .slice none 0 0, .int .i64 2]) from by
        have hn := decB_cut hmay hin (List.take_append_drop k _).symm (by intro e; have := congrArg List.length e; simp at this; omega)
        unfold DecP at h
        rw [hn] at h
        exact h)
      have HDM := Lib.hid (fun e w' (h : DecP (encA nn ne (L.map (·.1)) ++ more) e w') => show e = .returned (.tuple #[.int .i64 0, .int .i64 0, .slice none 0 0, .int .i64 2]) from by
        have hn := decB_more hmay hin (q := more) (by intro e; subst e; simp at m1)
        unfold DecP at h
        rw [hn] at h
        exact h)
      have hlen : 1 ≤ (encA nn ne (L.map (·.1))).length := by
        have hb := mayB_bd hmay
        have h1 := (encI_len nn (by omega) (by omega)).2
        unfold encA
        rw [List.length_append]; omega
      generalize encA nn ne (L.map (·.1)) = en at *
      clear hmay hin
      go_wp2_with fail
      refine HEN.out.mono ?_
      rintro e w2 ⟨hp, hb2⟩
      obtain ⟨A1, c1, rfl, ho, hle⟩ := HEP.out _ _ _ hp
      obtain ⟨A2, c2, e1, hbs, _⟩ := ho.open
      injection e1 with e1 _ e2
      subst e1
      subst e2
      have hcap := hbs.cap
      have B2 := Lib.hid (bnext B1.out hb2)
      have HP := Lib.hid hbs
      clear hp hb2 ho hbs HEP HEN
      go_wp2_with fail
      refine (HRM.out _ B2.out).mono ?_
      rintro e w3 ⟨rfl, hb3⟩
      have B3 := Lib.hid (bnext B2.out hb3)
      have HP3 := Lib.hid (HP.out.below hb3)
      have HD1 := Lib.hid (pdec_any A1 en c1 w3 HP3.out (by omega))
      clear hb3
      go_wp2_with fail
      refine HD1.out.mono ?_
      rintro e w4 ⟨hd, hb4⟩
      obtain ⟨A4, c4, L4, rfl, hL4, hrow⟩ := HDP.out _ _ hd
      have HL4 := Lib.hid hL4
      have HR4 := Lib.hid hrow
      have B4 := Lib.hid (bnext B3.out hb4)
      have HP4 := Lib.hid (HP3.out.below hb4)
      clear hd hL4 hrow hb4 HD1 HDP
      have ha := and16 cut
      obtain ⟨k, hk1, hk2⟩ : ∃ k : Nat, cut % 65536 % (en.length : Int) = (k : Int) ∧ k < en.length := ⟨(cut % 65536 % (en.length : Int)).toNat, by have := Int.emod_nonneg (cut % 65536) (show (en.length : Int) ≠ 0 by omega); omega, by have := Int.emod_nonneg (cut % 65536) (show (en.length : Int) ≠ 0 by omega); have := Int.emod_lt_of_pos (cut % 65536) (show (0 : Int) < en.length by omega); omega⟩
      have hbt := HP4.out.take k
      have hlk : (en.take k).length = k := by rw [List.length_take]; omega
      have HD2 := pdec_any A1 (en.take k) c1 w4 hbt (by omega)
      rw [hlk] at HD2
      have HD3 := Lib.hid HD2
      have hsl := slice_to A1 en.length c1 k (by omega) w4
      clear HD2 hlk hbt
      go_wp2_with fail
      refine HD3.out.mono ?_
      rintro e w5 ⟨hd, hb5⟩
      obtain rfl := HDC.out k hk2 _ _ hd
      have B5 := Lib.hid (bnext B4.out hb5)
      have D5 := Lib.hid hb5
      have HO0 := Lib.hid (show Own w5.heap.size (w5.alloc (.cells #[] 5)) (.slice (some ⟨w5.heap.size, 0, none⟩) 0 0) [] from World.ownsRow_made w5 #[] 0 (Nat.le_refl _) (by unfold maxLen; omega) rfl)
      have HPA := Lib.hid ((HP4.out.below hb5).below (one_box w5 (.cells #[] 5)))
      clear hd hb5 ha hk1 hk2 hsl HD3 HDC HP HP3 HP4 B1 B2 B3 B4
      go_wp2_with (at_builtin; refine wp_app rfl _ _ rfl w5.heap.size _ [] HO0.out rfl A1 en _ c1 rfl rfl HPA.out (by simp; omega) (by simp) ?_)
      intro v6 w6 h6 hb6
      have B56 := Lib.hid ((one_box w5 (.cells #[] 5)).trans hb6)
      have B6 := Lib.hid (bnext B5.out B56.out)
      have D6 := Lib.hid (bnext D5.out B56.out)
      have HO6 := Lib.hid h6
      obtain ⟨A6, c6, rfl, _, _⟩ := h6.open
      have HM6 := Lib.hid (HM.out.below B6.out)
      have HS6 := Lib.hid B56.out.size
      clear h6 hb6 HO0 HPA
      go_wp2_with (at_builtin; refine wp_app rfl _ _ rfl w5.heap.size _ en HO6.out rfl C more _ mc rfl rfl HM6.out ?cl HS6.out ?_)
      case cl => omega
      intro v7 w7 h7 hb7
      have B7 := Lib.hid (B6.out.trans (hb7.mono B5.out.size))
      have D7 := Lib.hid (D6.out.trans (hb7.mono D5.out.size))
      obtain ⟨A7, c7, rfl, hbs7, _⟩ := h7.open
      have hd7 := pdec_any A7 (en ++ more) c7 w7 hbs7 (by rw [List.length_append]; omega)
      rw [List.length_append] at hd7
      have HD7 := Lib.hid hd7
      clear h7 hb7 hbs7 hd7 HO6 HM6 HS6 B56 B6 D6
      go_wp2_with fail
      refine HD7.out.mono ?_
      rintro e w8 ⟨hd, hb8⟩
      obtain rfl := HDM.out _ _ hd
      have B8 := Lib.hid (bnext B7.out hb8)
      have D8 := Lib.hid (bnext D7.out hb8)
      have HSW := Lib.hid (rsamewrites_any A4 A c4 c L4 L w8 (HR4.out.below D8.out) (HR.out.below B8.out) HL4.out.symm (fun x hx => by
        have hx1 : x.1 ∈ L.map (·.1) := by rw [← HL4.out]; exact List.mem_map.2 ⟨x, hx, rfl⟩
        obtain ⟨y, hy, hye⟩ := List.mem_map.1 hx1
        rw [← hye]
        exact HF.out y hy) (by have := congrArg List.length HL4.out; simp at this; omega))
      clear hd hb8 HD7 HDM B7 D7
      go_wp2_with fail
      refine HSW.out.mono ?_
      rintro e w9 ⟨rfl, hb9⟩
      have B9 := Lib.hid (bnext B8.out hb9)
      clear hb9 HSW
      go_wp2_with fail
      refine (HKN.out _).mono ?_
      rintro e w10 ⟨rfl, hb10⟩
      have B10 := Lib.hid (bnext B9.out hb10)
      clear hb10
      go_wp2
      go_ret
      exact ⟨rfl, B10.out⟩
end Go.Proofs.Ytcpgpdkdopcicaa
