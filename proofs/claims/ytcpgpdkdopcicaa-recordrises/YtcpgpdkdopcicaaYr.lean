/- The walk of the law RecordRises of chapter 10. Condition: a slice of ints lies in memory. -/
import Derived.Test.YtcpgpdkdopcicaaZx
namespace Go.Proofs.Ytcpgpdkdopcicaa
set_option maxRecDepth 100000
set_option linter.unusedVariables false
open Go.ChangeShapes Go.WideShapes Go.ChangeAt Go.RowKit
open Fl (S cmpK keyN normN)
open Val (V cmpV isB ltT)
open Lb
theorem and7 (n : Int) : bits .and .i64 n 7 = n % 8 := by
  have hm : (BitVec.ofInt 64 7).toNat = 2 ^ 3 - 1 := by decide
  have key : (BitVec.ofInt 64 n &&& BitVec.ofInt 64 7).toNat = (n % ((2 ^ 64 : Nat) : Int)).toNat % 2 ^ 3 := by
    rw [BitVec.toNat_and, BitVec.toNat_ofInt, hm, Nat.and_two_pow_sub_one_eq_mod]
  show IntKind.i64.wrap ((BitVec.ofInt 64 n &&& BitVec.ofInt 64 7).toNat : Nat) = n % 8
  rw [key, IntKind.wrap_i64]
  omega
def lowC (z : Int) : Nat := 97 + (z % 8).toNat
def labR (z : Int) : ByteArray := bstr [(lowC z).toUInt8]
def prR (z : Int) : Pr := ⟨labR z, ⟨2, false, z, 0, ⟨#[]⟩⟩⟩
theorem lowC_bd (z : Int) : 97 ≤ lowC z ∧ lowC z ≤ 104 := by unfold lowC; omega
theorem lowC_u8 (z : Int) : (lowC z).toUInt8.toNat = lowC z := u8n (by have := lowC_bd z; omega)
theorem labR_name (z : Int) : nameB (labR z) = true := by
  have h := lowC_bd z
  have e : (labR z).data.toList = [(lowC z).toUInt8] := rfl
  unfold nameB lowB
  rw [e]
  simp only [List.all_cons, List.all_nil, lowByte, lowC_u8]
  simp
  exact ⟨⟨h.1, by omega⟩, Nat.le_refl 1, by show (1 : Nat) ≤ 8; omega⟩
theorem labR_lt (x y : Int) : ltT (labR x) (labR y) = decide (x % 8 < y % 8) := by
  unfold Val.ltT labR
  rw [bstr_list, bstr_list, Bool.eq_iff_iff, Val.lt_cons, lowC_u8, lowC_u8]
  simp [Op.bytesLess, lowC]
  omega
/-- Do the first k rise? -/
def risR (l : List Int) (i : Nat) : Bool := decide (i = 0) || decide (l.getD (i - 1) 0 % 8 < l.getD i 0 % 8)
def okR (l : List Int) (k : Nat) : Bool := (List.range k).all (risR l)
theorem okR_up (l : List Int) (k : Nat) : okR l (k + 1) = (okR l k && risR l k) := all_up _ _
theorem all_same (f g : Nat → Bool) : ∀ n, (∀ i, i < n → f i = g i) → (List.range n).all f = (List.range n).all g
  | 0, _ => rfl
  | n + 1, h => by rw [all_up, all_up, all_same f g n (fun i hi => h i (by omega)), h n (by omega)]
theorem getD_map {α β : Type} (f : α → β) (l : List α) (i : Nat) (d : β) (e : α) (h : i < l.length) : (l.map f).getD i d = f (l.getD i e) := by
  rw [getD_at _ _ _ (by rw [List.length_map]; exact h), getD_at _ _ _ h, List.getElem_map]
theorem lab_node (l : List Int) : nodeB ⟨l.map labR, []⟩ = (okR l l.length && decide (l.length ≤ 3)) := by
  unfold nodeB okR
  have e : (List.range l.length).all (labB (l.map labR)) = (List.range l.length).all (risR l) := by
    apply all_same
    intro i hi
    unfold labB risR
    rw [getD_map labR l i _ 0 hi, getD_map labR l (i - 1) _ 0 (by omega), labR_name, labR_lt]; rfl
  simp only [List.length_map]
  rw [e]
  simp
theorem prp_node (l : List Int) : nodeB ⟨[], l.map prR⟩ = (okR l l.length && decide (l.length ≤ 3)) := by
  unfold nodeB okR
  have e : (List.range l.length).all (prpB (l.map prR)) = (List.range l.length).all (risR l) := by
    apply all_same
    intro i hi
    unfold prpB risR
    rw [getD_map prR l i _ 0 hi, getD_map prR l (i - 1) _ 0 (by omega)]
    have h1 : isB (prR (l.getD i 0)).v = true := by
      show isB ⟨2, false, l.getD i 0, 0, ⟨#[]⟩⟩ = true
      rw [Val.isB2]; rfl
    rw [h1]
    show (nameB (labR _) && (_ || ltT (labR _) (labR _)) && true && decide ((2 : Int) ≠ 0)) = _
    rw [labR_name, labR_lt]; simp
  simp only [List.length_map]
  rw [e]
  simp
theorem null_node (p : Pr) (ps : List Pr) (h : p.v.k = 0) : nodeB ⟨[], p :: ps⟩ = false := by
  unfold nodeB
  have : (List.range (p :: ps).length).all (prpB (p :: ps)) = false := all_bad (k := 0) (by simp) (by unfold prpB; simp [h])
  simp only [this]
  simp
/-- The two nodes while they grow. -/
structure RG (w : World) (nb mb : Nat) (L : List ByteArray) (P : List Pr) (v1 v2 : Value) (W : World) : Prop where
  bn : BX W nb 42 #[v1, .slice none 0 0]
  bm : BX W mb 42 #[.slice none 0 0, v2]
  l : RO 9 1 w.heap.size W v1 L.length (L.map Value.string)
  p : RO 55 6 w.heap.size W v2 P.length (pcs P)
  b : Below w.heap.size w W
section
variable {w W W' : World} {nb mb : Nat} {L : List ByteArray} {P : List Pr} {v1 v2 v : Value}
theorem RG.below (h : RG w nb mb L P v1 v2 W) (hb : Below W.heap.size W W') : RG w nb mb L P v1 v2 W' := ⟨h.bn.below hb, h.bm.below hb, h.l.below hb, h.p.below hb, bnext h.b hb⟩
theorem ro_apart {e1 s1 n1 e2 s2 n2 B1 B2 : Nat} {u1 u2 : Value} {x1 x2 : List Value} (h1 : RO e1 s1 B1 W u1 n1 x1) (h2 : RO e2 s2 B2 W u2 n2 x2) (ht : e1 ≠ e2) {k : Nat} (a : u1.ownBlock = some k) (b : u2.ownBlock = some k) : False := by
  obtain ⟨c1, q1⟩ := own_type h1.r a
  obtain ⟨c2, q2⟩ := own_type h2.r b
  rw [q1] at q2
  injection q2 with q2
  injection q2 with _ q2
  exact ht q2
theorem RG.lab {x : ByteArray} {W1 : World} (h : RG w nb mb L P v1 v2 W1) (hn : w.heap.size ≤ nb) (hnm : nb ≠ mb)
    (ho : W.ownsRow 0 9 1 v (L.length + 1) (L.map Value.string ++ [.string x])) (hg : W1.grownBy W v1.ownBlock) (hv : v.ownBlock = v1.ownBlock ∨ v.ownBlock = some W1.heap.size) :
    BX W nb 42 #[v1, .slice none 0 0] ∧ RG w nb mb (L ++ [x]) P v v2 (W.setCell ⟨nb, 0, none⟩ v) := by
  have n1 : some nb ≠ v1.ownBlock := fun e => ro_bx h.l h.bn (by decide) e.symm
  have n2 : some mb ≠ v1.ownBlock := fun e => ro_bx h.l h.bm (by decide) e.symm
  have b1 := h.bn.kept hg n1
  have hl : RO 9 1 w.heap.size W v (L.length + 1) (L.map Value.string ++ [.string x]) := h.l.next h.b.size ho hv
  have hp := h.p.kept hg (fun k hk e => ro_apart h.l h.p (by decide) e.symm hk)
  have hl2 := hl.kept (grown_set W nb 0 v) (fun k hk e => ro_bx hl b1 (by decide) (hk.trans e))
  have hp2 := hp.kept (grown_set W nb 0 v) (fun k hk e => ro_bx hp b1 (by decide) (hk.trans e))
  refine ⟨b1, b1.set 0 v, (h.bm.kept hg n2).other (fun e => hnm e.symm) 0 v, by simpa using hl2, hp2, ?_⟩
  exact (h.b.grown hg h.b.size (fun k e => h.l.n k e)).grown (grown_set W nb 0 v) (Nat.le_trans h.b.size hg.size) (fun k e => by injection e with e; omega)
theorem RG.prp {x : Pr} {W1 : World} (h : RG w nb mb L P v1 v2 W1) (hn : w.heap.size ≤ mb) (hnm : nb ≠ mb)
    (ho : W.ownsRow 0 55 6 v (P.length + 1) (pcs P ++ prc x)) (hg : W1.grownBy W v2.ownBlock) (hv : v.ownBlock = v2.ownBlock ∨ v.ownBlock = some W1.heap.size) :
    BX W mb 42 #[.slice none 0 0, v2] ∧ RG w nb mb L (P ++ [x]) v1 v (W.setCell ⟨mb, 1, none⟩ v) := by
  have n1 : some nb ≠ v2.ownBlock := fun e => ro_bx h.p h.bn (by decide) e.symm
  have n2 : some mb ≠ v2.ownBlock := fun e => ro_bx h.p h.bm (by decide) e.symm
  have b1 := h.bm.kept hg n2
  have hp : RO 55 6 w.heap.size W v (P.length + 1) (pcs P ++ prc x) := h.p.next h.b.size ho hv
  have hl := h.l.kept hg (fun k hk e => ro_apart h.l h.p (by decide) hk e.symm)
  have hp2 := hp.kept (grown_set W mb 1 v) (fun k hk e => ro_bx hp b1 (by decide) (hk.trans e))
  have hl2 := hl.kept (grown_set W mb 1 v) (fun k hk e => ro_bx hl b1 (by decide) (hk.trans e))
  rw [← pcs_snoc] at hp2
  refine ⟨b1, (h.bn.kept hg n1).other hnm 1 v, b1.set 1 v, hl2, by simpa using hp2, ?_⟩
  exact (h.b.grown hg h.b.size (fun k e => h.p.n k e)).grown (grown_set W mb 1 v) (Nat.le_trans h.b.size hg.size) (fun k e => by injection e with e; omega)
end
set_option maxHeartbeats 8000000 in
theorem rises10_any (A : Option Addr) (l : List Int) (c : Nat) (w : World) (h : Row (.int .i64) w A l) : Calls Try.prog 8 #[.slice A l.length c] w fun e w' => e = .returned (.bool true) ∧ Below w.heap.size w w' := by
  by_cases hbig : 6 < l.length
  · go_enter Try.func8, Try.ntmps8
    go_wp2
    go_ret
    exact ⟨rfl, Below.refl _ _⟩
  have HKN := Lib.hid (fun W => known10_any W)
  have HR := Lib.hid h
  obtain ⟨V, hV⟩ : ∃ V, V = (w.alloc (.cells #[.slice none 0 0, .slice none 0 0] 42)).alloc (.cells #[.slice none 0 0, .slice none 0 0] 42) := ⟨_, rfl⟩
  have hz : (w.alloc (.cells #[.slice none 0 0, .slice none 0 0] 42)).heap.size = w.heap.size + 1 := by simp
  have hm : BX V (w.heap.size + 1) 42 #[.slice none 0 0, .slice none 0 0] := by rw [hV, ← hz]; exact bx_new _ _ _
  have hn : BX V w.heap.size 42 #[.slice none 0 0, .slice none 0 0] := by rw [hV]; exact (bx_new w _ _).below (one_box _ _)
  have HI0 : Hid (RG w w.heap.size (w.heap.size + 1) [] [] (.slice none 0 0) (.slice none 0 0) V) := ⟨hn, hm, RO.nil _ _ _ _, RO.nil _ _ _ _, by rw [hV]; exact bnext (one_box w _) (one_box _ _)⟩
  clear h hz hm hn
  go_enter Try.func8, Try.ntmps8
  go_upto_region 4 with fail
  rw [← hV]
  clear hV
  go_wp2
  go_loopw [5, 6] (fun b i wr => ∃ (k : Nat) (v1 v2 : Value), k ≤ l.length ∧ i = .int .i64 (k : Nat) ∧ b = .bool (okR l k) ∧ Hid (RG w w.heap.size (w.heap.size + 1) ((l.take k).map labR) ((l.take k).map prR) v1 v2 wr)) (fun _ i _ => l.length - (intOf i).toNat)
  case atStart => exact ⟨0, _, _, Nat.zero_le _, rfl, rfl, HI0.out⟩
  case round =>
    obtain ⟨k, v1, v2, hk, rfl, rfl, HI⟩ := hrel
    by_cases hlt : k < l.length
    · obtain ⟨ad, rfl, hc⟩ := (HR.out.below HI.out.b) k hlt
      have HTL : Hid ((l.take (k + 1)).map labR = (l.take k).map labR ++ [labR l[k]] ∧ (l.take (k + 1)).map prR = (l.take k).map prR ++ [prR l[k]]) := by
        simp only [Hid]; rw [List.take_succ_eq_append_getElem hlt, List.map_append, List.map_append]; exact ⟨rfl, rfl⟩
      have HLT : Hid (((l.take k).map labR).length = k ∧ ((l.take k).map prR).length = k) := by simp [Hid]; omega
      have HUP := Lib.hid (okR_up l k)
      have HRS : Hid (risR l k = (decide (k = 0) || decide (l.getD (k - 1) 0 % 8 < l[k] % 8))) := by simp only [Hid]; unfold risR; rw [getD_at l k 0 hlt]
      have HRC := Lib.hid (fun j (hj : j < l.length) W (hW : Below w.heap.size w W) => show W.cell? (ad.add j) = some (.int .i64 l[j]) from by
        obtain ⟨ad2, e, hc2⟩ := (HR.out.below hW) j hj
        injection e with e
        subst e
        exact hc2)
      have h7 := and7 l[k]
      obtain ⟨m, hm⟩ : ∃ m : Nat, l[k] % 8 = (m : Int) := ⟨(l[k] % 8).toNat, by omega⟩
      have hlc : lowC l[k] = 97 + m := by unfold lowC; rw [hm]; simp
      have hm8 : m < 8 := by omega
      rw [hm] at h7
      have HM := Lib.hid hm
      have w1 : IntKind.i64.wrap (97 + (m : Int)) = 97 + (m : Int) := by have := wrap_small (m := 97 + m) (by omega); push_cast at this; exact this
      have w2 : IntKind.u8.wrap (97 + (m : Int)) = 97 + (m : Int) := by rw [IntKind.wrap_u8]; omega
      have hbs : BS (wr.alloc (.cells #[.int .u8 (97 + (m : Int))] 5)) (some ⟨wr.heap.size, 0, none⟩) [(lowC l[k]).toUInt8] 1 := by
        refine ⟨fun i hi => ⟨_, rfl, ?_⟩, by simp, fun e => by cases e⟩
        obtain rfl : i = 0 := by simpa using hi
        rw [Addr.add_lit, cell_of_row _ _ _ _ _ _ (heap_alloc_new wr _)]
        simp only [List.getElem_cons_zero, hlc]
        rw [u8n (by omega)]; rfl
      have hcv := hbs.conv 1 rfl
      have HLB : Hid (bstr [(lowC l[k]).toUInt8] = labR l[k]) := rfl
      rw [HLB.out] at hcv
      have HI1 := Lib.hid (HI.out.below (one_box wr (.cells #[.int .u8 (97 + (m : Int))] 5)))
      have HBW := Lib.hid (one_box wr (.cells #[.int .u8 (97 + (m : Int))] 5))
      have hi5 : IntKind.i64.wrap (k : Int) = (k : Int) := wrap_small (show k ≤ 9223372036854775807 by omega)
      have hi0 : (0 : Int) ≤ (k : Int) := by omega
      clear hbs hlc hm HI HLB
      obtain ⟨W1, hW1⟩ : ∃ W1, W1 = wr.alloc (.cells #[.int .u8 (97 + (m : Int))] 5) := ⟨_, rfl⟩
      go_upto_region 9 with fail
      rw [← hW1] at HI1 HBW ⊢
      clear hcv hW1 w1 w2 h7 hc
      go_cut [5] from 30 to 48 (fun v wx => v = .bool (okR l (k + 1)) ∧ Hid (Below W1.heap.size W1 wx))
      case first =>
        cases hok : okR l k with
        | false =>
          have HF := Lib.hid (show okR l (k + 1) = false by rw [HUP.out, hok]; rfl)
          clear hok HUP
          go_quiet (fail)
          go_wp2
          go_meet
          exact ⟨by rw [HF.out], below_drewN (Below.refl _ _) _⟩
        | true =>
          cases k with
          | zero =>
            have HF := Lib.hid (show okR l (0 + 1) = true by rw [HUP.out, hok, HRS.out]; rfl)
            clear hok HUP
            go_quiet (fail)
            go_wp2
            go_meet
            exact ⟨by rw [HF.out], below_drewN (Below.refl _ _) _⟩
          | succ j =>
            have hj : j < l.length := by omega
            have HF := Lib.hid (show okR l (j + 1 + 1) = decide (l[j] % 8 < l[j + 1] % 8) by rw [HUP.out, hok, HRS.out, Nat.add_sub_cancel, getD_at l j 0 hj]; simp)
            have q1 := HRC.out j hj W1 HI1.out.b
            have q2 := HRC.out (j + 1) hlt W1 HI1.out.b
            rw [addr_pos ad (j + 1) (by omega)] at q2
            have a1 := and7 l[j]
            have a2 := and7 l[j + 1]
            have hj5 : IntKind.i64.wrap (j : Int) = (j : Int) := wrap_small (show j ≤ 9223372036854775807 by omega)
            have hj0 : (0 : Int) ≤ (j : Int) := by omega
            have hi6 : IntKind.i64.wrap ((j : Int) + 1) = (j : Int) + 1 := hi5
            have hi7 : (0 : Int) ≤ (j : Int) + 1 := by omega
            have hi8 : ((j : Int) + 1).toNat = j + 1 := by omega
            have hi9 : (j : Int) + 1 < (l.length : Int) := by omega
            have hi10 : ((j : Int) + 1 == 0) = false := by simp; omega
            generalize l[j] = x at *
            generalize l[j + 1] = y at *
            clear hok HUP hi5 hi0 HRC
            go_quiet (fail)
            go_wp2
            go_meet
            exact ⟨by rw [HF.out], below_drewN (Below.refl _ _) _⟩
      case rest =>
        obtain ⟨rfl, HX⟩ := hcut
        have HI2 := Lib.hid (HI1.out.below HX.out)
        have HRW := Lib.hid (fun W (hW : Below w.heap.size w W) => HRC.out k hlt W hW)
        generalize hLL : (l.take k).map labR = LL at *
        generalize hPP : (l.take k).map prR = PP at *
        have HLL := Lib.hid hLL
        have HPP := Lib.hid hPP
        clear hLL hPP HI1 HX HBW HRC HUP HRS
        obtain ⟨A1, c1, hv1⟩ := own_slice HI2.out.l.r
        obtain ⟨A2, c2, hv2⟩ := own_slice HI2.out.p.r
        subst hv1
        subst hv2
        have hLk := HLT.out.1
        have hPk := HLT.out.2
        have HLE : Hid (LL.length + 1 ≤ 1000000) := by simp only [Hid]; omega
        have HLP : Hid (PP.length + 1 ≤ 1000000) := by simp only [Hid]; omega
        clear hLk hPk
        have hal := one_box wc (.cells #[.string (labR l[k])] 9)
        have b0 := HI2.out.bn.cell 0
        simp only [List.getElem?_toArray, List.getElem?_cons_zero] at b0
        have HI2A := Lib.hid (HI2.out.below hal)
        have HCN := Lib.hid (new_cells wc #[.string (labR l[k])] 9)
        clear hal
        generalize hzz : l[k] = z at *
        have HZZ := Lib.hid hzz
        clear hzz
        generalize hlb : labR z = lb at *
        have HLBZ := Lib.hid hlb
        clear hlb
        go_wp2_with (at_builtin; refine wp_own 39 9 _ 1 16 Try.underlying39 infoS rfl (by decide) (by decide) rfl _ _ rfl _ LL.length (LL.map Value.string) HI2A.out.l.r rfl ⟨wc.heap.size, 0, none⟩ 1 1 [.string lb] rfl rfl HCN.out (fun u hu => by simp at hu; rw [hu]; rfl) HLE.out ?_)
        intro v4 w4 ho4 hg4 hv4
        obtain ⟨A4, c4, rfl⟩ := own_slice ho4
        have H4 := Lib.hid (HI2A.out.lab (Nat.le_refl _) (by omega) ho4 hg4 (by simpa using hv4))
        have d0 := H4.out.1.cell 0
        have df := H4.out.1.frozen
        simp only [List.getElem?_toArray, List.getElem?_cons_zero] at d0
        clear ho4 hg4 hv4 b0
        go_upto_region 11 with fail
        clear d0 df
        obtain ⟨W5, hW5⟩ : ∃ W5, W5 = w4.setCell ⟨w.heap.size, 0, none⟩ (.slice A4 (LL.length + 1) c4) := ⟨_, rfl⟩
        have HI5 : Hid (RG w w.heap.size (w.heap.size + 1) (LL ++ [lb]) PP (.slice A4 (LL.length + 1) c4) (.slice A2 PP.length c2) W5) := by rw [hW5]; exact H4.out.2
        rw [← hW5]
        clear hW5 H4 HI2 HI2A HCN
        have hd := HI5.out.below (Below.refl W5.heap.size W5).drew
        have hda := hd.below (one_box W5.drew (.cells #[.string lb, .int .i64 2, .bool false, .int .i64 z, .float .f64 0, .string ⟨#[]⟩] 55))
        have hdb := HI5.out.below (one_box W5 (.cells #[.string lb, .int .i64 2, .bool false, .int .i64 z, .float .f64 0, .string ⟨#[]⟩] 55))
        have b1 := HI5.out.bm.cell 1
        have b2 := hdb.bm.cell 1
        have b3 := hda.bm.cell 1
        have r1 := HRW.out _ HI5.out.b
        have r2 := HRW.out _ hdb.b
        have r3 := HRW.out _ hda.b
        simp only [List.getElem?_toArray, List.getElem?_cons_zero, List.getElem?_cons_succ] at b1 b2 b3
        have H5A := Lib.hid hda
        have HCN := Lib.hid (new_cells W5.drew #[.string lb, .int .i64 2, .bool false, .int .i64 z, .float .f64 0, .string ⟨#[]⟩] 55)
        have HPZ : Hid ((#[.string lb, .int .i64 2, .bool false, .int .i64 z, .float .f64 0, .string ⟨#[]⟩] : Array Value).toList = prc (prR z) ∧ lb = labR z) := ⟨by unfold prc prR; rw [HLBZ.out], HLBZ.out.symm⟩
        clear hd hda hdb
        go_region_law ((refine st_of rfl (own_wp 40 55 _ 6 64 Try.underlying40 infoP rfl (by decide) (by decide) (.tmp 56) (.tmp 64) rfl _ PP.length (pcs PP) H5A.out.p.r rfl ⟨W5.heap.size, 0, none⟩ 1 1 (#[.string lb, .int .i64 2, .bool false, .int .i64 z, .float .f64 0, .string ⟨#[]⟩] : Array Value).toList rfl rfl HCN.out (by rw [HPZ.out.1]; exact prc_one _) HLP.out ?_); intro v6 w6 ho6 hg6 hv6; obtain ⟨A6, c6, rfl⟩ := own_slice ho6; rw [HPZ.out.1] at ho6; have H6 := Lib.hid (H5A.out.prp (Nat.le_succ _) (by omega) ho6 hg6 (by simpa using hv6)); have d0 := H6.out.1.cell 1; have df := H6.out.1.frozen; simp only [List.getElem?_toArray, List.getElem?_cons_zero, List.getElem?_cons_succ] at d0; clear ho6 hg6 hv6))
        all_goals (
          have HI6 := Lib.hid H6.out.2
          clear b1 b2 b3 r1 r2 r3 d0 df H6 H5A HCN HI5
          generalize w6.setCell ⟨w.heap.size + 1, 1, none⟩ (.slice A6 (PP.length + 1) c6) = W6 at *
          have HE1 : Hid (LL ++ [lb] = (l.take (k + 1)).map labR) := HTL.out.1.symm
          have HE2 : Hid (PP ++ [prR z] = (l.take (k + 1)).map prR) := HTL.out.2.symm
          go_wp2
          have h7 := HI6.out
          rw [HE1.out, HE2.out] at h7
          exact ⟨⟨k + 1, _, _, hlt, by go_num, rfl, h7⟩, by simp [intOf]; omega⟩)
    · obtain rfl : k = l.length := by omega
      have HN1 := Lib.hid (lab_node l)
      have HN2 := Lib.hid (prp_node l)
      rw [List.take_length] at HI
      obtain ⟨A1, c1, hv1⟩ := own_slice HI.out.l.r
      obtain ⟨A2, c2, hv2⟩ := own_slice HI.out.p.r
      subst hv1
      subst hv2
      have hl6 : l.length ≤ 6 := by omega
      have HSZ : Hid ((∀ x, x ∈ l.map labR → x.size ≤ maxLen) ∧ ∀ x, x ∈ l.map prR → x.k.size ≤ maxLen ∧ x.v.t.size ≤ maxLen) := by
        refine ⟨fun x hx => ?_, fun x hx => ?_⟩
        · obtain ⟨z, _, rfl⟩ := List.mem_map.1 hx; show (1 : Nat) ≤ maxLen; decide
        · obtain ⟨z, _, rfl⟩ := List.mem_map.1 hx; exact ⟨by show (1 : Nat) ≤ maxLen; decide, Nat.zero_le _⟩
      have HP1 := Lib.hid (fun W (hW : Below wr.heap.size wr W) => pnode_any ⟨l.map labR, []⟩ ⟨A1, c1, none, 0⟩ W ⟨row_own (HI.out.l.below hW).r, fun k hk => absurd hk (by simp)⟩ ⟨by show (l.map labR).length ≤ _; rw [List.length_map]; omega, by simp, HSZ.out.1, (fun x hx => by cases hx)⟩)
      have HP2 := Lib.hid (fun W (hW : Below wr.heap.size wr W) => pnode_any ⟨[], l.map prR⟩ ⟨none, 0, A2, c2⟩ W ⟨fun k hk => absurd hk (by simp), prow_own (HI.out.p.below hW).r⟩ ⟨by simp, by show (l.map prR).length ≤ _; rw [List.length_map]; omega, (fun x hx => by cases hx), HSZ.out.2⟩)
      rw [HN1.out] at HP1
      rw [HN2.out] at HP2
      have b0 := HI.out.bn.cell 0
      have b1 := HI.out.bn.cell 1
      have d0 := HI.out.bm.cell 0
      have d1 := HI.out.bm.cell 1
      simp only [List.getElem?_toArray, List.getElem?_cons_zero, List.getElem?_cons_succ] at b0 b1 d0 d1
      have HBM := Lib.hid (fun W (hW : Below wr.heap.size wr W) => show W.cell? ⟨w.heap.size + 1, 0, none⟩ = some (.slice none 0 0) ∧ W.cell? ⟨w.heap.size + 1, 1, none⟩ = some (.slice A2 (l.map prR).length c2) from ⟨(HI.out.bm.below hW).cell 0, (HI.out.bm.below hW).cell 1⟩)
      have HPR := Lib.hid (fun W (hW : Below wr.heap.size wr W) => HI.out.p.below hW)
      have HLM : Hid ((l.map labR).length = l.length ∧ (l.map prR).length = l.length) := by simp [Hid]
      have HBB := Lib.hid HI.out.b
      clear HI HN1 HN2 HSZ
      generalize okR l l.length = ok at *
      have hl3 : (l.length ≤ 3 ∧ Hid (decide (l.length ≤ 3) = true)) ∨ (¬ l.length ≤ 3 ∧ Hid (decide (l.length ≤ 3) = false)) := by
        by_cases h3 : l.length ≤ 3
        · exact .inl ⟨h3, decide_eq_true h3⟩
        · exact .inr ⟨h3, decide_eq_false h3⟩
      generalize hLL : l.map labR = LL at *
      have hPC : ∀ z zs, l = z :: zs → l.map prR = prR z :: zs.map prR := fun z zs e => by rw [e]; rfl
      generalize hPP : l.map prR = PP at *
      have HPC := Lib.hid hPC
      have HLE : Hid (LL.length = l.length) := HLM.out.1
      have HPL : Hid (PP.length = l.length) := HLM.out.2
      clear hLL hPP hPC HLM
      have hc : (ok = false) ∨ (ok = true ∧ ¬ l.length ≤ 3) ∨ (ok = true ∧ l.length ≤ 3 ∧ l.length = 0) ∨ (ok = true ∧ l.length ≤ 3 ∧ 0 < l.length) := by
        cases ok
        · exact .inl rfl
        · by_cases h3 : l.length ≤ 3
          · by_cases h0 : l.length = 0
            · exact .inr (.inr (.inl ⟨rfl, h3, h0⟩))
            · exact .inr (.inr (.inr ⟨rfl, h3, by omega⟩))
          · exact .inr (.inl ⟨rfl, h3⟩)
      clear hl3
      rcases hc with rfl | ⟨rfl, h3⟩ | ⟨rfl, h3, h0⟩ | ⟨rfl, h3, h0⟩
      case inr.inr.inr =>
        rw [decide_eq_true h3] at HP1 HP2
        go_wp2_with fail
        refine (HP1.out _ (Below.refl _ _)).mono ?_
        rintro e w2 ⟨rfl, hb2⟩
        have B2 := Lib.hid hb2
        obtain ⟨f0, f1⟩ := HBM.out _ hb2
        clear hb2
        go_wp2_with fail
        refine (HP2.out _ B2.out).mono ?_
        rintro e w3 ⟨rfl, hb3⟩
        have B3 := Lib.hid (bnext B2.out hb3)
        obtain ⟨g0, g1⟩ := HBM.out _ B3.out
        have hro := HPR.out _ B3.out
        clear hb3
        obtain ⟨z0, zs, hPz⟩ : ∃ (z0 : Int) (zs : List Int), PP = prR z0 :: zs.map prR := by
          cases l with
          | nil => simp at h0
          | cons z zs => exact ⟨z, zs, HPC.out z zs rfl⟩
        have hpos : 0 < PP.length := by rw [hPz]; simp
        obtain ⟨g2, cp2, e2, _, _⟩ := World.ownsRow.form hro.r hpos
        injection e2 with e2 _ e3
        subst e2
        subst e3
        have hg2 : w.heap.size ≤ g2 := hro.n g2 rfl
        have hne : w.heap.size + 1 ≠ g2 := fun e => by
          have hb := HPR.out wr (Below.refl _ _)
          obtain ⟨cu, q1⟩ := own_type hro.r (k := g2) rfl
          have q2 := g0
          rw [e, cell_of_row w3 g2 0 cu _ (0, 0) q1] at q2
          have q3 := World.ownsRow.cellAt hro.r 0 (by omega)
          rw [cell_of_row w3 g2 0 cu _ (0, 0) q1, q2, hPz] at q3
          simp [pcs, prc] at q3
        have k1 := World.ownsRow.cellAt hro.r 1 (by omega)
        have k2 := World.ownsRow.cellAt hro.r 2 (by omega)
        have k3 := World.ownsRow.cellAt hro.r 3 (by omega)
        have k4 := World.ownsRow.cellAt hro.r 4 (by omega)
        have k5 := World.ownsRow.cellAt hro.r 5 (by omega)
        have kf := fun o => World.ownsRow.frozenAt hro.r o
        have hpc : pcs PP = prc (prR z0) ++ pcs (zs.map prR) := by rw [hPz]; simp [pcs]
        rw [hpc] at k1 k2 k3 k4 k5
        simp only [prc, List.cons_append, List.nil_append, List.getElem?_cons_zero, List.getElem?_cons_succ] at k1 k2 k3 k4 k5
        have HEND : Hid (∀ W, W = (((((w3.setCell ⟨g2, 1, none⟩ (.int .i64 0)).setCell ⟨g2, 2, none⟩ (.bool false)).setCell ⟨g2, 3, none⟩ (.int .i64 0)).setCell ⟨g2, 4, none⟩ (.float .f64 0)).setCell ⟨g2, 5, none⟩ (.string ⟨#[]⟩)) → Below w.heap.size w W ∧ W.cell? ⟨w.heap.size + 1, 0, none⟩ = some (.slice none 0 0) ∧ W.cell? ⟨w.heap.size + 1, 1, none⟩ = some (.slice (some ⟨g2, 0, none⟩) PP.length c2) ∧ Calls Try.prog 21 #[.agg #[.slice none 0 0, .slice (some ⟨g2, 0, none⟩) PP.length c2]] W fun r w' => r = .returned (.bool false) ∧ Below W.heap.size W w') := by
          rintro W rfl
          have s1 := World.ownsRow.stored hro.r 1 (.int .i64 0)
          have s2 := World.ownsRow.stored s1.1 2 (.bool false)
          have s3 := World.ownsRow.stored s2.1 3 (.int .i64 0)
          have s4 := World.ownsRow.stored s3.1 4 (.float .f64 0)
          have s5 := World.ownsRow.stored s4.1 5 (.string ⟨#[]⟩)
          have hg : w3.grownBy _ (some g2) := only_trans (only_trans (only_trans (only_trans s1.2 s2.2) s3.2) s4.2) s5.2
          have hb := (bnext HBB.out B3.out).grown hg (bnext HBB.out B3.out).size (fun k e => by injection e with e; omega)
          have hlt : w.heap.size + 1 < w3.heap.size := World.block_lt_of_cell? w3 _ g0
          have hc0 := hg.cell g0 (by intro e; injection e with e; exact hne e)
          have hc1 := hg.cell g1 (by intro e; injection e with e; exact hne e)
          refine ⟨hb, hc0, hc1, ?_⟩
          have hlen : PP.length = ((⟨labR z0, ⟨0, false, 0, 0, ⟨#[]⟩⟩⟩ : Pr) :: zs.map prR).length := by rw [hPz]; simp
          have h5 := s5.1
          rw [hpc, hlen] at h5
          have hrow := prow_own (c := c2) (L := (⟨labR z0, ⟨0, false, 0, 0, ⟨#[]⟩⟩⟩ : Pr) :: zs.map prR) h5
          have hn := pnode_any ⟨[], (⟨labR z0, ⟨0, false, 0, 0, ⟨#[]⟩⟩⟩ : Pr) :: zs.map prR⟩ ⟨none, 0, some ⟨g2, 0, none⟩, c2⟩ _ ⟨fun k hk => absurd hk (by simp), hrow⟩ ⟨by simp, by rw [← hlen]; have := HPL.out; omega, (fun x hx => by cases hx), fun x hx => by
            rcases List.mem_cons.1 hx with rfl | hx
            · exact ⟨by show (1 : Nat) ≤ maxLen; decide, Nat.zero_le _⟩
            · obtain ⟨z, _, rfl⟩ := List.mem_map.1 hx; exact ⟨by show (1 : Nat) ≤ maxLen; decide, Nat.zero_le _⟩⟩
          rw [null_node _ _ rfl] at hn
          rw [hlen]
          exact hn
        have hne2 : ¬ (g2 = w.heap.size + 1) := fun e => hne e.symm
        clear hPz hpc hro
        go_upto_region 17 with fail
        obtain ⟨hb5, h50, h51, hn5⟩ := HEND.out _ rfl
        have HB5 := Lib.hid hb5
        have HN5 := Lib.hid hn5
        clear hb5 hn5
        go_wp2_with fail
        refine HN5.out.mono ?_
        rintro e w6 ⟨rfl, hb6⟩
        have B6 := Lib.hid (bnext HB5.out hb6)
        clear hb6
        go_wp2_with fail
        refine (HKN.out _).mono ?_
        rintro e w7 ⟨rfl, hb7⟩
        have B7 := Lib.hid (bnext B6.out hb7)
        clear hb7
        go_wp2
        go_ret
        exact ⟨rfl, B7.out⟩
      all_goals
        first
          | simp only [Bool.false_and] at HP1 HP2
          | rw [decide_eq_false h3] at HP1 HP2
          | rw [decide_eq_true h3] at HP1 HP2
        go_wp2_with fail
        refine (HP1.out _ (Below.refl _ _)).mono ?_
        rintro e w2 ⟨rfl, hb2⟩
        have B2 := Lib.hid hb2
        obtain ⟨f0, f1⟩ := HBM.out _ hb2
        clear hb2
        go_wp2_with fail
        refine (HP2.out _ B2.out).mono ?_
        rintro e w3 ⟨rfl, hb3⟩
        have B3 := Lib.hid (bnext B2.out hb3)
        clear hb3
        go_wp2_with fail
        refine (HKN.out _).mono ?_
        rintro e w4 ⟨rfl, hb4⟩
        have B4 := Lib.hid (bnext HBB.out (bnext B3.out hb4))
        clear hb4
        go_wp2
        go_ret
        exact ⟨rfl, B4.out⟩
end Go.Proofs.Ytcpgpdkdopcicaa
