/- What Walk and Back of the program's Lists return. Conditions: the Lists lie in memory, fewer than 900,000 items. -/
import Derived.Test.YtfmbogpbhchelaaTd
import Derived.LaidEqlPtr
namespace Go.Proofs.Ytfmbogpbhchelaa
set_option maxRecDepth 100000
set_option linter.unusedVariables false
open Go.ChangeShapes Go.WideShapes Go.ChangeAt Go.RowKit
theorem ptr_eql {w : World} {a b : Nat} {ca cb : Array Value} {ta tb : TypeId} (ha : w.heap[a]? = some (.cells ca ta (0, 0))) (hb : w.heap[b]? = some (.cells cb tb (0, 0))) : (binOp .eql 45 (pt a) (pt b)).run Try.prog w = .ok (.bool (decide (a = b))) w := by
  have hu : Try.prog.underlying 45 = some (.pointer 54) := by kernel_rfl
  obtain ⟨j, hj, hz⟩ : ∃ j, Try.prog.info? 54 = some j ∧ j.size = 3 := by
    have h : (Try.prog.info? 54).map (·.size) = some 3 := by kernel_rfl
    obtain ⟨j, h1, h2⟩ := Option.map_eq_some_iff.1 h
    exact ⟨j, h1, h2⟩
  by_cases e : a = b
  · subst e
    rw [run_eql_ptr_same w _ hu hj]
    simp
  · rw [run_eql_ptr_other w hu hj (by omega) (a := ⟨a, 0, none⟩) (b := ⟨b, 0, none⟩) (fun e1 => e (by injection e1)) ha hb]
    simp [e]
theorem ptr_neq {w : World} {a b : Nat} {ca cb : Array Value} {ta tb : TypeId} (ha : w.heap[a]? = some (.cells ca ta (0, 0))) (hb : w.heap[b]? = some (.cells cb tb (0, 0))) : (binOp .neq 45 (pt a) (pt b)).run Try.prog w = .ok (.bool (!decide (a = b))) w := by
  have hu : Try.prog.underlying 45 = some (.pointer 54) := by kernel_rfl
  obtain ⟨j, hj, hz⟩ : ∃ j, Try.prog.info? 54 = some j ∧ j.size = 3 := by
    have h : (Try.prog.info? 54).map (·.size) = some 3 := by kernel_rfl
    obtain ⟨j, h1, h2⟩ := Option.map_eq_some_iff.1 h
    exact ⟨j, h1, h2⟩
  by_cases e : a = b
  · subst e
    have h : ∀ d : Nat, (Op.equalIn (d + 1) 45 (pt a) (pt a)).run Try.prog w = .ok true w := fun d => by
      simp [Op.equalIn, run_underlying hu, sizeOf, typeInfo, hj, run_sameAddr_same]
    simp only [binOp]
    simp [Op.equal, Op.maxDepth, h 9999]
  · have h : ∀ d : Nat, (Op.equalIn (d + 1) 45 (pt a) (pt b)).run Try.prog w = .ok false w := fun d => by
      simp [Op.equalIn, run_underlying hu, sizeOf, typeInfo, hj, hz, run_sameAddr_other w (a := ⟨a, 0, none⟩) (b := ⟨b, 0, none⟩) (fun e1 => e (by injection e1)) ha hb]
    simp only [binOp]
    simp [Op.equal, Op.maxDepth, h 9999, e]
def sliceLen : Value → Nat
  | .slice _ n _ => n
  | _ => 0
/-- The k-th of B, or e behind its end. -/
def nth (B : List Nat) (e k : Nat) : Nat := B.getD k e
theorem Fo.nth0 {f : Nat → Nat} {a c : Nat} {B : List Nat} (h : Fo f a B c) : f a = nth B c 0 := by
  cases B with
  | nil => exact h
  | cons b B => exact h.1
theorem Fo.nths {f : Nat → Nat} : ∀ {B : List Nat} {a c k : Nat}, Fo f a B c → k < B.length → f (nth B c k) = nth B c (k + 1)
  | [], a, c, k, h, hk => by simp at hk
  | b :: B, a, c, 0, h, hk => by
    have := h.2.nth0
    simpa [nth] using this
  | b :: B, a, c, k + 1, h, hk => by
    have := h.2.nths (k := k) (by simpa using hk)
    simpa [nth] using this
theorem nth_mem {B : List Nat} {e k : Nat} (hk : k < B.length) : nth B e k ∈ B := by
  unfold nth
  rw [List.getD_eq_getElem?_getD, List.getElem?_eq_getElem hk, Option.getD_some]
  exact List.getElem_mem hk
theorem nth_end {B : List Nat} {e : Nat} : nth B e B.length = e := by simp [nth]
theorem nth_take {B : List Nat} {e k : Nat} (hk : k < B.length) : B.take (k + 1) = B.take k ++ [nth B e k] := by
  rw [List.take_add_one, List.getElem?_eq_getElem hk, Option.toList_some]
  simp [nth, hk]
section
variable {F : Nat → Prop} {w : World} {a : Nat} {m1 m2 : Option Nat} {g : Gh} {KM : List It} {KE : List Int} {I : List It}
theorem pwalk1_any {S : Nat → Prop} {W : World} {nx pv : Nat → Nat} {idf : Nat → Int} (h : ND S W nx pv idf) {b : Nat} (hb : S b) : Calls Try.prog 27 #[pt b] W fun e w' => e = .returned (pt (nx b)) ∧ W = w' := by
  obtain ⟨k0, k1, k2, kf⟩ := h.cells hb
  clear h
  go_enter Try.func27, Try.ntmps27
  go_wp2
  go_ret
  exact ⟨rfl, rfl⟩
theorem pfwalk_out (h : LM F w a m1 m2 g KM KE I) (l : Int) (hl : l ∉ KE) : Calls Try.prog 26 #[pt a, .int .i64 l, .func (.func 27) #[] #[]] w fun e w' => e = .returned (.slice none 0 0) ∧ w = w' := by
  obtain ⟨k0, k1, kf⟩ := h.cells
  have hlk := h.look2 l
  rw [if_neg hl] at hlk
  clear h hl
  go_enter Try.func26, Try.ntmps26
  go_wp2
  go_ret
  exact ⟨rfl, rfl⟩
set_option maxHeartbeats 1000000 in
theorem pfwalk_in (h : LM F w a m1 m2 g KM KE I) (l : Int) (hl : l ∈ KE) (B : List Nat) (hB : Fo g.nx (g.en l) B (g.en l)) (hm : ∀ b, b ∈ B → b ∈ rb g I l) (hlen : B.length ≤ 900000) :
    Calls Try.prog 26 #[pt a, .int .i64 l, .func (.func 27) #[] #[]] w fun e w' => ∃ v, e = .returned v ∧ RI w.heap.size w' v (B.map g.idf) ∧ Below w.heap.size w w' := by
  have H := Lib.hid h
  obtain ⟨k0, k1, kf⟩ := h.cells
  have hlk := h.look2 l
  rw [if_pos hl] at hlk
  have HBL := Lib.hid (show ∀ b, b ∈ g.en l :: B → Bl g KE I b from fun b hb => h.inv.rbl hl (by
    rcases List.mem_cons.1 hb with e | hb
    · rw [e]; simp
    · exact List.mem_cons_of_mem _ (hm b hb)))
  have HNE := Lib.hid (show ∀ b, b ∈ B → b ≠ g.en l from fun b hb e => (List.nodup_cons.1 (h.inv.rnd hl)).1 (e ▸ hm b hb))
  have HF := Lib.hid hB
  have HN0 := Lib.hid hB.nth0
  have HS := Lib.hid (pwalk1_any h.nd (HBL.out (g.en l) (by simp)))
  rw [HN0.out] at HS
  have HLN := Lib.hid hlen
  clear h hl hB hm hlen HN0
  generalize g.en l = en at *
  go_enter Try.func26, Try.ntmps26
  go_wp2_with (go_at_call 27; (with_reducible refine HS.out.mono ?_); rintro e w1 ⟨rfl, rfl⟩)
  clear HS
  go_loopw [7, 9] (fun v x wr => ∃ (k : Nat) (L : List Int), k ≤ B.length ∧ x = pt (nth B en k) ∧ Hid (L = (B.take k).map g.idf) ∧ Hid (RI w.heap.size wr v L) ∧ Hid (Below w.heap.size w wr)) (fun v _ _ => B.length - sliceLen v)
  case atStart => exact ⟨0, [], Nat.zero_le _, rfl, rfl, RI.nil _ _, Below.refl _ _⟩
  case round =>
    obtain ⟨k, L, hk, rfl, HL, HR, HB⟩ := hrel
    clear k0 k1 kf hlk
    have hM := H.out.below HB.out
    by_cases hlt : k < B.length
    · have hmm := nth_mem (e := en) hlt
      have hbl := HBL.out _ (List.mem_cons_of_mem _ hmm)
      have hneq := ptr_neq (hM.nd _ hbl) (hM.nd en (HBL.out en (by simp)))
      rw [decide_eq_false (HNE.out _ hmm)] at hneq
      obtain ⟨q0, q1, q2, qf⟩ := hM.nd.cells hbl
      have HX := Lib.hid (HF.out.nths hlt)
      have HL2 : Hid (L ++ [g.idf (nth B en k)] = (B.take (k + 1)).map g.idf) := by simp only [Hid]; rw [nth_take hlt (e := en), List.map_append, HL.out]; rfl
      have HLl : Hid (L.length = k) := by simp only [Hid]; rw [HL.out, List.length_map, List.length_take]; omega
      have HND := Lib.hid hM.nd
      have HBX := Lib.hid hbl
      clear hM hmm hbl
      generalize hyi : g.idf (nth B en k) = yi at *
      clear hyi
      generalize hxx : nth B en k = xx at *
      clear hxx
      obtain ⟨A5, c5, hv5⟩ := own_slice HR.out.r
      subst hv5
      have hb3 := (Below.refl wr.heap.size wr).alloc (Nat.le_refl _) (.cells #[.int .i64 yi] 3)
      have HB3 := Lib.hid (HB.out.trans (hb3.mono HB.out.size))
      have HR3 := Lib.hid (HR.out.below hb3)
      have HC3 := Lib.hid (cell_one_new wr (.int .i64 yi) 3)
      clear hb3
      go_wp2_with (first | (go_at_call 27; (with_reducible refine HS4.out.mono ?_); rintro e w5 ⟨rfl, rfl⟩) | (refine wp_own 32 3 _ 1 8 Try.underlying32 infoI rfl (by decide) (by decide) rfl (.tmp 36) (.tmp 41) rfl _ _ (ics L) HR3.out.r rfl ⟨wr.heap.size, 0, none⟩ 1 1 [.int .i64 yi] rfl rfl HC3.out (fun u hu => by rw [List.mem_singleton] at hu; subst hu; rfl) (by have := HLl.out; have := HLN.out; omega) ?_; intro v4 w4 hr4 hg4 ho4; have HR4 := Lib.hid (HR3.out.app HB3.out.size hr4 ho4); have HB4 := Lib.hid (HB3.out.grown hg4 HB3.out.size HR.out.n); have HS4 := Lib.hid (pwalk1_any (H.out.below HB4.out).nd HBX.out); rw [HX.out] at HS4; clear hr4 hg4 ho4))
      obtain ⟨A6, c6, e6⟩ := own_slice HR4.out.r
      refine ⟨⟨k + 1, _, by omega, rfl, HL2.out, HR4.out, HB4.out⟩, ?_⟩
      rw [e6]
      have := HLl.out
      simp only [sliceLen, List.length_append, List.length_cons, List.length_nil]
      omega
    · obtain rfl : k = B.length := by omega
      have HE : Hid (L = B.map g.idf) := by simp only [Hid]; rw [HL.out, List.take_length]
      have hneq := ptr_neq (hM.nd en (HBL.out en (by simp))) (hM.nd en (HBL.out en (by simp)))
      simp only [decide_true, Bool.not_true] at hneq
      rw [nth_end]
      clear hM
      go_wp2
      go_ret
      exact ⟨_, rfl, by rw [← HE.out]; exact HR.out, HB.out⟩
theorem pback1_any {S : Nat → Prop} {W : World} {nx pv : Nat → Nat} {idf : Nat → Int} (h : ND S W nx pv idf) {b : Nat} (hb : S b) : Calls Try.prog 28 #[pt b] W fun e w' => e = .returned (pt (pv b)) ∧ W = w' := by
  obtain ⟨k0, k1, k2, kf⟩ := h.cells hb
  clear h
  go_enter Try.func28, Try.ntmps28
  go_wp2
  go_ret
  exact ⟨rfl, rfl⟩
theorem pfback_out (h : LM F w a m1 m2 g KM KE I) (l : Int) (hl : l ∉ KE) : Calls Try.prog 26 #[pt a, .int .i64 l, .func (.func 28) #[] #[]] w fun e w' => e = .returned (.slice none 0 0) ∧ w = w' := by
  obtain ⟨k0, k1, kf⟩ := h.cells
  have hlk := h.look2 l
  rw [if_neg hl] at hlk
  clear h hl
  go_enter Try.func26, Try.ntmps26
  go_wp2
  go_ret
  exact ⟨rfl, rfl⟩
set_option maxHeartbeats 1000000 in
theorem pfback_in (h : LM F w a m1 m2 g KM KE I) (l : Int) (hl : l ∈ KE) (B : List Nat) (hB : Fo g.pv (g.en l) B (g.en l)) (hm : ∀ b, b ∈ B → b ∈ rb g I l) (hlen : B.length ≤ 900000) :
    Calls Try.prog 26 #[pt a, .int .i64 l, .func (.func 28) #[] #[]] w fun e w' => ∃ v, e = .returned v ∧ RI w.heap.size w' v (B.map g.idf) ∧ Below w.heap.size w w' := by
  have H := Lib.hid h
  obtain ⟨k0, k1, kf⟩ := h.cells
  have hlk := h.look2 l
  rw [if_pos hl] at hlk
  have HBL := Lib.hid (show ∀ b, b ∈ g.en l :: B → Bl g KE I b from fun b hb => h.inv.rbl hl (by
    rcases List.mem_cons.1 hb with e | hb
    · rw [e]; simp
    · exact List.mem_cons_of_mem _ (hm b hb)))
  have HNE := Lib.hid (show ∀ b, b ∈ B → b ≠ g.en l from fun b hb e => (List.nodup_cons.1 (h.inv.rnd hl)).1 (e ▸ hm b hb))
  have HF := Lib.hid hB
  have HN0 := Lib.hid hB.nth0
  have HS := Lib.hid (pback1_any h.nd (HBL.out (g.en l) (by simp)))
  rw [HN0.out] at HS
  have HLN := Lib.hid hlen
  clear h hl hB hm hlen HN0
  generalize g.en l = en at *
  go_enter Try.func26, Try.ntmps26
  go_wp2_with (go_at_call 28; (with_reducible refine HS.out.mono ?_); rintro e w1 ⟨rfl, rfl⟩)
  clear HS
  go_loopw [7, 9] (fun v x wr => ∃ (k : Nat) (L : List Int), k ≤ B.length ∧ x = pt (nth B en k) ∧ Hid (L = (B.take k).map g.idf) ∧ Hid (RI w.heap.size wr v L) ∧ Hid (Below w.heap.size w wr)) (fun v _ _ => B.length - sliceLen v)
  case atStart => exact ⟨0, [], Nat.zero_le _, rfl, rfl, RI.nil _ _, Below.refl _ _⟩
  case round =>
    obtain ⟨k, L, hk, rfl, HL, HR, HB⟩ := hrel
    clear k0 k1 kf hlk
    have hM := H.out.below HB.out
    by_cases hlt : k < B.length
    · have hmm := nth_mem (e := en) hlt
      have hbl := HBL.out _ (List.mem_cons_of_mem _ hmm)
      have hneq := ptr_neq (hM.nd _ hbl) (hM.nd en (HBL.out en (by simp)))
      rw [decide_eq_false (HNE.out _ hmm)] at hneq
      obtain ⟨q0, q1, q2, qf⟩ := hM.nd.cells hbl
      have HX := Lib.hid (HF.out.nths hlt)
      have HL2 : Hid (L ++ [g.idf (nth B en k)] = (B.take (k + 1)).map g.idf) := by simp only [Hid]; rw [nth_take hlt (e := en), List.map_append, HL.out]; rfl
      have HLl : Hid (L.length = k) := by simp only [Hid]; rw [HL.out, List.length_map, List.length_take]; omega
      have HND := Lib.hid hM.nd
      have HBX := Lib.hid hbl
      clear hM hmm hbl
      generalize hyi : g.idf (nth B en k) = yi at *
      clear hyi
      generalize hxx : nth B en k = xx at *
      clear hxx
      obtain ⟨A5, c5, hv5⟩ := own_slice HR.out.r
      subst hv5
      have hb3 := (Below.refl wr.heap.size wr).alloc (Nat.le_refl _) (.cells #[.int .i64 yi] 3)
      have HB3 := Lib.hid (HB.out.trans (hb3.mono HB.out.size))
      have HR3 := Lib.hid (HR.out.below hb3)
      have HC3 := Lib.hid (cell_one_new wr (.int .i64 yi) 3)
      clear hb3
      go_wp2_with (first | (go_at_call 28; (with_reducible refine HS4.out.mono ?_); rintro e w5 ⟨rfl, rfl⟩) | (refine wp_own 32 3 _ 1 8 Try.underlying32 infoI rfl (by decide) (by decide) rfl (.tmp 36) (.tmp 41) rfl _ _ (ics L) HR3.out.r rfl ⟨wr.heap.size, 0, none⟩ 1 1 [.int .i64 yi] rfl rfl HC3.out (fun u hu => by rw [List.mem_singleton] at hu; subst hu; rfl) (by have := HLl.out; have := HLN.out; omega) ?_; intro v4 w4 hr4 hg4 ho4; have HR4 := Lib.hid (HR3.out.app HB3.out.size hr4 ho4); have HB4 := Lib.hid (HB3.out.grown hg4 HB3.out.size HR.out.n); have HS4 := Lib.hid (pback1_any (H.out.below HB4.out).nd HBX.out); rw [HX.out] at HS4; clear hr4 hg4 ho4))
      obtain ⟨A6, c6, e6⟩ := own_slice HR4.out.r
      refine ⟨⟨k + 1, _, by omega, rfl, HL2.out, HR4.out, HB4.out⟩, ?_⟩
      rw [e6]
      have := HLl.out
      simp only [sliceLen, List.length_append, List.length_cons, List.length_nil]
      omega
    · obtain rfl : k = B.length := by omega
      have HE : Hid (L = B.map g.idf) := by simp only [Hid]; rw [HL.out, List.take_length]
      have hneq := ptr_neq (hM.nd en (HBL.out en (by simp))) (hM.nd en (HBL.out en (by simp)))
      simp only [decide_true, Bool.not_true] at hneq
      rw [nth_end]
      clear hM
      go_wp2
      go_ret
      exact ⟨_, rfl, by rw [← HE.out]; exact HR.out, HB.out⟩
theorem fo_nil {w : World} {v : Value} {L : List Int} (h : RI w.heap.size w v L) : ∃ A c, v = .slice A L.length c ∧ NR w.heap.size w A L := h.nr
theorem pl_walk (h : PL F w a I) (l : Int) (hl : I.length ≤ 100000) : Calls Try.prog 16 #[pt a, .int .i64 l] w fun e w' => ∃ A c, e = .returned (.slice A (It.walk I l).length c) ∧ NR w.heap.size w' A (It.walk I l) ∧ Below w.heap.size w w' := by
  obtain ⟨m1, m2, g, KM, KE, h, hf⟩ := h
  have HC : Hid (Calls Try.prog 26 #[pt a, .int .i64 l, .func (.func 27) #[] #[]] w fun e w' => ∃ v, e = .returned v ∧ RI w.heap.size w' v (It.walk I l) ∧ Below w.heap.size w w') := by
    by_cases e : l ∈ KE
    · have hc := pfwalk_in h l e (rb g I l) (h.inv.ring l e) (fun b hb => hb) (by
        have := It.walk_len_le I l
        rw [← h.inv.walk l, List.length_map] at this
        omega)
      rw [h.inv.walk l] at hc
      exact Lib.hid hc
    · refine Lib.hid ((pfwalk_out h l e).mono ?_)
      rintro e w' ⟨rfl, rfl⟩
      rw [h.inv.out e]
      exact ⟨_, rfl, RI.nil _ _, Below.refl _ _⟩
  clear h hf
  go_enter Try.func16, Try.ntmps16
  go_wp2_with (go_at_call 26; (with_reducible refine HC.out.mono ?_); rintro e w1 ⟨v, rfl, hr, hb⟩; have HR := Lib.hid hr; have HB := Lib.hid hb; clear hr hb)
  go_ret
  obtain ⟨A, c, e, h1⟩ := HR.out.nr
  exact ⟨A, c, by rw [← e]; rfl, h1, HB.out⟩
theorem pl_back (h : PL F w a I) (l : Int) (hl : I.length ≤ 100000) : Calls Try.prog 17 #[pt a, .int .i64 l] w fun e w' => ∃ A c, e = .returned (.slice A (It.walk I l).length c) ∧ NR w.heap.size w' A (It.walk I l).reverse ∧ Below w.heap.size w w' := by
  obtain ⟨m1, m2, g, KM, KE, h, hf⟩ := h
  have HC : Hid (Calls Try.prog 26 #[pt a, .int .i64 l, .func (.func 28) #[] #[]] w fun e w' => ∃ v, e = .returned v ∧ RI w.heap.size w' v (It.walk I l).reverse ∧ Below w.heap.size w w') := by
    by_cases e : l ∈ KE
    · have hc := pfback_in h l e (rb g I l).reverse (h.inv.back e) (fun b hb => List.mem_reverse.1 hb) (by
        have := It.walk_len_le I l
        rw [← h.inv.walk l, List.length_map] at this
        rw [List.length_reverse]
        omega)
      rw [List.map_reverse, h.inv.walk l] at hc
      exact Lib.hid hc
    · refine Lib.hid ((pfback_out h l e).mono ?_)
      rintro e w' ⟨rfl, rfl⟩
      rw [h.inv.out e]
      exact ⟨_, rfl, RI.nil _ _, Below.refl _ _⟩
  clear h hf
  go_enter Try.func17, Try.ntmps17
  go_wp2_with (go_at_call 26; (with_reducible refine HC.out.mono ?_); rintro e w1 ⟨v, rfl, hr, hb⟩; have HR := Lib.hid hr; have HB := Lib.hid hb; clear hr hb)
  go_ret
  obtain ⟨A, c, e, h1⟩ := HR.out.nr
  rw [List.length_reverse] at e
  exact ⟨A, c, by rw [← e]; rfl, h1, HB.out⟩
theorem pl_walkN (w : World) (l : Int) : Calls Try.prog 16 #[.pointer none, .int .i64 l] w fun e w' => (∃ A c, e = .returned (.slice A 0 c)) ∧ Below w.heap.size w w' := by
  have HC := Lib.hid (pfollowN w l (.func (.func 27) #[] #[]))
  go_enter Try.func16, Try.ntmps16
  go_wp2_with (go_at_call 26; (with_reducible refine HC.out.mono ?_); rintro e w1 ⟨rfl, rfl⟩)
  go_ret
  exact ⟨⟨_, _, rfl⟩, Below.refl _ _⟩
theorem pl_backN (w : World) (l : Int) : Calls Try.prog 17 #[.pointer none, .int .i64 l] w fun e w' => (∃ A c, e = .returned (.slice A 0 c)) ∧ Below w.heap.size w w' := by
  have HC := Lib.hid (pfollowN w l (.func (.func 28) #[] #[]))
  go_enter Try.func17, Try.ntmps17
  go_wp2_with (go_at_call 26; (with_reducible refine HC.out.mono ?_); rintro e w1 ⟨rfl, rfl⟩)
  go_ret
  exact ⟨⟨_, _, rfl⟩, Below.refl _ _⟩
end
end Go.Proofs.Ytfmbogpbhchelaa
