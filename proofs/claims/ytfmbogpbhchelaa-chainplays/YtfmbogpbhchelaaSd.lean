/- What Walk of the reference's Lists and turned of chapter 8's laws return; Cut. Conditions: the Lists lie in memory, fewer than 900,000 items. -/
import Derived.Test.YtfmbogpbhchelaaSc
namespace Go.Proofs.Ytfmbogpbhchelaa
set_option maxRecDepth 100000
set_option linter.unusedVariables false
open Go.ChangeShapes Go.WideShapes Go.ChangeAt Go.RowKit
/-- v is a row of ints of our own that reads L, in a block that is B or newer. -/
structure RI (B : Nat) (W : World) (v : Value) (L : List Int) : Prop where
  r : W.ownsRow 0 3 1 v L.length (ics L)
  n : ∀ k, v.ownBlock = some k → B ≤ k
section
variable {B : Nat} {W W' : World} {v v' : Value} {L : List Int} {x : Int}
theorem RI.nil (B : Nat) (W : World) : RI B W (.slice none 0 0) [] := ⟨World.ownsRow_nil _ _ _ _, fun k hk => by simp [Value.ownBlock] at hk⟩
theorem RI.below (h : RI B W v L) (hb : Below W.heap.size W W') : RI B W' v L := ⟨own_same h.r (fun k hk => hb.block k (World.ownsRow.lt h.r k hk).2), h.n⟩
theorem RI.app (h : RI B W v L) {W1 : World} (hB : B ≤ W1.heap.size) (hr : W'.ownsRow 0 3 1 v' (L.length + 1) (ics L ++ [.int .i64 x])) (ho : v'.ownBlock = v.ownBlock ∨ v'.ownBlock = some W1.heap.size) : RI B W' v' (L ++ [x]) := by
  refine ⟨by rw [List.length_append, ics_snoc]; exact hr, fun k hk => ?_⟩
  rcases ho with e | e
  · exact h.n k (by rw [← e]; exact hk)
  · rw [e] at hk; injection hk with hk; omega
theorem RI.row (h : RI B W v L) : ∃ A c, v = .slice A L.length c ∧ Row (.int .i64) W A L := by
  obtain ⟨A, c, rfl⟩ := own_slice h.r
  exact ⟨A, c, rfl, row_own h.r⟩
end
theorem walk_take (I : List It) (t : Int) (k : Nat) (hk : k < I.length) : It.walk (I.take (k + 1)) t = if I[k].l = t then It.walk (I.take k) t ++ [I[k].i] else It.walk (I.take k) t := by
  unfold It.walk
  rw [List.take_add_one, List.getElem?_eq_getElem hk, Option.toList_some, List.filter_append, List.map_append]
  by_cases e : I[k].l = t
  · rw [if_pos e]; simp [e]
  · rw [if_neg e]; simp [e]
section
variable {F : Nat → Prop} {w w' : World} {a : Nat} {I : List It}
theorem rwalk_any (h : IC F w a I) (t : Int) (hl : I.length ≤ 900000) :
    Calls Try.prog 14 #[.pointer (some ⟨a, 0, none⟩), .int .i64 t] w fun e w' => ∃ v, e = .returned v ∧ RI w.heap.size w' v (It.walk I t) ∧ Below w.heap.size w w' := by
  obtain ⟨v1, h⟩ := h
  have HM := Lib.hid h
  have k00 := h.cells.1
  obtain ⟨A, cp, rfl⟩ := own_slice h.r1
  clear h
  go_enter Try.func14, Try.ntmps14
  go_wp2
  go_loopw [5, 6] (fun v i wr => ∃ (k : Nat) (L : List Int), k ≤ I.length ∧ i = .int .i64 (k : Nat) ∧ Hid (L = It.walk (I.take k) t) ∧ Hid (RI w.heap.size wr v L) ∧ Hid (Below w.heap.size w wr)) (fun _ i _ => I.length - (intOf i).toNat)
  case atStart => exact ⟨0, [], Nat.zero_le _, rfl, rfl, RI.nil _ _, Below.refl _ _⟩
  case round =>
    obtain ⟨k, L, hk, rfl, HL, HR, HB⟩ := hrel
    clear k00
    have hm := HM.out.below HB.out
    obtain ⟨k0, kf⟩ := hm.cells
    by_cases hlt : k < I.length
    · obtain ⟨g, cp', hgg, _, q0, q1⟩ := hm.row hlt
      injection hgg with hgg _ hcp
      subst hgg
      subst hcp
      have hi5 : IntKind.i64.wrap (k : Int) = (k : Int) := wrapI (by omega)
      have HTK := Lib.hid (walk_take I t k hlt)
      have HLl : Hid (L.length ≤ 900000) := by
        simp only [Hid]; rw [HL.out]
        have := It.walk_len_le (I.take k) t
        rw [List.length_take] at this; omega
      obtain ⟨y, hy⟩ : ∃ y, y = I[k] := ⟨_, rfl⟩
      rw [← hy] at q0 q1 HTK
      clear hy hm
      obtain ⟨yl, yi⟩ := y
      simp only at q0 q1 HTK
      obtain ⟨A5, c5, hv5⟩ := own_slice HR.out.r
      subst hv5
      by_cases h1 : yl = t
      · subst h1
        have HL2 : Hid (L ++ [yi] = It.walk (I.take (k + 1)) yl) := by simp only [Hid]; rw [HTK.out, if_pos rfl, HL.out]
        have hb3 := (Below.refl wr.heap.size wr).alloc (Nat.le_refl _) (.cells #[.int .i64 yi] 3)
        have HB3 := Lib.hid (HB.out.trans (hb3.mono HB.out.size))
        have HR3 := Lib.hid (HR.out.below hb3)
        have HC3 := Lib.hid (cell_one_new wr (.int .i64 yi) 3)
        clear hb3
        go_wp2_with (refine wp_own 32 3 _ 1 8 Try.underlying32 infoI rfl (by decide) (by decide) rfl (.tmp 26) (.tmp 35) rfl _ _ (ics L) HR3.out.r rfl ⟨wr.heap.size, 0, none⟩ 1 1 [.int .i64 yi] rfl rfl HC3.out (fun u hu => by rw [List.mem_singleton] at hu; subst hu; rfl) (by have := HLl.out; omega) ?_; intro v4 w4 hr4 hg4 ho4; have HR4 := Lib.hid (HR3.out.app HB3.out.size hr4 ho4); have HB4 := Lib.hid (HB3.out.grown hg4 HB3.out.size HR.out.n); clear hr4 hg4 ho4)
        exact ⟨⟨k + 1, _, by omega, by go_num, HL2.out, HR4.out, HB4.out⟩, by simp [intOf]; omega⟩
      · have hq1 : (yl == t) = false := by rw [beq_eq_false_iff_ne]; exact h1
        have HL2 : Hid (L = It.walk (I.take (k + 1)) t) := by simp only [Hid]; rw [HTK.out, if_neg h1, HL.out]
        clear h1
        go_wp2
        exact ⟨⟨k + 1, _, by omega, by go_num, HL2.out, HR.out, HB.out⟩, by simp [intOf]; omega⟩
    · obtain rfl : k = I.length := by omega
      have HE : Hid (L = It.walk I t) := by simp only [Hid]; rw [HL.out, List.take_length]
      go_wp2
      go_ret
      exact ⟨_, rfl, by rw [← HE.out]; exact HR.out, HB.out⟩
theorem turned_any (A : Option Addr) (L : List Int) (cp : Nat) (w : World) (h : Row (.int .i64) w A L) (hl : L.length ≤ 900000) :
    Calls Try.prog 18 #[.slice A L.length cp] w fun e w' => ∃ v, e = .returned v ∧ RI w.heap.size w' v L.reverse ∧ Below w.heap.size w w' := by
  have H := Lib.hid h
  clear h
  go_enter Try.func18, Try.ntmps18
  go_wp2
  go_loopw [3, 4] (fun v i wr => ∃ (k : Nat) (M : List Int), k ≤ L.length ∧ i = .int .i64 ((k : Int) - 1) ∧ Hid (M = (L.drop k).reverse) ∧ Hid (RI w.heap.size wr v M) ∧ Hid (Below w.heap.size w wr)) (fun _ i _ => ((intOf i) + 1).toNat)
  case atStart => exact ⟨L.length, [], Nat.le_refl _, by go_num, by simp [Hid], RI.nil _ _, Below.refl _ _⟩
  case round =>
    obtain ⟨k, M, hk, rfl, HM, HR, HB⟩ := hrel
    by_cases hz : k = 0
    · subst hz
      have HE : Hid (M = L.reverse) := by simp only [Hid]; rw [HM.out, List.drop_zero]
      go_wp2
      go_ret
      exact ⟨_, rfl, by rw [← HE.out]; exact HR.out, HB.out⟩
    · obtain ⟨m, rfl⟩ : ∃ m, k = m + 1 := ⟨k - 1, by omega⟩
      have hm : m < L.length := by omega
      obtain ⟨ad, hA, c1⟩ := (H.out.below HB.out) m hm
      subst hA
      have hi5 : IntKind.i64.wrap (m : Int) = (m : Int) := wrapI (by omega)
      have hmm : ((m + 1 : Nat) : Int) - 1 = (m : Int) := by omega
      rw [hmm]
      have hm0 : (0 : Int) ≤ (m : Int) := by omega
      have HM2 : Hid (M ++ [L[m]] = (L.drop m).reverse) := by
        simp only [Hid]
        rw [HM.out, ← List.getElem_cons_drop (h := hm), List.reverse_cons]
      have HMl : Hid (M.length ≤ 900000) := by simp only [Hid]; rw [HM.out, List.length_reverse, List.length_drop]; omega
      obtain ⟨A5, c5, hv5⟩ := own_slice HR.out.r
      subst hv5
      generalize L[m] = x at *
      have hb3 := (Below.refl wr.heap.size wr).alloc (Nat.le_refl _) (.cells #[.int .i64 x] 3)
      have HB3 := Lib.hid (HB.out.trans (hb3.mono HB.out.size))
      have HR3 := Lib.hid (HR.out.below hb3)
      have HC3 := Lib.hid (cell_one_new wr (.int .i64 x) 3)
      clear hb3 hmm
      go_wp2_with (refine wp_own 32 3 _ 1 8 Try.underlying32 infoI rfl (by decide) (by decide) rfl (.tmp 12) (.tmp 17) rfl _ _ (ics M) HR3.out.r rfl ⟨wr.heap.size, 0, none⟩ 1 1 [.int .i64 x] rfl rfl HC3.out (fun u hu => by rw [List.mem_singleton] at hu; subst hu; rfl) (by have := HMl.out; omega) ?_; intro v4 w4 hr4 hg4 ho4; have HR4 := Lib.hid (HR3.out.app HB3.out.size hr4 ho4); have HB4 := Lib.hid (HB3.out.grown hg4 HB3.out.size HR.out.n); clear hr4 hg4 ho4)
      exact ⟨⟨m, _, by omega, by go_num, HM2.out, HR4.out, HB4.out⟩, by simp [intOf]⟩
end
end Go.Proofs.Ytfmbogpbhchelaa
