/- What Write of the reference's Cell makes of it. Conditions: the Cell and its Clock lie in memory, fewer than 900,000 versions. -/
import Derived.Test.YtpjjpjdamieeeaaNc
import Derived.Deep.CutBlock
namespace Go.Proofs.Ytpjjpjdamieeeaa
set_option maxRecDepth 100000
set_option linter.unusedVariables false
open Go.ChangeShapes Go.WideShapes Go.ChangeAt Go.RowKit
theorem vc_one1 (x : Ver Int) : ∀ u ∈ vc x, u.oneCell' = true := by
  intro u hu
  simp only [vc, List.mem_cons, List.not_mem_nil, or_false] at hu
  rcases hu with rfl | rfl | rfl <;> rfl
theorem vnew_cells (W : World) (x : Ver Int) (t : TypeId) : ∀ j u, (vc x)[j]? = some u → (W.alloc (.cells #[.int .i64 x.w, .int .i64 x.v, .bool x.g] t)).cell? ((⟨W.heap.size, 0, none⟩ : Addr).add j) = some u := fun j u hj => by
  rw [Addr.add_lit, Nat.zero_add, cell_of_row _ _ j _ _ _ (heap_alloc_new W _)]
  rw [← Array.getElem?_toList]
  exact hj
section
variable {F R : Nat → Prop} {w W W3 w4 : World} {a b : Nat} {v0 v2 v4 : Value} {c : Ck} {l L0 : List (Ver Int)}
/-- The end of Write: the new row is laid into the Cell. -/
theorem vput_end {x : Ver Int} (h : VM F W a v0 L0) (hb : Below W.heap.size W W3) (hr : w4.ownsRow 0 77 3 v4 (L0.length + 1) (vcs L0 ++ vc x)) (hg : W3.grownBy w4 v2.ownBlock) (ho : v4.ownBlock = v2.ownBlock ∨ v4.ownBlock = some W3.heap.size) (hn : ∀ k, v2.ownBlock = some k → W.heap.size ≤ k) :
    (VM (Nu F W (w4.setCell ⟨a, 0, none⟩ v4)) (w4.setCell ⟨a, 0, none⟩ v4) a v4 (L0 ++ [x]) ∧ Chg F W (w4.setCell ⟨a, 0, none⟩ v4)) ∧ (w4.cell? ⟨a, 0, none⟩ = some v0 ∧ ∀ o, w4.frozen? ⟨a, o, none⟩ = false) := by
  have hlt := h.lt a h.fa
  have hs := hb.size
  have hba : w4.heap[a]? = W.heap[a]? := (hg.block a (by omega) (fun e => by have := hn a e.symm; omega)).trans (hb.block a hlt)
  have hc : Chg F W w4 := (Chg.below hb).grown hg (fun k hk => .inr (hn k hk))
  refine ⟨h.put hc hba (l' := L0 ++ [x]) (n := L0.length + 1) ?_ (by simp) (fun k hk => .inr ?_), h.cellsIn hba⟩
  · rw [vcs_app]
    have e : vcs [x] = vc x := by simp [vcs]
    rw [e]; exact hr
  · rcases ho with e | e
    · exact hn k (by rw [← e]; exact hk)
    · rw [e] at hk; injection hk with hk; omega
/-- As seen from the world in which Write began. -/
theorem write_done {E : Int} {W5 : World} (h : VC F w a l) (hc : Chg F w W) (hW : ∀ k, F k → k < W.heap.size) (hp : VM (Nu F W W5) W5 a v4 L0 ∧ Chg F W W5) : DoesV F w a (.int .i64 E) L0 (.returned (.int .i64 E)) W5 := by
  have s1 := hc.size
  have s2 := hp.2.size
  refine ⟨rfl, ⟨v4, hp.1.same (fun k hk => ?_) (fun k hk => ?_) (fun _ _ => rfl)⟩, hc.trans (hp.2.mono (fun k hk => .inl hk))⟩
  · rcases hk with hk | hk
    · exact .inl hk
    · exact .inr ⟨by omega, hk.2⟩
  · rcases hk with hk | hk
    · have := h.lt k hk; omega
    · exact hk.2
theorem vwrite_no (h : VC F w a l) (hr : RC R w b c) (t v : Int) (g : Bool) (hk : Ver.chk c t l ≠ 0) :
    Calls Try.prog 40 #[.pointer (some ⟨a, 0, none⟩), .pointer (some ⟨b, 0, none⟩), .int .i64 t, .int .i64 v, .bool g] w (DoesV F w a (.int .i64 6) l) := by
  have H := Lib.hid h
  have HS := vcheck_any h hr t
  rw [(Ver.chk_le c t l).resolve_left hk] at HS
  have HS := Lib.hid HS
  clear h hr hk
  go_enter Try.func40, Try.ntmps40
  go_wp2_with (go_at_call 39; (with_reducible refine HS.out.mono ?_); rintro e w1 ⟨rfl, hb1⟩)
  go_ret
  exact doesV_of (H.out.below hb1) (Chg.below hb1) H.out.lt
set_option maxHeartbeats 1000000 in
theorem vwrite_yes (h : VC F w a l) (hr : RC R w b c) (t v : Int) (g : Bool) (hk : Ver.chk c t l = 0) (hl : l.length ≤ 800000) :
    Calls Try.prog 40 #[.pointer (some ⟨a, 0, none⟩), .pointer (some ⟨b, 0, none⟩), .int .i64 t, .int .i64 v, .bool g] w (DoesV F w a (.int .i64 0) (Ver.put t v g l)) := by
  have H := Lib.hid h
  have HS := vcheck_any h hr t
  rw [hk] at HS
  have HS := Lib.hid HS
  obtain ⟨v1, hm⟩ := h
  have HMW := Lib.hid hm
  clear hr hk
  rcases List.eq_nil_or_concat l with rfl | ⟨r, y, rfl⟩
  · obtain ⟨A, cp, rfl⟩ := own_slice hm.r1
    clear hm
    have HPU : Hid (Ver.put t v g [] = [⟨t, v, g⟩]) := rfl
    rw [HPU.out]
    go_enter Try.func40, Try.ntmps40
    go_wp2_with fail
    (with_reducible refine HS.out.mono ?_)
    rintro e W ⟨rfl, hb1⟩
    have HB1 := Lib.hid hb1
    have HM0 := Lib.hid (HMW.out.below hb1)
    obtain ⟨k0, kf⟩ := HM0.out.cells
    have HLL : Hid ((0 : Nat) ≤ 800000) := Nat.zero_le _
    clear hb1
    have HB0 := Lib.hid ((Below.refl W.heap.size W).alloc (Nat.le_refl _) (.cells #[] 77))
    have HE : Hid ((W.alloc (.cells #[] 77)).ownsRow 0 77 3 (.slice (some ⟨W.heap.size, 0, none⟩) 0 0) 0 []) := World.ownsRow_made W #[] 0 (Nat.zero_le _) (by unfold maxLen; omega) rfl
    have HR : Hid ((W.alloc (.cells #[] 77)).ownsRow 0 77 3 (.slice A 0 cp) 0 (vcs ([] : List (Ver Int)))) := (HM0.out.below HB0.out).r1
    obtain ⟨m0, mf⟩ := (HM0.out.below HB0.out).cells
    go_wp2_with (first
        | (refine wp_own_row 66 77 _ 3 24 Try.underlying66 infoV rfl (by decide) (by decide) rfl (.tmp 48) (.tmp 52) rfl _ _ 0 0 [] (vcs ([] : List (Ver Int))) HE.out rfl HR.out rfl (vc_one _) (by have := HLL.out; omega) ?_; intro v2 w2 hr2 hg2 ho2; rw [Nat.zero_add, List.nil_append] at hr2; have HB2 := Lib.hid (HB0.out.grown hg2 HB0.out.size (fun k hk => by simp [Value.ownBlock] at hk; omega)); have hn2 : ∀ k, v2.ownBlock = some k → W.heap.size ≤ k := (fun k hk => by rcases ho2 with e | e <;> rw [e] at hk <;> simp [Value.ownBlock] at hk <;> omega); have hb3 := (Below.refl w2.heap.size w2).alloc (Nat.le_refl _) (.cells #[.int .i64 t, .int .i64 v, .bool g] 77); have HR3 := Lib.hid (own_same (w' := w2.alloc (.cells #[.int .i64 t, .int .i64 v, .bool g] 77)) hr2 (fun k hk => hb3.block k (World.ownsRow.lt hr2 k hk).2)); have HB3 := Lib.hid (HB2.out.trans (hb3.mono HB2.out.size)); have HN2 := Lib.hid hn2; have HC3 := Lib.hid (vnew_cells w2 ⟨t, v, g⟩ 77); clear hr2 hg2 ho2 hn2 hb3)
        | (refine wp_own 66 77 _ 3 24 Try.underlying66 infoV rfl (by decide) (by decide) rfl (.tmp 53) (.tmp 58) rfl _ _ (vcs ([] : List (Ver Int))) HR3.out rfl ⟨w2.heap.size, 0, none⟩ 1 1 (vc ⟨t, v, g⟩) rfl rfl HC3.out (vc_one1 _) (by have := HLL.out; omega) ?_; intro v4 w4 hr4 hg4 ho4; have HP := Lib.hid (vput_end HM0.out HB3.out hr4 hg4 ho4 HN2.out); obtain ⟨j0, jf⟩ := HP.out.2; obtain ⟨A4, c4, rfl⟩ := own_slice hr4; clear hr4 hg4 ho4))
    go_ret
    exact write_done H.out (Chg.below HB1.out) HM0.out.lt HP.out.1
  · rw [List.concat_eq_append] at *
    have hrow := fun W (hW : Below w.heap.size w W) => (hm.below hW).row (k := r.length) (by simp)
    simp only [List.length_append, List.length_cons, List.length_nil, Nat.zero_add, List.getElem_append_right (Nat.le_refl r.length), Nat.sub_self, List.getElem_cons_zero] at hrow hl
    have HROW := Lib.hid hrow
    have hlr : r.length ≤ 800000 := by omega
    have hi5 : IntKind.i64.wrap (r.length : Int) = (r.length : Int) := wrapI (by omega)
    have hr0 : (0 : Int) < (r.length : Int) + 1 := by omega
    clear hm hrow
    by_cases hy : y.w = t
    · have HPU : Hid (Ver.put t v g (r ++ [y]) = r ++ [⟨t, v, g⟩]) := by simp [Hid, Ver.put, hy]
      rw [HPU.out]
      go_enter Try.func40, Try.ntmps40
      go_wp2_with fail
      (with_reducible refine HS.out.mono ?_)
      rintro e w1 ⟨rfl, hb1⟩
      have HB1 := Lib.hid hb1
      obtain ⟨gg, cp, rfl, _, q0, q1, q2⟩ := HROW.out w1 hb1
      obtain ⟨k0, kf⟩ := (HMW.out.below hb1).cells
      rw [hy] at q0
      have hrow1 := (HMW.out.below HB1.out).r1
      simp only [List.length_append, List.length_cons, List.length_nil, Nat.zero_add] at hrow1
      have hrcp : r.length ≤ cp := by have := (own_open hrow1).choose_spec.2.1; omega
      have hrt := own_take hrow1 (i := r.length) (by omega)
      rw [vcs_take (r ++ [y]) r.length (by simp), List.take_left] at hrt
      have hpt := (HMW.out.below HB1.out).put (Chg.refl F w1) rfl hrt rfl (fun k hk => .inl (HMW.out.f1 k hk))
      have HM0 : Hid (VM F (w1.setCell ⟨a, 0, none⟩ (.slice (some ⟨gg, 0, none⟩) r.length cp)) a (.slice (some ⟨gg, 0, none⟩) r.length cp) r) := hpt.1.same (fun k hk => by
        rcases hk with hk | hk
        · exact hk
        · have hz : (w1.setCell ⟨a, 0, none⟩ (.slice (some ⟨gg, 0, none⟩) r.length cp)).heap.size = w1.heap.size := by simp [World.setCell]
          rw [hz] at hk; omega) (fun k hk => hpt.1.lt k (.inl hk)) (fun _ _ => rfl)
      have HC1 : Hid (Chg F w (w1.setCell ⟨a, 0, none⟩ (.slice (some ⟨gg, 0, none⟩) r.length cp))) := (Chg.below HB1.out).trans (hpt.2.mono (fun k hk => .inl hk))
      clear hb1 q1 q2 HROW hrow1 hrt hpt
      go_upto_region 6 with fail
      clear k0 kf q0
      generalize w1.setCell ⟨a, 0, none⟩ (.slice (some ⟨gg, 0, none⟩) r.length cp) = W at *
      have HLL : Hid (r.length ≤ 800000) := hlr
      have HB0 := Lib.hid ((Below.refl W.heap.size W).alloc (Nat.le_refl _) (.cells #[] 77))
      have HE : Hid ((W.alloc (.cells #[] 77)).ownsRow 0 77 3 (.slice (some ⟨W.heap.size, 0, none⟩) 0 0) 0 []) := World.ownsRow_made W #[] 0 (Nat.zero_le _) (by unfold maxLen; omega) rfl
      have HR := Lib.hid (HM0.out.below HB0.out).r1
      obtain ⟨m0, mf⟩ := (HM0.out.below HB0.out).cells
      go_wp2_with (first
        | (refine wp_own_row 66 77 _ 3 24 Try.underlying66 infoV rfl (by decide) (by decide) rfl (.tmp 48) (.tmp 52) rfl _ _ 0 r.length [] (vcs r) HE.out rfl HR.out rfl (vc_one _) (by have := HLL.out; omega) ?_; intro v2 w2 hr2 hg2 ho2; rw [Nat.zero_add, List.nil_append] at hr2; have HB2 := Lib.hid (HB0.out.grown hg2 HB0.out.size (fun k hk => by simp [Value.ownBlock] at hk; omega)); have hn2 : ∀ k, v2.ownBlock = some k → W.heap.size ≤ k := (fun k hk => by rcases ho2 with e | e <;> rw [e] at hk <;> simp [Value.ownBlock] at hk <;> omega); have hb3 := (Below.refl w2.heap.size w2).alloc (Nat.le_refl _) (.cells #[.int .i64 t, .int .i64 v, .bool g] 77); have HR3 := Lib.hid (own_same (w' := w2.alloc (.cells #[.int .i64 t, .int .i64 v, .bool g] 77)) hr2 (fun k hk => hb3.block k (World.ownsRow.lt hr2 k hk).2)); have HB3 := Lib.hid (HB2.out.trans (hb3.mono HB2.out.size)); have HN2 := Lib.hid hn2; have HC3 := Lib.hid (vnew_cells w2 ⟨t, v, g⟩ 77); clear hr2 hg2 ho2 hn2 hb3)
        | (refine wp_own 66 77 _ 3 24 Try.underlying66 infoV rfl (by decide) (by decide) rfl (.tmp 53) (.tmp 58) rfl _ _ (vcs r) HR3.out rfl ⟨w2.heap.size, 0, none⟩ 1 1 (vc ⟨t, v, g⟩) rfl rfl HC3.out (vc_one1 _) (by have := HLL.out; omega) ?_; intro v4 w4 hr4 hg4 ho4; have HP := Lib.hid (vput_end HM0.out HB3.out hr4 hg4 ho4 HN2.out); obtain ⟨j0, jf⟩ := HP.out.2; obtain ⟨A4, c4, rfl⟩ := own_slice hr4; clear hr4 hg4 ho4))
      go_ret
      exact write_done H.out HC1.out HM0.out.lt HP.out.1
    · have HPU : Hid (Ver.put t v g (r ++ [y]) = (r ++ [y]) ++ [⟨t, v, g⟩]) := by simp [Hid, Ver.put, hy]
      rw [HPU.out]
      have hq : (y.w == t) = false := by rw [beq_eq_false_iff_ne]; exact hy
      go_enter Try.func40, Try.ntmps40
      go_wp2_with fail
      (with_reducible refine HS.out.mono ?_)
      rintro e W ⟨rfl, hb1⟩
      have HB1 := Lib.hid hb1
      obtain ⟨gg, cp, rfl, _, q0, q1, q2⟩ := HROW.out W hb1
      obtain ⟨k0, kf⟩ := (HMW.out.below hb1).cells
      have HM0 := Lib.hid (HMW.out.below hb1)
      clear hb1 q1 q2 HROW
      go_upto_region 6 with fail
      clear q0 hq
      obtain ⟨L0, hL0⟩ : ∃ L0, L0 = r ++ [y] := ⟨_, rfl⟩
      rw [← hL0] at HM0
      have HL0 := Lib.hid hL0
      have HLL : Hid (L0.length ≤ 900000) := by simp only [Hid]; rw [hL0]; simp; omega
      have HLN : Hid (L0.length = r.length + 1) := by simp only [Hid]; rw [hL0]; simp
      clear hL0 k0 kf
      have HB0 := Lib.hid ((Below.refl W.heap.size W).alloc (Nat.le_refl _) (.cells #[] 77))
      have HE : Hid ((W.alloc (.cells #[] 77)).ownsRow 0 77 3 (.slice (some ⟨W.heap.size, 0, none⟩) 0 0) 0 []) := World.ownsRow_made W #[] 0 (Nat.zero_le _) (by unfold maxLen; omega) rfl
      have HR := Lib.hid (HM0.out.below HB0.out).r1
      obtain ⟨m0, mf⟩ := (HM0.out.below HB0.out).cells
      go_wp2_with (first
        | (refine wp_own_row 66 77 _ 3 24 Try.underlying66 infoV rfl (by decide) (by decide) rfl (.tmp 48) (.tmp 52) rfl _ _ 0 L0.length [] (vcs L0) HE.out rfl HR.out rfl (vc_one _) (by have := HLL.out; omega) ?_; intro v2 w2 hr2 hg2 ho2; rw [Nat.zero_add, List.nil_append] at hr2; have HB2 := Lib.hid (HB0.out.grown hg2 HB0.out.size (fun k hk => by simp [Value.ownBlock] at hk; omega)); have hn2 : ∀ k, v2.ownBlock = some k → W.heap.size ≤ k := (fun k hk => by rcases ho2 with e | e <;> rw [e] at hk <;> simp [Value.ownBlock] at hk <;> omega); have hb3 := (Below.refl w2.heap.size w2).alloc (Nat.le_refl _) (.cells #[.int .i64 t, .int .i64 v, .bool g] 77); have HR3 := Lib.hid (own_same (w' := w2.alloc (.cells #[.int .i64 t, .int .i64 v, .bool g] 77)) hr2 (fun k hk => hb3.block k (World.ownsRow.lt hr2 k hk).2)); have HB3 := Lib.hid (HB2.out.trans (hb3.mono HB2.out.size)); have HN2 := Lib.hid hn2; have HC3 := Lib.hid (vnew_cells w2 ⟨t, v, g⟩ 77); clear hr2 hg2 ho2 hn2 hb3)
        | (refine wp_own 66 77 _ 3 24 Try.underlying66 infoV rfl (by decide) (by decide) rfl (.tmp 53) (.tmp 58) rfl _ _ (vcs L0) HR3.out rfl ⟨w2.heap.size, 0, none⟩ 1 1 (vc ⟨t, v, g⟩) rfl rfl HC3.out (vc_one1 _) (by have := HLL.out; omega) ?_; intro v4 w4 hr4 hg4 ho4; have HP := Lib.hid (vput_end HM0.out HB3.out hr4 hg4 ho4 HN2.out); obtain ⟨j0, jf⟩ := HP.out.2; obtain ⟨A4, c4, rfl⟩ := own_slice hr4; clear hr4 hg4 ho4))
      go_ret
      have hp := HP.out.1
      rw [show L0 ++ [(⟨t, v, g⟩ : Ver Int)] = r ++ [y, ⟨t, v, g⟩] by rw [HL0.out]; simp] at hp
      exact write_done H.out (Chg.below HB1.out) HM0.out.lt hp
theorem vwrite_any (h : VC F w a l) (hr : RC R w b c) (t v : Int) (g : Bool) (hl : l.length ≤ 800000) :
    Calls Try.prog 40 #[.pointer (some ⟨a, 0, none⟩), .pointer (some ⟨b, 0, none⟩), .int .i64 t, .int .i64 v, .bool g] w (DoesV F w a (.int .i64 (Ver.chk c t l)) (Ver.wrS c t v g l)) := by
  unfold Ver.wrS
  by_cases hk : Ver.chk c t l = 0
  · rw [if_pos hk, hk]
    exact vwrite_yes h hr t v g hk hl
  · rw [if_neg hk, (Ver.chk_le c t l).resolve_left hk]
    exact vwrite_no h hr t v g hk
end
end Go.Proofs.Ytpjjpjdamieeeaa
