/- What writeEntry of package redo does: the sectors of an entry, written one by one. Conditions: the Drum lies in memory; the entry fits into the bank. -/
import Derived.Test.YtembonenaoineaaGv
namespace Go.Proofs.Ytembonenaoineaa
set_option maxRecDepth 100000
set_option linter.unusedVariables false
open Go.ChangeShapes Go.WideShapes Go.ChangeAt Go.RowKit Go.Shelf
open Lb (encI encIs encS In64 encI_len)
attribute [local go_sem] Oper.semAt_some

set_option maxHeartbeats 4000000 in
theorem writeEntry_any {F : Nat → Prop} {w : World} {a : Nat} {s : DS} (h : PD F w a s) (hd : Hd) (E : Option Addr) (e : List UInt8) (ce : Nat) (hE : BS w E e ce) (hk : hd.k ≤ 1) (h4 : 4 ≤ s.now.length) (he : 1 ≤ e.length) (hx : hd.z + e.length ≤ bk s.now * 64) (hp : s.pend.length ≤ 800) :
    Calls Try.prog 74 #[.pointer (some ⟨a, 0, none⟩), hV hd, .slice E e.length ce] w
      (Does F w a (.int .i64 (e1 s (fst s.now hd.k + hd.z / 64) ((s.now.getD (fst s.now hd.k + hd.z / 64) []).take (hd.z % 64) ++ e))) (st1 s (fst s.now hd.k + hd.z / 64) ((s.now.getD (fst s.now hd.k + hd.z / 64) []).take (hd.z % 64) ++ e))) := by
  have hbk := bk_few h.ok.few
  obtain ⟨n, k, z⟩ := hd
  simp only at hk hx ⊢
  unfold hV hdV
  simp only
  have hfk : fst s.now k ≤ 200 := by have := fst_bd h4 hk; have := h.ok.few; omega
  have HF0 := Lib.hid (fun W (hW : PD F W a s) => firstSector_any hW k hk)
  refine (callsIn_wide (n := 3)).1 ?_
  refine callsIn_of_wp_marks Try.func74 rfl trivial ?_ rfl
  simp only [Try.ntmps74, List.size_toArray, List.length_cons, List.length_nil, Nat.reduceAdd, Nat.reduceSub, Array.replicate_succ, Array.replicate_zero, List.push_toArray, List.append_toArray, List.nil_append, List.cons_append]
  refine wpIn_wide.2 (wp_qn ?_)
  obtain ⟨post, hpost⟩ : ∃ post, bodyPostM Fence.wide 3 Try.prog Try.f74 (Does F w a (.int .i64 (e1 s (fst s.now k + z / 64) ((s.now.getD (fst s.now k + z / 64) []).take (z % 64) ++ e))) (st1 s (fst s.now k + z / 64) ((s.now.getD (fst s.now k + z / 64) []).take (z % 64) ++ e))) = post := ⟨_, rfl⟩
  rw [hpost]
  have HPOST := Lib.hid hpost
  clear hpost
  go_upto_region 1 with fail
  obtain ⟨W0, hW0⟩ : ∃ W0, (((w.alloc (.cells #[.pointer (some ⟨a, 0, none⟩)] 24)).alloc (.cells #[.int .i64 (n : Nat), .int .i64 (k : Nat), .int .i64 (z : Nat)] 70)).alloc (.cells #[.int .i64 0] 30)) = W0 := ⟨_, rfl⟩
  have hz0 : W0.heap.size = w.heap.size + 1 + 1 + 1 := by rw [← hW0]; simp
  have hb0 : Below w.heap.size w W0 := by
    rw [← hW0]; exact (((Below.refl w.heap.size w).alloc (Nat.le_refl _) _).alloc (by simp) _).alloc (by simp; omega) _
  have HP0 := Lib.hid (h.below hb0)
  have x0 : W0.cell? ⟨w.heap.size, 0, none⟩ = some (.pointer (some ⟨a, 0, none⟩)) := by rw [← hW0]; simp [go_sem]
  have x1 : W0.cell? ⟨w.heap.size + 1, 1, none⟩ = some (.int .i64 (k : Nat)) := by rw [← hW0]; simp [go_sem]
  have x2 : W0.cell? ⟨w.heap.size + 1, 2, none⟩ = some (.int .i64 (z : Nat)) := by rw [← hW0]; simp [go_sem]
  have x3 : W0.cell? ⟨w.heap.size + 1 + 1, 0, none⟩ = some (.int .i64 0) := by rw [← hW0]; simp [go_sem]
  have x4 : ∀ o, W0.frozen? ⟨w.heap.size + 1 + 1, o, none⟩ = false := by rw [← hW0]; intro o; simp [go_sem]
  rw [hW0]
  have hlt0 : w.heap.size + 1 + 1 < W0.heap.size := by omega
  have HZ0 := Lib.hid hz0
  have HW0 := Lib.hid hW0
  have HB0 := Lib.hid hb0
  have HH := Lib.hid h
  have HE := Lib.hid hE
  have HPa := Lib.hid HP0.out.drew
  have HPb := Lib.hid (HP0.out.below ((Below.refl _ _).alloc (Nat.le_refl _) (.cells #[.int .i64 0] 3))).drew
  have hw1 : IntKind.i64.wrap ((z : Int) / 64) = (z : Int) / 64 := IntWalk.i64_in _ (by omega)
  have hw2 : IntKind.i64.wrap ((fst s.now k : Int) + (z : Int) / 64) = (fst s.now k : Int) + (z : Int) / 64 := IntWalk.i64_in _ (by omega)
  clear hz0 hW0 hb0 h hE
  have hS0 : W0.drew.cell? ⟨w.heap.size, 0, none⟩ = some (.pointer (some ⟨a, 0, none⟩)) ∧ W0.drew.cell? ⟨w.heap.size + 1, 1, none⟩ = some (.int .i64 (k : Nat)) ∧ W0.drew.cell? ⟨w.heap.size + 1, 2, none⟩ = some (.int .i64 (z : Nat)) := ⟨x0, x1, x2⟩
  go_cut [7] from 11 to 18 (fun v wx => v = .pointer (some ⟨W0.heap.size, 0, none⟩) ∧ (W0.alloc (.cells #[.int .i64 ((fst s.now k : Int) + (z : Int) / 64)] 3)).drew = wx)
  case first =>
    go_region_held3 (fun W => W.cell? ⟨w.heap.size, 0, none⟩ = some (.pointer (some ⟨a, 0, none⟩)) ∧ W.cell? ⟨w.heap.size + 1, 1, none⟩ = some (.int .i64 (k : Nat)) ∧ W.cell? ⟨w.heap.size + 1, 2, none⟩ = some (.int .i64 (z : Nat)))
      (first | exact hS0 | exact ⟨cell_al _ x0, cell_al _ x1, cell_al _ x2⟩)
      (first | (go_at_call 56; (first | (with_reducible refine (HF0.out _ HPa.out).mono ?_) | (with_reducible refine (HF0.out _ HPb.out).mono ?_)); rintro e w' ⟨rfl, rfl⟩))
    all_goals
      go_wp2_with fail
      go_meet
      exact ⟨rfl, rfl⟩
  case rest =>
    obtain ⟨rfl, rfl⟩ := hcut
    have hin := fst_bd h4 hk
    obtain ⟨i, hi⟩ : ∃ i, fst s.now k + z / 64 = i := ⟨_, rfl⟩
    obtain ⟨r, hr⟩ : ∃ r, z % 64 = r := ⟨_, rfl⟩
    have hil : i < s.now.length := by omega
    have hr64 : r < 64 := by omega
    have HII := Lib.hid hi
    have HRR := Lib.hid hr
    have HIZ : Hid ((fst s.now k : Int) + (z : Int) / 64 = (i : Nat)) := by simp only [Hid]; omega
    obtain ⟨W1, hW1⟩ : ∃ W1, (W0.alloc (.cells #[.int .i64 ((fst s.now k : Int) + (z : Int) / 64)] 3)).drew = W1 := ⟨_, rfl⟩
    have y0 : W1.cell? ⟨w.heap.size, 0, none⟩ = some (.pointer (some ⟨a, 0, none⟩)) := by rw [← hW1]; exact cell_al _ x0
    have y2 : W1.cell? ⟨w.heap.size + 1, 2, none⟩ = some (.int .i64 (z : Nat)) := by rw [← hW1]; exact cell_al _ x2
    have y3 : W1.cell? ⟨w.heap.size + 1 + 1, 0, none⟩ = some (.int .i64 0) := by rw [← hW1]; exact cell_al _ x3
    have y5 : W1.cell? ⟨W0.heap.size, 0, none⟩ = some (.int .i64 (i : Nat)) := by rw [← hW1, ← HIZ.out]; simp [go_sem]
    have hz1 : W1.heap.size = w.heap.size + 1 + 1 + 1 + 1 := by rw [← hW1]; simp [HZ0.out]
    have HB1 : Hid (Below w.heap.size w W1) := by simp only [Hid]; rw [← hW1]; exact (HB0.out.alloc HB0.out.size _).drew
    have HT1 : Hid (W1.heap[w.heap.size]? = some (.cells #[.pointer (some ⟨a, 0, none⟩)] 24 (0, 0)) ∧ W1.heap[w.heap.size + 1 + 1]? = some (.cells #[.int .i64 0] 30 (0, 0)) ∧ W1.heap[w.heap.size + 1 + 1 + 1]? = some (.cells #[.int .i64 (i : Nat)] 3 (0, 0))) := by
      simp only [Hid]
      rw [← hW1, HIZ.out, ← HW0.out]
      refine ⟨heap_al _ (heap_al _ (heap_al _ (heap_alloc_new w _))), heap_al _ ?_, ?_⟩
      · have := heap_alloc_new ((w.alloc (.cells #[.pointer (some ⟨a, 0, none⟩)] 24)).alloc (.cells #[.int .i64 (n : Nat), .int .i64 (k : Nat), .int .i64 (z : Nat)] 70)) (.cells #[.int .i64 0] 30)
        simp only [World.size_alloc] at this
        exact this
      · have := heap_alloc_new (((w.alloc (.cells #[.pointer (some ⟨a, 0, none⟩)] 24)).alloc (.cells #[.int .i64 (n : Nat), .int .i64 (k : Nat), .int .i64 (z : Nat)] 70)).alloc (.cells #[.int .i64 0] 30)) (.cells #[.int .i64 (i : Nat)] 3)
        simp only [World.size_alloc] at this
        exact this
    rw [hW1]
    clear hW1 hw1 hw2 hS0 HPa HPb HF0 HP0 HIZ x0 x1 x2 x3 x4 hi hr HW0
    have HP1 := Lib.hid (HH.out.below HB1.out)
    have HE1 := Lib.hid (HE.out.below HB1.out)
    have HRD := Lib.hid (read_any HP1.out.drew (i : Nat))
    rw [rd_at] at HRD
    have HSL := Lib.hid (sec_len HP1.out.ok hil)
    obtain ⟨sec, hsec⟩ : ∃ sec, s.now.getD i [] = sec := ⟨_, rfl⟩
    rw [hsec] at HRD HSL
    have HSE := Lib.hid hsec
    clear hsec
    have he2 : e.length ≤ 6400 := by omega
    have ht1 : (z : Int).tmod 64 = (r : Nat) := by
      rw [← HRR.out, Int.tmod_eq_emod_of_nonneg (by omega)]
      omega
    go_upto_region 2 with fail
    go_cut [8] from 19 to 27 (fun v wx => Hid (Own W1.heap.size wx v (sec.take r ++ e) ∧ Below W1.heap.size W1 wx))
    case first =>
      go_region_law ((first
        | (refine st_of rfl (app_wp (.tmp 25) (.tmp 26) rfl W1.heap.size _ (sec.take r) HOT.out rfl E e _ ce rfl rfl HE2.out (by simp; omega) (by omega) ?_); intro v3 w3 ho3 hb3; have HO3 := Lib.hid ho3; have HB3 := Lib.hid (HB2.out.trans hb3); clear ho3 hb3)
        | (go_simp; go_at_call 49; refine HRD.out.mono ?_; rintro er w2 ⟨v2, rfl, ho2, hb2⟩; obtain ⟨g, c2, hv2, hg1, hg2, _⟩ := own_at ho2 (by rw [HSL.out]; decide); rw [HSL.out] at hv2; subst hv2; replace hb2 : Below W1.heap.size W1 w2 := (Below.refl W1.heap.size W1).drew.trans hb2; have HB2 := Lib.hid hb2; have q2 := (hb2.cell (p := ⟨w.heap.size + 1, 2, none⟩) (World.block_lt_of_cell? W1 _ y2)).trans y2; have hz2 := hb2.size; have HE2 := Lib.hid (HE1.out.below hb2); have hcap := (own_bs ho2).cap; rw [HSL.out] at hcap; have HOT := Lib.hid (ho2.take (k := r) HSL.out.symm (by omega)); have sl := slice_to (some ⟨g, 0, none⟩) 64 c2 r (by omega); clear ho2 hb2)))
      all_goals
        go_wp2_with fail
        go_meet
        exact ⟨HO3.out, HB3.out⟩
    case rest =>
      obtain ⟨ho, hb⟩ := hcut.out
      obtain ⟨x, hx0⟩ : ∃ x, sec.take r ++ e = x := ⟨_, rfl⟩
      have HX := Lib.hid hx0
      rw [hx0] at ho
      have HXL : Hid (x.length = r + e.length) := by simp only [Hid]; rw [← hx0, List.length_append, List.length_take, HSL.out]; omega
      have hxp : 0 < x.length := by rw [HXL.out]; omega
      have hx1 : x.length ≤ 10000 := by rw [HXL.out]; omega
      obtain ⟨g, cg, rfl, hg1, hg2, _⟩ := own_at ho hxp
      have HO := Lib.hid ho
      have HB2 := Lib.hid hb
      have hcg := (own_bs ho).cap
      have hz2 := hb.size
      have hW0 : W0.heap.size = w.heap.size + 1 + 1 + 1 := HZ0.out
      rw [hW0]
      clear ho hb hcut hx0 hW0
      go_wp2_with (go_at_call 82; refine (chunk_any _ _ _ _).mono ?_; rintro er w' ⟨rfl, rfl⟩)
      obtain ⟨W2, hW2⟩ : ∃ W2, (wc.alloc (.cells #[.slice (some ⟨g, 0, none⟩) x.length cg] 36)).alloc (.cells #[.int .i64 64] 3) = W2 := ⟨_, rfl⟩
      have HZ2 : Hid (W2.heap.size = wc.heap.size + 1 + 1) := by simp only [Hid]; rw [← hW2]; simp
      have hbs : W2.heap[wc.heap.size]? = some (.cells #[.slice (some ⟨g, 0, none⟩) x.length cg] 36 (0, 0)) := by rw [← hW2]; exact heap_al _ (heap_alloc_new wc _)
      have hbn : W2.heap[wc.heap.size + 1]? = some (.cells #[.int .i64 64] 3 (0, 0)) := by
        rw [← hW2]
        have := heap_alloc_new (wc.alloc (.cells #[.slice (some ⟨g, 0, none⟩) x.length cg] 36)) (.cells #[.int .i64 64] 3)
        simp only [World.size_alloc] at this
        exact this
      have hb12 : Below W1.heap.size W1 W2 := by rw [← hW2]; exact (HB2.out.alloc hz2 _).alloc (by simp; omega) _
      have hbw2 : Below w.heap.size w W2 := HB1.out.trans (hb12.mono (by omega))
      have HO2 : Hid (Own W1.heap.size W2 (.slice (some ⟨g, 0, none⟩) x.length cg) x) := by
        simp only [Hid]
        rw [← hW2]
        exact HO.out.below (((Below.refl _ _).alloc (Nat.le_refl _) _).alloc (by simp) _)
      have HP2 := Lib.hid (HH.out.below hbw2)
      have H0 := Lib.hid HH.out.lt
      have hblk := HT1.out
      have k1 := (hb12.block w.heap.size (by omega)).trans hblk.1
      have k2 := (hb12.block (w.heap.size + 1 + 1) (by omega)).trans hblk.2.1
      have k3 := (hb12.block (w.heap.size + 1 + 1 + 1) (by omega)).trans hblk.2.2
      have hW2s := HZ2.out
      have HWI0 : Hid (WI F w W2 a (w.heap.size + 1 + 1 + 1) (w.heap.size + 1 + 1) (.int .i64 ((i + 0 : Nat) : Int)) (.int .i64 0) s W2) := by
        simp only [Hid]
        obtain ⟨T, t1, t2, t3⟩ := HP2.out.tight
        exact ⟨⟨T, t2, fun k hk => .inl (t1 k hk), t3⟩, Chg.below hbw2, Nat.le_refl _, fun _ _ _ _ _ => rfl, k3, k2⟩
      have HK1 := Lib.hid k1
      rw [hW2]
      clear hW2 hb12 hbw2 hblk k1 k2 k3 HT1 HB2 HO HB1 HP1 HE1 HRD y0 y2 y3 y5
      have hsz2 : w.heap.size + 1 + 1 + 1 + 1 ≤ wc.heap.size := by omega
      refine (wpIn_wide (n := 3)).1 (wpIn_rangeFunc_ownG rfl (by omega) (gf := 83) (lb := #[.pointer (some ⟨wc.heap.size, 0, none⟩), .pointer (some ⟨wc.heap.size + 1, 0, none⟩)]) rfl trivial (enters_of Try.func83 (by kernel_rfl) rfl)
        (chunk_stops 2 (by omega) wc.heap.size (wc.heap.size + 1) g x.length cg (by omega) hcg (by omega) W2 hbs hbn) (fun h k => KeepB.trans h k) ?keeps (Below.refl _ _) (fun _ => rfl)
        (fun pre W => (wF s i x (pre.map (·.1))).2.1 = 0 ∧ WI F w W2 a (w.heap.size + 1 + 1 + 1) (w.heap.size + 1 + 1) (.int .i64 ((i + pre.length : Nat) : Int)) (.int .i64 0) (wF s i x (pre.map (·.1))).2.2 W)
        (fun c pre W => c = Code.ret ∧ (wF s i x (pre.map (·.1))).2.1 ≠ 0 ∧ ∃ vI, WI F w W2 a (w.heap.size + 1 + 1 + 1) (w.heap.size + 1 + 1) vI (.int .i64 (wF s i x (pre.map (·.1))).2.1) (wF s i x (pre.map (·.1))).2.2 W)
        (fun pre W W' row hs hg hr => ⟨hs.1, hs.2.own (by omega) (by omega) (by omega) hg hr⟩)
        (fun c pre W W' row hs hg hr => ⟨hs.1, hs.2.1, by obtain ⟨vI, h⟩ := hs.2.2; exact ⟨vI, h.own (by omega) (by omega) (by omega) hg hr⟩⟩)
        ⟨rfl, HWI0.out⟩
        (fun c => { tmps := #[.pointer (some ⟨a, 0, none⟩), .agg #[.int .i64 (n : Nat), .int .i64 (k : Nat), .int .i64 (z : Nat)], .slice E e.length ce, .pointer (some ⟨w.heap.size, 0, none⟩), .pointer (some ⟨w.heap.size + 1, 0, none⟩), undef, .pointer (some ⟨w.heap.size + 1 + 1, 0, none⟩), .pointer (some ⟨w.heap.size + 1 + 1 + 1, 0, none⟩), .slice (some ⟨g, 0, none⟩) x.length cg, chV g x.length c.1, undef, u11, u12, u13, u14, u15, u16, u17, u18, u19, u20, u21, u22, u23, u24, u25, u26, u27, .slice (some ⟨g, 0, none⟩) x.length cg, .func (.func 83) #[] #[.pointer (some ⟨wc.heap.size, 0, none⟩), .pointer (some ⟨wc.heap.size + 1, 0, none⟩)], chV g x.length c.1, undef, undef, undef, undef, undef, undef, undef, undef, undef], defers := [] }) ?assign ?body ?done ?stop)
      case keeps =>
        intro W l o o' hl ho hc hw
        exact ⟨World.putObj_heap_other (by omega), World.putObj_heap_other (by omega)⟩
      case assign =>
        intro l c W K hK
        gi_wp2
        exact hK
      case body =>
        rintro l pre c W ⟨hw0, hWI⟩ hlt
        obtain ⟨T, t1, t2, t3⟩ := hWI.pd
        have hT := Lib.hid t2
        have hTc := Lib.hid t3
        have HWI := Lib.hid hWI
        have sm := hWI.same
        have hbd := (sm w.heap.size (Nat.le_refl _) (by omega) (by omega) (by omega)).trans HK1.out
        have c0 : W.cell? ⟨w.heap.size, 0, none⟩ = some (.pointer (some ⟨a, 0, none⟩)) := by rw [cell_of_row W _ 0 _ _ _ hbd]; rfl
        have cI : W.cell? ⟨w.heap.size + 1 + 1 + 1, 0, none⟩ = some (.int .i64 ((i + pre.length : Nat) : Int)) := by rw [cell_of_row W _ 0 _ _ _ hWI.cI]; rfl
        have HOW : Hid (Own W1.heap.size W (.slice (some ⟨g, 0, none⟩) x.length cg) x) := by
          simp only [Hid]
          exact own_sameB HO2.out (fun q hq => by simp [Value.ownBlock] at hq; subst hq; exact sm g (by omega) (by omega) (by omega) (by omega))
        obtain ⟨hbsc, hlc⟩ := ch_bs HOW.out c.1
        have hcnt : cnt x.length ≤ 157 := by unfold cnt; omega
        have hlt' : pre.length < 157 := by omega
        have hpn := wF_pend s i x (pre.map (·.1))
        rw [List.length_map] at hpn
        have HW := Lib.hid (write_any t1 ((i + pre.length : Nat) : Int) (some ⟨g, 64 * c.1, none⟩) (ch x c.1) _ hbsc (fun ad e => .inr (fun hf => by
          injection e with e
          subst e
          rcases hT.out _ hf with h | h
          · have := H0.out _ h; simp only at this; omega
          · simp only at h; omega)) (by omega))
        rw [hlc] at HW
        have HSN : Hid (wF s i x ((pre ++ [c]).map (·.1)) = (pre.length + 1, wrE (wF s i x (pre.map (·.1))).2.2 ((i + pre.length : Nat) : Int) (ch x c.1), wrS (wF s i x (pre.map (·.1))).2.2 ((i + pre.length : Nat) : Int) (ch x c.1))) := by
          simp only [Hid]
          rw [List.map_append, List.map_cons, List.map_nil, wF_snoc, if_pos hw0, wF_len, List.length_map]
        have hil2 : i + pre.length ≤ 1000 := by have := HP2.out.ok.few; omega
        have hch : chV g x.length c.1 = .slice (some ⟨g, 64 * c.1, none⟩) (min 64 (x.length - 64 * c.1)) (min 64 (x.length - 64 * c.1)) := rfl
        rw [hch]
        generalize wF s i x (pre.map (·.1)) = st at *
        generalize min 64 (x.length - 64 * c.1) = mc at *
        have HONE : Hid ((pre ++ [c]).length = pre.length + 1) := by simp only [Hid]; simp
        generalize (pre ++ [c]) = pre' at *
        clear t1 t2 t3 hWI sm hbd hbsc hlc hch hpn hlt hlt' HOW HO2 HWI0 hcnt
        have HNT : Hid (∀ q, w.heap.size ≤ q → q < W2.heap.size → ¬ T q) := fun q h1 h2 hf => by
          rcases hT.out _ hf with h | h
          · have := H0.out _ h; omega
          · omega
        generalize wrE st.2.2 ((i + pre.length : Nat) : Int) (ch x c.1) = er at *
        generalize wrS st.2.2 ((i + pre.length : Nat) : Int) (ch x c.1) = st' at *
        by_cases he0 : er = 0
        · subst he0
          gi_wp2_with (refine ⟨trivial, ?_⟩; gi_at_call 21; refine (CallsIn.inRound l (callsIn_wide.2 HW.out)).mono ?_; rintro er' W3 ⟨rfl, hp3, hc3⟩; have HP3 := Lib.hid hp3; have HC3 := Lib.hid hc3; have b3I := (hc3.block _ (block_lt HWI.out.cI) (HNT.out _ (by omega) (by omega))).trans HWI.out.cI; have b3R := (hc3.block _ (block_lt HWI.out.cR) (HNT.out _ (by omega) (by omega))).trans HWI.out.cR; have c3 : W3.cell? ⟨w.heap.size + 1 + 1 + 1, 0, none⟩ = some (.int .i64 ((i + pre.length : Nat) : Int)) := (cell_of_row W3 _ 0 _ _ _ b3I).trans rfl; have f3 := fun o => frozen_of_row W3 (w.heap.size + 1 + 1 + 1) o _ _ b3I; have d3 : W3.cell? ⟨w.heap.size + 1 + 1, 0, none⟩ = some (.int .i64 0) := (cell_of_row W3 _ 0 _ _ _ b3R).trans rfl; have g3 := fun o => frozen_of_row W3 (w.heap.size + 1 + 1) o _ _ b3R; clear hp3 hc3 b3I b3R)
          obtain ⟨s1, s2, s3⟩ := HWI.out.step H0.out (by omega) hT.out hTc.out HP3.out HC3.out (b := w.heap.size + 1 + 1 + 1) (u := .int .i64 ((i : Int) + (pre.length : Int) + 1)) (.inl ⟨rfl, by omega⟩) (by omega) (by omega) ⟨by omega, by omega⟩ ⟨by omega, by omega⟩
          rw [if_pos rfl, if_pos rfl] at s1
          refine ⟨s2, ⟨s3 _ (by omega) (by omega) (by omega), s3 _ (by omega) (by omega) (by omega)⟩, ?_⟩
          show (wF s i x (pre'.map (·.1))).2.1 = 0 ∧ WI _ _ _ _ _ _ _ _ (wF s i x (pre'.map (·.1))).2.2 _
          rw [HSN.out]
          refine ⟨rfl, ?_⟩
          rw [HONE.out, show ((i + (pre.length + 1) : Nat) : Int) = (i : Int) + (pre.length : Int) + 1 by omega]
          exact s1
        · have hb0 : (er != 0) = true := by simpa using he0
          gi_wp2_with (refine ⟨trivial, ?_⟩; gi_at_call 21; refine (CallsIn.inRound l (callsIn_wide.2 HW.out)).mono ?_; rintro er' W3 ⟨rfl, hp3, hc3⟩; have HP3 := Lib.hid hp3; have HC3 := Lib.hid hc3; have b3I := (hc3.block _ (block_lt HWI.out.cI) (HNT.out _ (by omega) (by omega))).trans HWI.out.cI; have b3R := (hc3.block _ (block_lt HWI.out.cR) (HNT.out _ (by omega) (by omega))).trans HWI.out.cR; have c3 : W3.cell? ⟨w.heap.size + 1 + 1 + 1, 0, none⟩ = some (.int .i64 ((i + pre.length : Nat) : Int)) := (cell_of_row W3 _ 0 _ _ _ b3I).trans rfl; have f3 := fun o => frozen_of_row W3 (w.heap.size + 1 + 1 + 1) o _ _ b3I; have d3 : W3.cell? ⟨w.heap.size + 1 + 1, 0, none⟩ = some (.int .i64 0) := (cell_of_row W3 _ 0 _ _ _ b3R).trans rfl; have g3 := fun o => frozen_of_row W3 (w.heap.size + 1 + 1) o _ _ b3R; clear hp3 hc3 b3I b3R)
          obtain ⟨s1, s2, s3⟩ := HWI.out.step H0.out (by omega) hT.out hTc.out HP3.out HC3.out (b := w.heap.size + 1 + 1) (u := .int .i64 er) (.inr ⟨rfl, by omega⟩) (by omega) (by omega) ⟨by omega, by omega⟩ ⟨by omega, by omega⟩
          rw [if_neg (by omega), if_neg (by omega)] at s1
          refine ⟨s2, ?_⟩
          show Code.ret = Code.ret ∧ (wF s i x (pre'.map (·.1))).2.1 ≠ 0 ∧ ∃ vI, WI _ _ _ _ _ _ _ (.int .i64 (wF s i x (pre'.map (·.1))).2.1) (wF s i x (pre'.map (·.1))).2.2 _
          rw [HSN.out]
          exact ⟨rfl, he0, _, s1⟩
      case done =>
        rintro D xs W hD rfl ⟨hw, hWI⟩ hK
        rw [ups_val _ (Nat.le_refl _), wF_range] at hw hWI
        have HWI := Lib.hid hWI
        have HE1 : Hid (e1 s i x = 0) := hw
        have d3 : W.cell? ⟨w.heap.size + 1 + 1, 0, none⟩ = some (.int .i64 0) := (cell_of_row W _ 0 _ _ _ hWI.cR).trans rfl
        have g3 := fun o => frozen_of_row W (w.heap.size + 1 + 1) o _ _ hWI.cR
        clear hw hWI
        go_wp2
        show post _ _ _
        rw [← HPOST.out]
        rw [HII.out, HSE.out, HRR.out, HX.out]
        have hK' : (W.setCell ⟨w.heap.size + 1 + 1, 0, none⟩ (.int .i64 0)).heap[D]? = some (.deferred (some [])) := (Below.heap_setCell W ⟨w.heap.size + 1 + 1, 0, none⟩ _ D (fun e => by simp only at e; omega)).trans hK
        have hS := HWI.out.setR H0.out (by omega) (by omega) ⟨by omega, by omega⟩ ⟨by omega, by omega⟩ (.int .i64 0)
        have hF := hS.own (by omega) (by omega) (by omega) (grownBy_putObj' _ D (.deferred none)) (fun r e => by cases e; exact ⟨hD, _, hK', rfl⟩)
        refine ⟨by simp, .inl ⟨_, _, rfl, run_takeDeferred hK', ?_⟩⟩
        have hc5 : ((W.setCell ⟨w.heap.size + 1 + 1, 0, none⟩ (.int .i64 0)).putObj D (.deferred none)).cell? ⟨w.heap.size + 1 + 1, 0, none⟩ = some (.int .i64 0) := (cell_of_row _ _ 0 _ _ _ hF.cR).trans rfl
        refine ⟨.int .i64 0, by simp [results, Try.f74, go_sem, hc5], ?_⟩
        rw [HE1.out]
        exact hF.does H0.out (by omega) _
      case stop =>
        rintro D c pre W hD ⟨q, hq, rfl⟩ ⟨rfl, hne, vI, hWI⟩ hK
        rw [ups_val _ (by omega), wF_range] at hne hWI
        have HWI := Lib.hid hWI
        clear hWI
        refine wpIn_wide.2 ?_
        go_wp2
        show post _ _ _
        rw [← HPOST.out]
        rw [HII.out, HSE.out, HRR.out, HX.out]
        have hst := wrs_stop hne (cnt x.length - (q + 1))
        rw [show q + 1 + (cnt x.length - (q + 1)) = cnt x.length by omega, cnt_nch] at hst
        have hF := HWI.out.own (by omega) (by omega) (by omega) (grownBy_putObj' _ D (.deferred none)) (fun r e => by cases e; exact ⟨hD, _, hK, rfl⟩)
        refine ⟨by simp, .inl ⟨_, _, rfl, run_takeDeferred hK, ?_⟩⟩
        have hc5 : (W.putObj D (.deferred none)).cell? ⟨w.heap.size + 1 + 1, 0, none⟩ = some (.int .i64 (wrs s i x (q + 1)).1) := (cell_of_row _ _ 0 _ _ _ hF.cR).trans rfl
        refine ⟨.int .i64 (wrs s i x (q + 1)).1, by simp [results, Try.f74, go_sem, hc5], ?_⟩
        unfold e1 st1
        rw [hst]
        exact hF.does H0.out (by omega) _
end Go.Proofs.Ytembonenaoineaa
