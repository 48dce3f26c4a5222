/- What save, put, Append and Reset of package redo do: contracts. Conditions: the Drum and the Log lie in memory; lengths below 10,000. -/
import Derived.Test.YtembonenaoineaaGw
namespace Go.Proofs.Ytembonenaoineaa
set_option maxRecDepth 100000
set_option linter.unusedVariables false
open Go.ChangeShapes Go.WideShapes Go.ChangeAt Go.RowKit
open Lb (encI encIs encS In64 encI_len encSs)

/-- Where an entry behind the log of a header begins, and what is written from that sector on. -/
def pI (s : DS) (at' : Hd) : Nat := fst s.now at'.k + at'.z / 64
def pX (s : DS) (at' : Hd) (e : List UInt8) : List UInt8 := (s.now.getD (pI s at') []).take (at'.z % 64) ++ e
def nx (at' : Hd) (e : List UInt8) : Hd := ⟨at'.n + 1, at'.k, at'.z + e.length⟩
theorem Does.of_below {F : Nat → Prop} {w w0 w1 : World} {a : Nat} {v : Value} {s : DS} {e : Ending} (hb : Below w.heap.size w w0) (h : Does F w0 a v s e w1) (h0 : ∀ k, F k → k < w.heap.size) : Does F w a v s e w1 := by
  obtain ⟨h1, h2, h3⟩ := h
  have hs := hb.size
  refine ⟨h1, h2.same (fun k hk => ?_) (fun k hk => ?_) (fun _ _ => rfl), (Chg.below (F := F) hb).trans (h3.mono fun _ h => .inl h)⟩
  · rcases hk with hk | hk
    · exact .inl hk
    · exact .inr ⟨by omega, hk.2⟩
  · rcases hk with hk | hk
    · exact Nat.lt_of_lt_of_le (h0 k hk) (Nat.le_trans hs h3.size)
    · exact hk.2
theorem Does.mono {F G : Nat → Prop} {w w1 : World} {a : Nat} {v : Value} {s : DS} {e : Ending} (h : Does F w a v s e w1) (hG : ∀ k, F k → G k) (h0 : ∀ k, G k → k < w.heap.size) : Does G w a v s e w1 := by
  obtain ⟨h1, h2, h3⟩ := h
  refine ⟨h1, h2.same (fun k hk => by rcases hk with hk | hk; exact .inl (hG k hk); exact .inr hk) (fun k hk => ?_) (fun _ _ => rfl), h3.mono hG⟩
  rcases hk with hk | hk
  · exact Nat.lt_of_lt_of_le (h0 k hk) h3.size
  · exact hk.2
theorem wrs_pend (s : DS) (i : Nat) (x : List UInt8) (n : Nat) : (wrs s i x n).2.pend.length ≤ s.pend.length + n := by
  have := wF_pend s i x (List.range n)
  rwa [wF_range, List.length_range] at this
section
variable {s : DS} {i : Nat} {x : List UInt8} {h : Hd}
theorem save_1 (h1 : e1 s i x ≠ 0) : saveE s i x h = e1 s i x ∧ saveS s i x h = st1 s i x := by unfold saveE saveS; rw [if_pos h1, if_pos h1]; exact ⟨rfl, rfl⟩
theorem save_2 (h1 : e1 s i x = 0) (h2 : e2 s i x ≠ 0) : saveE s i x h = e2 s i x ∧ saveS s i x h = st2 s i x := by
  have n1 : ¬ (e1 s i x ≠ 0) := by simpa using h1
  unfold saveE saveS; rw [if_neg n1, if_neg n1, if_pos h2, if_pos h2]; exact ⟨rfl, rfl⟩
theorem save_3 (h1 : e1 s i x = 0) (h2 : e2 s i x = 0) (h3 : e3 s i x h ≠ 0) : saveE s i x h = e3 s i x h ∧ saveS s i x h = st3 s i x h := by
  have n1 : ¬ (e1 s i x ≠ 0) := by simpa using h1
  have n2 : ¬ (e2 s i x ≠ 0) := by simpa using h2
  unfold saveE saveS; rw [if_neg n1, if_neg n1, if_neg n2, if_neg n2, if_pos h3, if_pos h3]; exact ⟨rfl, rfl⟩
theorem save_4 (h1 : e1 s i x = 0) (h2 : e2 s i x = 0) (h3 : e3 s i x h = 0) : saveE s i x h = e4 s i x h ∧ saveS s i x h = st4 s i x h := by
  have n1 : ¬ (e1 s i x ≠ 0) := by simpa using h1
  have n2 : ¬ (e2 s i x ≠ 0) := by simpa using h2
  have n3 : ¬ (e3 s i x h ≠ 0) := by simpa using h3
  unfold saveE saveS; rw [if_neg n1, if_neg n1, if_neg n2, if_neg n2, if_neg n3, if_neg n3]; exact ⟨rfl, rfl⟩
end
theorem sy_err (s : DS) : syE s = 0 ∨ syE s = 9 := by rcases sy_cases s with h | h; exact .inl h.1; exact .inr h.1
set_option maxHeartbeats 4000000 in
theorem save_any {F : Nat → Prop} {w : World} {a : Nat} {s : DS} (h : PD F w a s) (hd : Hd) (E : Option Addr) (e : List UInt8) (ce : Nat) (hE : BS w E e ce) (hk : hd.k ≤ 1) (h4 : 4 ≤ s.now.length) (he : 1 ≤ e.length) (hx : hd.z + e.length ≤ bk s.now * 64) (hp : s.pend.length ≤ 800)
    (nh : Hd) (hn1 : nh.n ≤ 1099511627776) (hn2 : nh.k ≤ 1) (hn3 : nh.z ≤ 100000) :
    Calls Try.prog 62 #[.pointer (some ⟨a, 0, none⟩), hV hd, .slice E e.length ce, hV nh] w (Does F w a (.int .i64 (saveE s (pI s hd) (pX s hd e) nh)) (saveS s (pI s hd) (pX s hd e) nh)) := by
  have H0 := Lib.hid h.lt
  have hfew := h.ok.few
  obtain ⟨n1, k1, z1⟩ := hd
  obtain ⟨n2, k2, z2⟩ := nh
  simp only at hk hx hn1 hn2 hn3
  have HV1 : Hid (hV ⟨n1, k1, z1⟩ = .agg #[.int .i64 (n1 : Nat), .int .i64 (k1 : Nat), .int .i64 (z1 : Nat)]) := rfl
  have HV2 : Hid (hV ⟨n2, k2, z2⟩ = .agg #[.int .i64 (n2 : Nat), .int .i64 (k2 : Nat), .int .i64 (z2 : Nat)]) := rfl
  obtain ⟨W0, hW0⟩ : ∃ W0, (w.alloc (.cells #[.int .i64 (n1 : Nat), .int .i64 (k1 : Nat), .int .i64 (z1 : Nat)] 70)).alloc (.cells #[.int .i64 (n2 : Nat), .int .i64 (k2 : Nat), .int .i64 (z2 : Nat)] 70) = W0 := ⟨_, rfl⟩
  have hz0 : W0.heap.size = w.heap.size + 1 + 1 := by rw [← hW0]; simp
  have hb0 : Below w.heap.size w W0 := by rw [← hW0]; exact ((Below.refl w.heap.size w).alloc (Nat.le_refl _) _).alloc (by simp) _
  have y0 : W0.heap[w.heap.size]? = some (.cells #[.int .i64 (n1 : Nat), .int .i64 (k1 : Nat), .int .i64 (z1 : Nat)] 70 (0, 0)) := by rw [← hW0]; exact heap_al _ (heap_alloc_new w _)
  have y1 : W0.heap[w.heap.size + 1]? = some (.cells #[.int .i64 (n2 : Nat), .int .i64 (k2 : Nat), .int .i64 (z2 : Nat)] 70 (0, 0)) := by
    rw [← hW0]
    have := heap_alloc_new (w.alloc (.cells #[.int .i64 (n1 : Nat), .int .i64 (k1 : Nat), .int .i64 (z1 : Nat)] 70)) (.cells #[.int .i64 (n2 : Nat), .int .i64 (k2 : Nat), .int .i64 (z2 : Nat)] 70)
    simp only [World.size_alloc] at this
    exact this
  have c0 : W0.cell? ⟨w.heap.size, 0, none⟩ = some (.int .i64 (n1 : Nat)) := (cell_of_row _ _ 0 _ _ _ y0).trans rfl
  have c1 : W0.cell? ⟨w.heap.size, 1, none⟩ = some (.int .i64 (k1 : Nat)) := (cell_of_row _ _ 1 _ _ _ y0).trans rfl
  have c2 : W0.cell? ⟨w.heap.size, 2, none⟩ = some (.int .i64 (z1 : Nat)) := (cell_of_row _ _ 2 _ _ _ y0).trans rfl
  have Y1 := Lib.hid y1
  have HB0 := Lib.hid hb0
  have HWE := Lib.hid (writeEntry_any (h.below hb0) ⟨n1, k1, z1⟩ E e ce (hE.below hb0) hk h4 he hx hp)
  rw [HV1.out] at HWE
  have HI : Hid (fst s.now k1 + z1 / 64 = pI s ⟨n1, k1, z1⟩) := rfl
  have HX : Hid ((s.now.getD (fst s.now k1 + z1 / 64) []).take (z1 % 64) ++ e = pX s ⟨n1, k1, z1⟩ e) := rfl
  simp only at HWE
  rw [HX.out, HI.out] at HWE
  have hnl : (st1 s (pI s ⟨n1, k1, z1⟩) (pX s ⟨n1, k1, z1⟩ e)).pend.length ≤ 950 := by
    have h1 := wrs_pend s (pI s ⟨n1, k1, z1⟩) (pX s ⟨n1, k1, z1⟩ e) (nch (pX s ⟨n1, k1, z1⟩ e))
    have h2 : (pX s ⟨n1, k1, z1⟩ e).length ≤ 64 + e.length := by unfold pX; rw [List.length_append, List.length_take]; omega
    have h3 := bk_few hfew
    have h4 : nch (pX s ⟨n1, k1, z1⟩ e) ≤ 102 := by unfold nch; omega
    unfold st1; omega
  generalize pI s ⟨n1, k1, z1⟩ = i at *
  generalize pX s ⟨n1, k1, z1⟩ e = x at *
  rw [HV1.out, HV2.out]
  clear HI HX h hE hb0 y0 y1 HV1
  go_enter Try.func62, Try.ntmps62
  go_wp2_with fail
  refine HWE.out.mono ?_
  rintro er w1 ⟨rfl, hp1, hc1⟩
  have hs1 := hc1.size
  have HD1 : Hid (Does F W0 a (.int .i64 (e1 s i x)) (st1 s i x) (.returned (.int .i64 (e1 s i x))) w1) := ⟨rfl, hp1, hc1⟩
  have HLT : Hid (∀ q, F q → q < W0.heap.size) := fun q hq => by have := H0.out q hq; omega
  have HC0 := Lib.hid hz0
  clear hp1 hc1 hW0 hz0 c0 c1 c2 HWE
  by_cases g1 : e1 s i x = 0
  · have HE1 := Lib.hid g1
    rw [g1]
    clear g1
    have HSY := Lib.hid (sync_any HD1.out.2.1)
    change Hid (Calls _ _ _ _ (Does _ _ _ (.int .i64 (e2 s i x)) (st2 s i x))) at HSY
    go_wp2_with fail
    refine HSY.out.mono ?_
    rintro er w2 hd2
    have hd2' := Does.next HD1.out.2.2 hd2 HLT.out
    obtain ⟨rfl, _, _⟩ := hd2
    have HD2 := Lib.hid hd2'
    have hs2 := hd2'.2.2.size
    clear hd2' HSY HD1
    by_cases g2 : e2 s i x = 0
    · have HE2 := Lib.hid g2
      rw [g2]
      clear g2
      have HNX : Hid (∀ W, Chg F W0 W → W.heap[w.heap.size + 1]? = some (.cells #[.int .i64 (n2 : Nat), .int .i64 (k2 : Nat), .int .i64 (z2 : Nat)] 70 (0, 0))) := fun W hW => (hW.block _ (by have := HC0.out; omega) (fun hf => by have := H0.out _ hf; omega)).trans Y1.out
      have HCS : Hid (∀ W, Chg F W0 W → W.cell? ⟨w.heap.size + 1, 0, none⟩ = some (.int .i64 (n2 : Nat)) ∧ W.cell? ⟨w.heap.size + 1, 1, none⟩ = some (.int .i64 (k2 : Nat)) ∧ W.cell? ⟨w.heap.size + 1, 2, none⟩ = some (.int .i64 (z2 : Nat))) := fun W hW => by
        have := HNX.out W hW
        refine ⟨?_, ?_, ?_⟩ <;> (rw [cell_of_row W _ _ _ _ _ this]; rfl)
      obtain ⟨r2, hr2⟩ : ∃ r2, n2 % 2 = r2 := ⟨_, rfl⟩
      have ht : (n2 : Int).tmod 2 = (r2 : Nat) := by rw [← hr2, Int.tmod_eq_emod_of_nonneg (by omega)]; omega
      have HHS : Hid (hSec ⟨n2, k2, z2⟩ = r2) := hr2
      have HSC := Lib.hid (fun W => sector_any (w := W) (n2 : Nat) (k2 : Nat) (z2 : Nat) ⟨by omega, by omega⟩ ⟨by omega, by omega⟩ ⟨by omega, by omega⟩)
      have HHB : Hid (pad (hdE (n2 : Nat) (k2 : Nat) (z2 : Nat)) = pad (hB ⟨n2, k2, z2⟩)) := rfl
      have HBL : Hid ((hB ⟨n2, k2, z2⟩).length ≤ 30) := hB_len (by simp only; omega) hn2 (by simp only; omega)
      have HPL : Hid ((pad (hB ⟨n2, k2, z2⟩)).length = 64) := pad_len (by have := HBL.out; omega)
      have HPN : Hid ((st2 s i x).pend.length ≤ 1000) := by have := syS_pend (st1 s i x); simp only [Hid]; unfold st2; omega
      have HE3 : Hid (wrE (st2 s i x) (r2 : Nat) (pad (hB ⟨n2, k2, z2⟩)) = e3 s i x ⟨n2, k2, z2⟩ ∧ wrS (st2 s i x) (r2 : Nat) (pad (hB ⟨n2, k2, z2⟩)) = st3 s i x ⟨n2, k2, z2⟩) := by
        have := wr_pad (st2 s i x) (r2 : Nat) (p := hB ⟨n2, k2, z2⟩) (by have := HBL.out; omega)
        simp only [Hid]
        rw [this.1, this.2]
        unfold e3 st3
        rw [HHS.out]
        exact ⟨rfl, rfl⟩
      have hS0 : w2.drew.cell? ⟨w.heap.size + 1, 0, none⟩ = some (.int .i64 (n2 : Nat)) ∧ w2.drew.cell? ⟨w.heap.size + 1, 1, none⟩ = some (.int .i64 (k2 : Nat)) ∧ w2.drew.cell? ⟨w.heap.size + 1, 2, none⟩ = some (.int .i64 (z2 : Nat)) := HCS.out w2 HD2.out.2.2
      obtain ⟨m0, m1, m2⟩ := HCS.out w2 HD2.out.2.2
      clear hr2 hnl
      go_wp2_with fail
      go_region_held3 (fun W => W.cell? ⟨w.heap.size + 1, 0, none⟩ = some (.int .i64 (n2 : Nat)) ∧ W.cell? ⟨w.heap.size + 1, 1, none⟩ = some (.int .i64 (k2 : Nat)) ∧ W.cell? ⟨w.heap.size + 1, 2, none⟩ = some (.int .i64 (z2 : Nat)))
        (first | exact hS0 | exact hS3 | exact hS4)
        (first
          | (go_at_call 68; refine (HSC.out _).mono ?_; rintro er w3 ⟨v3, rfl, ho3, hb3⟩; rw [HHB.out] at ho3; replace hb3 : Below w2.heap.size w2 w3 := (Below.refl w2.heap.size w2).drew.trans hb3; obtain ⟨A3, c3, hv3, hbs3, hA3⟩ := ho3.open; rw [HPL.out] at hv3; subst hv3; have HP3 := Lib.hid (HD2.out.2.1.below hb3); have hc3 : Chg F W0 w3 := HD2.out.2.2.trans (Chg.below hb3); have hS3 := HCS.out w3 hc3; have HC3 := Lib.hid hc3; have hz3 := hb3.size; have HWR := Lib.hid (write_any HP3.out (r2 : Nat) A3 (pad (hB ⟨n2, k2, z2⟩)) c3 hbs3 (fun ad e => .inr (fun hf => by have := (hA3 ad e).2.1; have h2 := HD2.out.2.1.lt _ hf; change w2.heap.size ≤ _ at this; omega)) HPN.out); rw [HPL.out, HE3.out.1, HE3.out.2] at HWR; clear ho3 hbs3 hA3 hc3 hb3)
          | (go_at_call 21; refine HWR.out.mono ?_; rintro er w4 hd4; have hd4' := Does.next HC3.out (hd4.mono (G := Nu F W0 w3) (fun q hq => by rcases hq with hq | hq; exact .inl hq; exact .inr ⟨hq.1, by omega⟩) (fun q hq => by rcases hq with hq | hq; (have := H0.out q hq; have := HC0.out; omega); exact hq.2)) HLT.out; obtain ⟨rfl, _, _⟩ := hd4; have HD4 := Lib.hid hd4'; have hS4 := HCS.out w4 hd4'.2.2; clear hd4'))
      clear hS0 hS3 hS4 m0 m1 m2 ht HWR HP3 HC3
      by_cases g3 : e3 s i x ⟨n2, k2, z2⟩ = 0
      · have HE3 := Lib.hid g3
        have HS := Lib.hid (save_4 HE1.out HE2.out g3)
        rw [g3]
        clear g3
        have HSY := Lib.hid (sync_any HD4.out.2.1)
        change Hid (Calls _ _ _ _ (Does _ _ _ (.int .i64 (e4 s i x ⟨n2, k2, z2⟩)) (st4 s i x ⟨n2, k2, z2⟩))) at HSY
        go_wp2_with fail
        refine HSY.out.mono ?_
        rintro er w5 hd5
        have hd5' := Does.next HD4.out.2.2 hd5 HLT.out
        obtain ⟨rfl, _, _⟩ := hd5
        have HD5 := Lib.hid hd5'
        clear hd5' HSY
        go_wp2
        go_ret
        rw [HS.out.1, HS.out.2]
        exact Does.of_below HB0.out HD5.out H0.out
      · have HS := Lib.hid (save_3 HE1.out HE2.out g3)
        have hq : (e3 s i x ⟨n2, k2, z2⟩ != 0) = true := by simpa using g3
        clear g3
        go_wp2
        go_ret
        rw [HS.out.1, HS.out.2]
        exact Does.of_below HB0.out HD4.out H0.out
    · have HS := Lib.hid (save_2 (h := ⟨n2, k2, z2⟩) HE1.out g2)
      have hq : (e2 s i x != 0) = true := by simpa using g2
      clear g2
      go_wp2
      go_ret
      rw [HS.out.1, HS.out.2]
      exact Does.of_below HB0.out HD2.out H0.out
  · have HS := Lib.hid (save_1 (h := ⟨n2, k2, z2⟩) g1)
    have hq : (e1 s i x != 0) = true := by simpa using g1
    clear g1
    go_wp2
    go_ret
    rw [HS.out.1, HS.out.2]
    exact Does.of_below HB0.out HD1.out H0.out
end Go.Proofs.Ytembonenaoineaa
