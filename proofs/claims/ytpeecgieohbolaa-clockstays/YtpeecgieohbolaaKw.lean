/- ligaturelaw6.ClockStays, walked: it returns true for every two slices of acts. No condition. -/
import Derived.Test.YtpeecgieohbolaaKu
namespace Go.Proofs.Ytpeecgieohbolaa
set_option maxRecDepth 100000
set_option linter.unusedVariables false
open Go.ChangeShapes Go.WideShapes Go.ChangeAt Go.RowKit
theorem infoO : (Try.prog.info? 4).map (fun i => (i.zero, i.size, i.bytes)) = some (some (.bool false), 1, 1) := by kernel_rfl
def obs (L : List Bool) : List Value := L.map .bool
section
variable {G G' : Nat → Prop} {w wr w' : World} {a b : Nat} {c x : Ck} {v v' : Value} {L : List Bool}
theorem Duo.grow (h : Duo G w wr a b c x) {row : Option Nat} (hg : wr.grownBy w' row) (hrow : ∀ k, row = some k → G k ∧ w.heap.size ≤ k) (hG : ∀ k, G' k → (G k ∨ wr.heap.size ≤ k) ∧ k < w'.heap.size) : Duo G' w w' a b c x := by
  obtain ⟨F, R, h⟩ := h
  have hs := hg.size
  have kf : ∀ k, F k → w'.heap[k]? = wr.heap[k]? := fun k hk => hg.block k (h.pc.lt k hk) (fun e => (h.fG k hk).1 (hrow k e.symm).1)
  have kr : ∀ k, R k → w'.heap[k]? = wr.heap[k]? := fun k hk => hg.block k (h.rc.lt k hk) (fun e => (h.rG k hk).1 (hrow k e.symm).1)
  refine ⟨F, R, h.pc.same (fun _ h => h) (fun k hk => Nat.lt_of_lt_of_le (h.pc.lt k hk) hs) kf, h.rc.same (fun _ h => h) (fun k hk => Nat.lt_of_lt_of_le (h.rc.lt k hk) hs) kr, h.ap, fun k hk => ⟨fun hg' => ?_, (h.fG k hk).2⟩, fun k hk => ⟨fun hg' => ?_, (h.rG k hk).2⟩, fun k hk => (hG k hk).2, ?_⟩
  · rcases (hG k hg').1 with h1 | h1
    · exact (h.fG k hk).1 h1
    · have := h.pc.lt k hk; omega
  · rcases (hG k hg').1 with h1 | h1
    · exact (h.rG k hk).1 h1
    · have := h.rc.lt k hk; omega
  · exact h.bl.grown hg h.bl.size fun k hk => (hrow k hk).2
/-- Both Clocks, and a row of bools of the law's own. -/
structure DuoR (w wr : World) (a b : Nat) (c x : Ck) (v : Value) (L : List Bool) : Prop where
  duo : Duo (fun k => v.ownBlock = some k) w wr a b c x
  row : wr.ownsRow 0 4 1 v L.length (obs L)
  new : ∀ k, v.ownBlock = some k → w.heap.size ≤ k
theorem DuoR.keep (h : DuoR w wr a b c x v L) {c' x' : Ck} (h1 : Duo (fun k => v.ownBlock = some k) w w' a b c' x') (h2 : Keep (fun k => v.ownBlock = some k) wr w') : DuoR w w' a b c' x' v L :=
  ⟨h1, own_same h.row (fun k hk => h2.2 k hk), h.new⟩
theorem DuoR.below (h : DuoR w wr a b c x v L) (hb : Below wr.heap.size wr w') : DuoR w w' a b c x v L := by
  obtain ⟨h1, h2⟩ := h.duo.below hb
  exact h.keep h1 h2
theorem DuoR.app (h : DuoR w wr a b c x v L) {W : World} (hb : Below wr.heap.size wr W) {p : Bool} (hr : w'.ownsRow 0 4 1 v' (L.length + 1) (obs L ++ [.bool p])) (hg : W.grownBy w' v.ownBlock) (ho : v'.ownBlock = v.ownBlock ∨ v'.ownBlock = some W.heap.size) : DuoR w w' a b c x v' (L ++ [p]) := by
  have hW := h.below hb
  have hsW := hW.duo.all.size
  refine ⟨hW.duo.grow hg (fun k hk => ⟨hk, h.new k hk⟩) (fun k hk => ⟨?_, (World.ownsRow.lt hr k hk).2⟩), ?_, fun k hk => ?_⟩
  · rcases ho with ho | ho
    · exact .inl (by rw [← ho]; exact hk)
    · rw [ho] at hk; injection hk with hk; exact .inr (by omega)
  · rw [List.length_append, show obs (L ++ [p]) = obs L ++ [.bool p] by simp [obs]]
    exact hr
  · rcases ho with ho | ho
    · exact h.new k (by rw [← ho]; exact hk)
    · rw [ho] at hk; injection hk with hk; omega
theorem new_bool (W : World) (p : Bool) (t : TypeId) : ∀ j u, ([.bool p] : List Value)[j]? = some u → (W.alloc (.cells #[.bool p] t)).cell? ((⟨W.heap.size, 0, none⟩ : Addr).add j) = some u := fun j u hj => by
  rw [Addr.add_lit, Nat.zero_add, cell_of_row _ _ j _ _ _ (heap_alloc_new W _)]
  rw [← Array.getElem?_toList]
  exact hj
end
theorem Since.act {c0 c : Ck} {t : Int} (h : Ck.Since c0 c t) (kd u : Int) (hut : u ≠ t) : Ck.Since c0 (actS c kd u) t := by
  unfold actS
  split
  · exact h.beg
  · split
    · exact h.com hut
    · exact h.ab hut
set_option maxHeartbeats 8000000 in
theorem stays_any {w : World} (A : Option Addr) (l : List Act6) (cp : Nat) (hs : SlK w ⟨A, l, cp⟩) (B : Option Addr) (r : List Act6) (dp : Nat) (hs2 : SlK w ⟨B, r, dp⟩) :
    Calls Try.prog 4 #[.slice A l.length cp, .slice B r.length dp] w fun e w' => e = .returned (.bool true) ∧ Below w.heap.size w w' := by
  have HS := Lib.hid hs
  have HS2 := Lib.hid hs2
  clear hs hs2
  by_cases hbig : 10000 < l.length ∨ 10000 < r.length
  · rcases (show 10000 < l.length ∨ (l.length ≤ 10000 ∧ 10000 < r.length) by omega) with q | ⟨q, q'⟩
    · have hb2 : (10000 : Int) < (l.length : Int) := by omega
      go_enter Try.func4, Try.ntmps4
      go_wp2
      go_ret
      exact ⟨rfl, Below.refl _ _⟩
    · have hb2 : (l.length : Int) ≤ 10000 := by omega
      have hb3 : (10000 : Int) < (r.length : Int) := by omega
      go_enter Try.func4, Try.ntmps4
      go_wp2
      go_ret
      exact ⟨rfl, Below.refl _ _⟩
  · have hb2 : (l.length : Int) ≤ 10000 := by omega
    have hb3 : (r.length : Int) ≤ 10000 := by omega
    have hlen : l.length ≤ 10000 := by omega
    have hlen2 : r.length ≤ 10000 := by omega
    clear hbig
    have HN := Lib.hid (new_any w)
    have DK := Lib.hid known_any
    go_enter Try.func4, Try.ntmps4
    go_wp2_with (go_at_call 9; (with_reducible refine HN.out.mono ?_); rintro e w1 ⟨rfl, h1, hb1⟩; have H1 := Lib.hid (duo_new (Below.refl _ _) h1 hb1); clear h1 hb1)
    clear HN
    go_loopw [7] (fun i wr => ∃ (k : Nat) (c : Ck), k ≤ l.length ∧ k ≤ 60 ∧ i = .int .i64 (k : Nat) ∧ Hid (c.l.length ≤ k ∧ c.n ≤ k) ∧ Hid (Duo (fun _ => False) w wr w.heap.size w1.heap.size c c)) (fun i _ => 60 - (intOf i).toNat)
    case atStart => exact ⟨0, Ck.new, Nat.zero_le _, by omega, rfl, ⟨by decide, by decide⟩, H1.out⟩
    case round =>
      obtain ⟨k, c, hk, hk60, rfl, HC, HD⟩ := hrel
      clear H1
      by_cases hlt : k < l.length ∧ k < 60
      · obtain ⟨hl1, hl2⟩ := hlt
        obtain ⟨ad, pk, hA, hpk, hcc⟩ := act6_at HS.out (k := k) hl1
        simp only at hA hcc hpk
        subst hA
        obtain ⟨x, hx⟩ : ∃ x, x = l[k] := ⟨_, rfl⟩
        rw [← hx] at hcc
        obtain ⟨c0, c1⟩ := hcc wr HD.out.all
        obtain ⟨kd, tt⟩ := x
        simp only at c0 c1
        have HA := Lib.hid (act_any HD.out kd tt (by have := HC.out; omega) (by have := HC.out; omega))
        have HL := Lib.hid (actS_len c kd tt)
        clear hx hcc
        have HB : Hid ((actS c kd tt).l.length ≤ k + 1 ∧ (actS c kd tt).n ≤ k + 1) := by have h1 := HC.out; have h2 := HL.out; exact ⟨by omega, by omega⟩
        go_wp2_with (go_at_call 10; (with_reducible refine HA.out.mono ?_); rintro e w2 ⟨rfl, h2, e2⟩; have H2 := Lib.hid h2; clear h2 e2)
        exact ⟨⟨k + 1, _, by omega, by omega, by go_num, HB.out, H2.out⟩, by simp [intOf]; omega⟩
      · have hend : ¬ k < l.length ∨ (k < l.length ∧ k = 60) := by omega
        clear hlt
        have hnb := HC.out
        have C1 := duo_begin HD.out (by omega)
        by_cases hf : 4 ≤ c.cnt
        · rw [show c.begT = 0 by unfold Ck.begT; rw [if_pos hf], show c.begE = 3 by unfold Ck.begE; rw [if_pos hf]] at C1
          have C1 := Lib.hid C1
          clear hnb hf
          rcases hend with h1 | ⟨h1, h2⟩
          case' inr => subst h2
          all_goals (
            go_wp2_with (first
              | (go_at_call 24; (with_reducible refine C1.out.mono ?_); rintro e w2 ⟨rfl, h2, e2⟩; have H2 := Lib.hid h2; clear h2 e2)
              | (go_at_call 23; (with_reducible refine (DK.out _).mono ?_); rintro e w8 ⟨rfl, hb8⟩; have H8 := Lib.hid (H2.out.below hb8).1; clear hb8))
            go_ret
            exact ⟨rfl, H8.out.all⟩)
        · rw [show c.begT = ((c.l.length + 1 : Nat) : Int) by unfold Ck.begT; rw [if_neg hf], show c.begE = 0 by unfold Ck.begE; rw [if_neg hf]] at C1
          obtain ⟨N, hN⟩ : ∃ N, N = c.l.length := ⟨_, rfl⟩
          rw [← hN] at C1
          have hN60 : N ≤ 60 := by omega
          have HNN := Lib.hid hN
          have HNC : Hid (c.n ≤ 60) := by simp only [Hid]; omega
          have HF := Lib.hid hf
          have C1 := Lib.hid C1
          rw [show ((N + 1 : Nat) : Int) = (N : Int) + 1 by omega] at C1
          clear hnb hf hN HC
          obtain ⟨d, hd⟩ : ∃ d, d = c.beg := ⟨_, rfl⟩
          rw [← hd] at C1
          have HDD := Lib.hid hd
          obtain ⟨sv, hsv⟩ : ∃ sv : Nat → Bool, sv = fun (i : Nat) => d.sees ((N : Int) + 1) ((i : Int) + 1) := ⟨_, rfl⟩
          have HSV := Lib.hid (fun (i : Nat) => show d.sees ((N : Int) + 1) ((i : Int) + 1) = sv i by rw [hsv])
          clear hd hsv
          rcases hend with h1 | ⟨h1, h2⟩
          case' inr => subst h2
          all_goals (
            go_wp2_with (go_at_call 24; (with_reducible refine C1.out.mono ?_); rintro e w2 ⟨rfl, h2, e2⟩; have H2 : Hid (DuoR w w2 w.heap.size w1.heap.size d c (.slice none 0 0) []) := ⟨h2.less (fun k hk => by simp [Value.ownBlock] at hk), World.ownsRow_nil _ _ _ _, fun k hk => by simp [Value.ownBlock] at hk⟩; clear h2 e2)
            clear C1 HD
            go_loopw [10, 11] (fun v i wr => ∃ j : Nat, j ≤ N ∧ i = .int .i64 ((j : Int) + 1) ∧ Hid (DuoR w wr w.heap.size w1.heap.size d c v ((List.range j).map sv))) (fun _ i _ => N + 1 - (intOf i).toNat)
            case atStart => exact ⟨0, Nat.zero_le _, rfl, H2.out⟩
            case round =>
              obtain ⟨j, hj, rfl, HR⟩ := hrel
              clear H2
              by_cases hlt : j < N
              · have C2 := sys_sees HR.out.duo.sys ((N : Int) + 1) ((j : Int) + 1)
                rw [HSV.out j] at C2
                have C2 := Lib.hid C2
                have HNX : Hid ((List.range (j + 1)).map sv = (List.range j).map sv ++ [sv j]) := by simp only [Hid]; rw [List.range_succ, List.map_append]; rfl
                have HLL : Hid (((List.range j).map sv).length ≤ 60) := by simp only [Hid]; rw [List.length_map, List.length_range]; omega
                generalize (List.range j).map sv = L at *
                generalize sv j = p at *
                go_wp2_with (first
                  | (go_at_call 19; (with_reducible refine C2.out.mono ?_); rintro e w3 ⟨rfl, h3⟩; have H3 := Lib.hid (HR.out.below h3); have HB3 := Lib.hid ((Below.refl w3.heap.size w3).alloc (Nat.le_refl _) (.cells #[.bool p] 4)); have HR3 := Lib.hid (H3.out.below HB3.out).row; have HC3 := Lib.hid (new_bool w3 p 4); clear h3)
                  | (refine wp_own 40 4 _ 1 1 Try.underlying40 infoO rfl (by decide) (by decide) rfl (.tmp 63) (.tmp 68) rfl _ _ (obs L) HR3.out rfl ⟨w3.heap.size, 0, none⟩ 1 1 [.bool p] rfl rfl HC3.out (fun u hu => by rw [List.mem_singleton] at hu; subst hu; rfl) (by have := HLL.out; omega) ?_; intro v4 w4 hr4 hg4 ho4; have H4 := Lib.hid (H3.out.app HB3.out hr4 hg4 ho4); clear hr4 hg4 ho4))
                exact ⟨⟨j + 1, by omega, by go_num, by rw [HNX.out]; exact H4.out⟩, by simp [intOf]; omega⟩
              · obtain rfl : j = N := by omega
                have C3 := Lib.hid (duo_rbegin HR.out.duo (by have := HNN.out; omega))
                rw [← HDD.out] at C3
                have HSI : Hid (Ck.Since d d ((j : Int) + 1)) := by
                  simp only [Hid]
                  rw [HDD.out, HNN.out]
                  exact Ck.Since.refl (Ck.beg_ok HR.out.duo.okx) (by have := (Ck.beg_new HF.out); unfold Ck.isLive; rw [show ((c.l.length : Int) + 1) = ((c.l.length + 1 : Nat) : Int) by omega, this.1, this.2]; rfl)
                have HDL : Hid (d.l.length = j + 1 ∧ d.n ≤ 60) := by
                  simp only [Hid]
                  rw [HDD.out, beg_n, Ck.beg_len, if_neg HF.out, ← HNN.out]
                  exact ⟨rfl, HNC.out⟩
                obtain ⟨L, hL⟩ : ∃ L, L = (List.range j).map sv := ⟨_, rfl⟩
                rw [← hL] at HR
                have HLL : Hid (L.length = j ∧ ∀ (i : Nat) (hi : i < L.length), L[i] = sv i) := by
                  subst hL
                  exact ⟨by simp, fun i hi => by simp⟩
                clear hL
                go_wp2_with (go_at_call 25; (with_reducible refine C3.out.mono ?_); rintro e w3 ⟨rfl, h3, e3⟩; have H3 := Lib.hid (HR.out.keep h3 e3); clear h3 e3)
                clear C3 HF HNN HNC HDD
                go_loopw [12] (fun i wr => ∃ (k2 : Nat) (cc : Ck), k2 ≤ r.length ∧ k2 ≤ 60 ∧ i = .int .i64 (k2 : Nat) ∧ Hid (cc.l.length ≤ 61 + k2 ∧ cc.n ≤ 60 + k2) ∧ Hid (Ck.Since d cc ((j : Int) + 1)) ∧ Hid (DuoR w wr w.heap.size w1.heap.size cc cc u10 L)) (fun i _ => 60 - (intOf i).toNat)
                case atStart => exact ⟨0, d, Nat.zero_le _, by omega, rfl, (by have := HDL.out; exact ⟨by omega, by omega⟩), HSI.out, H3.out⟩
                case round =>
                  obtain ⟨k2, cc, hk2, hk26, rfl, HC, HSC, HE⟩ := hrel
                  clear H3 HR
                  by_cases hlt2 : k2 < r.length ∧ k2 < 60
                  · obtain ⟨hl1, hl2⟩ := hlt2
                    obtain ⟨ad, pk, hA, hpk, hcc⟩ := act6_at HS2.out (k := k2) hl1
                    simp only at hA hcc hpk
                    subst hA
                    obtain ⟨x, hx⟩ : ∃ x, x = r[k2] := ⟨_, rfl⟩
                    rw [← hx] at hcc
                    obtain ⟨c0, c1⟩ := hcc wr HE.out.duo.all
                    obtain ⟨kd, tt⟩ := x
                    simp only at c0 c1
                    clear hx hcc
                    by_cases hte : tt = (j : Int) + 1
                    · subst hte
                      have HB : Hid (cc.l.length ≤ 61 + (k2 + 1) ∧ cc.n ≤ 60 + (k2 + 1)) := by have h1 := HC.out; exact ⟨by omega, by omega⟩
                      go_wp2
                      exact ⟨⟨k2 + 1, cc, by omega, by omega, by go_num, HB.out, HSC.out, HE.out⟩, by simp [intOf]; omega⟩
                    · have hq : (tt == (j : Int) + 1) = false := by rw [beq_eq_false_iff_ne]; exact hte
                      have HA := Lib.hid (act_any HE.out.duo kd tt (by have := HC.out; omega) (by have := HC.out; omega))
                      have HL := Lib.hid (actS_len cc kd tt)
                      have HB : Hid ((actS cc kd tt).l.length ≤ 61 + (k2 + 1) ∧ (actS cc kd tt).n ≤ 60 + (k2 + 1)) := by have h1 := HC.out; have h2 := HL.out; exact ⟨by omega, by omega⟩
                      have HSN := Lib.hid (Since.act HSC.out kd tt hte)
                      go_wp2_with (go_at_call 10; (with_reducible refine HA.out.mono ?_); rintro e w4 ⟨rfl, h4, e4⟩; have H4 := Lib.hid (HE.out.keep h4 e4); clear h4 e4)
                      exact ⟨⟨k2 + 1, _, by omega, by omega, by go_num, HB.out, HSN.out, H4.out⟩, by simp [intOf]; omega⟩
                  · have hend2 : ¬ k2 < r.length ∨ (k2 < r.length ∧ k2 = 60) := by omega
                    clear hlt2 HC
                    have C4 := Lib.hid (fun W (h : DuoR w W w.heap.size w1.heap.size cc cc u10 L) t u => sys_sees h.duo.sys t u)
                    have C5 := Lib.hid (fun W (h : DuoR w W w.heap.size w1.heap.size cc cc u10 L) t => sys_live h.duo.sys t)
                    have hjl : j ≤ 60 := hN60
                    obtain ⟨A10, c10, hu10⟩ := own_slice HE.out.row
                    subst hu10
                    rcases hend2 with h1' | ⟨h1', h2'⟩
                    case' inr => subst h2'
                    all_goals (
                      go_wp2
                      go_loopw [13] (fun i wr => ∃ q : Nat, q ≤ j ∧ i = .int .i64 ((q : Int) + 1) ∧ Hid (DuoR w wr w.heap.size w1.heap.size cc cc (.slice A10 L.length c10) L)) (fun i _ => j + 1 - (intOf i).toNat)
                      case atStart => exact ⟨0, Nat.zero_le _, rfl, HE.out⟩
                      case round =>
                        obtain ⟨q, hq, rfl, HQ⟩ := hrel
                        by_cases hlt3 : q < j
                        · have C6 := C4.out _ HQ.out ((j : Int) + 1) ((q : Int) + 1)
                          have hsee : cc.sees ((j : Int) + 1) ((q : Int) + 1) = sv q := by
                            rw [← HSV.out q]
                            exact HSC.out.seesOld (Ck.has_iff.2 (by have := HDL.out; omega)) (by omega)
                          rw [hsee] at C6
                          have hll := HLL.out
                          obtain ⟨g, cp', hv, _, hgl⟩ := World.ownsRow.form HQ.out.row (by omega)
                          injection hv with hA _ hcp
                          subst hA
                          subst hcp
                          have hcell : wr.cell? ⟨g, q, none⟩ = some (.bool (sv q)) := by
                            have hql : q < L.length := by omega
                            rw [World.ownsRow.cellAt HQ.out.row q (by omega)]
                            simp only [obs, List.getElem?_map, List.getElem?_eq_getElem hql, Option.map_some, hll.2 q hql]
                          have hi5 : IntKind.i64.wrap (q : Int) = (q : Int) := wrapI (by omega)
                          have hqL : q < L.length := by omega
                          have HGL := Lib.hid hgl
                          have HCE := Lib.hid hcell
                          generalize sv q = p at *
                          have C7 := Lib.hid (C4.out _ (HQ.out.below (Below.refl _ _).drew) ((j : Int) + 1) ((q : Int) + 1))
                          rw [hsee] at C7
                          clear hll hgl C6 hsee
                          go_wp2_with fail
                          go_region_with (go_at_call 19; (with_reducible refine C7.out.mono ?_); rintro e w5 ⟨rfl, h5⟩; have H5 := Lib.hid ((HQ.out.below (Below.refl _ _).drew).below h5); have hcell5 : w5.cell? ⟨g, q, none⟩ = some (.bool p) := (h5.cell (p := ⟨g, q, none⟩) HGL.out).trans HCE.out; clear h5)
                          all_goals (
                            clear hcell hcell5
                            go_wp2
                            exact ⟨⟨q + 1, by omega, by go_num, H5.out⟩, by simp [intOf]; omega⟩)
                        · obtain rfl : q = j := by omega
                          go_wp2
                          go_loopw [14] (fun i wr => ∃ z : Nat, z ≤ 4 ∧ i = .int .i64 ((q : Int) + 2 + (z : Int)) ∧ Hid (DuoR w wr w.heap.size w1.heap.size cc cc (.slice A10 L.length c10) L)) (fun i _ => q + 6 - (intOf i).toNat)
                          case atStart => exact ⟨0, by omega, by go_num, HQ.out⟩
                          case round =>
                            obtain ⟨z, hz, rfl, HZ⟩ := hrel
                            by_cases hz4 : z < 4
                            · have C6 := C4.out _ HZ.out ((q : Int) + 1) ((q : Int) + 2 + (z : Int))
                              have hsee : cc.sees ((q : Int) + 1) ((q : Int) + 2 + (z : Int)) = false := HSC.out.seesNew (by
                                have := HDL.out
                                cases hh : d.has ((q : Int) + 2 + (z : Int)) with
                                | false => rfl
                                | true => have := Ck.has_iff.1 hh; omega)
                              rw [hsee] at C6
                              have C6 := Lib.hid C6
                              have hlt5 : (q : Int) + 2 + (z : Int) < (q : Int) + 1 + 5 := by omega
                              have hlt6 : (q : Int) + 2 + (z : Int) < (q : Int) + 6 := by omega
                              clear hsee
                              go_wp2_with (go_at_call 19; (with_reducible refine C6.out.mono ?_); rintro e w5 ⟨rfl, h5⟩; have H5 := Lib.hid (HZ.out.below h5); clear h5)
                              exact ⟨⟨z + 1, by omega, by go_num, H5.out⟩, by simp [intOf]; omega⟩
                            · obtain rfl : z = 4 := by omega
                              have C6 := C5.out _ HZ.out ((q : Int) + 1)
                              rw [HSC.out.isLive] at C6
                              have C6 := Lib.hid C6
                              go_wp2_with (first
                                | (go_at_call 13; (with_reducible refine C6.out.mono ?_); rintro e w5 ⟨rfl, h5⟩; have H5 := Lib.hid (HZ.out.below h5); clear h5)
                                | (go_at_call 23; (with_reducible refine (DK.out _).mono ?_); rintro e w8 ⟨rfl, hb8⟩; have H8 := Lib.hid (H5.out.below hb8); clear hb8))
                              go_ret
                              exact ⟨rfl, H8.out.duo.all⟩))
end Go.Proofs.Ytpeecgieohbolaa
