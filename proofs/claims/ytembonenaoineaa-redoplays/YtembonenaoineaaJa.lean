/- Both Logs and both Drums side by side in memory; what alike and long of chapter 5's laws return; acts that came in, opened. Conditions: each contract names its own. -/
import Derived.Test.YtembonenaoineaaRj
import Derived.BigQuiet
import Derived.Deep.QuietTactic
import Derived.Deep.RegionWith
import Derived.Test.YtembonenaoineaaDl
import Derived.Test.YtembonenaoineaaGn
import Derived.Test.YtembonenaoineaaHx
import Derived.Test.YtembonenaoineaaRm
import Derived.Test.YtembonenaoineaaGk
namespace Go.Proofs.Ytembonenaoineaa
set_option maxRecDepth 100000
set_option linter.unusedVariables false
section
open Go.ChangeShapes Go.WideShapes Go.ChangeAt Go.RowKit
set_option maxHeartbeats 2000000 in
theorem alike5_any {F G : Nat → Prop} {w : World} {a b : Nat} {s : DS} (h : PD F w a s) (h' : RD G w b s) :
    Calls Try.prog 30 #[.pointer (some ⟨a, 0, none⟩), .pointer (some ⟨b, 0, none⟩)] w fun e w' => e = .returned (.bool true) ∧ Below w.heap.size w w' := by
  have HP := Lib.hid h
  have HR := Lib.hid h'
  obtain ⟨ov, sv, wv, n, d, hm⟩ := h'
  obtain ⟨A, c, hsv⟩ := own_slice hm.rs
  subst hsv
  have HM := Lib.hid hm
  have hbl := hm.lt b hm.fb
  have k1 := hm.cells.2.1
  have hfew := hm.ok.few
  clear h hm
  go_enter Try.func30, Try.ntmps30
  go_wp2
  go_loopw [5] (fun i wr => ∃ k : Nat, k ≤ s.now.length ∧ i = .int .i64 k ∧ Hid (Below w.heap.size w wr)) (fun i _ => s.now.length - (intOf i).toNat)
  case atStart => exact ⟨0, Nat.zero_le _, rfl, Below.refl _ _⟩
  case round =>
    obtain ⟨k, hk, rfl, HB⟩ := hrel
    have j1 : wr.cell? ⟨b, 1, none⟩ = some (.slice A s.now.length c) := (HB.out.cell hbl).trans k1
    by_cases hlt : k < s.now.length
    · obtain ⟨g, c', hsv, hc0, _⟩ := row_str HM.out.rs k hlt
      injection hsv with hA _ hc
      subst hA
      have hlc := World.block_lt_of_cell? w _ hc0
      have hcr := (HB.out.cell hlc).trans hc0
      have HP1 := Lib.hid (HP.out.below HB.out).drew
      have HBd := Lib.hid HB.out.drew
      have e0 : rdL s (k : Int) = s.now[k] := by
        have ht : there s (k : Int) = true := by simp only [there, decide_eq_true_eq]; omega
        simp [rdL, ht, List.getD, hlt]
      have HRD := Lib.hid (read_any HP1.out (k : Int))
      rw [e0] at HRD
      have HC0 := Lib.hid hc0
      generalize s.now[k] = q at *
      clear e0 hc0 hc k1
      go_wp2_with fail
      go_region_with (go_at_call 49; with_reducible refine HRD.out.mono ?_; rintro e w5 ⟨v5, rfl, ho5, hb5⟩; obtain ⟨A5, c5, rfl, hbs5, hA5⟩ := ho5.open; have hcv5 := hbs5.conv _ rfl; have HB5 := Lib.hid (HBd.out.trans (hb5.mono HBd.out.size)); have j5 : w5.cell? ⟨b, 1, none⟩ = some (.slice (some ⟨g, 0, none⟩) s.now.length c) := (HB5.out.cell hbl).trans (HM.out.cells.2.1); have q5 := (HB5.out.cell hlc).trans HC0.out; clear ho5 hb5 hbs5 hA5)
      all_goals (
        clear hcv5 j1 j5 q5 hcr
        go_wp2
        refine ⟨⟨k + 1, by omega, by go_num, HB5.out⟩, by simp [intOf]; omega⟩)
    · obtain rfl : k = s.now.length := by omega
      have HPk := Lib.hid (HP.out.below HB.out)
      have HRk := Lib.hid (HR.out.below HB.out)
      go_wp2_with fail
      go_quiet ((first
        | (go_at_call 34; with_reducible exact quiet_eq (len_any (HPk.out.drewN _)))
        | (go_at_call 31; with_reducible exact quiet_eq (waiting_any (HPk.out.drewN _)))
        | (go_at_call 50; with_reducible exact quiet_eq (rwaiting_any (HRk.out.drewN _)))))
      have HB0 := Lib.hid (below_drewN HB.out nq)
      go_wp2
      go_ret
      exact ⟨rfl, HB0.out⟩
end
section
open Go.ChangeShapes Go.WideShapes Go.ChangeAt Go.RowKit
def Few (l : List ActV) (k : Nat) : Prop := ∀ j (hj : j < l.length), j < k → l[j].p.l.length ≤ 6000 ∧ l[j].keep.l.length ≤ 6000
set_option maxHeartbeats 1000000 in
theorem long5_any {w : World} (A : Option Addr) (l : List ActV) (c : Nat) (h : SlA w ⟨A, l, c⟩) (hz : ∀ x ∈ l, x.p.l.length ≤ 140737488351232 ∧ x.keep.l.length ≤ 140737488351232) :
    Calls Try.prog 10 #[.slice A l.length c] w fun e w' => ∃ b, e = .returned (.bool b) ∧ Below w.heap.size w w' ∧ (b = false → Few l 30) := by
  have H := Lib.hid h
  have HZ := Lib.hid hz
  clear h hz
  go_enter Try.func10, Try.ntmps10
  go_wp2
  go_loopw [3, 4] (fun n i wr => ∃ (z k : Nat), k ≤ l.length ∧ k ≤ 30 ∧ z ≤ 6000 ∧ n = .int .i64 z ∧ i = .int .i64 k ∧ Hid (Few l k) ∧ Hid (Below w.heap.size w wr)) (fun _ i _ => 30 - (intOf i).toNat)
  case atStart => exact ⟨0, 0, Nat.zero_le _, by omega, by omega, rfl, rfl, fun j hj h => absurd h (by omega), Below.refl _ _⟩
  case round =>
    obtain ⟨z, k, hk, hk30, hz6, rfl, rfl, HF, HB⟩ := hrel
    by_cases hlt : k < l.length
    · by_cases h30 : k < 30
      · obtain ⟨ad, pk, hA, hpk, hin, hat⟩ := act_at H.out HB.out (k := k) hlt
        simp only at hA
        subst hA
        have c2 := hin.c2
        have c3 := hin.c3
        obtain ⟨z1, z2⟩ := HZ.out l[k] (List.getElem_mem hlt)
        obtain ⟨x, hx⟩ : ∃ x, x = l[k] := ⟨_, rfl⟩
        rw [← hx] at c2 c3 z1 z2
        have HX := Lib.hid hx
        clear hin hat hx
        by_cases hb : 6000 < z + 1 + x.p.l.length + x.keep.l.length
        · have hbi : (6000 : Int) < (z : Int) + 1 + (x.p.l.length : Int) + (x.keep.l.length : Int) := by omega
          go_wp2_with fail
          go_quiet (fail)
          have HB2 := Lib.hid (below_drewN HB.out nq)
          clear c2 c3 hpk
          go_wp2
          go_ret
          exact ⟨_, rfl, HB2.out, fun h => by cases h⟩
        · have hbi : (z : Int) + 1 + (x.p.l.length : Int) + (x.keep.l.length : Int) ≤ 6000 := by omega
          go_wp2_with fail
          go_quiet (fail)
          have HB2 := Lib.hid (below_drewN HB.out nq)
          have HF2 : Hid (Few l (k + 1)) := fun j hj h => by
            by_cases e : j = k
            · subst e; rw [← HX.out]; constructor <;> omega
            · exact HF.out j hj (by omega)
          clear c2 c3 hpk
          go_wp2
          refine ⟨⟨z + 1 + x.p.l.length + x.keep.l.length, k + 1, by omega, by omega, by omega, by go_num, by go_num, HF2.out, HB2.out⟩, by simp [intOf]; omega⟩
      · obtain rfl : k = 30 := by omega
        go_wp2
        go_ret
        exact ⟨_, rfl, HB.out, fun _ => HF.out⟩
    · obtain rfl : k = l.length := by omega
      go_wp2
      go_ret
      exact ⟨_, rfl, HB.out, fun _ j hj h => HF.out j hj hj⟩
end
section
open Go.ChangeShapes Go.WideShapes Go.ChangeAt Go.RowKit
section
variable {H : Type} {enc : TypeId × Value → H} {w : World} {base : Nat} {held : Bool} {r : Reach} {b0 : Nat} {v : Value} {d : DataW H} {p : List MemPlace}
def SzA (x : ActV) : Prop := x.p.l.length ≤ 140737488351232 ∧ x.keep.l.length ≤ 140737488351232
theorem open_acts5 (hv : Value.okWide Try.prog w r b0 22 v) (h : DataW.Trod enc Try.prog w base (fun _ => true) held 22 v d p) : ∃ s : Sl ActV, v = slv s ∧ SlA w s ∧ (Fits 22 d → ∀ x ∈ s.l, x.p.l.length ≤ 140737488351232 ∧ x.keep.l.length ≤ 140737488351232) ∧ True := by
  obtain ⟨a0, len0, cap0, rfl⟩ := okWide_slice Try.underlying22 hv
  obtain ⟨fuel, hf⟩ := h
  have ce : Try.prog.cellsOf 39 = 4 := by kernel_rfl
  have be : Try.prog.bytesOf 5 = 1 := by kernel_rfl
  have bb : Try.prog.bytesOf 4 = 1 := by kernel_rfl
  rcases Deep.open_slice Try.underlying22 hf with ⟨hcs, _⟩ | ⟨ad, len, cap, m, n, D, Pl, hcs, _, hl, hm, hmm, hxx, hx⟩
  · simp [Value.cells] at hcs
    obtain ⟨rfl, rfl, rfl⟩ := hcs
    exact ⟨⟨none, [], 0⟩, rfl, fun i hi => absurd hi (by simp), fun _ x hx => by simp at hx, trivial⟩
  · simp [Value.cells] at hcs
    obtain ⟨rfl, rfl, rfl⟩ := hcs
    simp only [if_true] at hmm
    subst hmm
    injection hxx with hxx _
    have each : ∀ k, k < len0 → ∃ x : ActV, ActAt w (ad.add (k * 4)) x ∧ (Fits 39 (D k) → SzA x) := by
      intro k hk
      obtain ⟨cs', h1, h2⟩ := hx k (by omega)
      rw [ce] at h1
      obtain ⟨_, hlen, hcell⟩ := World.cells?_some h1
      obtain ⟨xs, k', hk', hxy, _, hxl, hf⟩ := DataW.trod_struct Try.underlying39 h2
      match xs, hxl, cs', hlen with
      | [y0, y1, y2, y3], _, [v0, v1, v2, v3], _ =>
        have g0 := hf 0 _ rfl
        have g1 := hf 1 _ rfl
        have g2 := hf 2 _ rfl
        have g3 := hf 3 _ rfl
        have e3 : Try.prog.cellsOf 3 = 1 := by kernel_rfl
        have e28 : Try.prog.cellsOf 36 = 1 := by kernel_rfl
        have e29 : Try.prog.cellsOf 37 = 1 := by kernel_rfl
        simp [e3, e28, e29] at g0 g1 g2 g3
        obtain ⟨n0, q0, _, _⟩ := DataW.trod_int Try.underlying3 g0
        obtain ⟨n1, q1, _, w1⟩ := DataW.trod_int Try.underlying3 g1
        obtain ⟨sp, q2, b2⟩ := cell_bytes g2
        obtain ⟨sk, q3, b3⟩ := cell_bools g3
        have c0 := hcell 0 (by omega)
        have c1 := hcell 1 (by omega)
        have c2 := hcell 2 (by omega)
        have c3 := hcell 3 (by omega)
        simp at q0 q1
        subst q0; subst q1; subst q2; subst q3
        rw [Addr.add_zero'] at c0
        have l2 := (slice_len Try.underlying36 g2).1
        have l3 := (slice_len Try.underlying37 g3).1
        rw [be, Nat.mul_one] at l2
        rw [bb, Nat.mul_one] at l3
        refine ⟨⟨n0, n1, sp, sk⟩, ⟨by simpa using c0, by simpa using c1, by simpa using c2, by simpa using c3, w1, b2, b3⟩, fun hfit => ?_⟩
        injection hxy with hD _
        have hw : ∀ q, q ∈ y2.1.weights Try.prog 36 ∨ q ∈ y3.1.weights Try.prog 37 → q ∈ (D k).weights Try.prog 39 := fun q hq => by
          rw [hD]
          simp only [DataW.weights, Try.underlying39, List.map_cons, List.map_nil, DataW.weightsEach, List.mem_append]
          rcases hq with h | h
          · exact .inr (.inr (.inl h))
          · exact .inr (.inr (.inr (.inl h)))
        exact ⟨l2 fun q hq => hfit q (hw q (.inl hq)), l3 fun q hq => hfit q (hw q (.inr hq))⟩
    obtain ⟨f, hf⟩ := Deep.choose_lt each
    refine ⟨⟨some ad, (List.range len0).map f, m⟩, by simp [slv], fun k hk => ⟨ad, rfl, ?_⟩, fun hfit x hx' => ?_, trivial⟩
    · have hk2 : k < len0 := by simpa using hk
      simpa using (hf k hk2).1
    · obtain ⟨k, hk, rfl⟩ := List.mem_map.1 hx'
      have hk2 : k < len0 := by simpa using hk
      refine (hf k hk2).2 (fun q hq => hfit q ?_)
      rw [hxx]
      simp only [DataW.weights, Try.underlying22, List.mem_cons, List.mem_append]
      exact .inr (.inl (weights_all len0 hk2 q hq))
end
end
section
open Go.ChangeShapes Go.WideShapes Go.ChangeAt Go.RowKit
open Lb (encI encIs encS In64 encI_len nxtI resI nxtS resS)

theorem spl_few : ∀ (f : Nat) (l : List UInt8) (es : List (List UInt8)), spl f l = some es → es.length ≤ l.length
  | 0, l, es, h => by
    unfold spl at h
    split at h
    · injection h with h; subst h; simp
    · cases h
  | f + 1, l, es, h => by
    unfold spl at h
    split at h
    · injection h with h; subst h; simp
    · cases hn : nxtS (some l) with
      | none => rw [hn] at h; cases h
      | some r =>
        rw [hn] at h
        simp only [Option.bind_some] at h
        cases hs : spl f r with
        | none => rw [hs] at h; cases h
        | some fs =>
          rw [hs] at h
          simp only [Option.map_some] at h
          injection h with h
          subst h
          have h1 := spl_few f r fs hs
          have h2 := nxtS_lt hn
          rw [List.length_cons]
          omega
theorem ents_few {l : List UInt8} {es : List (List UInt8)} (h : ents l = some es) : es.length ≤ l.length := spl_few _ l es h
/-- What holds of a log behind k acts. -/
structure Log5 (k : Nat) (s : DS) (L : LG) (bl : List UInt8) : Prop where
  ok : DOk s
  four : 4 ≤ s.now.length
  few : s.now.length ≤ 20
  hk : L.h.k ≤ 1
  hn : L.h.n ≤ 1099511627776
  hz : L.h.z = bl.length
  hz1 : bl.length ≤ bk s.now * 64
  cnt : L.cnt ≤ 1000 + k
  pend : s.pend.length ≤ 20 * k
  cont : L.dead = false → cont s.now L.h = bl
theorem Log5.opened {k : Nat} {s : DS} {es : List (List UInt8)} (hok : DOk s) (h4 : 4 ≤ s.now.length) (h20 : s.now.length ≤ 20) (hp : s.pend.length ≤ 20 * k) (he : ents (Proofs.Ytembonenaoineaa.cont s.now (newest s.now)) = some es) : Log5 k s ⟨newest s.now, es.length, false⟩ (Proofs.Ytembonenaoineaa.cont s.now (newest s.now)) := by
  have hb := newest_bd s.now
  have hl := cont_len s.now (newest s.now)
  have hf := ents_few he
  have hbk : bk s.now ≤ 9 := by unfold bk; omega
  exact ⟨hok, h4, h20, hb.2.1, hb.1, hl.symm, by rw [hl]; exact hb.2.2, by simp only; omega, hp, fun _ => rfl⟩
theorem Log5.fuse {k : Nat} {s : DS} {L : LG} {bl : List UInt8} (h : Log5 k s L bl) {i : Int} (hi : i ≤ 9223372036854775807) : Log5 (k + 1) (fzS s i) L bl := by
  obtain ⟨h1, h2, h3, h4, h5, h6, h7, h8, h9, h10⟩ := h
  exact ⟨fzS_ok h1 hi, h2, h3, h4, h5, h6, h7, by omega, by show s.pend.length ≤ _; omega, h10⟩
theorem Log5.step {k : Nat} {s : DS} {L : LG} {bl : List UInt8} (h : Log5 k s L bl) (rs : Bool) (p : List UInt8) (hp : p.length ≤ 10000) :
    Log5 (k + 1) (apS s L (atOf rs L) (encS p)) (apL s L (atOf rs L) (cOf rs L) (encS p)) (if apE s L (atOf rs L) (encS p) = 0 then (if rs then [] else bl) ++ encS p else bl) := by
  obtain ⟨⟨n0, k0, z0⟩, cnt, dead⟩ := L
  have hpos := encS_pos (p := p) (by omega)
  have hbk : bk s.now ≤ 9 := by have := h.few; unfold bk; omega
  have same : Log5 (k + 1) s ⟨⟨n0, k0, z0⟩, cnt, dead⟩ bl := by
    obtain ⟨h1, h2, h3, h4, h5, h6, h7, h8, h9, h10⟩ := h
    exact ⟨h1, h2, h3, h4, h5, h6, h7, by omega, by omega, h10⟩
  cases dead with
  | true =>
    obtain ⟨e1, e2, e3⟩ := ap_dead s (L := ⟨⟨n0, k0, z0⟩, cnt, true⟩) (atOf rs ⟨⟨n0, k0, z0⟩, cnt, true⟩) (cOf rs ⟨⟨n0, k0, z0⟩, cnt, true⟩) (encS p) rfl
    rw [e1, e2, e3, if_neg (by decide)]
    exact same
  | false =>
    obtain ⟨b', hb'⟩ : ∃ b', (if rs then [] else bl) = b' := ⟨_, rfl⟩
    rw [hb']
    have hL : Lay ⟨n0, k0, z0⟩ bl (atOf rs ⟨⟨n0, k0, z0⟩, cnt, false⟩).k b' := by
      have hk0 : k0 ≤ 1 := h.hk
      cases rs with
      | false => exact ⟨.inl ⟨rfl, hb'.symm⟩, hk0⟩
      | true => exact ⟨.inr ⟨rfl, hb'.symm⟩, by show 1 - k0 ≤ 1; omega⟩
    have hc : Proofs.Ytembonenaoineaa.cont s.now (atOf rs ⟨⟨n0, k0, z0⟩, cnt, false⟩) = b' := by
      cases rs with
      | false => rw [← hb']; exact h.cont rfl
      | true => rw [← hb']; rfl
    have hzl : (atOf rs ⟨⟨n0, k0, z0⟩, cnt, false⟩).z = b'.length := by rw [← hc, cont_len]
    have han : (atOf rs ⟨⟨n0, k0, z0⟩, cnt, false⟩).n = n0 := by cases rs <;> rfl
    have hk1 := hL.k1
    have hn0 : n0 ≤ 1099511627776 := h.hn
    have hcc : cOf rs ⟨⟨n0, k0, z0⟩, cnt, false⟩ ≤ 1000 + k := by
      have : cnt ≤ 1000 + k := h.cnt
      cases rs with
      | false => exact this
      | true => simp [cOf]
    obtain ⟨at', hat⟩ : ∃ at', atOf rs ⟨⟨n0, k0, z0⟩, cnt, false⟩ = at' := ⟨_, rfl⟩
    obtain ⟨c0, hco⟩ : ∃ c0, cOf rs ⟨⟨n0, k0, z0⟩, cnt, false⟩ = c0 := ⟨_, rfl⟩
    rw [hat] at hL hc hzl han hk1 ⊢
    rw [hco] at hcc ⊢
    cases hok : nxOk s at' (encS p) with
    | false =>
      have e1 : apE s ⟨⟨n0, k0, z0⟩, cnt, false⟩ at' (encS p) = 3 := by simp [apE, hok]
      have e2 : apS s ⟨⟨n0, k0, z0⟩, cnt, false⟩ at' (encS p) = s := by simp [apS, hok]
      have e3 : apL s ⟨⟨n0, k0, z0⟩, cnt, false⟩ at' c0 (encS p) = ⟨⟨n0, k0, z0⟩, cnt, false⟩ := by simp [apL, hok]
      rw [e1, e2, e3, if_neg (by decide)]
      exact same
    | true =>
      have hv := hok
      unfold nxOk hvB at hv
      have hv2 := of_decide_eq_true hv
      have hx : (b' ++ encS p).length ≤ bk s.now * 64 := by rw [List.length_append]; omega
      rw [List.length_append] at hx
      have hin := fst_bd h.four hk1
      have hsec : (s.now.getD (pI s at') []).length = 64 := sec_len h.ok (by unfold pI; omega)
      obtain ⟨hX, hI⟩ := pX_lX (e := encS p) hc hsec
      have hnx : nx at' (encS p) = nxt ⟨n0, k0, z0⟩ at'.k b' (encS p) := by
        unfold nx nxt; rw [han, List.length_append, hzl]
      have e1 : apE s ⟨⟨n0, k0, z0⟩, cnt, false⟩ at' (encS p) = saveE s (pI s at') (pX s at' (encS p)) (nx at' (encS p)) := by simp [apE, hok]
      have e2 : apS s ⟨⟨n0, k0, z0⟩, cnt, false⟩ at' (encS p) = saveS s (pI s at') (pX s at' (encS p)) (nx at' (encS p)) := by simp [apS, hok]
      have e3 : apL s ⟨⟨n0, k0, z0⟩, cnt, false⟩ at' c0 (encS p) = if saveE s (pI s at') (pX s at' (encS p)) (nx at' (encS p)) = 0 then ⟨nx at' (encS p), c0 + 1, false⟩ else ⟨⟨n0, k0, z0⟩, cnt, true⟩ := by simp [apL, hok]
      rw [e1, e2, e3]
      have hxl : (pX s at' (encS p)).length ≤ 64 + 576 := by rw [hX, lX_len]; omega
      have hpe := saveS_pend s (pI s at') (pX s at' (encS p)) (nx at' (encS p))
      have hnc : nch (pX s at' (encS p)) ≤ 10 := by unfold nch; omega
      have hpend := h.pend
      have hou := save_out s (lI s.now at'.k b') (lX b' (encS p)) (nxt ⟨n0, k0, z0⟩ at'.k b' (encS p)) (lay_in h.four hk1 (by rw [List.length_append]; exact hx)) h.four (by
        have := hB_len (h := nxt ⟨n0, k0, z0⟩ at'.k b' (encS p)) (by show n0 + 1 ≤ _; omega) hk1 (by show (b' ++ encS p).length ≤ _; rw [List.length_append]; omega)
        omega)
      have hSok := saveS_ok h.ok (pI s at') (pX s at' (encS p)) (nx at' (encS p))
      rw [hX, hI, hnx] at hpe hSok ⊢
      rw [hX] at hnc
      have hnow : (saveS s (lI s.now at'.k b') (lX b' (encS p)) (nxt ⟨n0, k0, z0⟩ at'.k b' (encS p))).now.length = s.now.length := by
        rcases hou with ⟨_, _, m, _, h1, _⟩ | ⟨_, _, h1, _⟩ | ⟨_, _, h1, _⟩ | ⟨_, _, h1, _⟩ <;> rw [h1] <;> simp [over_len]
      have hbke : bk (saveS s (lI s.now at'.k b') (lX b' (encS p)) (nxt ⟨n0, k0, z0⟩ at'.k b' (encS p))).now = bk s.now := by unfold bk; rw [hnow]
      by_cases h0 : saveE s (lI s.now at'.k b') (lX b' (encS p)) (nxt ⟨n0, k0, z0⟩ at'.k b' (encS p)) = 0
      · rw [if_pos h0, if_pos h0]
        rw [h0] at hou
        obtain ⟨hct, _⟩ := save_cont h.four (h.cont rfl) hL (by rw [List.length_append]; exact hx) hou
        exact ⟨hSok, by rw [hnow]; exact h.four, by rw [hnow]; exact h.few, hk1, by show n0 + 1 ≤ _; omega, rfl, by rw [hbke, List.length_append]; exact hx, by show c0 + 1 ≤ _; omega, by omega, fun _ => hct⟩
      · rw [if_neg h0, if_neg h0]
        exact ⟨hSok, by rw [hnow]; exact h.four, by rw [hnow]; exact h.few, h.hk, h.hn, h.hz, by rw [hbke]; exact h.hz1, by have := h.cnt; simp only at this ⊢; omega, by omega, fun e => by cases e⟩
end
section
open Go.ChangeShapes Go.WideShapes Go.ChangeAt Go.RowKit
open Lb (encI encIs encS In64 encI_len nxtI resI nxtS resS)
/-- The program's Drum and Log (blocks a and c1) and the reference's (b and c2), apart from each other, laid since w. -/
structure Duo (w wr : World) (F R : Nat → Prop) (a c1 b c2 : Nat) (s : DS) (L : LG) (t : DS) (M : LG) (bl : List UInt8) : Prop where
  ps : Sys w wr F a c1 s L
  rs : RSys w wr R b c2 t M bl
  ap : ∀ k, F k → ¬ R k
  ac : ¬ R c1
section
variable {w wr w' : World} {F R : Nat → Prop} {a c1 b c2 : Nat} {s t s' t' : DS} {L L' M M' : LG} {bl bl' : List UInt8}
theorem sys_chg5 {w wr w' : World} {F G : Nat → Prop} {a c : Nat} {s : DS} {L : LG} (h : Sys w wr F a c s L) (hc : Chg G wr w') (hG : ∀ k, F k → ¬ G k) (hcG : ¬ G c) (hw : ∀ k, G k → w.heap.size ≤ k) : Sys w w' F a c s L :=
  ⟨h.pd.chg hc hG, LM.chg h.lm hc hcG, h.cF, h.fF, h.fc, Chg.of_below h.bl hc hw⟩
theorem Duo.bel (h : Duo w wr F R a c1 b c2 s L t M bl) : Below w.heap.size w wr := h.ps.bl
theorem Duo.leftP (h : Duo w wr F R a c1 b c2 s L t M bl) {E : Int} {e : Ending} (hp : Puts F wr c1 a E s' L' e w') : Duo w w' (Nu F wr w') R a c1 b c2 s' L' t M bl := by
  refine ⟨h.ps.puts hp, h.rs.chg hp.2.2.2 (fun k hR hX => ?_) (fun k hX => ?_), fun k hk hR => ?_, h.ac⟩
  · rcases hX with hX | rfl
    · exact h.ap k hX hR
    · exact h.ac hR
  · rcases hX with hX | rfl
    · exact h.ps.fF k hX
    · exact h.ps.fc
  · rcases hk with hk | hk
    · exact h.ap k hk hR
    · have := h.rs.lt k hR; omega
theorem Duo.leftD (h : Duo w wr F R a c1 b c2 s L t M bl) {v : Value} {e : Ending} (hd : Does F wr a v s' e w') : Duo w w' (Nu F wr w') R a c1 b c2 s' L t M bl := by
  refine ⟨h.ps.does hd, h.rs.chg hd.2.2 (fun k hR hX => h.ap k hX hR) h.ps.fF, fun k hk hR => ?_, h.ac⟩
  rcases hk with hk | hk
  · exact h.ap k hk hR
  · have := h.rs.lt k hR; omega
theorem Duo.right (h : Duo w wr F R a c1 b c2 s L t M bl) (hr : RSys w w' (Nu R wr w') b c2 t' M' bl') (hc : Chg R wr w') : Duo w w' F (Nu R wr w') a c1 b c2 s L t' M' bl' := by
  refine ⟨sys_chg5 h.ps hc (fun k hk hR => h.ap k hk hR) h.ac h.rs.fR, hr, fun k hk hR => ?_, fun hR => ?_⟩
  · rcases hR with hR | hR
    · exact h.ap k hk hR
    · have := h.ps.pd.lt k hk; omega
  · rcases hR with hR | hR
    · exact h.ac hR
    · have := h.ps.lm.lt; omega
theorem Duo.rightL (h : Duo w wr F R a c1 b c2 s L t M bl) {E : Int} {e : Ending} (hr : RLays w wr R b c2 E t' M' bl' e w') : Duo w w' F (Nu R wr w') a c1 b c2 s L t' M' bl' := h.right hr.2.1 hr.2.2
theorem Duo.below (h : Duo w wr F R a c1 b c2 s L t M bl) (hb : Below wr.heap.size wr w') : Duo w w' F R a c1 b c2 s L t M bl := ⟨h.ps.below hb, h.rs.below hb, h.ap, h.ac⟩
theorem Duo.drew (h : Duo w wr F R a c1 b c2 s L t M bl) : Duo w wr.drew F R a c1 b c2 s L t M bl := h.below (Below.refl _ _).drew
theorem Duo.two (h : Duo w wr F R a c1 b c2 s L t M bl) : ∃ G, Two w wr a b s t F G := by
  obtain ⟨G, B, cb, h1, h2, _⟩ := h.rs.lays
  exact ⟨G, h.ps.pd, h1, fun k hk hG => h.ap k hk (h2 k hG), h.ps.fF, fun k hG => h.rs.fR k (h2 k hG), h.bel⟩
theorem Duo.rd (h : Duo w wr F R a c1 b c2 s L t M bl) : ∃ G, RD G wr b t := by
  obtain ⟨G, B, cb, h1, h2, _⟩ := h.rs.lays
  exact ⟨G, h1⟩
end
/-- Both Opens behind each other. -/
theorem duo_open {w wr w1 w2 : World} {F G : Nat → Prop} {a b c1 c2 : Nat} {s : DS} {hd : Hd} {cnt : Nat} {B : Option Addr} {bl : List UInt8} {cb : Nat} (h : Two w wr a b s s F G) (hb1 : Below wr.heap.size wr w1) (hl : LM w1 c1 a hd cnt false) (hc1 : wr.heap.size ≤ c1)
    (hb2 : Below w1.heap.size w1 w2) (hrl : RLM w2 c2 b hd B bl cb cnt false) (hc2 : w1.heap.size ≤ c2) (hbs : BS w2 B bl cb) (hB : ∀ ad, B = some ad → w1.heap.size ≤ ad.block ∧ ad.block < c2) :
    ∃ R, Duo w w2 F R a c1 b c2 s ⟨hd, cnt, false⟩ s ⟨hd, cnt, false⟩ bl := by
  have s1 := hb1.size
  have s2 := hb2.size
  have sw := h.bl.size
  have l1 := hl.lt
  have l2 := hrl.lt
  have gl : ∀ k, G k → k < wr.heap.size := h.rd.lt
  have fl : ∀ k, F k → k < wr.heap.size := h.pd.lt
  have hbw : Below w.heap.size w w2 := (h.bl.trans (hb1.mono sw)).trans (hb2.mono (by omega))
  refine ⟨fun k => G k ∨ k = c2 ∨ ∃ ad, B = some ad ∧ ad.block = k, ⟨(h.pd.below hb1).below hb2, LM.below hl hb2, fun e => by have := fl _ e; omega, h.fF, by omega, hbw⟩, ⟨⟨G, B, cb, (h.rd.below hb1).below hb2, fun k hk => .inl hk, fun e => by have := gl _ e; omega, hrl, hbs, fun ad e => .inr ⟨.inr (.inr ⟨ad, e, rfl⟩), fun hg => ?_, ?_⟩⟩, .inr (.inl rfl), fun k hk => ?_, fun k hk => ?_, hbw⟩, fun k hF hR => ?_, fun hR => ?_⟩
  · have := gl _ hg; have := hB ad e; omega
  · have := hB ad e; omega
  · rcases hk with hk | rfl | ⟨ad, e, rfl⟩
    · have := gl k hk; omega
    · exact l2
    · have := hB ad e; omega
  · rcases hk with hk | rfl | ⟨ad, e, rfl⟩
    · exact h.fG k hk
    · omega
    · have := hB ad e; omega
  · have f1 := fl k hF
    rcases hR with hk | rfl | ⟨ad, e, rfl⟩
    · exact h.ap k hF hk
    · omega
    · have := hB ad e; omega
  · rcases hR with hk | e | ⟨ad, e, e'⟩
    · have := gl _ hk; omega
    · omega
    · have := hB ad e; omega
end
end Go.Proofs.Ytembonenaoineaa
