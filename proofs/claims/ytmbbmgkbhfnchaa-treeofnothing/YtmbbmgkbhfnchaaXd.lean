/- balance of the program's tree: a node whose sides differ by at most two becomes the root of a balanced tree of the same blocks and entries. Conditions: the node and its sides lie in memory, apart from one another; depths are small. -/
import Derived.Test.YtmbbmgkbhfnchaaXc
namespace Go.Proofs.Ytmbbmgkbhfnchaa
set_option maxRecDepth 100000
set_option linter.unusedVariables false
open Go.ChangeShapes Go.WideShapes Go.ChangeAt Go.RowKit
open Fl (S)
open Val (V cmpV cmpI isB)
theorem nodup_mid {A C : List Nat} {b : Nat} (h : (A ++ b :: C).Nodup) : A.Nodup ∧ C.Nodup ∧ b ∉ A ∧ b ∉ C ∧ ∀ k, k ∈ A → k ∉ C := by
  rw [List.nodup_append, List.nodup_cons] at h
  exact ⟨h.1, h.2.1.2, fun hb => h.2.2 b hb b List.mem_cons_self rfl, h.2.1.1, fun k h1 h2 => h.2.2 k h1 k (List.mem_cons_of_mem _ h2) rfl⟩
theorem Chg.of_drewN {F : Nat → Prop} {w w' : World} {n : Nat} (h : Chg F (w.drewN n) w') : Chg F w w' := ⟨h.os, h.tape, h.output, h.size, h.block⟩
/-- What balance makes. -/
def BalP (w : World) (lo : Nat) (ex : Prop) (B : List Nat) (L : List En) (e : Ending) (w' : World) : Prop := ∃ p' d', e = .returned (po p') ∧ TN w' d' p' B L ∧ lo ≤ d' ∧ d' ≤ lo + 1 ∧ (ex → d' = lo + 1) ∧ Chg (fun k => k ∈ B) w w'
section
variable {w w' : World} {b : Nat} {x : En} {l r p : Option Nat} {d dl dr : Nat} {Bl Br : List Nat} {Ll Lr : List En}
theorem TN.ne {B : List Nat} {L : List En} (h : TN w d p B L) {k : Nat} (hk : k ∉ B) : p ≠ some k := fun e => hk (h.root k e)
theorem TN.drewN {B : List Nat} {L : List En} (h : TN w d p B L) (n : Nat) : TN (w.drewN n) d p B L := h.same (fun _ _ => rfl)
theorem lean_dr (h : NA w b x l r d) (hl : DP w l dl) (hr : DP w r dr) (h1 : dl ≤ 1000000) (h2 : dr ≤ 1000000) (n : Nat) : Calls Try.prog 47 #[pt b] (w.drewN n) fun e w' => e = .returned (.int .i64 ((dr : Int) - (dl : Int))) ∧ ∃ k, w' = w.drewN k :=
  (lean_any (w := w.drewN n) h (hl.drewN n) (hr.drewN n) h1 h2).mono fun e w' ⟨h1, k, h2⟩ => ⟨h1, n + k, by rw [h2]; simp⟩
theorem bal_same (hb : NA w b x l r d) (hl : TN w dl l Bl Ll) (hr : TN w dr r Br Lr) (hn : (Bl ++ b :: Br).Nodup) (h1 : dl ≤ 500000) (h2 : dr ≤ 500000) (h3 : dl ≤ dr + 1) (h4 : dr ≤ dl + 1) :
    Calls Try.prog 39 #[pt b] w (BalP w (max dl dr) True (Bl ++ b :: Br) (Ll ++ x :: Lr)) := by
  obtain ⟨n1, n2, n3, n4, n5⟩ := nodup_mid hn
  obtain ⟨v, hv⟩ : ∃ v : Int, v = (dr : Int) - (dl : Int) := ⟨_, rfl⟩
  have HLe := Lib.hid (lean_any hb hl.dp hr.dp (by omega) (by omega))
  rw [← hv] at HLe
  have HMe := Lib.hid (fun n => measure_any (w := w.drewN n) hb (hl.dp.drewN n) (hr.dp.drewN n) (by omega) (by omega))
  have q1 : (v == 2) = false := by rw [beq_eq_false_iff_ne]; omega
  have q2 : (v == -2) = false := by rw [beq_eq_false_iff_ne]; omega
  have HL := Lib.hid hl
  have HR := Lib.hid hr
  have HK : Hid (b ∉ Bl ∧ b ∉ Br) := ⟨n3, n4⟩
  have HB : Hid (dl ≤ dr + 1 ∧ dr ≤ dl + 1) := ⟨h3, h4⟩
  clear hb hl hr hn h1 h2 h3 h4 n1 n2 n3 n4 n5 hv
  go_enter Try.func39, Try.ntmps39
  go_wp2_with (first
    | (go_at_call 50; ((with_reducible refine (HMe.out _).mono ?_)); rintro e w2 ⟨rfl, ha, hc⟩; have HA := Lib.hid ha; have HC := Lib.hid hc.of_drewN; clear ha hc)
    | (go_at_call 47; ((with_reducible refine HLe.out.mono ?_)); rintro e w1 ⟨rfl, n, rfl⟩))
  go_ret
  refine ⟨some b, _, rfl, tn_mk HA.out (HL.out.chg HC.out (fun k hk e => HK.out.1 (e ▸ hk))) (HR.out.chg HC.out (fun k hk e => HK.out.2 (e ▸ hk))) HB.out.1 HB.out.2, by omega, by omega, fun _ => rfl, HC.out.weak (fun k e => by subst e; simp)⟩

theorem far2 {A B C : List Nat} {b c : Nat} (hn : (A ++ b :: (B ++ c :: C)).Nodup) : b ≠ c ∧ (∀ k, k ∈ A → ¬ (k = b ∨ k = c)) ∧ (∀ k, k ∈ B → ¬ (k = b ∨ k = c)) ∧ (∀ k, k ∈ C → ¬ (k = b ∨ k = c)) := by
  grind
theorem far3 {A B C D : List Nat} {b c e : Nat} (hn : (A ++ b :: ((B ++ e :: C) ++ c :: D)).Nodup) : (b ≠ c ∧ b ≠ e ∧ e ≠ c) ∧ (∀ k, k ∈ A → ¬ (k = b ∨ k = c) ∧ k ≠ e) ∧ (∀ k, k ∈ B → ¬ (k = b ∨ k = c) ∧ k ≠ e) ∧ (∀ k, k ∈ C → ¬ (k = b ∨ k = c) ∧ k ≠ e) ∧ (∀ k, k ∈ D → ¬ (k = b ∨ k = c) ∧ k ≠ e) := by
  simp only [List.nodup_append, List.nodup_cons, List.mem_append, List.mem_cons] at hn
  refine ⟨⟨?_, ?_, ?_⟩, ?_, ?_, ?_, ?_⟩ <;> grind
theorem far2m {A B C : List Nat} {b c : Nat} (hn : ((A ++ c :: B) ++ b :: C).Nodup) : b ≠ c ∧ (∀ k, k ∈ A → ¬ (k = b ∨ k = c)) ∧ (∀ k, k ∈ B → ¬ (k = b ∨ k = c)) ∧ (∀ k, k ∈ C → ¬ (k = b ∨ k = c)) := by
  simp only [List.nodup_append, List.nodup_cons, List.mem_append, List.mem_cons] at hn
  refine ⟨?_, ?_, ?_, ?_⟩ <;> grind
theorem far3m {A B C D : List Nat} {b c e : Nat} (hn : ((A ++ c :: (B ++ e :: C)) ++ b :: D).Nodup) : (b ≠ c ∧ b ≠ e ∧ e ≠ c) ∧ (∀ k, k ∈ A → ¬ (k = b ∨ k = c) ∧ k ≠ e) ∧ (∀ k, k ∈ B → ¬ (k = b ∨ k = c) ∧ k ≠ e) ∧ (∀ k, k ∈ C → ¬ (k = b ∨ k = c) ∧ k ≠ e) ∧ (∀ k, k ∈ D → ¬ (k = b ∨ k = c) ∧ k ≠ e) := by
  simp only [List.nodup_append, List.nodup_cons, List.mem_append, List.mem_cons] at hn
  refine ⟨⟨?_, ?_, ?_⟩, ?_, ?_, ?_, ?_⟩ <;> grind
theorem off2 {B : List Nat} {L : List En} {a c : Nat} (h : TN w d p B L) (hk : ∀ k, k ∈ B → ¬ (k = a ∨ k = c)) : p ≠ some a ∧ p ≠ some c := ⟨h.ne (fun e => hk a e (.inl rfl)), h.ne (fun e => hk c e (.inr rfl))⟩
/-- The right side is deeper by two, and does not lean to the left. -/
theorem bal_rr {c : Nat} {y : En} {m q : Option Nat} {e dm d2 : Nat} {Bm B2 : List Nat} {Lm L2 : List En} (hb : NA w b x l (some c) d) (hc : NA w c y m q e) (ho : TN w dl l Bl Ll) (hm : TN w dm m Bm Lm) (hq : TN w d2 q B2 L2) (hn : (Bl ++ b :: (Bm ++ c :: B2)).Nodup) (h1 : dl ≤ 400000) (h2 : d2 = dl + 1) (h3 : dm ≤ d2) (h4 : d2 ≤ dm + 1) (h5 : e = dl + 2) :
    Calls Try.prog 39 #[pt b] w (BalP w (dl + 2) False (Bl ++ b :: (Bm ++ c :: B2)) (Ll ++ x :: (Lm ++ y :: L2))) := by
  obtain ⟨ne, fo, fm, fq⟩ := far2 hn
  have HL1 := Lib.hid (lean_any hb ho.dp hc.dp (by omega) (by omega))
  rw [show (e : Int) - (dl : Int) = 2 by omega] at HL1
  obtain ⟨v, hv⟩ : ∃ v : Int, v = (d2 : Int) - (dm : Int) := ⟨_, rfl⟩
  have HL2 := Lib.hid (lean_dr hc hm.dp hq.dp (by omega) (by omega))
  rw [← hv] at HL2
  have q1 : ¬ v < 0 := by omega
  have HT := Lib.hid (fun n => turnLeft_any (w := w.drewN n) hb hc ne (ho.dp.drewN n) ((hm.dp.drewN n)) ((hq.dp.drewN n)) (off2 ho fo) (off2 hm fm) (off2 hq fq) (by omega) (by omega) (by omega))
  obtain ⟨_, _, _, _, _, _, b6, b7, _, bf⟩ := hb.cells
  rw [po_some] at b7
  have HO := Lib.hid ho
  have HM := Lib.hid hm
  have HQ := Lib.hid hq
  have FA : Hid ((∀ k, k ∈ Bl → ¬ (k = b ∨ k = c)) ∧ (∀ k, k ∈ Bm → ¬ (k = b ∨ k = c)) ∧ (∀ k, k ∈ B2 → ¬ (k = b ∨ k = c))) := ⟨fo, fm, fq⟩
  have HD : Hid (d2 = dl + 1 ∧ dm ≤ d2 ∧ d2 ≤ dm + 1) := ⟨h2, h3, h4⟩
  clear hb hc ho hm hq hn h1 h2 h3 h4 h5 ne fo fm fq hv
  go_enter Try.func39, Try.ntmps39
  go_wp2_with (first
    | (go_at_call 49; ((with_reducible refine (HT.out _).mono ?_)); rintro e w3 ⟨rfl, ha, ha2, hc⟩; have HA := Lib.hid ha; have HA2 := Lib.hid ha2; have HC := Lib.hid hc.of_drewN; clear ha ha2 hc)
    | (go_at_call 47; have _ := n1; ((with_reducible refine (HL2.out _).mono ?_)); rintro e w2 ⟨rfl, n2, rfl⟩)
    | (go_at_call 47; ((with_reducible refine HL1.out.mono ?_)); rintro e w1 ⟨rfl, n1, rfl⟩))
  go_ret
  obtain ⟨g1, g2, g3⟩ := HD.out
  have t1 := tn_mk HA.out (HO.out.chg HC.out FA.out.1) (HM.out.chg HC.out FA.out.2.1) (by omega) (by omega)
  have t2 := tn_mk HA2.out t1 (HQ.out.chg HC.out FA.out.2.2) (by omega) (by omega)
  simp only [List.append_assoc, List.cons_append] at t2
  exact ⟨some c, _, rfl, t2, by omega, by omega, fun h => h.elim, HC.out.weak (fun k e => by rcases e with rfl | rfl <;> simp)⟩
/-- The right side is deeper by two, and leans to the left. -/
theorem bal_rl {c g : Nat} {y z : En} {m1 m2 q : Option Nat} {e f c1 c2 d2 : Nat} {B1 B3 B2 : List Nat} {L1 L3 L2 : List En} (hb : NA w b x l (some c) d) (hc : NA w c y (some g) q e) (hg : NA w g z m1 m2 f) (ho : TN w dl l Bl Ll) (hm1 : TN w c1 m1 B1 L1) (hm2 : TN w c2 m2 B3 L3) (hq : TN w d2 q B2 L2) (hn : (Bl ++ b :: ((B1 ++ g :: B3) ++ c :: B2)).Nodup) (h1 : dl ≤ 400000) (h2 : d2 = dl) (h3 : c1 ≤ c2 + 1) (h4 : c2 ≤ c1 + 1) (h5 : e = dl + 2) (h6 : f = dl + 1) (h7 : f = max c1 c2 + 1) :
    Calls Try.prog 39 #[pt b] w (BalP w (dl + 2) False (Bl ++ b :: ((B1 ++ g :: B3) ++ c :: B2)) (Ll ++ x :: ((L1 ++ z :: L3) ++ y :: L2))) := by
  obtain ⟨⟨nbc, nbg, ngc⟩, fo, f1, f2, fq⟩ := far3 hn
  have HL1 := Lib.hid (lean_any hb ho.dp hc.dp (by omega) (by omega))
  rw [show (e : Int) - (dl : Int) = 2 by omega] at HL1
  have HL2 := Lib.hid (lean_dr hc hg.dp hq.dp (by omega) (by omega))
  rw [show (d2 : Int) - (f : Int) = -1 by omega] at HL2
  have o1 := off2 hm1 (a := c) (c := g) (fun k hk e => e.elim (fun e => (f1 k hk).1 (.inr e)) (f1 k hk).2)
  have o2 := off2 hm2 (a := c) (c := g) (fun k hk e => e.elim (fun e => (f2 k hk).1 (.inr e)) (f2 k hk).2)
  have o3 := off2 hq (a := c) (c := g) (fun k hk e => e.elim (fun e => (fq k hk).1 (.inr e)) (fq k hk).2)
  have HT := Lib.hid (fun n => turnRight_any (w := w.drewN n) hc hg (Ne.symm ngc) ((hm1.dp.drewN n)) ((hm2.dp.drewN n)) ((hq.dp.drewN n)) o1 o2 o3 (by omega) (by omega) (by omega))
  obtain ⟨_, _, _, _, _, _, b6, b7, _, bf⟩ := hb.cells
  rw [po_some] at b7
  have HB := Lib.hid hb
  have HO := Lib.hid ho
  have HM1 := Lib.hid hm1
  have HM2 := Lib.hid hm2
  have HQ := Lib.hid hq
  have FA : Hid ((∀ k, k ∈ Bl → ¬ (k = b ∨ k = c) ∧ k ≠ g) ∧ (∀ k, k ∈ B1 → ¬ (k = b ∨ k = c) ∧ k ≠ g) ∧ (∀ k, k ∈ B3 → ¬ (k = b ∨ k = c) ∧ k ≠ g) ∧ (∀ k, k ∈ B2 → ¬ (k = b ∨ k = c) ∧ k ≠ g)) := ⟨fo, f1, f2, fq⟩
  have NE : Hid (b ≠ c ∧ b ≠ g ∧ g ≠ c) := ⟨nbc, nbg, ngc⟩
  have HD : Hid (dl ≤ 400000 ∧ d2 = dl ∧ c1 ≤ c2 + 1 ∧ c2 ≤ c1 + 1 ∧ dl = max c1 c2) := ⟨h1, h2, h3, h4, by omega⟩
  clear hb hc hg ho hm1 hm2 hq hn h1 h2 h3 h4 h5 h6 h7 nbc nbg ngc fo f1 f2 fq o1 o2 o3
  go_enter Try.func39, Try.ntmps39
  go_wp2_with (first
    | (go_at_call 48; ((with_reducible refine (HT.out _).mono ?_)); rintro e w3 ⟨rfl, ha, ha2, hc⟩; have HA := Lib.hid ha; have HA2 := Lib.hid ha2; have HC := Lib.hid hc.of_drewN; have HB3 := Lib.hid (HB.out.chg hc.of_drewN (fun e => e.elim NE.out.1 NE.out.2.1)); obtain ⟨_, _, _, _, _, _, _, b7, _, bf⟩ := HB3.out.cells; clear ha ha2 hc)
    | (go_at_call 47; have _ := n1; ((with_reducible refine (HL2.out _).mono ?_)); rintro e w2 ⟨rfl, n2, rfl⟩)
    | (go_at_call 47; ((with_reducible refine HL1.out.mono ?_)); rintro e w1 ⟨rfl, n1, rfl⟩))
  have HC4 : Hid (Chg (fun k => (k = b ∨ k = c) ∨ k = g) w (w3.setCell ⟨b, 7, none⟩ (pt g))) := chg_set (F := fun k => (k = b ∨ k = c) ∨ k = g) (HC.out.weak (fun k e => e.elim (fun e => .inl (.inr e)) .inr)) (.inl (.inl rfl)) _ _
  have g1 := HB3.out.setR (some g)
  have g2 := HA2.out.set (Ne.symm NE.out.2.1) 7 (pt g)
  have g3 := HA.out.set (Ne.symm NE.out.1) 7 (pt g)
  have FF : ∀ {B : List Nat}, (∀ k, k ∈ B → ¬ (k = b ∨ k = c) ∧ k ≠ g) → ∀ k, k ∈ B → ¬ ((k = b ∨ k = c) ∨ k = g) := fun h k hk e => e.elim (h k hk).1 (h k hk).2
  have FG : ∀ {B : List Nat}, (∀ k, k ∈ B → ¬ (k = b ∨ k = c) ∧ k ≠ g) → ∀ k, k ∈ B → ¬ (k = b ∨ k = g) := fun h k hk e => e.elim (fun e => (h k hk).1 (.inl e)) (h k hk).2
  have k0 := HO.out.chg HC4.out (FF FA.out.1)
  have k1 := HM1.out.chg HC4.out (FF FA.out.2.1)
  have k2 := HM2.out.chg HC4.out (FF FA.out.2.2.1)
  have k3 := HQ.out.chg HC4.out (FF FA.out.2.2.2)
  have o0 := off2 k0 (FG FA.out.1)
  have o1 := off2 k1 (FG FA.out.2.1)
  obtain ⟨h1, h2, h3, h4, h5⟩ := HD.out
  refine (turnLeft_any g1 g2 NE.out.2.1 k0.dp k1.dp g3.dp o0 o1 ⟨fun e => NE.out.1 (Option.some.inj e).symm, fun e => NE.out.2.2 (Option.some.inj e).symm⟩ (by omega) (by omega) (by omega)).mono ?_
  rintro e w5 ⟨rfl, ha, ha2, hc⟩
  have HC5 := Lib.hid (HC4.out.then (hc.weak fun k e => e.elim (fun e => .inl (.inl e)) .inr))
  have t1 := tn_mk ha (k0.chg hc (FG FA.out.1)) (k1.chg hc (FG FA.out.2.1)) (by omega) (by omega)
  have g4 := g3.chg hc (fun e => e.elim (fun e => NE.out.1 e.symm) (fun e => NE.out.2.2 e.symm))
  have t2 := tn_mk g4 (k2.chg hc (FG FA.out.2.2.1)) (k3.chg hc (FG FA.out.2.2.2)) (by omega) (by omega)
  have t3 := tn_mk (dl := max dl c1 + 1) (dr := max c2 d2 + 1) ha2 t1 t2 (by omega) (by omega)
  simp only [List.append_assoc, List.cons_append] at t3
  have HT3 := Lib.hid t3
  have HDD : Hid (max (max dl c1 + 1) (max c2 d2 + 1) + 1 = dl + 2) := by simp only [Hid]; omega
  clear t1 t2 t3 k0 k1 k2 k3 o0 o1 g1 g2 g3 g4 ha ha2 hc h1 h2 h3 h4 h5
  go_wp2
  go_ret
  have hdd := HDD.out
  exact ⟨some g, max (max dl c1 + 1) (max c2 d2 + 1) + 1, rfl, (by simp only [List.append_assoc, List.cons_append]; exact HT3.out), by omega, by omega, fun h => h.elim, HC5.out.weak (fun k e => by rcases e with (rfl | rfl) | rfl <;> simp)⟩
/-- The left side is deeper by two, and does not lean to the right. -/
theorem bal_ll {c : Nat} {y : En} {m q : Option Nat} {e dm d2 : Nat} {Bm B2 : List Nat} {Lm L2 : List En} (hb : NA w b x (some c) r d) (hc : NA w c y q m e) (ho : TN w dr r Br Lr) (hm : TN w dm m Bm Lm) (hq : TN w d2 q B2 L2) (hn : ((B2 ++ c :: Bm) ++ b :: Br).Nodup) (h1 : dr ≤ 400000) (h2 : d2 = dr + 1) (h3 : dm ≤ d2) (h4 : d2 ≤ dm + 1) (h5 : e = dr + 2) :
    Calls Try.prog 39 #[pt b] w (BalP w (dr + 2) False ((B2 ++ c :: Bm) ++ b :: Br) ((L2 ++ y :: Lm) ++ x :: Lr)) := by
  obtain ⟨ne, fq, fm, fo⟩ := far2m hn
  have HL1 := Lib.hid (lean_any hb hc.dp ho.dp (by omega) (by omega))
  rw [show (dr : Int) - (e : Int) = -2 by omega] at HL1
  obtain ⟨v, hv⟩ : ∃ v : Int, v = (dm : Int) - (d2 : Int) := ⟨_, rfl⟩
  have HL2 := Lib.hid (lean_dr hc hq.dp hm.dp (by omega) (by omega))
  rw [← hv] at HL2
  have q1 : ¬ 0 < v := by omega
  have HT := Lib.hid (fun n => turnRight_any (w := w.drewN n) hb hc ne (hq.dp.drewN n) (hm.dp.drewN n) (ho.dp.drewN n) (off2 hq fq) (off2 hm fm) (off2 ho fo) (by omega) (by omega) (by omega))
  obtain ⟨_, _, _, _, _, _, b6, b7, _, bf⟩ := hb.cells
  rw [po_some] at b6
  have HO := Lib.hid ho
  have HM := Lib.hid hm
  have HQ := Lib.hid hq
  have FA : Hid ((∀ k, k ∈ Br → ¬ (k = b ∨ k = c)) ∧ (∀ k, k ∈ Bm → ¬ (k = b ∨ k = c)) ∧ (∀ k, k ∈ B2 → ¬ (k = b ∨ k = c))) := ⟨fo, fm, fq⟩
  have HD : Hid (d2 = dr + 1 ∧ dm ≤ d2 ∧ d2 ≤ dm + 1) := ⟨h2, h3, h4⟩
  clear hb hc ho hm hq hn h1 h2 h3 h4 h5 ne fo fm fq hv
  go_enter Try.func39, Try.ntmps39
  go_wp2_with (first
    | (go_at_call 48; ((with_reducible refine (HT.out _).mono ?_)); rintro e w3 ⟨rfl, ha, ha2, hc⟩; have HA := Lib.hid ha; have HA2 := Lib.hid ha2; have HC := Lib.hid hc.of_drewN; clear ha ha2 hc)
    | (go_at_call 47; have _ := n1; ((with_reducible refine (HL2.out _).mono ?_)); rintro e w2 ⟨rfl, n2, rfl⟩)
    | (go_at_call 47; ((with_reducible refine HL1.out.mono ?_)); rintro e w1 ⟨rfl, n1, rfl⟩))
  go_ret
  obtain ⟨g1, g2, g3⟩ := HD.out
  have t1 := tn_mk HA.out (HM.out.chg HC.out FA.out.2.1) (HO.out.chg HC.out FA.out.1) (by omega) (by omega)
  have t2 := tn_mk HA2.out (HQ.out.chg HC.out FA.out.2.2) t1 (by omega) (by omega)
  simp only [List.append_assoc, List.cons_append]
  exact ⟨some c, _, rfl, t2, by omega, by omega, fun h => h.elim, HC.out.weak (fun k e => by rcases e with rfl | rfl <;> simp)⟩
/-- The left side is deeper by two, and leans to the right. -/
theorem bal_lr {c g : Nat} {y z : En} {m1 m2 q : Option Nat} {e f c1 c2 d2 : Nat} {B1 B3 B2 : List Nat} {L1 L3 L2 : List En} (hb : NA w b x (some c) r d) (hc : NA w c y q (some g) e) (hg : NA w g z m1 m2 f) (ho : TN w dr r Br Lr) (hm1 : TN w c1 m1 B1 L1) (hm2 : TN w c2 m2 B3 L3) (hq : TN w d2 q B2 L2) (hn : ((B2 ++ c :: (B1 ++ g :: B3)) ++ b :: Br).Nodup) (h1 : dr ≤ 400000) (h2 : d2 = dr) (h3 : c1 ≤ c2 + 1) (h4 : c2 ≤ c1 + 1) (h5 : e = dr + 2) (h6 : f = dr + 1) (h7 : f = max c1 c2 + 1) :
    Calls Try.prog 39 #[pt b] w (BalP w (dr + 2) False ((B2 ++ c :: (B1 ++ g :: B3)) ++ b :: Br) ((L2 ++ y :: (L1 ++ z :: L3)) ++ x :: Lr)) := by
  obtain ⟨⟨nbc, nbg, ngc⟩, fq, f1, f2, fo⟩ := far3m hn
  have HL1 := Lib.hid (lean_any hb hc.dp ho.dp (by omega) (by omega))
  rw [show (dr : Int) - (e : Int) = -2 by omega] at HL1
  have HL2 := Lib.hid (lean_dr hc hq.dp hg.dp (by omega) (by omega))
  rw [show (f : Int) - (d2 : Int) = 1 by omega] at HL2
  have o1 := off2 hm1 (a := c) (c := g) (fun k hk e => e.elim (fun e => (f1 k hk).1 (.inr e)) (f1 k hk).2)
  have o2 := off2 hm2 (a := c) (c := g) (fun k hk e => e.elim (fun e => (f2 k hk).1 (.inr e)) (f2 k hk).2)
  have o3 := off2 hq (a := c) (c := g) (fun k hk e => e.elim (fun e => (fq k hk).1 (.inr e)) (fq k hk).2)
  have HT := Lib.hid (fun n => turnLeft_any (w := w.drewN n) hc hg (Ne.symm ngc) (hq.dp.drewN n) (hm1.dp.drewN n) (hm2.dp.drewN n) o3 o1 o2 (by omega) (by omega) (by omega))
  obtain ⟨_, _, _, _, _, _, b6, b7, _, bf⟩ := hb.cells
  rw [po_some] at b6
  have HB := Lib.hid hb
  have HO := Lib.hid ho
  have HM1 := Lib.hid hm1
  have HM2 := Lib.hid hm2
  have HQ := Lib.hid hq
  have FA : Hid ((∀ k, k ∈ Br → ¬ (k = b ∨ k = c) ∧ k ≠ g) ∧ (∀ k, k ∈ B1 → ¬ (k = b ∨ k = c) ∧ k ≠ g) ∧ (∀ k, k ∈ B3 → ¬ (k = b ∨ k = c) ∧ k ≠ g) ∧ (∀ k, k ∈ B2 → ¬ (k = b ∨ k = c) ∧ k ≠ g)) := ⟨fo, f1, f2, fq⟩
  have NE : Hid (b ≠ c ∧ b ≠ g ∧ g ≠ c) := ⟨nbc, nbg, ngc⟩
  have HD : Hid (dr ≤ 400000 ∧ d2 = dr ∧ c1 ≤ c2 + 1 ∧ c2 ≤ c1 + 1 ∧ dr = max c1 c2) := ⟨h1, h2, h3, h4, by omega⟩
  clear hb hc hg ho hm1 hm2 hq hn h1 h2 h3 h4 h5 h6 h7 nbc nbg ngc fo f1 f2 fq o1 o2 o3
  go_enter Try.func39, Try.ntmps39
  go_wp2_with (first
    | (go_at_call 49; ((with_reducible refine (HT.out _).mono ?_)); rintro e w3 ⟨rfl, ha, ha2, hc⟩; have HA := Lib.hid ha; have HA2 := Lib.hid ha2; have HC := Lib.hid hc.of_drewN; have HB3 := Lib.hid (HB.out.chg hc.of_drewN (fun e => e.elim NE.out.1 NE.out.2.1)); obtain ⟨_, _, _, _, _, _, b6, _, _, bf⟩ := HB3.out.cells; clear ha ha2 hc)
    | (go_at_call 47; have _ := n1; ((with_reducible refine (HL2.out _).mono ?_)); rintro e w2 ⟨rfl, n2, rfl⟩)
    | (go_at_call 47; ((with_reducible refine HL1.out.mono ?_)); rintro e w1 ⟨rfl, n1, rfl⟩))
  have HC4 : Hid (Chg (fun k => (k = b ∨ k = c) ∨ k = g) w (w3.setCell ⟨b, 6, none⟩ (pt g))) := chg_set (F := fun k => (k = b ∨ k = c) ∨ k = g) (HC.out.weak (fun k e => e.elim (fun e => .inl (.inr e)) .inr)) (.inl (.inl rfl)) _ _
  have g1 := HB3.out.setL (some g)
  have g2 := HA2.out.set (Ne.symm NE.out.2.1) 6 (pt g)
  have g3 := HA.out.set (Ne.symm NE.out.1) 6 (pt g)
  have FF : ∀ {B : List Nat}, (∀ k, k ∈ B → ¬ (k = b ∨ k = c) ∧ k ≠ g) → ∀ k, k ∈ B → ¬ ((k = b ∨ k = c) ∨ k = g) := fun h k hk e => e.elim (h k hk).1 (h k hk).2
  have FG : ∀ {B : List Nat}, (∀ k, k ∈ B → ¬ (k = b ∨ k = c) ∧ k ≠ g) → ∀ k, k ∈ B → ¬ (k = b ∨ k = g) := fun h k hk e => e.elim (fun e => (h k hk).1 (.inl e)) (h k hk).2
  have k0 := HO.out.chg HC4.out (FF FA.out.1)
  have k1 := HM1.out.chg HC4.out (FF FA.out.2.1)
  have k2 := HM2.out.chg HC4.out (FF FA.out.2.2.1)
  have k3 := HQ.out.chg HC4.out (FF FA.out.2.2.2)
  have o0 := off2 k0 (FG FA.out.1)
  have o1 := off2 k2 (FG FA.out.2.2.1)
  obtain ⟨h1, h2, h3, h4, h5⟩ := HD.out
  refine (turnRight_any g1 g2 NE.out.2.1 g3.dp k2.dp k0.dp ⟨fun e => NE.out.1 (Option.some.inj e).symm, fun e => NE.out.2.2 (Option.some.inj e).symm⟩ o1 o0 (by omega) (by omega) (by omega)).mono ?_
  rintro e w5 ⟨rfl, ha, ha2, hc⟩
  have HC5 := Lib.hid (HC4.out.then (hc.weak fun k e => e.elim (fun e => .inl (.inl e)) .inr))
  have t1 := tn_mk ha (k2.chg hc (FG FA.out.2.2.1)) (k0.chg hc (FG FA.out.1)) (by omega) (by omega)
  have g4 := g3.chg hc (fun e => e.elim (fun e => NE.out.1 e.symm) (fun e => NE.out.2.2 e.symm))
  have t2 := tn_mk g4 (k3.chg hc (FG FA.out.2.2.2)) (k1.chg hc (FG FA.out.2.1)) (by omega) (by omega)
  have t3 := tn_mk (dl := max d2 c1 + 1) (dr := max c2 dr + 1) ha2 t2 t1 (by omega) (by omega)
  simp only [List.append_assoc, List.cons_append] at t3
  have HT3 := Lib.hid t3
  have HDD : Hid (max (max d2 c1 + 1) (max c2 dr + 1) + 1 = dr + 2) := by simp only [Hid]; omega
  clear t1 t2 t3 k0 k1 k2 k3 o0 o1 g1 g2 g3 g4 ha ha2 hc h1 h2 h3 h4 h5
  go_wp2
  go_ret
  have hdd := HDD.out
  exact ⟨some g, max (max d2 c1 + 1) (max c2 dr + 1) + 1, rfl, (by simp only [List.append_assoc, List.cons_append]; exact HT3.out), by omega, by omega, fun h => h.elim, HC5.out.weak (fun k e => by rcases e with (rfl | rfl) | rfl <;> simp)⟩
/-- balance: whatever the sides are, if they differ by at most two. -/
theorem balance_any (hb : NA w b x l r d) (hl : TN w dl l Bl Ll) (hr : TN w dr r Br Lr) (hn : (Bl ++ b :: Br).Nodup) (h1 : dl ≤ 300000) (h2 : dr ≤ 300000) (h3 : dl ≤ dr + 2) (h4 : dr ≤ dl + 2) :
    Calls Try.prog 39 #[pt b] w (BalP w (max dl dr) (dl ≤ dr + 1 ∧ dr ≤ dl + 1) (Bl ++ b :: Br) (Ll ++ x :: Lr)) := by
  rcases Nat.lt_or_ge (dl + 1) dr with h5 | h5
  · obtain ⟨c, rfl⟩ := hr.pos (by omega)
    obtain ⟨y, m, q, dm, d2, Bm, B2, Lm, L2, e1, e2, e3, rfl, rfl, hc, hm, hq⟩ := hr.node
    have hx : Calls Try.prog 39 #[pt b] w (BalP w (dl + 2) False (Bl ++ b :: (Bm ++ c :: B2)) (Ll ++ x :: (Lm ++ y :: L2))) := by
      rcases Nat.lt_or_ge d2 dm with h6 | h6
      · obtain ⟨g, rfl⟩ := hm.pos (by omega)
        obtain ⟨z, m1, m2, c1, c2, B1, B3, L1, L3, f1, f2, f3, rfl, rfl, hg, hm1, hm2⟩ := hm.node
        exact bal_rl hb hc hg hl hm1 hm2 hq hn (by omega) (by omega) f2 f3 (by omega) (by omega) f1
      · exact bal_rr hb hc hl hm hq hn (by omega) (by omega) h6 e3 (by omega)
    refine hx.mono ?_
    rintro e w' ⟨p', d', g1, g2, g3, g4, _, g5⟩
    exact ⟨p', d', g1, g2, by omega, by omega, fun h => by omega, g5⟩
  · rcases Nat.lt_or_ge (dr + 1) dl with h6 | h6
    · obtain ⟨c, rfl⟩ := hl.pos (by omega)
      obtain ⟨y, q, m, d2, dm, B2, Bm, L2, Lm, e1, e2, e3, rfl, rfl, hc, hq, hm⟩ := hl.node
      have hx : Calls Try.prog 39 #[pt b] w (BalP w (dr + 2) False ((B2 ++ c :: Bm) ++ b :: Br) ((L2 ++ y :: Lm) ++ x :: Lr)) := by
        rcases Nat.lt_or_ge d2 dm with h7 | h7
        · obtain ⟨g, rfl⟩ := hm.pos (by omega)
          obtain ⟨z, m1, m2, c1, c2, B1, B3, L1, L3, f1, f2, f3, rfl, rfl, hg, hm1, hm2⟩ := hm.node
          exact bal_lr hb hc hg hr hm1 hm2 hq hn (by omega) (by omega) f2 f3 (by omega) (by omega) f1
        · exact bal_ll hb hc hr hm hq hn (by omega) (by omega) h7 e2 (by omega)
      refine hx.mono ?_
      rintro e w' ⟨p', d', g1, g2, g3, g4, _, g5⟩
      exact ⟨p', d', g1, g2, by omega, by omega, fun h => by omega, g5⟩
    · refine (bal_same hb hl hr hn (by omega) (by omega) h6 h5).mono ?_
      rintro e w' ⟨p', d', g1, g2, g3, g4, g6, g5⟩
      exact ⟨p', d', g1, g2, g3, g4, fun _ => g6 trivial, g5⟩
end
end Go.Proofs.Ytmbbmgkbhfnchaa
