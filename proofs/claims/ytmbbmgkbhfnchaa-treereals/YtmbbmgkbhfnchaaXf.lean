/- cutFirst, join and del of the program's nodes. Conditions: the nodes lie in memory, apart from one another, sorted; the entries are valid; depths are small. -/
import Derived.Test.YtmbbmgkbhfnchaaXe
namespace Go.Proofs.Ytmbbmgkbhfnchaa
set_option maxRecDepth 100000
set_option linter.unusedVariables false
open Go.ChangeShapes Go.WideShapes Go.ChangeAt Go.RowKit
open Fl (S)
open Val (V cmpV cmpI isB)
/-- A node one of whose sides has become less deep by at most one, balanced. -/
def DelM (w : World) (d : Nat) (B : List Nat) (L : List En) (e : Ending) (w' : World) : Prop := ∃ p' d', e = .returned (po p') ∧ TN w' d' p' B L ∧ d ≤ d' + 1 ∧ d' ≤ d ∧ Chg (fun k => k ∈ B) w w'
/-- What cutFirst makes. -/
def CutP (w : World) (d : Nat) (B : List Nat) (L : List En) (e : Ending) (w' : World) : Prop := ∃ p' d' c B' y L' l r d0, e = .returned (.tuple #[po p', pt c]) ∧ B = c :: B' ∧ L = y :: L' ∧ TN w' d' p' B' L' ∧ d ≤ d' + 1 ∧ d' ≤ d ∧ NA w' c y l r d0 ∧ Chg (fun k => k ∈ B) w w'
/-- What join makes. -/
def JoinP (w : World) (m : Nat) (B : List Nat) (L : List En) (e : Ending) (w' : World) : Prop := ∃ p' d', e = .returned (po p') ∧ TN w' d' p' B L ∧ m ≤ d' ∧ d' ≤ m + 1 ∧ Chg (fun k => k ∈ B) w w'
section
variable {w w' w2 : World} {b : Nat} {y : En} {l r p p2 : Option Nat} {d dl dr d0 d2 : Nat} {Bl Br B B2 : List Nat} {Ll Lr L L2 : List En}
theorem del_lo_mid (hb : NA w2 b y l r d0) (ht : TN w2 d2 p2 B2 L2) (hr : TN w2 dr r Br Lr) (hn : (B2 ++ b :: Br).Nodup) (g1 : dl ≤ d2 + 1) (g2 : d2 ≤ dl) (h1 : dl ≤ 250000) (h2 : dr ≤ 250000) (h3 : dl ≤ dr + 1) (h4 : dr ≤ dl + 1) : Calls Try.prog 39 #[pt b] (w2.setCell ⟨b, 6, none⟩ (po p2)) (DelM w2 (max dl dr + 1) (B2 ++ b :: Br) (L2 ++ y :: Lr)) := by
  obtain ⟨n1, n2, n3, n4, n5⟩ := nodup_mid hn
  have hs : ∀ k, k ≠ b → (w2.setCell ⟨b, 6, none⟩ (po p2)).heap[k]? = w2.heap[k]? := fun k hk => heap_setCell_other w2 ⟨b, 6, none⟩ k (po p2) hk
  have ht2 := ht.same (w' := w2.setCell ⟨b, 6, none⟩ (po p2)) (fun k hk => hs k (fun e => n3 (e ▸ hk)))
  have hr2 := hr.same (w' := w2.setCell ⟨b, 6, none⟩ (po p2)) (fun k hk => hs k (fun e => n4 (e ▸ hk)))
  refine (balance_any (hb.setL p2) ht2 hr2 hn (by omega) (by omega) (by omega) (by omega)).mono ?_
  rintro e w' ⟨p', d', rfl, t1, t2, t3, t4, t5⟩
  refine ⟨p', d', rfl, t1, ?_, ?_, (chg_set (F := fun k => k ∈ B2 ++ b :: Br) (Chg.refl _ w2) (by simp) _ _).then t5⟩
  · by_cases hx : d2 ≤ dr + 1 ∧ dr ≤ d2 + 1
    · have := t4 hx; omega
    · omega
  · by_cases hx : d2 ≤ dr + 1 ∧ dr ≤ d2 + 1
    · have := t4 hx; omega
    · omega
theorem del_hi_mid (hb : NA w2 b y l r d0) (hl : TN w2 dl l Bl Ll) (ht : TN w2 d2 p2 B2 L2) (hn : (Bl ++ b :: B2).Nodup) (g1 : dr ≤ d2 + 1) (g2 : d2 ≤ dr) (h1 : dl ≤ 250000) (h2 : dr ≤ 250000) (h3 : dl ≤ dr + 1) (h4 : dr ≤ dl + 1) : Calls Try.prog 39 #[pt b] (w2.setCell ⟨b, 7, none⟩ (po p2)) (DelM w2 (max dl dr + 1) (Bl ++ b :: B2) (Ll ++ y :: L2)) := by
  obtain ⟨n1, n2, n3, n4, n5⟩ := nodup_mid hn
  have hs : ∀ k, k ≠ b → (w2.setCell ⟨b, 7, none⟩ (po p2)).heap[k]? = w2.heap[k]? := fun k hk => heap_setCell_other w2 ⟨b, 7, none⟩ k (po p2) hk
  have ht2 := ht.same (w' := w2.setCell ⟨b, 7, none⟩ (po p2)) (fun k hk => hs k (fun e => n4 (e ▸ hk)))
  have hl2 := hl.same (w' := w2.setCell ⟨b, 7, none⟩ (po p2)) (fun k hk => hs k (fun e => n3 (e ▸ hk)))
  refine (balance_any (hb.setR p2) hl2 ht2 hn (by omega) (by omega) (by omega) (by omega)).mono ?_
  rintro e w' ⟨p', d', rfl, t1, t2, t3, t4, t5⟩
  refine ⟨p', d', rfl, t1, ?_, ?_, (chg_set (F := fun k => k ∈ Bl ++ b :: B2) (Chg.refl _ w2) (by simp) _ _).then t5⟩
  · by_cases hx : dl ≤ d2 + 1 ∧ d2 ≤ dl + 1
    · have := t4 hx; omega
    · omega
  · by_cases hx : dl ≤ d2 + 1 ∧ d2 ≤ dl + 1
    · have := t4 hx; omega
    · omega
theorem cut_nodup {c : Nat} (hn : (Bl ++ b :: Br).Nodup) (e : Bl = c :: B2) : (B2 ++ b :: Br).Nodup := by
  subst e
  exact (List.nodup_cons.1 hn).2
theorem cut_end {c : Nat} {z : En} {gl gr p4 : Option Nat} {d4 : Nat} (hn : (Bl ++ b :: Br).Nodup ∧ Bl.Nodup ∧ Br.Nodup ∧ b ∉ Bl ∧ b ∉ Br ∧ ∀ k, k ∈ Bl → k ∉ Br) (h2 : Bl = c :: B2 ∧ Ll = z :: L2 ∧ NA w2 c z gl gr d0 ∧ Chg (fun k => k ∈ Bl) w w2)
    (h4 : TN w' d4 p4 (B2 ++ b :: Br) (L2 ++ y :: Lr) ∧ d ≤ d4 + 1 ∧ d4 ≤ d ∧ Chg (fun k => k ∈ B2 ++ b :: Br) w2 w') : CutP w d (Bl ++ b :: Br) (Ll ++ y :: Lr) (.returned (.tuple #[po p4, pt c])) w' := by
  obtain ⟨e1, e2, g1, g2⟩ := h2
  subst e1; subst e2
  obtain ⟨k1, k2, k3, k4⟩ := h4
  have hc := (List.nodup_cons.1 hn.1).1
  exact ⟨p4, d4, c, B2 ++ b :: Br, z, L2 ++ y :: Lr, gl, gr, d0, rfl, rfl, rfl, k1, k2, k3, g1.chg k4 hc, (g2.weak (fun k h => List.mem_append_left _ h)).then (k4.weak (fun k h => List.mem_cons_of_mem _ h))⟩
theorem cut_any : ∀ (d : Nat) (w : World) (b : Nat) (B : List Nat) (L : List En), TN w d (some b) B L → B.Nodup → d ≤ 200000 → Calls Try.prog 51 #[pt b] w (CutP w d B L) := by
  intro d
  induction d using Nat.strongRecOn with
  | _ d ih =>
    intro w b B L h hn hd
    obtain ⟨y, l, r, dl, dr, Bl, Br, Ll, Lr, rfl, h3, h4, rfl, rfl, hb, hl, hr⟩ := h.node
    obtain ⟨n1, n2, n3, n4, n5⟩ := nodup_mid hn
    obtain ⟨_, _, _, _, _, _, k6, k7, _, kf⟩ := hb.cells
    cases l with
    | none =>
      obtain ⟨rfl, rfl, rfl⟩ := hl.nil
      have HB := Lib.hid hb
      have HR := Lib.hid hr
      have HN := Lib.hid hn
      rw [po_none] at k6
      clear ih h hn hd h3 h4 hb hl hr n1 n2 n3 n4 n5
      go_enter Try.func51, Try.ntmps51
      go_wp2
      go_ret2
      exact ⟨r, dr, b, Br, y, Lr, none, r, _, rfl, rfl, rfl, HR.out, by omega, by omega, HB.out, Chg.refl _ _⟩
    | some c =>
      have HI := Lib.hid (ih dl (by omega) w c Bl Ll hl n1 (by omega))
      have HB := Lib.hid hb
      have HR := Lib.hid hr
      have HN := Lib.hid (And.intro hn (And.intro n1 (And.intro n2 (And.intro n3 (And.intro n4 n5)))))
      have HD : Hid (dl ≤ 200000 ∧ dr ≤ 200000 ∧ dl ≤ dr + 1 ∧ dr ≤ dl + 1) := ⟨by omega, by omega, h3, h4⟩
      rw [po_some] at k6
      clear ih h hn hd h3 h4 hb hl hr n1 n2 n3 n4 n5
      go_enter Try.func51, Try.ntmps51
      go_wp2_with (first
        | (go_at_call 39; (with_reducible refine (HM.out).mono ?_); rintro e w4 ⟨p4, d4, rfl, h4⟩; have H4 := Lib.hid h4; clear h4)
        | (go_at_call 51; (with_reducible refine (HI.out).mono ?_); rintro e w2 ⟨p2, d2, g, B2, z, L2, gl, gr, d0, rfl, e1, e2, ht, hd1, hd2, hg, hch⟩; have H2 := Lib.hid (And.intro e1 (And.intro e2 (And.intro hg hch))); have hb2 := HB.out.chg hch HN.out.2.2.2.1; have HM := Lib.hid (del_lo_mid hb2 ht (HR.out.chg hch (fun k h5 h6 => HN.out.2.2.2.2.2 k h6 h5)) (cut_nodup HN.out.1 e1) hd1 hd2 (by have := HD.out; omega) (by have := HD.out; omega) HD.out.2.2.1 HD.out.2.2.2); obtain ⟨_, _, _, _, _, _, q6, _, _, qf⟩ := hb2.cells; clear e1 e2 ht hd1 hd2 hg hch hb2))
      go_ret2
      exact cut_end HN.out H2.out H4.out
end
end Go.Proofs.Ytmbbmgkbhfnchaa
