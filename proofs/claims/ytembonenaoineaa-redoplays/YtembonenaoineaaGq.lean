/- What Append and Reset write, told without memory, and what a crash leaves of it. No condition but those that each fact names. -/
import Derived.Test.YtembonenaoineaaGp
namespace Go.Proofs.Ytembonenaoineaa
set_option maxRecDepth 100000
set_option linter.unusedVariables false
open Lb (encI encIs encS nxtI resI nxtS resS encI_len In64)

def ch (x : List UInt8) (j : Nat) : List UInt8 := (x.drop (j * 64)).take 64
def nch (x : List UInt8) : Nat := (x.length + 63) / 64
theorem ch_len (x : List UInt8) (j : Nat) : (ch x j).length ≤ 64 := by simp [ch]; omega
theorem ch_at (x : List UInt8) (j : Nat) {r : Nat} (h : r < 64) : (ch x j).getD r 0 = x.getD (j * 64 + r) 0 := by
  unfold ch
  rw [List.getD, List.getElem?_take, if_pos h, List.getElem?_drop, List.getD]
/-- j pieces of x written from sector i on, as far as it goes. -/
def wrs (s : DS) (i : Nat) (x : List UInt8) : Nat → Int × DS
  | 0 => (0, s)
  | j + 1 => if (wrs s i x j).1 = 0 then (wrE (wrs s i x j).2 ((i + j : Nat) : Int) (ch x j), wrS (wrs s i x j).2 ((i + j : Nat) : Int) (ch x j)) else wrs s i x j
theorem wrs_go {s : DS} {i j : Nat} {x : List UInt8} (h : (wrs s i x j).1 = 0) : wrs s i x (j + 1) = (wrE (wrs s i x j).2 ((i + j : Nat) : Int) (ch x j), wrS (wrs s i x j).2 ((i + j : Nat) : Int) (ch x j)) := by
  rw [wrs, if_pos h]
theorem wrs_stop {s : DS} {i j : Nat} {x : List UInt8} (h : (wrs s i x j).1 ≠ 0) : ∀ n, wrs s i x (j + n) = wrs s i x j
  | 0 => rfl
  | n + 1 => by
    have ih := wrs_stop h n
    rw [← Nat.add_assoc, wrs, ih, if_neg h]
/-- Sectors with m pieces of x laid over them from i on. -/
def over (S : List (List UInt8)) (i : Nat) (x : List UInt8) : Nat → List (List UInt8)
  | 0 => S
  | m + 1 => (over S i x m).set (i + m) (pad (ch x m))
def wl (i : Nat) (x : List UInt8) (m : Nat) : List (Nat × List UInt8) := (List.range m).map fun t => (i + t, pad (ch x t))
theorem wl_snoc (i : Nat) (x : List UInt8) (m : Nat) : wl i x (m + 1) = wl i x m ++ [(i + m, pad (ch x m))] := by
  simp [wl, List.range_succ]
theorem over_len (S : List (List UInt8)) (i : Nat) (x : List UInt8) : ∀ m, (over S i x m).length = S.length
  | 0 => rfl
  | m + 1 => by simp [over, over_len S i x m]
theorem set_getD {α : Type} (L : List α) (i t : Nat) (y d : α) : (L.set i y).getD t d = if i = t ∧ i < L.length then y else L.getD t d := by
  simp only [List.getD, List.getElem?_set]
  by_cases h : i = t
  · subst h
    by_cases h2 : i < L.length
    · simp [h2]
    · simp [h2]
  · simp [h]
theorem over_at (S : List (List UInt8)) (i : Nat) (x : List UInt8) : ∀ m, i + m ≤ S.length → ∀ t, (over S i x m).getD t [] = if i ≤ t ∧ t < i + m then pad (ch x (t - i)) else S.getD t []
  | 0, _, t => by rw [if_neg (by omega)]; rfl
  | m + 1, h, t => by
    rw [over, set_getD, over_len, over_at S i x m (by omega) t]
    by_cases e : i + m = t
    · subst e
      rw [if_pos ⟨rfl, by omega⟩, if_pos (by omega), show i + m - i = m by omega]
    · rw [if_neg (fun h => e h.1)]
      by_cases h2 : i ≤ t ∧ t < i + m
      · rw [if_pos h2, if_pos (by omega)]
      · rw [if_neg h2, if_neg (by omega)]
theorem wr_cases (s : DS) (i : Nat) (p : List UInt8) (hi : i < s.now.length) (hp : p.length ≤ 64) :
    (wrE s (i : Nat) p = 0 ∧ wrS s (i : Nat) p = put (ticked s) i (pad p)) ∨ (wrE s (i : Nat) p = 9 ∧ wrS s (i : Nat) p = ticked s ∧ s.life ≠ some none) := by
  have hf : fits s (i : Nat) p = true := by simp only [fits, decide_eq_true_eq]; omega
  cases hr : runsB s with
  | true => left; simp [wrE, wrS, hr, hf]
  | false =>
    right
    refine ⟨by simp [wrE, hr], by simp [wrS, hr], fun h => ?_⟩
    simp [runsB, h, tickL] at hr
theorem sy_cases (s : DS) : (syE s = 0 ∧ syS s = held (ticked s)) ∨ (syE s = 9 ∧ syS s = ticked s ∧ s.life ≠ some none) := by
  cases hr : runsB s with
  | true => left; simp [syE, syS, hr]
  | false =>
    right
    refine ⟨by simp [syE, hr], by simp [syS, hr], fun h => ?_⟩
    simp [runsB, h, tickL] at hr
theorem ticked_none {s : DS} (h : s.life = some none) : (ticked s).life = some none := by simp [ticked, h, tickL]
theorem wr_pad (s : DS) (i : Int) {p : List UInt8} (h : p.length ≤ 64) : wrE s i (pad p) = wrE s i p ∧ wrS s i (pad p) = wrS s i p := by
  have hf : fits s i (pad p) = fits s i p := by
    unfold fits; rw [pad_len h]
    congr 1
    apply propext
    constructor <;> (intro h; omega)
  unfold wrE wrS
  rw [hf, pad_pad h]
  exact ⟨rfl, rfl⟩
structure WrSt (s : DS) (i : Nat) (x : List UInt8) (j : Nat) (r : Int × DS) (m : Nat) : Prop where
  le : m ≤ j
  old : r.2.old = s.old
  now : r.2.now = over s.now i x m
  pend : r.2.pend = s.pend ++ wl i x m
  all : r.1 = 0 → m = j
  err : r.1 = 0 ∨ (r.1 = 9 ∧ s.life ≠ some none)
  life : s.life = some none → r.2.life = some none
theorem wrs_st (s : DS) (i : Nat) (x : List UInt8) : ∀ j, i + j ≤ s.now.length → ∃ m, WrSt s i x j (wrs s i x j) m
  | 0, _ => ⟨0, Nat.le_refl _, rfl, rfl, by simp [wrs, wl], fun _ => rfl, .inl rfl, fun h => h⟩
  | j + 1, h => by
    obtain ⟨m, ih⟩ := wrs_st s i x j (by omega)
    by_cases h0 : (wrs s i x j).1 = 0
    · have hm := ih.all h0
      subst hm
      rw [wrs_go h0]
      have hl : (wrs s i x m).2.now.length = s.now.length := by rw [ih.now, over_len]
      rcases wr_cases (wrs s i x m).2 (i + m) (ch x m) (by omega) (ch_len x m) with ⟨h1, h2⟩ | ⟨h1, h2, h3⟩
      · refine ⟨m + 1, Nat.le_refl _, ?_, ?_, ?_, fun _ => rfl, .inl h1, fun hl => ?_⟩
        · rw [h2]; exact ih.old
        · rw [h2]; show (wrs s i x m).2.now.set (i + m) _ = _; rw [ih.now]; rfl
        · rw [h2]; show (wrs s i x m).2.pend ++ [_] = _; rw [ih.pend, wl_snoc, List.append_assoc]
        · rw [h2]; exact ticked_none (ih.life hl)
      · refine ⟨m, by omega, ?_, ?_, ?_, (fun e => by rw [h1] at e; cases e), .inr ⟨h1, fun hl => h3 (ih.life hl)⟩, fun hl => ?_⟩
        · rw [h2]; exact ih.old
        · rw [h2]; exact ih.now
        · rw [h2]; exact ih.pend
        · exact absurd (ih.life hl) h3
    · rw [wrs, if_neg h0]
      exact ⟨m, by have := ih.le; omega, ih.old, ih.now, ih.pend, fun e => absurd e h0, ih.err, ih.life⟩

/-! An entry and its header written. -/
def st1 (s : DS) (i : Nat) (x : List UInt8) : DS := (wrs s i x (nch x)).2
def e1 (s : DS) (i : Nat) (x : List UInt8) : Int := (wrs s i x (nch x)).1
def st2 (s : DS) (i : Nat) (x : List UInt8) : DS := syS (st1 s i x)
def e2 (s : DS) (i : Nat) (x : List UInt8) : Int := syE (st1 s i x)
def hN (h : Hd) : Int := (h.n : Nat)
def hSec (h : Hd) : Nat := h.n % 2
def hB (h : Hd) : List UInt8 := hdE (h.n : Nat) (h.k : Nat) (h.z : Nat)
def st3 (s : DS) (i : Nat) (x : List UInt8) (h : Hd) : DS := wrS (st2 s i x) ((hSec h : Nat) : Int) (hB h)
def e3 (s : DS) (i : Nat) (x : List UInt8) (h : Hd) : Int := wrE (st2 s i x) ((hSec h : Nat) : Int) (hB h)
def st4 (s : DS) (i : Nat) (x : List UInt8) (h : Hd) : DS := syS (st3 s i x h)
def e4 (s : DS) (i : Nat) (x : List UInt8) (h : Hd) : Int := syE (st3 s i x h)
def saveE (s : DS) (i : Nat) (x : List UInt8) (h : Hd) : Int := if e1 s i x ≠ 0 then e1 s i x else if e2 s i x ≠ 0 then e2 s i x else if e3 s i x h ≠ 0 then e3 s i x h else e4 s i x h
def saveS (s : DS) (i : Nat) (x : List UInt8) (h : Hd) : DS := if e1 s i x ≠ 0 then st1 s i x else if e2 s i x ≠ 0 then st2 s i x else if e3 s i x h ≠ 0 then st3 s i x h else st4 s i x h
/-- Where it ended: within the entry; ahead of the header; behind the header, not lasting; at the end. -/
def Out (s : DS) (i : Nat) (x : List UInt8) (h : Hd) (E : Int) (t : DS) : Prop :=
  (E = 9 ∧ s.life ≠ some none ∧ ∃ m, m ≤ nch x ∧ t.now = over s.now i x m ∧ t.old = s.old ∧ t.pend = s.pend ++ wl i x m) ∨
  (E = 9 ∧ s.life ≠ some none ∧ t.now = over s.now i x (nch x) ∧ t.old = over s.now i x (nch x) ∧ t.pend = []) ∨
  (E = 9 ∧ s.life ≠ some none ∧ t.now = (over s.now i x (nch x)).set (hSec h) (pad (hB h)) ∧ t.old = over s.now i x (nch x) ∧ t.pend = [(hSec h, pad (hB h))]) ∨
  (E = 0 ∧ (s.life = some none → t.life = some none) ∧ t.now = (over s.now i x (nch x)).set (hSec h) (pad (hB h)) ∧ t.old = t.now ∧ t.pend = [])
theorem out_a {s : DS} {i : Nat} {x : List UInt8} {h : Hd} (t : DS) (m : Nat) (hm : m ≤ nch x) (h1 : t.now = over s.now i x m) (h2 : t.old = s.old) (h3 : t.pend = s.pend ++ wl i x m) (hl : s.life ≠ some none) : Out s i x h 9 t := .inl ⟨rfl, hl, m, hm, h1, h2, h3⟩
theorem out_b {s : DS} {i : Nat} {x : List UInt8} {h : Hd} (t : DS) (h1 : t.now = over s.now i x (nch x)) (h2 : t.old = over s.now i x (nch x)) (h3 : t.pend = []) (hl : s.life ≠ some none) : Out s i x h 9 t := .inr (.inl ⟨rfl, hl, h1, h2, h3⟩)
theorem out_c {s : DS} {i : Nat} {x : List UInt8} {h : Hd} (t : DS) (h1 : t.now = (over s.now i x (nch x)).set (hSec h) (pad (hB h))) (h2 : t.old = over s.now i x (nch x)) (h3 : t.pend = [(hSec h, pad (hB h))]) (hl : s.life ≠ some none) : Out s i x h 9 t := .inr (.inr (.inl ⟨rfl, hl, h1, h2, h3⟩))
theorem out_d {s : DS} {i : Nat} {x : List UInt8} {h : Hd} (t : DS) (h1 : t.now = (over s.now i x (nch x)).set (hSec h) (pad (hB h))) (h2 : t.old = t.now) (h3 : t.pend = []) (hl : s.life = some none → t.life = some none) : Out s i x h 0 t := .inr (.inr (.inr ⟨rfl, hl, h1, h2, h3⟩))
theorem save_out (s : DS) (i : Nat) (x : List UInt8) (h : Hd) (hi : i + nch x ≤ s.now.length) (h4 : 4 ≤ s.now.length) (hh : (hB h).length ≤ 64) : Out s i x h (saveE s i x h) (saveS s i x h) := by
  obtain ⟨m, ih⟩ := wrs_st s i x (nch x) hi
  unfold saveE saveS
  by_cases g1 : e1 s i x = 0
  · have n1 : ¬ (e1 s i x ≠ 0) := by simpa using g1
    rw [if_neg n1, if_neg n1]
    have hm := ih.all g1
    subst hm
    have hl1 : s.life = some none → (st1 s i x).life = some none := ih.life
    have hn1 : (st1 s i x).now = over s.now i x (nch x) := ih.now
    have hs : hSec h < s.now.length := by unfold hSec; omega
    rcases sy_cases (st1 s i x) with ⟨q1, q2⟩ | ⟨q1, q2, q3⟩
    · have n2 : ¬ (e2 s i x ≠ 0) := by simpa [e2] using q1
      rw [if_neg n2, if_neg n2]
      have hn2 : (st2 s i x).now = over s.now i x (nch x) := by unfold st2; rw [q2]; exact hn1
      have ho2 : (st2 s i x).old = over s.now i x (nch x) := by unfold st2; rw [q2]; exact hn1
      have hp2 : (st2 s i x).pend = [] := by unfold st2; rw [q2]; rfl
      have hl2 : s.life = some none → (st2 s i x).life = some none := fun hl => by unfold st2; rw [q2]; exact ticked_none (hl1 hl)
      rcases wr_cases (st2 s i x) (hSec h) (hB h) (by rw [hn2, over_len]; exact hs) hh with ⟨w1, w2⟩ | ⟨w1, w2, w3⟩
      · have n3 : ¬ (e3 s i x h ≠ 0) := by simpa [e3] using w1
        rw [if_neg n3, if_neg n3]
        have hn3 : (st3 s i x h).now = (over s.now i x (nch x)).set (hSec h) (pad (hB h)) := by unfold st3; rw [w2]; show (st2 s i x).now.set _ _ = _; rw [hn2]
        have ho3 : (st3 s i x h).old = over s.now i x (nch x) := by unfold st3; rw [w2]; exact ho2
        have hp3 : (st3 s i x h).pend = [(hSec h, pad (hB h))] := by unfold st3; rw [w2]; show (st2 s i x).pend ++ _ = _; rw [hp2]; rfl
        have hl3 : s.life = some none → (st3 s i x h).life = some none := fun hl => by unfold st3; rw [w2]; exact ticked_none (hl2 hl)
        rcases sy_cases (st3 s i x h) with ⟨v1, v2⟩ | ⟨v1, v2, v3⟩
        · rw [show e4 s i x h = 0 from v1]
          refine out_d _ ?_ ?_ ?_ ?_
          · unfold st4; rw [v2]; exact hn3
          · unfold st4; rw [v2]; rfl
          · unfold st4; rw [v2]; rfl
          · intro hl; unfold st4; rw [v2]; exact ticked_none (hl3 hl)
        · rw [show e4 s i x h = 9 from v1]
          refine out_c _ ?_ ?_ ?_ (fun hl => v3 (hl3 hl))
          · unfold st4; rw [v2]; exact hn3
          · unfold st4; rw [v2]; exact ho3
          · unfold st4; rw [v2]; exact hp3
      · have e : e3 s i x h = 9 := w1
        have y3 : e3 s i x h ≠ 0 := by rw [e]; decide
        rw [if_pos y3, if_pos y3, e]
        refine out_b _ ?_ ?_ ?_ (fun hl => w3 (hl2 hl))
        · unfold st3; rw [w2]; exact hn2
        · unfold st3; rw [w2]; exact ho2
        · unfold st3; rw [w2]; exact hp2
    · have e : e2 s i x = 9 := q1
      have y2 : e2 s i x ≠ 0 := by rw [e]; decide
      rw [if_pos y2, if_pos y2, e]
      refine out_a _ (nch x) (Nat.le_refl _) ?_ ?_ ?_ (fun hl => q3 (hl1 hl))
      · unfold st2; rw [q2]; exact hn1
      · unfold st2; rw [q2]; exact ih.old
      · unfold st2; rw [q2]; exact ih.pend
  · have e : e1 s i x = 9 := (ih.err.resolve_left g1).1
    have y1 : e1 s i x ≠ 0 := by rw [e]; decide
    rw [if_pos y1, if_pos y1, e]
    exact out_a _ m ih.le ih.now ih.old ih.pend (ih.err.resolve_left g1).2

/-! What a disk says of a log. -/
structure Inv (S : List (List UInt8)) (h : Hd) (b : List UInt8) : Prop where
  here : hdAt S (h.n % 2) = h
  there : (hdAt S ((h.n + 1) % 2)).n ≤ h.n - 1
  cont : cont S h = b
theorem Inv.newest {S : List (List UInt8)} {h : Hd} {b : List UInt8} (hi : Inv S h b) : newest S = h := by
  have h1 := hi.here
  have h2 := hi.there
  rcases (show h.n % 2 = 0 ∨ h.n % 2 = 1 by omega) with e | e
  · rw [e] at h1
    rw [show (h.n + 1) % 2 = 1 by omega] at h2
    unfold Proofs.Ytembonenaoineaa.newest
    rw [h1, if_neg (by omega)]
  · rw [e] at h1
    rw [show (h.n + 1) % 2 = 0 by omega] at h2
    unfold Proofs.Ytembonenaoineaa.newest
    rw [h1, if_pos (by omega)]
theorem Inv.bd {S : List (List UInt8)} {h : Hd} {b : List UInt8} (hi : Inv S h b) : h.n ≤ 1099511627776 ∧ h.k ≤ 1 ∧ h.z ≤ bk S * 64 ∧ b.length = h.z := by
  have := hdIn_bd (bk S) (S.getD (h.n % 2) [])
  have e : hdIn (bk S) (S.getD (h.n % 2) []) = h := hi.here
  rw [e] at this
  exact ⟨this.1, this.2.1, this.2.2.1, by rw [← hi.cont, cont_len]⟩
theorem inv_zero (n : Nat) (hn : 2 ≤ n) : Inv (List.replicate n zsec) hd0 [] := by
  have e : ∀ i, i < 2 → hdAt (List.replicate n zsec) i = hd0 := fun i hi => by
    unfold hdAt
    rw [getD_at (by simp; omega)]
    simp [hdIn_zero]
  exact ⟨e 0 (by omega), by rw [e _ (by omega)]; exact Nat.le_refl _, rfl⟩
theorem hdAt_eq {S S' : List (List UInt8)} (hl : S'.length = S.length) {i j : Nat} (h : S'.getD i [] = S.getD j []) : hdAt S' i = hdAt S j := by
  unfold hdAt bk; rw [hl, h]
theorem fst_eq {S S' : List (List UInt8)} (hl : S'.length = S.length) (k : Nat) : fst S' k = fst S k := by unfold fst bk; rw [hl]
theorem Inv.stay {S S' : List (List UInt8)} {h : Hd} {b : List UInt8} (hi : Inv S h b) (hl : S'.length = S.length) (h0 : S'.getD 0 [] = S.getD 0 []) (h1 : S'.getD 1 [] = S.getD 1 [])
    (hb : ∀ p, p < h.z → byt S' (fst S h.k) p = byt S (fst S h.k) p) : Inv S' h b := by
  have e : ∀ i, i < 2 → hdAt S' i = hdAt S i := fun i hi => hdAt_eq hl (by rcases (show i = 0 ∨ i = 1 by omega) with rfl | rfl; exact h0; exact h1)
  refine ⟨(e _ (by omega)).trans hi.here, by rw [e _ (by omega)]; exact hi.there, ?_⟩
  rw [← hi.cont]
  unfold Proofs.Ytembonenaoineaa.cont
  rw [fst_eq hl]
  exact List.map_congr_left fun p hp => hb p (by simpa using hp)
theorem Inv.grow {S S' : List (List UInt8)} {h : Hd} {b x : List UInt8} (hi : Inv S h b) (hl : S'.length = S.length) (hm : bk S ≤ 1000) {nx : Hd} (hn : nx.n = h.n + 1) (hv : hvB (bk S) nx.n nx.k nx.z = true)
    (h0 : S'.getD (nx.n % 2) [] = pad (hB nx)) (h1 : S'.getD (h.n % 2) [] = S.getD (h.n % 2) []) (hc : Proofs.Ytembonenaoineaa.cont S' nx = x) : Inv S' nx x := by
  refine ⟨?_, ?_, hc⟩
  · unfold hdAt
    rw [h0, show bk S' = bk S by unfold bk; rw [hl]]
    exact hdIn_own hm hv
  · rw [show (nx.n + 1) % 2 = h.n % 2 by omega, hdAt_eq hl h1, hi.here]; omega

theorem app_left {b e : List UInt8} {p : Nat} (h : p < b.length) : (b ++ e).getD p 0 = b.getD p 0 := by
  simp [List.getD, List.getElem?_append_left h]
/-- Where an entry goes: behind the log, or to the beginning of the other bank. -/
structure Lay (h : Hd) (b : List UInt8) (k : Nat) (b' : List UInt8) : Prop where
  how : (k = h.k ∧ b' = b) ∨ (k = 1 - h.k ∧ b' = [])
  k1 : k ≤ 1
def lI (S : List (List UInt8)) (k : Nat) (b' : List UInt8) : Nat := fst S k + b'.length / 64
def lX (b' e : List UInt8) : List UInt8 := (b' ++ e).drop (b'.length / 64 * 64)
theorem lX_len (b' e : List UInt8) : (lX b' e).length = b'.length % 64 + e.length := by
  unfold lX; rw [List.length_drop, List.length_append]; omega
theorem lX_at (b' e : List UInt8) (q : Nat) : (lX b' e).getD q 0 = (b' ++ e).getD (b'.length / 64 * 64 + q) 0 := by
  unfold lX; rw [List.getD, List.getElem?_drop, List.getD]
theorem lX_nch {b' e : List UInt8} {m : Nat} (h : (b' ++ e).length ≤ m * 64) : b'.length / 64 + nch (lX b' e) ≤ m := by
  rw [List.length_append] at h
  unfold nch; rw [lX_len]; omega
theorem lay_in {S : List (List UInt8)} {k : Nat} {b' e : List UInt8} (h4 : 4 ≤ S.length) (hk : k ≤ 1) (hx : (b' ++ e).length ≤ bk S * 64) : lI S k b' + nch (lX b' e) ≤ S.length := by
  have := fst_bd h4 hk
  have := lX_nch hx
  unfold lI; omega
theorem cont_at {S : List (List UInt8)} {h : Hd} {p : Nat} (hp : p < h.z) : (cont S h).getD p 0 = byt S (fst S h.k) p := by
  rw [getD_at (by rw [cont_len]; exact hp)]
  simp [cont]
/-- Sectors written for an entry leave the log as it was. -/
theorem lay_stay {S S' : List (List UInt8)} {h : Hd} {b b' e : List UInt8} {k : Nat} (h4 : 4 ≤ S.length) (hc : cont S h = b) (hk : h.k ≤ 1) (hz : h.z ≤ bk S * 64) (hL : Lay h b k b') (hx : (b' ++ e).length ≤ bk S * 64)
    (hS : ∀ t, S'.getD t [] = S.getD t [] ∨ (lI S k b' ≤ t ∧ t < lI S k b' + nch (lX b' e) ∧ S'.getD t [] = pad (ch (lX b' e) (t - lI S k b')))) : ∀ p, p < h.z → byt S' (fst S h.k) p = byt S (fst S h.k) p := by
  intro p hp
  unfold byt
  rcases hS (fst S h.k + p / 64) with e1 | ⟨e1, e2, e3⟩
  · rw [e1]
  · have hn := lX_nch hx
    rcases hL.how with ⟨rfl, rfl⟩ | ⟨rfl, rfl⟩
    · have hbl : b'.length = h.z := by rw [← hc, cont_len]
      unfold lI at e1 e2 e3
      have ep : p / 64 = b'.length / 64 := by omega
      rw [e3, pad_at, show fst S h.k + p / 64 - (fst S h.k + b'.length / 64) = 0 by omega, ch_at _ _ (by omega), lX_at, show b'.length / 64 * 64 + (0 * 64 + p % 64) = p by omega]
      rw [app_left (by omega), ← hc, cont_at hp]
      rfl
    · exfalso
      simp only [lI, List.length_nil, Nat.zero_div, Nat.add_zero] at e1 e2
      simp only [List.length_nil, Nat.zero_div, Nat.zero_add] at hn
      have : h.k = 0 ∨ h.k = 1 := by omega
      rcases this with e | e
      · rw [e] at e1 e2; simp only [fst] at e1 e2; omega
      · rw [e] at e1 e2; simp only [fst] at e1 e2; omega
/-- Behind them the log has one entry more. -/
theorem lay_new {S S' : List (List UInt8)} {h : Hd} {b b' e : List UInt8} {k : Nat} (hl : S'.length = S.length) (hc : cont S h = b) (hL : Lay h b k b')
    (hS : ∀ t, fst S k ≤ t → S'.getD t [] = if lI S k b' ≤ t ∧ t < lI S k b' + nch (lX b' e) then pad (ch (lX b' e) (t - lI S k b')) else S.getD t []) (n : Nat) : cont S' ⟨n, k, (b' ++ e).length⟩ = b' ++ e := by
  unfold cont
  rw [fst_eq hl]
  refine Eq.trans (List.map_congr_left fun p hp => ?_) (list_range (b' ++ e))
  have hp' : p < (b' ++ e).length := by simpa using hp
  show byt S' (fst S k) p = _
  have hlx := lX_len b' e
  rw [List.length_append] at hp'
  unfold byt
  rw [hS _ (by omega)]
  by_cases hq : p / 64 < b'.length / 64
  · rw [if_neg (by unfold lI; omega)]
    rcases hL.how with ⟨rfl, rfl⟩ | ⟨rfl, rfl⟩
    · have hbl : b'.length = h.z := by rw [← hc, cont_len]
      rw [app_left (by omega)]
      show byt S (fst S h.k) p = b'.getD p 0
      rw [← hc, cont_at (by omega)]
    · simp at hq
  · rw [if_pos (by unfold lI nch; omega), pad_at, ch_at _ _ (by omega), lX_at]
    congr 1
    unfold lI; omega
theorem bk_set (S : List (List UInt8)) (i : Nat) (y : List UInt8) : bk (S.set i y) = bk S := by simp [bk]
/-- After a crash each sector is as it lasted, or as a write that waited has it. -/
theorem crs_or (keep : List Bool) (pend : List (Nat × List UInt8)) (l : List (List UInt8)) : ∀ k, k ≤ pend.length → ∀ t, (crs keep pend l k).getD t [] = l.getD t [] ∨ ∃ q ∈ pend, q.1 = t ∧ (crs keep pend l k).getD t [] = q.2
  | 0, _, t => .inl rfl
  | k + 1, hk, t => by
    have ih := crs_or keep pend l k (by omega) t
    unfold crs
    split
    · have hm : pend.getD k (0, []) ∈ pend := by rw [getD_at (show k < pend.length by omega)]; exact List.getElem_mem _
      rw [set_getD]
      split
      · rename_i h
        exact .inr ⟨_, hm, h.1, rfl⟩
      · exact ih
    · exact ih
def nxt (h : Hd) (k : Nat) (b' e : List UInt8) : Hd := ⟨h.n + 1, k, (b' ++ e).length⟩
/-- The disk of a log at rest. -/
structure Rest (s : DS) (h : Hd) (b : List UInt8) : Prop where
  ok : DOk s
  four : 4 ≤ s.now.length
  pend : s.pend = []
  old : s.old = s.now
  inv : Inv s.now h b
theorem hB_len {h : Hd} (hn : h.n ≤ 1099511627777) (hk : h.k ≤ 1) (hz : h.z ≤ 1000000) : (hB h).length ≤ 30 := by
  apply hdE_len <;> (constructor <;> omega)
section
variable {s : DS} {h : Hd} {b b' e : List UInt8} {k : Nat}
/-- What a crash leaves where an entry has been laid, or some of it: the log as it was, or with the entry. -/
theorem save_inv (hr : Rest s h b) (hL : Lay h b k b') (hx : (b' ++ e).length ≤ bk s.now * 64) (hn : h.n < 1099511627776) {E : Int} {t : DS} (ho : Out s (lI s.now k b') (lX b' e) (nxt h k b' e) E t) :
    (E = 0 ∨ (E = 9 ∧ s.life ≠ some none)) ∧ (E = 0 → Inv t.now (nxt h k b' e) (b' ++ e) ∧ t.pend = [] ∧ t.old = t.now ∧ (s.life = some none → t.life = some none)) ∧ t.now.length = s.now.length ∧
    (∀ keep, Inv (crL t keep) h b ∨ Inv (crL t keep) (nxt h k b' e) (b' ++ e)) ∧ (∀ keep, E = 0 → Inv (crL t keep) (nxt h k b' e) (b' ++ e)) := by
  have hbd := hr.inv.bd
  have h4 := hr.four
  have hfew := hr.ok.few
  have hbk : bk s.now ≤ 1000 := by unfold bk; omega
  have hin := lay_in (e := e) h4 hL.k1 hx
  have hf2 : 2 ≤ lI s.now k b' := by unfold lI fst; omega
  have hsec : hSec (nxt h k b' e) < 2 := by unfold hSec; omega
  have hv : hvB (bk s.now) ((nxt h k b' e).n : Nat) ((nxt h k b' e).k : Nat) ((nxt h k b' e).z : Nat) = true := by
    have hk := hL.k1
    unfold hvB nxt
    refine decide_eq_true ⟨by simp only; omega, by simp only; omega, ?_, by simp only; omega, by simp only; omega⟩
    rcases (show k = 0 ∨ k = 1 by omega) with rfl | rfl
    · exact .inl rfl
    · exact .inr rfl
  -- sectors that are as they were, or written for the entry
  have stay : ∀ S' : List (List UInt8), S'.length = s.now.length → (∀ t, S'.getD t [] = s.now.getD t [] ∨ (lI s.now k b' ≤ t ∧ t < lI s.now k b' + nch (lX b' e) ∧ S'.getD t [] = pad (ch (lX b' e) (t - lI s.now k b')))) → Inv S' h b := fun S' hl hS =>
    hr.inv.stay hl ((hS 0).resolve_right (by omega)) ((hS 1).resolve_right (by omega)) (lay_stay h4 hr.inv.cont hbd.2.1 hbd.2.2.1 hL hx hS)
  have hfull : ∀ t, (over s.now (lI s.now k b') (lX b' e) (nch (lX b' e))).getD t [] = s.now.getD t [] ∨ (lI s.now k b' ≤ t ∧ t < lI s.now k b' + nch (lX b' e) ∧ (over s.now (lI s.now k b') (lX b' e) (nch (lX b' e))).getD t [] = pad (ch (lX b' e) (t - lI s.now k b'))) := fun t => by
    rw [over_at _ _ _ _ hin]
    split
    · rename_i hc; exact .inr ⟨hc.1, hc.2, rfl⟩
    · exact .inl rfl
  -- and the header
  have hset : ∀ t, ((over s.now (lI s.now k b') (lX b' e) (nch (lX b' e))).set (hSec (nxt h k b' e)) (pad (hB (nxt h k b' e)))).getD t [] = if hSec (nxt h k b' e) = t then pad (hB (nxt h k b' e)) else (over s.now (lI s.now k b') (lX b' e) (nch (lX b' e))).getD t [] := fun t => by
    rw [set_getD, over_len]
    by_cases hc : hSec (nxt h k b' e) = t
    · rw [if_pos ⟨hc, by omega⟩, if_pos hc]
    · rw [if_neg (fun h => hc h.1), if_neg hc]
  have grow : Inv ((over s.now (lI s.now k b') (lX b' e) (nch (lX b' e))).set (hSec (nxt h k b' e)) (pad (hB (nxt h k b' e)))) (nxt h k b' e) (b' ++ e) := by
    refine hr.inv.grow (by simp [over_len]) hbk rfl hv ?_ ?_ ?_
    · rw [hset, if_pos (show hSec (nxt h k b' e) = (nxt h k b' e).n % 2 from rfl)]
    · rw [hset, if_neg (by unfold hSec nxt; simp only; omega)]
      exact (hfull _).resolve_right (by omega)
    · refine lay_new (by simp [over_len]) hr.inv.cont hL (fun t ht => ?_) _
      have h2t : 2 ≤ t := by have : 2 ≤ fst s.now k := by unfold fst; omega
                             omega
      rw [hset, if_neg (by omega), over_at _ _ _ _ hin]
  rcases ho with ⟨rfl, hl, m, hm, h1, h2, h3⟩ | ⟨rfl, hl, h1, h2, h3⟩ | ⟨rfl, hl, h1, h2, h3⟩ | ⟨rfl, hl, h1, h2, h3⟩
  · show _
    have hcr : ∀ keep, Inv (crL t keep) h b := fun keep => by
      refine stay _ ?_ fun j => ?_
      · unfold crL; rw [crs_len, h2, hr.old]
      · unfold crL
        rw [h2, hr.old, h3, hr.pend, List.nil_append]
        rcases crs_or keep (wl (lI s.now k b') (lX b' e) m) s.now _ (Nat.le_refl _) j with hj | ⟨q, hq, hq1, hq2⟩
        · exact .inl hj
        · obtain ⟨c, hc, rfl⟩ := List.mem_map.1 hq
          have hc' : c < m := by simpa using hc
          simp only at hq1 hq2
          subst hq1
          exact .inr ⟨by omega, by omega, by rw [hq2, show lI s.now k b' + c - lI s.now k b' = c by omega]⟩
    exact ⟨.inr ⟨rfl, hl⟩, (fun h => by cases h), by rw [h1, over_len], fun keep => .inl (hcr keep), (fun _ h => by cases h)⟩
  · show _
    have hcr : ∀ keep, crL t keep = over s.now (lI s.now k b') (lX b' e) (nch (lX b' e)) := fun keep => by unfold crL; rw [h3, h2]; rfl
    exact ⟨.inr ⟨rfl, hl⟩, (fun h => by cases h), by rw [h1, over_len], fun keep => .inl (by rw [hcr]; exact stay _ (over_len _ _ _ _) hfull), (fun _ h => by cases h)⟩
  · show _
    refine ⟨.inr ⟨rfl, hl⟩, (fun h => by cases h), by rw [h1]; simp [over_len], fun keep => ?_, (fun _ h => by cases h)⟩
    unfold crL
    rw [h3, h2]
    show Inv (crs keep _ _ (0 + 1)) h b ∨ Inv (crs keep _ _ (0 + 1)) _ _
    unfold crs
    split
    · exact .inr grow
    · exact .inl (stay _ (over_len _ _ _ _) hfull)
  · show _
    have hcr : ∀ keep, crL t keep = t.now := fun keep => by unfold crL; rw [h3, h2]; rfl
    have hg : Inv t.now (nxt h k b' e) (b' ++ e) := by rw [h1]; exact grow
    exact ⟨.inl rfl, fun _ => ⟨hg, h3, h2, hl⟩, by rw [h1]; simp [over_len], fun keep => .inr (by rw [hcr]; exact hg), fun keep _ => by rw [hcr]; exact hg⟩
/-- Where an entry has been laid whole, the bank reads it behind the rest; whatever the disk is. -/
theorem save_cont (h4 : 4 ≤ s.now.length) (hc : cont s.now h = b) (hL : Lay h b k b') (hx : (b' ++ e).length ≤ bk s.now * 64) {t : DS} (ho : Out s (lI s.now k b') (lX b' e) (nxt h k b' e) 0 t) :
    cont t.now (nxt h k b' e) = b' ++ e ∧ t.now.length = s.now.length := by
  have hin := lay_in (e := e) h4 hL.k1 hx
  rcases ho with ⟨h0, _⟩ | ⟨h0, _⟩ | ⟨h0, _⟩ | ⟨_, hl, h1, h2, h3⟩
  · cases h0
  · cases h0
  · cases h0
  · show _
    have hlen : t.now.length = s.now.length := by rw [h1]; simp [over_len]
    refine ⟨lay_new hlen hc hL (fun j hj => ?_) _, hlen⟩
    have h2j : 2 ≤ j := by have : 2 ≤ fst s.now k := by unfold fst; omega
                           omega
    rw [h1, set_getD, if_neg (by unfold hSec; omega), over_at _ _ _ _ hin]
end
end Go.Proofs.Ytembonenaoineaa
