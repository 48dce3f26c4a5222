/- A log told without memory: headers, the bytes of a bank, entries, what Append and Reset write, and what a crash leaves of it. No condition but those that each fact names. -/
import Derived.Test.YtembonenaoineaaLb
import Derived.Test.YtembonenaoineaaDp
namespace Go.Proofs.Ytembonenaoineaa
set_option maxRecDepth 100000
set_option linter.unusedVariables false
open Lb (encI encIs encS nxtI resI nxtS resS dv dv_some dv_enc nxtI_enc resI_enc nxtS_enc resS_enc encI_len zig_unzig M lim_zero In64)
open Go.Lib (uvarint zigzag unzigzag)

/-- A header: its number, its bank, how many bytes. -/
structure Hd where
  n : Nat
  k : Nat
  z : Nat
def hd0 : Hd := ⟨0, 0, 0⟩
/-- Sectors of a bank. -/
def bk (S : List (List UInt8)) : Nat := (S.length - 2) / 2
def hvB (m : Nat) (n k z : Int) : Bool := decide (1 ≤ n ∧ n ≤ 1099511627776 ∧ (k = 0 ∨ k = 1) ∧ 0 ≤ z ∧ z ≤ ((m * 64 : Nat) : Int))
def hdE (n k z : Int) : List UInt8 := encIs [n, k, z]
def r1 (l : List UInt8) : Int := resI (some l)
def r2 (l : List UInt8) : Int := resI (nxtI (some l))
def r3 (l : List UInt8) : Int := resI (nxtI (nxtI (some l)))
def hdOk (m : Nat) (l : List UInt8) : Bool := hvB m (r1 l) (r2 l) (r3 l) && decide (pad (hdE (r1 l) (r2 l) (r3 l)) = l)
def hdIn (m : Nat) (l : List UInt8) : Hd := if hdOk m l then ⟨(r1 l).toNat, (r2 l).toNat, (r3 l).toNat⟩ else hd0
def hdAt (S : List (List UInt8)) (i : Nat) : Hd := hdIn (bk S) (S.getD i [])
def newest (S : List (List UInt8)) : Hd := if (hdAt S 0).n < (hdAt S 1).n then hdAt S 1 else hdAt S 0
/-- Byte p behind sector o. -/
def byt (S : List (List UInt8)) (o p : Nat) : UInt8 := (S.getD (o + p / 64) []).getD (p % 64) 0
def fst (S : List (List UInt8)) (k : Nat) : Nat := 2 + k * bk S
def cont (S : List (List UInt8)) (h : Hd) : List UInt8 := (List.range h.z).map (byt S (fst S h.k))

theorem resI_bd (st : Option (List UInt8)) : -9223372036854775808 ≤ resI st ∧ resI st ≤ 9223372036854775807 := by
  cases st with
  | none => simp [resI]
  | some l =>
    cases hd : dv 0 l with
    | none => simp [resI, hd]
    | some p =>
      obtain ⟨z, s⟩ := p
      have h := (dv_some l 0 z s (by omega) hd).1
      rw [lim_zero] at h
      simpa [resI, hd] using Lb.unzig_bd z h
theorem nxtI_inv {l r : List UInt8} (h : nxtI (some l) = some r) : encI (resI (some l)) ++ r = l := by
  cases hd : dv 0 l with
  | none => simp [nxtI, hd] at h
  | some p =>
    obtain ⟨z, s⟩ := p
    obtain ⟨h1, _, h3, h4⟩ := dv_some l 0 z s (by omega) hd
    simp [nxtI, hd] at h
    subst h
    have e : resI (some l) = unzigzag z := by simp [resI, hd]
    rw [e]
    unfold encI
    rw [zig_unzig]
    exact h4
theorem hdE_len {n k z : Int} (hn : In64 n) (hk : In64 k) (hz : In64 z) : (hdE n k z).length ≤ 30 := by
  have h1 := (encI_len n hn.1 hn.2).1
  have h2 := (encI_len k hk.1 hk.2).1
  have h3 := (encI_len z hz.1 hz.2).1
  simp only [hdE, encIs, List.flatMap_cons, List.flatMap_nil, List.append_nil, List.length_append]; omega
theorem hdE_eq (n k z : Int) : hdE n k z = encI n ++ (encI k ++ encI z) := by simp [hdE, encIs]
/-- A sector is its header and zero bytes, just where three integers are read and zero bytes remain. -/
theorem hd_rest {l : List UInt8} (hl : l.length = 64) : pad (hdE (r1 l) (r2 l) (r3 l)) = l ↔ ∃ r, nxtI (nxtI (nxtI (some l))) = some r ∧ ∀ b ∈ r, b = 0 := by
  constructor
  · intro h
    have b1 := resI_bd (some l)
    have b2 := resI_bd (nxtI (some l))
    have b3 := resI_bd (nxtI (nxtI (some l)))
    generalize he : r1 l = n at h
    generalize hf : r2 l = k at h
    generalize hg : r3 l = z at h
    have c1 : -9223372036854775808 ≤ n ∧ n ≤ 9223372036854775807 := he ▸ b1
    have c2 : -9223372036854775808 ≤ k ∧ k ≤ 9223372036854775807 := hf ▸ b2
    have c3 : -9223372036854775808 ≤ z ∧ z ≤ 9223372036854775807 := hg ▸ b3
    refine ⟨List.replicate (64 - (hdE n k z).length) 0, ?_, fun b hb => List.eq_of_mem_replicate hb⟩
    rw [← h]
    unfold pad
    generalize List.replicate (64 - (hdE n k z).length) (0 : UInt8) = r
    rw [hdE_eq, List.append_assoc, List.append_assoc, nxtI_enc n c1.1 c1.2, nxtI_enc k c2.1 c2.2, nxtI_enc z c3.1 c3.2]
  · rintro ⟨r, h, hz⟩
    cases h1 : nxtI (some l) with
    | none => rw [h1] at h; cases h
    | some l1 =>
      rw [h1] at h
      cases h2 : nxtI (some l1) with
      | none => rw [h2] at h; cases h
      | some l2 =>
        rw [h2] at h
        have e1 := nxtI_inv h1
        have e2 := nxtI_inv h2
        have e3 := nxtI_inv h
        have hr : r = List.replicate r.length 0 := List.eq_replicate_iff.2 ⟨rfl, hz⟩
        have f1 : r1 l = resI (some l) := rfl
        have f2 : r2 l = resI (some l1) := by unfold r2; rw [h1]
        have f3 : r3 l = resI (some l2) := by unfold r3; rw [h1, h2]
        have hle : (hdE (r1 l) (r2 l) (r3 l)) ++ r = l := by
          rw [hdE_eq, f1, f2, f3, List.append_assoc, List.append_assoc, e3, e2, e1]
        have hlen := congrArg List.length hle
        rw [List.length_append, hl] at hlen
        unfold pad
        rw [show 64 - (hdE (r1 l) (r2 l) (r3 l)).length = r.length by omega, ← hr]
        exact hle
theorem pad_at {p : List UInt8} (r : Nat) : (pad p).getD r 0 = p.getD r 0 := by
  unfold pad
  rcases Nat.lt_or_ge r p.length with h | h
  · simp [List.getD, List.getElem?_append_left h]
  · rw [List.getD, List.getElem?_append_right h, List.getD, List.getElem?_eq_none h]
    rcases Nat.lt_or_ge (r - p.length) (64 - p.length) with h2 | h2
    · simp [h2]
    · rw [List.getElem?_eq_none (by simpa using h2)]
theorem pad_pad {p : List UInt8} (h : p.length ≤ 64) : pad (pad p) = pad p := by
  rw [pad, pad_len h]; simp
/-- What is read back of a header that was written. -/
theorem hdIn_own {m n k z : Nat} (hm : m ≤ 1000) (h : hvB m n k z = true) : hdIn m (pad (hdE n k z)) = ⟨n, k, z⟩ := by
  have h' := h
  simp only [hvB, decide_eq_true_eq] at h'
  have c1 : -9223372036854775808 ≤ (n : Int) ∧ (n : Int) ≤ 9223372036854775807 := by omega
  have c2 : -9223372036854775808 ≤ (k : Int) ∧ (k : Int) ≤ 9223372036854775807 := by omega
  have c3 : -9223372036854775808 ≤ (z : Int) ∧ (z : Int) ≤ 9223372036854775807 := by omega
  have e1 : r1 (pad (hdE n k z)) = n := by
    unfold r1 pad; rw [hdE_eq, List.append_assoc]; exact resI_enc _ c1.1 c1.2 _
  have e2 : r2 (pad (hdE n k z)) = k := by
    unfold r2 pad; rw [hdE_eq, List.append_assoc, nxtI_enc _ c1.1 c1.2, List.append_assoc]; exact resI_enc _ c2.1 c2.2 _
  have e3 : r3 (pad (hdE n k z)) = z := by
    unfold r3 pad; rw [hdE_eq, List.append_assoc, nxtI_enc _ c1.1 c1.2, List.append_assoc, nxtI_enc _ c2.1 c2.2]; exact resI_enc _ c3.1 c3.2 _
  have e : hdOk m (pad (hdE n k z)) = true := by
    unfold hdOk; rw [e1, e2, e3, h]; simp
  unfold hdIn
  rw [if_pos e, e1, e2, e3]
  simp
theorem hdIn_bd (m : Nat) (l : List UInt8) : (hdIn m l).n ≤ 1099511627776 ∧ (hdIn m l).k ≤ 1 ∧ (hdIn m l).z ≤ m * 64 ∧ ((hdIn m l).n = 0 → hdIn m l = hd0) := by
  unfold hdIn
  split
  · rename_i h
    simp only [hdOk, Bool.and_eq_true, hvB, decide_eq_true_eq] at h
    obtain ⟨⟨h1, h2, h3, h4, h5⟩, _⟩ := h
    refine ⟨by simp only; omega, by simp only; omega, by simp only; omega, fun h0 => by simp only at h0; omega⟩
  · exact ⟨by simp [hd0], by simp [hd0], by simp [hd0], fun _ => rfl⟩
theorem hdIn_zero (m : Nat) : hdIn m zsec = hd0 := by
  have e : r1 zsec = 0 := by decide +kernel
  unfold hdIn
  rw [if_neg]
  simp [hdOk, hvB, e]

/-! Entries. -/
theorem nxtS_lt {l r : List UInt8} (h : nxtS (some l) = some r) : r.length < l.length := by
  unfold nxtS at h
  cases h1 : nxtI (some l) with
  | none => rw [h1] at h; cases h
  | some l1 =>
    rw [h1] at h
    have e := congrArg List.length (nxtI_inv h1)
    have b := resI_bd (some l)
    have b2 := (encI_len _ b.1 b.2).2
    rw [List.length_append] at e
    simp only [Option.bind_some] at h
    split at h
    · injection h with h
      subst h
      rw [List.length_drop]; omega
    · cases h
def spl : Nat → List UInt8 → Option (List (List UInt8))
  | 0, l => if l = [] then some [] else none
  | f + 1, l => if l = [] then some [] else (nxtS (some l)).bind fun r => (spl f r).map (resS (some l) :: ·)
theorem spl_any : ∀ (f g : Nat) (l : List UInt8), l.length ≤ f → l.length ≤ g → spl f l = spl g l
  | 0, g, l, h, _ => by
    have : l = [] := List.length_eq_zero_iff.1 (by omega)
    subst this
    cases g <;> simp [spl]
  | f + 1, 0, l, _, h => by
    have : l = [] := List.length_eq_zero_iff.1 (by omega)
    subst this
    simp [spl]
  | f + 1, g + 1, l, h1, h2 => by
    unfold spl
    split
    · rfl
    · cases h : nxtS (some l) with
      | none => rfl
      | some r =>
        have := nxtS_lt h
        simp only [Option.bind_some]
        rw [spl_any f g r (by omega) (by omega)]
def ents (l : List UInt8) : Option (List (List UInt8)) := spl l.length l
theorem ents_nil : ents [] = some [] := rfl
theorem ents_step {l : List UInt8} (h : l ≠ []) : ents l = (nxtS (some l)).bind fun r => (ents r).map (resS (some l) :: ·) := by
  unfold ents
  obtain ⟨f, hf⟩ : ∃ f, l.length = f + 1 := ⟨l.length - 1, by have := List.length_pos_iff.2 h; omega⟩
  rw [hf, spl, if_neg h]
  cases h1 : nxtS (some l) with
  | none => rfl
  | some r =>
    have := nxtS_lt h1
    simp only [Option.bind_some]
    rw [spl_any f r.length r (by omega) (Nat.le_refl _)]
def enc (es : List (List UInt8)) : List UInt8 := es.flatMap encS
theorem enc_snoc (es : List (List UInt8)) (p : List UInt8) : enc (es ++ [p]) = enc es ++ encS p := by simp [enc]
theorem encS_pos {p : List UInt8} (h : p.length ≤ 9223372036854775807) : 1 ≤ (encS p).length := by
  have := (encI_len (p.length : Int) (by omega) (by omega)).2
  simp only [encS, List.length_append]; omega
theorem ents_enc : ∀ (es : List (List UInt8)), (∀ p ∈ es, p.length ≤ 9223372036854775807) → ents (enc es) = some es
  | [], _ => rfl
  | p :: es, h => by
    have hp := h p (by simp)
    have e : enc (p :: es) = encS p ++ enc es := by simp [enc]
    have hne : enc (p :: es) ≠ [] := fun h0 => by
      rw [e] at h0
      have := encS_pos hp
      have h2 := congrArg List.length h0
      rw [List.length_append] at h2
      simp only [List.length_nil] at h2; omega
    rw [ents_step hne, e, nxtS_enc p _ hp, resS_enc p _ hp, Option.bind_some, ents_enc es (fun q hq => h q (by simp [hq]))]
    rfl

/-! Bytes of a bank. -/
theorem flat_getD : ∀ (L : List (List UInt8)), (∀ x ∈ L, x.length = 64) → ∀ p, L.flatten.getD p 0 = (L.getD (p / 64) []).getD (p % 64) 0
  | [], _, p => by simp
  | x :: L, h, p => by
    have hx := h x (by simp)
    rw [List.flatten_cons]
    rcases Nat.lt_or_ge p 64 with hp | hp
    · rw [Nat.div_eq_of_lt hp, Nat.mod_eq_of_lt hp]
      simp [List.getD, List.getElem?_append_left (show p < x.length by omega)]
    · have ih := flat_getD L (fun y hy => h y (by simp [hy])) (p - 64)
      rw [List.getD, List.getElem?_append_right (by omega), hx]
      obtain ⟨q, rfl⟩ : ∃ q, p = q + 64 := ⟨p - 64, by omega⟩
      rw [show q + 64 - 64 = q by omega] at ih ⊢
      rw [show (q + 64) / 64 = q / 64 + 1 by omega, show (q + 64) % 64 = q % 64 by omega]
      simp only [List.getD_cons_succ]
      exact ih
theorem list_range (x : List UInt8) : (List.range x.length).map (fun p => x.getD p 0) = x := by
  apply List.ext_getElem
  · simp
  · intro i h1 h2
    simp [h2]
theorem flat_len64 : ∀ (L : List (List UInt8)), (∀ x ∈ L, x.length = 64) → L.flatten.length = L.length * 64
  | [], _ => by simp
  | x :: L, h => by
    rw [List.flatten_cons, List.length_append, flat_len64 L (fun y hy => h y (by simp [hy])), h x (by simp), List.length_cons]; omega
def bankL (S : List (List UInt8)) (k j : Nat) : List UInt8 := ((S.drop (fst S k)).take j).flatten
theorem bankL_snoc {S : List (List UInt8)} {k j : Nat} (h : fst S k + j < S.length) : bankL S k (j + 1) = bankL S k j ++ S.getD (fst S k + j) [] := by
  unfold bankL
  have h2 : j < (S.drop (fst S k)).length := by simp; omega
  rw [List.take_succ_eq_append_getElem h2, List.flatten_append, List.getElem_drop, getD_at h]
  simp
theorem bankL_len {S : List (List UInt8)} (hS : ∀ x ∈ S, x.length = 64) {k j : Nat} (h : fst S k + j ≤ S.length) : (bankL S k j).length = j * 64 := by
  unfold bankL
  rw [flat_len64 _ (fun x hx => hS x (List.mem_of_mem_drop (List.mem_of_mem_take hx)))]
  simp; omega
theorem bankL_cont {S : List (List UInt8)} (hS : ∀ x ∈ S, x.length = 64) {h : Hd} {m : Nat} (h1 : fst S h.k + m ≤ S.length) (hz : h.z ≤ m * 64) : (bankL S h.k m).take h.z = cont S h := by
  have hlen := bankL_len hS h1
  have hl2 : ((bankL S h.k m).take h.z).length = h.z := by rw [List.length_take, hlen]; omega
  rw [← list_range ((bankL S h.k m).take h.z), hl2]
  unfold cont
  refine List.map_congr_left fun p hp => ?_
  have hp' : p < h.z := by simpa using hp
  have hpm : p / 64 < m := by omega
  rw [List.getD, List.getElem?_take, if_pos hp', ← List.getD]
  unfold bankL byt
  rw [flat_getD _ (fun x hx => hS x (List.mem_of_mem_drop (List.mem_of_mem_take hx)))]
  congr 1
  rw [List.getD, List.getElem?_take, if_pos hpm, List.getElem?_drop, List.getD]
theorem cont_len (S : List (List UInt8)) (h : Hd) : (cont S h).length = h.z := by simp [cont]
theorem fst_bd {S : List (List UInt8)} {k : Nat} (h4 : 4 ≤ S.length) (hk : k ≤ 1) : fst S k + bk S ≤ S.length := by
  have : k = 0 ∨ k = 1 := by omega
  rcases this with rfl | rfl <;> simp only [fst, bk] <;> omega
end Go.Proofs.Ytembonenaoineaa
