/- A log at rest, and what Append, Reset, a crash and Open make of it. Conditions: as each fact names them. -/
import Derived.Test.YtembonenaoineaaGy
namespace Go.Proofs.Ytembonenaoineaa
set_option maxRecDepth 100000
set_option linter.unusedVariables false
open Go.ChangeShapes Go.WideShapes Go.ChangeAt Go.RowKit
open Lb (encI encIs encS In64 encI_len encSs encSs_len encS_len)
open Go.Lib (uvarint zigzag uvarint_small uvarint_big)

theorem encI_two {n : Nat} (h : n ≤ 8191) : (encI (n : Int)).length ≤ 2 := by
  unfold encI
  have hz : zigzag (n : Int) = 2 * n := by unfold zigzag; rw [if_pos (by omega)]; omega
  rw [hz]
  by_cases h1 : 2 * n < 128
  · rw [uvarint_small h1]; simp
  · rw [uvarint_big (by omega), uvarint_small (by omega)]; simp
theorem encS_two {p : List UInt8} (h : p.length ≤ 8191) : (encS p).length ≤ p.length + 2 := by
  have := encI_two h
  simp only [encS, List.length_append]; omega
def sumL (es : List (List UInt8)) : Nat := (es.map fun p => p.length + 2).sum
theorem sumL_snoc (es : List (List UInt8)) (p : List UInt8) : sumL (es ++ [p]) = sumL es + (p.length + 2) := by simp [sumL]
theorem enc_len : ∀ (es : List (List UInt8)), (∀ p ∈ es, p.length ≤ 8191) → (enc es).length ≤ sumL es
  | [], _ => by simp [enc, sumL]
  | p :: es, h => by
    have h1 := encS_two (h p (by simp))
    have h2 := enc_len es (fun q hq => h q (by simp [hq]))
    simp only [enc, sumL, List.flatMap_cons, List.length_append, List.map_cons, List.sum_cons] at *; omega
theorem sumL_mem {es : List (List UInt8)} {p : List UInt8} (h : p ∈ es) : p.length + 2 ≤ sumL es := by
  induction es with
  | nil => cases h
  | cons q es ih =>
    simp only [sumL, List.map_cons, List.sum_cons] at *
    rcases List.mem_cons.1 h with rfl | h
    · omega
    · have := ih h; omega
theorem sumL_few (es : List (List UInt8)) : 2 * es.length ≤ sumL es := by
  induction es with
  | nil => simp
  | cons q es ih => simp only [sumL, List.map_cons, List.sum_cons, List.length_cons] at *; omega

theorem wrs_ok {s : DS} (h : DOk s) (i : Nat) (x : List UInt8) : ∀ j, DOk (wrs s i x j).2
  | 0 => h
  | j + 1 => by
    have ih := wrs_ok h i x j
    unfold wrs
    split
    · exact wrS_ok ih _ _
    · exact ih
theorem saveS_ok {s : DS} (h : DOk s) (i : Nat) (x : List UInt8) (nh : Hd) : DOk (saveS s i x nh) := by
  have h1 : DOk (st1 s i x) := wrs_ok h i x _
  have h2 : DOk (st2 s i x) := syS_ok h1
  have h3 : DOk (st3 s i x nh) := wrS_ok h2 _ _
  unfold saveS
  split
  · exact h1
  · split
    · exact h2
    · split
      · exact h3
      · exact syS_ok h3
theorem apS_ok {s : DS} (h : DOk s) (L : LG) (at' : Hd) (e : List UInt8) : DOk (apS s L at' e) := by
  unfold apS
  split
  · exact h
  · split
    · exact saveS_ok h _ _ _
    · exact h
theorem take_getD {l : List UInt8} {k q : Nat} (h : q < k) : (l.take k).getD q 0 = l.getD q 0 := by rw [List.getD, List.getElem?_take, if_pos h, List.getD]
theorem drop_getD {l : List UInt8} {k q : Nat} : (l.drop k).getD q 0 = l.getD (k + q) 0 := by rw [List.getD, List.getElem?_drop, List.getD]
/-- The bytes of the log that are in an entry's first sector already. -/
theorem pX_lX {s : DS} {at' : Hd} {b' e : List UInt8} (hc : cont s.now at' = b') (hsec : (s.now.getD (pI s at') []).length = 64) : pX s at' e = lX b' e ∧ pI s at' = lI s.now at'.k b' := by
  have hl : b'.length = at'.z := by rw [← hc, cont_len]
  refine ⟨?_, by unfold pI lI; rw [hl]⟩
  unfold pX lX
  rw [List.drop_append_of_le_length (by omega)]
  congr 1
  have hl1 : ((s.now.getD (pI s at') []).take (at'.z % 64)).length = at'.z % 64 := by rw [List.length_take, hsec]; omega
  have hl2 : (b'.drop (b'.length / 64 * 64)).length = at'.z % 64 := by rw [List.length_drop, hl]; omega
  rw [← list_range ((s.now.getD (pI s at') []).take (at'.z % 64)), ← list_range (b'.drop (b'.length / 64 * 64)), hl1, hl2]
  refine List.map_congr_left fun q hq => ?_
  have hq' : q < at'.z % 64 := by simpa using hq
  show ((s.now.getD (pI s at') []).take (at'.z % 64)).getD q 0 = (b'.drop (b'.length / 64 * 64)).getD q 0
  rw [take_getD hq', drop_getD, ← hc, cont_len, cont_at (show at'.z / 64 * 64 + q < at'.z by omega)]
  unfold byt pI
  rw [show (at'.z / 64 * 64 + q) / 64 = at'.z / 64 by omega, show (at'.z / 64 * 64 + q) % 64 = q by omega]
/-- A log at rest: its disk, its head, its entries. -/
structure Rst (s : DS) (L : LG) (es : List (List UInt8)) : Prop where
  rest : Rest s L.h (enc es)
  alive : L.dead = false
  cnt : L.cnt = es.length
def atOf (rs : Bool) (L : LG) : Hd := if rs then oth L.h else L.h
def cOf (rs : Bool) (L : LG) : Nat := if rs then 0 else L.cnt
def esOf (rs : Bool) (es : List (List UInt8)) : List (List UInt8) := if rs then [] else es
theorem cont_zero (S : List (List UInt8)) (n k : Nat) : cont S ⟨n, k, 0⟩ = [] := rfl
/-- What a crash may leave of a log: es, in some header. -/
def Left (S : List (List UInt8)) (es : List (List UInt8)) (n : Nat) : Prop := ∃ h, Inv S h (enc es) ∧ h.n ≤ n
theorem ap_step {s : DS} {L : LG} {es : List (List UInt8)} (h : Rst s L es) (rs : Bool) (p : List UInt8) (hp : p.length ≤ 8191) (hx : (enc (esOf rs es) ++ encS p).length ≤ bk s.now * 64) (hn : L.h.n < 1099511627776) :
    ((apE s L (atOf rs L) (encS p) = 0 ∧ Rst (apS s L (atOf rs L) (encS p)) (apL s L (atOf rs L) (cOf rs L) (encS p)) (esOf rs es ++ [p]) ∧ (apL s L (atOf rs L) (cOf rs L) (encS p)).h.n = L.h.n + 1 ∧ (s.life = some none → (apS s L (atOf rs L) (encS p)).life = some none)) ∨
     (apE s L (atOf rs L) (encS p) = 9 ∧ s.life ≠ some none ∧ apL s L (atOf rs L) (cOf rs L) (encS p) = ⟨L.h, L.cnt, true⟩)) ∧
    (apS s L (atOf rs L) (encS p)).now.length = s.now.length ∧
    (∀ keep, Left (crL (apS s L (atOf rs L) (encS p)) keep) es (L.h.n + 1) ∨ Left (crL (apS s L (atOf rs L) (encS p)) keep) (esOf rs es ++ [p]) (L.h.n + 1)) ∧
    (∀ keep, apE s L (atOf rs L) (encS p) = 0 → Left (crL (apS s L (atOf rs L) (encS p)) keep) (esOf rs es ++ [p]) (L.h.n + 1)) := by
  have hr := h.rest
  have hbd := hr.inv.bd
  have hpos := encS_pos (p := p) (by omega)
  have hfew := bk_few hr.ok.few
  -- where it goes
  have hL : Lay L.h (enc es) (atOf rs L).k (enc (esOf rs es)) := by
    cases rs with
    | false => exact ⟨.inl ⟨rfl, rfl⟩, hbd.2.1⟩
    | true => exact ⟨.inr ⟨rfl, rfl⟩, by show 1 - L.h.k ≤ 1; omega⟩
  have hc : cont s.now (atOf rs L) = enc (esOf rs es) := by
    cases rs with
    | false => exact hr.inv.cont
    | true => rfl
  have hzl : (enc (esOf rs es)).length = (atOf rs L).z := by rw [← hc, cont_len]
  have han : (atOf rs L).n = L.h.n := by cases rs <;> rfl
  rw [List.length_append] at hx
  have hz : (atOf rs L).z + (encS p).length ≤ bk s.now * 64 := by omega
  have hok : nxOk s (atOf rs L) (encS p) = true := by
    have hk1 := hL.k1
    unfold nxOk hvB
    refine decide_eq_true ⟨by omega, by omega, ?_, by omega, by omega⟩
    rcases (show (atOf rs L).k = 0 ∨ (atOf rs L).k = 1 by omega) with e | e <;> rw [e]
    · exact .inl rfl
    · exact .inr rfl
  have hE : apE s L (atOf rs L) (encS p) = saveE s (pI s (atOf rs L)) (pX s (atOf rs L) (encS p)) (nx (atOf rs L) (encS p)) := by simp [apE, h.alive, hok]
  have hS : apS s L (atOf rs L) (encS p) = saveS s (pI s (atOf rs L)) (pX s (atOf rs L) (encS p)) (nx (atOf rs L) (encS p)) := by simp [apS, h.alive, hok]
  have hin := fst_bd hr.four hL.k1
  have hsec : (s.now.getD (pI s (atOf rs L)) []).length = 64 := sec_len hr.ok (by unfold pI; omega)
  obtain ⟨hX, hI⟩ := pX_lX (e := encS p) hc hsec
  have hnx : nx (atOf rs L) (encS p) = nxt L.h (atOf rs L).k (enc (esOf rs es)) (encS p) := by
    unfold nx nxt; rw [han, List.length_append, hzl]
  have hout : Out s (lI s.now (atOf rs L).k (enc (esOf rs es))) (lX (enc (esOf rs es)) (encS p)) (nxt L.h (atOf rs L).k (enc (esOf rs es)) (encS p)) (apE s L (atOf rs L) (encS p)) (apS s L (atOf rs L) (encS p)) := by
    rw [hE, hS, hX, hI, hnx]
    refine save_out s _ _ _ (lay_in hr.four hL.k1 (by rw [List.length_append]; omega)) hr.four ?_
    have := hB_len (h := nxt L.h (atOf rs L).k (enc (esOf rs es)) (encS p)) (by show L.h.n + 1 ≤ _; omega) hL.k1 (by show (enc (esOf rs es) ++ encS p).length ≤ _; rw [List.length_append]; omega)
    omega
  obtain ⟨i1, i2, i3, i4, i5⟩ := save_inv hr hL (by rw [List.length_append]; omega) hn hout
  have hes : enc (esOf rs es) ++ encS p = enc (esOf rs es ++ [p]) := (enc_snoc _ _).symm
  rw [hes] at i2 i4 i5
  have hnn : (nxt L.h (atOf rs L).k (enc (esOf rs es)) (encS p)).n ≤ L.h.n + 1 := Nat.le_refl _
  refine ⟨?_, i3, fun keep => by rcases i4 keep with h | h; exact .inl ⟨_, h, by omega⟩; exact .inr ⟨_, h, hnn⟩, fun keep h0 => ⟨_, i5 keep h0, hnn⟩⟩
  rcases i1 with h0 | ⟨h9, hl⟩
  · left
    have hLL : apL s L (atOf rs L) (cOf rs L) (encS p) = ⟨nx (atOf rs L) (encS p), cOf rs L + 1, false⟩ := by
      rw [hE] at h0
      simp [apL, h.alive, hok, h0]
    obtain ⟨j1, j2, j3, j4⟩ := i2 h0
    refine ⟨h0, ⟨⟨apS_ok hr.ok _ _ _, by rw [i3]; exact hr.four, j2, j3, ?_⟩, by rw [hLL], ?_⟩, by rw [hLL, hnx]; rfl, j4⟩
    · rw [hLL, hnx]; exact j1
    · rw [hLL]
      show cOf rs L + 1 = _
      cases rs with
      | false => simp [cOf, esOf, h.cnt]
      | true => simp [cOf, esOf]
  · right
    refine ⟨h9, hl, ?_⟩
    rw [hE] at h9
    simp [apL, h.alive, hok, h9]
theorem ap_dead (s : DS) {L : LG} (at' : Hd) (c0 : Nat) (e : List UInt8) (h : L.dead = true) : apE s L at' e = 9 ∧ apS s L at' e = s ∧ apL s L at' c0 e = L := by simp [apE, apS, apL, h]
/-- A new disk. -/
theorem rst_new (n : Nat) (h4 : 4 ≤ n) (hn : n ≤ 200) : Rst (nwS (n : Nat)) ⟨hd0, 0, false⟩ [] := by
  have hm : many (n : Nat) = n := by unfold many; omega
  refine ⟨⟨nwS_ok _, ?_, rfl, rfl, ?_⟩, rfl, rfl⟩
  · rw [nwS_len, hm]; exact h4
  · show Inv (List.replicate (many (n : Nat)) zsec) hd0 []
    rw [hm]
    exact inv_zero n (by omega)
/-- A disk behind a crash. -/
theorem rst_crash {s : DS} (hok : DOk s) (h4 : 4 ≤ s.now.length) {keep : List Bool} {es : List (List UInt8)} {n : Nat} (h : Left (crL s keep) es n) : ∃ hd, Rst (crS s keep) ⟨hd, es.length, false⟩ es ∧ hd.n ≤ n := by
  obtain ⟨hd, hi, hle⟩ := h
  refine ⟨hd, ⟨⟨crS_ok hok keep, ?_, rfl, rfl, hi⟩, rfl, rfl⟩, hle⟩
  show 4 ≤ (crL s keep).length
  rw [crL_len hok]; exact h4
/-- What Open finds of a log at rest. -/
theorem open_rst {F : Nat → Prop} {w : World} {a : Nat} {s : DS} {L : LG} {es : List (List UInt8)} (h : PD F w a s) (hr : Rest s L.h (enc es)) (hes : ∀ p ∈ es, p.length ≤ 9223372036854775807) :
    Calls Try.prog 13 #[.pointer (some ⟨a, 0, none⟩)] w fun e w' => Below w.heap.size w w' ∧ ∃ c v, e = .returned (.tuple #[.pointer (some ⟨c, 0, none⟩), v, .int .i64 0]) ∧ LMg w' c a ⟨L.h, es.length, false⟩ ∧ w.heap.size ≤ c ∧ Rs (fun k => w.heap.size ≤ k) w.heap.size w' v es := by
  refine (ropen_any h hr.four).mono ?_
  rintro e w' ⟨hb, hm⟩
  rw [hr.inv.newest, hr.inv.cont, ents_enc es hes] at hm
  exact ⟨hb, hm⟩
end Go.Proofs.Ytembonenaoineaa
