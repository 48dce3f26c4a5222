/- Plain facts: the values' comparison is a total order; only equal values are the same. No condition. -/
import Derived.Test.YtdhpphbgobakhaaVal
namespace Go.Proofs.Ytdhpphbgobakhaa.Val
open Fl (S IR nanB normN keyN NaNw cmpK)
set_option linter.unusedSimpArgs false
/-- A comparison that comes of a total order. -/
structure Cmpr {α : Type} (c : α → α → Int) : Prop where
  swap : ∀ x y, c x y = - c y x
  lo : ∀ x y, -1 ≤ c x y
  hi : ∀ x y, c x y ≤ 1
  trans : ∀ x y z, c x y ≤ 0 → c y z ≤ 0 → c x z ≤ 0
theorem cmprI : Cmpr cmpI := by
  refine ⟨fun x y => ?_, fun x y => ?_, fun x y => ?_, fun x y z => ?_⟩ <;> unfold cmpI <;> split <;> (try split) <;> (try split) <;> (try split) <;> (try split) <;> (try split) <;> omega
theorem cmprK : Cmpr cmpK := by
  refine ⟨fun x y => ?_, fun x y => ?_, fun x y => ?_, fun x y z => ?_⟩ <;> unfold cmpK <;> split <;> (try split) <;> (try split) <;> (try split) <;> (try split) <;> (try split) <;> omega
theorem cmprB : Cmpr cmpB := by
  refine ⟨fun x y => ?_, fun x y => ?_, fun x y => ?_, fun x y z => ?_⟩
  · cases x <;> cases y <;> decide
  · cases x <;> cases y <;> decide
  · cases x <;> cases y <;> decide
  · cases x <;> cases y <;> cases z <;> decide
theorem lt_cons (a b : UInt8) (r s : List UInt8) : Op.bytesLess (a :: r) (b :: s) = true ↔ a.toNat < b.toNat ∨ (a.toNat = b.toNat ∧ Op.bytesLess r s = true) := by
  simp [Op.bytesLess, UInt8.lt_iff_toNat_lt, UInt8.toNat_inj]
theorem lt_nil (x : List UInt8) : Op.bytesLess x [] = false := by cases x <;> rfl
theorem nil_lt (b : UInt8) (s : List UInt8) : Op.bytesLess [] (b :: s) = true := rfl
theorem lt_irr : ∀ x : List UInt8, ¬ Op.bytesLess x x = true
  | [] => by simp [lt_nil]
  | a :: r => by
    have ih := lt_irr r
    rw [lt_cons]; intro h
    rcases h with h | ⟨_, h⟩
    · omega
    · exact ih h
theorem lt_asy : ∀ x y : List UInt8, Op.bytesLess x y = true → ¬ Op.bytesLess y x = true
  | _, [] => by simp [lt_nil]
  | [], b :: s => by simp [lt_nil]
  | a :: r, b :: s => by
    have := lt_asy r s
    rw [lt_cons, lt_cons]; intro h; rcases h with h | ⟨h, h'⟩
    · intro g; rcases g with g | ⟨g, _⟩ <;> omega
    · intro g; rcases g with g | ⟨_, g⟩
      · omega
      · exact this h' g
theorem lt_tri : ∀ x y : List UInt8, ¬ Op.bytesLess x y = true → ¬ Op.bytesLess y x = true → x = y
  | [], [] => fun _ _ => rfl
  | [], b :: s => fun h => absurd (nil_lt b s) h
  | a :: r, [] => fun _ h => absurd (nil_lt a r) h
  | a :: r, b :: s => by
    have ih := lt_tri r s
    rw [lt_cons, lt_cons]; intro h1 h2
    have e : a.toNat = b.toNat := by omega
    have e' := ih (fun h => h1 (.inr ⟨e, h⟩)) (fun h => h2 (.inr ⟨e.symm, h⟩))
    rw [UInt8.toNat_inj.1 e, e']
theorem lt_trn : ∀ x y z : List UInt8, Op.bytesLess x y = true → Op.bytesLess y z = true → Op.bytesLess x z = true
  | x, y, [] => by simp [lt_nil]
  | [], _, c :: u => fun _ _ => nil_lt c u
  | a :: r, [], c :: u => by simp [lt_nil]
  | a :: r, b :: s, c :: u => by
    have ih := lt_trn r s u
    rw [lt_cons, lt_cons, lt_cons]; intro h1 h2
    rcases h1 with h1 | ⟨h1, h1'⟩ <;> rcases h2 with h2 | ⟨h2, h2'⟩
    · left; omega
    · left; omega
    · left; omega
    · right; exact ⟨by omega, ih h1' h2'⟩
theorem cmpT_lo (s t : ByteArray) (h : ltT s t = true) : cmpT s t = -1 := by unfold cmpT; rw [h]; rfl
theorem cmpT_eq (s t : ByteArray) (h : s.toList = t.toList) : cmpT s t = 0 := by
  unfold cmpT ltT eqT; rw [h, Bool.eq_false_iff.2 (lt_irr _)]; simp
theorem cmpT_hi (s t : ByteArray) (h : ltT t s = true) : cmpT s t = 1 := by
  have h1 : ltT s t = false := Bool.eq_false_iff.2 (lt_asy _ _ h)
  have h2 : eqT s t = false := by
    unfold eqT; rw [beq_eq_false_iff_ne]; intro e; unfold ltT at h; rw [e] at h; exact lt_irr _ h
  unfold cmpT; rw [h1, h2]; rfl
theorem three (s t : ByteArray) : ltT s t = true ∨ s.toList = t.toList ∨ ltT t s = true := by
  by_cases h1 : ltT s t = true
  · exact .inl h1
  · by_cases h2 : ltT t s = true
    · exact .inr (.inr h2)
    · exact .inr (.inl (lt_tri _ _ h1 h2))
theorem cmprT : Cmpr cmpT := by
  have sw : ∀ x y, cmpT x y = - cmpT y x := fun x y => by
    rcases three x y with h | h | h
    · rw [cmpT_lo _ _ h, cmpT_hi _ _ h]
    · rw [cmpT_eq _ _ h, cmpT_eq _ _ h.symm]; rfl
    · rw [cmpT_hi _ _ h, cmpT_lo _ _ h]; rfl
  have le : ∀ x y, cmpT x y ≤ 0 → ltT x y = true ∨ x.toList = y.toList := fun x y h => by
    rcases three x y with g | g | g
    · exact .inl g
    · exact .inr g
    · rw [cmpT_hi _ _ g] at h; omega
  refine ⟨sw, fun x y => ?_, fun x y => ?_, fun x y z h1 h2 => ?_⟩
  · unfold cmpT; split <;> (try split) <;> omega
  · unfold cmpT; split <;> (try split) <;> omega
  · rcases le x y h1 with g1 | g1
    · have : ltT x z = true := by
        rcases le y z h2 with g2 | g2
        · exact lt_trn _ _ _ g1 g2
        · unfold ltT at g1 ⊢; rw [← g2]; exact g1
      rw [cmpT_lo _ _ this]; omega
    · have e : cmpT x z = cmpT y z := by unfold cmpT ltT eqT; rw [g1]
      rw [e]; exact h2
theorem cmpT_zero (s t : ByteArray) : cmpT s t = 0 ↔ s.toList = t.toList := by
  constructor
  · intro h
    rcases three s t with g | g | g
    · rw [cmpT_lo _ _ g] at h; omega
    · exact g
    · rw [cmpT_hi _ _ g] at h; omega
  · exact cmpT_eq s t
theorem cmpI_zero (a b : Int) : cmpI a b = 0 ↔ a = b := by unfold cmpI; split <;> (try split) <;> omega
theorem cmpK_zero (a b : Nat) : cmpK a b = 0 ↔ a = b := by unfold cmpK; split <;> (try split) <;> omega
theorem cmpB_zero (a b : Bool) : cmpB a b = 0 ↔ a = b := by cases a <;> cases b <;> decide
theorem cmpV_ne {x y : V} (h : x.k ≠ y.k) : cmpV x y = cmpI x.k y.k := by unfold cmpV; rw [if_pos h]
theorem cmpV_eq {x y : V} (h : x.k = y.k) : cmpV x y = if x.k = 1 then cmpB x.b y.b else if x.k = 2 then cmpI x.n y.n
  else if x.k = 3 then cmpK (keyN x.f) (keyN y.f) else if x.k = 4 then cmpT x.t y.t else 0 := by unfold cmpV; rw [if_neg (by simpa using h)]
theorem cmprV : Cmpr cmpV := by
  refine ⟨fun x y => ?_, fun x y => ?_, fun x y => ?_, fun x y z => ?_⟩
  · by_cases h : x.k = y.k
    · rw [cmpV_eq h, cmpV_eq h.symm, ← h]
      split
      · exact cmprB.swap _ _
      split
      · exact cmprI.swap _ _
      split
      · exact cmprK.swap _ _
      split
      · exact cmprT.swap _ _
      rfl
    · rw [cmpV_ne h, cmpV_ne (Ne.symm h)]; exact cmprI.swap _ _
  · by_cases h : x.k = y.k
    · rw [cmpV_eq h]
      split
      · exact cmprB.lo _ _
      split
      · exact cmprI.lo _ _
      split
      · exact cmprK.lo _ _
      split
      · exact cmprT.lo _ _
      decide
    · rw [cmpV_ne h]; exact cmprI.lo _ _
  · by_cases h : x.k = y.k
    · rw [cmpV_eq h]
      split
      · exact cmprB.hi _ _
      split
      · exact cmprI.hi _ _
      split
      · exact cmprK.hi _ _
      split
      · exact cmprT.hi _ _
      decide
    · rw [cmpV_ne h]; exact cmprI.hi _ _
  · by_cases h : x.k = y.k
    · by_cases g : y.k = z.k
      · rw [cmpV_eq h, cmpV_eq g, cmpV_eq (h.trans g), h]
        split
        · exact cmprB.trans _ _ _
        split
        · exact cmprI.trans _ _ _
        split
        · exact cmprK.trans _ _ _
        split
        · exact cmprT.trans _ _ _
        omega
      · have e : cmpV x z = cmpI y.k z.k := by rw [cmpV_ne (h ▸ g : x.k ≠ z.k), h]
        rw [cmpV_ne g, e]; exact fun _ q => q
    · by_cases g : y.k = z.k
      · have e : cmpV x z = cmpI x.k y.k := by rw [cmpV_ne (g ▸ h : x.k ≠ z.k), g]
        rw [cmpV_ne h, e]; exact fun q _ => q
      · intro p q
        rw [cmpV_ne h] at p
        rw [cmpV_ne g] at q
        have p1 : x.k < y.k := by unfold cmpI at p; split at p <;> (try split at p) <;> omega
        have q1 : y.k < z.k := by unfold cmpI at q; split at q <;> (try split at q) <;> omega
        rw [cmpV_ne (by omega)]; exact cmprI.trans _ _ _ p q
theorem cmpV_self (x : V) : cmpV x x = 0 := by have := cmprV.swap x x; omega
theorem keyN_inj {a b : Nat} (ha : a < 2 * S) (hb : b < 2 * S) (h1 : normN a = a) (h2 : normN b = b) (h : keyN a = keyN b) : a = b := by
  unfold keyN at h; rw [h1, h2] at h
  split at h <;> split at h <;> omega
theorem list_of_size {t : ByteArray} (h : t.size = 0) : t.toList = [] := by
  rw [ByteArray.toList_eq]; exact List.length_eq_zero_iff.1 (by rw [size_data, h])
/-- Of a valid value: what its kind does not name is zero. -/
theorem is_fields {x : V} (h : isB x = true) : (x.k ≠ 1 → x.b = false) ∧ (x.k ≠ 2 → x.n = 0) ∧ (x.k ≠ 3 → x.f = 0) ∧ (x.k ≠ 4 → x.t.toList = []) ∧ normN x.f = x.f ∧ 0 ≤ x.k ∧ x.k ≤ 4 := by
  unfold isB oddB at h
  simp only [Bool.and_eq_true, Bool.not_eq_true', Bool.or_eq_false_iff, Bool.and_eq_false_imp, decide_eq_true_eq, bne_iff_ne, ne_eq, bne_eq_false_iff_eq] at h
  obtain ⟨⟨⟨⟨⟨⟨⟨⟨h1, h2⟩, h3⟩, h4⟩, h5⟩, _⟩, h6⟩, h7⟩, _⟩ := h
  exact ⟨h1, h2, h3, fun g => list_of_size (h4 g), h5, h6, h7⟩
theorem cmpV_zero {x y : V} (hx : isB x = true) (hy : isB y = true) (fx : x.f < 2 * S) (fy : y.f < 2 * S) :
    cmpV x y = 0 ↔ x.k = y.k ∧ x.b = y.b ∧ x.n = y.n ∧ x.t.toList = y.t.toList ∧ x.f = y.f := by
  obtain ⟨a1, a2, a3, a4, a5, a6, a7⟩ := is_fields hx
  obtain ⟨b1, b2, b3, b4, b5, b6, b7⟩ := is_fields hy
  constructor
  · intro h
    by_cases hk : x.k = y.k
    · rw [cmpV_eq hk] at h
      rw [← hk] at b1 b2 b3 b4
      refine ⟨hk, ?_, ?_, ?_, ?_⟩
      · by_cases g : x.k = 1
        · rw [if_pos g] at h; exact (cmpB_zero _ _).1 h
        · rw [a1 g, b1 g]
      · by_cases g : x.k = 2
        · rw [if_neg (by omega), if_pos g] at h; exact (cmpI_zero _ _).1 h
        · rw [a2 g, b2 g]
      · by_cases g : x.k = 4
        · rw [if_neg (by omega), if_neg (by omega), if_neg (by omega), if_pos g] at h; exact (cmpT_zero _ _).1 h
        · rw [a4 g, b4 g]
      · by_cases g : x.k = 3
        · rw [if_neg (by omega), if_neg (by omega), if_pos g] at h; exact keyN_inj fx fy a5 b5 ((cmpK_zero _ _).1 h)
        · rw [a3 g, b3 g]
    · rw [cmpV_ne hk] at h; exact absurd ((cmpI_zero _ _).1 h) hk
  · rintro ⟨h1, h2, h3, h4, h5⟩
    rw [cmpV_eq h1, h2, h3, h5, cmpT_eq _ _ h4, (cmpB_zero y.b y.b).2 rfl, (cmpI_zero y.n y.n).2 rfl, (cmpK_zero _ _).2 rfl]
    simp
end Go.Proofs.Ytdhpphbgobakhaa.Val
