/- Chapter 10's encoding and decoding without memory: what each part's bytes are, what bytes are a part, that the one undoes the other. No condition but those that each fact names. -/
import Derived.Test.YtdhpphbgobakhaaYi
import Derived.Test.YtdhpphbgobakhaaLb
namespace Go.Proofs.Ytdhpphbgobakhaa
set_option maxRecDepth 100000
set_option linter.unusedVariables false
open Fl (S normN keyN unkN ofB)
open Val (V cmpV isB ltT)
open Lb
open Go.Lib (uvarint zigzag unzigzag)
def b2i (b : Bool) : Int := if b then 1 else 0
def encV (v : V) : List UInt8 := encI v.k ++ (if v.k = 1 then encI (b2i v.b) else if v.k = 2 then encI v.n else if v.k = 3 then encR v.f else encS v.t.data.toList)
def encP (p : Pr) : List UInt8 := encS p.k.data.toList ++ encV p.v
def encPs (l : List Pr) : List UInt8 := l.flatMap encP
def encN (n : Nd) : List UInt8 := encI n.ls.length ++ (encSs n.ls ++ (encI n.ps.length ++ encPs n.ps))
def encE (e : Eg) : List UInt8 := encI e.a ++ (encI e.b ++ (encS e.t.data.toList ++ encR e.w))
def encW (x : Wr) : List UInt8 := encI (b2i x.e) ++ (encI x.id ++ (encI (b2i x.gone) ++ (if x.gone then [] else if x.e then encE x.g else encN x.n)))
def encWs (l : List Wr) : List UInt8 := l.flatMap encW
def encA (nn ne : Int) (l : List Wr) : List UInt8 := encI nn ++ (encI ne ++ (encI l.length ++ encWs l))

/-! Decoding: a part and what remains, or nothing. -/
def Prs (α : Type) : Type := List UInt8 → Option (α × List UInt8)
def pI : Prs Int := fun l => (dv 0 l).map fun p => (unzigzag p.1, l.drop p.2)
def pS : Prs ByteArray := fun l => (nxtS (some l)).map fun r => (⟨(resS (some l)).toArray⟩, r)
def pR : Prs Nat := fun l => (nxtR (some l)).map fun r => (resR (some l), r)
def andT {α β : Type} (p : Prs α) (f : α → Prs β) : Prs β := fun l => match p l with | some (x, r) => f x r | none => none
def ret {α : Type} (x : α) : Prs α := fun l => some (x, l)
def bad {α : Type} : Prs α := fun _ => none
def pB : Prs Bool := andT pI fun n => if 0 ≤ n ∧ n ≤ 1 then ret (decide (n = 1)) else bad
def pC (most : Nat) : Prs Nat := andT pI fun n => if 0 ≤ n ∧ n ≤ most then ret n.toNat else bad
def pMany {α : Type} (p : Prs α) : Nat → Prs (List α)
  | 0 => ret []
  | n + 1 => andT (pMany p n) fun l => andT p fun x => ret (l ++ [x])
def zV : V := ⟨0, false, 0, 0, ⟨#[]⟩⟩
def pV (s : Bool) : Prs V := andT pI fun k =>
  if k = 1 then andT pB fun b => ret ⟨1, b, 0, 0, ⟨#[]⟩⟩ else if k = 2 then andT pI fun n => ret ⟨2, false, n, 0, ⟨#[]⟩⟩ else if k = 3 then andT pR fun f => ret ⟨3, false, 0, f, ⟨#[]⟩⟩
  else if k = 4 then andT pS fun t => ret ⟨4, false, 0, 0, t⟩ else if s then bad else ret ⟨k, false, 0, 0, ⟨#[]⟩⟩
def pP (s : Bool) : Prs Pr := andT pS fun k => andT (pV s) fun v => ret ⟨k, v⟩
def pN (s : Bool) : Prs Nd := andT (pC 3) fun n => andT (pMany pS n) fun ls => andT (pC 3) fun m => andT (pMany (pP s) m) fun ps => ret ⟨ls, ps⟩
def pE : Prs Eg := andT pI fun a => andT pI fun b => andT pS fun t => andT pR fun w => ret ⟨a, b, t, w⟩
def zN : Nd := ⟨[], []⟩
def zE : Eg := ⟨0, 0, ⟨#[]⟩, 0⟩
def pW (s : Bool) : Prs Wr := andT pB fun e => andT pI fun id => andT pB fun g =>
  if g then ret ⟨e, id, true, zN, zE⟩ else if e then andT pE fun x => ret ⟨true, id, false, zN, x⟩ else andT (pN s) fun x => ret ⟨false, id, false, x, zE⟩
def pA (s : Bool) : Prs (Int × Int × List Wr) := andT pI fun a => andT pI fun b => andT (pC 56) fun n => andT (pMany (pW s) n) fun l => ret (a, b, l)
/-- What the bytes are, if they are anything. -/
def decB (s : Bool) (l : List UInt8) : Option (Int × Int × List Wr) := match pA s l with
  | some (x, []) => if mayB x.1 x.2.1 x.2.2 then some x else none
  | _ => none

/-! One undoes the other. -/
/-- p takes what f writes of x. -/
def Tk {α : Type} (p : Prs α) (x : α) (b : List UInt8) : Prop := ∀ r, p (b ++ r) = some (x, r)
theorem Tk.andT {α β : Type} {p : Prs α} {f : α → Prs β} {x : α} {y : β} {b c : List UInt8} (h : Tk p x b) (k : Tk (f x) y c) : Tk (andT p f) y (b ++ c) := fun r => by
  unfold Go.Proofs.Ytdhpphbgobakhaa.andT
  rw [List.append_assoc, h]
  exact k r
theorem Tk.ret {α : Type} (x : α) : Tk (ret x) x [] := fun r => rfl
theorem Tk.last {α β : Type} {p : Prs α} {f : α → Prs β} {x : α} {y : β} {b : List UInt8} (h : Tk p x b) (k : Tk (f x) y []) : Tk (Go.Proofs.Ytdhpphbgobakhaa.andT p f) y b := by
  have := h.andT k
  rwa [List.append_nil] at this
theorem tk_I (n : Int) (h : In64 n) : Tk pI n (encI n) := fun r => by
  unfold pI
  rw [dv_enc n h.1 h.2]
  simp [unzig_zig]
theorem tk_S (s : ByteArray) (h : s.size ≤ 9223372036854775807) : Tk pS s (encS s.data.toList) := fun r => by
  have hl : s.data.toList.length ≤ 9223372036854775807 := h
  unfold pS
  rw [nxtS_enc _ _ hl, resS_enc _ _ hl]
  cases s; rfl
theorem tk_R (f : Nat) (hf : f < 2 * S) (hn : normN f = f) : Tk pR f (encR f) := fun r => by
  unfold pR
  rw [nxtR_enc f hf, resR_enc f hf, hn]; rfl
theorem tk_B (b : Bool) : Tk pB b (encI (b2i b)) := by
  unfold pB
  refine (tk_I (b2i b) ?_).last ?_
  · cases b <;> simp [b2i, In64]
  · cases b <;> exact fun r => rfl
theorem tk_C (n most : Nat) (h : n ≤ most) (hm : most ≤ 1000) : Tk (pC most) n (encI n) := by
  unfold pC
  refine (tk_I n ⟨by omega, by omega⟩).last ?_
  rw [if_pos (by omega)]
  exact fun r => rfl
theorem tk_many {α : Type} {p : Prs α} {f : α → List UInt8} (l : List α) (h : ∀ x ∈ l, Tk p x (f x)) : ∀ n, n ≤ l.length → Tk (pMany p n) (l.take n) ((l.take n).flatMap f)
  | 0, _ => Tk.ret _
  | n + 1, hn => by
    have ih := tk_many l h n (by omega)
    rw [List.take_succ_eq_append_getElem (by omega), List.flatMap_append]
    have h2 : List.flatMap f [l[n]] = f l[n] := by simp
    rw [h2]
    unfold pMany
    exact ih.andT ((h _ (List.getElem_mem _)).last (Tk.ret _))
theorem tk_all {α : Type} {p : Prs α} {f : α → List UInt8} (l : List α) (h : ∀ x ∈ l, Tk p x (f x)) : Tk (pMany p l.length) l (l.flatMap f) := by
  have := tk_many l h l.length (Nat.le_refl _)
  rwa [List.take_length] at this
/-- What is written of x is what p has taken. -/
def Wo {α : Type} (p : Prs α) (f : α → List UInt8) (ok : α → Prop) : Prop := ∀ l x r, p l = some (x, r) → ok x → l = f x ++ r
theorem pI_wo {l : List UInt8} {n : Int} {r : List UInt8} (h : pI l = some (n, r)) : l = encI n ++ r ∧ In64 n := by
  unfold pI at h
  cases hd : dv 0 l with
  | none => rw [hd] at h; cases h
  | some p =>
    obtain ⟨z, s⟩ := p
    rw [hd] at h
    simp only [Option.map_some, Option.some.injEq, Prod.mk.injEq] at h
    obtain ⟨rfl, rfl⟩ := h
    obtain ⟨h1, _, _, h4⟩ := dv_some l 0 z s (by omega) hd
    refine ⟨?_, unzig_bd z (by rw [← lim_zero]; exact h1)⟩
    unfold encI
    rw [zig_unzig]; exact h4.symm
theorem nxtI_pI (l : List UInt8) : nxtI (some l) = (pI l).map (·.2) ∧ resI (some l) = ((pI l).map (·.1)).getD 0 := by
  unfold nxtI resI pI
  simp only [Option.bind_some]
  cases dv 0 l with
  | none => exact ⟨rfl, rfl⟩
  | some p => exact ⟨rfl, rfl⟩
theorem pS_wo {l : List UInt8} {s : ByteArray} {r : List UInt8} (h : pS l = some (s, r)) : l = encS s.data.toList ++ r ∧ s.size ≤ l.length := by
  unfold pS at h
  obtain ⟨e1, e2⟩ := nxtI_pI l
  cases hp : pI l with
  | none =>
    rw [hp] at e1
    unfold nxtS at h
    rw [e1] at h
    cases h
  | some q =>
    obtain ⟨n, r1⟩ := q
    rw [hp] at e1 e2
    simp only [Option.map_some, Option.getD_some] at e1 e2
    obtain ⟨hl, hn⟩ := pI_wo hp
    unfold nxtS resS at h
    rw [e1, e2] at h
    simp only [Option.bind_some] at h
    cases hf : fits n r1 with
    | false => rw [hf] at h; cases h
    | true =>
      rw [hf] at h
      simp only [if_true, Option.map_some, Option.some.injEq, Prod.mk.injEq] at h
      obtain ⟨rfl, rfl⟩ := h
      simp only [fits, Bool.and_eq_true, decide_eq_true_eq] at hf
      have hlen : (r1.take n.toNat).length = n.toNat := by rw [List.length_take]; omega
      refine ⟨?_, ?_⟩
      · show l = encS (r1.take n.toNat) ++ r1.drop n.toNat
        unfold encS
        rw [hlen, show ((n.toNat : Nat) : Int) = n by omega, List.append_assoc, List.take_append_drop]
        exact hl
      · show (r1.take n.toNat).length ≤ l.length
        have := congrArg List.length hl
        rw [List.length_append] at this
        omega
theorem keyN_unkN (k : Nat) (h : k < 2 * S) (ho : ofB k = true) : keyN (unkN k) = k := by
  unfold ofB at ho
  simpa using ho
theorem pR_wo {l : List UInt8} {f : Nat} {r : List UInt8} (h : pR l = some (f, r)) : l = encR f ++ r ∧ f < 2 * S := by
  unfold pR nxtR resR at h
  simp only [Option.bind_some] at h
  cases ho : okR l with
  | false => rw [ho] at h; cases h
  | true =>
    rw [ho] at h
    simp only [if_true, Option.map_some, Option.some.injEq, Prod.mk.injEq] at h
    obtain ⟨rfl, rfl⟩ := h
    simp only [okR, Bool.and_eq_true, decide_eq_true_eq] at ho
    have hl8 : (l.take 8).length = 8 := by rw [List.length_take]; omega
    have hb : be (l.take 8) < 2 * S := be_lt8 _ hl8
    refine ⟨?_, Fl.unkN_lt _ hb⟩
    unfold encR
    rw [keyN_unkN _ hb ho.2, keyB_be _ hl8, List.take_append_drop]
theorem andT_some {α β : Type} {p : Prs α} {f : α → Prs β} {l : List UInt8} {y : β} {r : List UInt8} (h : andT p f l = some (y, r)) : ∃ x r1, p l = some (x, r1) ∧ f x r1 = some (y, r) := by
  unfold andT at h
  cases hp : p l with
  | none => rw [hp] at h; cases h
  | some q => obtain ⟨x, r1⟩ := q; rw [hp] at h; exact ⟨x, r1, rfl, h⟩
theorem ret_some {α : Type} {x y : α} {l r : List UInt8} (h : ret x l = some (y, r)) : x = y ∧ l = r := by
  unfold ret at h; injection h with h; injection h with h1 h2; exact ⟨h1, h2⟩
theorem pB_wo {l : List UInt8} {b : Bool} {r : List UInt8} (h : pB l = some (b, r)) : l = encI (b2i b) ++ r := by
  obtain ⟨n, r1, h1, h2⟩ := andT_some h
  by_cases hn : 0 ≤ n ∧ n ≤ 1
  · rw [if_pos hn] at h2
    obtain ⟨rfl, rfl⟩ := ret_some h2
    have := (pI_wo h1).1
    have e : b2i (decide (n = 1)) = n := by unfold b2i; by_cases n = 1 <;> simp_all; omega
    rw [e]; exact this
  · rw [if_neg hn] at h2; cases h2
theorem pC_wo {most : Nat} {l : List UInt8} {n : Nat} {r : List UInt8} (h : pC most l = some (n, r)) : l = encI n ++ r ∧ n ≤ most := by
  obtain ⟨k, r1, h1, h2⟩ := andT_some h
  by_cases hn : 0 ≤ k ∧ k ≤ most
  · rw [if_pos hn] at h2
    obtain ⟨rfl, rfl⟩ := ret_some h2
    refine ⟨?_, by omega⟩
    rw [show ((k.toNat : Nat) : Int) = k by omega]
    exact (pI_wo h1).1
  · rw [if_neg hn] at h2; cases h2
theorem many_len {α : Type} {p : Prs α} : ∀ (n : Nat) (l : List UInt8) (xs : List α) (r : List UInt8), pMany p n l = some (xs, r) → xs.length = n
  | 0, l, xs, r, h => by obtain ⟨rfl, _⟩ := ret_some h; rfl
  | n + 1, l, xs, r, h => by
    obtain ⟨ys, r1, h1, h2⟩ := andT_some h
    obtain ⟨x, r2, h3, h4⟩ := andT_some h2
    obtain ⟨rfl, rfl⟩ := ret_some h4
    rw [List.length_append, many_len n l ys r1 h1]; rfl
theorem many_wo {α : Type} {p : Prs α} {f : α → List UInt8} {ok : α → Prop} (hp : Wo p f ok) : ∀ (n : Nat) (l : List UInt8) (xs : List α) (r : List UInt8), pMany p n l = some (xs, r) → (∀ x ∈ xs, ok x) → l = xs.flatMap f ++ r
  | 0, l, xs, r, h, _ => by obtain ⟨rfl, rfl⟩ := ret_some h; rfl
  | n + 1, l, xs, r, h, hok => by
    obtain ⟨ys, r1, h1, h2⟩ := andT_some h
    obtain ⟨x, r2, h3, h4⟩ := andT_some h2
    obtain ⟨rfl, rfl⟩ := ret_some h4
    rw [many_wo hp n l ys r1 h1 (fun y hy => hok y (by simp [hy])), hp r1 x r2 h3 (hok x (by simp))]
    simp
/-- A value that the laws take. -/
structure VIn (v : V) : Prop where
  n : In64 v.n
  f : v.f < 2 * S
  k : 1 ≤ v.k ∧ v.k ≤ 4
theorem pV_wo (s : Bool) : Wo (pV s) encV (fun v => 1 ≤ v.k ∧ v.k ≤ 4) := fun l v r h hk => by
  obtain ⟨k, r1, h1, h2⟩ := andT_some h
  have e1 := (pI_wo h1).1
  by_cases k1 : k = 1
  · subst k1
    rw [if_pos rfl] at h2
    obtain ⟨b, r2, h3, h4⟩ := andT_some h2
    obtain ⟨rfl, rfl⟩ := ret_some h4
    rw [e1, pB_wo h3]; simp [encV]
  rw [if_neg k1] at h2
  by_cases k2 : k = 2
  · subst k2
    rw [if_pos rfl] at h2
    obtain ⟨b, r2, h3, h4⟩ := andT_some h2
    obtain ⟨rfl, rfl⟩ := ret_some h4
    rw [e1, (pI_wo h3).1]; simp [encV]
  rw [if_neg k2] at h2
  by_cases k3 : k = 3
  · subst k3
    rw [if_pos rfl] at h2
    obtain ⟨b, r2, h3, h4⟩ := andT_some h2
    obtain ⟨rfl, rfl⟩ := ret_some h4
    rw [e1, (pR_wo h3).1]; simp [encV]
  rw [if_neg k3] at h2
  by_cases k4 : k = 4
  · subst k4
    rw [if_pos rfl] at h2
    obtain ⟨b, r2, h3, h4⟩ := andT_some h2
    obtain ⟨rfl, rfl⟩ := ret_some h4
    rw [e1, (pS_wo h3).1]; simp [encV]
  rw [if_neg k4] at h2
  cases s with
  | true => cases h2
  | false =>
    obtain ⟨rfl, rfl⟩ := ret_some h2
    exfalso; simp only at hk; omega
theorem pP_wo (s : Bool) : Wo (pP s) encP (fun p => 1 ≤ p.v.k ∧ p.v.k ≤ 4) := fun l p r h hk => by
  obtain ⟨k, r1, h1, h2⟩ := andT_some h
  obtain ⟨v, r2, h3, h4⟩ := andT_some h2
  obtain ⟨rfl, rfl⟩ := ret_some h4
  rw [(pS_wo h1).1, pV_wo s _ _ _ h3 hk]; simp [encP]
def okN (n : Nd) : Prop := ∀ p ∈ n.ps, 1 ≤ p.v.k ∧ p.v.k ≤ 4
theorem pN_wo (s : Bool) : Wo (pN s) encN okN := fun l x r h hk => by
  obtain ⟨n, r1, h1, h2⟩ := andT_some h
  obtain ⟨ls, r2, h3, h4⟩ := andT_some h2
  obtain ⟨m, r3, h5, h6⟩ := andT_some h4
  obtain ⟨ps, r4, h7, h8⟩ := andT_some h6
  obtain ⟨rfl, rfl⟩ := ret_some h8
  have w1 := many_wo (f := fun s : ByteArray => encS s.data.toList) (ok := fun _ => True) (fun l x r h _ => (pS_wo h).1) n _ _ _ h3 (fun _ _ => trivial)
  have w2 := many_wo (pP_wo s) m _ _ _ h7 hk
  rw [(pC_wo h1).1, w1, (pC_wo h5).1, w2]
  simp [encN, encSs, encPs, many_len _ _ _ _ h3, many_len _ _ _ _ h7]
theorem pE_wo : Wo pE encE (fun _ => True) := fun l x r h _ => by
  obtain ⟨a, r1, h1, h2⟩ := andT_some h
  obtain ⟨b, r2, h3, h4⟩ := andT_some h2
  obtain ⟨t, r3, h5, h6⟩ := andT_some h4
  obtain ⟨w, r4, h7, h8⟩ := andT_some h6
  obtain ⟨rfl, rfl⟩ := ret_some h8
  rw [(pI_wo h1).1, (pI_wo h3).1, (pS_wo h5).1, (pR_wo h7).1]; simp [encE]
theorem pW_wo (s : Bool) : Wo (pW s) encW (fun x => okN x.n) := fun l x r h hk => by
  obtain ⟨e, r1, h1, h2⟩ := andT_some h
  obtain ⟨id, r2, h3, h4⟩ := andT_some h2
  obtain ⟨g, r3, h5, h6⟩ := andT_some h4
  rw [pB_wo h1, (pI_wo h3).1, pB_wo h5]
  cases g with
  | true =>
    simp only [if_true] at h6
    obtain ⟨rfl, rfl⟩ := ret_some h6
    simp [encW]
  | false =>
    simp only [Bool.false_eq_true, if_false] at h6
    cases e with
    | true =>
      simp only [if_true] at h6
      obtain ⟨y, r4, h7, h8⟩ := andT_some h6
      obtain ⟨rfl, rfl⟩ := ret_some h8
      rw [pE_wo _ _ _ h7 trivial]; simp [encW]
    | false =>
      simp only [Bool.false_eq_true, if_false] at h6
      obtain ⟨y, r4, h7, h8⟩ := andT_some h6
      obtain ⟨rfl, rfl⟩ := ret_some h8
      rw [pN_wo s _ _ _ h7 hk]; simp [encW]
theorem pA_wo (s : Bool) {l : List UInt8} {nn ne : Int} {ws : List Wr} {r : List UInt8} (h : pA s l = some ((nn, ne, ws), r)) (hk : ∀ x ∈ ws, okN x.n) : l = encA nn ne ws ++ r := by
  obtain ⟨a, r1, h1, h2⟩ := andT_some h
  obtain ⟨b, r2, h3, h4⟩ := andT_some h2
  obtain ⟨n, r3, h5, h6⟩ := andT_some h4
  obtain ⟨xs, r4, h7, h8⟩ := andT_some h6
  obtain ⟨e, rfl⟩ := ret_some h8
  injection e with e1 e
  injection e with e2 e3
  subst e1; subst e2; subst e3
  rw [(pI_wo h1).1, (pI_wo h3).1, (pC_wo h5).1, many_wo (pW_wo s) n _ _ _ h7 hk]
  simp [encA, encWs, many_len _ _ _ _ h7]
/-! What is valid is taken as it was written. -/
theorem isB_kind {v : V} (h : isB v = true) (h0 : v.k ≠ 0) : 1 ≤ v.k ∧ v.k ≤ 4 := by
  obtain ⟨k, b, n, f, t⟩ := v
  simp only at h0 ⊢
  by_cases h1 : 1 ≤ k ∧ k ≤ 4
  · exact h1
  · rw [Val.isB_else k b n f t (by omega)] at h; cases h
theorem prp_of {l : List Pr} (h : (List.range l.length).all (prpB l) = true) : ∀ p ∈ l, nameB p.k = true ∧ isB p.v = true ∧ p.v.k ≠ 0 := fun p hp => by
  obtain ⟨i, hi, rfl⟩ := List.getElem_of_mem hp
  have := List.all_eq_true.1 h i (List.mem_range.2 hi)
  unfold prpB at this
  simp only [getD_at l i default hi, Bool.and_eq_true, decide_eq_true_eq] at this
  exact ⟨this.1.1.1, this.1.2, this.2⟩
theorem lab_of {l : List ByteArray} (h : (List.range l.length).all (labB l) = true) : ∀ x ∈ l, nameB x = true := fun p hp => by
  obtain ⟨i, hi, rfl⟩ := List.getElem_of_mem hp
  have := List.all_eq_true.1 h i (List.mem_range.2 hi)
  unfold labB at this
  simp only [getD_at l i ⟨#[]⟩ hi, Bool.and_eq_true] at this
  exact this.1
theorem nodeB_of {n : Nd} (h : nodeB n = true) : (∀ x ∈ n.ls, nameB x = true) ∧ (∀ p ∈ n.ps, nameB p.k = true ∧ isB p.v = true ∧ p.v.k ≠ 0) ∧ n.ls.length ≤ 3 ∧ n.ps.length ≤ 3 := by
  unfold nodeB at h
  simp only [Bool.and_eq_true, decide_eq_true_eq] at h
  exact ⟨lab_of h.1.1, prp_of h.1.2, h.2.1, h.2.2⟩
theorem okN_of {n : Nd} (h : nodeB n = true) : okN n := fun p hp => by
  obtain ⟨_, h2, h3⟩ := (nodeB_of h).2.1 p hp
  exact isB_kind h2 h3
theorem emptyN_eq {n : Nd} (h : emptyN n = true) : n = zN := by
  obtain ⟨ls, ps⟩ := n
  unfold emptyN at h
  simp only [Bool.and_eq_true, decide_eq_true_eq, List.length_eq_zero_iff] at h
  rw [h.1, h.2]; rfl
theorem writeB_ok {nn ne : Int} {x : Wr} (h : writeB nn ne x = true) : okN x.n := by
  obtain ⟨e, id, g, n, eg⟩ := x
  unfold writeB at h
  cases e with
  | true =>
    simp only [if_true, Bool.and_eq_true] at h
    rw [emptyN_eq h.1.1.2]
    intro p hp; cases hp
  | false =>
    simp only [Bool.false_eq_true, if_false, Bool.and_eq_true, Bool.or_eq_true] at h
    rcases h.2 with h2 | h2
    · rw [emptyN_eq h2.2]; intro p hp; cases hp
    · exact okN_of h2.2
theorem mayB_write {nn ne : Int} {l : List Wr} (h : mayB nn ne l = true) : ∀ x ∈ l, writeB nn ne x = true := fun x hx => by
  obtain ⟨i, hi, rfl⟩ := List.getElem_of_mem hx
  unfold mayB at h
  simp only [Bool.and_eq_true] at h
  have := List.all_eq_true.1 h.2 i (List.mem_range.2 hi)
  unfold mayW at this
  simp only [getD_at l i wd hi, Bool.and_eq_true] at this
  exact this.1
theorem mayB_bd {nn ne : Int} {l : List Wr} (h : mayB nn ne l = true) : (0 ≤ nn ∧ nn ≤ 24) ∧ 0 ≤ ne ∧ ne ≤ 32 := by
  unfold mayB at h
  simp only [Bool.and_eq_true, decide_eq_true_eq] at h
  exact ⟨⟨h.1.1.1.1, h.1.1.1.2⟩, h.1.1.2, h.1.2⟩
/-- In the range of Go's types. -/
def NdIn (n : Nd) : Prop := ∀ p ∈ n.ps, In64 p.v.n ∧ p.v.f < 2 * S
def WrIn (x : Wr) : Prop := NdIn x.n ∧ In64 x.id ∧ In64 x.g.a ∧ In64 x.g.b ∧ x.g.w < 2 * S
theorem normN_geW {f : Nat} (h : geW f = true) : normN f = f := by
  unfold normN
  cases hn : Fl.nanB f with
  | false => rfl
  | true =>
    exfalso
    unfold geW at h
    rw [Fl.order_nan_left f 0 (by simpa [Fl.nanB_iff] using hn)] at h
    simp at h
theorem empty_eq {t : ByteArray} (h : t.size = 0) : t = ⟨#[]⟩ := by
  obtain ⟨⟨l⟩⟩ := t
  have : l = [] := List.length_eq_zero_iff.1 h
  rw [this]
theorem blank_eq {b : Bool} {n : Int} {f : Nat} {t : ByteArray} {k : Int} (h : Val.blankB ⟨k, b, n, f, t⟩ = true) : b = false ∧ n = 0 ∧ f = 0 ∧ t = ⟨#[]⟩ := by
  unfold Val.blankB at h
  simp only [Bool.and_eq_true, beq_iff_eq, Bool.not_eq_true'] at h
  exact ⟨h.1.1.1, h.1.1.2, h.1.2, empty_eq h.2⟩
theorem tk_V (s : Bool) (v : V) (h : isB v = true) (h0 : v.k ≠ 0) (hn : In64 v.n) (hf : v.f < 2 * S) : Tk (pV s) v (encV v) := by
  have hk := isB_kind h h0
  obtain ⟨k, b, n, f, t⟩ := v
  simp only at h0 hn hf hk
  have hki : Tk pI k (encI k) := tk_I k ⟨by omega, by omega⟩
  have hc : k = 1 ∨ k = 2 ∨ k = 3 ∨ k = 4 := by omega
  unfold pV encV
  refine hki.andT ?_
  rcases hc with rfl | rfl | rfl | rfl
  · rw [Val.isB1] at h
    obtain ⟨_, rfl, rfl, rfl⟩ := blank_eq h
    exact (tk_B b).last (Tk.ret _)
  · rw [Val.isB2] at h
    obtain ⟨rfl, _, rfl, rfl⟩ := blank_eq h
    exact (tk_I n hn).last (Tk.ret _)
  · rw [Val.isB3, Bool.and_eq_true, beq_iff_eq] at h
    obtain ⟨rfl, rfl, _, rfl⟩ := blank_eq h.1
    exact (tk_R f hf h.2).last (Tk.ret _)
  · rw [Val.isB4, Bool.and_eq_true] at h
    obtain ⟨rfl, rfl, rfl, _⟩ := blank_eq h.1
    have h12 : t.size ≤ 12 := by
      have := h.2
      unfold Val.plainB at this
      simp only [Bool.and_eq_true, decide_eq_true_eq] at this
      exact this.1
    exact (tk_S t (by omega)).last (Tk.ret _)
theorem tk_P (s : Bool) (p : Pr) (h1 : nameB p.k = true) (h : isB p.v = true) (h0 : p.v.k ≠ 0) (hn : In64 p.v.n) (hf : p.v.f < 2 * S) : Tk (pP s) p (encP p) := by
  have := nameB_len h1
  unfold pP encP
  exact (tk_S p.k (by omega)).andT ((tk_V s p.v h h0 hn hf).last (Tk.ret _))
theorem tk_N (s : Bool) (n : Nd) (h : nodeB n = true) (hi : NdIn n) : Tk (pN s) n (encN n) := by
  obtain ⟨h1, h2, h3, h4⟩ := nodeB_of h
  have t1 := tk_all (p := pS) (f := fun s : ByteArray => encS s.data.toList) n.ls (fun x hx => tk_S x (by have := nameB_len (h1 x hx); omega))
  have t2 := tk_all (p := pP s) (f := encP) n.ps (fun p hp => tk_P s p (h2 p hp).1 (h2 p hp).2.1 (h2 p hp).2.2 (hi p hp).1 (hi p hp).2)
  unfold pN encN
  exact (tk_C n.ls.length 3 h3 (by omega)).andT (t1.andT ((tk_C n.ps.length 3 h4 (by omega)).andT (t2.last (Tk.ret _))))
theorem edgeB_of {e : Eg} (h : edgeB e = true) : (1 ≤ e.a ∧ e.a ≤ 24) ∧ (1 ≤ e.b ∧ e.b ≤ 24) ∧ nameB e.t = true ∧ geW e.w = true := by
  unfold edgeB at h
  simp only [Bool.and_eq_true, decide_eq_true_eq] at h
  exact ⟨⟨h.1.1.1.1.1, h.1.1.1.1.2⟩, ⟨h.1.1.1.2, h.1.1.2⟩, h.1.2, h.2⟩
theorem tk_E (e : Eg) (h : edgeB e = true) (hf : e.w < 2 * S) : Tk pE e (encE e) := by
  obtain ⟨h1, h2, h3, h4⟩ := edgeB_of h
  have := nameB_len h3
  unfold pE encE
  exact (tk_I e.a ⟨by omega, by omega⟩).andT ((tk_I e.b ⟨by omega, by omega⟩).andT ((tk_S e.t (by omega)).andT ((tk_R e.w hf (normN_geW h4)).last (Tk.ret _))))
theorem zeroE_eq {e : Eg} (h : zeroE e = true) (hf : e.w < 2 * S) : e = zE := by
  obtain ⟨a, b, t, w⟩ := e
  unfold zeroE at h
  simp only [Bool.and_eq_true, decide_eq_true_eq] at h
  obtain ⟨⟨⟨rfl, rfl⟩, h3⟩, h4⟩ := h
  have h5 : w = 0 := by unfold sameB at h4; simpa using h4
  rw [empty_eq h3, h5]; rfl
theorem zeroE_bad {e : Eg} (h : zeroE e = true) : edgeB e = false := by
  cases hb : edgeB e with
  | false => rfl
  | true =>
    have := (edgeB_of hb).1
    unfold zeroE at h
    simp only [Bool.and_eq_true, decide_eq_true_eq] at h
    have := h.1.1.1
    omega
/-- What a write that may be is made of. -/
theorem writeB_cases {nn ne : Int} {x : Wr} (h : writeB nn ne x = true) (hi : WrIn x) (hn : nn ≤ 24) (he : ne ≤ 32) : (1 ≤ x.id ∧ x.id ≤ 32) ∧
    ((x.gone = true ∧ x.n = zN ∧ x.g = zE) ∨ (x.gone = false ∧ x.e = true ∧ x.n = zN ∧ edgeB x.g = true) ∨ (x.gone = false ∧ x.e = false ∧ x.g = zE ∧ nodeB x.n = true)) := by
  obtain ⟨e, id, g, n, eg⟩ := x
  unfold writeB at h
  cases e with
  | true =>
    simp only [if_true, Bool.and_eq_true, decide_eq_true_eq] at h
    obtain ⟨⟨⟨⟨h1, h2⟩, h3⟩, h4⟩, h5⟩ := h
    refine ⟨⟨h1, by simp only; omega⟩, ?_⟩
    cases g with
    | true => exact .inl ⟨rfl, emptyN_eq h3, zeroE_eq (by simpa using h5) hi.2.2.2.2⟩
    | false => exact .inr (.inl ⟨rfl, rfl, emptyN_eq h3, by simpa using h4⟩)
  | false =>
    simp only [Bool.false_eq_true, if_false, Bool.and_eq_true, Bool.or_eq_true, decide_eq_true_eq] at h
    obtain ⟨⟨⟨h1, h2⟩, h3⟩, h4⟩ := h
    refine ⟨⟨h1, by simp only; omega⟩, ?_⟩
    have hz := zeroE_eq h3 hi.2.2.2.2
    cases g with
    | true =>
      rcases h4 with h4 | h4
      · exact .inl ⟨rfl, emptyN_eq h4.2, hz⟩
      · exact absurd h4.1 (by decide)
    | false =>
      rcases h4 with h4 | h4
      · exact absurd h4.1 (by decide)
      · exact .inr (.inr ⟨rfl, rfl, hz, h4.2⟩)
theorem tk_W (s : Bool) (nn ne : Int) (x : Wr) (h : writeB nn ne x = true) (hi : WrIn x) (hn : nn ≤ 24) (he : ne ≤ 32) : Tk (pW s) x (encW x) := by
  obtain ⟨h1, hc⟩ := writeB_cases h hi hn he
  obtain ⟨e, id, g, n, eg⟩ := x
  unfold pW encW
  refine (tk_B e).andT ((tk_I id ⟨by simp only at h1; omega, by simp only at h1; omega⟩).andT ((tk_B g).andT ?_))
  simp only at hc
  rcases hc with ⟨rfl, rfl, rfl⟩ | ⟨rfl, rfl, rfl, hb⟩ | ⟨rfl, rfl, rfl, hb⟩
  · exact Tk.ret _
  · exact (tk_E eg hb hi.2.2.2.2).last (Tk.ret _)
  · exact (tk_N s n hb hi.1).last (Tk.ret _)
/-- No more than 56 can be written. -/
theorem pigeon : ∀ (n : Nat) (l : List Nat), l.Nodup → (∀ x ∈ l, x < n) → l.length ≤ n
  | 0, l, _, h => by
    cases l with
    | nil => exact Nat.le_refl _
    | cons x r => exact absurd (h x (by simp)) (by omega)
  | n + 1, l, hd, h => by
    have h1 : (l.erase n).Nodup := hd.erase n
    have h2 := pigeon n (l.erase n) h1 (fun x hx => by
      have hm := List.mem_of_mem_erase hx
      have := h x hm
      rcases Nat.lt_or_ge x n with h3 | h3
      · exact h3
      · obtain rfl : x = n := by omega
        exact absurd hx (List.Nodup.not_mem_erase hd))
    rw [List.length_erase] at h2
    split at h2 <;> omega
theorem mayB_apart {nn ne : Int} {l : List Wr} (h : mayB nn ne l = true) (i k : Nat) (hi : i < l.length) (hk : k < i) : ¬ (l[k].e = l[i].e ∧ l[k].id = l[i].id) := by
  unfold mayB at h
  simp only [Bool.and_eq_true] at h
  have := List.all_eq_true.1 h.2 i (List.mem_range.2 hi)
  unfold mayW at this
  simp only [Bool.and_eq_true] at this
  have := List.all_eq_true.1 this.2 k (List.mem_range.2 hk)
  unfold twinB at this
  rw [getD_at l i wd hi, getD_at l k wd (by omega)] at this
  rintro ⟨e1, e2⟩
  rw [e1, e2] at this
  simp at this
def keyW (x : Wr) : Nat := if x.e then x.id.toNat - 1 else 32 + (x.id.toNat - 1)
theorem mayB_id {nn ne : Int} {l : List Wr} (h : mayB nn ne l = true) : ∀ x ∈ l, 1 ≤ x.id ∧ (x.e = true → x.id ≤ 32) ∧ (x.e = false → x.id ≤ 24) := fun x hx => by
  have hw := mayB_write h x hx
  have hb := mayB_bd h
  obtain ⟨e, id, g, n, eg⟩ := x
  unfold writeB at hw
  cases e with
  | true =>
    simp only [if_true, Bool.and_eq_true, decide_eq_true_eq] at hw
    refine ⟨hw.1.1.1.1, fun _ => ?_, fun e => by cases e⟩
    have := hw.1.1.1.2
    simp only
    omega
  | false =>
    simp only [Bool.false_eq_true, if_false, Bool.and_eq_true, decide_eq_true_eq] at hw
    refine ⟨hw.1.1.1, (fun e => by cases e), fun _ => ?_⟩
    have := hw.1.1.2
    simp only
    omega
theorem mayB_len {nn ne : Int} {l : List Wr} (h : mayB nn ne l = true) : l.length ≤ 56 := by
  have hid := mayB_id h
  have h1 : (l.map keyW).Nodup := by
    unfold List.Nodup
    rw [List.pairwise_iff_getElem]
    intro i j hi hj hij e
    rw [List.length_map] at hi hj
    rw [List.getElem_map, List.getElem_map] at e
    have q := mayB_apart h j i hj hij
    obtain ⟨a1, a2, a3⟩ := hid l[i] (List.getElem_mem hi)
    obtain ⟨b1, b2, b3⟩ := hid l[j] (List.getElem_mem hj)
    generalize l[i] = x at *
    generalize l[j] = y at *
    apply q
    unfold keyW at e
    cases hx : x.e <;> cases hy : y.e <;> simp only [hx, hy] at e a2 a3 b2 b3 ⊢ <;> simp at e a2 a3 b2 b3 ⊢ <;> omega
  have h2 := pigeon 56 (l.map keyW) h1 (fun k hk => by
    obtain ⟨x, hx, rfl⟩ := List.mem_map.1 hk
    obtain ⟨a1, a2, a3⟩ := hid x hx
    unfold keyW
    cases hx : x.e <;> simp [hx] at a2 a3 ⊢ <;> omega)
  rwa [List.length_map] at h2
theorem tk_A (s : Bool) (nn ne : Int) (l : List Wr) (h : mayB nn ne l = true) (hi : ∀ x ∈ l, WrIn x) : Tk (pA s) (nn, ne, l) (encA nn ne l) := by
  obtain ⟨⟨a1, a2⟩, b1, b2⟩ := mayB_bd h
  have t := tk_all (p := pW s) (f := encW) l (fun x hx => tk_W s nn ne x (mayB_write h x hx) (hi x hx) a2 b2)
  unfold pA encA
  exact (tk_I nn ⟨by omega, by omega⟩).andT ((tk_I ne ⟨by omega, by omega⟩).andT ((tk_C l.length 56 (mayB_len h) (by omega)).andT (t.last (Tk.ret _))))
/-- What is taken is in the range of Go's types. -/
theorem many_in {α : Type} {p : Prs α} {ok : α → Prop} (hp : ∀ l x r, p l = some (x, r) → ok x) : ∀ (n : Nat) (l : List UInt8) (xs : List α) (r : List UInt8), pMany p n l = some (xs, r) → ∀ x ∈ xs, ok x
  | 0, l, xs, r, h => by obtain ⟨rfl, _⟩ := ret_some h; intro x hx; cases hx
  | n + 1, l, xs, r, h => by
    obtain ⟨ys, r1, h1, h2⟩ := andT_some h
    obtain ⟨x, r2, h3, h4⟩ := andT_some h2
    obtain ⟨rfl, rfl⟩ := ret_some h4
    intro z hz
    rcases List.mem_append.1 hz with hz | hz
    · exact many_in hp n l ys r1 h1 z hz
    · rw [List.mem_singleton.1 hz]; exact hp _ _ _ h3
theorem pV_in (s : Bool) {l : List UInt8} {v : V} {r : List UInt8} (h : pV s l = some (v, r)) : In64 v.n ∧ v.f < 2 * S := by
  have z1 : In64 0 := by simp [In64]
  have z2 : 0 < 2 * S := by decide
  obtain ⟨k, r1, h1, h2⟩ := andT_some h
  split at h2
  · obtain ⟨b, r2, h3, h4⟩ := andT_some h2
    obtain ⟨rfl, rfl⟩ := ret_some h4; exact ⟨z1, z2⟩
  split at h2
  · obtain ⟨b, r2, h3, h4⟩ := andT_some h2
    obtain ⟨rfl, rfl⟩ := ret_some h4; exact ⟨(pI_wo h3).2, z2⟩
  split at h2
  · obtain ⟨b, r2, h3, h4⟩ := andT_some h2
    obtain ⟨rfl, rfl⟩ := ret_some h4; exact ⟨z1, (pR_wo h3).2⟩
  split at h2
  · obtain ⟨b, r2, h3, h4⟩ := andT_some h2
    obtain ⟨rfl, rfl⟩ := ret_some h4; exact ⟨z1, z2⟩
  split at h2
  · cases h2
  · obtain ⟨rfl, rfl⟩ := ret_some h2; exact ⟨z1, z2⟩
theorem pN_in (s : Bool) {l : List UInt8} {x : Nd} {r : List UInt8} (h : pN s l = some (x, r)) : NdIn x := by
  obtain ⟨n, r1, h1, h2⟩ := andT_some h
  obtain ⟨ls, r2, h3, h4⟩ := andT_some h2
  obtain ⟨m, r3, h5, h6⟩ := andT_some h4
  obtain ⟨ps, r4, h7, h8⟩ := andT_some h6
  obtain ⟨rfl, rfl⟩ := ret_some h8
  exact many_in (ok := fun p : Pr => In64 p.v.n ∧ p.v.f < 2 * S) (fun l p r h => by
    obtain ⟨k, r1, _, h2⟩ := andT_some h
    obtain ⟨v, r2, h3, h4⟩ := andT_some h2
    obtain ⟨rfl, rfl⟩ := ret_some h4
    exact pV_in s h3) m _ _ _ h7
theorem zN_in : NdIn zN := fun p hp => by cases hp
theorem zE_in : In64 zE.a ∧ In64 zE.b ∧ zE.w < 2 * S := ⟨by simp [zE, In64], by simp [zE, In64], by decide⟩
theorem pW_in (s : Bool) {l : List UInt8} {x : Wr} {r : List UInt8} (h : pW s l = some (x, r)) : WrIn x := by
  obtain ⟨e, r1, h1, h2⟩ := andT_some h
  obtain ⟨id, r2, h3, h4⟩ := andT_some h2
  obtain ⟨g, r3, h5, h6⟩ := andT_some h4
  have hid := (pI_wo h3).2
  cases g with
  | true =>
    simp only [if_true] at h6
    obtain ⟨rfl, rfl⟩ := ret_some h6
    exact ⟨zN_in, hid, zE_in⟩
  | false =>
    simp only [Bool.false_eq_true, if_false] at h6
    cases e with
    | true =>
      simp only [if_true] at h6
      obtain ⟨y, r4, h7, h8⟩ := andT_some h6
      obtain ⟨rfl, rfl⟩ := ret_some h8
      obtain ⟨a, s1, i1, i2⟩ := andT_some h7
      obtain ⟨b, s2, i3, i4⟩ := andT_some i2
      obtain ⟨t, s3, i5, i6⟩ := andT_some i4
      obtain ⟨w, s4, i7, i8⟩ := andT_some i6
      obtain ⟨rfl, rfl⟩ := ret_some i8
      exact ⟨zN_in, hid, (pI_wo i1).2, (pI_wo i3).2, (pR_wo i7).2⟩
    | false =>
      simp only [Bool.false_eq_true, if_false] at h6
      obtain ⟨y, r4, h7, h8⟩ := andT_some h6
      obtain ⟨rfl, rfl⟩ := ret_some h8
      exact ⟨pN_in s h7, hid, zE_in⟩
theorem pA_in (s : Bool) {l : List UInt8} {nn ne : Int} {ws : List Wr} {r : List UInt8} (h : pA s l = some ((nn, ne, ws), r)) : ∀ x ∈ ws, WrIn x := by
  obtain ⟨a, r1, h1, h2⟩ := andT_some h
  obtain ⟨b, r2, h3, h4⟩ := andT_some h2
  obtain ⟨n, r3, h5, h6⟩ := andT_some h4
  obtain ⟨xs, r4, h7, h8⟩ := andT_some h6
  obtain ⟨e, rfl⟩ := ret_some h8
  injection e with e1 e
  injection e with e2 e3
  subst e3
  exact many_in (fun l x r h => pW_in s h) n _ _ _ h7
theorem pA_len (s : Bool) {l : List UInt8} {nn ne : Int} {ws : List Wr} {r : List UInt8} (h : pA s l = some ((nn, ne, ws), r)) : ws.length ≤ 56 := by
  obtain ⟨a, r1, h1, h2⟩ := andT_some h
  obtain ⟨b, r2, h3, h4⟩ := andT_some h2
  obtain ⟨n, r3, h5, h6⟩ := andT_some h4
  obtain ⟨xs, r4, h7, h8⟩ := andT_some h6
  obtain ⟨e, rfl⟩ := ret_some h8
  injection e with e1 e
  injection e with e2 e3
  subst e3
  rw [many_len n _ _ _ h7]
  exact (pC_wo h5).2
/-- What the bytes are does not ask how strictly they are read. -/
theorem decB_some {s : Bool} {l : List UInt8} {x : Int × Int × List Wr} (h : decB s l = some x) : l = encA x.1 x.2.1 x.2.2 ∧ mayB x.1 x.2.1 x.2.2 = true ∧ (∀ y ∈ x.2.2, WrIn y) := by
  unfold decB at h
  split at h
  · rename_i y hy
    split at h
    · rename_i hm
      injection h with h
      subst h
      obtain ⟨nn, ne, ws⟩ := y
      have := pA_wo s hy (fun z hz => writeB_ok (mayB_write hm z hz))
      rw [List.append_nil] at this
      exact ⟨this, hm, pA_in s hy⟩
    · cases h
  · cases h
theorem decB_enc (s : Bool) {nn ne : Int} {l : List Wr} (h : mayB nn ne l = true) (hi : ∀ x ∈ l, WrIn x) : decB s (encA nn ne l) = some (nn, ne, l) := by
  have := tk_A s nn ne l h hi []
  rw [List.append_nil] at this
  unfold decB
  rw [this]
  simp only [h, if_true]
theorem decB_any (l : List UInt8) (s : Bool) : decB s l = decB true l := by
  have key : ∀ s s' x, decB s l = some x → decB s' l = some x := fun s s' x h => by
    obtain ⟨rfl, h2, h3⟩ := decB_some h
    exact decB_enc s' h2 h3
  cases h1 : decB s l with
  | some x => exact (key s true x h1).symm
  | none =>
    cases h2 : decB true l with
    | none => rfl
    | some x => rw [key true s x h2] at h1; cases h1
/-- Cut short, or with more behind, they are nothing. -/
theorem decB_cut {nn ne : Int} {l : List Wr} (h : mayB nn ne l = true) (hi : ∀ x ∈ l, WrIn x) {p q : List UInt8} (e : encA nn ne l = p ++ q) (hq : q ≠ []) : decB true p = none := by
  cases hd : decB true p with
  | none => rfl
  | some x =>
    obtain ⟨h1, h2, h3⟩ := decB_some hd
    have t1 := tk_A true _ _ _ h2 h3 q
    rw [← h1, ← e] at t1
    have t2 := tk_A true nn ne l h hi []
    rw [List.append_nil, t1] at t2
    injection t2 with t2
    injection t2 with _ t2
    exact absurd t2 hq
theorem decB_more {nn ne : Int} {l : List Wr} (h : mayB nn ne l = true) (hi : ∀ x ∈ l, WrIn x) {q : List UInt8} (hq : q ≠ []) : decB true (encA nn ne l ++ q) = none := by
  have t := tk_A true nn ne l h hi q
  unfold decB
  rw [t]
  cases q with
  | nil => exact absurd rfl hq
  | cons a r => rfl
end Go.Proofs.Ytdhpphbgobakhaa
