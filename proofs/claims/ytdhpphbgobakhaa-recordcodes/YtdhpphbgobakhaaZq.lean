/- What the decoding of chapter 10 takes is of a size that Go allows. No condition but those that each fact names. -/
import Derived.Test.YtdhpphbgobakhaaZt
import Derived.Test.YtdhpphbgobakhaaZu
namespace Go.Proofs.Ytdhpphbgobakhaa
set_option maxRecDepth 100000
set_option linter.unusedVariables false
open Go.ChangeShapes Go.WideShapes Go.ChangeAt Go.RowKit
open Fl (S cmpK keyN normN)
open Val (V cmpV isB ltT)
open Lb
/-! What is taken is of a size that Go allows. -/
theorem pI_len {l : List UInt8} {x : Int} {r : List UInt8} (h : pI l = some (x, r)) : r.length ≤ l.length := by
  rw [(pI_wo h).1, List.length_append]; omega
theorem pS_len {l : List UInt8} {x : ByteArray} {r : List UInt8} (h : pS l = some (x, r)) : r.length ≤ l.length ∧ x.size ≤ l.length := by
  refine ⟨?_, (pS_wo h).2⟩
  rw [(pS_wo h).1, List.length_append]; omega
theorem pR_len {l : List UInt8} {x : Nat} {r : List UInt8} (h : pR l = some (x, r)) : r.length ≤ l.length := by
  rw [(pR_wo h).1, List.length_append]; omega
theorem pB_len {l : List UInt8} {x : Bool} {r : List UInt8} (h : pB l = some (x, r)) : r.length ≤ l.length := by
  rw [pB_wo h, List.length_append]; omega
theorem pC_len {m : Nat} {l : List UInt8} {x : Nat} {r : List UInt8} (h : pC m l = some (x, r)) : r.length ≤ l.length := by
  rw [(pC_wo h).1, List.length_append]; omega
/-- p takes no more than there is, and what it takes is ok where there are at most M bytes. -/
def Fit {α : Type} (p : Prs α) (M : Nat) (ok : α → Prop) : Prop := ∀ l x r, l.length ≤ M → p l = some (x, r) → r.length ≤ l.length ∧ ok x
theorem many_fit {α : Type} {p : Prs α} {M : Nat} {ok : α → Prop} (hp : Fit p M ok) : ∀ n, Fit (pMany p n) M (fun xs => ∀ x ∈ xs, ok x)
  | 0 => fun l xs r hl h => by obtain ⟨rfl, rfl⟩ := ret_some h; exact ⟨Nat.le_refl _, fun x hx => by cases hx⟩
  | n + 1 => fun l xs r hl h => by
    obtain ⟨ys, r1, h1, h2⟩ := andT_some h
    obtain ⟨x, r2, h3, h4⟩ := andT_some h2
    obtain ⟨rfl, rfl⟩ := ret_some h4
    obtain ⟨k1, k2⟩ := many_fit hp n l ys r1 hl h1
    obtain ⟨k3, k4⟩ := hp r1 x r2 (by omega) h3
    refine ⟨by omega, fun z hz => ?_⟩
    rcases List.mem_append.1 hz with hz | hz
    · exact k2 z hz
    · rw [List.mem_singleton.1 hz]; exact k4
theorem pV_fit (s : Bool) (M : Nat) : Fit (pV s) M (fun v => v.t.size ≤ M) := fun l v r hl h => by
  obtain ⟨k, r1, h1, h2⟩ := andT_some h
  have z : (⟨#[]⟩ : ByteArray).size ≤ M := Nat.zero_le _
  have l1 := pI_len h1
  split at h2
  · obtain ⟨b, r2, h3, h4⟩ := andT_some h2
    obtain ⟨rfl, rfl⟩ := ret_some h4
    exact ⟨by have := pB_len h3; omega, z⟩
  split at h2
  · obtain ⟨b, r2, h3, h4⟩ := andT_some h2
    obtain ⟨rfl, rfl⟩ := ret_some h4
    exact ⟨by have := pI_len h3; omega, z⟩
  split at h2
  · obtain ⟨b, r2, h3, h4⟩ := andT_some h2
    obtain ⟨rfl, rfl⟩ := ret_some h4
    exact ⟨by have := pR_len h3; omega, z⟩
  split at h2
  · obtain ⟨b, r2, h3, h4⟩ := andT_some h2
    obtain ⟨rfl, rfl⟩ := ret_some h4
    have := pS_len h3
    exact ⟨by omega, by show b.size ≤ M; omega⟩
  split at h2
  · cases h2
  · obtain ⟨rfl, rfl⟩ := ret_some h2
    exact ⟨l1, z⟩
theorem pP_fit (s : Bool) (M : Nat) : Fit (pP s) M (fun p => p.k.size ≤ M ∧ p.v.t.size ≤ M) := fun l p r hl h => by
  obtain ⟨k, r1, h1, h2⟩ := andT_some h
  obtain ⟨v, r2, h3, h4⟩ := andT_some h2
  obtain ⟨rfl, rfl⟩ := ret_some h4
  have k1 := pS_len h1
  have k2 := pV_fit s M r1 v r2 (by omega) h3
  exact ⟨by omega, by show k.size ≤ M; omega, k2.2⟩
theorem pN_fit (s : Bool) (M : Nat) (hM : M ≤ maxLen) : Fit (pN s) M NdOk := fun l x r hl h => by
  obtain ⟨n, r1, h1, h2⟩ := andT_some h
  obtain ⟨ls, r2, h3, h4⟩ := andT_some h2
  obtain ⟨m, r3, h5, h6⟩ := andT_some h4
  obtain ⟨ps, r4, h7, h8⟩ := andT_some h6
  obtain ⟨rfl, rfl⟩ := ret_some h8
  have k1 := pC_len h1
  have k2 := many_fit (p := pS) (M := M) (ok := fun x => x.size ≤ M) (fun l x r hl h => ⟨(pS_len h).1, by have := (pS_len h).2; omega⟩) n r1 ls r2 (by omega) h3
  have k3 := pC_len h5
  have k4 := many_fit (pP_fit s M) m r3 ps r4 (by omega) h7
  have e1 := many_len n _ _ _ h3
  have e2 := many_len m _ _ _ h7
  have e3 := (pC_wo h1).2
  have e4 := (pC_wo h5).2
  exact ⟨by omega, ⟨by show ls.length ≤ _; omega, by show ps.length ≤ _; omega, fun x hx => Nat.le_trans (k2.2 x hx) hM, fun x hx => ⟨Nat.le_trans (k4.2 x hx).1 hM, Nat.le_trans (k4.2 x hx).2 hM⟩⟩⟩
theorem zN_ok : NdOk zN := ok_zero
theorem pW_fit (s : Bool) (M : Nat) (hM : M ≤ maxLen) : Fit (pW s) M WOk := fun l x r hl h => by
  obtain ⟨e, r1, h1, h2⟩ := andT_some h
  obtain ⟨id, r2, h3, h4⟩ := andT_some h2
  obtain ⟨g, r3, h5, h6⟩ := andT_some h4
  have l1 := pB_len h1
  have l2 := pI_len h3
  have l3 := pB_len h5
  have z : zE.t.size ≤ maxLen := Nat.zero_le _
  cases g with
  | true =>
    simp only [if_true] at h6
    obtain ⟨rfl, rfl⟩ := ret_some h6
    exact ⟨by omega, zN_ok, z⟩
  | false =>
    simp only [Bool.false_eq_true, if_false] at h6
    cases e with
    | true =>
      simp only [if_true] at h6
      obtain ⟨y, r4, h7, h8⟩ := andT_some h6
      obtain ⟨rfl, rfl⟩ := ret_some h8
      obtain ⟨a, s1, i1, i2⟩ := andT_some h7
      obtain ⟨b, s2, i3, i4⟩ := andT_some i2
      obtain ⟨t, s3, i5, i6⟩ := andT_some i4
      obtain ⟨w, s4, i7, i8⟩ := andT_some i6
      obtain ⟨rfl, rfl⟩ := ret_some i8
      have m1 := pI_len i1
      have m2 := pI_len i3
      have m3 := pS_len i5
      have m4 := pR_len i7
      exact ⟨by omega, zN_ok, by show t.size ≤ maxLen; omega⟩
    | false =>
      simp only [Bool.false_eq_true, if_false] at h6
      obtain ⟨y, r4, h7, h8⟩ := andT_some h6
      obtain ⟨rfl, rfl⟩ := ret_some h8
      have m1 := pN_fit s M hM r3 y r4 (by omega) h7
      exact ⟨by omega, m1.2, z⟩
theorem pA_ok (s : Bool) {l : List UInt8} (hl : l.length ≤ 1000000) {nn ne : Int} {ws : List Wr} {r : List UInt8} (h : pA s l = some ((nn, ne, ws), r)) : ∀ x ∈ ws, WOk x := by
  obtain ⟨a, r1, h1, h2⟩ := andT_some h
  obtain ⟨b, r2, h3, h4⟩ := andT_some h2
  obtain ⟨n, r3, h5, h6⟩ := andT_some h4
  obtain ⟨xs, r4, h7, h8⟩ := andT_some h6
  obtain ⟨e, rfl⟩ := ret_some h8
  injection e with e1 e
  injection e with e2 e3
  subst e3
  have m1 := pI_len h1
  have m2 := pI_len h3
  have m3 := pC_len h5
  exact (many_fit (pW_fit s 1000000 (by decide)) n r3 xs r4 (by omega) h7).2
end Go.Proofs.Ytdhpphbgobakhaa
