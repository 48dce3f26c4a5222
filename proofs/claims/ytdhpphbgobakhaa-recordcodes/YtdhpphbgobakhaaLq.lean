/- Slices of integers and of floating-point numbers that the call itself makes longer; strings joined. Conditions: lengths below 10,000,000. -/
import Derived.Test.YtdhpphbgobakhaaLo
namespace Go.Proofs.Ytdhpphbgobakhaa
set_option maxRecDepth 100000
set_option linter.unusedVariables false
open Go.ChangeShapes Go.WideShapes Go.ChangeAt Go.RowKit
open Lb
/-- The slice value v reads l, each by f, in memory of the call's own, from block B on. -/
def OwnG {α : Type} (e : TypeId) (f : α → Value) (B : Nat) (w : World) (v : Value) (l : List α) : Prop := w.ownsRow B e 1 v l.length (l.map f)
section
variable {α : Type} {e : TypeId} {f : α → Value} {B : Nat} {v : Value} {l : List α}
theorem OwnG.nil (e : TypeId) (f : α → Value) (B : Nat) (w : World) : OwnG e f B w (.slice none 0 0) [] := World.ownsRow_nil _ _ _ _
theorem OwnG.below {w w' : World} (h : OwnG e f B w v l) (hb : Below w.heap.size w w') : OwnG e f B w' v l :=
  World.ownsRow.kept (row := none) h ⟨hb.os, hb.tape, hb.output, hb.size, fun k hk _ => hb.block k hk⟩ (by cases v.ownBlock <;> simp)
theorem OwnG.open {w : World} (h : OwnG e f B w v l) : ∃ A c, v = .slice A l.length c ∧ Row f w A l ∧ (A = none → c = 0) := by
  obtain ⟨A, c, rfl⟩ := own_slice h
  refine ⟨A, c, rfl, row_own h, fun hA => ?_⟩
  rcases h.2 with ⟨h0, _⟩ | ⟨g, cap, cur, hv, _⟩
  · injection h0
  · injection hv with hv; rw [hA] at hv; cases hv
theorem OwnG.empty (e : TypeId) (f : α → Value) (B : Nat) (w : World) (hB : B ≤ w.heap.size) : OwnG e f B (w.alloc (.cells #[] e)) (.slice (some ⟨w.heap.size, 0, none⟩) 0 0) [] :=
  World.ownsRow_made w #[] 0 hB (by unfold maxLen; omega) rfl
theorem row_at {w : World} {ad : Addr} (h : Row f w (some ad) l) (k : Nat) (hk : k < l.length) : w.cell? (ad.add k) = some (f l[k]) := by
  obtain ⟨ad', e, hc⟩ := h k hk
  injection e with e
  subst e
  exact hc
end
section
variable {α : Type} {f : α → Value} {w : World} {ops : Array Oper} {rest : List Oper} {o : Oper} {a : Act} {Q : Exit → Act → World → Prop}
/-- append(v, m...). -/
theorem wp_appG (t e : TypeId) (z : Value) (bytes : Nat) (ht : Try.prog.underlying t = some (.slice e)) (hinfo : (Try.prog.info? e).map (fun i => (i.zero, i.size, i.bytes)) = some (some z, 1, bytes)) (hzs : z.cells.size = 1) (hby : bytes ≤ 16)
    (h1 : ∀ x, (f x).oneCell' = true) (hgd : o.guard = none) (s x : Operand)
    (ho : o.op = .call { callee := .builtin .append, args := #[s, x], argTypes := #[t, t] })
    (B : Nat) (v : Value) (l : List α) (hown : OwnG e f B w v l) (hs : a.eval s = v) (A : Option Addr) (m : List α) (n c : Nat) (hx : a.eval x = .slice A n c) (hn : n = m.length) (hm : Row f w A m) (hbare : A = none → c = 0)
    (hle : l.length + m.length ≤ 10000000) (hB : B ≤ w.heap.size)
    (h : ∀ v' w', OwnG e f B w' v' (l ++ m) → Below B w w' → wpList Try.prog ops Q rest (a.put o.dst v') w') : wpList Try.prog ops Q (o :: rest) a w := by
  subst hn
  obtain ⟨i0, hi0, hz0, hz1, hz2⟩ := info_parts hinfo
  cases A with
  | none =>
    have hc := hbare rfl
    subst hc
    have hm0 : m = [] := by
      cases m with
      | nil => rfl
      | cons y ys => obtain ⟨ad, e, _⟩ := hm 0 (by simp); cases e
    subst hm0
    refine wpList_append_own_none hgd s x _ ho B e i0 1 ht hi0 v _ _ hs hown hx (h _ _ ?_ (Below.refl _ _))
    rw [List.append_nil]; exact hown
  | some ad =>
    refine wpList_append_own _ hgd s x _ ho B e i0 z 1 bytes ht hi0 hz0 hz1 hz2 hzs (by decide) v _ _ hs hown ad _ _ (m.map f) hx (by simp) ?_ ?_ (by unfold maxLen; omega) ?_ hB ?_
    · intro j u hj
      have hjl : j < m.length := by
        rcases Nat.lt_or_ge j m.length with h | h
        · exact h
        · rw [List.getElem?_eq_none (by simpa using h)] at hj; cases hj
      rw [row_at hm j hjl]
      simp [hjl] at hj
      rw [hj]
    · intro u hu
      obtain ⟨_, _, rfl⟩ := List.mem_map.1 hu
      exact h1 _
    · have : (l.length + m.length) * bytes ≤ 10000000 * 16 := Nat.mul_le_mul hle hby
      omega
    · intro v' w' h2 h3 _
      refine h v' w' ?_ ((Below.refl _ _).grown h3 hB fun k hk => (World.ownsRow.lt hown k hk).1)
      unfold OwnG
      rw [List.length_append, List.map_append]; exact h2
/-- append(v, y), the element laid in a block of its own. -/
theorem wp_appG1 (t e : TypeId) (z : Value) (bytes : Nat) (ht : Try.prog.underlying t = some (.slice e)) (hinfo : (Try.prog.info? e).map (fun i => (i.zero, i.size, i.bytes)) = some (some z, 1, bytes)) (hzs : z.cells.size = 1) (hby : bytes ≤ 16)
    (h1 : ∀ x, (f x).oneCell' = true) (hgd : o.guard = none) (s x : Operand)
    (ho : o.op = .call { callee := .builtin .append, args := #[s, x], argTypes := #[t, t] })
    (B : Nat) (v : Value) (l : List α) (y : α) (hown : OwnG e f B w v l) (hs : a.eval s = v) (hx : a.eval x = .slice (some ⟨w.heap.size, 0, none⟩) 1 1)
    (hle : l.length ≤ 1000000) (hB : B ≤ w.heap.size)
    (h : ∀ v' w', OwnG e f B w' v' (l ++ [y]) → Below B w w' → wpList Try.prog ops Q rest (a.put o.dst v') w') : wpList Try.prog ops Q (o :: rest) a (w.alloc (.cells #[f y] e)) := by
  have hb1 := (Below.refl w.heap.size w).alloc (Nat.le_refl _) (.cells #[f y] e)
  refine wp_appG t e z bytes ht hinfo hzs hby h1 hgd s x ho B v l (hown.below hb1) hs _ [y] _ _ hx rfl (row_new f w e [y] #[f y] rfl) (fun e => by cases e) (by simp; omega) (by simp; omega) fun v' w' h2 h3 => h v' w' h2 ?_
  exact (hb1.mono hB).trans h3
end
section
variable {w : World} {ops : Array Oper} {rest : List Oper} {o : Oper} {a : Act} {Q : Exit → Act → World → Prop}
theorem app_wp {K : Act → World → Prop} (s x : Operand)
    (ho : o.op = .call { callee := .builtin .append, args := #[s, x], argTypes := #[23, 23] })
    (B : Nat) (v : Value) (l : List UInt8) (hown : Own B w v l) (hs : a.eval s = v) (A : Option Addr) (m : List UInt8) (n c : Nat) (hx : a.eval x = .slice A n c) (hn : n = m.length) (hm : BS w A m c)
    (hle : l.length + m.length ≤ 100000000) (hB : B ≤ w.heap.size)
    (h : ∀ v' w', Own B w' v' (l ++ m) → Below B w w' → K (a.put o.dst v') w') : o.wp Try.prog a w K Q := by
  subst hn
  obtain ⟨i0, hi0, hz0, hz1, hz2⟩ := info_parts infoB
  cases A with
  | none =>
    obtain ⟨rfl, rfl⟩ := hm.none_nil
    have hrun := run_append_owned_none (P := Try.prog) (w := w) B 23 o.type 5 i0 1 Try.underlying23 hi0 v _ _ hown
    have hK := h v w (by rw [List.append_nil]; exact hown) (Below.refl _ _)
    unfold Oper.wp
    simp [execOp, ho, resolve, invoke, builtin, hs, hx, hrun, Result.andThen]
    exact hK
  | some ad =>
    refine wp_append_own _ s x _ ho B 5 i0 (.int .u8 0) 1 1 Try.underlying23 hi0 hz0 hz1 hz2 rfl (by decide) v _ _ hs hown ad _ _ (bcs m) hx (by rw [bcs_len, Nat.mul_one]) ?_ (bcs_one m) (by unfold maxLen; omega) (by omega) hB ?_
    · intro j u hj
      have hjl : j < m.length := by
        rcases Nat.lt_or_ge j m.length with h | h
        · exact h
        · rw [List.getElem?_eq_none (by rw [bcs_len]; exact h)] at hj; cases hj
      obtain ⟨ad', e, hc⟩ := hm.cells j hjl
      injection e with e
      subst e
      rw [hc]
      simp [bcs, hjl] at hj
      rw [hj]
    · intro v' w' h1 h2 _
      refine h v' w' ?_ ((Below.refl _ _).grown h2 hB fun k hk => (World.ownsRow.lt hown k hk).1)
      unfold Own
      rw [List.length_append, bcs_append]; exact h1
/-- append(v, m...) behind a guard that says yes. -/
theorem wp_appW (hw : Region.wanted o (yielded ops a.tmps) = true) (s x : Operand)
    (ho : o.op = .call { callee := .builtin .append, args := #[s, x], argTypes := #[23, 23] })
    (B : Nat) (v : Value) (l : List UInt8) (hown : Own B w v l) (hs : a.eval s = v) (A : Option Addr) (m : List UInt8) (n c : Nat) (hx : a.eval x = .slice A n c) (hn : n = m.length) (hm : BS w A m c)
    (hle : l.length + m.length ≤ 100000000) (hB : B ≤ w.heap.size)
    (h : ∀ v' w', Own B w' v' (l ++ m) → Below B w w' → wpList Try.prog ops Q rest (a.put o.dst v') w') : wpList Try.prog ops Q (o :: rest) a w :=
  BigFrame.wpList_want hw fun _ hK => app_wp s x ho B v l hown hs A m n c hx hn hm hle hB fun v' w' h1 h2 => hK _ _ (h v' w' h1 h2)
end
theorem infoI : (Try.prog.info? 3).map (fun i => (i.zero, i.size, i.bytes)) = some (some (.int .i64 0), 1, 8) := by kernel_rfl
theorem infoF : (Try.prog.info? 37).map (fun i => (i.zero, i.size, i.bytes)) = some (some (.float .f64 0), 1, 8) := by kernel_rfl
theorem in64 {n : Int} (h : (Lit.int .i64 n).wf = true) : In64 n := by simpa [In64, Lit.wf, IntKind.min, IntKind.max, IntKind.signed, IntKind.bits] using h
/-- Two strings joined. -/
theorem join_run {P : Program} {W : World} (x y : List UInt8) (h : (x ++ y).length ≤ 10000000) : (Op.stringOp .add (bstr x) (bstr y)).run P W = .ok (.string (bstr (x ++ y))) W := by
  have := run_string_add_sum (P := P) W (bstr x) (bstr y) (by rw [bstr_size, bstr_size]; rw [List.length_append] at h; omega)
  rw [this, bstr_append]
end Go.Proofs.Ytdhpphbgobakhaa
