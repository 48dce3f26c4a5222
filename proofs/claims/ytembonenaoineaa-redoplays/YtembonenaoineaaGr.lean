/- Rows of slices of bytes: rows of the call's own (Rs), any row that is read (Es); append to them; rows, of the laws of chapter 5. Conditions: as each fact names them. -/
import Derived.Test.YtembonenaoineaaGb
import Derived.Test.YtembonenaoineaaDo
import Derived.Deep.AppendLies
namespace Go.Proofs.Ytembonenaoineaa
set_option maxRecDepth 100000
set_option linter.unusedVariables false
open Go.ChangeShapes Go.WideShapes Go.ChangeAt Go.RowKit

def slc (t : Option Addr × Nat × Nat) : Value := .slice t.1 t.2.1 t.2.2
/-- The row of slices at A reads es. -/
def Es (w : World) (A : Option Addr) (es : List (List UInt8)) : Prop := ∀ i (h : i < es.length), ∃ ad Ai ci, A = some ad ∧ w.cell? (ad.add i) = some (.slice Ai es[i].length ci) ∧ BS w Ai es[i] ci
theorem Es.below {w w' : World} {A : Option Addr} {es : List (List UInt8)} (h : Es w A es) (hb : Below w.heap.size w w') : Es w' A es := fun i hi => by
  obtain ⟨ad, Ai, ci, e, hc, hbs⟩ := h i hi
  exact ⟨ad, Ai, ci, e, (hb.cell (World.block_lt_of_cell? w _ hc)).trans hc, hbs.below hb⟩
/-- v is a row of slices of the call's own, from block B on, and reads es; the bytes lie in blocks of L, outside of the row's. -/
def Rs (L : Nat → Prop) (B : Nat) (w : World) (v : Value) (es : List (List UInt8)) : Prop :=
  ∃ rs : List (Option Addr × Nat × Nat), rs.length = es.length ∧ w.ownsRow B 36 1 v es.length (rs.map slc) ∧
    ∀ i (h : i < es.length), ∃ A c, rs[i]? = some (A, es[i].length, c) ∧ BS w A es[i] c ∧ ∀ ad, A = some ad → es[i] = [] ∨ (L ad.block ∧ v.ownBlock ≠ some ad.block)
section
variable {L : Nat → Prop} {B : Nat} {w w' : World} {v : Value} {es : List (List UInt8)}
theorem Rs.nil (L : Nat → Prop) (B : Nat) (w : World) : Rs L B w (.slice none 0 0) [] := ⟨[], rfl, World.ownsRow_nil _ _ _ _, fun i h => absurd h (by simp)⟩
theorem Rs.empty (L : Nat → Prop) (B : Nat) (w : World) (hB : B ≤ w.heap.size) : Rs L B (w.alloc (.cells #[] 36)) (.slice (some ⟨w.heap.size, 0, none⟩) 0 0) [] :=
  ⟨[], rfl, World.ownsRow_made w #[] 0 hB (by unfold maxLen; omega) rfl, fun i h => absurd h (by simp)⟩
/-- A row of one slice, just laid. -/
theorem Rs.one (L : Nat → Prop) (B : Nat) {w : World} {A : Option Addr} {p : List UInt8} {c : Nat} (hB : B ≤ w.heap.size) (hp : BS w A p c) (hA : ∀ ad, A = some ad → p = [] ∨ (L ad.block ∧ ad.block < w.heap.size)) :
    Rs L B (w.alloc (.cells #[.slice A p.length c] 36)) (.slice (some ⟨w.heap.size, 0, none⟩) 1 1) [p] := by
  refine ⟨[(A, p.length, c)], rfl, ⟨rfl, .inr ⟨w.heap.size, 1, #[.slice A p.length c], rfl, hB, heap_alloc_new w _, Nat.le_refl 1, by unfold maxLen; omega, rfl, rfl⟩⟩, fun i hi => ?_⟩
  obtain rfl : i = 0 := by simpa using hi
  refine ⟨A, c, rfl, hp.below ((Below.refl w.heap.size w).alloc (Nat.le_refl _) _), fun ad e => ?_⟩
  rcases hA ad e with h | h
  · exact .inl h
  · exact .inr ⟨h.1, fun e => by simp [Value.ownBlock] at e; omega⟩
theorem own_sameB {e size n : Nat} {xs : List Value} (h : w.ownsRow B e size v n xs) (hw : ∀ k, v.ownBlock = some k → w'.heap[k]? = w.heap[k]?) : w'.ownsRow B e size v n xs := by
  refine ⟨h.1, ?_⟩
  rcases h.2 with hn | ⟨g', cap, cur, rfl, hb, h1, rest⟩
  · exact .inl hn
  · exact .inr ⟨g', cap, cur, rfl, hb, (hw g' rfl).trans h1, rest⟩
theorem Rs.lt (h : Rs L B w v es) {k : Nat} (hk : v.ownBlock = some k) : B ≤ k ∧ k < w.heap.size := by
  obtain ⟨rs, _, h2, _⟩ := h
  exact World.ownsRow.lt h2 k hk
theorem Rs.chg {F : Nat → Prop} (h : Rs L B w v es) (hc : Chg F w w') (hv : ∀ k, v.ownBlock = some k → ¬ F k) (hL : ∀ k, L k → ¬ F k) : Rs L B w' v es := by
  have hlt := fun k (hk : v.ownBlock = some k) => h.lt hk
  obtain ⟨rs, h1, h2, h3⟩ := h
  refine ⟨rs, h1, own_sameB h2 (fun k hk => hc.block k (hlt k hk).2 (hv k hk)), fun i hi => ?_⟩
  obtain ⟨A, c, e, hbs, hA⟩ := h3 i hi
  refine ⟨A, c, e, hbs.chg hc (fun ad ea => ?_), hA⟩
  rcases hA ad ea with h0 | h0
  · exact .inl h0
  · exact .inr (hL _ h0.1)
theorem Rs.below (h : Rs L B w v es) (hb : Below w.heap.size w w') : Rs L B w' v es := h.chg (Chg.below (F := fun _ => False) hb) (fun _ _ h => h) (fun _ _ h => h)
theorem Rs.open (h : Rs L B w v es) : ∃ A c, v = .slice A es.length c ∧ Es w A es ∧ (A = none → c = 0) ∧ ∀ ad, A = some ad → ad.block < w.heap.size ∧ B ≤ ad.block := by
  have h' := h
  obtain ⟨rs, h1, h2, h3⟩ := h
  rcases h2.2 with ⟨rfl, h0⟩ | ⟨g, cap, cur, rfl, hg, hh, _⟩
  · exact ⟨none, 0, by rw [h0], fun i hi => by omega, fun _ => rfl, fun ad e => by cases e⟩
  · refine ⟨_, _, rfl, fun i hi => ?_, (fun e => by cases e), fun ad e => ?_⟩
    · obtain ⟨A, c, e, hbs, _⟩ := h3 i hi
      refine ⟨_, A, c, rfl, ?_, hbs⟩
      exact World.ownsRow.cells h2 (g := g) rfl i _ (by rw [List.getElem?_map, e]; rfl)
    · injection e with e
      subst e
      exact ⟨(h'.lt (k := g) rfl).2, hg⟩
theorem infoR : (Try.prog.info? 36).map (fun i => (i.zero, i.size, i.bytes)) = some (some (.slice none 0 0), 1, 24) := by kernel_rfl
theorem Es.get {A : Option Addr} (h : Es w A es) : ∃ rs : List (Option Addr × Nat × Nat), rs.length = es.length ∧ ∀ i (hi : i < es.length), ∃ ad, A = some ad ∧ ∃ Ai ci, rs[i]? = some (Ai, es[i].length, ci) ∧ w.cell? (ad.add i) = some (.slice Ai es[i].length ci) ∧ BS w Ai es[i] ci := by
  have each : ∀ k, k < es.length → ∃ t : Option Addr × Nat × Nat, ∃ ad, A = some ad ∧ ∃ Ai ci, t = (Ai, (es[k]?.getD []).length, ci) ∧ w.cell? (ad.add k) = some (.slice Ai (es[k]?.getD []).length ci) ∧ BS w Ai (es[k]?.getD []) ci := fun k hk => by
    obtain ⟨ad, Ai, ci, e, hc, hb⟩ := h k hk
    exact ⟨_, ad, e, Ai, ci, rfl, by simpa [hk] using hc, by simpa [hk] using hb⟩
  obtain ⟨f, hf⟩ := Deep.choose_lt each
  refine ⟨(List.range es.length).map f, by simp, fun i hi => ?_⟩
  obtain ⟨ad, e, Ai, ci, h1, h2, h3⟩ := hf i hi
  simp only [List.getElem?_eq_getElem hi, Option.getD_some] at h1 h2 h3
  exact ⟨ad, e, Ai, ci, by simp [hi, h1], h2, h3⟩
variable {ops : Array Oper} {rest : List Oper} {o : Oper} {a : Act} {Q : Exit → Act → World → Prop}
/-- append(v, m...), m any row that is read. -/
theorem rs_wp {K : Act → World → Prop} (s x : Operand) (ho : o.op = .call { callee := .builtin .append, args := #[s, x], argTypes := #[29, 29] })
    (hown : Rs L B w v es) (hs : a.eval s = v) (A : Option Addr) (ms : List (List UInt8)) (n c : Nat) (hx : a.eval x = .slice A n c) (hn : n = ms.length) (hm : Es w A ms) (hbare : A = none → c = 0)
    (hL : ∀ i (hi : i < ms.length) Ai ci ad, A.map (·.add i) = some ad → w.cell? ad = some (.slice Ai ms[i].length ci) → ∀ bd, Ai = some bd → ms[i] = [] ∨ (L bd.block ∧ v.ownBlock ≠ some bd.block))
    (hle : es.length + ms.length ≤ 1000000) (hB : B ≤ w.heap.size)
    (h : ∀ v' w', Rs L B w' v' (es ++ ms) → Below B w w' → w.grownBy w' v.ownBlock → (v'.ownBlock = v.ownBlock ∨ v'.ownBlock = some w.heap.size) → K (a.put o.dst v') w') : o.wp Try.prog a w K Q := by
  subst hn
  have hlt := fun k (hk : v.ownBlock = some k) => hown.lt hk
  obtain ⟨i0, hi0, hz0, hz1, hz2⟩ := info_parts infoR
  cases A with
  | none =>
    have hc := hbare rfl
    subst hc
    have hm0 : ms = [] := by
      cases ms with
      | nil => rfl
      | cons y ys => obtain ⟨ad, _, _, e, _⟩ := hm 0 (by simp); cases e
    subst hm0
    have hr := hown
    obtain ⟨rs, h1, h2, h3⟩ := hown
    have hrun := run_append_owned_none (P := Try.prog) (w := w) B 29 o.type 36 i0 1 Try.underlying29 hi0 v _ _ h2
    unfold Oper.wp
    simp [execOp, ho, resolve, invoke, builtin, hs, hx, hrun, Result.andThen]
    exact h _ _ (by rw [List.append_nil]; exact hr) (Below.refl _ _) (World.grownBy.refl _ _) (.inl rfl)
  | some ad0 =>
    obtain ⟨ts, t1, t2⟩ := hm.get
    obtain ⟨rs, h1, h2, h3⟩ := hown
    obtain ⟨v', w', hr, g1, g2, _, g4⟩ := run_append_own_at (P := Try.prog) w B 29 o.type 36 i0 _ 1 24 Try.underlying29 hi0 hz0 hz1 hz2 rfl (by decide) v es.length (rs.map slc) h2 ad0 ms.length c (ts.map slc) (by simp [t1])
      (fun j u hj => by
        rw [List.getElem?_map] at hj
        have hjl : j < ms.length := by
          rcases Nat.lt_or_ge j ms.length with h | h
          · exact h
          · rw [List.getElem?_eq_none (by omega)] at hj; cases hj
        obtain ⟨ad, e, Ai, ci, k1, k2, k3⟩ := t2 j hjl
        injection e with e
        subst e
        rw [k1] at hj
        rw [k2]; exact hj)
      (fun u hu => by obtain ⟨t, _, rfl⟩ := List.mem_map.1 hu; rfl) (by unfold maxLen; omega) (by omega) hB
    have hbel : Below B w w' := (Below.refl _ _).grown g2 hB fun k hk => (hlt k hk).1
    unfold Oper.wp execOp
    simp only [ho, resolve, invoke, builtin, Sem.run_bind, Sem.run_pure, Result.andThen_ok, List.map_toArray, List.map_cons, List.map_nil, hs, hx, hr]
    refine h v' w' ⟨rs ++ ts, by simp [h1, t1], by rw [List.length_append, List.map_append]; exact g1, fun i hi => ?_⟩ hbel g2 g4
    have far : ∀ bd : Addr, v.ownBlock ≠ some bd.block → bd.block < w.heap.size → v'.ownBlock ≠ some bd.block := fun bd e1 e2 e3 => by
      rcases g4 with g4 | g4
      · exact e1 (by rw [← g4]; exact e3)
      · rw [g4] at e3; injection e3 with e3; omega
    have inb : ∀ {Ai : Option Addr} {p : List UInt8} {ci : Nat}, BS w Ai p ci → ∀ bd, Ai = some bd → p ≠ [] → bd.block < w.heap.size := fun hb bd e hp => by
      obtain ⟨ad', e', hc⟩ := hb.cells 0 (List.length_pos_iff.2 hp)
      rw [e] at e'
      injection e' with e'
      subst e'
      have := World.block_lt_of_cell? w _ hc
      rwa [add_block] at this
    have keep : ∀ {Ai : Option Addr} {p : List UInt8} {ci : Nat}, BS w Ai p ci → (∀ bd, Ai = some bd → p = [] ∨ (L bd.block ∧ v.ownBlock ≠ some bd.block)) → BS w' Ai p ci ∧ ∀ bd, Ai = some bd → p = [] ∨ (L bd.block ∧ v'.ownBlock ≠ some bd.block) := fun {Ai p ci} hb hA => by
      refine ⟨⟨fun j hj => ?_, hb.cap, hb.bare⟩, fun bd e => ?_⟩
      · obtain ⟨ad', e, hc⟩ := hb.cells j hj
        have hp : p ≠ [] := fun h => by subst h; simp at hj
        exact ⟨ad', e, g2.cell hc (by rw [add_block]; exact fun h => ((hA ad' e).resolve_left hp).2 h.symm)⟩
      · by_cases hp : p = []
        · exact .inl hp
        · have := (hA bd e).resolve_left hp
          exact .inr ⟨this.1, far bd this.2 (inb hb bd e hp)⟩
    by_cases hi2 : i < es.length
    · obtain ⟨Ai, ci, e, hb, hA⟩ := h3 i hi2
      have e2 : (es ++ ms)[i] = es[i] := List.getElem_append_left hi2
      obtain ⟨k1, k2⟩ := keep hb hA
      rw [e2]
      exact ⟨Ai, ci, by rw [List.getElem?_append_left (by omega)]; exact e, k1, k2⟩
    · have hi3 : i - es.length < ms.length := by simp at hi; omega
      obtain ⟨ad, e, Ai, ci, k1, k2, k3⟩ := t2 (i - es.length) hi3
      injection e with e
      subst e
      have e2 : (es ++ ms)[i] = ms[i - es.length] := List.getElem_append_right (by omega)
      obtain ⟨j1, j2⟩ := keep k3 (hL _ hi3 Ai ci _ rfl k2)
      rw [e2]
      exact ⟨Ai, ci, by rw [List.getElem?_append_right (by omega), h1]; exact k1, j1, j2⟩
theorem wp_rs (hgd : o.guard = none) (s x : Operand) (ho : o.op = .call { callee := .builtin .append, args := #[s, x], argTypes := #[29, 29] })
    (hown : Rs L B w v es) (hs : a.eval s = v) (A : Option Addr) (ms : List (List UInt8)) (n c : Nat) (hx : a.eval x = .slice A n c) (hn : n = ms.length) (hm : Es w A ms) (hbare : A = none → c = 0)
    (hL : ∀ i (hi : i < ms.length) Ai ci ad, A.map (·.add i) = some ad → w.cell? ad = some (.slice Ai ms[i].length ci) → ∀ bd, Ai = some bd → ms[i] = [] ∨ (L bd.block ∧ v.ownBlock ≠ some bd.block))
    (hle : es.length + ms.length ≤ 1000000) (hB : B ≤ w.heap.size)
    (h : ∀ v' w', Rs L B w' v' (es ++ ms) → Below B w w' → w.grownBy w' v.ownBlock → (v'.ownBlock = v.ownBlock ∨ v'.ownBlock = some w.heap.size) → wpList Try.prog ops Q rest (a.put o.dst v') w') : wpList Try.prog ops Q (o :: rest) a w :=
  wpList_plain hgd fun K hK => rs_wp s x ho hown hs A ms n c hx hn hm hbare hL hle hB fun v' w' h1 h2 h3 h4 => hK _ _ (h v' w' h1 h2 h3 h4)
/-- append(v, p), the slice laid in a block of its own. -/
theorem wp_rs1 (hgd : o.guard = none) (s x : Operand) (ho : o.op = .call { callee := .builtin .append, args := #[s, x], argTypes := #[29, 29] })
    (hown : Rs L B w v es) (hs : a.eval s = v) (A : Option Addr) (p : List UInt8) (c : Nat) (hx : a.eval x = .slice (some ⟨w.heap.size, 0, none⟩) 1 1) (hp : BS w A p c) (hL : ∀ bd, A = some bd → p = [] ∨ (L bd.block ∧ v.ownBlock ≠ some bd.block))
    (hle : es.length ≤ 100000) (hB : B ≤ w.heap.size)
    (h : ∀ v' w', Rs L B w' v' (es ++ [p]) → Below B w w' → wpList Try.prog ops Q rest (a.put o.dst v') w') : wpList Try.prog ops Q (o :: rest) a (w.alloc (.cells #[.slice A p.length c] 36)) := by
  have hb1 := (Below.refl w.heap.size w).alloc (Nat.le_refl _) (.cells #[.slice A p.length c] 36)
  have hcell : (w.alloc (.cells #[.slice A p.length c] 36)).cell? ⟨w.heap.size, 0, none⟩ = some (.slice A p.length c) := by rw [cell_of_row _ _ 0 _ _ _ (heap_alloc_new w _)]; rfl
  refine wp_rs hgd s x ho (hown.below hb1) hs (some ⟨w.heap.size, 0, none⟩) [p] 1 1 hx rfl (fun i hi => ?_) (fun e => by cases e) (fun i hi Ai ci ad e hc bd eb => ?_) (by simp; omega) (by simp; omega) fun v' w' h1 h2 h3 h4 => h v' w' h1 ((hb1.mono hB).trans h2)
  · obtain rfl : i = 0 := by simpa using hi
    exact ⟨_, A, c, rfl, by rw [Addr.add_lit]; exact hcell, hp.below hb1⟩
  · obtain rfl : i = 0 := by simpa using hi
    simp only [Option.map_some] at e
    injection e with e
    rw [Addr.add_lit] at e
    rw [← e, show (0 + 0) = 0 from rfl, hcell] at hc
    injection hc with hc
    injection hc with hc _ _
    exact hL bd (hc.trans eb)
end
set_option maxHeartbeats 1000000 in
/-- rows, of the laws of chapter 5. -/
theorem rows_any {w : World} (A : Option Addr) (es : List (List UInt8)) (c : Nat) (B : Option Addr) (fs : List (List UInt8)) (d : Nat) (hx : Es w A es) (hy : Es w B fs) (hl : es.length ≤ 100000) :
    Calls Try.prog 25 #[.slice A es.length c, .slice B fs.length d] w fun e w' => e = .returned (.bool (decide (es = fs))) ∧ Below w.heap.size w w' := by
  have HX := Lib.hid hx
  have HY := Lib.hid hy
  clear hx hy
  by_cases hlen : es.length = fs.length
  · have HLE := Lib.hid hlen
    have hq : (((es.length : Int)) == (fs.length : Int)) = true := by simp; exact_mod_cast hlen
    have hq2 : (((es.length : Int)) != (fs.length : Int)) = false := by simp; exact_mod_cast hlen
    clear hlen
    go_enter Try.func25, Try.ntmps25
    go_wp2
    clear hq hq2
    go_loopw [5] (fun i wr => ∃ k : Nat, k ≤ es.length ∧ i = .int .i64 k ∧ Hid (es.take k = fs.take k ∧ Below w.heap.size w wr)) (fun i _ => es.length - (intOf i).toNat)
    case atStart => exact ⟨0, Nat.zero_le _, rfl, by simp, Below.refl _ _⟩
    case round =>
      obtain ⟨k, hk, rfl, HT⟩ := hrel
      by_cases hlt : k < es.length
      · have hlt2 : k < fs.length := by have := HLE.out; omega
        obtain ⟨ax, Ax, cx, rfl, hcx, hbx⟩ := (HX.out.below HT.out.2) k hlt
        obtain ⟨ay, Ay, cy, rfl, hcy, hby⟩ := (HY.out.below HT.out.2) k hlt2
        have vx := fun n => (hbx.drewN n).conv _ rfl
        have vy := fun n => (hby.drewN n).conv _ rfl
        by_cases he : es[k] = fs[k]
        · have HE := Lib.hid he
          have hq : ((bstr es[k]).toList == (bstr fs[k]).toList) = true := by rw [he]; simp
          clear he hbx hby
          go_wp2_with fail
          go_quiet (fail)
          have HB2 := Lib.hid (below_drewN HT.out.2 nq)
          go_wp2
          refine ⟨⟨k + 1, by omega, by go_num, ?_, HB2.out⟩, by simp [intOf]; omega⟩
          rw [List.take_succ_eq_append_getElem hlt, List.take_succ_eq_append_getElem hlt2, HT.out.1, HE.out]
        · have hq : ((bstr es[k]).toList == (bstr fs[k]).toList) = false := by rw [bstr_list, bstr_list]; simpa using he
          have HR : Hid (decide (es = fs) = false) := by simp only [Hid]; exact decide_eq_false (fun h => he (by subst h; rfl))
          clear he hbx hby
          go_wp2_with fail
          go_quiet (fail)
          have HB2 := Lib.hid (below_drewN HT.out.2 nq)
          go_wp2
          go_ret
          exact ⟨ret_b HR.out.symm, HB2.out⟩
      · obtain rfl : k = es.length := by omega
        have HR : Hid (decide (es = fs) = true) := by
          simp only [Hid]
          refine decide_eq_true ?_
          have := HT.out.1
          rwa [List.take_length, HLE.out, List.take_length] at this
        go_wp2
        go_ret
        exact ⟨ret_b HR.out.symm, HT.out.2⟩
  · have hq : (((es.length : Int)) == (fs.length : Int)) = false := by simp; omega
    have hq2 : (((es.length : Int)) != (fs.length : Int)) = true := by simp; omega
    have HR : Hid (decide (es = fs) = false) := by simp only [Hid]; exact decide_eq_false (fun h => hlen (by rw [h]))
    clear hlen
    go_enter Try.func25, Try.ntmps25
    go_wp2
    go_ret
    exact ⟨ret_b HR.out.symm, Below.refl _ _⟩
end Go.Proofs.Ytembonenaoineaa
