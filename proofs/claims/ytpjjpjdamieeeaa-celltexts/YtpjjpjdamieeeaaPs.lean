/- The Cell of strings of package cell in memory: New, Len, Check, Write and Read. Conditions: the Cell and its Clock lie in memory; fewer than 900,000 versions. (Made by tools/mkstr.py out of the texts of the Cell of ints.) -/
import Derived.Test.YtpjjpjdamieeeaaPi
namespace Go.Proofs.Ytpjjpjdamieeeaa
set_option maxRecDepth 100000
set_option linter.unusedVariables false
open Go.ChangeShapes Go.WideShapes Go.ChangeAt Go.RowKit Go.Shelf
attribute [local go_sem] Oper.semAt_some
section
variable {F F' G R : Nat → Prop} {w w' W W3 w4 : World} {a b : Nat} {v1 v' : Value} {c : Ck} {l L0 : List (Ver ByteArray)} {t : Int}
theorem rd_atS {c : Ck} {t : Int} {l : List (Ver ByteArray)} {k : Nat} (hk : k < l.length) (hs : c.sees t l[k].w = true) (hn : ∀ j (hj : j < l.length), k < j → c.sees t l[j].w = false) : Ver.rdX c t l = some l[k] := by
  unfold Ver.rdX
  have e : l = l.take k ++ l[k] :: l.drop (k + 1) := by rw [List.getElem_cons_drop, List.take_append_drop]
  have e2 : l.reverse = (l.drop (k + 1)).reverse ++ ([l[k]] ++ (l.take k).reverse) := by
    have := congrArg List.reverse e
    rw [List.reverse_append, List.reverse_cons, List.append_assoc] at this
    exact this
  rw [e2, List.find?_append]
  have h0 : (l.drop (k + 1)).reverse.find? (fun x => c.sees t x.w) = none := by
    rw [List.find?_eq_none]
    intro x hx
    rw [List.mem_reverse] at hx
    obtain ⟨j, hj, rfl⟩ := List.getElem_of_mem hx
    rw [List.getElem_drop]
    rw [List.length_drop] at hj
    rw [hn (k + 1 + j) (by omega) (by omega)]
    simp
  rw [h0]
  simp [hs]
theorem rd_noneS {c : Ck} {t : Int} {l : List (Ver ByteArray)} (hn : ∀ j (hj : j < l.length), c.sees t l[j].w = false) : Ver.rdX c t l = none := by
  unfold Ver.rdX
  rw [List.find?_eq_none]
  intro x hx
  rw [List.mem_reverse] at hx
  obtain ⟨j, hj, rfl⟩ := List.getElem_of_mem hx
  rw [hn j hj]
  simp
/-- A version's value as it is kept: that of a removal is not. -/
def kvS (x : Ver ByteArray) : ByteArray := if x.g then (ByteArray.mk #[]) else x.v
def pvS (x : Ver ByteArray) : List Value := [.int .i64 x.w, .string (kvS x), .bool x.g]
def pvsS (l : List (Ver ByteArray)) : List Value := l.flatMap pvS
theorem pv_lenS (l : List (Ver ByteArray)) : ∀ x ∈ l, (pvS x).length = 3 := fun x _ => rfl
theorem pvs_lenS (l : List (Ver ByteArray)) : (pvsS l).length = l.length * 3 := flat_len pvS 3 l (pv_lenS l)
theorem pvs_appS (l m : List (Ver ByteArray)) : pvsS (l ++ m) = pvsS l ++ pvsS m := by simp [pvsS]
theorem pv_one1S (x : Ver ByteArray) : ∀ u ∈ pvS x, u.oneCell' = true := by
  intro u hx
  simp only [pvS, List.mem_cons, List.not_mem_nil, or_false] at hx
  rcases hx with rfl | rfl | rfl <;> rfl
/-- The Cell in block a, its versions at v1; all of it in blocks of F. -/
structure CMS (F : Nat → Prop) (w : World) (a : Nat) (v1 : Value) (l : List (Ver ByteArray)) : Prop where
  lt : ∀ k, F k → k < w.heap.size
  fa : F a
  f1 : ∀ k, v1.ownBlock = some k → F k
  blk : w.heap[a]? = some (.cells #[v1] 98 (0, 0))
  r1 : ORow w 100 3 v1 l.length (pvsS l)
def CCS (F : Nat → Prop) (w : World) (a : Nat) (l : List (Ver ByteArray)) : Prop := ∃ v1, CMS F w a v1 l
theorem CMS.same (h : CMS F w a v1 l) (hF : ∀ k, F k → F' k) (hlt : ∀ k, F' k → k < w'.heap.size) (hw : ∀ k, F k → w'.heap[k]? = w.heap[k]?) : CMS F' w' a v1 l :=
  ⟨hlt, hF _ h.fa, fun k hk => hF k (h.f1 k hk), (hw a h.fa).trans h.blk, h.r1.same (fun k hk => hw k (h.f1 k hk))⟩
theorem CCS.same (h : CCS F w a l) (hF : ∀ k, F k → F' k) (hlt : ∀ k, F' k → k < w'.heap.size) (hw : ∀ k, F k → w'.heap[k]? = w.heap[k]?) : CCS F' w' a l := by
  obtain ⟨v1, h⟩ := h
  exact ⟨v1, h.same hF hlt hw⟩
theorem CCS.lt (h : CCS F w a l) : ∀ k, F k → k < w.heap.size := by obtain ⟨v1, h⟩ := h; exact h.lt
theorem CCS.chg (h : CCS F w a l) (hc : Chg G w w') (hG : ∀ k, F k → ¬ G k) : CCS F w' a l :=
  h.same (fun _ h => h) (fun k hk => Nat.lt_of_lt_of_le (h.lt k hk) hc.size) (fun k hk => hc.block k (h.lt k hk) (hG k hk))
theorem CCS.below (h : CCS F w a l) (hb : Below w.heap.size w w') : CCS F w' a l := h.chg (Chg.below (F := fun _ => False) hb) (fun _ _ h => h)
theorem CMS.below (h : CMS F w a v1 l) (hb : Below w.heap.size w w') : CMS F w' a v1 l :=
  h.same (fun _ h => h) (fun k hk => Nat.lt_of_lt_of_le (h.lt k hk) hb.size) (fun k hk => hb.block k (h.lt k hk))
theorem CCS.wide (h : CCS F w' a l) (hs : w.heap.size ≤ w'.heap.size) (F0 : Nat → Prop) (hF : ∀ k, F k → F0 k ∨ w.heap.size ≤ k) (h0 : ∀ k, F0 k → k < w.heap.size) : CCS (Nu F0 w w') w' a l :=
  h.same (fun k hk => by rcases hF k hk with h1 | h1; exact .inl h1; exact .inr ⟨h1, h.lt k hk⟩) (fun k hk => by rcases hk with h1 | h1; exact Nat.lt_of_lt_of_le (h0 k h1) hs; exact h1.2) (fun _ _ => rfl)
/-- A method returns v, and leaves the Cell in block a with versions l; of what was there only blocks of F may change. -/
def DoesCS (F : Nat → Prop) (w : World) (a : Nat) (v : Value) (l : List (Ver ByteArray)) (e : Ending) (w' : World) : Prop := e = .returned v ∧ CCS (Nu F w w') w' a l ∧ Chg F w w'
theorem doesC_ofS {v : Value} (h : CCS F w' a l) (hc : Chg F w w') (h0 : ∀ k, F k → k < w.heap.size) : DoesCS F w a v l (.returned v) w' :=
  ⟨rfl, h.wide hc.size F (fun _ h => .inl h) h0, hc⟩
theorem CMS.cells (h : CMS F w a v1 l) : w.cell? ⟨a, 0, none⟩ = some v1 ∧ ∀ o, w.frozen? ⟨a, o, none⟩ = false := by
  have hb := h.blk
  refine ⟨?_, fun o => frozen_of_row w a o _ _ hb⟩
  rw [cell_of_row w a _ _ _ _ hb]; rfl
theorem CMS.cellsIn (h : CMS F w a v1 l) (hba : w'.heap[a]? = w.heap[a]?) : w'.cell? ⟨a, 0, none⟩ = some v1 ∧ ∀ o, w'.frozen? ⟨a, o, none⟩ = false := by
  have ha := hba.trans h.blk
  refine ⟨?_, fun o => frozen_of_row w' a o _ _ ha⟩
  rw [cell_of_row w' a _ _ _ _ ha]; rfl
theorem orow_atS {e : Nat} {g o c : Nat} (h : ORow w e 3 (.slice (some ⟨g, o, none⟩) l.length c) l.length (pvsS l)) {k : Nat} (hk : k < l.length) : w.cell? ⟨g, o + k * 3, none⟩ = some (.int .i64 l[k].w) ∧ w.cell? ⟨g, o + k * 3 + 1, none⟩ = some (.string (kvS l[k])) ∧ w.cell? ⟨g, o + k * 3 + 2, none⟩ = some (.bool l[k].g) ∧ ∀ j, w.frozen? ⟨g, j, none⟩ = false := by
  have e : ∀ j, j < 3 → w.cell? ⟨g, o + k * 3 + j, none⟩ = (pvS l[k])[j]? := fun j hj => by
    rw [Nat.add_assoc, h.cellAt (k * 3 + j) (by omega)]
    exact flat_at pvS 3 (pv_lenS l) k j hk hj
  exact ⟨e 0 (by omega), e 1 (by omega), e 2 (by omega), fun j => h.frozenAt j⟩
theorem CMS.row (h : CMS F w a v1 l) {k : Nat} (hk : k < l.length) : ∃ g o cp, v1 = .slice (some ⟨g, o, none⟩) l.length cp ∧ l.length ≤ cp ∧ F g ∧ w.cell? ⟨g, o + k * 3, none⟩ = some (.int .i64 l[k].w) ∧ w.cell? ⟨g, o + k * 3 + 1, none⟩ = some (.string (kvS l[k])) ∧ w.cell? ⟨g, o + k * 3 + 2, none⟩ = some (.bool l[k].g) ∧ ∀ j, w.frozen? ⟨g, j, none⟩ = false := by
  obtain ⟨g, o, cp, rfl, hcp⟩ := h.r1.form (by omega)
  exact ⟨g, o, cp, rfl, hcp, h.f1 g rfl, orow_atS h.r1 hk⟩
theorem CMS.big (h : CMS F w a v1 l) : l.length ≤ 9223372036854775807 := h.r1.big
/-- A row is laid into the Cell. -/
theorem CMS.put {v' : Value} {l' : List (Ver ByteArray)} (h : CMS F w a v1 l) (hc : Chg F w w') (hba : w'.heap[a]? = w.heap[a]?) {n : Nat} (hr : ORow w' 100 3 v' n (pvsS l')) (hnl : n = l'.length) (hn : ∀ k, v'.ownBlock = some k → F k ∨ w.heap.size ≤ k) :
    CMS (Nu F w (w'.setCell ⟨a, 0, none⟩ v')) (w'.setCell ⟨a, 0, none⟩ v') a v' l' ∧ Chg F w (w'.setCell ⟨a, 0, none⟩ v') := by
  subst hnl
  have hz : (w'.setCell ⟨a, 0, none⟩ v').heap.size = w'.heap.size := by simp [World.setCell]
  have hs := hc.size
  have ha : w'.heap[a]? = some (.cells #[v1] 98 (0, 0)) := hba.trans h.blk
  have hn' : ∀ k, v'.ownBlock = some k → k ≠ a := fun k hk e => by
    obtain ⟨cur, h1⟩ := hr.type hk
    subst e
    rw [h1] at ha
    injection ha with ha; injection ha with _ ha; cases ha
  refine ⟨⟨fun k hk => ?_, .inl h.fa, fun k hk => ?_, ?_, hr.same (fun k hk => Below.heap_setCell w' _ v' k (hn' k hk))⟩, hc.grown (grown_set w' a 0 v') (fun k e => by injection e with e; subst e; exact .inl h.fa)⟩
  · rcases hk with hk | hk
    · rw [hz]; have := h.lt k hk; omega
    · exact hk.2
  · rcases hn k hk with h1 | h1
    · exact .inl h1
    · exact .inr ⟨h1, by rw [hz]; exact hr.lt k hk⟩
  · have := heap_setCell_same w' a 0 _ _ v' ha
    rw [this]; rfl
theorem cnew_anyS (w : World) : Calls Try.prog 28 #[] w fun e w' => e = .returned (.pointer (some ⟨w.heap.size, 0, none⟩)) ∧ CCS (fun k => k = w.heap.size) w' w.heap.size [] ∧ Below w.heap.size w w' := by
  go_enter Try.func28, Try.ntmps28
  go_wp2
  go_ret
  have hm : CMS (fun k => k = w.heap.size) (w.alloc (.cells #[.slice none 0 0] 98)) w.heap.size (.slice none 0 0) [] :=
    { lt := fun k hk => by subst hk; simp
      fa := rfl
      f1 := fun k hk => by simp [Value.ownBlock] at hk
      blk := heap_alloc_new w _
      r1 := orow_nil _ _ _ }
  exact ⟨rfl, ⟨_, hm⟩, (Below.refl _ _).alloc (Nat.le_refl _) _⟩
theorem clen_anyS (h : CCS F w a l) : Calls Try.prog 31 #[.pointer (some ⟨a, 0, none⟩)] w fun e w' => e = .returned (.int .i64 (l.length : Nat)) ∧ w = w' := by
  obtain ⟨v1, h⟩ := h
  obtain ⟨k0, kf⟩ := h.cells
  obtain ⟨A, cp, rfl⟩ := h.r1.slice
  clear h
  go_enter Try.func31, Try.ntmps31
  go_wp2
  go_ret
  exact ⟨rfl, rfl⟩
theorem ccheck_anyS (h : CCS F w a l) (hr : PC R w b c) (t : Int) :
    Calls Try.prog 56 #[.pointer (some ⟨a, 0, none⟩), .pointer (some ⟨b, 0, none⟩), .int .i64 t] w fun e w' => e = .returned (.int .i64 (Ver.chk c t l)) ∧ Below w.heap.size w w' := by
  obtain ⟨v1, h⟩ := h
  obtain ⟨k0, kf⟩ := h.cells
  have HM := Lib.hid h
  have hbig := h.big
  have HS := Lib.hid (fun u => clashes_any hr t u)
  obtain ⟨A, cp, rfl⟩ := h.r1.slice
  clear h hr
  by_cases hz : l.length = 0
  · have e : l = [] := List.length_eq_zero_iff.1 hz
    subst e
    go_enter Try.func56, Try.ntmps56
    go_wp2
    go_ret
    exact ⟨rfl, Below.refl _ _⟩
  · obtain ⟨m, hm⟩ : ∃ m, l.length = m + 1 := ⟨l.length - 1, by omega⟩
    have hml : m < l.length := by omega
    obtain ⟨g, o, cp', hgg, _, _, q0, q1, q2, qf⟩ := HM.out.row hml
    injection hgg with hgg _ hcp
    subst hgg
    subst hcp
    have HC := HS.out l[m].w
    have HE : Hid (Ver.chk c t l = if c.clashes t l[m].w then 6 else 0) := by
      simp only [Hid]
      unfold Ver.chk
      rw [List.getLast?_eq_getElem?, show l.length - 1 = m by omega, List.getElem?_eq_getElem hml]
    rw [HE.out]
    have hi5 : IntKind.i64.wrap (m : Int) = (m : Int) := wrapI (by omega)
    have hi6 : ((m + 1 : Nat) : Int) - 1 = (m : Int) := by omega
    rw [hm] at k0 hbig
    have hm0 : (0 : Int) ≤ (m : Int) := by omega
    generalize l[m].w = xw at *
    clear HE HM HS hz hml hm q1 q2 qf
    cases hcl : c.clashes t xw
    all_goals (
      rw [hcl] at HC
      have HC := Lib.hid HC
      go_enter Try.func56, Try.ntmps56
      go_wp2_with (go_at_call 48; (with_reducible refine HC.out.mono ?_); rintro e w1 ⟨rfl, hb1⟩)
      go_ret
      exact ⟨rfl, hb1⟩)
theorem pvs_setS (M : List (Ver ByteArray)) (k : Nat) (hk : k < M.length) (y : Ver ByteArray) : splice (pvsS M) (k * 3) (pvS y) = pvsS (M.set k y) := flat_set pvS 3 M (pv_lenS M) y rfl k hk
theorem infoPS : (Try.prog.info? 100).map (fun i => (i.zero, i.size, i.bytes)) = some (some (.agg #[.int .i64 0, .string (ByteArray.mk #[]), .bool false]), 3, 32) := by kernel_rfl
/-- A row that lies where the Cell's row lay, or is new, is laid into the Cell. -/
theorem CMS.lay (h : CMS F w a v1 l) (hb : Below w.heap.size w W) {l' : List (Ver ByteArray)} {n : Nat} (hr : ORow w' 100 3 v' n (pvsS l')) (hnl : n = l'.length) (hg : W.grownBy w' v1.ownBlock) (ho : v'.ownBlock = v1.ownBlock ∨ v'.ownBlock = some W.heap.size) :
    (CMS (Nu F w (w'.setCell ⟨a, 0, none⟩ v')) (w'.setCell ⟨a, 0, none⟩ v') a v' l' ∧ Chg F w (w'.setCell ⟨a, 0, none⟩ v')) ∧ (w'.cell? ⟨a, 0, none⟩ = some v1 ∧ ∀ o, w'.frozen? ⟨a, o, none⟩ = false) := by
  have hlt := h.lt a h.fa
  have hs := hb.size
  have hne : v1.ownBlock ≠ some a := fun e => by
    obtain ⟨cur, q⟩ := h.r1.type e
    have := h.blk
    rw [q] at this
    injection this with this; injection this with _ this; cases this
  have hba : w'.heap[a]? = w.heap[a]? := (hg.block a (by omega) (fun e => hne e.symm)).trans (hb.block a hlt)
  have hc : Chg F w w' := (Chg.below hb).grown hg (fun k hk => .inl (h.f1 k hk))
  refine ⟨h.put hc hba hr hnl (fun k hk => ?_), h.cellsIn hba⟩
  rcases ho with e | e
  · exact .inl (h.f1 k (by rw [← e]; exact hk))
  · rw [e] at hk; injection hk with hk; exact .inr (by omega)
theorem cwrite_noS (h : CCS F w a l) (hr : PC R w b c) (t : Int) (v : ByteArray) (g : Bool) (hk : Ver.chk c t l ≠ 0) :
    Calls Try.prog 29 #[.pointer (some ⟨a, 0, none⟩), .pointer (some ⟨b, 0, none⟩), .int .i64 t, .string v, .bool g] w (DoesCS F w a (.int .i64 6) l) := by
  have H := Lib.hid h
  have HS := ccheck_anyS h hr t
  rw [(Ver.chk_le c t l).resolve_left hk] at HS
  have HS := Lib.hid HS
  clear h hr hk
  go_enter Try.func29, Try.ntmps29
  go_wp2_with (go_at_call 56; (with_reducible refine HS.out.mono ?_); rintro e w1 ⟨rfl, hb1⟩)
  go_ret
  exact doesC_ofS (H.out.below hb1) (Chg.below hb1) H.out.lt
theorem pnew_cellsS (W : World) (x : Ver ByteArray) (t : TypeId) : ∀ j u, (pvS x)[j]? = some u → (W.alloc (.cells #[.int .i64 x.w, .string (kvS x), .bool x.g] t)).cell? ((⟨W.heap.size, 0, none⟩ : Addr).add j) = some u := fun j u hj => by
  rw [Addr.add_lit, Nat.zero_add, cell_of_row _ _ j _ _ _ (heap_alloc_new W _)]
  rw [← Array.getElem?_toList]
  exact hj
/-- As seen from the world in which Write began. -/
theorem cwrite_doneS {E : Int} {W5 : World} {L0 : List (Ver ByteArray)} {v4 : Value} (h : CCS F w a l) (hb : Below w.heap.size w W) (hp : CMS (Nu F W W5) W5 a v4 L0 ∧ Chg F W W5) : DoesCS F w a (.int .i64 E) L0 (.returned (.int .i64 E)) W5 := by
  have s1 := hb.size
  have s2 := hp.2.size
  refine ⟨rfl, ⟨v4, hp.1.same (fun k hk => ?_) (fun k hk => ?_) (fun _ _ => rfl)⟩, (Chg.below hb).trans (hp.2.mono (fun k hk => .inl hk))⟩
  · rcases hk with hk | hk
    · exact .inl hk
    · exact .inr ⟨by omega, hk.2⟩
  · rcases hk with hk | hk
    · have := h.lt k hk; omega
    · exact hk.2
set_option maxHeartbeats 2000000 in
theorem cwrite_yesS (h : CCS F w a l) (hr : PC R w b c) (t : Int) (v : ByteArray) (g : Bool) (hk : Ver.chk c t l = 0) (hl : l.length ≤ 800000) :
    Calls Try.prog 29 #[.pointer (some ⟨a, 0, none⟩), .pointer (some ⟨b, 0, none⟩), .int .i64 t, .string v, .bool g] w (DoesCS F w a (.int .i64 0) (Ver.put t v g l)) := by
  have H := Lib.hid h
  have HS := ccheck_anyS h hr t
  rw [hk] at HS
  have HS := Lib.hid HS
  have HKV : Hid (kvS ⟨t, v, g⟩ = if g then (ByteArray.mk #[]) else v) := rfl
  clear h hr hk
  cases g
  · go_enter Try.func29, Try.ntmps29
    go_upto_region 7 with (go_at_call 56; (with_reducible refine HS.out.mono ?_); rintro e w1 ⟨rfl, hb1⟩; have HB1 := Lib.hid hb1; clear hb1)
    have hbv := (Below.refl w1.heap.size w1).alloc (Nat.le_refl _) (.cells #[.int .i64 t, .string v, .bool false] 100)
    have HBV := Lib.hid (HB1.out.trans (hbv.mono HB1.out.size))
    have hblk := heap_alloc_new w1 (.cells #[.int .i64 t, .string v, .bool false] 100)
    generalize w1.alloc (.cells #[.int .i64 t, .string v, .bool false] 100) = V at *
    have y0 : V.cell? ⟨w1.heap.size, 0, none⟩ = some (.int .i64 t) := (cell_of_row V _ 0 _ _ _ hblk).trans rfl
    have y1 : V.cell? ⟨w1.heap.size, 1, none⟩ = some (.string v) := (cell_of_row V _ 1 _ _ _ hblk).trans rfl
    have y2 : V.cell? ⟨w1.heap.size, 2, none⟩ = some (.bool false) := (cell_of_row V _ 2 _ _ _ hblk).trans rfl
    clear hbv hblk HS HKV
    have HBA := Lib.hid ((Below.refl V.heap.size V).drew.alloc (Nat.le_refl _) (.cells #[.int .i64 t, .string v, .bool false] 100))
    have HC := Lib.hid (show ∀ j u, (pvS ⟨t, v, false⟩)[j]? = some u → (V.drew.alloc (.cells #[.int .i64 t, .string v, .bool false] 100)).cell? ((⟨V.heap.size, 0, none⟩ : Addr).add j) = some u from pnew_cellsS V.drew ⟨t, v, false⟩ 100)
    obtain ⟨v1, hm⟩ := H.out.below HBV.out
    have HMV := Lib.hid hm
    obtain ⟨k0, kf⟩ := hm.cells
    have HR := Lib.hid (hm.below HBA.out).r1
    have k0' : (V.alloc (.cells #[.int .i64 t, .string v, .bool false] 100)).cell? ⟨a, 0, none⟩ = some v1 := (hm.below HBA.out).cells.1
    have e0 : ∀ k o, k < V.heap.size → (V.alloc (.cells #[.int .i64 t, .string v, .bool false] 100)).cell? ⟨k, o, none⟩ = V.cell? ⟨k, o, none⟩ := fun k o hk => HBA.out.cell (p := ⟨k, o, none⟩) hk
    have y0' := (e0 _ 0 (World.block_lt_of_cell? V _ y0)).trans y0
    have y1' := (e0 _ 1 (World.block_lt_of_cell? V _ y1)).trans y1
    have y2' := (e0 _ 2 (World.block_lt_of_cell? V _ y2)).trans y2
    clear e0
    rcases List.eq_nil_or_concat l with rfl | ⟨r, y, rfl⟩
    · have HPU : Hid (Ver.put t v false [] = [⟨t, v, false⟩]) := rfl
      rw [HPU.out]
      obtain ⟨A, cp, rfl⟩ := hm.r1.slice
      have HLL : Hid ((0 : Nat) ≤ 800000) := Nat.zero_le _
      clear hm
      go_upto_region 10 with fail
      go_region_law ((refine st_of rfl (orow_wp 96 100 _ 3 32 Try.underlying96 infoPS rfl (by decide) (by decide) (.tmp 59) (.tmp 61) rfl _ _ (pvsS ([] : List (Ver ByteArray))) HR.out rfl ⟨V.heap.size, 0, none⟩ 1 1 (pvS ⟨t, v, false⟩) rfl rfl HC.out (pv_one1S _) (by have := HLL.out; omega) ?_); intro v3 w3 hr3 hg3 ho3; have hr3' : ORow w3 100 3 v3 (0 + 1) (pvsS ([] ++ [⟨t, v, false⟩])) := (by rw [pvs_appS]; exact hr3); have HP := Lib.hid (HMV.out.lay HBA.out hr3' (by simp) hg3 ho3); obtain ⟨j0, jf⟩ := HP.out.2; obtain ⟨A3, c3, rfl⟩ := hr3.slice; clear hr3 hg3 ho3 hr3'))
      all_goals (
        go_wp2
        go_ret
        exact cwrite_doneS H.out HBV.out HP.out.1)
    · rw [List.concat_eq_append] at *
      have hrow := hm.row (k := r.length) (by simp)
      simp only [List.length_append, List.length_cons, List.length_nil, Nat.zero_add, List.getElem_append_right (Nat.le_refl r.length), Nat.sub_self, List.getElem_cons_zero] at hrow hl
      obtain ⟨gg, o, cp, rfl, hcp, _, q0, q1, q2, qf⟩ := hrow
      have hlr : r.length ≤ 800000 := by omega
      have hi5 : IntKind.i64.wrap (r.length : Int) = (r.length : Int) := wrapI (by omega)
      have hr0 : (0 : Int) ≤ (r.length : Int) := by omega
      have hr1 : r.length < r.length + 1 := by omega
      by_cases hy : y.w = t
      · have HPU : Hid (Ver.put t v false (r ++ [y]) = r ++ [⟨t, v, false⟩]) := by simp [Hid, Ver.put, hy]
        rw [HPU.out]
        have hst := ORow.storeds (o := o) (pvS ⟨t, v, false⟩) V (pvsS (r ++ [y])) (r.length * 3) (show ORow V 100 3 (.slice (some ⟨gg, o, none⟩) (r.length + 1) cp) (r.length + 1) (pvsS (r ++ [y])) by have := hm.r1; simpa using this) (by simp [pvS]; omega)
        rw [pvs_setS _ _ (by simp), List.set_append_right _ _ (Nat.le_refl _), Nat.sub_self, List.set_cons_zero] at hst
        have HST := Lib.hid hst
        rw [hy] at q0
        clear hm hst hy k0' y0' y1' y2' HR HC HBA
        go_upto_region 9 with fail
        go_region
        go_wp2
        go_ret
        rw [HPU.out]
        have hsd := HST.out
        have hne : gg ≠ a := fun e => by
          obtain ⟨cur, q⟩ := HMV.out.r1.type (k := gg) rfl
          have := HMV.out.blk
          rw [← e, q] at this
          injection this with this; injection this with _ this; cases this
        have hblk := hsd.2.block a (HMV.out.lt a HMV.out.fa) (fun e => by injection e with e; exact hne e.symm)
        have hcg : Chg F V _ := (Chg.refl F V).grown hsd.2 (fun k e => by injection e with e; subst e; exact .inl (HMV.out.f1 gg rfl))
        exact doesC_ofS (w' := (V.setCells gg (o + r.length * 3) (pvS ⟨t, v, false⟩)).drew) ⟨_, CMS.same (F := F) (w := V.setCells gg (o + r.length * 3) (pvS ⟨t, v, false⟩)) ⟨fun k hk => Nat.lt_of_lt_of_le (HMV.out.lt k hk) hsd.2.size, HMV.out.fa, HMV.out.f1, hblk.trans HMV.out.blk, by have := hsd.1; simpa using this⟩ (fun _ h => h) (fun k hk => Nat.lt_of_lt_of_le (HMV.out.lt k hk) hsd.2.size) (fun _ _ => rfl)⟩ ((Chg.below HBV.out).trans ((hcg.grown (grown_drew _ none) (fun k e => by cases e)).mono (fun k hk => .inl hk))) H.out.lt
      · have HPU : Hid (Ver.put t v false (r ++ [y]) = (r ++ [y]) ++ [⟨t, v, false⟩]) := by simp [Hid, Ver.put, hy]
        rw [HPU.out]
        have hq : (y.w == t) = false := by rw [beq_eq_false_iff_ne]; exact hy
        have HLL : Hid (r.length + 1 ≤ 800001) := by simp only [Hid]; omega
        have hhr := HR.out
        simp only [List.length_append, List.length_cons, List.length_nil, Nat.zero_add] at hhr
        have HR := Lib.hid hhr
        clear hm hhr hy
        go_upto_region 10 with fail
        go_region_law ((refine st_of rfl (orow_wp 96 100 _ 3 32 Try.underlying96 infoPS rfl (by decide) (by decide) (.tmp 59) (.tmp 61) rfl _ _ (pvsS (r ++ [y])) HR.out rfl ⟨V.heap.size, 0, none⟩ 1 1 (pvS ⟨t, v, false⟩) rfl rfl HC.out (pv_one1S _) (by have := HLL.out; omega) ?_); intro v3 w3 hr3 hg3 ho3; have hr3' : ORow w3 100 3 v3 ((r.length + 1) + 1) (pvsS ((r ++ [y]) ++ [⟨t, v, false⟩])) := (by rw [pvs_appS]; exact hr3); have HP := Lib.hid (HMV.out.lay HBA.out hr3' (by simp) hg3 ho3); obtain ⟨j0, jf⟩ := HP.out.2; obtain ⟨A3, c3, rfl⟩ := hr3.slice; clear hr3 hg3 ho3 hr3'))
        all_goals (
          go_wp2
          go_ret
          rw [HPU.out]
          exact cwrite_doneS H.out HBV.out HP.out.1)
  · go_enter Try.func29, Try.ntmps29
    go_upto_region 7 with (go_at_call 56; (with_reducible refine HS.out.mono ?_); rintro e w1 ⟨rfl, hb1⟩; have HB1 := Lib.hid hb1; clear hb1)
    have hbv := (Below.refl w1.heap.size w1).alloc (Nat.le_refl _) (.cells #[.int .i64 t, .string (ByteArray.mk #[]), .bool true] 100)
    have HBV := Lib.hid (HB1.out.trans (hbv.mono HB1.out.size))
    have hblk := heap_alloc_new w1 (.cells #[.int .i64 t, .string (ByteArray.mk #[]), .bool true] 100)
    generalize w1.alloc (.cells #[.int .i64 t, .string (ByteArray.mk #[]), .bool true] 100) = V at *
    have y0 : V.cell? ⟨w1.heap.size, 0, none⟩ = some (.int .i64 t) := (cell_of_row V _ 0 _ _ _ hblk).trans rfl
    have y1 : V.cell? ⟨w1.heap.size, 1, none⟩ = some (.string (ByteArray.mk #[])) := (cell_of_row V _ 1 _ _ _ hblk).trans rfl
    have y2 : V.cell? ⟨w1.heap.size, 2, none⟩ = some (.bool true) := (cell_of_row V _ 2 _ _ _ hblk).trans rfl
    clear hbv hblk HS HKV
    have HBA := Lib.hid ((Below.refl V.heap.size V).drew.alloc (Nat.le_refl _) (.cells #[.int .i64 t, .string (ByteArray.mk #[]), .bool true] 100))
    have HC := Lib.hid (show ∀ j u, (pvS ⟨t, v, true⟩)[j]? = some u → (V.drew.alloc (.cells #[.int .i64 t, .string (ByteArray.mk #[]), .bool true] 100)).cell? ((⟨V.heap.size, 0, none⟩ : Addr).add j) = some u from pnew_cellsS V.drew ⟨t, v, true⟩ 100)
    obtain ⟨v1, hm⟩ := H.out.below HBV.out
    have HMV := Lib.hid hm
    obtain ⟨k0, kf⟩ := hm.cells
    have HR := Lib.hid (hm.below HBA.out).r1
    have k0' : (V.alloc (.cells #[.int .i64 t, .string (ByteArray.mk #[]), .bool true] 100)).cell? ⟨a, 0, none⟩ = some v1 := (hm.below HBA.out).cells.1
    have e0 : ∀ k o, k < V.heap.size → (V.alloc (.cells #[.int .i64 t, .string (ByteArray.mk #[]), .bool true] 100)).cell? ⟨k, o, none⟩ = V.cell? ⟨k, o, none⟩ := fun k o hk => HBA.out.cell (p := ⟨k, o, none⟩) hk
    have y0' := (e0 _ 0 (World.block_lt_of_cell? V _ y0)).trans y0
    have y1' := (e0 _ 1 (World.block_lt_of_cell? V _ y1)).trans y1
    have y2' := (e0 _ 2 (World.block_lt_of_cell? V _ y2)).trans y2
    clear e0
    rcases List.eq_nil_or_concat l with rfl | ⟨r, y, rfl⟩
    · have HPU : Hid (Ver.put t v true [] = [⟨t, v, true⟩]) := rfl
      rw [HPU.out]
      obtain ⟨A, cp, rfl⟩ := hm.r1.slice
      have HLL : Hid ((0 : Nat) ≤ 800000) := Nat.zero_le _
      clear hm
      go_upto_region 10 with fail
      go_region_law ((refine st_of rfl (orow_wp 96 100 _ 3 32 Try.underlying96 infoPS rfl (by decide) (by decide) (.tmp 59) (.tmp 61) rfl _ _ (pvsS ([] : List (Ver ByteArray))) HR.out rfl ⟨V.heap.size, 0, none⟩ 1 1 (pvS ⟨t, v, true⟩) rfl rfl HC.out (pv_one1S _) (by have := HLL.out; omega) ?_); intro v3 w3 hr3 hg3 ho3; have hr3' : ORow w3 100 3 v3 (0 + 1) (pvsS ([] ++ [⟨t, v, true⟩])) := (by rw [pvs_appS]; exact hr3); have HP := Lib.hid (HMV.out.lay HBA.out hr3' (by simp) hg3 ho3); obtain ⟨j0, jf⟩ := HP.out.2; obtain ⟨A3, c3, rfl⟩ := hr3.slice; clear hr3 hg3 ho3 hr3'))
      all_goals (
        go_wp2
        go_ret
        exact cwrite_doneS H.out HBV.out HP.out.1)
    · rw [List.concat_eq_append] at *
      have hrow := hm.row (k := r.length) (by simp)
      simp only [List.length_append, List.length_cons, List.length_nil, Nat.zero_add, List.getElem_append_right (Nat.le_refl r.length), Nat.sub_self, List.getElem_cons_zero] at hrow hl
      obtain ⟨gg, o, cp, rfl, hcp, _, q0, q1, q2, qf⟩ := hrow
      have hlr : r.length ≤ 800000 := by omega
      have hi5 : IntKind.i64.wrap (r.length : Int) = (r.length : Int) := wrapI (by omega)
      have hr0 : (0 : Int) ≤ (r.length : Int) := by omega
      have hr1 : r.length < r.length + 1 := by omega
      by_cases hy : y.w = t
      · have HPU : Hid (Ver.put t v true (r ++ [y]) = r ++ [⟨t, v, true⟩]) := by simp [Hid, Ver.put, hy]
        rw [HPU.out]
        have hst := ORow.storeds (o := o) (pvS ⟨t, v, true⟩) V (pvsS (r ++ [y])) (r.length * 3) (show ORow V 100 3 (.slice (some ⟨gg, o, none⟩) (r.length + 1) cp) (r.length + 1) (pvsS (r ++ [y])) by have := hm.r1; simpa using this) (by simp [pvS]; omega)
        rw [pvs_setS _ _ (by simp), List.set_append_right _ _ (Nat.le_refl _), Nat.sub_self, List.set_cons_zero] at hst
        have HST := Lib.hid hst
        rw [hy] at q0
        clear hm hst hy k0' y0' y1' y2' HR HC HBA
        go_upto_region 9 with fail
        go_region
        go_wp2
        go_ret
        rw [HPU.out]
        have hsd := HST.out
        have hne : gg ≠ a := fun e => by
          obtain ⟨cur, q⟩ := HMV.out.r1.type (k := gg) rfl
          have := HMV.out.blk
          rw [← e, q] at this
          injection this with this; injection this with _ this; cases this
        have hblk := hsd.2.block a (HMV.out.lt a HMV.out.fa) (fun e => by injection e with e; exact hne e.symm)
        have hcg : Chg F V _ := (Chg.refl F V).grown hsd.2 (fun k e => by injection e with e; subst e; exact .inl (HMV.out.f1 gg rfl))
        exact doesC_ofS (w' := (V.setCells gg (o + r.length * 3) (pvS ⟨t, v, true⟩)).drew) ⟨_, CMS.same (F := F) (w := V.setCells gg (o + r.length * 3) (pvS ⟨t, v, true⟩)) ⟨fun k hk => Nat.lt_of_lt_of_le (HMV.out.lt k hk) hsd.2.size, HMV.out.fa, HMV.out.f1, hblk.trans HMV.out.blk, by have := hsd.1; simpa using this⟩ (fun _ h => h) (fun k hk => Nat.lt_of_lt_of_le (HMV.out.lt k hk) hsd.2.size) (fun _ _ => rfl)⟩ ((Chg.below HBV.out).trans ((hcg.grown (grown_drew _ none) (fun k e => by cases e)).mono (fun k hk => .inl hk))) H.out.lt
      · have HPU : Hid (Ver.put t v true (r ++ [y]) = (r ++ [y]) ++ [⟨t, v, true⟩]) := by simp [Hid, Ver.put, hy]
        rw [HPU.out]
        have hq : (y.w == t) = false := by rw [beq_eq_false_iff_ne]; exact hy
        have HLL : Hid (r.length + 1 ≤ 800001) := by simp only [Hid]; omega
        have hhr := HR.out
        simp only [List.length_append, List.length_cons, List.length_nil, Nat.zero_add] at hhr
        have HR := Lib.hid hhr
        clear hm hhr hy
        go_upto_region 10 with fail
        go_region_law ((refine st_of rfl (orow_wp 96 100 _ 3 32 Try.underlying96 infoPS rfl (by decide) (by decide) (.tmp 59) (.tmp 61) rfl _ _ (pvsS (r ++ [y])) HR.out rfl ⟨V.heap.size, 0, none⟩ 1 1 (pvS ⟨t, v, true⟩) rfl rfl HC.out (pv_one1S _) (by have := HLL.out; omega) ?_); intro v3 w3 hr3 hg3 ho3; have hr3' : ORow w3 100 3 v3 ((r.length + 1) + 1) (pvsS ((r ++ [y]) ++ [⟨t, v, true⟩])) := (by rw [pvs_appS]; exact hr3); have HP := Lib.hid (HMV.out.lay HBA.out hr3' (by simp) hg3 ho3); obtain ⟨j0, jf⟩ := HP.out.2; obtain ⟨A3, c3, rfl⟩ := hr3.slice; clear hr3 hg3 ho3 hr3'))
        all_goals (
          go_wp2
          go_ret
          rw [HPU.out]
          exact cwrite_doneS H.out HBV.out HP.out.1)
theorem cwrite_anyS (h : CCS F w a l) (hr : PC R w b c) (t : Int) (v : ByteArray) (g : Bool) (hl : l.length ≤ 800000) :
    Calls Try.prog 29 #[.pointer (some ⟨a, 0, none⟩), .pointer (some ⟨b, 0, none⟩), .int .i64 t, .string v, .bool g] w (DoesCS F w a (.int .i64 (Ver.chk c t l)) (Ver.wrS c t v g l)) := by
  unfold Ver.wrS
  by_cases hk : Ver.chk c t l = 0
  · rw [if_pos hk, hk]
    exact cwrite_yesS h hr t v g hk hl
  · rw [if_neg hk, (Ver.chk_le c t l).resolve_left hk]
    exact cwrite_noS h hr t v g hk
def bkAS (l : List (Ver ByteArray)) (x : Fin l.length) : Array Value := #[.int .i64 (x.1 : Nat), .agg #[.int .i64 l[x.1].w, .string (kvS l[x.1]), .bool l[x.1].g]]
set_option maxHeartbeats 2000000 in
theorem back1_inS (n : Nat) (hn : 1 ≤ n) (lp bs n0 : Nat) (v : Value) (l : List (Ver ByteArray)) (hbs0 : bs < n0)
    (J Jx : List (Fin l.length) → World → Prop)
    (hY : ∀ pre x W1, J pre W1 → pre.length < l.length → YieldAt Fence.wide (n - 1) Try.prog lp (bkAS l x) W1 fun e W' =>
      (e = .returned (.bool true) ∧ J (pre ++ [x]) W' ∧ Below n0 W1 W') ∨ (e = .returned (.bool false) ∧ Jx (pre ++ [x]) W'))
    (W : World) (hbs : W.heap[bs]? = some (.cells #[v] 96 (0, 0))) (hr : ORow W 100 3 v l.length (pvsS l)) (hv0 : ∀ k, v.ownBlock = some k → k < n0) (h0 : J [] W) :
    CallsIn Fence.wide n Try.prog 72 #[.func (.yield lp) #[] #[], .pointer (some ⟨bs, 0, none⟩)] W fun e W' => (∃ v, e = .returned v) ∧
      ((∃ ys, ys = dns l.length l.length ∧ J ys W') ∨ (∃ pre, (∃ k, k < l.length ∧ pre = dns l.length (k + 1)) ∧ Jx pre W')) := by
  have hbig := hr.big
  obtain ⟨A, cp, rfl⟩ := hr.slice
  have HR := Lib.hid (fun W' (hW : Below n0 W W') => hr.same (w' := W') (fun k hk => hW.block k (hv0 k hk)))
  have HBS := Lib.hid (fun W' (hW : Below n0 W W') => (hW.block bs hbs0).trans hbs)
  have c0 : W.cell? ⟨bs, 0, none⟩ = some (.slice A l.length cp) := (cell_of_row W bs 0 _ _ _ hbs).trans rfl
  clear hr hbs
  refine callsIn_of_wp Try.func72 rfl trivial ?_ rfl
  simp only [Try.ntmps72, List.size_toArray, List.length_cons, List.length_nil, Nat.reduceAdd, Nat.reduceSub, Array.replicate_succ, Array.replicate_zero, List.push_toArray, List.append_toArray, List.nil_append, List.cons_append]
  gi_wp2
  gi_loopw [3] (fun i wr => ∃ k : Nat, k ≤ l.length ∧ i = .int .i64 ((l.length : Int) - 1 - (k : Nat)) ∧ Hid (J (dns l.length k) wr) ∧ Hid (Below n0 W wr)) (fun i _ => ((intOf i) + 1).toNat)
  case atStart => exact ⟨0, Nat.zero_le _, by go_num, h0, Below.refl _ _⟩
  case round =>
    obtain ⟨k, hk, rfl, HJ, HB⟩ := hrel
    have hb1 := HBS.out wr HB.out
    have c1 : wr.cell? ⟨bs, 0, none⟩ = some (.slice A l.length cp) := by rw [cell_of_row wr bs 0 _ _ _ hb1]; rfl
    clear hb1 c0
    by_cases hlt : k < l.length
    · have hm : l.length - 1 - k < l.length := by omega
      obtain ⟨g, o, cp', hgg, hcp⟩ := (HR.out wr HB.out).form (by omega)
      injection hgg with hgg _ hcc
      subst hgg
      subst hcc
      obtain ⟨q0, q1, q2, _⟩ := orow_atS (HR.out wr HB.out) hm
      obtain ⟨fn, tmps, assign, body, hy, hR⟩ := hY _ ⟨l.length - 1 - k, hm⟩ wr HJ.out (by rw [dns_len k hk]; exact hlt)
      have HR2 := Lib.hid hR
      have HS2 := Lib.hid (dns_succ hlt)
      unfold bkAS at hy
      simp only at hy
      obtain ⟨y, hye⟩ : ∃ y, y = l[l.length - 1 - k] := ⟨_, rfl⟩
      rw [← hye] at q0 q1 q2 hy
      clear hye
      obtain ⟨m, hm2⟩ : ∃ m, m = l.length - 1 - k := ⟨_, rfl⟩
      have HM2 := Lib.hid hm2
      have hmi : (l.length : Int) - 1 - (k : Nat) = (m : Nat) := by omega
      have hmw : IntKind.i64.wrap (m : Int) = (m : Int) := wrapI (by omega)
      have hml : m < l.length := by omega
      rw [hmi]
      rw [← hm2] at q0 q1 q2 hy
      have hm0 : (0 : Int) ≤ (m : Int) := by omega
      clear hR hm2 hmi
      gi_wp2
      refine HR2.out.mono ?_
      rintro e W3 (⟨rfl, hJ3, hk3⟩ | ⟨rfl, hJx3⟩)
      · have HJ3 := Lib.hid hJ3
        have HK3 := Lib.hid hk3
        clear hJ3 hk3
        gi_wp2
        go_roundw
        case rel => exact ⟨k + 1, by omega, by have := HM2.out; congr 1; omega, by rw [HS2.out]; exact HJ3.out, HB.out.trans HK3.out⟩
        case measure => simp [intOf]
      · have HJ3 := Lib.hid hJx3
        clear hJx3
        gi_wp2
        refine bodyPost_ret (results_none rfl _ _ _) rfl ?_
        exact ⟨⟨_, rfl⟩, .inr ⟨_, ⟨k, hlt, HS2.out.symm⟩, HJ3.out⟩⟩
    · obtain rfl : k = l.length := by omega
      have hmi : (l.length : Int) - 1 - (l.length : Nat) = -1 := by omega
      rw [hmi]
      gi_wp2
      go_end0
      exact ⟨⟨_, rfl⟩, .inl ⟨_, rfl, HJ.out⟩⟩
theorem back_stopsS (n : Nat) (hn : 1 ≤ n) (bs : Nat) (v : Value) (l : List (Ver ByteArray)) (w : World) (hbs : w.heap[bs]? = some (.cells #[v] 96 (0, 0))) (hr : ORow w 100 3 v l.length (pvsS l)) :
    SeqStopsK Fence.wide n Try.prog 72 #[.pointer (some ⟨bs, 0, none⟩)] (bkAS l) (Below w.heap.size) (fun ys => ys = dns l.length l.length) (fun pre => ∃ k, k < l.length ∧ pre = dns l.length (k + 1)) l.length w := fun lp J Jx W hW hJ hJx hY h0 =>
  back1_inS n hn lp bs w.heap.size v l (block_lt hbs) J Jx hY W ((hW.block bs (block_lt hbs)).trans hbs) (hr.same (fun k hk => hW.block k (hr.lt k hk))) hr.lt h0
theorem back_anyS (v : Value) (w : World) (hv : ∃ A n c, v = .slice A n c) : Calls Try.prog 57 #[v] w fun e w' => e = .returned (.func (.func 72) #[] #[.pointer (some ⟨w.heap.size, 0, none⟩)]) ∧ w.alloc (.cells #[v] 96) = w' := by
  obtain ⟨A, n, c, rfl⟩ := hv
  go_enter Try.func57, Try.ntmps57
  go_wp2
  go_ret
  exact ⟨rfl, rfl⟩
theorem ret_worldS {w W2 W W3 : World} {c : Ck} {t : Int} {l : List (Ver ByteArray)} {u0 u1 : Value} (hb3 : Below W.heap.size W W3) (hB : Below w.heap.size w W) (hs : W2.heap.size ≤ W.heap.size) (hz : w.heap.size + 1 + 1 + 1 < W2.heap.size)
    (h2 : W.heap[w.heap.size + 1 + 1]? = some (.cells #[u0] 9 (0, 0))) (h3 : W.heap[w.heap.size + 1 + 1 + 1]? = some (.cells #[u1] 4 (0, 0))) (pre : List (Fin l.length)) (x : Fin l.length) (hno : ∀ z ∈ pre, c.sees t l[z.1].w = false) (hse : c.sees t l[x.1].w = true) {kk : ByteArray} (hk : kk = kvS l[x.1]) {gg : Bool} (hg : gg = !l[x.1].g) :
    KeepsFrom W2.heap.size W ((W3.setCell ⟨w.heap.size + 1 + 1, 0, none⟩ (.string kk)).setCell ⟨w.heap.size + 1 + 1 + 1, 0, none⟩ (.bool gg)).drew ∧ Code.ret = Code.ret ∧ ∃ (pre' : List (Fin l.length)) (x' : Fin l.length), pre ++ [x] = pre' ++ [x'] ∧ (∀ y ∈ pre', c.sees t l[y.1].w = false) ∧ c.sees t l[x'.1].w = true ∧ (((W3.setCell ⟨w.heap.size + 1 + 1, 0, none⟩ (.string kk)).setCell ⟨w.heap.size + 1 + 1 + 1, 0, none⟩ (.bool gg)).drew.heap[w.heap.size + 1 + 1]? = some (.cells #[.string (kvS l[x'.1])] 9 (0, 0)) ∧ ((W3.setCell ⟨w.heap.size + 1 + 1, 0, none⟩ (.string kk)).setCell ⟨w.heap.size + 1 + 1 + 1, 0, none⟩ (.bool gg)).drew.heap[w.heap.size + 1 + 1 + 1]? = some (.cells #[.bool (!l[x'.1].g)] 4 (0, 0))) ∧ Below w.heap.size w ((W3.setCell ⟨w.heap.size + 1 + 1, 0, none⟩ (.string kk)).setCell ⟨w.heap.size + 1 + 1 + 1, 0, none⟩ (.bool gg)).drew := by
  subst hk
  subst hg
  have hs2 := hB.size
  have e2 := (hb3.block _ (block_lt h2)).trans h2
  have e3 := (hb3.block _ (block_lt h3)).trans h3
  have hV := set_two e2 e3 (.string (kvS l[x.1])) (.bool (!l[x.1].g))
  refine ⟨?_, rfl, pre, x, rfl, hno, hse, hV, (below_set (below_set (hB.trans (hb3.mono hs2)) (by omega)) (by omega)).drew⟩
  refine KeepsFrom.trans (KeepsFrom.of_grownBy (grown_of_below hb3 none) (fun j e => by cases e)) ?_
  exact KeepsFrom.trans ((KeepsOthers.setCell _ _ _).from _) (KeepsFrom.trans ((KeepsOthers.setCell _ _ _).from _) (KeepsFrom.of_grownBy (grown_drew _ none) (fun j e => by cases e)))
set_option maxHeartbeats 4000000 in
theorem cread_anyS (h : CCS F w a l) (hr : PC R w b c) (t : Int) :
    Calls Try.prog 30 #[.pointer (some ⟨a, 0, none⟩), .pointer (some ⟨b, 0, none⟩), .int .i64 t] w fun e w' => e = .returned (.tuple #[.string (Ver.rdV (ByteArray.mk #[]) (Ver.rdX c t l)), .bool (Ver.rdB (Ver.rdX c t l))]) ∧ Below w.heap.size w w' := by
  refine (callsIn_wide (n := 3)).1 ?_
  refine callsIn_of_wp_marks Try.func30 rfl trivial ?_ rfl
  simp only [Try.ntmps30, List.size_toArray, List.length_cons, List.length_nil, Nat.reduceAdd, Nat.reduceSub, Array.replicate_succ, Array.replicate_zero, List.push_toArray, List.append_toArray, List.nil_append, List.cons_append]
  obtain ⟨v1, hm⟩ := h
  have HM := Lib.hid hm
  obtain ⟨W1, hW1⟩ : ∃ W1, (((w.alloc (.cells #[.pointer (some ⟨b, 0, none⟩)] 30)).alloc (.cells #[.int .i64 t] 3)).alloc (.cells #[.string (ByteArray.mk #[])] 9)).alloc (.cells #[.bool false] 4) = W1 := ⟨_, rfl⟩
  have hz1 : W1.heap.size = w.heap.size + 1 + 1 + 1 + 1 := by rw [← hW1]; simp
  have hb1 : Below w.heap.size w W1 := by
    rw [← hW1]; exact ((((Below.refl w.heap.size w).alloc (Nat.le_refl _) _).alloc (by simp) _).alloc (by simp; omega) _).alloc (by simp; omega) _
  have x0 : W1.heap[w.heap.size]? = some (.cells #[.pointer (some ⟨b, 0, none⟩)] 30 (0, 0)) := by
    rw [← hW1]; exact (Below.heap_alloc _ _ _ (by simp; omega)).trans ((Below.heap_alloc _ _ _ (by simp; omega)).trans ((Below.heap_alloc _ _ _ (by simp)).trans (heap_alloc_new w _)))
  have x1 : W1.heap[w.heap.size + 1]? = some (.cells #[.int .i64 t] 3 (0, 0)) := by
    rw [← hW1]
    refine (Below.heap_alloc _ _ _ (by simp)).trans ((Below.heap_alloc _ _ _ (by simp)).trans ?_)
    have := heap_alloc_new (w.alloc (.cells #[.pointer (some ⟨b, 0, none⟩)] 30)) (.cells #[.int .i64 t] 3)
    simp only [World.size_alloc] at this; exact this
  have x2 : W1.heap[w.heap.size + 1 + 1]? = some (.cells #[.string (ByteArray.mk #[])] 9 (0, 0)) := by
    rw [← hW1]
    refine (Below.heap_alloc _ _ _ (by simp)).trans ?_
    have := heap_alloc_new ((w.alloc (.cells #[.pointer (some ⟨b, 0, none⟩)] 30)).alloc (.cells #[.int .i64 t] 3)) (.cells #[.string (ByteArray.mk #[])] 9)
    simp only [World.size_alloc] at this; exact this
  have x3 : W1.heap[w.heap.size + 1 + 1 + 1]? = some (.cells #[.bool false] 4 (0, 0)) := by
    rw [← hW1]
    have := heap_alloc_new (((w.alloc (.cells #[.pointer (some ⟨b, 0, none⟩)] 30)).alloc (.cells #[.int .i64 t] 3)).alloc (.cells #[.string (ByteArray.mk #[])] 9)) (.cells #[.bool false] 4)
    simp only [World.size_alloc] at this; exact this
  obtain ⟨k0, kf⟩ := (hm.below hb1).cells
  have HBK := Lib.hid (back_anyS v1 W1 (by obtain ⟨A, c, e⟩ := hm.r1.slice; exact ⟨A, _, c, e⟩))
  have HPC := Lib.hid hr
  obtain ⟨post, hpost⟩ : ∃ post, bodyPostM Fence.wide 3 Try.prog Try.f30 (fun e w' => e = .returned (.tuple #[.string (Ver.rdV (ByteArray.mk #[]) (Ver.rdX c t l)), .bool (Ver.rdB (Ver.rdX c t l))]) ∧ Below w.heap.size w w') = post := ⟨_, rfl⟩
  rw [hpost]
  have HPOST := Lib.hid hpost
  clear hpost
  refine wpIn_wide.2 ?_
  obtain ⟨A, cp, rfl⟩ := hm.r1.slice
  clear hm hr
  go_upto_region 1 with fail
  clear hW1
  go_wp2_with (go_at_call 57; (with_reducible refine HBK.out.mono ?_); rintro e w2 ⟨rfl, rfl⟩)
  have hz2 : (W1.alloc (.cells #[.slice A l.length cp] 96)).heap.size = w.heap.size + 1 + 1 + 1 + 1 + 1 := by simp [hz1]
  have hb2 := (Below.refl W1.heap.size W1).alloc (Nat.le_refl _) (.cells #[.slice A l.length cp] 96)
  have y4 := heap_alloc_new W1 (.cells #[.slice A l.length cp] 96)
  rw [hz1] at y4
  generalize W1.alloc (.cells #[.slice A l.length cp] 96) = W2 at *
  have y0 := (hb2.block _ (block_lt x0)).trans x0
  have y1 := (hb2.block _ (block_lt x1)).trans x1
  have y2 := (hb2.block _ (block_lt x2)).trans x2
  have y3 := (hb2.block _ (block_lt x3)).trans x3
  have hbw2 : Below w.heap.size w W2 := hb1.trans (hb2.mono hb1.size)
  have HRow := Lib.hid (HM.out.below hbw2).r1
  clear x0 x1 x2 x3 k0 kf HBK hb1 hb2
  refine (wpIn_wide (n := 3)).1 (wpIn_rangeFunc_ownH rfl (by omega) (gf := 72) (lb := #[.pointer (some ⟨w.heap.size + 1 + 1 + 1 + 1, 0, none⟩)]) rfl trivial (enters_of Try.func72 (by kernel_rfl) rfl)
    (back_stopsS 2 (by omega) (w.heap.size + 1 + 1 + 1 + 1) (.slice A l.length cp) l W2 y4 HRow.out) belowK_t (belowK_b (Nat.le_refl _)) (Below.refl _ _) (fun _ => rfl)
    (fun pre W => ((W.heap[w.heap.size]? = some (.cells #[.pointer (some ⟨b, 0, none⟩)] 30 (0, 0)) ∧ W.heap[w.heap.size + 1]? = some (.cells #[.int .i64 t] 3 (0, 0))) ∧ W.heap[w.heap.size + 1 + 1]? = some (.cells #[.string (ByteArray.mk #[])] 9 (0, 0)) ∧ W.heap[w.heap.size + 1 + 1 + 1]? = some (.cells #[.bool false] 4 (0, 0))) ∧ (Below w.heap.size w W ∧ W2.heap.size ≤ W.heap.size) ∧ ∀ x ∈ pre, c.sees t l[x.1].w = false)
    (fun cd pre W => cd = Code.ret ∧ ∃ (pre' : List (Fin l.length)) (x : Fin l.length), pre = pre' ++ [x] ∧ (∀ y ∈ pre', c.sees t l[y.1].w = false) ∧ c.sees t l[x.1].w = true ∧ (W.heap[w.heap.size + 1 + 1]? = some (.cells #[.string (kvS l[x.1])] 9 (0, 0)) ∧ W.heap[w.heap.size + 1 + 1 + 1]? = some (.cells #[.bool (!l[x.1].g)] 4 (0, 0))) ∧ Below w.heap.size w W)
    (fun pre W W' row hs hg hr => ⟨⟨⟨blk_kept hs.1.1.1 hg (fun r e => (hr r e).2), blk_kept hs.1.1.2 hg (fun r e => (hr r e).2)⟩, blk_kept hs.1.2.1 hg (fun r e => (hr r e).2), blk_kept hs.1.2.2 hg (fun r e => (hr r e).2)⟩, ⟨below_kept (Nat.le_refl _) (by omega) hs.2.1.1 hg (fun r e => (hr r e).1), Nat.le_trans hs.2.1.2 hg.size⟩, hs.2.2⟩)
    (fun cd pre W W' row hs hg hr => by
      obtain ⟨h1, pre', x, h2, h3, h4, ⟨h5, h6⟩, h7⟩ := hs
      exact ⟨h1, pre', x, h2, h3, h4, ⟨blk_kept h5 hg (fun r e => (hr r e).2), blk_kept h6 hg (fun r e => (hr r e).2)⟩, below_kept (Nat.le_refl _) (by omega) h7 hg (fun r e => (hr r e).1)⟩)
    ⟨⟨⟨y0, y1⟩, y2, y3⟩, ⟨hbw2, Nat.le_refl _⟩, fun x hx => by cases hx⟩
    (fun x a' W => ∃ Bx, W2.heap.size ≤ Bx ∧ W.heap[Bx]? = some (.cells #[.int .i64 l[x.1].w, .string (kvS l[x.1]), .bool l[x.1].g] 100 (0, 0)) ∧ a' = { tmps := #[.pointer (some ⟨a, 0, none⟩), .pointer (some ⟨b, 0, none⟩), .int .i64 t, undef, .pointer (some ⟨w.heap.size, 0, none⟩), .pointer (some ⟨w.heap.size + 1, 0, none⟩), .pointer (some ⟨w.heap.size + 1 + 1, 0, none⟩), .pointer (some ⟨w.heap.size + 1 + 1 + 1, 0, none⟩), .string (ByteArray.mk #[]), undef, .pointer (some ⟨Bx, 0, none⟩), .pointer (some ⟨a, 0, none⟩), .bool false, undef, .pointer (some ⟨a, 0, none⟩), .pointer (some ⟨a, 0, none⟩), .pointer (some ⟨a, 0, none⟩), .slice A l.length cp, .func (.func 72) #[] #[.pointer (some ⟨w.heap.size + 1 + 1 + 1 + 1, 0, none⟩)], .int .i64 (x.1 : Nat), .agg #[.int .i64 l[x.1].w, .string (kvS l[x.1]), .bool l[x.1].g], undef, undef, undef, undef, undef, undef, undef, undef, undef, undef, undef], defers := [] })
    (fun x a' _ X Y row hs hg hr => by obtain ⟨Bx, h1, h2, h3⟩ := hs; exact ⟨Bx, h1, blk_kept h2 hg (fun r e => (hr r e).2), h3⟩)
    ?assign ?body ?done ?stop)
  case assign =>
    rintro lp pre x W K ⟨hbx, hB, hno⟩ hK
    have HBX := Lib.hid hbx
    have HBB := Lib.hid hB
    have HNO := Lib.hid hno
    have HK := Lib.hid hK
    clear hbx hB hno hK y0 y1 y2 y3 y4
    unfold bkAS
    generalize l[x.1] = y at *
    gi_wp2
    have hs := HBB.out.1.size
    have hs2 := HBB.out.2
    have hal := (Below.refl W.heap.size W).alloc (Nat.le_refl _) (.cells #[.int .i64 y.w, .string (kvS y), .bool y.g] 100)
    exact HK.out _ _ ((KeepsOthers.alloc _ _).from _) (hal.mono hs2) ⟨⟨⟨(hal.block _ (block_lt HBX.out.1.1)).trans HBX.out.1.1, (hal.block _ (block_lt HBX.out.1.2)).trans HBX.out.1.2⟩, (hal.block _ (block_lt HBX.out.2.1)).trans HBX.out.2.1, (hal.block _ (block_lt HBX.out.2.2)).trans HBX.out.2.2⟩, ⟨HBB.out.1.trans (hal.mono hs), Nat.le_trans hs2 hal.size⟩, HNO.out⟩ ⟨W.heap.size, hs2, heap_alloc_new W _, rfl⟩
  case body =>
    rintro lp pre x a' W hl ⟨r, hr⟩ ⟨hbx, hB, hno⟩ ⟨Bx, hBx, hblk, rfl⟩ hlt
    have HBX := Lib.hid hbx
    have HBB := Lib.hid hB
    have HNO := Lib.hid hno
    have HPW := Lib.hid (HPC.out.below hB.1)
    have HS := sees_any HPW.out t l[x.1].w
    have q0 : W.cell? ⟨Bx, 0, none⟩ = some (.int .i64 l[x.1].w) := (cell_of_row W _ 0 _ _ _ hblk).trans rfl
    have q1 : W.cell? ⟨w.heap.size, 0, none⟩ = some (.pointer (some ⟨b, 0, none⟩)) := (cell_of_row W _ 0 _ _ _ hbx.1.1).trans rfl
    have q2 : W.cell? ⟨w.heap.size + 1, 0, none⟩ = some (.int .i64 t) := (cell_of_row W _ 0 _ _ _ hbx.1.2).trans rfl
    have HBLK := Lib.hid hblk
    clear hbx hB hno hblk y0 y1 y2 y3 y4
    cases hse : c.sees t l[x.1].w with
    | false =>
      rw [hse] at HS
      have HS := Lib.hid HS
      have HN2 : Hid (∀ z ∈ pre ++ [x], c.sees t l[z.1].w = false) := fun z hz => by
        rcases List.mem_append.1 hz with h | h
        · exact HNO.out z h
        · rw [List.mem_singleton] at h; subst h; exact hse
      clear hse
      generalize l[x.1] = y at *
      gi_wp2_with (refine ⟨trivial, ?_⟩; gi_at_call 47; refine (CallsIn.inRound lp (callsIn_wide.2 HS.out)).mono ?_; rintro er' W3 ⟨rfl, hb3⟩; have HB3 := Lib.hid hb3; clear hb3)
      have hb3 := HB3.out
      refine ⟨KeepsFrom.of_grownBy (grown_of_below hb3 none) (fun j e => by cases e), hb3.mono HBB.out.2, ⟨⟨(hb3.block _ (block_lt HBX.out.1.1)).trans HBX.out.1.1, (hb3.block _ (block_lt HBX.out.1.2)).trans HBX.out.1.2⟩, (hb3.block _ (block_lt HBX.out.2.1)).trans HBX.out.2.1, (hb3.block _ (block_lt HBX.out.2.2)).trans HBX.out.2.2⟩, ⟨HBB.out.1.trans (hb3.mono HBB.out.1.size), Nat.le_trans HBB.out.2 hb3.size⟩, HN2.out⟩
    | true =>
      rw [hse] at HS
      have HS := Lib.hid HS
      have HSE := Lib.hid hse
      clear hse
      obtain ⟨y, hy⟩ : ∃ y, y = l[x.1] := ⟨_, rfl⟩
      have HY := Lib.hid hy
      rw [← hy] at q0 HS HBLK HSE
      clear hy
      gi_wp2_with (refine ⟨trivial, ?_⟩; gi_at_call 47; refine (CallsIn.inRound lp (callsIn_wide.2 HS.out)).mono ?_; rintro er' W3 ⟨rfl, hb3⟩; have HB3 := Lib.hid hb3; have d1 : W3.cell? ⟨Bx, 1, none⟩ = some (.string (kvS y)) := box_at HBLK.out hb3 1; have d2 : W3.cell? ⟨Bx, 2, none⟩ = some (.bool y.g) := box_at HBLK.out hb3 2; have r2 : W3.cell? ⟨w.heap.size + 1 + 1, 0, none⟩ = some (.string (ByteArray.mk #[])) := box_at HBX.out.2.1 hb3 0; have r3 : W3.cell? ⟨w.heap.size + 1 + 1 + 1, 0, none⟩ = some (.bool false) := box_at HBX.out.2.2 hb3 0; have f2 := frozen_at HBX.out.2.1 hb3; have f3 := frozen_at HBX.out.2.2 hb3; clear hb3)
      have hmix : Try.prog.follows .mixedOrders = true := by kernel_rfl
      gi_region_with_o (fail)
      all_goals (
        gi_wp2
        exact ret_worldS HB3.out HBB.out.1 HBB.out.2 (by omega) HBX.out.2.1 HBX.out.2.2 pre x HNO.out (by rw [← HY.out]; exact HSE.out) (by rw [← HY.out]) (by rw [← HY.out]))
  case done =>
    rintro D xs W hD rfl ⟨hbx, hB, hno⟩ hK
    have HBB := Lib.hid hB
    have HBX := Lib.hid hbx
    have HNO := Lib.hid hno
    have d2 : W.cell? ⟨w.heap.size + 1 + 1, 0, none⟩ = some (.string (ByteArray.mk #[])) := (cell_of_row W _ 0 _ _ _ hbx.2.1).trans rfl
    have d3 : W.cell? ⟨w.heap.size + 1 + 1 + 1, 0, none⟩ = some (.bool false) := (cell_of_row W _ 0 _ _ _ hbx.2.2).trans rfl
    have f2 := fun o => frozen_of_row W (w.heap.size + 1 + 1) o _ _ hbx.2.1
    have f3 := fun o => frozen_of_row W (w.heap.size + 1 + 1 + 1) o _ _ hbx.2.2
    have HRD : Hid (Ver.rdX c t l = none) := rd_noneS (fun j hj => HNO.out ⟨j, hj⟩ (dns_mem l.length (Nat.le_refl _) ⟨j, hj⟩ (by omega)))
    clear hbx hB hno y0 y1 y2 y3 y4
    go_wp2
    show post _ _ _
    rw [← HPOST.out]
    have hV := set_two HBX.out.2.1 HBX.out.2.2 (.string (ByteArray.mk #[])) (.bool false)
    have hK' := (set_two_far W (w.heap.size + 1 + 1) (.string (ByteArray.mk #[])) (.bool false) D (by omega) (by omega)).trans hK
    have hB2 : Below w.heap.size w ((W.setCell ⟨w.heap.size + 1 + 1, 0, none⟩ (.string (ByteArray.mk #[]))).setCell ⟨w.heap.size + 1 + 1 + 1, 0, none⟩ (.bool false)) := below_set (below_set HBB.out.1 (by omega)) (by omega)
    generalize (W.setCell ⟨w.heap.size + 1 + 1, 0, none⟩ (.string (ByteArray.mk #[]))).setCell ⟨w.heap.size + 1 + 1 + 1, 0, none⟩ (.bool false) = V at *
    refine ⟨by simp, .inl ⟨_, _, rfl, run_takeDeferred hK', ?_⟩⟩
    have hg := grownBy_putObj' V D (.deferred none)
    have hnc : ∀ r, some D = some r → ∃ o : Obj, V.heap[r]? = some o ∧ o.isCells = false := fun r e => by cases e; exact ⟨_, hK', rfl⟩
    have c2 : (V.putObj D (.deferred none)).cell? ⟨w.heap.size + 1 + 1, 0, none⟩ = some (.string (ByteArray.mk #[])) := (cell_of_row _ _ 0 _ _ _ (blk_kept hV.1 hg hnc)).trans rfl
    have c3 : (V.putObj D (.deferred none)).cell? ⟨w.heap.size + 1 + 1 + 1, 0, none⟩ = some (.bool false) := (cell_of_row _ _ 0 _ _ _ (blk_kept hV.2 hg hnc)).trans rfl
    refine ⟨.tuple #[.string (ByteArray.mk #[]), .bool false], by simp [results, Try.f30, go_sem, c2, c3], ?_⟩
    rw [HRD.out]
    exact ⟨rfl, hB2.grown hg hB2.size (fun k e => by cases e; omega)⟩
  case stop =>
    rintro D cd pre W hD ⟨q, hq, rfl⟩ ⟨rfl, pre', x, hpx, hno, hse, ⟨hr2, hr3⟩, hB⟩ hK
    rw [dns_succ hq] at hpx
    obtain ⟨hp1, hp2⟩ := List.append_inj' hpx rfl
    injection hp2 with hp2
    subst hp1
    have hx1 : x.1 = l.length - 1 - q := by rw [← hp2]
    have HRD : Hid (Ver.rdX c t l = some l[x.1]) := rd_atS x.2 hse (fun j hj hlt => hno ⟨j, hj⟩ (dns_mem q (by omega) ⟨j, hj⟩ (by show l.length - q ≤ j; omega)))
    have HBB := Lib.hid hB
    have HR2 := Lib.hid hr2
    have HR3 := Lib.hid hr3
    clear hno hse hr2 hr3 hB y0 y1 y2 y3 y4
    generalize l[x.1] = y at *
    refine wpIn_wide.2 ?_
    go_wp2
    show post _ _ _
    rw [← HPOST.out]
    refine ⟨by simp, .inl ⟨_, _, rfl, run_takeDeferred hK, ?_⟩⟩
    have hg := grownBy_putObj' W D (.deferred none)
    have hnc : ∀ r, some D = some r → ∃ o : Obj, W.heap[r]? = some o ∧ o.isCells = false := fun r e => by cases e; exact ⟨_, hK, rfl⟩
    have c2 : (W.putObj D (.deferred none)).cell? ⟨w.heap.size + 1 + 1, 0, none⟩ = some (.string (kvS y)) := (cell_of_row _ _ 0 _ _ _ (blk_kept HR2.out hg hnc)).trans rfl
    have c3 : (W.putObj D (.deferred none)).cell? ⟨w.heap.size + 1 + 1 + 1, 0, none⟩ = some (.bool (!y.g)) := (cell_of_row _ _ 0 _ _ _ (blk_kept HR3.out hg hnc)).trans rfl
    refine ⟨.tuple #[.string (kvS y), .bool (!y.g)], by simp [results, Try.f30, go_sem, c2, c3], ?_⟩
    rw [HRD.out]
    refine ⟨?_, HBB.out.grown hg HBB.out.size (fun k e => by cases e; omega)⟩
    unfold kvS
    obtain ⟨yw, yv, yg⟩ := y
    cases yg <;> rfl
end
end Go.Proofs.Ytpjjpjdamieeeaa
