/- A Cell of the reference (chapter 7) in memory (VM, VC), and what Read, Check, spare and Spare return. Conditions: the Cell and its Clock lie in memory. -/
import Derived.Test.YtpjjpjdamieeeaaNa
import Derived.Test.YtpjjpjdamieeeaaKt
namespace Go.Proofs.Ytpjjpjdamieeeaa
set_option maxRecDepth 100000
set_option linter.unusedVariables false
open Go.ChangeShapes Go.WideShapes Go.ChangeAt Go.RowKit
def vc (x : Ver Int) : List Value := [.int .i64 x.w, .int .i64 x.v, .bool x.g]
def vcs (l : List (Ver Int)) : List Value := l.flatMap vc
theorem vc_len (l : List (Ver Int)) : ∀ x ∈ l, (vc x).length = 3 := fun x _ => rfl
theorem vcs_len (l : List (Ver Int)) : (vcs l).length = l.length * 3 := flat_len vc 3 l (vc_len l)
/-- The Cell in block a, its versions at v1; all of it in blocks of F. -/
structure VM (F : Nat → Prop) (w : World) (a : Nat) (v1 : Value) (l : List (Ver Int)) : Prop where
  lt : ∀ k, F k → k < w.heap.size
  fa : F a
  f1 : ∀ k, v1.ownBlock = some k → F k
  blk : w.heap[a]? = some (.cells #[v1] 68 (0, 0))
  r1 : w.ownsRow 0 77 3 v1 l.length (vcs l)
def VC (F : Nat → Prop) (w : World) (a : Nat) (l : List (Ver Int)) : Prop := ∃ v1, VM F w a v1 l
section
variable {F F' G : Nat → Prop} {w w' : World} {a : Nat} {v1 : Value} {l : List (Ver Int)}
theorem VM.same (h : VM F w a v1 l) (hF : ∀ k, F k → F' k) (hlt : ∀ k, F' k → k < w'.heap.size) (hw : ∀ k, F k → w'.heap[k]? = w.heap[k]?) : VM F' w' a v1 l :=
  ⟨hlt, hF _ h.fa, fun k hk => hF k (h.f1 k hk), (hw a h.fa).trans h.blk, own_same h.r1 (fun k hk => hw k (h.f1 k hk))⟩
theorem VC.same (h : VC F w a l) (hF : ∀ k, F k → F' k) (hlt : ∀ k, F' k → k < w'.heap.size) (hw : ∀ k, F k → w'.heap[k]? = w.heap[k]?) : VC F' w' a l := by
  obtain ⟨v1, h⟩ := h
  exact ⟨v1, h.same hF hlt hw⟩
theorem VC.lt (h : VC F w a l) : ∀ k, F k → k < w.heap.size := by obtain ⟨v1, h⟩ := h; exact h.lt
theorem VC.chg (h : VC F w a l) (hc : Chg G w w') (hG : ∀ k, F k → ¬ G k) : VC F w' a l :=
  h.same (fun _ h => h) (fun k hk => Nat.lt_of_lt_of_le (h.lt k hk) hc.size) (fun k hk => hc.block k (h.lt k hk) (hG k hk))
theorem VC.below (h : VC F w a l) (hb : Below w.heap.size w w') : VC F w' a l := h.chg (Chg.below (F := fun _ => False) hb) (fun _ _ h => h)
theorem VM.below (h : VM F w a v1 l) (hb : Below w.heap.size w w') : VM F w' a v1 l :=
  h.same (fun _ h => h) (fun k hk => Nat.lt_of_lt_of_le (h.lt k hk) hb.size) (fun k hk => hb.block k (h.lt k hk))
theorem VC.wide (h : VC F w' a l) (hs : w.heap.size ≤ w'.heap.size) (F0 : Nat → Prop) (hF : ∀ k, F k → F0 k ∨ w.heap.size ≤ k) (h0 : ∀ k, F0 k → k < w.heap.size) : VC (Nu F0 w w') w' a l :=
  h.same (fun k hk => by rcases hF k hk with h1 | h1; exact .inl h1; exact .inr ⟨h1, h.lt k hk⟩) (fun k hk => by rcases hk with h1 | h1; exact Nat.lt_of_lt_of_le (h0 k h1) hs; exact h1.2) (fun _ _ => rfl)
/-- A method returns v, and leaves the Cell in block a with versions l; of what was there only blocks of F may change. -/
def DoesV (F : Nat → Prop) (w : World) (a : Nat) (v : Value) (l : List (Ver Int)) (e : Ending) (w' : World) : Prop := e = .returned v ∧ VC (Nu F w w') w' a l ∧ Chg F w w'
theorem doesV_of {v : Value} (h : VC F w' a l) (hc : Chg F w w') (h0 : ∀ k, F k → k < w.heap.size) : DoesV F w a v l (.returned v) w' :=
  ⟨rfl, h.wide hc.size F (fun _ h => .inl h) h0, hc⟩
theorem VM.cells (h : VM F w a v1 l) : w.cell? ⟨a, 0, none⟩ = some v1 ∧ ∀ o, w.frozen? ⟨a, o, none⟩ = false := by
  have hb := h.blk
  refine ⟨?_, fun o => frozen_of_row w a o _ _ hb⟩
  rw [cell_of_row w a _ _ _ _ hb]; rfl
theorem VM.nb {v : Value} {e size m : Nat} {xs : List Value} (h : VM F w a v1 l) (hv : w.ownsRow 0 e size v m xs) (he : e ≠ 68) : v.ownBlock ≠ some a := fun e' => by
  obtain ⟨cur, h1⟩ := own_type hv e'
  have := h.blk
  rw [h1] at this
  injection this with this; injection this with _ this; exact he this
theorem VM.row (h : VM F w a v1 l) {k : Nat} (hk : k < l.length) : ∃ g cp, v1 = .slice (some ⟨g, 0, none⟩) l.length cp ∧ F g ∧ w.cell? ⟨g, k * 3, none⟩ = some (.int .i64 l[k].w) ∧ w.cell? ⟨g, k * 3 + 1, none⟩ = some (.int .i64 l[k].v) ∧ w.cell? ⟨g, k * 3 + 2, none⟩ = some (.bool l[k].g) := by
  obtain ⟨g, cp, rfl, hb, hlt⟩ := World.ownsRow.form h.r1 (by omega)
  have e : ∀ j, j < 3 → w.cell? ⟨g, k * 3 + j, none⟩ = (vc l[k])[j]? := fun j hj => by
    rw [World.ownsRow.cellAt h.r1 (k * 3 + j) (by omega)]
    exact flat_at vc 3 (vc_len l) k j hk hj
  exact ⟨g, cp, rfl, h.f1 g rfl, e 0 (by omega), e 1 (by omega), e 2 (by omega)⟩
theorem VM.big (h : VM F w a v1 l) : l.length ≤ 9223372036854775807 := by
  rcases h.r1.2 with ⟨_, h1⟩ | ⟨g, cp, cur, _, _, _, h2, h3, _⟩
  · omega
  · unfold maxLen at h3; omega
end
/-! What is read, found from the end. -/
theorem rd_at {c : Ck} {t : Int} {l : List (Ver Int)} {k : Nat} (hk : k < l.length) (hs : c.sees t l[k].w = true) (hn : ∀ j (hj : j < l.length), k < j → c.sees t l[j].w = false) : Ver.rdX c t l = some l[k] := by
  unfold Ver.rdX
  have e : l = l.take k ++ l[k] :: l.drop (k + 1) := by rw [List.getElem_cons_drop, List.take_append_drop]
  have e2 : l.reverse = (l.drop (k + 1)).reverse ++ ([l[k]] ++ (l.take k).reverse) := by
    have := congrArg List.reverse e
    rw [List.reverse_append, List.reverse_cons, List.append_assoc] at this
    exact this
  rw [e2, List.find?_append]
  have h0 : (l.drop (k + 1)).reverse.find? (fun x => c.sees t x.w) = none := by
    rw [List.find?_eq_none]
    intro x hx
    rw [List.mem_reverse] at hx
    obtain ⟨j, hj, rfl⟩ := List.getElem_of_mem hx
    rw [List.getElem_drop]
    rw [List.length_drop] at hj
    rw [hn (k + 1 + j) (by omega) (by omega)]
    simp
  rw [h0]
  simp [hs]
theorem rd_none {c : Ck} {t : Int} {l : List (Ver Int)} (hn : ∀ j (hj : j < l.length), c.sees t l[j].w = false) : Ver.rdX c t l = none := by
  unfold Ver.rdX
  rw [List.find?_eq_none]
  intro x hx
  rw [List.mem_reverse] at hx
  obtain ⟨j, hj, rfl⟩ := List.getElem_of_mem hx
  rw [hn j hj]
  simp
section
variable {F R : Nat → Prop} {w : World} {a b : Nat} {c : Ck} {l : List (Ver Int)}
theorem vread_any (h : VC F w a l) (hr : RC R w b c) (t : Int) :
    Calls Try.prog 43 #[.pointer (some ⟨a, 0, none⟩), .pointer (some ⟨b, 0, none⟩), .int .i64 t] w fun e w' => e = .returned (.tuple #[.int .i64 (Ver.rdV 0 (Ver.rdX c t l)), .bool (Ver.rdB (Ver.rdX c t l))]) ∧ w = w' := by
  obtain ⟨v1, h⟩ := h
  obtain ⟨k0, kf⟩ := h.cells
  have HM := Lib.hid h
  have hbig := h.big
  have HS := Lib.hid (fun u => rsees_any hr t u)
  obtain ⟨A, cp, rfl⟩ := own_slice h.r1
  clear h hr
  go_enter Try.func43, Try.ntmps43
  go_wp2
  go_loopw [8] (fun i wr => ∃ k : Nat, k ≤ l.length ∧ i = .int .i64 ((k : Int) - 1) ∧ wr = w ∧ Hid (∀ j (hj : j < l.length), k ≤ j → c.sees t l[j].w = false)) (fun i _ => ((intOf i) + 1).toNat)
  case atStart => exact ⟨l.length, Nat.le_refl _, by go_num, rfl, fun j hj h => absurd hj (by omega)⟩
  case round =>
    obtain ⟨k, hk, rfl, rfl, HN⟩ := hrel
    by_cases hz : k = 0
    · subst hz
      have e := rd_none (c := c) (t := t) (l := l) (fun j hj => HN.out j hj (Nat.zero_le _))
      go_wp2
      go_ret2
      exact ⟨by rw [e]; rfl, rfl⟩
    · obtain ⟨m, rfl⟩ : ∃ m, k = m + 1 := ⟨k - 1, by omega⟩
      have hm : m < l.length := by omega
      obtain ⟨g, cp', hgg, _, q0, q1, q2⟩ := HM.out.row hm
      injection hgg with hgg _ hcp
      subst hgg
      subst hcp
      have hi5 : IntKind.i64.wrap (m : Int) = (m : Int) := wrapI (by omega)
      have HC := HS.out l[m].w
      have hmm : ((m + 1 : Nat) : Int) - 1 = (m : Int) := by omega
      rw [hmm]
      cases hse : c.sees t l[m].w with
      | true =>
        rw [hse] at HC
        have HC := Lib.hid HC
        have HE := Lib.hid (rd_at hm hse (fun j hj h => HN.out j hj (by omega)))
        obtain ⟨x, hx⟩ : ∃ x, x = l[m] := ⟨_, rfl⟩
        rw [← hx] at q0 q1 q2 HC HE
        clear hse hx hmm HN
        obtain ⟨xw, xv, xg⟩ := x
        simp only at q0 q1 q2 HC
        cases xg
        all_goals (
          go_wp2_with (go_at_call 62; (with_reducible refine HC.out.mono ?_); rintro e w' ⟨rfl, rfl⟩)
          go_ret2
          exact ⟨by rw [HE.out]; rfl, rfl⟩)
      | false =>
        rw [hse] at HC
        have HC := Lib.hid HC
        have HN2 : Hid (∀ j (hj : j < l.length), m ≤ j → c.sees t l[j].w = false) := fun j hj h => by
          by_cases e : j = m
          · subst e; exact hse
          · exact HN.out j hj (by omega)
        clear hse hmm
        generalize l[m].w = xw at *
        go_wp2_with (go_at_call 62; (with_reducible refine HC.out.mono ?_); rintro e w' ⟨rfl, rfl⟩)
        exact ⟨⟨m, by omega, rfl, trivial, HN2.out⟩, by simp [intOf]⟩
theorem vcheck_any (h : VC F w a l) (hr : RC R w b c) (t : Int) :
    Calls Try.prog 39 #[.pointer (some ⟨a, 0, none⟩), .pointer (some ⟨b, 0, none⟩), .int .i64 t] w fun e w' => e = .returned (.int .i64 (Ver.chk c t l)) ∧ Below w.heap.size w w' := by
  obtain ⟨v1, h⟩ := h
  obtain ⟨k0, kf⟩ := h.cells
  have HM := Lib.hid h
  have hbig := h.big
  have HS := Lib.hid (fun u => rclashes_any hr t u)
  obtain ⟨A, cp, rfl⟩ := own_slice h.r1
  clear h hr
  by_cases hz : l.length = 0
  · have e : l = [] := List.length_eq_zero_iff.1 hz
    subst e
    go_enter Try.func39, Try.ntmps39
    go_wp2
    go_ret
    exact ⟨rfl, Below.refl _ _⟩
  · obtain ⟨m, hm⟩ : ∃ m, l.length = m + 1 := ⟨l.length - 1, by omega⟩
    have hml : m < l.length := by omega
    obtain ⟨g, cp', hgg, _, q0, q1, q2⟩ := HM.out.row hml
    injection hgg with hgg _ hcp
    subst hgg
    subst hcp
    have HC := HS.out l[m].w
    have HE : Hid (Ver.chk c t l = if c.clashes t l[m].w then 6 else 0) := by
      simp only [Hid]
      unfold Ver.chk
      rw [List.getLast?_eq_getElem?, show l.length - 1 = m by omega, List.getElem?_eq_getElem hml]
    rw [HE.out]
    have hi5 : IntKind.i64.wrap (m : Int) = (m : Int) := wrapI (by omega)
    rw [hm] at k0 hbig
    have hm0 : (0 : Int) < (m : Int) + 1 := by omega
    generalize l[m].w = xw at *
    clear HE HM HS hz hml hm q1 q2
    cases hcl : c.clashes t xw with
    | true =>
      rw [hcl] at HC
      have HC := Lib.hid HC
      go_enter Try.func39, Try.ntmps39
      go_wp2_with (go_at_call 60; (with_reducible refine HC.out.mono ?_); rintro e w1 ⟨rfl, hb1⟩)
      go_ret
      exact ⟨rfl, hb1⟩
    | false =>
      rw [hcl] at HC
      have HC := Lib.hid HC
      go_enter Try.func39, Try.ntmps39
      go_wp2_with (go_at_call 60; (with_reducible refine HC.out.mono ?_); rintro e w1 ⟨rfl, hb1⟩)
      go_ret
      exact ⟨rfl, hb1⟩
end
/-! Which version is spare. -/
def Unset (c : Ck) (l : List (Ver Int)) (m : Nat) : Prop := ∀ j (hj : j < l.length), 1 ≤ j → j < m → c.settled l[j].w = false
theorem sp_first {c : Ck} {l : List (Ver Int)} (h0 : 0 < l.length) (hg : l[0].g = true) (hs : c.settled l[0].w = true) : Ver.spare c l = true := by
  cases l with
  | nil => simp at h0
  | cons x r => simp only [List.getElem_cons_zero] at hg hs; simp [Ver.spare, hg, hs]
theorem sp_later {c : Ck} {l : List (Ver Int)} {j : Nat} (hj : j < l.length) (h1 : 1 ≤ j) (hs : c.settled l[j].w = true) : Ver.spare c l = true := by
  cases l with
  | nil => simp at hj
  | cons x r =>
    obtain ⟨k, rfl⟩ : ∃ k, j = k + 1 := ⟨j - 1, by omega⟩
    simp only [List.getElem_cons_succ] at hs
    have : r.any (fun y => c.settled y.w) = true := List.any_eq_true.2 ⟨_, List.getElem_mem _, hs⟩
    simp [Ver.spare, this]
theorem sp_none {c : Ck} {l : List (Ver Int)} (h0 : ∀ (h : 0 < l.length), (l[0].g && c.settled l[0].w) = false) (hu : Unset c l l.length) : Ver.spare c l = false := by
  cases l with
  | nil => rfl
  | cons x r =>
    have e := h0 (by simp)
    simp only [List.getElem_cons_zero] at e
    have : r.any (fun y => c.settled y.w) = false := by
      rw [List.any_eq_false]
      intro y hy
      obtain ⟨j, hj, rfl⟩ := List.getElem_of_mem hy
      have := hu (j + 1) (by simp; omega) (by omega) (by simp; omega)
      simp only [List.getElem_cons_succ] at this
      rw [this]; simp
    simp only [Ver.spare, this, e, Bool.or_false]
section
variable {F R : Nat → Prop} {w : World} {a b : Nat} {c : Ck} {l : List (Ver Int)}
set_option maxHeartbeats 1000000 in
theorem vspare_any (h : VC F w a l) (hr : RC R w b c) :
    Calls Try.prog 61 #[.pointer (some ⟨a, 0, none⟩), .pointer (some ⟨b, 0, none⟩)] w fun e w' => e = .returned (.int .i64 (if Ver.spare c l then 0 else -1)) ∧ Below w.heap.size w w' := by
  obtain ⟨post, hpo⟩ : ∃ post : Int, post = if Ver.spare c l then 0 else -1 := ⟨_, rfl⟩
  rw [← hpo]
  have HPO := Lib.hid hpo
  obtain ⟨v1, h⟩ := h
  have HM := Lib.hid h
  have hbig := h.big
  have HS := Lib.hid (fun W (hW : Below w.heap.size w W) u => rsettled_any (hr.below hW) u)
  obtain ⟨A, cp, rfl⟩ := own_slice h.r1
  have k00 := h.cells.1
  clear h hr hpo
  go_enter Try.func61, Try.ntmps61
  go_wp2
  go_loopw [5, 6] (fun i _ wr => ∃ k : Nat, k ≤ l.length ∧ i = .int .i64 (k : Nat) ∧ Hid (Below w.heap.size w wr) ∧ Hid (k = 0 ∨ (1 ≤ k ∧ Ver.spare c l = false ∧ Unset c l l.length))) (fun i _ _ => l.length - (intOf i).toNat)
  case atStart => exact ⟨0, Nat.zero_le _, rfl, Below.refl _ _, .inl rfl⟩
  case round =>
    obtain ⟨k, hk, rfl, HB, HK⟩ := hrel
    have hm := HM.out.below HB.out
    obtain ⟨k0, kf⟩ := hm.cells
    clear k00
    by_cases hlt : k < l.length
    · obtain ⟨g, cp', hgg, _, q0, q1, q2⟩ := hm.row hlt
      injection hgg with hgg _ hcp
      subst hgg
      subst hcp
      have HLT := Lib.hid hlt
      have C0 := HS.out _ HB.out l[k].w
      generalize hx : l[k] = x at q0 q1 q2 C0
      have HX := Lib.hid hx.symm
      clear hx hm
      obtain ⟨xw, xv, xg⟩ := x
      simp only at q0 q1 q2 C0
      have HLN : Hid (∀ W, Below w.heap.size w W → ∀ j (hj : j < l.length), W.cell? ⟨a, 0, none⟩ = some (.slice (some ⟨g, 0, none⟩) l.length cp) ∧ W.cell? ⟨g, j * 3, none⟩ = some (.int .i64 l[j].w)) := fun W hW j hj => by
        have hm := HM.out.below hW
        obtain ⟨g', cp', hgg, _, r0, _, _⟩ := hm.row hj
        injection hgg with hgg _ _
        injection hgg with hgg
        injection hgg with hgg
        subst hgg
        exact ⟨hm.cells.1, r0⟩
      by_cases hz : k = 0
      · subst hz
        cases hbb : (xg && c.settled xw) with
        | true =>
          simp only [Bool.and_eq_true] at hbb
          obtain ⟨rfl, hst⟩ := hbb
          rw [hst] at C0
          have C0 := Lib.hid C0
          have HP : Hid (post = 0) := by
            simp only [Hid]
            rw [HPO.out, sp_first hlt ((congrArg Ver.g HX.out).symm) ((congrArg (fun y => c.settled (Ver.w y)) HX.out).symm.trans hst)]; rfl
          clear hst
          go_wp2_with (go_at_call 73; (with_reducible refine C0.out.mono ?_); rintro e w1 ⟨rfl, hb1⟩)
          go_ret
          exact ⟨ret_i HP.out.symm, HB.out.trans (hb1.mono HB.out.size)⟩
        | false =>
          have HNF : Hid (∀ (h : 0 < l.length), (l[0].g && c.settled l[0].w) = false) := fun h => (congrArg (fun y => (Ver.g y && c.settled (Ver.w y))) HX.out).symm.trans hbb
          have C1 := Lib.hid C0
          clear C0
          have hx2 : (xg = true ∧ c.settled xw = false) ∨ xg = false := by
            cases xg with
            | false => exact .inr rfl
            | true => exact .inl ⟨rfl, by simpa using hbb⟩
          clear hbb
          rcases hx2 with ⟨rfl, hst⟩ | rfl
          case' inl =>
            rw [hst] at C1
            clear hst
          all_goals (
            have HB1 := HB
            go_wp2_with (go_at_call 73; (with_reducible refine C1.out.mono ?_); rintro e w1 ⟨rfl, hb1⟩; replace HB1 := Lib.hid (HB.out.trans (hb1.mono HB.out.size)); clear hb1)
            clear q0 q1 q2 k0 kf
            go_loopw [6] (fun j wr => ∃ m : Nat, 1 ≤ m ∧ m ≤ l.length ∧ j = .int .i64 (m : Nat) ∧ Hid (Below w.heap.size w wr) ∧ Hid (Unset c l m)) (fun j _ => l.length - (intOf j).toNat)
            case atStart => exact ⟨1, by omega, by omega, by go_num, HB1.out, fun j hj h1 h2 => absurd h1 (by omega)⟩
            case round =>
              obtain ⟨m, hm1, hm2, rfl, HB2, HU⟩ := hrel
              by_cases hml : m < l.length
              · obtain ⟨k0, q0⟩ := HLN.out _ HB2.out m hml
                have C2 := HS.out _ HB2.out l[m].w
                cases hst : c.settled l[m].w with
                | true =>
                  rw [hst] at C2
                  have C2 := Lib.hid C2
                  have HP : Hid (post = 0) := by simp only [Hid]; rw [HPO.out, sp_later hml hm1 hst]; rfl
                  generalize l[m].w = yw at *
                  clear hst
                  go_wp2_with (go_at_call 73; (with_reducible refine C2.out.mono ?_); rintro e w3 ⟨rfl, hb3⟩)
                  go_ret
                  exact ⟨ret_i HP.out.symm, HB2.out.trans (hb3.mono HB2.out.size)⟩
                | false =>
                  rw [hst] at C2
                  have C2 := Lib.hid C2
                  have HU2 : Hid (Unset c l (m + 1)) := fun j hj h1 h2 => by
                    by_cases e : j = m
                    · subst e; exact hst
                    · exact HU.out j hj h1 (by omega)
                  generalize l[m].w = yw at *
                  clear hst
                  go_wp2_with (go_at_call 73; (with_reducible refine C2.out.mono ?_); rintro e w3 ⟨rfl, hb3⟩; have HB3 := Lib.hid (HB2.out.trans (hb3.mono HB2.out.size)); clear hb3)
                  exact ⟨⟨m + 1, by omega, by omega, by go_num, HB3.out, HU2.out⟩, by simp [intOf]; omega⟩
              · obtain rfl : m = l.length := by omega
                have k0 := (HLN.out _ HB2.out 0 HLT.out).1
                have HF : Hid (1 = 0 ∨ (1 ≤ 1 ∧ Ver.spare c l = false ∧ Unset c l l.length)) := .inr ⟨Nat.le_refl _, sp_none HNF.out HU.out, HU.out⟩
                go_wp2
                exact ⟨⟨1, by omega, by go_num, HB2.out, HF.out⟩, by simp [intOf]; omega⟩)
      · have HSF : Hid (Ver.spare c l = false ∧ Unset c l l.length) := (HK.out.resolve_left hz).2
        have hzi : ((k : Int) == 0) = false := by rw [beq_eq_false_iff_ne]; omega
        have hk1 : 1 ≤ k := by omega
        clear C0 q0 q1 q2
        go_wp2
        go_loopw [6] (fun j wr => ∃ m : Nat, k + 1 ≤ m ∧ m ≤ l.length ∧ j = .int .i64 (m : Nat) ∧ Hid (Below w.heap.size w wr)) (fun j _ => l.length - (intOf j).toNat)
        case atStart => exact ⟨k + 1, by omega, by omega, by go_num, HB.out⟩
        case round =>
          obtain ⟨m, hm1, hm2, rfl, HB2⟩ := hrel
          clear k0 kf
          by_cases hml : m < l.length
          · obtain ⟨k0, q0⟩ := HLN.out _ HB2.out m hml
            have C2 := HS.out _ HB2.out l[m].w
            rw [HSF.out.2 m hml (by omega) hml] at C2
            have C2 := Lib.hid C2
            generalize l[m].w = yw at *
            go_wp2_with (go_at_call 73; (with_reducible refine C2.out.mono ?_); rintro e w3 ⟨rfl, hb3⟩; have HB3 := Lib.hid (HB2.out.trans (hb3.mono HB2.out.size)); clear hb3)
            exact ⟨⟨m + 1, by omega, by omega, by go_num, HB3.out⟩, by simp [intOf]; omega⟩
          · obtain rfl : m = l.length := by omega
            have k0 := (HLN.out _ HB2.out 0 (by omega)).1
            have HF : Hid (k + 1 = 0 ∨ (1 ≤ k + 1 ∧ Ver.spare c l = false ∧ Unset c l l.length)) := .inr ⟨by omega, HSF.out⟩
            go_wp2
            exact ⟨⟨k + 1, by omega, by go_num, HB2.out, HF.out⟩, by simp [intOf]; omega⟩
    · obtain rfl : k = l.length := by omega
      have HP : Hid (post = -1) := by
        simp only [Hid]
        rw [HPO.out]
        rcases HK.out with h0 | ⟨_, h0, _⟩
        · have e : l = [] := List.length_eq_zero_iff.1 h0
          rw [e]; rfl
        · rw [h0]; rfl
      clear hm
      go_wp2
      go_ret
      exact ⟨ret_i HP.out.symm, HB.out⟩
theorem vSpare_any (h : VC F w a l) (hr : RC R w b c) :
    Calls Try.prog 41 #[.pointer (some ⟨a, 0, none⟩), .pointer (some ⟨b, 0, none⟩)] w fun e w' => e = .returned (.bool (Ver.spare c l)) ∧ Below w.heap.size w w' := by
  have HS := vspare_any h hr
  clear h hr
  cases hsp : Ver.spare c l
  all_goals (
    rw [hsp] at HS
    simp only [if_true, Bool.false_eq_true, if_false] at HS
    have HS := Lib.hid HS
    clear hsp
    go_enter Try.func41, Try.ntmps41
    go_wp2_with (go_at_call 61; (with_reducible refine HS.out.mono ?_); rintro e w1 ⟨rfl, hb1⟩)
    go_ret
    exact ⟨rfl, hb1⟩)
end
end Go.Proofs.Ytpjjpjdamieeeaa
