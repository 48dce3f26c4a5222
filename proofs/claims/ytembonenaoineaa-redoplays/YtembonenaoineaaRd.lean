/- A Drum of the reference in memory (RM, RD), and what its small methods do. Conditions: the Drum lies in memory. -/
import Derived.Test.YtembonenaoineaaDk
import Derived.Lib.ConvBytes
import Derived.Lib.MinMax
namespace Go.Proofs.Ytembonenaoineaa
set_option maxRecDepth 100000
set_option linter.unusedVariables false
open Go.ChangeShapes Go.WideShapes Go.ChangeAt Go.RowKit

def LifeR : Option (Option Nat) → Int → Bool → Prop
  | none, n, d => d = true ∧ -1 ≤ n ∧ n ≤ 9223372036854775807
  | some none, n, d => d = false ∧ n = -1
  | some (some k), n, d => d = false ∧ n = (k : Nat)
/-- The reference's Drum in block b: what lasts at ov, its sectors at sv, what waits at wv; all of it in blocks of F. -/
structure RM (F : Nat → Prop) (w : World) (b : Nat) (ov sv wv : Value) (n : Int) (d : Bool) (s : DS) : Prop where
  ok : DOk s
  lt : ∀ k, F k → k < w.heap.size
  fb : F b
  fo : ∀ k, ov.ownBlock = some k → F k
  fs : ∀ k, sv.ownBlock = some k → F k
  fw : ∀ k, wv.ownBlock = some k → F k
  ne : ∀ k, ov.ownBlock = some k → sv.ownBlock ≠ some k
  blk : w.heap[b]? = some (.cells #[ov, sv, wv, .int .i64 n, .bool d] 67 (0, 0))
  ro : w.ownsRow 0 9 1 ov s.now.length (s.old.map stc)
  rs : w.ownsRow 0 9 1 sv s.now.length (s.now.map stc)
  rw : w.ownsRow 0 91 2 wv s.pend.length (qcs s.pend)
  life : LifeR s.life n d
def RD (F : Nat → Prop) (w : World) (b : Nat) (s : DS) : Prop := ∃ ov sv wv n d, RM F w b ov sv wv n d s
theorem RD.ok {F : Nat → Prop} {w : World} {b : Nat} {s : DS} (h : RD F w b s) : DOk s := by obtain ⟨ov, sv, wv, n, d, h⟩ := h; exact h.ok
theorem RD.lt {F : Nat → Prop} {w : World} {b : Nat} {s : DS} (h : RD F w b s) : ∀ k, F k → k < w.heap.size := by obtain ⟨ov, sv, wv, n, d, h⟩ := h; exact h.lt
theorem RM.same {F F' : Nat → Prop} {w w' : World} {b : Nat} {ov sv wv : Value} {n : Int} {d : Bool} {s : DS} (h : RM F w b ov sv wv n d s)
    (hF : ∀ k, F k → F' k) (hlt : ∀ k, F' k → k < w'.heap.size) (hw : ∀ k, F k → w'.heap[k]? = w.heap[k]?) : RM F' w' b ov sv wv n d s :=
  ⟨h.ok, hlt, hF _ h.fb, fun k hk => hF k (h.fo k hk), fun k hk => hF k (h.fs k hk), fun k hk => hF k (h.fw k hk), h.ne, (hw b h.fb).trans h.blk, own_same h.ro (fun k hk => hw k (h.fo k hk)),
    own_same h.rs (fun k hk => hw k (h.fs k hk)), own_same h.rw (fun k hk => hw k (h.fw k hk)), h.life⟩
theorem RD.same {F F' : Nat → Prop} {w w' : World} {b : Nat} {s : DS} (h : RD F w b s) (hF : ∀ k, F k → F' k) (hlt : ∀ k, F' k → k < w'.heap.size) (hw : ∀ k, F k → w'.heap[k]? = w.heap[k]?) : RD F' w' b s := by
  obtain ⟨ov, sv, wv, n, d, h⟩ := h
  exact ⟨ov, sv, wv, n, d, h.same hF hlt hw⟩
theorem RD.chg {F G : Nat → Prop} {w w' : World} {b : Nat} {s : DS} (h : RD F w b s) (hc : Chg G w w') (hG : ∀ k, F k → ¬ G k) : RD F w' b s :=
  h.same (fun _ h => h) (fun k hk => Nat.lt_of_lt_of_le (h.lt k hk) hc.size) (fun k hk => hc.block k (h.lt k hk) (hG k hk))
theorem RD.below {F : Nat → Prop} {w w' : World} {b : Nat} {s : DS} (h : RD F w b s) (hb : Below w.heap.size w w') : RD F w' b s := h.chg (Chg.below (F := fun _ => False) hb) (fun _ _ h => h)
theorem RD.wide {F : Nat → Prop} {w w' : World} {b : Nat} {s : DS} (h : RD F w' b s) (hs : w.heap.size ≤ w'.heap.size) (F0 : Nat → Prop) (hF : ∀ k, F k → F0 k ∨ w.heap.size ≤ k) (h0 : ∀ k, F0 k → k < w.heap.size) : RD (Nu F0 w w') w' b s :=
  h.same (fun k hk => by rcases hF k hk with h1 | h1; exact .inl h1; exact .inr ⟨h1, h.lt k hk⟩) (fun k hk => by rcases hk with h1 | h1; exact Nat.lt_of_lt_of_le (h0 k h1) hs; exact h1.2) (fun _ _ => rfl)
theorem RD.drew {F : Nat → Prop} {w : World} {b : Nat} {s : DS} (h : RD F w b s) : RD F w.drew b s := h.same (fun _ h => h) h.lt (fun _ _ => rfl)
theorem RD.drewN {F : Nat → Prop} {w : World} {b : Nat} {s : DS} (h : RD F w b s) (n : Nat) : RD F (w.drewN n) b s := h.same (fun _ h => h) h.lt (fun _ _ => rfl)
def DoesR (F : Nat → Prop) (w : World) (b : Nat) (v : Value) (s : DS) (e : Ending) (w' : World) : Prop := e = .returned v ∧ RD (Nu F w w') w' b s ∧ Chg F w w'
theorem DoesR.next {F : Nat → Prop} {w w1 w2 : World} {b : Nat} {v : Value} {s : DS} {e : Ending} (hc : Chg F w w1) (h : DoesR (Nu F w w1) w1 b v s e w2) (h0 : ∀ k, F k → k < w.heap.size) : DoesR F w b v s e w2 := by
  obtain ⟨h1, h2, h3⟩ := h
  have hs := hc.size
  refine ⟨h1, h2.same (fun k hk => ?_) (fun k hk => ?_) (fun _ _ => rfl), hc.trans h3⟩
  · rcases hk with hk | hk
    · rcases hk with hk | hk
      · exact .inl hk
      · exact .inr ⟨hk.1, Nat.lt_of_lt_of_le hk.2 h3.size⟩
    · exact .inr ⟨by omega, hk.2⟩
  · rcases hk with hk | hk
    · exact Nat.lt_of_lt_of_le (h0 k hk) (Nat.le_trans hs h3.size)
    · exact hk.2
theorem doesR_of {F : Nat → Prop} {w w' : World} {b : Nat} {v : Value} {s : DS} (h : RD F w' b s) (hc : Chg F w w') (h0 : ∀ k, F k → k < w.heap.size) : DoesR F w b v s (.returned v) w' :=
  ⟨rfl, h.wide hc.size F (fun _ h => .inl h) h0, hc⟩
section
variable {F : Nat → Prop} {w : World} {b : Nat} {ov sv wv : Value} {n : Int} {d : Bool} {s : DS}
theorem RM.cells (h : RM F w b ov sv wv n d s) : w.cell? ⟨b, 0, none⟩ = some ov ∧ w.cell? ⟨b, 1, none⟩ = some sv ∧ w.cell? ⟨b, 2, none⟩ = some wv ∧ w.cell? ⟨b, 3, none⟩ = some (.int .i64 n) ∧ w.cell? ⟨b, 4, none⟩ = some (.bool d) ∧ ∀ o, w.frozen? ⟨b, o, none⟩ = false := by
  have hb := h.blk
  refine ⟨?_, ?_, ?_, ?_, ?_, fun o => frozen_of_row w b o _ _ hb⟩ <;> rw [cell_of_row w b _ _ _ _ hb] <;> rfl
theorem RM.nb {v : Value} {e size m : Nat} {xs : List Value} (h : RM F w b ov sv wv n d s) (hv : w.ownsRow 0 e size v m xs) (he : e ≠ 67) : v.ownBlock ≠ some b := fun e' => by
  obtain ⟨cur, h1⟩ := own_type hv e'
  have := h.blk
  rw [h1] at this
  injection this with this; injection this with _ this; exact he this
theorem RM.nw {v : Value} {xs : List Value} {m : Nat} (h : RM F w b ov sv wv n d s) (hv : w.ownsRow 0 9 1 v m xs) {k : Nat} (hk : v.ownBlock = some k) : wv.ownBlock ≠ some k := fun e' => by
  obtain ⟨cur, h1⟩ := own_type hv hk
  obtain ⟨cur', h2⟩ := own_type h.rw e'
  rw [h1] at h2
  injection h2 with h2; injection h2 with _ h2; cases h2
/-- The Drum's own cells are written. -/
theorem RM.own {w' : World} {ov' sv' wv' : Value} {n' : Int} {d' : Bool} {s' : DS} {F' : Nat → Prop} (hok : DOk s') (hlt : ∀ k, F' k → k < w'.heap.size) (hb : F' b) (ho : ∀ k, ov'.ownBlock = some k → F' k) (hs : ∀ k, sv'.ownBlock = some k → F' k) (hw : ∀ k, wv'.ownBlock = some k → F' k)
    (hne : ∀ k, ov'.ownBlock = some k → sv'.ownBlock ≠ some k) (hblk : w'.heap[b]? = some (.cells #[ov', sv', wv', .int .i64 n', .bool d'] 67 (0, 0)))
    (hro : w'.ownsRow 0 9 1 ov' s'.now.length (s'.old.map stc)) (hrs : w'.ownsRow 0 9 1 sv' s'.now.length (s'.now.map stc)) (hrw : w'.ownsRow 0 91 2 wv' s'.pend.length (qcs s'.pend)) (hl : LifeR s'.life n' d') : RD F' w' b s' :=
  ⟨ov', sv', wv', n', d', ⟨hok, hlt, hb, ho, hs, hw, hne, hblk, hro, hrs, hrw, hl⟩⟩
theorem RM.set (h : RM F w b ov sv wv n d s) (o : Nat) (u : Value) {wv' : Value} {n' : Int} {d' : Bool} {s' : DS} (hs : s'.now = s.now) (ho : s'.old = s.old) (hok : DOk s')
    (he : (#[ov, sv, wv, .int .i64 n, .bool d] : Array Value).setIfInBounds o u = #[ov, sv, wv', .int .i64 n', .bool d'])
    (hwv : ∀ k, wv'.ownBlock = some k → F k) (hr3 : w.ownsRow 0 91 2 wv' s'.pend.length (qcs s'.pend)) (hl : LifeR s'.life n' d') : RD F (w.setCell ⟨b, o, none⟩ u) b s' := by
  have hz : (w.setCell ⟨b, o, none⟩ u).heap.size = w.heap.size := by simp [World.setCell]
  have hb := heap_setCell_same w b o _ _ u h.blk
  rw [he] at hb
  refine RM.own hok (fun k hk => by rw [hz]; exact h.lt k hk) h.fb h.fo h.fs hwv h.ne hb ?_ ?_ ?_ hl
  · rw [hs, ho]; exact ownsRow_setCell_other h.ro (by exact h.nb h.ro (by decide)) u
  · rw [hs]; exact ownsRow_setCell_other h.rs (by exact h.nb h.rs (by decide)) u
  · exact ownsRow_setCell_other hr3 (by exact h.nb hr3 (by decide)) u
end
theorem rwaiting_any {F : Nat → Prop} {w : World} {b : Nat} {s : DS} (h : RD F w b s) :
    Calls Try.prog 50 #[.pointer (some ⟨b, 0, none⟩)] w fun e w' => e = .returned (.int .i64 (s.pend.length : Nat)) ∧ w = w' := by
  obtain ⟨ov, sv, wv, n, d, h⟩ := h
  obtain ⟨k0, k1, k2, k3, k4, kf⟩ := h.cells
  obtain ⟨A, c, rfl⟩ := own_slice h.rw
  clear h
  go_enter Try.func50, Try.ntmps50
  go_wp2
  go_ret
  exact ⟨rfl, rfl⟩
theorem rfuse_any {F : Nat → Prop} {w : World} {b : Nat} {s : DS} (h : RD F w b s) (i : Int) (h0 : -9223372036854775808 ≤ i) (h1 : i ≤ 9223372036854775807) :
    Calls Try.prog 20 #[.pointer (some ⟨b, 0, none⟩), .int .i64 i] w (DoesR F w b (.tuple #[]) (fzS s i)) := by
  obtain ⟨ov, sv, wv, n, d, h⟩ := h
  obtain ⟨k0, k1, k2, k3, k4, kf⟩ := h.cells
  have H := Lib.hid h
  have hl := h.life
  have HL : LifeR (fzS s i).life (max i (-1)) d := by
    simp only [fzS]
    cases hlf : s.life with
    | none => rw [hlf] at hl; exact ⟨hl.1, by omega, by omega⟩
    | some fu =>
      have hd : d = false := by
        rw [hlf] at hl
        cases fu with
        | none => exact hl.1
        | some k => exact hl.1
      simp only [fuseL]
      split
      · exact ⟨hd, by omega⟩
      · exact ⟨hd, by omega⟩
  have H2 := Lib.hid (h.set 3 (.int .i64 (max i (-1))) (wv' := wv) (n' := max i (-1)) (d' := d) (s' := fzS s i) rfl rfl (fzS_ok h.ok h1) rfl h.fw h.rw HL)
  clear h hl HL
  go_enter Try.func20, Try.ntmps20
  go_wp2
  go_end0
  exact doesR_of H2.out (chg_set H.out.fb _ _) H.out.lt
theorem alive_any {F : Nat → Prop} {w : World} {b : Nat} {s : DS} (h : RD F w b s) :
    Calls Try.prog 46 #[.pointer (some ⟨b, 0, none⟩)] w (DoesR F w b (.bool (runsB s)) (ticked s)) := by
  have hP := Lib.hid h
  obtain ⟨ov, sv, wv, n, d, h⟩ := h
  obtain ⟨k0, k1, k2, k3, k4, kf⟩ := h.cells
  have H := Lib.hid h
  have hl := h.life
  clear h
  cases hlf : s.life with
  | none =>
    rw [hlf] at hl
    obtain ⟨rfl, l1, l2⟩ := hl
    have e1 : runsB s = false := by simp [runsB, hlf, tickL]
    have e2 : ticked s = s := by cases s; simp_all [ticked, tickL]
    rw [e1, e2]
    rcases (show n = -1 ∨ n = 0 ∨ 0 < n by omega) with hn | hn | hn
    · subst hn
      clear e1 e2 hlf
      go_enter Try.func46, Try.ntmps46
      go_wp2
      go_ret
      exact doesR_of hP.out (Chg.refl _ _) H.out.lt
    · subst hn
      have H2 := Lib.hid (H.out.set 4 (.bool true) (wv' := wv) (n' := 0) (d' := true) (s' := s) rfl rfl H.out.ok rfl H.out.fw H.out.rw (by rw [hlf]; exact ⟨rfl, by omega, by omega⟩))
      clear e1 e2 hlf
      go_enter Try.func46, Try.ntmps46
      go_wp2
      go_ret
      exact doesR_of H2.out (chg_set H.out.fb _ _) H.out.lt
    · have H2 := Lib.hid (H.out.set 3 (.int .i64 (n - 1)) (wv' := wv) (n' := n - 1) (d' := true) (s' := s) rfl rfl H.out.ok rfl H.out.fw H.out.rw (by rw [hlf]; exact ⟨rfl, by omega, by omega⟩))
      have hq : (n == 0) = false := by simp; omega
      clear e1 e2 hlf
      go_enter Try.func46, Try.ntmps46
      go_wp2
      go_ret
      exact doesR_of H2.out (chg_set H.out.fb _ _) H.out.lt
  | some fu =>
    cases fu with
    | none =>
      rw [hlf] at hl
      obtain ⟨rfl, rfl⟩ := hl
      have e1 : runsB s = true := by simp [runsB, hlf, tickL]
      have e2 : ticked s = s := by cases s; simp_all [ticked, tickL]
      rw [e1, e2]
      clear e1 e2 hlf
      go_enter Try.func46, Try.ntmps46
      go_wp2
      go_ret
      exact doesR_of hP.out (Chg.refl _ _) H.out.lt
    | some k =>
      have hk := H.out.ok.fus k hlf
      rw [hlf] at hl
      obtain ⟨rfl, rfl⟩ := hl
      cases k with
      | zero =>
        have e1 : runsB s = false := by simp [runsB, hlf, tickL]
        have H2 := Lib.hid (H.out.set 4 (.bool true) (wv' := wv) (n' := 0) (d' := true) (s' := ticked s) rfl rfl (ticked_ok H.out.ok) rfl H.out.fw H.out.rw (by simp [ticked, hlf, tickL, LifeR]))
        rw [e1]
        clear e1 hlf
        simp only [Int.natCast_zero] at k3
        go_enter Try.func46, Try.ntmps46
        go_wp2
        go_ret
        exact doesR_of H2.out (chg_set H.out.fb _ _) H.out.lt
      | succ k =>
        have e1 : runsB s = true := by simp [runsB, hlf, tickL]
        have H2 := Lib.hid (H.out.set 3 (.int .i64 (k : Nat)) (wv' := wv) (n' := (k : Nat)) (d' := false) (s' := ticked s) rfl rfl (ticked_ok H.out.ok) rfl H.out.fw H.out.rw (by simp [ticked, hlf, tickL, LifeR]))
        rw [e1]
        clear e1 hlf
        have hq : (((k + 1 : Nat) : Int) == 0) = false := by simp; omega
        go_enter Try.func46, Try.ntmps46
        go_wp2
        go_ret
        exact doesR_of H2.out (chg_set H.out.fb _ _) H.out.lt
theorem row_str {w : World} {v : Value} {l : List (List UInt8)} {n : Nat} (h : w.ownsRow 0 9 1 v n (l.map stc)) (j : Nat) (hj : j < l.length) : ∃ g c, v = .slice (some ⟨g, 0, none⟩) n c ∧ w.cell? ⟨g, j, none⟩ = some (.string (bstr l[j])) ∧ w.frozen? ⟨g, j, none⟩ = false := by
  have hn : l.length = n := by have := h.1; simpa using this
  obtain ⟨g, c, rfl, _, _⟩ := World.ownsRow.form h (by omega)
  refine ⟨g, c, rfl, ?_, World.ownsRow.frozenAt h j⟩
  rw [World.ownsRow.cellAt h j (by omega)]
  simp [hj, stc]
theorem rread_any {F : Nat → Prop} {w : World} {b : Nat} {s : DS} (h : RD F w b s) (i : Int) :
    Calls Try.prog 40 #[.pointer (some ⟨b, 0, none⟩), .int .i64 i] w fun e w' => ∃ A c, e = .returned (.slice A (rdL s i).length c) ∧ BS w' A (rdL s i) c ∧ Below w.heap.size w w' := by
  obtain ⟨ov, sv, wv, n, d, h⟩ := h
  obtain ⟨k0, k1, k2, k3, k4, kf⟩ := h.cells
  cases ht : there s i with
  | false =>
    have e0 : rdL s i = [] := by simp [rdL, ht]
    rw [e0]
    obtain ⟨A, c, hsv⟩ := own_slice h.rs
    subst hsv
    clear h e0
    simp only [there, decide_eq_false_iff_not] at ht
    rcases (show i < 0 ∨ (0 ≤ i ∧ (s.now.length : Int) ≤ i) by omega) with hi | ⟨hi, hi'⟩
    all_goals (
      clear ht
      go_enter Try.func40, Try.ntmps40
      go_wp2
      go_ret
      exact ⟨none, 0, rfl, bs_nil _, Below.refl _ _⟩)
  | true =>
    have ht2 := ht
    simp only [there, decide_eq_true_eq] at ht2
    obtain ⟨j, rfl⟩ : ∃ j : Nat, i = j := ⟨i.toNat, by omega⟩
    have hj : j < s.now.length := by omega
    have e0 : rdL s j = s.now[j] := by simp [rdL, ht, List.getD, hj]
    rw [e0]
    obtain ⟨g, c, hsv, hc, _⟩ := row_str h.rs j hj
    subst hsv
    clear h e0 ht
    generalize s.now[j] = q at *
    have hcv := Lib.run_convert_string_bytes (P := Try.prog) w 9 36 5 (bstr q) Try.underlying9 Try.underlying36 Try.underlying5
    rw [bstr_size] at hcv
    go_enter Try.func40, Try.ntmps40
    go_wp2
    go_ret
    refine ⟨_, _, rfl, ⟨fun i hi => ⟨_, rfl, ?_⟩, ?_, fun e => by cases e⟩, ⟨rfl, rfl, rfl, ?_, fun k hk => Lib.bytesWorld_at_old w _ _ k hk⟩⟩
    · rw [Addr.add_lit, Nat.zero_add, Lib.bytesWorld_cell w _ _ i (by rw [bstr_size]; exact hi)]
      simp [bstr, List.getD, hi]
    · exact grownCap_ge _ _ _ _
    · rw [Lib.bytesWorld_size]; omega
end Go.Proofs.Ytembonenaoineaa
