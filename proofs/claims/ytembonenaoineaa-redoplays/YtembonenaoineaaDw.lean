/- A Drum of package drum in memory (PM, PD), and what its small methods do. Conditions: the Drum lies in memory. -/
import Derived.Test.YtembonenaoineaaDm
namespace Go.Proofs.Ytembonenaoineaa
set_option maxRecDepth 100000
set_option linter.unusedVariables false
open Go.ChangeShapes Go.WideShapes Go.ChangeAt Go.RowKit

def LifeP : Option (Option Nat) → Bool → Int → Bool → Prop
  | none, _, n, d => d = true ∧ -9223372036854775808 ≤ n ∧ n ≤ 9223372036854775807
  | some none, f, n, d => d = false ∧ f = false ∧ -9223372036854775808 ≤ n ∧ n ≤ 9223372036854775807
  | some (some k), f, n, d => d = false ∧ f = true ∧ n = (k : Nat)
/-- The Drum in block a: its sectors in g1, what lasts in g2, what waits at pv; all of it in blocks of F. -/
structure PM (F : Nat → Prop) (w : World) (a g1 c1 g2 c2 : Nat) (pv : Value) (f : Bool) (n : Int) (d : Bool) (s : DS) : Prop where
  ok : DOk s
  lt : ∀ k, F k → k < w.heap.size
  fa : F a
  f1 : F g1
  f2 : F g2
  f3 : ∀ k, pv.ownBlock = some k → F k
  ne : g1 ≠ g2
  blk : w.heap[a]? = some (.cells #[.slice (some ⟨g1, 0, none⟩) s.now.length c1, .slice (some ⟨g2, 0, none⟩) s.now.length c2, pv, .bool f, .int .i64 n, .bool d] 84 (0, 0))
  r1 : w.ownsRow 0 87 64 (.slice (some ⟨g1, 0, none⟩) s.now.length c1) s.now.length (scs s.now)
  r2 : w.ownsRow 0 87 64 (.slice (some ⟨g2, 0, none⟩) s.now.length c2) s.now.length (scs s.old)
  r3 : w.ownsRow 0 89 65 pv s.pend.length (pcs s.pend)
  life : LifeP s.life f n d
def PD (F : Nat → Prop) (w : World) (a : Nat) (s : DS) : Prop := ∃ g1 c1 g2 c2 pv f n d, PM F w a g1 c1 g2 c2 pv f n d s
theorem PD.ok {F : Nat → Prop} {w : World} {a : Nat} {s : DS} (h : PD F w a s) : DOk s := by obtain ⟨g1, c1, g2, c2, pv, f, n, d, h⟩ := h; exact h.ok
theorem PD.lt {F : Nat → Prop} {w : World} {a : Nat} {s : DS} (h : PD F w a s) : ∀ k, F k → k < w.heap.size := by obtain ⟨g1, c1, g2, c2, pv, f, n, d, h⟩ := h; exact h.lt
theorem PD.mem {F : Nat → Prop} {w : World} {a : Nat} {s : DS} (h : PD F w a s) : F a := by obtain ⟨g1, c1, g2, c2, pv, f, n, d, h⟩ := h; exact h.fa
theorem PM.same {F F' : Nat → Prop} {w w' : World} {a g1 c1 g2 c2 : Nat} {pv : Value} {f : Bool} {n : Int} {d : Bool} {s : DS} (h : PM F w a g1 c1 g2 c2 pv f n d s)
    (hF : ∀ k, F k → F' k) (hlt : ∀ k, F' k → k < w'.heap.size) (hw : ∀ k, F k → w'.heap[k]? = w.heap[k]?) : PM F' w' a g1 c1 g2 c2 pv f n d s :=
  ⟨h.ok, hlt, hF _ h.fa, hF _ h.f1, hF _ h.f2, fun k hk => hF k (h.f3 k hk), h.ne, (hw a h.fa).trans h.blk, own_same h.r1 (fun k hk => by simp [Value.ownBlock] at hk; subst hk; exact hw _ h.f1),
    own_same h.r2 (fun k hk => by simp [Value.ownBlock] at hk; subst hk; exact hw _ h.f2), own_same h.r3 (fun k hk => hw k (h.f3 k hk)), h.life⟩
theorem PD.same {F F' : Nat → Prop} {w w' : World} {a : Nat} {s : DS} (h : PD F w a s) (hF : ∀ k, F k → F' k) (hlt : ∀ k, F' k → k < w'.heap.size) (hw : ∀ k, F k → w'.heap[k]? = w.heap[k]?) : PD F' w' a s := by
  obtain ⟨g1, c1, g2, c2, pv, f, n, d, h⟩ := h
  exact ⟨g1, c1, g2, c2, pv, f, n, d, h.same hF hlt hw⟩
/-- What does not change its blocks leaves a Drum as it was. -/
theorem PD.chg {F G : Nat → Prop} {w w' : World} {a : Nat} {s : DS} (h : PD F w a s) (hc : Chg G w w') (hG : ∀ k, F k → ¬ G k) : PD F w' a s :=
  h.same (fun _ h => h) (fun k hk => Nat.lt_of_lt_of_le (h.lt k hk) hc.size) (fun k hk => hc.block k (h.lt k hk) (hG k hk))
theorem PD.below {F : Nat → Prop} {w w' : World} {a : Nat} {s : DS} (h : PD F w a s) (hb : Below w.heap.size w w') : PD F w' a s := h.chg (Chg.below (F := fun _ => False) hb) (fun _ _ h => h)
theorem PD.wide {F : Nat → Prop} {w w' : World} {a : Nat} {s : DS} (h : PD F w' a s) (hs : w.heap.size ≤ w'.heap.size) (F0 : Nat → Prop) (hF : ∀ k, F k → F0 k ∨ w.heap.size ≤ k) (h0 : ∀ k, F0 k → k < w.heap.size) : PD (Nu F0 w w') w' a s :=
  h.same (fun k hk => by rcases hF k hk with h1 | h1; exact .inl h1; exact .inr ⟨h1, h.lt k hk⟩) (fun k hk => by rcases hk with h1 | h1; exact Nat.lt_of_lt_of_le (h0 k h1) hs; exact h1.2) (fun _ _ => rfl)
theorem PD.drew {F : Nat → Prop} {w : World} {a : Nat} {s : DS} (h : PD F w a s) : PD F w.drew a s := h.same (fun _ h => h) h.lt (fun _ _ => rfl)
/-- A method returns v, and leaves the Drum in block a in state s; of what was there only blocks of F may change. -/
def Does (F : Nat → Prop) (w : World) (a : Nat) (v : Value) (s : DS) (e : Ending) (w' : World) : Prop := e = .returned v ∧ PD (Nu F w w') w' a s ∧ Chg F w w'
theorem Does.next {F : Nat → Prop} {w w1 w2 : World} {a : Nat} {v : Value} {s : DS} {e : Ending} (hc : Chg F w w1) (h : Does (Nu F w w1) w1 a v s e w2) (h0 : ∀ k, F k → k < w.heap.size) : Does F w a v s e w2 := by
  obtain ⟨h1, h2, h3⟩ := h
  have hs := hc.size
  refine ⟨h1, h2.same (fun k hk => ?_) (fun k hk => ?_) (fun _ _ => rfl), hc.trans h3⟩
  · rcases hk with hk | hk
    · rcases hk with hk | hk
      · exact .inl hk
      · exact .inr ⟨hk.1, Nat.lt_of_lt_of_le hk.2 h3.size⟩
    · exact .inr ⟨by omega, hk.2⟩
  · rcases hk with hk | hk
    · exact Nat.lt_of_lt_of_le (h0 k hk) (Nat.le_trans hs h3.size)
    · exact hk.2
section
variable {F : Nat → Prop} {w : World} {a g1 c1 g2 c2 : Nat} {pv : Value} {f : Bool} {n : Int} {d : Bool} {s : DS}
theorem PM.cells (h : PM F w a g1 c1 g2 c2 pv f n d s) : w.cell? ⟨a, 0, none⟩ = some (.slice (some ⟨g1, 0, none⟩) s.now.length c1) ∧ w.cell? ⟨a, 1, none⟩ = some (.slice (some ⟨g2, 0, none⟩) s.now.length c2) ∧
    w.cell? ⟨a, 2, none⟩ = some pv ∧ w.cell? ⟨a, 3, none⟩ = some (.bool f) ∧ w.cell? ⟨a, 4, none⟩ = some (.int .i64 n) ∧ w.cell? ⟨a, 5, none⟩ = some (.bool d) ∧ ∀ o, w.frozen? ⟨a, o, none⟩ = false := by
  have hb := h.blk
  refine ⟨?_, ?_, ?_, ?_, ?_, ?_, fun o => frozen_of_row w a o _ _ hb⟩ <;> rw [cell_of_row w a _ _ _ _ hb] <;> rfl
theorem PM.an1 (h : PM F w a g1 c1 g2 c2 pv f n d s) : a ≠ g1 := fun e => by
  obtain ⟨cur, h1, _⟩ := own_open h.r1
  have := h.blk
  rw [e, h1] at this
  injection this with this; injection this with _ this; cases this
theorem PM.an2 (h : PM F w a g1 c1 g2 c2 pv f n d s) : a ≠ g2 := fun e => by
  obtain ⟨cur, h1, _⟩ := own_open h.r2
  have := h.blk
  rw [e, h1] at this
  injection this with this; injection this with _ this; cases this
theorem PM.an3 (h : PM F w a g1 c1 g2 c2 pv f n d s) : pv.ownBlock ≠ some a := fun e => by
  obtain ⟨cur, h1⟩ := own_type h.r3 e
  have := h.blk
  rw [h1] at this
  injection this with this; injection this with _ this; cases this
theorem PM.n13 (h : PM F w a g1 c1 g2 c2 pv f n d s) : pv.ownBlock ≠ some g1 := fun e => by
  obtain ⟨cur, h1⟩ := own_type h.r3 e
  obtain ⟨cur', h2, _⟩ := own_open h.r1
  rw [h1] at h2
  injection h2 with h2; injection h2 with _ h2; cases h2
theorem PM.n23 (h : PM F w a g1 c1 g2 c2 pv f n d s) : pv.ownBlock ≠ some g2 := fun e => by
  obtain ⟨cur, h1⟩ := own_type h.r3 e
  obtain ⟨cur', h2, _⟩ := own_open h.r2
  rw [h1] at h2
  injection h2 with h2; injection h2 with _ h2; cases h2
/-- A cell of the Drum itself is written. -/
theorem PM.set (h : PM F w a g1 c1 g2 c2 pv f n d s) (o : Nat) (u : Value) {pv' : Value} {f' : Bool} {n' : Int} {d' : Bool} {s' : DS} (hs : s'.now = s.now) (ho : s'.old = s.old) (hok : DOk s')
    (he : (#[.slice (some ⟨g1, 0, none⟩) s.now.length c1, .slice (some ⟨g2, 0, none⟩) s.now.length c2, pv, .bool f, .int .i64 n, .bool d] : Array Value).setIfInBounds o u = #[.slice (some ⟨g1, 0, none⟩) s.now.length c1, .slice (some ⟨g2, 0, none⟩) s.now.length c2, pv', .bool f', .int .i64 n', .bool d'])
    (hpv : ∀ k, pv'.ownBlock = some k → F k) (hr3 : w.ownsRow 0 89 65 pv' s'.pend.length (pcs s'.pend)) (hp3 : pv'.ownBlock ≠ some a) (hl : LifeP s'.life f' n' d') : PM F (w.setCell ⟨a, o, none⟩ u) a g1 c1 g2 c2 pv' f' n' d' s' := by
  have hz : (w.setCell ⟨a, o, none⟩ u).heap.size = w.heap.size := by simp [World.setCell]
  have hb := heap_setCell_same w a o _ _ u h.blk
  rw [he] at hb
  refine ⟨hok, fun k hk => by rw [hz]; exact h.lt k hk, h.fa, h.f1, h.f2, hpv, h.ne, ?_, ?_, ?_, ?_, hl⟩
  · rw [hs]; exact hb
  · rw [hs]; exact ownsRow_setCell_other h.r1 (by simp only [Value.ownBlock]; intro e; injection e with e; exact h.an1 e.symm) u
  · rw [hs, ho]; exact ownsRow_setCell_other h.r2 (by simp only [Value.ownBlock]; intro e; injection e with e; exact h.an2 e.symm) u
  · exact ownsRow_setCell_other hr3 (by exact hp3) u
theorem chg_set (h : F a) (o : Nat) (u : Value) : Chg F w (w.setCell ⟨a, o, none⟩ u) := (Chg.refl F w).grown (grown_set w a o u) fun k e => by injection e with e; subst e; exact .inl h
theorem PM.does (h : PM (Nu F w w) w a g1 c1 g2 c2 pv f n d s) (v : Value) : Does F w a v s (.returned v) w := ⟨rfl, ⟨_, _, _, _, _, _, _, _, h⟩, Chg.refl _ _⟩
end
theorem does_of {F : Nat → Prop} {w w' : World} {a : Nat} {v : Value} {s : DS} (h : PD F w' a s) (hc : Chg F w w') (h0 : ∀ k, F k → k < w.heap.size) : Does F w a v s (.returned v) w' :=
  ⟨rfl, h.wide hc.size F (fun _ h => .inl h) h0, hc⟩

theorem len_any {F : Nat → Prop} {w : World} {a : Nat} {s : DS} (h : PD F w a s) :
    Calls Try.prog 34 #[.pointer (some ⟨a, 0, none⟩)] w fun e w' => e = .returned (.int .i64 (s.now.length : Nat)) ∧ w = w' := by
  obtain ⟨g1, c1, g2, c2, pv, f, n, d, h⟩ := h
  obtain ⟨k0, k1, k2, k3, k4, k5, kf⟩ := h.cells
  clear h
  go_enter Try.func34, Try.ntmps34
  go_wp2
  go_ret
  exact ⟨rfl, rfl⟩
theorem len_nil (w : World) : Calls Try.prog 34 #[.pointer none] w fun e w' => e = .returned (.int .i64 0) ∧ w = w' := by
  go_enter Try.func34, Try.ntmps34
  go_wp2
  go_ret
  exact ⟨rfl, rfl⟩
theorem waiting_any {F : Nat → Prop} {w : World} {a : Nat} {s : DS} (h : PD F w a s) :
    Calls Try.prog 31 #[.pointer (some ⟨a, 0, none⟩)] w fun e w' => e = .returned (.int .i64 (s.pend.length : Nat)) ∧ w = w' := by
  obtain ⟨g1, c1, g2, c2, pv, f, n, d, h⟩ := h
  obtain ⟨k0, k1, k2, k3, k4, k5, kf⟩ := h.cells
  obtain ⟨A, c, rfl⟩ := own_slice h.r3
  clear h
  go_enter Try.func31, Try.ntmps31
  go_wp2
  go_ret
  exact ⟨rfl, rfl⟩
theorem waiting_nil (w : World) : Calls Try.prog 31 #[.pointer none] w fun e w' => e = .returned (.int .i64 0) ∧ w = w' := by
  go_enter Try.func31, Try.ntmps31
  go_wp2
  go_ret
  exact ⟨rfl, rfl⟩
theorem has_any {F : Nat → Prop} {w : World} {a : Nat} {s : DS} (h : PD F w a s) (i : Int) :
    Calls Try.prog 45 #[.pointer (some ⟨a, 0, none⟩), .int .i64 i] w fun e w' => e = .returned (.bool (there s i)) ∧ w = w' := by
  have HL := Lib.hid (len_any h)
  clear h
  by_cases hi : 0 ≤ i
  · go_enter Try.func45, Try.ntmps45
    go_wp2_with (go_at_call 34; refine HL.out.mono ?_; rintro e w' ⟨rfl, rfl⟩)
    all_goals (go_ret; exact ⟨ret_b (by simp [there, hi]), rfl⟩)
  · go_enter Try.func45, Try.ntmps45
    go_wp2_with (go_at_call 34; refine HL.out.mono ?_; rintro e w' ⟨rfl, rfl⟩)
    all_goals (go_ret; exact ⟨ret_b (by simp [there]; omega), rfl⟩)
theorem has_nil (w : World) (i : Int) : Calls Try.prog 45 #[.pointer none, .int .i64 i] w fun e w' => e = .returned (.bool false) ∧ w = w' := by
  by_cases hi : 0 ≤ i
  · go_enter Try.func45, Try.ntmps45
    go_wp2_with (go_at_call 34; refine (len_nil _).mono ?_; rintro e w' ⟨rfl, rfl⟩)
    all_goals (go_ret; exact ⟨ret_b (by simp [hi]), rfl⟩)
  · go_enter Try.func45, Try.ntmps45
    go_wp2_with (go_at_call 34; refine (len_nil _).mono ?_; rintro e w' ⟨rfl, rfl⟩)
    all_goals (go_ret; exact ⟨ret_b (by simp), rfl⟩)
theorem runs_nil (w : World) : Calls Try.prog 44 #[.pointer none] w fun e w' => e = .returned (.bool false) ∧ w = w' := by
  go_enter Try.func44, Try.ntmps44
  go_wp2
  go_ret
  exact ⟨rfl, rfl⟩
theorem runs_any {F : Nat → Prop} {w : World} {a : Nat} {s : DS} (h : PD F w a s) :
    Calls Try.prog 44 #[.pointer (some ⟨a, 0, none⟩)] w (Does F w a (.bool (runsB s)) (ticked s)) := by
  have hP := Lib.hid h
  obtain ⟨g1, c1, g2, c2, pv, f, n, d, h⟩ := h
  obtain ⟨k0, k1, k2, k3, k4, k5, kf⟩ := h.cells
  have H := Lib.hid h
  have hl := h.life
  clear h
  cases hlf : s.life with
  | none =>
    rw [hlf] at hl
    obtain ⟨rfl, _⟩ := hl
    have e1 : runsB s = false := by simp [runsB, hlf, tickL]
    have e2 : ticked s = s := by cases s; simp_all [ticked, tickL]
    rw [e1, e2]
    clear e1 e2 hlf
    go_enter Try.func44, Try.ntmps44
    go_wp2
    go_ret
    exact does_of hP.out (Chg.refl _ _) H.out.lt
  | some fu =>
    cases fu with
    | none =>
      rw [hlf] at hl
      obtain ⟨rfl, rfl, _⟩ := hl
      have e1 : runsB s = true := by simp [runsB, hlf, tickL]
      have e2 : ticked s = s := by cases s; simp_all [ticked, tickL]
      rw [e1, e2]
      clear e1 e2 hlf
      go_enter Try.func44, Try.ntmps44
      go_wp2
      go_ret
      exact does_of hP.out (Chg.refl _ _) H.out.lt
    | some k =>
      have hk := H.out.ok.fus k hlf
      rw [hlf] at hl
      obtain ⟨rfl, rfl, rfl⟩ := hl
      cases k with
      | zero =>
        have e1 : runsB s = false := by simp [runsB, hlf, tickL]
        have H2 := Lib.hid (H.out.set 5 (.bool true) (pv' := pv) (f' := true) (n' := 0) (d' := true) (s' := ticked s) rfl rfl (ticked_ok H.out.ok) rfl H.out.f3 H.out.r3 H.out.an3 (by simp [ticked, hlf, tickL, LifeP]))
        rw [e1]
        clear e1 hlf
        simp only [Int.natCast_zero] at k4
        go_enter Try.func44, Try.ntmps44
        go_wp2
        go_ret
        exact does_of ⟨_, _, _, _, _, _, _, _, H2.out⟩ (chg_set H.out.fa _ _) H.out.lt
      | succ k =>
        have e1 : runsB s = true := by simp [runsB, hlf, tickL]
        have H2 := Lib.hid (H.out.set 4 (.int .i64 (k : Nat)) (pv' := pv) (f' := true) (n' := (k : Nat)) (d' := false) (s' := ticked s) rfl rfl (ticked_ok H.out.ok) rfl H.out.f3 H.out.r3 H.out.an3 (by simp [ticked, hlf, tickL, LifeP]))
        rw [e1]
        clear e1 hlf
        have hq : (((k + 1 : Nat) : Int) == 0) = false := by simp; omega
        go_enter Try.func44, Try.ntmps44
        go_wp2
        go_ret
        exact does_of ⟨_, _, _, _, _, _, _, _, H2.out⟩ (chg_set H.out.fa _ _) H.out.lt
end Go.Proofs.Ytembonenaoineaa
