/- A region that draws its order and ends in ONE store: loads may be taken first by a condition S on the world that need not hold behind that last store (AnyE). No condition but those that each fact names. -/
import Derived.OrdersHeld
import Derived.StillTail
import Derived.Test.YtmbbmgkbhfnchaaRows
namespace Go.Proofs.Ytmbbmgkbhfnchaa
set_option maxRecDepth 100000
set_option linter.unusedVariables false
section
variable {P : Program} {ops : Array Oper} {Q : Exit → Act → World → Prop} {md : Region.Mode} {S : World → Prop} {N : Nat}
/-- Whatever order is picked: S holds behind every operation but number N. -/
def AnyE (P : Program) (md : Region.Mode) (ops : Array Oper) (Q : Exit → Act → World → Prop) (S : World → Prop) (N : Nat) : Nat → Array Bool → Act → World → Prop
  | 0, listed, a, w => Region.ready md ops listed = [] ∧ Q .normal a w
  | k + 1, listed, a, w => (Region.ready md ops listed = [] → Q .normal a w) ∧ ∀ j ∈ Region.ready md ops listed, wpOp P ops Q j (fun a' w' => (j ≠ N → S w') ∧ AnyE P md ops Q S N k (listed.setIfInBounds j true) a' w') a w
theorem AnyE.any : ∀ (k : Nat) (listed : Array Bool) (a : Act) (w : World), AnyE P md ops Q S N k listed a w → wpAny P md ops Q k listed a w
  | 0, _, _, _, h => h
  | k + 1, _, _, _, h => ⟨h.1, fun j hj => wpOp_mono (fun a' w' h' => AnyE.any k _ a' w' h'.2) (h.2 j hj)⟩
theorem headInv_start (n : Nat) : HeadInv md ops n (Array.replicate ops.size false) := by
  refine ⟨by simp, fun j oj hj hl => ?_, fun t ht hts => by simp [hts]⟩
  rw [getD_replicate_false] at hl
  cases hl
theorem AnyE.first {i : Nat} {oi : Oper} {v : Value} (hi : ops[i]? = some oi) (hiN : i < N) (hNs : N < ops.size) (hsk : Region.sinkB md ops N = true) (hch : Region.chainB md ops N = true)
    (hsel : ∀ (j : Nat) (o : Oper) cs b, ops[j]? = some o → o.op ≠ .select cs b) (hQ : ∀ c a w, Q (.panic c) (a.put oi.dst v) w → Q (.panic c) a w) :
    ∀ (k : Nat) (listed : Array Bool) (a : Act) (w : World), HeadInv md ops N listed →
      (∀ j oj, ops[j]? = some oj → j ≠ i → listed.getD j true = false → (∀ e ∈ oj.after, Region.binds md e = true → e.on ≠ i) → oi.apart ops oj = true) →
      i ∈ Region.ready md ops listed → YieldsIf P ops S oi v a → S w →
      AnyE P md ops Q S N k (listed.setIfInBounds i true) (a.put oi.dst v) w → AnyE P md ops Q S N (k + 1) listed a w := by
  intro k
  induction k with
  | zero =>
    intro listed a w _ _ hr hy hS H
    refine ⟨fun h => (by rw [h] at hr; cases hr), fun j hj => ?_⟩
    rcases Decidable.em (j = i) with e | e
    · subst e; exact hy.wpOp hi hS ⟨fun _ => hS, H⟩
    · have h1 := ready_mono hj e
      rw [H.1] at h1
      cases h1
  | succ k ih =>
    intro listed a w inv hfree hr hy hS H
    refine ⟨fun h => (by rw [h] at hr; cases hr), fun j hj => ?_⟩
    rcases Decidable.em (j = i) with e | e
    · subst e; exact hy.wpOp hi hS ⟨fun _ => hS, H⟩
    · have hun := (mem_ready.1 hr).1
      have hjN : j < N := by
        rcases Nat.lt_or_ge j N with h | h
        · exact h
        · exact absurd hj (tail_waits hsk hch hNs inv (N - i) i rfl hiN hun j h)
      obtain ⟨hju, oj, hoj, hall⟩ := mem_ready.1 hj
      have hno : ∀ e ∈ oj.after, Region.binds md e = true → e.on ≠ i := fun x hx hb hxi => by
        have h1 := hall x hx hb
        rw [hxi, getD_both hun] at h1
        cases h1
      have h1 := wpOp_putIf hoj (hfree j oj hoj e hju hno) (fun cs b => hsel i oi cs b hi) (fun cs b => hsel j oj cs b hoj) hQ hy (H.2 j (ready_mono hj e))
      refine wpOp_mono (fun a' w' h3 => ⟨h3.2.1, ih (listed.setIfInBounds j true) a' w' (inv.set hj hjN) (fun m om hm hmi hmu hmn => hfree m om hm hmi ?_ hmn) (ready_mono hr (Ne.symm e)) h3.1 (h3.2.1 (by omega)) ?_⟩) h1
      · rcases Decidable.em (j = m) with e2 | e2
        · subst e2; exact hju
        · rw [getD_set_ne true e2] at hmu; exact hmu
      · rw [Array.setIfInBounds_comm _ _ e]
        exact h3.2.2
/-- Take number i first. -/
theorem AnyE.take {i : Nat} {oi : Oper} {v : Value} {k : Nat} {listed : Array Bool} {a : Act} {w : World} (inv : HeadInv md ops N listed) (hi : ops[i]? = some oi) (hiN : i < N) (hNs : N < ops.size) (hsk : Region.sinkB md ops N = true) (hch : Region.chainB md ops N = true)
    (hs : Region.noSelect ops = true) (hf : Region.free md ops listed i = true) (hr : (Region.ready md ops listed).contains i = true)
    (hQ : ∀ c a w, Q (.panic c) (a.put oi.dst v) w → Q (.panic c) a w) (hy : YieldsIf P ops S oi v a) (hS : S w)
    (h : HeadInv md ops N (listed.setIfInBounds i true) → AnyE P md ops Q S N k (listed.setIfInBounds i true) (a.put oi.dst v) w) : AnyE P md ops Q S N (k + 1) listed a w :=
  have hr' : i ∈ Region.ready md ops listed := by simpa using hr
  AnyE.first hi hiN hNs hsk hch (Region.noSelect_spec hs) hQ k listed a w inv (Region.free_spec hi hf) hr' hy hS (h (inv.set hr' hiN))
/-- Those that may come up, one by one. -/
def AllE (P : Program) (md : Region.Mode) (ops : Array Oper) (Q : Exit → Act → World → Prop) (S : World → Prop) (N : Nat) (k : Nat) (listed : Array Bool) (a : Act) (w : World) (rs : List Nat) : Prop :=
  ∀ j ∈ rs, wpOp P ops Q j (fun a' w' => (j ≠ N → S w') ∧ AnyE P md ops Q S N k (listed.setIfInBounds j true) a' w') a w
theorem AllE.nil {k : Nat} {listed : Array Bool} {a : Act} {w : World} : AllE P md ops Q S N k listed a w [] := fun _ h => by cases h
theorem AllE.cons {k : Nat} {listed : Array Bool} {a : Act} {w : World} {j : Nat} {o : Oper} {rs : List Nat} (ho : ops[j]? = some o) (hg : o.guard = none)
    (h : ∀ K' : Act → World → Prop, (∀ a' w', ((j ≠ N → S w') ∧ AnyE P md ops Q S N k (listed.setIfInBounds j true) a' w') → K' a' w') → o.wp P a w K' Q) (hs : AllE P md ops Q S N k listed a w rs) : AllE P md ops Q S N k listed a w (j :: rs) := fun m hm => by
  rcases List.mem_cons.1 hm with rfl | hm
  · unfold wpOp
    simp only [ho]
    rw [if_pos (by simp [Region.wanted, hg])]
    exact .inl (h _ (fun _ _ hx => hx))
  · exact hs m hm
theorem AnyE.ready {rs : List Nat} {k : Nat} {listed : Array Bool} {a : Act} {w : World} (hr : Region.ready md ops listed = rs) (hne : rs ≠ []) (h : AllE P md ops Q S N k listed a w rs) : AnyE P md ops Q S N (k + 1) listed a w :=
  ⟨fun h0 => absurd (hr ▸ h0) hne, hr ▸ h⟩
theorem AnyE.done {listed : Array Bool} {a : Act} {w : World} (hr : Region.ready md ops listed = []) (h : Q .normal a w) : ∀ k, AnyE P md ops Q S N k listed a w
  | 0 => ⟨hr, h⟩
  | _ + 1 => ⟨fun _ => h, by rw [hr]; simp⟩
theorem region_E {id : Nat} {a : Act} {w : World} (hm : P.follows .mixedOrders = true) (S : World → Prop) (N : Nat) (h : HeadInv .any ops N (Array.replicate ops.size false) → AnyE P .any ops Q S N ops.size (Array.replicate ops.size false) a w.drew) : (Code.region id ops true).wp P Q a w :=
  wp_region_any hm (AnyE.any _ _ _ _ (h (headInv_start N)))
end
end Go.Proofs.Ytmbbmgkbhfnchaa
