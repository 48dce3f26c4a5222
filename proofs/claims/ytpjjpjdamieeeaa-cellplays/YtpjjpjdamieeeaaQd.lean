/- What holds of a script's world behind k acts (Gd); acts of chapter 7's laws that came in, opened. -/
import Derived.Test.YtpjjpjdamieeeaaQc
namespace Go.Proofs.Ytpjjpjdamieeeaa
set_option maxRecDepth 100000
set_option linter.unusedVariables false
open Go.ChangeShapes Go.WideShapes Go.ChangeAt Go.RowKit
structure Gd (c : Ck) (l : List (Ver Int)) (n : Int) (k : Nat) : Prop where
  inv : Ver.Inv c l
  cl : c.l.length ≤ k
  cn : c.n ≤ k
  vl : l.length ≤ k
  n0 : 0 ≤ n
  n1 : n ≤ (c.l.length : Int)
theorem gd_new : Gd Ck.new [] 0 0 := ⟨Ver.Inv.nil _, Nat.le_refl _, Nat.le_refl _, Nat.le_refl _, Int.le_refl _, Int.le_refl _⟩
theorem put_len (t v : Int) (g : Bool) (l : List (Ver Int)) : (Ver.put t v g l).length ≤ l.length + 1 := by
  unfold Ver.put
  split
  · simp
  · split
    · simp
    · simp
theorem gd_step {c : Ck} {l : List (Ver Int)} {n : Int} {k : Nat} (h : Gd c l n k) (hok : c.Ok) (kd t v : Int) (g : Bool) : Gd (aC c kd t) (aL c kd t v g l) (aN c kd n) (k + 1) := by
  have q1 := h.cl
  have q2 := h.cn
  have q3 := h.vl
  have q4 := h.n0
  have q5 := h.n1
  by_cases h1 : kd = 1
  · subst h1
    have el := Ck.beg_len c
    refine ⟨h.inv.beg, ?_, ?_, by show l.length ≤ k + 1; omega, ?_, ?_⟩
    · show c.beg.l.length ≤ k + 1
      rw [el]; split <;> omega
    · show c.beg.n ≤ k + 1
      unfold Ck.beg; split <;> (try simp only) <;> omega
    · unfold aN; split
      · unfold Ck.begT; split <;> omega
      · exact q4
    · show aN c 1 n ≤ ((c.beg.l.length : Nat) : Int)
      rw [el]
      unfold aN Ck.begT Ck.begE
      by_cases hf : 4 ≤ c.cnt
      · simp only [if_pos hf]; split <;> omega
      · simp only [if_neg hf]; simp
  have e1 : aN c kd n = n := by unfold aN; rw [if_neg (fun e => h1 e.1)]
  rw [e1]
  by_cases h2 : kd = 2
  · subst h2
    have el := Ck.com_len c t
    refine ⟨h.inv.com t, by show (c.comS t).l.length ≤ k + 1; omega, ?_, by show l.length ≤ k + 1; omega, q4, by show n ≤ (((c.comS t).l.length : Nat) : Int); omega⟩
    show (c.comS t).n ≤ k + 1
    unfold Ck.comS; split <;> (try simp only) <;> omega
  by_cases h3 : kd = 3
  · subst h3
    have el := Ck.ab_len c t
    have eC : aC c 3 t = c.abS t := rfl
    have eL : aL c 3 t v g l = if c.isLive t then Ver.undo t l else l := rfl
    rw [eC, eL]
    have hn : (c.abS t).n = c.n := by unfold Ck.abS; split <;> rfl
    cases ht : c.isLive t with
    | true =>
      refine ⟨by simpa using h.inv.ab hok ht, by omega, by omega, ?_, q4, by omega⟩
      simp only [if_true]
      unfold Ver.undo
      have := List.length_eraseIdx_le l (Ver.at? t l)
      omega
    | false =>
      have ea : c.abS t = c := by unfold Ck.abS; rw [ht]; rfl
      rw [ea]
      simp only [Bool.false_eq_true, if_false]
      exact ⟨h.inv, by omega, by omega, by omega, q4, q5⟩
  by_cases h4 : kd = 4
  · subst h4
    have eC : aC c 4 t = c := rfl
    have eL : aL c 4 t v g l = if c.isLive t then Ver.wrS c t v g l else l := rfl
    rw [eC, eL]
    cases ht : c.isLive t with
    | true =>
      simp only [if_true]
      refine ⟨h.inv.write ht v g, by omega, by omega, ?_, q4, q5⟩
      unfold Ver.wrS
      have := put_len t v g l
      split <;> omega
    | false =>
      simp only [Bool.false_eq_true, if_false]
      exact ⟨h.inv, by omega, by omega, by omega, q4, q5⟩
  have eC : aC c kd t = c := by unfold aC; rw [if_neg h1, if_neg h2, if_neg h3]
  have eL : aL c kd t v g l = Ver.swS c l := by unfold aL; rw [if_neg h1, if_neg h2, if_neg h3, if_neg h4]
  rw [eC, eL]
  refine ⟨h.inv.sweep, by omega, by omega, ?_, q4, q5⟩
  unfold Ver.swS
  split
  · rw [List.length_tail]; omega
  · omega
/-! Acts that came in. -/
structure Act7 where
  kind : Int
  t : Int
  v : Int
  g : Bool
instance : Inhabited Act7 := ⟨⟨0, 0, 0, false⟩⟩
structure Act7At (w : World) (ad : Addr) (x : Act7) : Prop where
  c0 : w.cell? ad = some (.int .i64 x.kind)
  c1 : w.cell? (ad.add 1) = some (.int .i64 x.t)
  c2 : w.cell? (ad.add 2) = some (.int .i64 x.v)
  c3 : w.cell? (ad.add 3) = some (.bool x.g)
def SlK7 (w : World) (s : Sl Act7) : Prop := ∀ k (h : k < s.l.length), ∃ ad, s.a = some ad ∧ Act7At w (ad.add (k * 4)) s.l[k]
section
variable {H : Type} {enc : TypeId × Value → H} {w : World} {base : Nat} {held : Bool} {r : Reach} {b0 : Nat} {v : Value} {d : DataW H} {p : List MemPlace}
theorem open_acts7 (hv : Value.okWide Try.prog w r b0 22 v) (h : DataW.Trod enc Try.prog w base (fun _ => true) held 22 v d p) : ∃ s : Sl Act7, v = slv s ∧ SlK7 w s := by
  obtain ⟨a0, len0, cap0, rfl⟩ := okWide_slice Try.underlying22 hv
  obtain ⟨fuel, hf⟩ := h
  have ce : Try.prog.cellsOf 27 = 4 := by kernel_rfl
  rcases Deep.open_slice Try.underlying22 hf with ⟨hcs, _⟩ | ⟨ad, len, cap, m, n, D, Pl, hcs, _, hl, hm, hmm, _, hx⟩
  · simp [Value.cells] at hcs
    obtain ⟨rfl, rfl, rfl⟩ := hcs
    exact ⟨⟨none, [], 0⟩, rfl, fun i hi => absurd hi (by simp)⟩
  · simp [Value.cells] at hcs
    obtain ⟨rfl, rfl, rfl⟩ := hcs
    simp only [if_true] at hmm
    subst hmm
    have each : ∀ k, k < len0 → ∃ x : Act7, Act7At w (ad.add (k * 4)) x := by
      intro k hk
      obtain ⟨cs', h1, h2⟩ := hx k (by omega)
      rw [ce] at h1
      obtain ⟨_, hlen, hcell⟩ := World.cells?_some h1
      obtain ⟨xs, k', hk', hxy, _, hxl, hf⟩ := DataW.trod_struct Try.underlying27 h2
      match xs, hxl, cs', hlen with
      | [y0, y1, y2, y3], _, [v0, v1, v2, v3], _ =>
        have g0 := hf 0 _ rfl
        have g1 := hf 1 _ rfl
        have g2 := hf 2 _ rfl
        have g3 := hf 3 _ rfl
        have e3 : Try.prog.cellsOf 3 = 1 := by kernel_rfl
        have e4 : Try.prog.cellsOf 4 = 1 := by kernel_rfl
        simp [e3, e4] at g0 g1 g2 g3
        obtain ⟨n0, q0, _, _⟩ := DataW.trod_int Try.underlying3 g0
        obtain ⟨n1, q1, _, _⟩ := DataW.trod_int Try.underlying3 g1
        obtain ⟨n2, q2, _, _⟩ := DataW.trod_int Try.underlying3 g2
        obtain ⟨n3, q3, _⟩ := DataW.trod_bool Try.underlying4 g3
        have c0 := hcell 0 (by omega)
        have c1 := hcell 1 (by omega)
        have c2 := hcell 2 (by omega)
        have c3 := hcell 3 (by omega)
        simp at q0 q1 q2 q3
        subst q0; subst q1; subst q2; subst q3
        rw [Addr.add_zero'] at c0
        exact ⟨⟨n0, n1, n2, n3⟩, by simpa using c0, by simpa using c1, by simpa using c2, by simpa using c3⟩
    obtain ⟨f, hf⟩ := Deep.choose_lt each
    refine ⟨⟨some ad, (List.range len0).map f, m⟩, by simp [slv], fun k hk => ⟨ad, rfl, ?_⟩⟩
    have hk2 : k < len0 := by simpa using hk
    simpa using hf k hk2
end
/-- Act k of the slice that came in, in whatever world that has grown. -/
theorem act7_at {w : World} {s : Sl Act7} (h : SlK7 w s) {k : Nat} (hk : k < s.l.length) : ∃ ad pk, s.a = some ad ∧ ad.add (k * 4) = pk ∧ ∀ wr, Below w.heap.size w wr → wr.cell? pk = some (.int .i64 s.l[k].kind) ∧ wr.cell? ⟨pk.block, pk.off + 1, none⟩ = some (.int .i64 s.l[k].t) ∧ wr.cell? ⟨pk.block, pk.off + 2, none⟩ = some (.int .i64 s.l[k].v) ∧ wr.cell? ⟨pk.block, pk.off + 3, none⟩ = some (.bool s.l[k].g) := by
  obtain ⟨ad, e, h1⟩ := h k hk
  have e1 := h1.c1
  have e2 := h1.c2
  have e3 := h1.c3
  rw [add_pos _ _ (by decide)] at e1 e2 e3
  exact ⟨ad, _, e, rfl, fun wr hb => ⟨(hb.cell (World.block_lt_of_cell? w _ h1.c0)).trans h1.c0, (hb.cell (World.block_lt_of_cell? w _ e1)).trans e1, (hb.cell (World.block_lt_of_cell? w _ e2)).trans e2, (hb.cell (World.block_lt_of_cell? w _ e3)).trans e3⟩⟩
end Go.Proofs.Ytpjjpjdamieeeaa
