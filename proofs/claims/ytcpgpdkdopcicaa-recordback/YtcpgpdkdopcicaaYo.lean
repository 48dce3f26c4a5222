/- Arguments that are rows of writes of chapter 10, opened: what they read as, and how long what they hold is. No condition. -/
import Derived.Test.YtcpgpdkdopcicaaYw
import Derived.Test.YtcpgpdkdopcicaaZm
import Derived.Test.YtcpgpdkdopcicaaMo
import Derived.SizedLaws
import Derived.ChangeSame
import Derived.SliceStrings
import Derived.Deep.Slices
import Derived.Deep.Grids
namespace Go.Proofs.Ytcpgpdkdopcicaa
set_option maxRecDepth 100000
set_option linter.unusedVariables false
open Go.ChangeShapes Go.WideShapes Go.ChangeAt Go.RowKit
open Fl (S)
open Val (V)
open Lb
instance : Inhabited Ns := ⟨⟨none, 0, none, 0⟩⟩
/-- How long what lies in data of a type is at most. -/
def FitW {H : Type} (t : TypeId) (d : DataW H) : Prop := ∀ n ∈ d.weights Try.prog t, n ≤ reachBytes
def SlW (w : World) (s : Sl (Wr × Ns)) : Prop := WRow w s.a s.l ∧ ∀ x, x ∈ s.l → WrIn x.1
def SzW (l : List (Wr × Ns)) : Prop := l.length ≤ 140737488351232 ∧ ∀ x, x ∈ l → WSz 140737488351232 x.1
section
variable {H : Type} {enc : TypeId × Value → H} {w : World} {base : Nat} {held : Bool} {r : Reach} {b0 : Nat} {v : Value} {d : DataW H} {p : List MemPlace}
theorem trod_len {t e : TypeId} (ht : Try.prog.underlying t = some (.slice e)) {A : Option Addr} {n c : Nat} (h : DataW.Trod enc Try.prog w base (fun _ => true) held t (.slice A n c) d p) : n = 0 ∨ ∃ elems spare, d = .slice elems spare ∧ elems.length = n := by
  obtain ⟨fuel, hf⟩ := h
  rcases Deep.open_slice ht hf with ⟨hcs, _⟩ | ⟨ad, len, cap, m, n', D, Pl, hcs, _, _, _, _, hx, _⟩
  · simp [Value.cells] at hcs
    exact .inl hcs.2.1
  · simp [Value.cells] at hcs
    obtain ⟨_, rfl, _⟩ := hcs
    injection hx with hx _
    exact .inr ⟨_, _, hx, by simp⟩
theorem one_cellW {v v' : Value} (h : [v] = [v']) : v = v' := by simpa using h
theorem trod_floatW {P : Program} {spare : Nat → Bool} {t : TypeId} {k : FloatKind} {fuel : Nat} {cs : List Value} {x : DataW H × List MemPlace} (ht : P.underlying t = some (.float k)) (h : DataW.trod enc P w base spare held fuel t cs = some x) : ∃ n, cs = [.float k n] ∧ x = (.lit (.float k n), []) ∧ (Lit.float k n).wf = true := by
  cases fuel with
  | zero => simp [DataW.trod] at h
  | succ n =>
    unfold DataW.trod at h
    rw [ht] at h
    split at h <;> simp_all
theorem wts_all {e : TypeId} {D : Nat → DataW H} (n : Nat) {i : Nat} (hi : i < n) : ∀ k ∈ (D i).weights Try.prog e, k ∈ DataW.weightsAll Try.prog e ((List.range n).map D) := by
  have gen : ∀ (l : List (DataW H)) (x : DataW H), x ∈ l → ∀ k ∈ x.weights Try.prog e, k ∈ DataW.weightsAll Try.prog e l := by
    intro l
    induction l with
    | nil => intro x hx; cases hx
    | cons y l ih =>
      intro x hx k hk
      simp only [DataW.weightsAll, List.mem_append]
      rcases List.mem_cons.1 hx with rfl | hx
      · exact .inl hk
      · exact .inr (ih x hx k hk)
  intro k hk
  exact gen _ _ (List.mem_map.2 ⟨i, by simpa using hi, rfl⟩) k hk
theorem fit_elem {e t : TypeId} (ht : Try.prog.underlying t = some (.slice e)) {len : Nat} {D : Nat → DataW H} {rest : List (DataW H)} (hf : FitW t (.slice ((List.range len).map D) rest)) : len * Try.prog.bytesOf e ≤ reachBytes ∧ ∀ k, k < len → FitW e (D k) := by
  refine ⟨?_, fun k hk q hq => hf q ?_⟩
  · have := hf ((((List.range len).map D).length + rest.length) * Try.prog.bytesOf e) (by simp [DataW.weights, ht])
    refine Nat.le_trans (Nat.mul_le_mul_right _ ?_) this
    simp
  · simp only [DataW.weights, ht, List.mem_cons, List.mem_append]
    exact .inr (.inl (wts_all len hk q hq))
theorem fit_field {t : TypeId} {fs : Array Field} {xs : List (DataW H × List MemPlace)} (ht : Try.prog.underlying t = some (.struct fs)) (hf : FitW t (.agg (xs.map (·.1)))) {i : Nat} {f : Field} {y : DataW H × List MemPlace} (h1 : fs[i]? = some f) (h2 : xs[i]? = some y) : FitW f.type y.1 := fun q hq => hf q (by
  simp only [DataW.weights, ht]
  exact DataW.weights_mem_each (j := i) (t := f.type) (d := y.1) (by rw [List.getElem?_map, Array.getElem?_toList, h1]; rfl) (by rw [List.getElem?_map, h2]; rfl) q hq)
theorem fit_str {t : TypeId} {s : ByteArray} (hf : FitW (H := H) t (.lit (.string s.data.toList))) : s.size ≤ 140737488351232 := by
  have := hf s.data.toList.length (by simp [DataW.weights])
  simpa [reachBytes] using this
theorem wf_in {n : Int} (h : (Lit.int .i64 n).wf = true) : In64 n := by
  unfold In64
  simpa [Lit.wf, IntKind.min, IntKind.max, IntKind.signed, IntKind.bits] using h
theorem trod_strsW {fuel : Nat} {x : DataW H × List MemPlace} (h : DataW.trod enc Try.prog w base (fun _ => true) held fuel 39 [v] = some x) : ∃ (A : Option Addr) (l : List ByteArray) (c : Nat), v = .slice A l.length c ∧ Row .string w A l ∧ (FitW 39 x.1 → l.length ≤ 140737488351232 ∧ ∀ s ∈ l, s.size ≤ 140737488351232) := by
  have ce : Try.prog.cellsOf 9 = 1 := by kernel_rfl
  have be : Try.prog.bytesOf 9 = 16 := by kernel_rfl
  rcases Deep.open_slice1 Try.underlying39 ce h with ⟨hcs, hx⟩ | ⟨ad, len, cap, m, n, V, D, Pl, hcs, _, hl, hm, hmm, hxx, hx⟩
  · injection hcs with hcs
    exact ⟨none, [], 0, hcs, fun i hi => absurd hi (by simp), fun _ => ⟨by simp, fun s hs => by cases hs⟩⟩
  · injection hcs with hcs
    simp only [if_true] at hmm
    subst hmm
    have each : ∀ k, k < len → ∃ s : ByteArray, V k = .string s ∧ (FitW 9 (D k) → s.size ≤ 140737488351232) := by
      intro k hk
      obtain ⟨h1, h2⟩ := hx k (by omega)
      obtain ⟨s, e1, e2, e3⟩ := DataW.trod_string Try.underlying9 h2
      refine ⟨s, one_cellW e1, fun hf => ?_⟩
      injection e2 with e2 _
      rw [e2] at hf
      exact fit_str hf
    obtain ⟨f, hf⟩ := Deep.choose_lt each
    refine ⟨some ad, (List.range len).map f, m, by rw [hcs]; simp, fun i hi => ⟨ad, rfl, ?_⟩, fun hft => ?_⟩
    · have hi2 : i < len := by simpa using hi
      have := (hx i (by omega)).1
      rw [this, (hf i hi2).1]; simp
    · rw [hxx] at hft
      have hq := fit_elem Try.underlying39 hft
      rw [be] at hq
      simp only [reachBytes] at hq
      refine ⟨by simp; omega, fun s hs => ?_⟩
      obtain ⟨k, hk, rfl⟩ := List.mem_map.1 hs
      have hk2 : k < len := by simpa using hk
      exact (hf k hk2).2 (hq.2 k hk2)
theorem trod_valW {spare : Nat → Bool} {fuel : Nat} {c0 c1 c2 c3 c4 : Value} {x : DataW H × List MemPlace} (h : DataW.trod enc Try.prog w base spare held fuel 53 [c0, c1, c2, c3, c4] = some x) : ∃ v : V, c0 = .int .i64 v.k ∧ c1 = .bool v.b ∧ c2 = .int .i64 v.n ∧ c3 = .float .f64 v.f ∧ c4 = .string v.t ∧ In64 v.n ∧ v.f < 2 * S ∧ (FitW 53 x.1 → v.t.size ≤ 140737488351232) := by
  obtain ⟨xs, n, _, hx, _, hlen, hg⟩ := DataW.trod_struct Try.underlying53 h
  match xs, hlen, hx, hg with
  | [y0, y1, y2, y3, y4], _, hx, hg =>
    have g0 := hg 0 _ rfl
    have g1 := hg 1 _ rfl
    have g2 := hg 2 _ rfl
    have g3 := hg 3 _ rfl
    have g4 := hg 4 _ rfl
    have e0 : Try.prog.cellsOf 3 = 1 := by kernel_rfl
    have e1 : Try.prog.cellsOf 4 = 1 := by kernel_rfl
    have e2 : Try.prog.cellsOf 43 = 1 := by kernel_rfl
    have e3 : Try.prog.cellsOf 9 = 1 := by kernel_rfl
    simp [e0] at g0
    simp [e1] at g1
    simp [e0] at g2
    simp [e2] at g3
    simp [e3] at g4
    obtain ⟨a0, e0, _, w0⟩ := DataW.trod_int Try.underlying3 g0
    obtain ⟨a1, e1, _⟩ := DataW.trod_bool Try.underlying4 g1
    obtain ⟨a2, e2, _, w2⟩ := DataW.trod_int Try.underlying3 g2
    obtain ⟨a3, e3, _, w3⟩ := trod_floatW Try.underlying43 g3
    obtain ⟨a4, e4, y4e, w4⟩ := DataW.trod_string Try.underlying9 g4
    obtain rfl := one_cellW e0
    obtain rfl := one_cellW e1
    obtain rfl := one_cellW e2
    obtain rfl := one_cellW e3
    obtain rfl := one_cellW e4
    refine ⟨⟨a0, a1, a2, a3, a4⟩, rfl, rfl, rfl, rfl, rfl, wf_in w2, ?_, fun hf => ?_⟩
    · have : a3 < 2 ^ 64 := by simpa [Lit.wf] using w3
      show a3 < 2 * S
      unfold S; omega
    · rw [hx] at hf
      have := fit_field Try.underlying53 hf (i := 4) (y := y4) rfl rfl
      rw [y4e] at this
      exact fit_str this
theorem trod_propW {spare : Nat → Bool} {fuel : Nat} {c0 c1 c2 c3 c4 c5 : Value} {x : DataW H × List MemPlace} (h : DataW.trod enc Try.prog w base spare held fuel 55 [c0, c1, c2, c3, c4, c5] = some x) : ∃ q : Pr, c0 = .string q.k ∧ c1 = .int .i64 q.v.k ∧ c2 = .bool q.v.b ∧ c3 = .int .i64 q.v.n ∧ c4 = .float .f64 q.v.f ∧ c5 = .string q.v.t ∧ In64 q.v.n ∧ q.v.f < 2 * S ∧ (FitW 55 x.1 → q.k.size ≤ 140737488351232 ∧ q.v.t.size ≤ 140737488351232) := by
  obtain ⟨xs, n, _, hx, _, hlen, hg⟩ := DataW.trod_struct Try.underlying55 h
  match xs, hlen, hx, hg with
  | [y0, y1], _, hx, hg =>
    have g0 := hg 0 _ rfl
    have g1 := hg 1 _ rfl
    have e0 : Try.prog.cellsOf 9 = 1 := by kernel_rfl
    have e1 : Try.prog.cellsOf 53 = 5 := by kernel_rfl
    simp [e0] at g0
    simp [e1] at g1
    obtain ⟨a0, q0, y0e, w0⟩ := DataW.trod_string Try.underlying9 g0
    obtain rfl := one_cellW q0
    obtain ⟨v, rfl, rfl, rfl, rfl, rfl, h1, h2, h3⟩ := trod_valW g1
    refine ⟨⟨a0, v⟩, rfl, rfl, rfl, rfl, rfl, rfl, h1, h2, fun hf => ?_⟩
    rw [hx] at hf
    have f0 := fit_field Try.underlying55 hf (i := 0) (y := y0) rfl rfl
    have f1 := fit_field Try.underlying55 hf (i := 1) (y := y1) rfl rfl
    rw [y0e] at f0
    exact ⟨fit_str f0, h3 f1⟩
theorem trod_propsW {fuel : Nat} {x : DataW H × List MemPlace} (h : DataW.trod enc Try.prog w base (fun _ => true) held fuel 40 [v] = some x) : ∃ (A : Option Addr) (l : List Pr) (c : Nat), v = .slice A l.length c ∧ PRow w A l ∧ (∀ q ∈ l, In64 q.v.n ∧ q.v.f < 2 * S) ∧ (FitW 40 x.1 → l.length ≤ 140737488351232 ∧ ∀ q ∈ l, q.k.size ≤ 140737488351232 ∧ q.v.t.size ≤ 140737488351232) := by
  have ce : Try.prog.cellsOf 55 = 6 := by kernel_rfl
  have be : 1 ≤ Try.prog.bytesOf 55 := of_decide_eq_true (by kernel_rfl)
  rcases Deep.open_slice Try.underlying40 h with ⟨hcs, hx⟩ | ⟨ad, len, cap, m, n, D, Pl, hcs, _, hl, hm, hmm, hxx, hx⟩
  · injection hcs with hcs
    exact ⟨none, [], 0, hcs, fun i hi => absurd hi (by simp), (fun q hq => by cases hq), fun _ => ⟨by simp, fun s hs => by cases hs⟩⟩
  · injection hcs with hcs
    simp only [if_true] at hmm
    subst hmm
    have each : ∀ k, k < len → ∃ q : Pr, PAt w (ad.add (k * 6)) q ∧ In64 q.v.n ∧ q.v.f < 2 * S ∧ (FitW 55 (D k) → q.k.size ≤ 140737488351232 ∧ q.v.t.size ≤ 140737488351232) := by
      intro k hk
      obtain ⟨cs', h1, h2⟩ := hx k (by omega)
      rw [ce] at h1
      obtain ⟨_, hlen, hcell⟩ := World.cells?_some h1
      match cs', hlen with
      | [v0, v1, v2, v3, v4, v5], _ =>
        obtain ⟨q, rfl, rfl, rfl, rfl, rfl, rfl, q1, q2, q3⟩ := trod_propW h2
        have c0 := hcell 0 (by omega)
        have c1 := hcell 1 (by omega)
        have c2 := hcell 2 (by omega)
        have c3 := hcell 3 (by omega)
        have c4 := hcell 4 (by omega)
        have c5 := hcell 5 (by omega)
        rw [Addr.add_zero'] at c0
        rw [addr_pos _ _ (by decide)] at c1 c2 c3 c4 c5
        exact ⟨q, ⟨by simpa using c0, by simpa using c1, by simpa using c2, by simpa using c3, by simpa using c4, by simpa using c5⟩, q1, q2, q3⟩
    obtain ⟨f, hf⟩ := Deep.choose_lt each
    refine ⟨some ad, (List.range len).map f, m, by rw [hcs]; simp, fun i hi => ⟨ad, _, rfl, rfl, ?_⟩, fun q hq => ?_, fun hft => ?_⟩
    · have hi2 : i < len := by simpa using hi
      simpa using (hf i hi2).1
    · obtain ⟨k, hk, rfl⟩ := List.mem_map.1 hq
      have := hf k (by simpa using hk)
      exact ⟨this.2.1, this.2.2.1⟩
    · rw [hxx] at hft
      have hq := fit_elem Try.underlying40 hft
      simp only [reachBytes] at hq
      have hle := Nat.le_trans (Nat.le_mul_of_pos_right len be) hq.1
      refine ⟨by simp; omega, fun s hs => ?_⟩
      obtain ⟨k, hk, rfl⟩ := List.mem_map.1 hs
      have hk2 : k < len := by simpa using hk
      exact (hf k hk2).2.2.2 (hq.2 k hk2)
theorem trod_nodeW {fuel : Nat} {c0 c1 : Value} {x : DataW H × List MemPlace} (h : DataW.trod enc Try.prog w base (fun _ => true) held fuel 42 [c0, c1] = some x) : ∃ (n : Nd) (s : Ns), c0 = .slice s.la n.ls.length s.lc ∧ c1 = .slice s.pa n.ps.length s.pc ∧ NdAt w n s ∧ NdIn n ∧ (FitW 42 x.1 → n.ls.length ≤ 140737488351232 ∧ n.ps.length ≤ 140737488351232 ∧ (∀ y, y ∈ n.ls → y.size ≤ 140737488351232) ∧ ∀ q, q ∈ n.ps → q.k.size ≤ 140737488351232 ∧ q.v.t.size ≤ 140737488351232) := by
  obtain ⟨xs, n, _, hx, _, hlen, hg⟩ := DataW.trod_struct Try.underlying42 h
  match xs, hlen, hx, hg with
  | [y0, y1], _, hx, hg =>
    have g0 := hg 0 _ rfl
    have g1 := hg 1 _ rfl
    have e0 : Try.prog.cellsOf 39 = 1 := by kernel_rfl
    have e1 : Try.prog.cellsOf 40 = 1 := by kernel_rfl
    simp [e0] at g0
    simp [e1] at g1
    obtain ⟨A, ls, c, rfl, r1, f1⟩ := trod_strsW g0
    obtain ⟨B, ps, c2, rfl, r2, i2, f2⟩ := trod_propsW g1
    refine ⟨⟨ls, ps⟩, ⟨A, c, B, c2⟩, rfl, rfl, ⟨r1, r2⟩, i2, fun hf => ?_⟩
    rw [hx] at hf
    have q1 := f1 (fit_field Try.underlying42 hf (i := 0) (y := y0) rfl rfl)
    have q2 := f2 (fit_field Try.underlying42 hf (i := 1) (y := y1) rfl rfl)
    exact ⟨q1.1, q2.1, q1.2, q2.2⟩
theorem trod_edgeW {spare : Nat → Bool} {fuel : Nat} {c0 c1 c2 c3 : Value} {x : DataW H × List MemPlace} (h : DataW.trod enc Try.prog w base spare held fuel 45 [c0, c1, c2, c3] = some x) : ∃ g : Eg, c0 = .int .i64 g.a ∧ c1 = .int .i64 g.b ∧ c2 = .string g.t ∧ c3 = .float .f64 g.w ∧ In64 g.a ∧ In64 g.b ∧ g.w < 2 * S ∧ (FitW 45 x.1 → g.t.size ≤ 140737488351232) := by
  obtain ⟨xs, n, _, hx, _, hlen, hg⟩ := DataW.trod_struct Try.underlying45 h
  match xs, hlen, hx, hg with
  | [y0, y1, y2, y3], _, hx, hg =>
    have g0 := hg 0 _ rfl
    have g1 := hg 1 _ rfl
    have g2 := hg 2 _ rfl
    have g3 := hg 3 _ rfl
    have e0 : Try.prog.cellsOf 3 = 1 := by kernel_rfl
    have e2 : Try.prog.cellsOf 43 = 1 := by kernel_rfl
    have e3 : Try.prog.cellsOf 9 = 1 := by kernel_rfl
    simp [e0] at g0
    simp [e0] at g1
    simp [e3] at g2
    simp [e2] at g3
    obtain ⟨a0, q0, _, w0⟩ := DataW.trod_int Try.underlying3 g0
    obtain ⟨a1, q1, _, w1⟩ := DataW.trod_int Try.underlying3 g1
    obtain ⟨a2, q2, y2e, w2⟩ := DataW.trod_string Try.underlying9 g2
    obtain ⟨a3, q3, _, w3⟩ := trod_floatW Try.underlying43 g3
    obtain rfl := one_cellW q0
    obtain rfl := one_cellW q1
    obtain rfl := one_cellW q2
    obtain rfl := one_cellW q3
    refine ⟨⟨a0, a1, a2, a3⟩, rfl, rfl, rfl, rfl, wf_in w0, wf_in w1, ?_, fun hf => ?_⟩
    · have : a3 < 2 ^ 64 := by simpa [Lit.wf] using w3
      show a3 < 2 * S
      unfold S; omega
    · rw [hx] at hf
      have := fit_field Try.underlying45 hf (i := 2) (y := y2) rfl rfl
      rw [y2e] at this
      exact fit_str this
theorem trod_writeW {fuel : Nat} {c0 c1 c2 c3 c4 c5 c6 c7 c8 : Value} {x : DataW H × List MemPlace} (h : DataW.trod enc Try.prog w base (fun _ => true) held fuel 47 [c0, c1, c2, c3, c4, c5, c6, c7, c8] = some x) : ∃ (y : Wr) (s : Ns), c0 = .bool y.e ∧ c1 = .int .i64 y.id ∧ c2 = .bool y.gone ∧ c3 = .slice s.la y.n.ls.length s.lc ∧ c4 = .slice s.pa y.n.ps.length s.pc ∧ c5 = .int .i64 y.g.a ∧ c6 = .int .i64 y.g.b ∧ c7 = .string y.g.t ∧ c8 = .float .f64 y.g.w ∧ NdAt w y.n s ∧ WrIn y ∧ (FitW 47 x.1 → WSz 140737488351232 y) := by
  obtain ⟨xs, n, _, hx, _, hlen, hg⟩ := DataW.trod_struct Try.underlying47 h
  match xs, hlen, hx, hg with
  | [y0, y1, y2, y3, y4], _, hx, hg =>
    have g0 := hg 0 _ rfl
    have g1 := hg 1 _ rfl
    have g2 := hg 2 _ rfl
    have g3 := hg 3 _ rfl
    have g4 := hg 4 _ rfl
    have e0 : Try.prog.cellsOf 3 = 1 := by kernel_rfl
    have e1 : Try.prog.cellsOf 4 = 1 := by kernel_rfl
    have e2 : Try.prog.cellsOf 42 = 2 := by kernel_rfl
    have e3 : Try.prog.cellsOf 45 = 4 := by kernel_rfl
    simp [e1] at g0
    simp [e0] at g1
    simp [e1] at g2
    simp [e2] at g3
    simp [e3] at g4
    obtain ⟨a0, q0, _⟩ := DataW.trod_bool Try.underlying4 g0
    obtain ⟨a1, q1, _, w1⟩ := DataW.trod_int Try.underlying3 g1
    obtain ⟨a2, q2, _⟩ := DataW.trod_bool Try.underlying4 g2
    obtain rfl := one_cellW q0
    obtain rfl := one_cellW q1
    obtain rfl := one_cellW q2
    obtain ⟨nd, s, rfl, rfl, h1, h2, h3⟩ := trod_nodeW g3
    obtain ⟨g, rfl, rfl, rfl, rfl, k1, k2, k3, k4⟩ := trod_edgeW g4
    refine ⟨⟨a0, a1, a2, nd, g⟩, s, rfl, rfl, rfl, rfl, rfl, rfl, rfl, rfl, rfl, h1, ⟨h2, wf_in w1, k1, k2, k3⟩, fun hf => ?_⟩
    rw [hx] at hf
    obtain ⟨z1, z2, z3, z4⟩ := h3 (fit_field Try.underlying47 hf (i := 3) (y := y3) rfl rfl)
    exact ⟨k4 (fit_field Try.underlying47 hf (i := 4) (y := y4) rfl rfl), z1, z2, z3, z4⟩
theorem open_writes (hv : Value.okWide Try.prog w r b0 22 v) (h : DataW.Trod enc Try.prog w base (fun _ => true) held 22 v d p) : ∃ s : Sl (Wr × Ns), v = slv s ∧ SlW w s ∧ (FitW 22 d → SzW s.l) ∧ True := by
  obtain ⟨a0, len0, cap0, rfl⟩ := okWide_slice Try.underlying22 hv
  obtain ⟨fuel, hf⟩ := h
  have ce : Try.prog.cellsOf 47 = 9 := by kernel_rfl
  have be : 1 ≤ Try.prog.bytesOf 47 := of_decide_eq_true (by kernel_rfl)
  rcases Deep.open_slice Try.underlying22 hf with ⟨hcs, _⟩ | ⟨ad, len, cap, m, n, D, Pl, hcs, _, hl, hm, hmm, hxx, hx⟩
  · simp [Value.cells] at hcs
    obtain ⟨rfl, rfl, rfl⟩ := hcs
    exact ⟨⟨none, [], 0⟩, rfl, ⟨fun i hi => absurd hi (by simp), (fun x hx => by cases hx)⟩, fun _ => ⟨by simp, (fun x hx => by cases hx)⟩, trivial⟩
  · simp [Value.cells] at hcs
    obtain ⟨rfl, rfl, rfl⟩ := hcs
    simp only [if_true] at hmm
    subst hmm
    injection hxx with hxx _
    have each : ∀ k, k < len0 → ∃ x : Wr × Ns, (WAt w (ad.add (k * 9)) x.1 x.2 ∧ NdAt w x.1.n x.2) ∧ WrIn x.1 ∧ (FitW 47 (D k) → WSz 140737488351232 x.1) := by
      intro k hk
      obtain ⟨cs', h1, h2⟩ := hx k (by omega)
      rw [ce] at h1
      obtain ⟨_, hlen, hcell⟩ := World.cells?_some h1
      match cs', hlen with
      | [v0, v1, v2, v3, v4, v5, v6, v7, v8], _ =>
        obtain ⟨y, s, rfl, rfl, rfl, rfl, rfl, rfl, rfl, rfl, rfl, q1, q2, q3⟩ := trod_writeW h2
        have c0 := hcell 0 (by omega)
        have c1 := hcell 1 (by omega)
        have c2 := hcell 2 (by omega)
        have c3 := hcell 3 (by omega)
        have c4 := hcell 4 (by omega)
        have c5 := hcell 5 (by omega)
        have c6 := hcell 6 (by omega)
        have c7 := hcell 7 (by omega)
        have c8 := hcell 8 (by omega)
        rw [Addr.add_zero'] at c0
        rw [addr_pos _ _ (by decide)] at c1 c2 c3 c4 c5 c6 c7 c8
        exact ⟨(y, s), ⟨⟨by simpa using c0, by simpa using c1, by simpa using c2, by simpa using c3, by simpa using c4, by simpa using c5, by simpa using c6, by simpa using c7, by simpa using c8⟩, q1⟩, q2, q3⟩
    obtain ⟨f, hf⟩ := Deep.choose_lt each
    refine ⟨⟨some ad, (List.range len0).map f, m⟩, by simp [slv], ⟨fun i hi => ⟨ad, _, rfl, rfl, ?_⟩, fun x hx => ?_⟩, fun hft => ?_, trivial⟩
    · have hi2 : i < len0 := by simpa using hi
      simpa using (hf i hi2).1
    · obtain ⟨k, hk, rfl⟩ := List.mem_map.1 hx
      exact (hf k (by simpa using hk)).2.1
    · rw [hxx] at hft
      have hq := fit_elem Try.underlying22 hft
      simp only [reachBytes] at hq
      have hle := Nat.le_trans (Nat.le_mul_of_pos_right len0 be) hq.1
      refine ⟨by simp; omega, fun s hs => ?_⟩
      obtain ⟨k, hk, rfl⟩ := List.mem_map.1 hs
      have hk2 : k < len0 := by simpa using hk
      exact (hf k hk2).2.2 (hq.2 k hk2)
end
end Go.Proofs.Ytcpgpdkdopcicaa
