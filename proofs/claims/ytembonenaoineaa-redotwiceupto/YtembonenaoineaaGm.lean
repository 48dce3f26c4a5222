/- Rows of slices that a law builds beside Drum and Log. Conditions: as each fact names them. -/
import Derived.Test.YtembonenaoineaaGk
namespace Go.Proofs.Ytembonenaoineaa
set_option maxRecDepth 100000
set_option linter.unusedVariables false
open Go.ChangeShapes Go.WideShapes Go.ChangeAt Go.RowKit

/-- The row of what is wanted, apart from Drum and Log. -/
def Wt (w wr : World) (F : Nat → Prop) (c : Nat) (v : Value) (want : List (List UInt8)) : Prop :=
  Rs (fun k => k < w.heap.size) w.heap.size wr v want ∧ ∀ k, v.ownBlock = some k → ¬ F k ∧ k ≠ c
theorem Wt.puts {w wr w' : World} {F : Nat → Prop} {c : Nat} {v : Value} {want : List (List UInt8)} (h : Wt w wr F c v want) (hF : ∀ k, F k → w.heap.size ≤ k) (hc : w.heap.size ≤ c) (hch : Chg (fun k => F k ∨ k = c) wr w') : Wt w w' (Nu F wr w') c v want := by
  refine ⟨h.1.chg hch (fun k hk e => ?_) (fun k hk e => ?_), fun k hk => ⟨fun e => ?_, (h.2 k hk).2⟩⟩
  · rcases e with e | e
    · exact (h.2 k hk).1 e
    · exact (h.2 k hk).2 e
  · rcases e with e | e
    · have := hF k e; omega
    · omega
  · rcases e with e | e
    · exact (h.2 k hk).1 e
    · have := (h.1.lt hk).2; omega
theorem Wt.of {w wr : World} {F : Nat → Prop} {c B : Nat} {v : Value} {want : List (List UInt8)} (h : Rs (fun k => k < w.heap.size) B wr v want) (hB : w.heap.size ≤ B) (hF : ∀ k, F k → k < B) (hc : c < B) : Wt w wr F c v want :=
  ⟨h.mono hB (fun _ h => h), fun k hk => ⟨fun e => by have := (h.lt hk).1; have := hF k e; omega, fun e => by have := (h.lt hk).1; omega⟩⟩
theorem arg_in {w wr : World} {A : Option Addr} {p : List UInt8} {c : Nat} (h : BS w A p c) : ∀ bd, A = some bd → p = [] ∨ bd.block < w.heap.size := fun bd e => by
  by_cases hp : p = []
  · exact .inl hp
  · obtain ⟨ad', e', hc⟩ := h.cells 0 (List.length_pos_iff.2 hp)
    rw [e] at e'
    injection e' with e'
    subst e'
    have := World.block_lt_of_cell? w _ hc
    rw [add_block] at this
    exact .inr this
/-- The slices of a row of our own lie where L says. -/
theorem rs_in {L : Nat → Prop} {B : Nat} {w : World} {A : Option Addr} {es : List (List UInt8)} {n c : Nat} (h : Rs L B w (.slice A n c) es) : ∀ i (hi : i < es.length) Ai ci ad, A.map (·.add i) = some ad → w.cell? ad = some (.slice Ai es[i].length ci) → ∀ bd, Ai = some bd → es[i] = [] ∨ L bd.block := by
  intro i hi Ai ci ad e hc bd eb
  obtain ⟨rs, h1, h2, h3⟩ := h
  obtain ⟨A', c', e1, hb, hA⟩ := h3 i hi
  rcases h2.2 with ⟨h0, hz⟩ | ⟨g, cap, cur, hv, _⟩
  · omega
  · injection hv with hv _ _
    subst hv
    have hcell := World.ownsRow.cells h2 (g := g) rfl i _ (by rw [List.getElem?_map, e1]; rfl)
    simp only [Option.map_some] at e
    injection e with e
    rw [e] at hcell
    rw [hcell] at hc
    injection hc with hc
    injection hc with hc _ _
    subst hc
    rcases hA bd eb with h | h
    · exact .inl h
    · exact .inr h.1
/-- What the law that appends asks of the source: a row of our own, or one slice just laid. -/
theorem hl_want {w w4 W : World} {Aw : Option Addr} {want : List (List UInt8)} (hri : ∀ i (hi : i < want.length) Ai ci ad, Aw.map (·.add i) = some ad → w4.cell? ad = some (.slice Ai want[i].length ci) → ∀ bd, Ai = some bd → want[i] = [] ∨ bd.block < w.heap.size)
    (hes : Es w4 Aw want) (hb : Below w4.heap.size w4 W) (v : Value) (hv : ∀ k, v.ownBlock = some k → w.heap.size ≤ k) :
    ∀ i (hi : i < want.length) Ai ci ad, Aw.map (·.add i) = some ad → W.cell? ad = some (.slice Ai want[i].length ci) → ∀ bd, Ai = some bd → want[i] = [] ∨ (bd.block < w.heap.size ∧ v.ownBlock ≠ some bd.block) := by
  intro i hi Ai ci ad e hc bd eb
  obtain ⟨ad', Ai', ci', ea, hc', _⟩ := hes i hi
  subst ea
  simp only [Option.map_some] at e
  injection e with e
  subst e
  rw [hb.cell (World.block_lt_of_cell? w4 _ hc')] at hc
  rcases hri i hi Ai ci _ rfl hc bd eb with h | h
  · exact .inl h
  · exact .inr ⟨h, fun e => by have := hv _ e; omega⟩
theorem hl_one {w W : World} {o : Nat} {Ai : Option Addr} {p : List UInt8} {ci : Nat} (hcell : W.cell? ⟨o, 0, none⟩ = some (.slice Ai p.length ci)) (hin : ∀ bd, Ai = some bd → p = [] ∨ bd.block < w.heap.size) (v : Value) (hv : ∀ k, v.ownBlock = some k → w.heap.size ≤ k) :
    ∀ i (hi : i < [p].length) A' c' ad, (some (⟨o, 0, none⟩ : Addr)).map (·.add i) = some ad → W.cell? ad = some (.slice A' [p][i].length c') → ∀ bd, A' = some bd → [p][i] = [] ∨ (bd.block < w.heap.size ∧ v.ownBlock ≠ some bd.block) := by
  intro i hi A' c' ad e hc bd eb
  obtain rfl : i = 0 := by simpa using hi
  simp only [Option.map_some] at e
  injection e with e
  rw [Addr.add_lit] at e
  rw [← e, show (0 + 0) = 0 from rfl, hcell] at hc
  injection hc with hc
  injection hc with hc _ _
  rcases hin bd (hc.trans eb) with h | h
  · exact .inl h
  · exact .inr ⟨h, fun e => by have := hv _ e; omega⟩
theorem es_one {W : World} {o : Nat} {Ai : Option Addr} {p : List UInt8} {ci : Nat} (hcell : W.cell? ⟨o, 0, none⟩ = some (.slice Ai p.length ci)) (hb : BS W Ai p ci) : Es W (some ⟨o, 0, none⟩) [p] := fun i hi => by
  obtain rfl : i = 0 := by simpa using hi
  exact ⟨_, Ai, ci, rfl, by rw [Addr.add_lit]; exact hcell, hb⟩
theorem rs_ge {L : Nat → Prop} {B : Nat} {w W : World} {v : Value} {es : List (List UInt8)} (h : Rs L B W v es) (hB : w.heap.size ≤ B) : ∀ k, v.ownBlock = some k → w.heap.size ≤ k := fun k hk => Nat.le_trans hB (h.lt hk).1
theorem cell_new1 (W : World) (x : Value) (t : TypeId) : (W.alloc (.cells #[x] t)).cell? ⟨W.heap.size, 0, none⟩ = some x := by rw [cell_of_row _ _ 0 _ _ _ (heap_alloc_new W _)]; rfl
theorem own_set {B : Nat} {w : World} {g n c : Nat} {l : List UInt8} (h : Own B w (.slice (some ⟨g, 0, none⟩) n c) l) (hn : l.length = n) (j : Nat) (b : UInt8) :
    Own B (w.setCell ⟨g, j, none⟩ (.int .u8 (b.toNat : Nat))) (.slice (some ⟨g, 0, none⟩) n c) (l.set j b) := by
  unfold Own at h ⊢
  rw [List.length_set]
  subst hn
  have := (World.ownsRow.stored h j (.int .u8 (b.toNat : Nat))).1
  have e : bcs (l.set j b) = (bcs l).set j (.int .u8 (b.toNat : Nat)) := by simp [bcs, List.map_set]
  rw [e]
  exact this
theorem sys_chg {w wr w' : World} {F G : Nat → Prop} {a c : Nat} {s : DS} {L : LG} (h : Sys w wr F a c s L) (hc : Chg G wr w') (hG : ∀ k, F k → ¬ G k) (hcG : ¬ G c) (hw : ∀ k, G k → w.heap.size ≤ k) : Sys w w' F a c s L :=
  ⟨h.pd.chg hc hG, h.lm.chg hc hcG, h.cF, h.fF, h.fc, Chg.of_below h.bl hc hw⟩
theorem u8_of_int {x : Int} (h0 : 0 ≤ x) (h1 : x ≤ 255) : ∃ b : UInt8, x = (b.toNat : Nat) := ⟨x.toNat.toUInt8, by rw [u8_of (by omega)]; omega⟩
theorem made_bytes (n : Nat) : (madeCells #[Value.int .u8 0] n).toList = bcs (List.replicate n 0) := by
  rw [toList_madeCells_one]; simp [bcs]
theorem own_chg {B : Nat} {w w' : World} {v : Value} {l : List UInt8} {G : Nat → Prop} (h : Own B w v l) (hc : Chg G w w') (hv : ∀ k, v.ownBlock = some k → ¬ G k) : Own B w' v l :=
  own_sameB h (fun k hk => hc.block k (World.ownsRow.lt h k hk).2 (hv k hk))
theorem own_frozen {B : Nat} {w : World} {g n c : Nat} {l : List UInt8} (h : Own B w (.slice (some ⟨g, 0, none⟩) n c) l) (hn : l.length = n) (j : Nat) : w.frozen? ⟨g, j, none⟩ = false := by
  subst hn
  exact World.ownsRow.frozenAt h j
/-- What the law that appends asks of a row that came in. -/
theorem hl_arg {w W : World} {A : Option Addr} {l : List (List UInt8)} (h : Es w A l) (hb : Below w.heap.size w W) (v : Value) (hv : ∀ k, v.ownBlock = some k → w.heap.size ≤ k) :
    ∀ i (hi : i < l.length) Ai ci ad, A.map (·.add i) = some ad → W.cell? ad = some (.slice Ai l[i].length ci) → ∀ bd, Ai = some bd → l[i] = [] ∨ (bd.block < w.heap.size ∧ v.ownBlock ≠ some bd.block) := by
  intro i hi Ai ci ad e hc bd eb
  obtain ⟨ad', Ai', ci', ea, hc', hbs⟩ := h i hi
  subst ea
  simp only [Option.map_some] at e
  injection e with e
  subst e
  rw [hb.cell (World.block_lt_of_cell? w _ hc'), hc'] at hc
  injection hc with hc
  injection hc with hc _ _
  subst hc
  rcases arg_in (wr := w) hbs bd eb with h | h
  · exact .inl h
  · exact .inr ⟨h, fun e => by have := hv _ e; omega⟩
theorem in_arg {w : World} {P : Option Addr} {p : List UInt8} {cp : Nat} (h : BS w P p cp) (v : Value) (hv : ∀ k, v.ownBlock = some k → w.heap.size ≤ k) : ∀ bd, P = some bd → p = [] ∨ (bd.block < w.heap.size ∧ v.ownBlock ≠ some bd.block) := fun bd e => by
  rcases arg_in (wr := w) h bd e with h | h
  · exact .inl h
  · exact .inr ⟨h, fun e => by have := hv _ e; omega⟩
end Go.Proofs.Ytembonenaoineaa
