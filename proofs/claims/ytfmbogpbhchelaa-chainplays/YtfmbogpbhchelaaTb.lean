/- Rings of links without memory (Fo, Gh, Inv): new ends, an insert behind the ends, a removal, an empty ring's ends struck; what a walk meets. No condition but those that each fact names. -/
import Derived.Test.YtfmbogpbhchelaaSa
namespace Go.Proofs.Ytfmbogpbhchelaa
set_option maxRecDepth 100000
set_option linter.unusedVariables false
/-- f, but n at q. -/
def up {α β : Type} [DecidableEq α] (f : α → β) (q : α) (n : β) : α → β := fun k => if k = q then n else f k
section
variable {α β : Type} [DecidableEq α] {f : α → β} {q k : α} {n : β}
theorem up_same : up f q n q = n := by unfold up; rw [if_pos rfl]
theorem up_ne (h : k ≠ q) : up f q n k = f k := by unfold up; rw [if_neg h]
end
/-- From a, f leads through L to c. -/
def Fo (f : Nat → Nat) : Nat → List Nat → Nat → Prop
  | a, [], c => f a = c
  | a, b :: L, c => f a = b ∧ Fo f b L c
section
variable {f g : Nat → Nat}
theorem Fo.congr : ∀ {L : List Nat} {a c : Nat}, (∀ b, b ∈ a :: L → g b = f b) → Fo f a L c → Fo g a L c
  | [], a, c, h, hf => (h a (by simp)).trans hf
  | b :: L, a, c, h, hf => ⟨(h a (by simp)).trans hf.1, Fo.congr (fun k hk => h k (by simp [List.mem_cons.1 hk])) hf.2⟩
theorem Fo.first {a a' c : Nat} {L : List Nat} (h1 : g a' = f a) (h2 : ∀ b, b ∈ L → g b = f b) (hf : Fo f a L c) : Fo g a' L c := by
  cases L with
  | nil => exact h1.trans hf
  | cons b L => exact ⟨h1.trans hf.1, hf.2.congr h2⟩
theorem Fo.app {L2 : List Nat} {b c : Nat} : ∀ {L1 : List Nat} {a : Nat}, Fo f a (L1 ++ b :: L2) c ↔ Fo f a L1 b ∧ Fo f b L2 c
  | [], a => Iff.rfl
  | d :: L1, a => by
    have ih := Fo.app (L2 := L2) (b := b) (c := c) (L1 := L1) (a := d)
    constructor
    · rintro ⟨h1, h2⟩
      exact ⟨⟨h1, (ih.1 h2).1⟩, (ih.1 h2).2⟩
    · rintro ⟨⟨h1, h2⟩, h3⟩
      exact ⟨h1, ih.2 ⟨h2, h3⟩⟩
theorem Fo.mem : ∀ {L : List Nat} {a c b : Nat}, Fo f a L c → b ∈ a :: L → f b = c ∨ f b ∈ L
  | [], a, c, b, h, hb => by
    rw [List.mem_singleton] at hb
    subst hb
    exact .inl h
  | d :: L, a, c, b, h, hb => by
    rcases List.mem_cons.1 hb with rfl | hb
    · exact .inr (by rw [h.1]; simp)
    · rcases h.2.mem hb with h1 | h1
      · exact .inl h1
      · exact .inr (by simp [h1])
theorem Fo.pre : ∀ {L : List Nat} {a c b : Nat}, Fo f a L c → b = c ∨ b ∈ L → ∃ p, p ∈ a :: L ∧ f p = b
  | [], a, c, b, h, hb => ⟨a, by simp, by rcases hb with rfl | hb; exact h; cases hb⟩
  | d :: L, a, c, b, h, hb => by
    by_cases e : b = d
    · exact ⟨a, by simp, by rw [e]; exact h.1⟩
    · obtain ⟨p, hp, h1⟩ := h.2.pre (b := b) (by
        rcases hb with hb | hb
        · exact .inl hb
        · rcases List.mem_cons.1 hb with hb | hb
          · exact absurd hb e
          · exact .inr hb)
      exact ⟨p, List.mem_cons_of_mem _ hp, h1⟩
theorem Fo.rev : ∀ {L : List Nat} {a c : Nat}, Fo f a L c → (∀ b, b ∈ a :: L → g (f b) = b) → Fo g c L.reverse a
  | [], a, c, h, hg => by
    have h : f a = c := h
    have := hg a (by simp)
    rw [h] at this
    exact this
  | d :: L, a, c, h, hg => by
    have h1 := h.2.rev (fun b hb => hg b (List.mem_cons_of_mem _ hb))
    have h2 := hg a (by simp)
    rw [h.1] at h2
    rw [List.reverse_cons]
    exact Fo.app.2 ⟨h1, h2⟩
theorem Fo.turn {q n : Nat} : ∀ {L : List Nat} {a b : Nat}, Fo f a L b → q ∈ a :: L → f q = b → b ∉ L → Fo (up f q n) a L n
  | [], a, b, h, hq, hb, _ => by
    rw [List.mem_singleton] at hq
    subst hq
    exact up_same
  | d :: L, a, b, h, hq, hb, hn => by
    have hne : a ≠ q := fun e => by
      subst e
      exact hn (by rw [← hb, h.1]; simp)
    refine ⟨(up_ne hne).trans h.1, h.2.turn ?_ hb (fun h => hn (by simp [h]))⟩
    rcases List.mem_cons.1 hq with e | hq
    · exact absurd e.symm hne
    · exact hq
theorem Fo.cut {e b p : Nat} {B1 B2 : List Nat} (h : Fo f e (B1 ++ b :: B2) e) (hn : (e :: (B1 ++ b :: B2)).Nodup) (hp : f p = b) (hpm : p ∈ e :: B1) : Fo (up f p (f b)) e (B1 ++ B2) e := by
  obtain ⟨h1, h2⟩ := Fo.app.1 h
  rw [List.nodup_cons, List.nodup_append] at hn
  obtain ⟨n1, n2, n3, n4⟩ := hn
  have hb1 : b ∉ B1 := fun hb => n4 b hb b (by simp) rfl
  have t := h1.turn (n := f b) hpm hp hb1
  cases B2 with
  | nil =>
    rw [List.append_nil]
    have h2 : f b = e := h2
    rw [h2] at t ⊢
    exact t
  | cons c B3 =>
    refine Fo.app.2 ⟨by rw [← h2.1]; exact t, h2.2.congr (fun k hk => up_ne (fun e1 => ?_))⟩
    subst e1
    rcases List.mem_cons.1 hpm with e2 | hpm
    · exact n1 (by rw [← e2]; simp [List.mem_cons.1 hk])
    · exact n4 k hpm k (by simp [List.mem_cons.1 hk]) rfl
end
/-- What the links say: the next, the one before, the id; an item's link, a list's ends. -/
structure Gh where
  nx : Nat → Nat
  pv : Nat → Nat
  idf : Nat → Int
  blk : It → Nat
  en : Int → Nat
/-- The links of a list's items. -/
def rb (g : Gh) (I : List It) (l : Int) : List Nat := (I.filter (fun x => decide (x.l = l))).map g.blk
/-- b is the link of an item, or the ends of a list. -/
def Bl (g : Gh) (KE : List Int) (I : List It) (b : Nat) : Prop := (∃ x, x ∈ I ∧ b = g.blk x) ∨ ∃ l, l ∈ KE ∧ b = g.en l
structure Inv (g : Gh) (KM : List It) (KE : List Int) (I : List It) : Prop where
  nd : I.Nodup
  km : ∀ x, x ∈ KM ↔ x ∈ I
  kn : KM.Nodup
  len : KM.length = I.length
  ke : KE.Nodup
  sub : ∀ x, x ∈ I → x.l ∈ KE
  ring : ∀ l, l ∈ KE → Fo g.nx (g.en l) (rb g I l) (g.en l)
  bi : ∀ x y, x ∈ I → y ∈ I → g.blk x = g.blk y → x = y
  ei : ∀ l m, l ∈ KE → m ∈ KE → g.en l = g.en m → l = m
  be : ∀ x l, x ∈ I → l ∈ KE → g.blk x ≠ g.en l
  inv : ∀ b, Bl g KE I b → g.pv (g.nx b) = b
  ids : ∀ x, x ∈ I → g.idf (g.blk x) = x.i
theorem rb_mem {g : Gh} {I : List It} {l : Int} {b : Nat} : b ∈ rb g I l ↔ ∃ x, x ∈ I ∧ x.l = l ∧ b = g.blk x := by
  unfold rb
  simp only [List.mem_map, List.mem_filter, decide_eq_true_eq]
  constructor
  · rintro ⟨x, ⟨h1, h2⟩, h3⟩; exact ⟨x, h1, h2, h3.symm⟩
  · rintro ⟨x, h1, h2, h3⟩; exact ⟨x, ⟨h1, h2⟩, h3.symm⟩
section
variable {g : Gh} {KM : List It} {KE : List Int} {I : List It} {l : Int} {x : It} {b : Nat}
theorem Inv.rbl (h : Inv g KM KE I) (hl : l ∈ KE) (hb : b ∈ g.en l :: rb g I l) : Bl g KE I b := by
  rcases List.mem_cons.1 hb with e | hb
  · exact .inr ⟨l, hl, e⟩
  · obtain ⟨x, h1, _, h2⟩ := rb_mem.1 hb
    exact .inl ⟨x, h1, h2⟩
theorem Inv.at (h : Inv g KM KE I) (hb : Bl g KE I b) : ∃ l, l ∈ KE ∧ b ∈ g.en l :: rb g I l := by
  rcases hb with ⟨x, h1, rfl⟩ | ⟨l, h1, rfl⟩
  · exact ⟨x.l, h.sub x h1, List.mem_cons_of_mem _ (rb_mem.2 ⟨x, h1, rfl, rfl⟩)⟩
  · exact ⟨l, h1, by simp⟩
theorem Inv.nx_bl (h : Inv g KM KE I) (hb : Bl g KE I b) : Bl g KE I (g.nx b) := by
  obtain ⟨l, hl, hm⟩ := h.at hb
  rcases (h.ring l hl).mem hm with e | e
  · exact .inr ⟨l, hl, e⟩
  · exact h.rbl hl (List.mem_cons_of_mem _ e)
theorem Inv.pv_bl (h : Inv g KM KE I) (hb : Bl g KE I b) : Bl g KE I (g.pv b) ∧ g.nx (g.pv b) = b := by
  obtain ⟨l, hl, hm⟩ := h.at hb
  obtain ⟨p, hp, e⟩ := (h.ring l hl).pre (b := b) (by rcases List.mem_cons.1 hm with e | e; exact .inl e; exact .inr e)
  have hpb := h.rbl hl hp
  have e2 := h.inv p hpb
  rw [e] at e2
  rw [e2]
  exact ⟨hpb, e⟩
theorem Inv.nx_inj (h : Inv g KM KE I) {a b : Nat} (ha : Bl g KE I a) (hb : Bl g KE I b) (e : g.nx a = g.nx b) : a = b := by
  rw [← h.inv a ha, ← h.inv b hb, e]
theorem Inv.rnd (h : Inv g KM KE I) (hl : l ∈ KE) : (g.en l :: rb g I l).Nodup := by
  rw [List.nodup_cons]
  refine ⟨fun hm => ?_, ?_⟩
  · obtain ⟨x, h1, _, h2⟩ := rb_mem.1 hm
    exact h.be x l h1 hl h2.symm
  · unfold rb List.Nodup
    rw [List.pairwise_map]
    refine List.Pairwise.imp_of_mem ?_ (h.nd.filter (fun x => decide (x.l = l)))
    intro a b ha hb hne e
    exact hne (h.bi a b (List.mem_filter.1 ha).1 (List.mem_filter.1 hb).1 e)
/-- No list yet. -/
theorem inv_nil (g : Gh) : Inv g [] [] [] := ⟨List.nodup_nil, (fun x => Iff.rfl), List.nodup_nil, rfl, List.nodup_nil, (fun x h => (by cases h)), fun l h => (by cases h), fun x y h => (by cases h), fun l m h => (by cases h), fun x l h => (by cases h), fun b h => (by rcases h with ⟨x, h, _⟩ | ⟨x, h, _⟩ <;> cases h), fun x h => (by cases h)⟩
/-- New ends for a list. -/
def Gh.ends (g : Gh) (l : Int) (e : Nat) : Gh := { g with nx := up g.nx e e, pv := up g.pv e e, idf := up g.idf e 0, en := up g.en l e }
theorem Inv.ends (h : Inv g KM KE I) (hl : l ∉ KE) {e : Nat} (he : ¬ Bl g KE I e) : Inv (g.ends l e) KM (KE ++ [l]) I := by
  have en0 : ∀ m, m ∈ KE → (g.ends l e).en m = g.en m := fun m hm => up_ne (fun e1 => hl (e1 ▸ hm))
  have en1 : (g.ends l e).en l = e := up_same
  have nx0 : ∀ b, Bl g KE I b → (g.ends l e).nx b = g.nx b := fun b hb => up_ne (fun e1 => he (e1 ▸ hb))
  have pv0 : ∀ b, Bl g KE I b → (g.ends l e).pv b = g.pv b := fun b hb => up_ne (fun e1 => he (e1 ▸ hb))
  have mm : ∀ m, m ∈ KE ++ [l] → m ∈ KE ∨ m = l := fun m hm => by simpa using hm
  have xb : ∀ x, x ∈ I → Bl g KE I (g.blk x) := fun x hx => .inl ⟨x, hx, rfl⟩
  have lb : ∀ m, m ∈ KE → Bl g KE I (g.en m) := fun m hm => .inr ⟨m, hm, rfl⟩
  refine ⟨h.nd, h.km, h.kn, h.len, ?_, fun x hx => by simp [h.sub x hx], fun m hm => ?_, h.bi, fun a c ha hc e1 => ?_, fun x m hx hm => ?_, fun b hb => ?_, fun x hx => ?_⟩
  · rw [List.nodup_append]
    refine ⟨h.ke, by simp, fun a ha b hb e1 => hl ?_⟩
    rw [List.mem_singleton] at hb
    rw [← hb, ← e1]; exact ha
  · rcases mm m hm with hm | rfl
    · rw [en0 m hm]
      exact (h.ring m hm).congr (fun b hb => nx0 b (h.rbl hm hb))
    · rw [en1]
      have e0 : rb (g.ends m e) I m = [] := by
        rw [List.eq_nil_iff_forall_not_mem]
        intro b hb
        obtain ⟨x, h1, h2, _⟩ := rb_mem.1 hb
        exact hl (h2 ▸ h.sub x h1)
      rw [e0]
      exact up_same
  · rcases mm a ha with ha1 | e2
    · rcases mm c hc with hc1 | e3
      · rw [en0 a ha1, en0 c hc1] at e1; exact h.ei a c ha1 hc1 e1
      · rw [en0 a ha1, e3, en1] at e1; exact absurd (e1 ▸ lb a ha1) he
    · rcases mm c hc with hc1 | e3
      · rw [en0 c hc1, e2, en1] at e1; exact absurd (e1.symm ▸ lb c hc1) he
      · rw [e2, e3]
  · rcases mm m hm with hm | rfl
    · rw [en0 m hm]; exact h.be x m hx hm
    · rw [en1]; exact fun e1 => he (e1 ▸ xb x hx)
  · have hb' : Bl g KE I b ∨ b = e := by
      rcases hb with ⟨x, h1, h2⟩ | ⟨m, h1, h2⟩
      · exact .inl (.inl ⟨x, h1, h2⟩)
      · rcases mm m h1 with h1 | rfl
        · exact .inl (.inr ⟨m, h1, by rw [h2, en0 m h1]⟩)
        · exact .inr (by rw [h2, en1])
    rcases hb' with hb | rfl
    · rw [nx0 b hb, pv0 _ (h.nx_bl hb)]; exact h.inv b hb
    · show up g.pv b b (up g.nx b b b) = b
      rw [up_same, up_same]
  · show up g.idf e 0 (g.blk x) = x.i
    rw [up_ne (show g.blk x ≠ e from fun e1 => he (e1 ▸ xb x hx))]
    exact h.ids x hx
/-- An item's new link behind the ends of its list. -/
def Gh.ins (g : Gh) (x : It) (y : Nat) : Gh := { g with nx := up (up g.nx y (g.nx (g.en x.l))) (g.en x.l) y, pv := up (up g.pv y (g.en x.l)) (g.nx (g.en x.l)) y, idf := up g.idf y x.i, blk := up g.blk x y }
theorem Inv.ins (h : Inv g KM KE I) (hl : x.l ∈ KE) (hx : x ∉ I) {y : Nat} (hy : ¬ Bl g KE I y) : Inv (g.ins x y) (KM ++ [x]) KE (x :: I) := by
  have bk0 : ∀ z, z ∈ I → (g.ins x y).blk z = g.blk z := fun z hz => up_ne (fun e1 => hx (e1 ▸ hz))
  have bk1 : (g.ins x y).blk x = y := up_same
  have xb : ∀ z, z ∈ I → Bl g KE I (g.blk z) := fun z hz => .inl ⟨z, hz, rfl⟩
  have lb : ∀ m, m ∈ KE → Bl g KE I (g.en m) := fun m hm => .inr ⟨m, hm, rfl⟩
  have ny : ∀ {b : Nat}, Bl g KE I b → b ≠ y := fun {b} hb e1 => by rw [e1] at hb; exact hy hb
  have nx0 : ∀ b, Bl g KE I b → b ≠ g.en x.l → (g.ins x y).nx b = g.nx b := fun b hb h1 => (up_ne h1).trans (up_ne (ny hb))
  have nx1 : (g.ins x y).nx (g.en x.l) = y := up_same
  have nxy : (g.ins x y).nx y = g.nx (g.en x.l) := (up_ne (ny (lb _ hl)).symm).trans up_same
  have pv0 : ∀ b, Bl g KE I b → b ≠ g.nx (g.en x.l) → (g.ins x y).pv b = g.pv b := fun b hb h1 => (up_ne h1).trans (up_ne (ny hb))
  have pv1 : (g.ins x y).pv (g.nx (g.en x.l)) = y := up_same
  have pvy : (g.ins x y).pv y = g.en x.l := (up_ne (ny (h.nx_bl (lb _ hl))).symm).trans up_same
  have rb0 : ∀ m, (I.filter (fun z => decide (z.l = m))).map (g.ins x y).blk = rb g I m := fun m => List.map_congr_left (fun z hz => bk0 z (List.mem_filter.1 hz).1)
  refine ⟨List.nodup_cons.2 ⟨hx, h.nd⟩, fun z => ?_, ?_, by simp [h.len], h.ke, fun z hz => ?_, fun m hm => ?_, fun a c ha hc e1 => ?_, h.ei, fun z m hz hm => ?_, fun b hb => ?_, fun z hz => ?_⟩
  · rw [List.mem_append, List.mem_cons, h.km z]; simp [or_comm]
  · rw [List.nodup_append]
    refine ⟨h.kn, by simp, fun a ha b hb e1 => hx ?_⟩
    rw [List.mem_singleton] at hb
    rw [← hb, ← e1]; exact (h.km a).1 ha
  · rcases List.mem_cons.1 hz with rfl | hz
    · exact hl
    · exact h.sub z hz
  · show Fo (g.ins x y).nx (g.en m) (rb (g.ins x y) (x :: I) m) (g.en m)
    unfold rb
    rw [List.filter_cons]
    by_cases e : x.l = m
    · subst e
      rw [if_pos (by simp), List.map_cons, bk1, rb0]
      refine ⟨nx1, (h.ring x.l hl).first nxy (fun b hb => nx0 b (h.rbl hl (List.mem_cons_of_mem _ hb)) (fun e1 => ?_))⟩
      exact (List.nodup_cons.1 (h.rnd hl)).1 (e1 ▸ hb)
    · rw [if_neg (by simpa using e), rb0]
      refine (h.ring m hm).congr (fun b hb => nx0 b (h.rbl hm hb) (fun e1 => ?_))
      rcases List.mem_cons.1 hb with e2 | hb
      · exact e (h.ei _ _ hl hm (e1.symm.trans e2))
      · obtain ⟨z, h1, _, h2⟩ := rb_mem.1 hb
        exact h.be z x.l h1 hl (h2.symm.trans e1)
  · rcases List.mem_cons.1 ha with e2 | ha1
    · rcases List.mem_cons.1 hc with e3 | hc1
      · rw [e2, e3]
      · rw [e2, bk1, bk0 c hc1] at e1; exact absurd e1.symm (ny (xb c hc1))
    · rcases List.mem_cons.1 hc with e3 | hc1
      · rw [e3, bk1, bk0 a ha1] at e1; exact absurd e1 (ny (xb a ha1))
      · rw [bk0 a ha1, bk0 c hc1] at e1; exact h.bi a c ha1 hc1 e1
  · show (g.ins x y).blk z ≠ g.en m
    rcases List.mem_cons.1 hz with rfl | hz
    · rw [bk1]; exact (ny (lb m hm)).symm
    · rw [bk0 z hz]; exact h.be z m hz hm
  · have hb' : Bl g KE I b ∨ b = y := by
      rcases hb with ⟨z, h1, h2⟩ | ⟨m, h1, h2⟩
      · rcases List.mem_cons.1 h1 with rfl | h1
        · exact .inr (by rw [h2, bk1])
        · exact .inl (.inl ⟨z, h1, by rw [h2, bk0 z h1]⟩)
      · exact .inl (.inr ⟨m, h1, h2⟩)
    rcases hb' with hb | rfl
    · by_cases e : b = g.en x.l
      · subst e; rw [nx1, pvy]
      · rw [nx0 b hb e, pv0 _ (h.nx_bl hb) (fun e1 => e (h.nx_inj hb (lb _ hl) e1))]
        exact h.inv b hb
    · rw [nxy, pv1]
  · show up g.idf y x.i ((g.ins x y).blk z) = z.i
    rcases List.mem_cons.1 hz with rfl | hz
    · rw [bk1, up_same]
    · rw [bk0 z hz, up_ne (ny (xb z hz))]; exact h.ids z hz
/-- A link taken out. -/
def Gh.del (g : Gh) (b : Nat) : Gh := { g with nx := up g.nx (g.pv b) (g.nx b), pv := up g.pv (g.nx b) (g.pv b) }
theorem rb_split (hx : x ∈ I) : (∃ B1 B2, rb g I x.l = B1 ++ g.blk x :: B2 ∧ rb g (I.erase x) x.l = B1 ++ B2) ∧ ∀ m, x.l ≠ m → rb g (I.erase x) m = rb g I m := by
  obtain ⟨A, C, _, h1, h2⟩ := List.exists_erase_eq hx
  rw [h2]
  refine ⟨⟨(A.filter (fun y => decide (y.l = x.l))).map g.blk, (C.filter (fun y => decide (y.l = x.l))).map g.blk, ?_, ?_⟩, fun m hm => ?_⟩
  · rw [h1]; unfold rb; rw [List.filter_append, List.filter_cons, if_pos (by simp), List.map_append, List.map_cons]
  · unfold rb; rw [List.filter_append, List.map_append]
  · rw [h1]; unfold rb; rw [List.filter_append, List.filter_append, List.filter_cons, if_neg (by simpa using hm)]
theorem Inv.del (h : Inv g KM KE I) (hx : x ∈ I) : Inv (g.del (g.blk x)) (KM.erase x) KE (I.erase x) := by
  have hb : Bl g KE I (g.blk x) := .inl ⟨x, hx, rfl⟩
  obtain ⟨hp, hpn⟩ := h.pv_bl hb
  have sub : ∀ z, z ∈ I.erase x → z ∈ I := fun z hz => List.mem_of_mem_erase hz
  have nx0 : ∀ b, b ≠ g.pv (g.blk x) → (g.del (g.blk x)).nx b = g.nx b := fun b hb => up_ne hb
  have nx1 : (g.del (g.blk x)).nx (g.pv (g.blk x)) = g.nx (g.blk x) := up_same
  have pv0 : ∀ b, b ≠ g.nx (g.blk x) → (g.del (g.blk x)).pv b = g.pv b := fun b hb => up_ne hb
  have pv1 : (g.del (g.blk x)).pv (g.nx (g.blk x)) = g.pv (g.blk x) := up_same
  obtain ⟨⟨B1, B2, r1, r2⟩, r3⟩ := rb_split (g := g) hx
  refine ⟨h.nd.erase _, fun z => ?_, h.kn.erase _, ?_, h.ke, fun z hz => h.sub z (sub z hz), fun m hm => ?_, fun a c ha hc => h.bi a c (sub a ha) (sub c hc), h.ei, fun z m hz hm => h.be z m (sub z hz) hm, fun b hb1 => ?_, fun z hz => h.ids z (sub z hz)⟩
  · rw [h.kn.mem_erase_iff, h.nd.mem_erase_iff, h.km z]
  · rw [List.length_erase_of_mem hx, List.length_erase_of_mem ((h.km x).2 hx), h.len]
  · show Fo (g.del (g.blk x)).nx (g.en m) (rb g (I.erase x) m) (g.en m)
    have hr := h.ring m hm
    by_cases e : x.l = m
    · subst e
      have hn := h.rnd hm
      rw [r1] at hr hn
      rw [r2]
      refine hr.cut hn hpn ?_
      obtain ⟨q, hq, hqn⟩ := (Fo.app.1 hr).1.pre (.inl rfl)
      have hqb : Bl g KE I q := h.rbl hm (by
        rw [r1]
        rcases List.mem_cons.1 hq with e1 | e1
        · rw [e1]; simp
        · simp [e1])
      rw [h.nx_inj hp hqb (hpn.trans hqn.symm)]
      exact hq
    · rw [r3 m e]
      refine hr.congr (fun q hq => nx0 q (fun e1 => ?_))
      subst e1
      rcases hr.mem hq with e2 | e2
      · rw [hpn] at e2; exact h.be x m hx hm e2
      · rw [hpn] at e2
        obtain ⟨z, h1, h2, h3⟩ := rb_mem.1 e2
        exact e (by rw [h.bi x z hx h1 h3, h2])
  · have hbb : Bl g KE I b ∧ b ≠ g.blk x := by
      rcases hb1 with ⟨z, h1, h2⟩ | ⟨m, h1, h2⟩
      · refine ⟨.inl ⟨z, sub z h1, h2⟩, fun e1 => ?_⟩
        have := h.bi z x (sub z h1) hx (h2.symm.trans e1)
        subst this
        exact (h.nd.mem_erase_iff.1 h1).1 rfl
      · exact ⟨.inr ⟨m, h1, h2⟩, fun e1 => h.be x m hx h1 (e1.symm.trans h2)⟩
    by_cases e : b = g.pv (g.blk x)
    · rw [e, nx1, pv1]
    · rw [nx0 b e, pv0 _ (fun e1 => hbb.2 (h.nx_inj hbb.1 hb e1))]
      exact h.inv b hbb.1
theorem Inv.strike (h : Inv g KM KE I) (hl : ∀ x, x ∈ I → x.l ≠ l) : Inv g KM (KE.erase l) I := by
  have sub : ∀ m, m ∈ KE.erase l → m ∈ KE := fun m hm => List.mem_of_mem_erase hm
  refine ⟨h.nd, h.km, h.kn, h.len, h.ke.erase _, fun x hx => (List.mem_erase_of_ne (hl x hx)).2 (h.sub x hx), fun m hm => h.ring m (sub m hm), h.bi, fun a b ha hb => h.ei a b (sub a ha) (sub b hb), fun x m hx hm => h.be x m hx (sub m hm), fun b hb => h.inv b ?_, h.ids⟩
  rcases hb with hb | ⟨m, h1, h2⟩
  · exact .inl hb
  · exact .inr ⟨m, sub m h1, h2⟩
theorem Inv.alone (h : Inv g KM KE I) (hl : l ∈ KE) : g.nx (g.en l) = g.en l ↔ ∀ x, x ∈ I → x.l ≠ l := by
  have hr := h.ring l hl
  have hn := (List.nodup_cons.1 (h.rnd hl)).1
  constructor
  · intro e x hx e2
    have hm : g.blk x ∈ rb g I l := rb_mem.2 ⟨x, hx, e2, rfl⟩
    cases hq : rb g I l with
    | nil => rw [hq] at hm; cases hm
    | cons b L =>
      rw [hq] at hr hn
      exact hn (by rw [← e, hr.1]; simp)
  · intro ha
    have e0 : rb g I l = [] := by
      rw [List.eq_nil_iff_forall_not_mem]
      intro b hb
      obtain ⟨x, h1, h2, _⟩ := rb_mem.1 hb
      exact ha x h1 h2
    rw [e0] at hr
    exact hr
theorem Inv.walk (h : Inv g KM KE I) (l : Int) : (rb g I l).map g.idf = It.walk I l := by
  unfold rb It.walk
  rw [List.map_map]
  exact List.map_congr_left (fun x hx => h.ids x (List.mem_filter.1 hx).1)
theorem Inv.back (h : Inv g KM KE I) (hl : l ∈ KE) : Fo g.pv (g.en l) (rb g I l).reverse (g.en l) := (h.ring l hl).rev (fun b hb => h.inv b (h.rbl hl hb))
theorem Inv.out (h : Inv g KM KE I) (hl : l ∉ KE) : It.walk I l = [] := by
  rw [List.eq_nil_iff_forall_not_mem]
  intro i hi
  exact hl (h.sub _ (It.walk_mem.1 hi))
end
end Go.Proofs.Ytfmbogpbhchelaa
