/- What act of chapter 7's laws does in both; acts that came in, opened. Conditions: each contract names its own. -/
import Derived.Test.YtpjjpjdamieeeaaQb
namespace Go.Proofs.Ytpjjpjdamieeeaa
set_option maxRecDepth 100000
set_option linter.unusedVariables false
open Go.ChangeShapes Go.WideShapes Go.ChangeAt Go.RowKit
def aC (c : Ck) (kd t : Int) : Ck := if kd = 1 then c.beg else if kd = 2 then c.comS t else if kd = 3 then c.abS t else c
def aL (c : Ck) (kd t v : Int) (g : Bool) (l : List (Ver Int)) : List (Ver Int) := if kd = 1 then l else if kd = 2 then l else if kd = 3 then (if c.isLive t then Ver.undo t l else l) else if kd = 4 then (if c.isLive t then Ver.wrS c t v g l else l) else Ver.swS c l
def aN (c : Ck) (kd n : Int) : Int := if kd = 1 ∧ c.begE = 0 then c.begT else n
/-- The law's world, and the box of the act. -/
structure AW (w W : World) (z b a x d y : Nat) (c : Ck) (l : List (Ver Int)) (c' : Ck) (l' : List (Ver Int)) (n kd t v : Int) (g : Bool) : Prop where
  q : Quad (fun k => k = z ∨ k = b) w W a x d y c l c' l'
  wb : WB W z a x d y n
  bx : W.heap[b]? = some (.cells #[.int .i64 kd, .int .i64 t, .int .i64 v, .bool g] 27 (0, 0))
  nz : w.heap.size ≤ z
section
variable {w W w' : World} {z b a x d y : Nat} {c c' c2 c3 : Ck} {l l' l2 l3 : List (Ver Int)} {n kd t v : Int} {g : Bool} {u : Value} {f : FuncId} {args : Array Value}
theorem AW.to (h : AW w W z b a x d y c l c' l' n kd t v g) (hc : Calls Try.prog f args W (fun e w' => e = .returned u ∧ Quad (fun k => k = z ∨ k = b) w w' a x d y c2 l2 c3 l3 ∧ Keep (fun k => k = z ∨ k = b) W w')) : Calls Try.prog f args W fun e w' => e = .returned u ∧ AW w w' z b a x d y c2 l2 c3 l3 n kd t v g :=
  hc.mono fun e w' he => ⟨he.1, he.2.1, h.wb.keep he.2.2 (.inl rfl), (he.2.2.2 b (.inr rfl)).trans h.bx, h.nz⟩
theorem AW.drew (h : AW w W z b a x d y c l c' l' n kd t v g) : AW w W.drew z b a x d y c l c' l' n kd t v g :=
  ⟨(h.q.below (Below.refl _ _).drew).1, h.wb.keep (h.q.below (Below.refl _ _).drew).2 (.inl rfl), h.bx, h.nz⟩
theorem AW.cells (h : AW w W z b a x d y c l c' l' n kd t v g) : W.cell? ⟨z, 0, none⟩ = some (.pointer (some ⟨a, 0, none⟩)) ∧ W.cell? ⟨z, 1, none⟩ = some (.pointer (some ⟨x, 0, none⟩)) ∧ W.cell? ⟨z, 2, none⟩ = some (.pointer (some ⟨d, 0, none⟩)) ∧ W.cell? ⟨z, 3, none⟩ = some (.pointer (some ⟨y, 0, none⟩)) ∧ W.cell? ⟨b, 1, none⟩ = some (.int .i64 t) ∧ W.cell? ⟨b, 2, none⟩ = some (.int .i64 v) ∧ W.cell? ⟨b, 3, none⟩ = some (.bool g) := by
  obtain ⟨⟨k0, k1, k2, k3⟩, _⟩ := h.wb.cells
  exact ⟨k0, k1, k2, k3, (cell_of_row W b 1 _ _ _ h.bx).trans rfl, (cell_of_row W b 2 _ _ _ h.bx).trans rfl, (cell_of_row W b 3 _ _ _ h.bx).trans rfl⟩
theorem AW.wd (h : AW w W z b a x d y c l c l n kd t v g) : Wd w W z a x d y c l n := ⟨h.q.less (fun k hk => .inl hk), h.wb, h.nz⟩
theorem AW.setN (h : AW w W z b a x d y c l c' l' n kd t v g) (hzb : z ≠ b) (m : Int) : AW w (W.setCell ⟨z, 4, none⟩ (.int .i64 m)) z b a x d y c l c' l' m kd t v g := by
  refine ⟨h.q.setG (.inl rfl) h.nz _, ?_, (Below.heap_setCell W ⟨z, 4, none⟩ _ b (fun e => hzb (by simpa using e.symm))).trans h.bx, h.nz⟩
  unfold WB
  rw [heap_setCell_same W z 4 _ _ _ h.wb]; rfl
theorem Wd.act (h : Wd w W z a x d y c l n) (kd t v : Int) (g : Bool) : AW w (W.alloc (.cells #[.int .i64 kd, .int .i64 t, .int .i64 v, .bool g] 27)) z W.heap.size a x d y c l c l n kd t v g ∧ z ≠ W.heap.size :=
  ⟨⟨h.q.box _, (Below.heap_alloc W _ z (block_lt h.b)).trans h.b, heap_alloc_new W _, h.nz⟩, by have := block_lt h.b; omega⟩
set_option maxHeartbeats 4000000 in
theorem act7_1 (h : Wd w W z a x d y c l n) (t v : Int) (g : Bool) (hl : c.l.length ≤ 900000) :
    Calls Try.prog 12 #[.pointer (some ⟨z, 0, none⟩), .agg #[.int .i64 1, .int .i64 t, .int .i64 v, .bool g]] W fun e w' => e = .returned (.bool true) ∧ Wd w w' z a x d y c.beg l (aN c 1 n) := by
  obtain ⟨haw, hzb⟩ := h.act 1 t v g
  have H0 := Lib.hid haw
  obtain ⟨k0, k1, k2, k3, b1, b2, b3⟩ := haw.cells
  have C1 := Lib.hid (haw.to (q_begin haw.q hl))
  have C2 := Lib.hid (fun W1 (h1 : AW w W1 z W.heap.size a x d y c.beg l c l n 1 t v g) => h1.to (q_rbegin h1.q hl))
  have HZB := Lib.hid hzb
  have bk := haw.bx
  clear haw h hzb hl
  by_cases hf : 4 ≤ c.cnt
  · have hE : c.begE = 3 := by unfold Ck.begE; rw [if_pos hf]
    have HN : Hid (aN c 1 n = n) := by simp only [Hid]; unfold aN; rw [if_neg (by rw [hE]; omega)]
    rw [hE] at C1 C2
    rw [HN.out]
    clear hE hf
    go_enter Try.func12, Try.ntmps12
    go_wp2_with (first
      | (go_at_call 22; (with_reducible refine C1.out.mono ?_); rintro e w1 ⟨rfl, h1⟩; have H1 := Lib.hid h1; obtain ⟨j0, j1, j2, j3, _⟩ := h1.cells; clear h1)
      | (go_at_call 35; (with_reducible refine (C2.out _ H1.out).mono ?_); rintro e w2 ⟨rfl, h2⟩; have H2 := Lib.hid h2; clear h2))
    go_ret
    exact ⟨ret_b (by simp), H2.out.wd⟩
  · have hE : c.begE = 0 := by unfold Ck.begE; rw [if_neg hf]
    have HN : Hid (aN c 1 n = c.begT) := by simp only [Hid]; unfold aN; rw [if_pos ⟨rfl, hE⟩]
    rw [hE] at C1 C2
    rw [HN.out]
    clear hE hf
    go_enter Try.func12, Try.ntmps12
    go_wp2_with (first
      | (go_at_call 22; (with_reducible refine C1.out.mono ?_); rintro e w1 ⟨rfl, h1⟩; have H1 := Lib.hid h1; obtain ⟨j0, j1, j2, j3, _⟩ := h1.cells; clear h1)
      | (go_at_call 35; (with_reducible refine (C2.out _ H1.out).mono ?_); rintro e w2 ⟨rfl, h2⟩; have H2 := Lib.hid h2; obtain ⟨_, m4, mf⟩ := h2.wb.cells; clear h2))
    go_ret
    exact ⟨ret_b (by simp), (H2.out.setN HZB.out _).wd⟩
set_option maxHeartbeats 4000000 in
theorem act7_2 (h : Wd w W z a x d y c l n) (t v : Int) (g : Bool) (hn : c.n ≤ 900000) (hl : c.l.length ≤ 900000) :
    Calls Try.prog 12 #[.pointer (some ⟨z, 0, none⟩), .agg #[.int .i64 2, .int .i64 t, .int .i64 v, .bool g]] W fun e w' => e = .returned (.bool true) ∧ Wd w w' z a x d y (c.comS t) l n := by
  obtain ⟨haw, hzb⟩ := h.act 2 t v g
  have HD := Lib.hid haw.drew
  have hS0 := HD.out.cells
  have bk := haw.bx
  clear haw h hzb
  have C1 := Lib.hid (HD.out.to (q_commit HD.out.q t hn hl))
  have C2 := Lib.hid (fun W1 (h1 : AW w W1 z W.heap.size a x d y (c.comS t) l c l n 2 t v g) => h1.to (q_rcommit h1.q t hn hl))
  go_enter Try.func12, Try.ntmps12
  go_wp2_with fail
  go_region_held3 (fun V => V.cell? ⟨z, 0, none⟩ = some (.pointer (some ⟨a, 0, none⟩)) ∧ V.cell? ⟨z, 1, none⟩ = some (.pointer (some ⟨x, 0, none⟩)) ∧ V.cell? ⟨z, 2, none⟩ = some (.pointer (some ⟨d, 0, none⟩)) ∧ V.cell? ⟨z, 3, none⟩ = some (.pointer (some ⟨y, 0, none⟩)) ∧ V.cell? ⟨W.heap.size, 1, none⟩ = some (.int .i64 t) ∧ V.cell? ⟨W.heap.size, 2, none⟩ = some (.int .i64 v) ∧ V.cell? ⟨W.heap.size, 3, none⟩ = some (.bool g)) (first | exact hS0 | exact hS1 | exact hS2)
    (first
      | (go_at_call 36; (with_reducible refine (C2.out _ H1.out).mono ?_); rintro e w2 ⟨rfl, h2⟩; have H2 := Lib.hid h2; have hS2 := h2.cells; clear h2)
      | (go_at_call 24; (with_reducible refine C1.out.mono ?_); rintro e w1 ⟨rfl, h1⟩; have H1 := Lib.hid h1; have hS1 := h1.cells; clear h1))
  clear hS0 hS1 hS2
  go_wp2
  go_ret
  exact ⟨ret_b (by simp), H2.out.wd⟩
set_option maxHeartbeats 4000000 in
theorem act7_3n (h : Wd w W z a x d y c l n) (t v : Int) (g : Bool) (hl : c.l.length ≤ 900000) (ht : c.isLive t = false) :
    Calls Try.prog 12 #[.pointer (some ⟨z, 0, none⟩), .agg #[.int .i64 3, .int .i64 t, .int .i64 v, .bool g]] W fun e w' => e = .returned (.bool true) ∧ Wd w w' z a x d y (c.abS t) l n := by
  obtain ⟨haw, hzb⟩ := h.act 3 t v g
  have HD := Lib.hid haw.drew
  have hS0 := HD.out.cells
  have bk := haw.bx
  clear haw h hzb
  have he : c.endE t = 5 := by unfold Ck.endE; rw [ht]; rfl
  have C1 := HD.out.to (q_abort HD.out.q t hl)
  have C2 := fun W1 (h1 : AW w W1 z W.heap.size a x d y (c.abS t) l c l n 3 t v g) => h1.to (q_rabort h1.q t hl)
  rw [he] at C1 C2
  have C1 := Lib.hid C1
  have C2 := Lib.hid C2
  clear he ht hl
  go_enter Try.func12, Try.ntmps12
  go_wp2_with fail
  go_region_held3 (fun V => V.cell? ⟨z, 0, none⟩ = some (.pointer (some ⟨a, 0, none⟩)) ∧ V.cell? ⟨z, 1, none⟩ = some (.pointer (some ⟨x, 0, none⟩)) ∧ V.cell? ⟨z, 2, none⟩ = some (.pointer (some ⟨d, 0, none⟩)) ∧ V.cell? ⟨z, 3, none⟩ = some (.pointer (some ⟨y, 0, none⟩)) ∧ V.cell? ⟨W.heap.size, 1, none⟩ = some (.int .i64 t) ∧ V.cell? ⟨W.heap.size, 2, none⟩ = some (.int .i64 v) ∧ V.cell? ⟨W.heap.size, 3, none⟩ = some (.bool g)) (first | exact hS0 | exact hS1 | exact hS2)
    (first
      | (go_at_call 37; (with_reducible refine (C2.out _ H1.out).mono ?_); rintro e w2 ⟨rfl, h2⟩; have H2 := Lib.hid h2; have hS2 := h2.cells; clear h2)
      | (go_at_call 25; (with_reducible refine C1.out.mono ?_); rintro e w1 ⟨rfl, h1⟩; have H1 := Lib.hid h1; have hS1 := h1.cells; clear h1))
  clear hS0 hS1 hS2
  go_wp2
  go_ret
  exact ⟨rfl, H2.out.wd⟩
set_option maxHeartbeats 4000000 in
theorem act7_3y (h : Wd w W z a x d y c l n) (hi : Ver.Inv c l) (hok : c.Ok) (t v : Int) (g : Bool) (hl : c.l.length ≤ 900000) (hv : l.length ≤ 800000) (ht : c.isLive t = true) :
    Calls Try.prog 12 #[.pointer (some ⟨z, 0, none⟩), .agg #[.int .i64 3, .int .i64 t, .int .i64 v, .bool g]] W fun e w' => e = .returned (.bool true) ∧ Wd w w' z a x d y (c.abS t) (Ver.undo t l) n := by
  obtain ⟨haw, hzb⟩ := h.act 3 t v g
  have HD := Lib.hid haw.drew
  have hS0 := HD.out.cells
  have bk := haw.bx
  clear haw h hzb
  have he : c.endE t = 0 := by unfold Ck.endE; rw [ht]; rfl
  have hu := inv_undo hi hok ht
  have C1 := HD.out.to (q_abort HD.out.q t hl)
  have C2 := fun W1 (h1 : AW w W1 z W.heap.size a x d y (c.abS t) l c l n 3 t v g) => h1.to (q_rabort h1.q t hl)
  rw [he] at C1 C2
  have C1 := Lib.hid C1
  have C2 := Lib.hid C2
  have C3 := Lib.hid (fun W1 (h1 : AW w W1 z W.heap.size a x d y (c.abS t) l (c.abS t) l n 3 t v g) => h1.to (q_undo h1.q t hu (by omega)))
  have C4 := Lib.hid (fun W1 (h1 : AW w W1 z W.heap.size a x d y (c.abS t) (Ver.undo t l) (c.abS t) l n 3 t v g) => h1.to (q_rundo h1.q t (by omega)))
  clear he ht hl hu hv
  go_enter Try.func12, Try.ntmps12
  go_wp2_with fail
  go_region_held3 (fun V => V.cell? ⟨z, 0, none⟩ = some (.pointer (some ⟨a, 0, none⟩)) ∧ V.cell? ⟨z, 1, none⟩ = some (.pointer (some ⟨x, 0, none⟩)) ∧ V.cell? ⟨z, 2, none⟩ = some (.pointer (some ⟨d, 0, none⟩)) ∧ V.cell? ⟨z, 3, none⟩ = some (.pointer (some ⟨y, 0, none⟩)) ∧ V.cell? ⟨W.heap.size, 1, none⟩ = some (.int .i64 t) ∧ V.cell? ⟨W.heap.size, 2, none⟩ = some (.int .i64 v) ∧ V.cell? ⟨W.heap.size, 3, none⟩ = some (.bool g)) (first | exact hS0 | exact hS1 | exact hS2)
    (first
      | (go_at_call 37; (with_reducible refine (C2.out _ H1.out).mono ?_); rintro e w2 ⟨rfl, h2⟩; have H2 := Lib.hid h2; have hS2 := h2.cells; clear h2)
      | (go_at_call 25; (with_reducible refine C1.out.mono ?_); rintro e w1 ⟨rfl, h1⟩; have H1 := Lib.hid h1; have hS1 := h1.cells; clear h1))
  clear hS0 hS1 hS2
  have HD2 := Lib.hid H2.out.drew
  have hS0 := HD2.out.cells
  go_wp2_with fail
  go_region_held3 (fun V => V.cell? ⟨z, 0, none⟩ = some (.pointer (some ⟨a, 0, none⟩)) ∧ V.cell? ⟨z, 1, none⟩ = some (.pointer (some ⟨x, 0, none⟩)) ∧ V.cell? ⟨z, 2, none⟩ = some (.pointer (some ⟨d, 0, none⟩)) ∧ V.cell? ⟨z, 3, none⟩ = some (.pointer (some ⟨y, 0, none⟩)) ∧ V.cell? ⟨W.heap.size, 1, none⟩ = some (.int .i64 t) ∧ V.cell? ⟨W.heap.size, 2, none⟩ = some (.int .i64 v) ∧ V.cell? ⟨W.heap.size, 3, none⟩ = some (.bool g)) (first | exact hS0 | exact hS3)
    (first
      | (go_at_call 26; (with_reducible refine (C3.out _ HD2.out).mono ?_); rintro e w3 ⟨rfl, h3⟩; have H3 := Lib.hid h3; have hS3 := h3.cells; clear h3))
  clear hS0 hS3
  have HD3 := Lib.hid H3.out.drew
  have hS0 := HD3.out.cells
  go_wp2_with fail
  go_region_held3 (fun V => V.cell? ⟨z, 0, none⟩ = some (.pointer (some ⟨a, 0, none⟩)) ∧ V.cell? ⟨z, 1, none⟩ = some (.pointer (some ⟨x, 0, none⟩)) ∧ V.cell? ⟨z, 2, none⟩ = some (.pointer (some ⟨d, 0, none⟩)) ∧ V.cell? ⟨z, 3, none⟩ = some (.pointer (some ⟨y, 0, none⟩)) ∧ V.cell? ⟨W.heap.size, 1, none⟩ = some (.int .i64 t) ∧ V.cell? ⟨W.heap.size, 2, none⟩ = some (.int .i64 v) ∧ V.cell? ⟨W.heap.size, 3, none⟩ = some (.bool g)) (first | exact hS0 | exact hS4)
    (first
      | (go_at_call 38; (with_reducible refine (C4.out _ HD3.out).mono ?_); rintro e w4 ⟨rfl, h4⟩; have H4 := Lib.hid h4; have hS4 := h4.cells; clear h4))
  clear hS0 hS4
  go_wp2
  go_ret
  exact ⟨rfl, H4.out.wd⟩
set_option maxHeartbeats 4000000 in
theorem act7_4n (h : Wd w W z a x d y c l n) (t v : Int) (g : Bool) (ht : c.isLive t = false) :
    Calls Try.prog 12 #[.pointer (some ⟨z, 0, none⟩), .agg #[.int .i64 4, .int .i64 t, .int .i64 v, .bool g]] W fun e w' => e = .returned (.bool true) ∧ Wd w w' z a x d y c l n := by
  obtain ⟨haw, hzb⟩ := h.act 4 t v g
  have HD := Lib.hid haw.drew
  have hS0 := HD.out.cells
  have bk := haw.bx
  clear haw h hzb
  have C1 := q_rlive HD.out.q t
  rw [ht] at C1
  have C1 := Lib.hid C1
  clear ht
  go_enter Try.func12, Try.ntmps12
  go_wp2_with fail
  go_region_held3 (fun V => V.cell? ⟨z, 0, none⟩ = some (.pointer (some ⟨a, 0, none⟩)) ∧ V.cell? ⟨z, 1, none⟩ = some (.pointer (some ⟨x, 0, none⟩)) ∧ V.cell? ⟨z, 2, none⟩ = some (.pointer (some ⟨d, 0, none⟩)) ∧ V.cell? ⟨z, 3, none⟩ = some (.pointer (some ⟨y, 0, none⟩)) ∧ V.cell? ⟨W.heap.size, 1, none⟩ = some (.int .i64 t) ∧ V.cell? ⟨W.heap.size, 2, none⟩ = some (.int .i64 v) ∧ V.cell? ⟨W.heap.size, 3, none⟩ = some (.bool g)) (first | exact hS0)
    (first
      | (go_at_call 15; (with_reducible refine C1.out.mono ?_); rintro e w1 ⟨rfl, rfl⟩))
  clear hS0
  go_wp2
  go_ret
  exact ⟨rfl, HD.out.wd⟩
set_option maxHeartbeats 4000000 in
theorem act7_4y (h : Wd w W z a x d y c l n) (t v : Int) (g : Bool) (hv : l.length ≤ 800000) (ht : c.isLive t = true) :
    Calls Try.prog 12 #[.pointer (some ⟨z, 0, none⟩), .agg #[.int .i64 4, .int .i64 t, .int .i64 v, .bool g]] W fun e w' => e = .returned (.bool true) ∧ Wd w w' z a x d y c (Ver.wrS c t v g l) n := by
  obtain ⟨haw, hzb⟩ := h.act 4 t v g
  have HD := Lib.hid haw.drew
  have hS0 := HD.out.cells
  have bk := haw.bx
  clear haw h hzb
  have C1 := q_rlive HD.out.q t
  rw [ht] at C1
  have C1 := Lib.hid C1
  have HDD := Lib.hid HD.out.drew
  have hT0 := HDD.out.cells
  have D1 := Lib.hid (HDD.out.to (q_check HDD.out.q t))
  have D2 := Lib.hid (fun W1 (h1 : AW w W1 z W.heap.size a x d y c l c l n 4 t v g) => h1.to (q_rcheck h1.q t))
  have D3 := Lib.hid (fun W1 (h1 : AW w W1 z W.heap.size a x d y c l c l n 4 t v g) => h1.to (q_write h1.q t v g hv))
  have D4 := Lib.hid (fun W1 (h1 : AW w W1 z W.heap.size a x d y c (Ver.wrS c t v g l) c l n 4 t v g) => h1.to (q_rwrite h1.q t v g hv))
  clear ht hv
  generalize Ver.chk c t l = ck at *
  go_enter Try.func12, Try.ntmps12
  go_wp2_with fail
  go_region_held3 (fun V => V.cell? ⟨z, 0, none⟩ = some (.pointer (some ⟨a, 0, none⟩)) ∧ V.cell? ⟨z, 1, none⟩ = some (.pointer (some ⟨x, 0, none⟩)) ∧ V.cell? ⟨z, 2, none⟩ = some (.pointer (some ⟨d, 0, none⟩)) ∧ V.cell? ⟨z, 3, none⟩ = some (.pointer (some ⟨y, 0, none⟩)) ∧ V.cell? ⟨W.heap.size, 1, none⟩ = some (.int .i64 t) ∧ V.cell? ⟨W.heap.size, 2, none⟩ = some (.int .i64 v) ∧ V.cell? ⟨W.heap.size, 3, none⟩ = some (.bool g)) (first | exact hS0)
    (first
      | (go_at_call 15; (with_reducible refine C1.out.mono ?_); rintro e w1 ⟨rfl, rfl⟩))
  clear hS0
  have hS0 := hT0
  clear hT0
  go_wp2_with fail
  go_region_held3 (fun V => V.cell? ⟨z, 0, none⟩ = some (.pointer (some ⟨a, 0, none⟩)) ∧ V.cell? ⟨z, 1, none⟩ = some (.pointer (some ⟨x, 0, none⟩)) ∧ V.cell? ⟨z, 2, none⟩ = some (.pointer (some ⟨d, 0, none⟩)) ∧ V.cell? ⟨z, 3, none⟩ = some (.pointer (some ⟨y, 0, none⟩)) ∧ V.cell? ⟨W.heap.size, 1, none⟩ = some (.int .i64 t) ∧ V.cell? ⟨W.heap.size, 2, none⟩ = some (.int .i64 v) ∧ V.cell? ⟨W.heap.size, 3, none⟩ = some (.bool g)) (first | exact hS0 | exact hS1 | exact hS2 | exact hS3 | exact hS4)
    (first
      | (go_at_call 40; (with_reducible refine (D4.out _ H3.out).mono ?_); rintro e w4 ⟨rfl, h4⟩; have H4 := Lib.hid h4; have hS4 := h4.cells; clear h4)
      | (go_at_call 23; (with_reducible refine (D3.out _ H2.out).mono ?_); rintro e w3 ⟨rfl, h3⟩; have H3 := Lib.hid h3; have hS3 := h3.cells; clear h3)
      | (go_at_call 39; (with_reducible refine (D2.out _ H1.out).mono ?_); rintro e w2 ⟨rfl, h2⟩; have H2 := Lib.hid h2; have hS2 := h2.cells; clear h2)
      | (go_at_call 17; (with_reducible refine D1.out.mono ?_); rintro e w1 ⟨rfl, h1⟩; have H1 := Lib.hid h1; have hS1 := h1.cells; clear h1))
  clear hS0 hS1 hS2 hS3 hS4
  go_wp2
  go_ret
  exact ⟨ret_b (by simp), H4.out.wd⟩
set_option maxHeartbeats 4000000 in
theorem act7_5 (h : Wd w W z a x d y c l n) (kd t v : Int) (g : Bool) (hv : l.length ≤ 800000) (h1 : kd ≠ 1) (h2 : kd ≠ 2) (h3 : kd ≠ 3) (h4 : kd ≠ 4) :
    Calls Try.prog 12 #[.pointer (some ⟨z, 0, none⟩), .agg #[.int .i64 kd, .int .i64 t, .int .i64 v, .bool g]] W fun e w' => e = .returned (.bool true) ∧ Wd w w' z a x d y c (Ver.swS c l) n := by
  obtain ⟨haw, hzb⟩ := h.act kd t v g
  have HD := Lib.hid haw.drew
  have hS0 := HD.out.cells
  have bk := haw.bx
  clear haw h hzb
  have D1 := Lib.hid (HD.out.to (q_spare HD.out.q))
  have D2 := Lib.hid (fun W1 (h1 : AW w W1 z W.heap.size a x d y c l c l n kd t v g) => h1.to (q_rspare h1.q))
  have D3 := Lib.hid (fun W1 (h1 : AW w W1 z W.heap.size a x d y c l c l n kd t v g) => h1.to (q_sweep h1.q))
  have D4 := Lib.hid (fun W1 (h1 : AW w W1 z W.heap.size a x d y c (Ver.swS c l) c l n kd t v g) => h1.to (q_rsweep h1.q (by omega)))
  have q1 : (kd == 1) = false := by simpa using h1
  have q2 : (kd == 2) = false := by simpa using h2
  have q3 : (kd == 3) = false := by simpa using h3
  have q4 : (kd == 4) = false := by simpa using h4
  clear h1 h2 h3 h4 hv
  generalize Ver.spare c l = sp at *
  go_enter Try.func12, Try.ntmps12
  go_wp2_with fail
  go_region_held3 (fun V => V.cell? ⟨z, 0, none⟩ = some (.pointer (some ⟨a, 0, none⟩)) ∧ V.cell? ⟨z, 1, none⟩ = some (.pointer (some ⟨x, 0, none⟩)) ∧ V.cell? ⟨z, 2, none⟩ = some (.pointer (some ⟨d, 0, none⟩)) ∧ V.cell? ⟨z, 3, none⟩ = some (.pointer (some ⟨y, 0, none⟩)) ∧ V.cell? ⟨W.heap.size, 1, none⟩ = some (.int .i64 t) ∧ V.cell? ⟨W.heap.size, 2, none⟩ = some (.int .i64 v) ∧ V.cell? ⟨W.heap.size, 3, none⟩ = some (.bool g)) (first | exact hS0 | exact hS1 | exact hS2 | exact hS3 | exact hS4)
    (first
      | (go_at_call 42; (with_reducible refine (D4.out _ H3.out).mono ?_); rintro e w4 ⟨rfl, h4⟩; have H4 := Lib.hid h4; have hS4 := h4.cells; clear h4)
      | (go_at_call 19; (with_reducible refine (D3.out _ H2.out).mono ?_); rintro e w3 ⟨rfl, h3⟩; have H3 := Lib.hid h3; have hS3 := h3.cells; clear h3)
      | (go_at_call 41; (with_reducible refine (D2.out _ H1.out).mono ?_); rintro e w2 ⟨rfl, h2⟩; have H2 := Lib.hid h2; have hS2 := h2.cells; clear h2)
      | (go_at_call 20; (with_reducible refine D1.out.mono ?_); rintro e w1 ⟨rfl, h1⟩; have H1 := Lib.hid h1; have hS1 := h1.cells; clear h1))
  clear hS0 hS1 hS2 hS3 hS4
  go_wp2
  go_ret
  exact ⟨ret_b (by simp), H4.out.wd⟩
theorem act7_any (h : Wd w W z a x d y c l n) (hi : Ver.Inv c l) (kd t v : Int) (g : Bool) (hn : c.n ≤ 900000) (hl : c.l.length ≤ 900000) (hv : l.length ≤ 800000) :
    Calls Try.prog 12 #[.pointer (some ⟨z, 0, none⟩), .agg #[.int .i64 kd, .int .i64 t, .int .i64 v, .bool g]] W fun e w' => e = .returned (.bool true) ∧ Wd w w' z a x d y (aC c kd t) (aL c kd t v g l) (aN c kd n) := by
  have hok := h.q.ok
  by_cases h1 : kd = 1
  · subst h1
    exact act7_1 h t v g hl
  have e1 : aN c kd n = n := by unfold aN; rw [if_neg (fun e => h1 e.1)]
  rw [e1]
  by_cases h2 : kd = 2
  · subst h2
    exact act7_2 h t v g hn hl
  by_cases h3 : kd = 3
  · subst h3
    cases ht : c.isLive t with
    | true =>
      have := act7_3y h hi hok t v g hl hv ht
      unfold aC aL; simpa [ht] using this
    | false =>
      have := act7_3n h t v g hl ht
      unfold aC aL; simpa [ht] using this
  by_cases h4 : kd = 4
  · subst h4
    cases ht : c.isLive t with
    | true =>
      have := act7_4y h t v g hv ht
      unfold aC aL; simpa [ht] using this
    | false =>
      have := act7_4n h t v g ht
      unfold aC aL; simpa [ht] using this
  have := act7_5 h kd t v g hv h1 h2 h3 h4
  unfold aC aL
  rw [if_neg h1, if_neg h2, if_neg h3, if_neg h1, if_neg h2, if_neg h3, if_neg h4]
  exact this
end
end Go.Proofs.Ytpjjpjdamieeeaa
