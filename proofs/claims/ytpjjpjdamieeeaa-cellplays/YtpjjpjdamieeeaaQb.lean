/- begin of chapter 7's laws makes a world of four objects; what act does in both. Conditions: each contract names its own. -/
import Derived.Test.YtpjjpjdamieeeaaQa
import Derived.Deep.RegionHeld3
import Derived.SizedLaws
namespace Go.Proofs.Ytpjjpjdamieeeaa
set_option maxRecDepth 100000
set_option linter.unusedVariables false
open Go.ChangeShapes Go.WideShapes Go.ChangeAt Go.RowKit
def ow (a x d y : Nat) : Nat → Nat := fun k => if k = a then 1 else if k = x then 2 else if k = d then 3 else if k = y then 4 else 0
theorem begin7_any (w : World) : Calls Try.prog 11 #[] w fun e w' => ∃ z a x d y, e = .returned (.pointer (some ⟨z, 0, none⟩)) ∧ Wd w w' z a x d y Ck.new [] 0 := by
  have HN := Lib.hid (new_any w)
  go_enter Try.func11, Try.ntmps11
  go_wp2_with fail
  (with_reducible refine HN.out.mono ?_)
  rintro e w1 ⟨rfl, h1, hb1⟩
  have HN2 := Lib.hid (cnew_any w1)
  have HP := Lib.hid h1
  have HB1 := Lib.hid hb1
  clear h1 hb1 HN
  go_wp2_with (go_at_call 34; (with_reducible refine HN2.out.mono ?_); rintro e w2 ⟨rfl, h2, hb2⟩; have HX := Lib.hid h2; have HB2 := Lib.hid hb2; clear h2 hb2)
  go_ret
  refine ⟨w2.heap.size + 1 + 1, w.heap.size, w1.heap.size, w2.heap.size, w2.heap.size + 1, rfl, ?_⟩
  have hp := HP.out
  have hx := HX.out
  have hb1 := HB1.out
  have hb2 := HB2.out
  have s1 := hp.lt _ rfl
  have s2 := hx.lt _ rfl
  have s3 := hb1.size
  have s4 := hb2.size
  obtain ⟨W3, hW3⟩ : ∃ W3, w2.alloc (.cells #[.slice none 0 0, .int .i64 0] 65) = W3 := ⟨_, rfl⟩
  have z3 : W3.heap.size = w2.heap.size + 1 := by rw [← hW3]; simp
  have b3 : Below w2.heap.size w2 W3 := by rw [← hW3]; exact (Below.refl _ _).alloc (Nat.le_refl _) _
  have k3 : W3.heap[w2.heap.size]? = some (.cells #[.slice none 0 0, .int .i64 0] 65 (0, 0)) := by rw [← hW3]; exact heap_alloc_new w2 _
  rw [hW3]
  obtain ⟨W4, hW4⟩ : ∃ W4, W3.alloc (.cells #[.slice none 0 0] 68) = W4 := ⟨_, rfl⟩
  have z4 : W4.heap.size = w2.heap.size + 1 + 1 := by rw [← hW4]; simp [z3]
  have b4 : Below W3.heap.size W3 W4 := by rw [← hW4]; exact (Below.refl _ _).alloc (Nat.le_refl _) _
  have k4 : W4.heap[w2.heap.size + 1]? = some (.cells #[.slice none 0 0] 68 (0, 0)) := by rw [← hW4, ← z3]; exact heap_alloc_new W3 _
  rw [hW4]
  obtain ⟨W5, hW5⟩ : ∃ W5, W4.alloc (.cells #[.pointer (some ⟨w.heap.size, 0, none⟩), .pointer (some ⟨w1.heap.size, 0, none⟩), .pointer (some ⟨w2.heap.size, 0, none⟩), .pointer (some ⟨w2.heap.size + 1, 0, none⟩), .int .i64 0] 35) = W5 := ⟨_, rfl⟩
  have z5 : W5.heap.size = w2.heap.size + 1 + 1 + 1 := by rw [← hW5]; simp [z4]
  have b5 : Below W4.heap.size W4 W5 := by rw [← hW5]; exact (Below.refl _ _).alloc (Nat.le_refl _) _
  have k5 : W5.heap[w2.heap.size + 1 + 1]? = some (.cells #[.pointer (some ⟨w.heap.size, 0, none⟩), .pointer (some ⟨w1.heap.size, 0, none⟩), .pointer (some ⟨w2.heap.size, 0, none⟩), .pointer (some ⟨w2.heap.size + 1, 0, none⟩), .int .i64 0] 35 (0, 0)) := by rw [← hW5, ← z4]; exact heap_alloc_new W4 _
  rw [hW5]
  have b35 : Below w2.heap.size w2 W5 := (b3.trans (b4.mono (by omega))).trans (b5.mono (by omega))
  have e3 : W5.heap[w2.heap.size]? = some (.cells #[.slice none 0 0, .int .i64 0] 65 (0, 0)) := (b5.block _ (by omega)).trans ((b4.block _ (by omega)).trans k3)
  have e4 : W5.heap[w2.heap.size + 1]? = some (.cells #[.slice none 0 0] 68 (0, 0)) := (b5.block _ (by omega)).trans k4
  refine ⟨⟨ow w.heap.size w1.heap.size w2.heap.size (w2.heap.size + 1), ?_, ?_, ⟨Ck.new_ok, .slice none 0 0, ?_⟩, ⟨.slice none 0 0, ?_⟩, ?_, ?_, ?_⟩, k5, by omega⟩
  · refine (hp.below (hb2.trans (b35.mono (by omega)))).same (fun k hk => ?_) (fun k hk => ?_) (fun _ _ => rfl)
    · subst hk; unfold ow; rw [if_pos rfl]
    · unfold ow at hk; split at hk
      · omega
      · split at hk <;> (try split at hk) <;> (try split at hk) <;> omega
  · refine (hx.below b35).same (fun k hk => ?_) (fun k hk => ?_) (fun _ _ => rfl)
    · subst hk; unfold ow; rw [if_neg (by omega), if_pos rfl]
    · unfold ow at hk; split at hk
      · omega
      · split at hk <;> (try split at hk) <;> (try split at hk) <;> omega
  · exact { lt := fun k hk => by unfold ow at hk; split at hk <;> (try split at hk) <;> (try split at hk) <;> (try split at hk) <;> omega
            fa := by show ow _ _ _ _ _ = 3; unfold ow; rw [if_neg (by omega), if_neg (by omega), if_pos rfl]
            f1 := fun k hk => by simp [Value.ownBlock] at hk
            blk := e3
            r1 := World.ownsRow_nil _ _ _ _ }
  · exact { lt := fun k hk => by unfold ow at hk; split at hk <;> (try split at hk) <;> (try split at hk) <;> (try split at hk) <;> omega
            fa := by show ow _ _ _ _ _ = 4; unfold ow; rw [if_neg (by omega), if_neg (by omega), if_neg (by omega), if_pos rfl]
            f1 := fun k hk => by simp [Value.ownBlock] at hk
            blk := e4
            r1 := World.ownsRow_nil _ _ _ _ }
  · intro k hk
    have hk : k = w2.heap.size + 1 + 1 := hk
    subst hk
    refine ⟨by omega, ?_⟩
    unfold ow; rw [if_neg (by omega), if_neg (by omega), if_neg (by omega), if_neg (by omega)]
  · intro k hk
    unfold ow at hk
    by_cases q1 : k = w.heap.size
    · omega
    · by_cases q2 : k = w1.heap.size
      · omega
      · by_cases q3 : k = w2.heap.size
        · omega
        · by_cases q4 : k = w2.heap.size + 1
          · omega
          · rw [if_neg q1, if_neg q2, if_neg q3, if_neg q4] at hk; exact absurd rfl hk
  · exact hb1.trans ((hb2.trans (b35.mono (by omega))).mono (by omega))
/-- The four objects, the program's ahead of the reference's or behind, and the block that names them. -/
def Wq (w wr : World) (z a x d y : Nat) (c : Ck) (l : List (Ver Int)) (c' : Ck) (l' : List (Ver Int)) (n : Int) : Prop := Quad (fun k => k = z) w wr a x d y c l c' l' ∧ WB wr z a x d y n ∧ w.heap.size ≤ z
section
variable {w wr w' : World} {z a x d y : Nat} {c c' c2 c3 : Ck} {l l' l2 l3 : List (Ver Int)} {n : Int} {v : Value} {f : FuncId} {args : Array Value}
theorem Wd.wq (h : Wd w wr z a x d y c l n) : Wq w wr z a x d y c l c l n := ⟨h.q, h.b, h.nz⟩
theorem Wq.wd (h : Wq w wr z a x d y c l c l n) : Wd w wr z a x d y c l n := ⟨h.1, h.2.1, h.2.2⟩
theorem Wq.to (h : Wq w wr z a x d y c l c' l' n) (hc : Calls Try.prog f args wr (fun e w' => e = .returned v ∧ Quad (fun k => k = z) w w' a x d y c2 l2 c3 l3 ∧ Keep (fun k => k = z) wr w')) : Calls Try.prog f args wr fun e w' => e = .returned v ∧ Wq w w' z a x d y c2 l2 c3 l3 n :=
  hc.mono fun e w' he => ⟨he.1, he.2.1, h.2.1.keep he.2.2 rfl, h.2.2⟩
theorem Wq.below (h : Wq w wr z a x d y c l c' l' n) (hb : Below wr.heap.size wr w') : Wq w w' z a x d y c l c' l' n := ⟨(h.1.below hb).1, h.2.1.keep (h.1.below hb).2 rfl, h.2.2⟩
theorem Wq.drew (h : Wq w wr z a x d y c l c' l' n) : Wq w wr.drew z a x d y c l c' l' n := h.below (Below.refl _ _).drew
end
/-- At most the last version is of a live transaction. -/
theorem inv_undo {c : Ck} {l : List (Ver Int)} (h : Ver.Inv c l) (hok : c.Ok) {t : Int} (ht : c.isLive t = true) : ∀ z ∈ l.drop (Ver.at? t l + 1), z.w ≠ t := by
  by_cases hn : ∀ y ∈ l, y.w ≠ t
  · exact fun z hz => hn z (List.mem_of_mem_drop hz)
  · obtain ⟨y, hy, hyt⟩ : ∃ y ∈ l, y.w = t := by
      by_cases hq : ∃ y ∈ l, y.w = t
      · exact hq
      · exact absurd (fun y hy e => hq ⟨y, hy, e⟩) hn
    have hi : Ver.at? t l < l.length := List.findIdx_lt_length_of_exists ⟨y, hy, by simpa using hyt⟩
    have hx : l[Ver.at? t l].w = t := by
      have := List.findIdx_getElem (w := hi)
      exact of_decide_eq_true this
    have hlast : ¬ Ver.at? t l < l.length - 1 := fun hlt => by
      have hm : l[Ver.at? t l] ∈ l.dropLast := by
        have hd : Ver.at? t l < l.dropLast.length := by rw [List.length_dropLast]; exact hlt
        rw [← List.getElem_dropLast (h := hd)]
        exact List.getElem_mem hd
      have h1 := h.old _ hm
      rw [hx] at h1
      obtain ⟨q1, q2⟩ := Ck.live_has ht
      have := hok.fresh _ (Ck.tx_mem q1) q2
      omega
    intro z hz
    rw [List.drop_of_length_le (by omega)] at hz
    cases hz
end Go.Proofs.Ytpjjpjdamieeeaa
