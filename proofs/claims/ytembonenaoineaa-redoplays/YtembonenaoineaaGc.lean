/- slices.Chunk at bytes, pieces of 64: what its iterator hands over, piece by piece. Conditions: a slice of bytes that begins a block; its length is at most 100,000. -/
import Derived.Test.YtembonenaoineaaDk
import Derived.RangeFuncNested
import Derived.RangeFuncBound
import Derived.RangeFuncCalls
import Derived.RangeFuncLeaves
import Derived.Shelf.Abstract
import Derived.Shelf.RegionOpen
import Derived.WalkKit
import Derived.OwnWalkIn
import Derived.TacticsInMore
import Derived.LoopNIn
import Derived.LoopIn
import Derived.IntWalk
import Derived.RegionIn
import Derived.BigRegionIn
namespace Go.Proofs.Ytembonenaoineaa
set_option maxRecDepth 100000
set_option linter.unusedVariables false
open Go.ChangeShapes Go.WideShapes Go.ChangeAt Go.RowKit Go.Shelf
attribute [local go_sem] Oper.semAt_some

/-- Piece j of the slice of len bytes that begins block g. -/
def chV (g len j : Nat) : Value := .slice (some ⟨g, 64 * j, none⟩) (min 64 (len - 64 * j)) (min 64 (len - 64 * j))
def KeepB (bs bn : Nat) (W W' : World) : Prop := W'.heap[bs]? = W.heap[bs]? ∧ W'.heap[bn]? = W.heap[bn]?
def ups (n : Nat) : Nat → List (Fin n)
  | 0 => []
  | k + 1 => if h : k < n then ups n k ++ [⟨k, h⟩] else ups n k
theorem ups_len {n : Nat} : ∀ k, k ≤ n → (ups n k).length = k
  | 0, _ => rfl
  | k + 1, h => by rw [ups, dif_pos (show k < n by omega), List.length_append, ups_len k (by omega)]; rfl
theorem ups_succ {n k : Nat} (h : k < n) : ups n (k + 1) = ups n k ++ [⟨k, h⟩] := by rw [ups, dif_pos h]
def cnt (len : Nat) : Nat := (len + 63) / 64
set_option maxHeartbeats 2000000 in
theorem chunk1_in (n : Nat) (hn : 1 ≤ n) (l bs bn g len c : Nat) (hlen : len ≤ 100000) (hc : len ≤ c) (hne : bs ≠ bn)
    (J Jx : List (Fin (cnt len)) → World → Prop) (hJd : ∀ pre W m, J pre W → J pre (W.drewN m))
    (hY : ∀ pre x W1, J pre W1 → pre.length < cnt len → YieldAt Fence.wide (n - 1) Try.prog l #[chV g len x.1] W1 fun e W' =>
      (e = .returned (.bool true) ∧ J (pre ++ [x]) W' ∧ KeepB bs bn W1 W') ∨ (e = .returned (.bool false) ∧ Jx (pre ++ [x]) W'))
    (W : World) (hbs : W.heap[bs]? = some (.cells #[.slice (some ⟨g, 0, none⟩) len c] 36 (0, 0))) (hbn : W.heap[bn]? = some (.cells #[.int .i64 64] 3 (0, 0))) (h0 : J [] W) :
    CallsIn Fence.wide n Try.prog 83 #[.func (.yield l) #[] #[], .pointer (some ⟨bs, 0, none⟩), .pointer (some ⟨bn, 0, none⟩)] W fun e W' => (∃ v, e = .returned v) ∧
      ((∃ ys, ys = ups (cnt len) (cnt len) ∧ J ys W') ∨ (∃ pre, (∃ k, k < cnt len ∧ pre = ups (cnt len) (k + 1)) ∧ Jx pre W')) := by
  refine callsIn_of_wp Try.func83 rfl trivial ?_ rfl
  simp only [Try.ntmps83, List.size_toArray, List.length_cons, List.length_nil, Nat.reduceAdd, Nat.reduceSub, Array.replicate_succ, Array.replicate_zero, List.push_toArray, List.append_toArray, List.nil_append, List.cons_append]
  gi_wp2
  gi_loopw [4] (fun i wr => ∃ k : Nat, k ≤ cnt len ∧ i = .int .i64 (64 * k : Nat) ∧ Hid (J (ups (cnt len) k) wr ∧ KeepB bs bn W wr)) (fun i _ => 64 * cnt len - (intOf i).toNat)
  case atStart => exact ⟨0, Nat.zero_le _, rfl, h0, rfl, rfl⟩
  case round =>
    obtain ⟨k, hk, rfl, HJ⟩ := hrel
    have hb1 := HJ.out.2.1.trans hbs
    have hb2 := HJ.out.2.2.trans hbn
    have c1 : wr.cell? ⟨bs, 0, none⟩ = some (.slice (some ⟨g, 0, none⟩) len c) := by rw [cell_of_row wr bs 0 _ _ _ hb1]; rfl
    have c2 : wr.cell? ⟨bn, 0, none⟩ = some (.int .i64 64) := by rw [cell_of_row wr bn 0 _ _ _ hb2]; rfl
    clear hb1 hb2
    by_cases hlt : k < cnt len
    · have hl2 : 64 * k < len := by unfold cnt at hlt; omega
      have hk2 : 64 * (k : Int) < len := by omega
      by_cases hm : len - 64 * k < 64
      · have e : chV g len k = .slice (some ⟨g, 64 * k, none⟩) (len - 64 * k) (len - 64 * k) := by unfold chV; rw [show min 64 (len - 64 * k) = len - 64 * k by omega]
        have hmi : ((len - 64 * k : Nat) : Int) < 64 := by omega
        gi_wp2
        gi_quiet (fail)
        have HJ2 := Lib.hid (hJd _ _ nq HJ.out.1)
        have d1 : (wr.drewN nq).cell? ⟨bs, 0, none⟩ = some (.slice (some ⟨g, 0, none⟩) len c) := c1
        have HK : Hid (KeepB bs bn W (wr.drewN nq)) := HJ.out.2
        obtain ⟨fn, tmps, assign, body, hy, hR⟩ := hY _ ⟨k, hlt⟩ (wr.drewN nq) HJ2.out (by rw [ups_len k hk]; exact hlt)
        have HR := Lib.hid hR
        clear hR HJ HJ2 c1 c2
        generalize wr.drewN nq = wd at *
        rw [e] at hy
        gi_wp2
        refine HR.out.mono ?_
        rintro e W3 (⟨rfl, hJ3, hk3⟩ | ⟨rfl, hJx3⟩)
        · have HJ3 := Lib.hid hJ3
          have HK3 := Lib.hid hk3
          have b3 : W3.heap[bn]? = some (.cells #[.int .i64 64] 3 (0, 0)) := hk3.2.trans (HK.out.2.trans hbn)
          have c3 : W3.cell? ⟨bn, 0, none⟩ = some (.int .i64 64) := by rw [cell_of_row W3 bn 0 _ _ _ b3]; rfl
          clear hJ3 hk3 b3
          gi_wp2
          go_roundw
          case rel => exact ⟨k + 1, by omega, by go_num, by rw [ups_succ hlt]; exact HJ3.out, HK3.out.1.trans HK.out.1, HK3.out.2.trans HK.out.2⟩
          case measure => simp [intOf]; omega
        · have HJ3 := Lib.hid hJx3
          clear hJx3
          gi_wp2
          refine bodyPost_ret (results_none rfl _ _ _) rfl ?_
          exact ⟨⟨_, rfl⟩, .inr ⟨_, ⟨k, hlt, (ups_succ hlt).symm⟩, HJ3.out⟩⟩
      · have e : chV g len k = .slice (some ⟨g, 64 * k, none⟩) 64 64 := by unfold chV; rw [show min 64 (len - 64 * k) = 64 by omega]
        have hmi : ¬ ((len - 64 * k : Nat) : Int) < 64 := by omega
        gi_wp2
        gi_quiet (fail)
        have HJ2 := Lib.hid (hJd _ _ nq HJ.out.1)
        have d1 : (wr.drewN nq).cell? ⟨bs, 0, none⟩ = some (.slice (some ⟨g, 0, none⟩) len c) := c1
        have HK : Hid (KeepB bs bn W (wr.drewN nq)) := HJ.out.2
        obtain ⟨fn, tmps, assign, body, hy, hR⟩ := hY _ ⟨k, hlt⟩ (wr.drewN nq) HJ2.out (by rw [ups_len k hk]; exact hlt)
        have HR := Lib.hid hR
        clear hR HJ HJ2 c1 c2
        generalize wr.drewN nq = wd at *
        rw [e] at hy
        gi_wp2
        refine HR.out.mono ?_
        rintro e W3 (⟨rfl, hJ3, hk3⟩ | ⟨rfl, hJx3⟩)
        · have HJ3 := Lib.hid hJ3
          have HK3 := Lib.hid hk3
          have b3 : W3.heap[bn]? = some (.cells #[.int .i64 64] 3 (0, 0)) := hk3.2.trans (HK.out.2.trans hbn)
          have c3 : W3.cell? ⟨bn, 0, none⟩ = some (.int .i64 64) := by rw [cell_of_row W3 bn 0 _ _ _ b3]; rfl
          clear hJ3 hk3 b3
          gi_wp2
          go_roundw
          case rel => exact ⟨k + 1, by omega, by go_num, by rw [ups_succ hlt]; exact HJ3.out, HK3.out.1.trans HK.out.1, HK3.out.2.trans HK.out.2⟩
          case measure => simp [intOf]; omega
        · have HJ3 := Lib.hid hJx3
          clear hJx3
          gi_wp2
          refine bodyPost_ret (results_none rfl _ _ _) rfl ?_
          exact ⟨⟨_, rfl⟩, .inr ⟨_, ⟨k, hlt, (ups_succ hlt).symm⟩, HJ3.out⟩⟩
    · obtain rfl : k = cnt len := by omega
      have hle : len ≤ 64 * cnt len := by unfold cnt; omega
      gi_wp2
      go_end0
      exact ⟨⟨_, rfl⟩, .inl ⟨_, rfl, HJ.out.1⟩⟩
end Go.Proofs.Ytembonenaoineaa
