/- slices.Backward at versions: what its iterator hands over, from the last one to the first. Conditions: the row lies in memory, as long as the loop goes on. -/
import Derived.Test.YtpjjpjdamieeeaaPg
import Derived.RangeFuncNested
import Derived.RangeFuncBound
import Derived.RangeFuncCalls
import Derived.RangeFuncLeaves
import Derived.Shelf.Abstract
import Derived.Shelf.RegionOpen
import Derived.WalkKit
import Derived.OwnWalkIn
import Derived.TacticsInMore
import Derived.LoopNIn
import Derived.LoopIn
import Derived.IntWalk
import Derived.RegionIn
import Derived.BigRegionIn
namespace Go.Proofs.Ytpjjpjdamieeeaa
set_option maxRecDepth 100000
set_option linter.unusedVariables false
open Go.ChangeShapes Go.WideShapes Go.ChangeAt Go.RowKit Go.Shelf
attribute [local go_sem] Oper.semAt_some
/-- The last k places of n, from the last one on. -/
def dns (n : Nat) : Nat → List (Fin n)
  | 0 => []
  | k + 1 => if h : k < n then dns n k ++ [⟨n - 1 - k, by omega⟩] else dns n k
theorem dns_len {n : Nat} : ∀ k, k ≤ n → (dns n k).length = k
  | 0, _ => rfl
  | k + 1, h => by rw [dns, dif_pos (show k < n by omega), List.length_append, dns_len k (by omega)]; rfl
theorem dns_succ {n k : Nat} (h : k < n) : dns n (k + 1) = dns n k ++ [⟨n - 1 - k, by omega⟩] := by rw [dns, dif_pos h]
theorem dns_mem {n : Nat} : ∀ k, k ≤ n → ∀ j : Fin n, n - k ≤ j.1 → j ∈ dns n k
  | 0, _, j, h => by have := j.2; omega
  | k + 1, h, j, hj => by
    rw [dns_succ (by omega), List.mem_append]
    by_cases e : n - k ≤ j.1
    · exact .inl (dns_mem k (by omega) j e)
    · refine .inr (List.mem_singleton.2 (Fin.ext ?_))
      show j.1 = n - 1 - k
      omega
def bkA (l : List (Ver Int)) (x : Fin l.length) : Array Value := #[.int .i64 (x.1 : Nat), .agg #[.int .i64 l[x.1].w, .int .i64 (kv l[x.1]), .bool l[x.1].g]]
set_option maxHeartbeats 2000000 in
theorem back1_in (n : Nat) (hn : 1 ≤ n) (lp bs n0 : Nat) (v : Value) (l : List (Ver Int)) (hbs0 : bs < n0)
    (J Jx : List (Fin l.length) → World → Prop)
    (hY : ∀ pre x W1, J pre W1 → pre.length < l.length → YieldAt Fence.wide (n - 1) Try.prog lp (bkA l x) W1 fun e W' =>
      (e = .returned (.bool true) ∧ J (pre ++ [x]) W' ∧ Below n0 W1 W') ∨ (e = .returned (.bool false) ∧ Jx (pre ++ [x]) W'))
    (W : World) (hbs : W.heap[bs]? = some (.cells #[v] 83 (0, 0))) (hr : ORow W 85 3 v l.length (pvs l)) (hv0 : ∀ k, v.ownBlock = some k → k < n0) (h0 : J [] W) :
    CallsIn Fence.wide n Try.prog 63 #[.func (.yield lp) #[] #[], .pointer (some ⟨bs, 0, none⟩)] W fun e W' => (∃ v, e = .returned v) ∧
      ((∃ ys, ys = dns l.length l.length ∧ J ys W') ∨ (∃ pre, (∃ k, k < l.length ∧ pre = dns l.length (k + 1)) ∧ Jx pre W')) := by
  have hbig := hr.big
  obtain ⟨A, cp, rfl⟩ := hr.slice
  have HR := Lib.hid (fun W' (hW : Below n0 W W') => hr.same (w' := W') (fun k hk => hW.block k (hv0 k hk)))
  have HBS := Lib.hid (fun W' (hW : Below n0 W W') => (hW.block bs hbs0).trans hbs)
  have c0 : W.cell? ⟨bs, 0, none⟩ = some (.slice A l.length cp) := (cell_of_row W bs 0 _ _ _ hbs).trans rfl
  clear hr hbs
  refine callsIn_of_wp Try.func63 rfl trivial ?_ rfl
  simp only [Try.ntmps63, List.size_toArray, List.length_cons, List.length_nil, Nat.reduceAdd, Nat.reduceSub, Array.replicate_succ, Array.replicate_zero, List.push_toArray, List.append_toArray, List.nil_append, List.cons_append]
  gi_wp2
  gi_loopw [3] (fun i wr => ∃ k : Nat, k ≤ l.length ∧ i = .int .i64 ((l.length : Int) - 1 - (k : Nat)) ∧ Hid (J (dns l.length k) wr) ∧ Hid (Below n0 W wr)) (fun i _ => ((intOf i) + 1).toNat)
  case atStart => exact ⟨0, Nat.zero_le _, by go_num, h0, Below.refl _ _⟩
  case round =>
    obtain ⟨k, hk, rfl, HJ, HB⟩ := hrel
    have hb1 := HBS.out wr HB.out
    have c1 : wr.cell? ⟨bs, 0, none⟩ = some (.slice A l.length cp) := by rw [cell_of_row wr bs 0 _ _ _ hb1]; rfl
    clear hb1 c0
    by_cases hlt : k < l.length
    · have hm : l.length - 1 - k < l.length := by omega
      obtain ⟨g, o, cp', hgg, hcp⟩ := (HR.out wr HB.out).form (by omega)
      injection hgg with hgg _ hcc
      subst hgg
      subst hcc
      obtain ⟨q0, q1, q2, _⟩ := orow_at (HR.out wr HB.out) hm
      obtain ⟨fn, tmps, assign, body, hy, hR⟩ := hY _ ⟨l.length - 1 - k, hm⟩ wr HJ.out (by rw [dns_len k hk]; exact hlt)
      have HR2 := Lib.hid hR
      have HS2 := Lib.hid (dns_succ hlt)
      unfold bkA at hy
      simp only at hy
      obtain ⟨y, hye⟩ : ∃ y, y = l[l.length - 1 - k] := ⟨_, rfl⟩
      rw [← hye] at q0 q1 q2 hy
      clear hye
      obtain ⟨m, hm2⟩ : ∃ m, m = l.length - 1 - k := ⟨_, rfl⟩
      have HM2 := Lib.hid hm2
      have hmi : (l.length : Int) - 1 - (k : Nat) = (m : Nat) := by omega
      have hmw : IntKind.i64.wrap (m : Int) = (m : Int) := wrapI (by omega)
      have hml : m < l.length := by omega
      rw [hmi]
      rw [← hm2] at q0 q1 q2 hy
      have hm0 : (0 : Int) ≤ (m : Int) := by omega
      clear hR hm2 hmi
      gi_wp2
      refine HR2.out.mono ?_
      rintro e W3 (⟨rfl, hJ3, hk3⟩ | ⟨rfl, hJx3⟩)
      · have HJ3 := Lib.hid hJ3
        have HK3 := Lib.hid hk3
        clear hJ3 hk3
        gi_wp2
        go_roundw
        case rel => exact ⟨k + 1, by omega, by have := HM2.out; congr 1; omega, by rw [HS2.out]; exact HJ3.out, HB.out.trans HK3.out⟩
        case measure => simp [intOf]
      · have HJ3 := Lib.hid hJx3
        clear hJx3
        gi_wp2
        refine bodyPost_ret (results_none rfl _ _ _) rfl ?_
        exact ⟨⟨_, rfl⟩, .inr ⟨_, ⟨k, hlt, HS2.out.symm⟩, HJ3.out⟩⟩
    · obtain rfl : k = l.length := by omega
      have hmi : (l.length : Int) - 1 - (l.length : Nat) = -1 := by omega
      rw [hmi]
      gi_wp2
      go_end0
      exact ⟨⟨_, rfl⟩, .inl ⟨_, rfl, HJ.out⟩⟩
theorem back_stops (n : Nat) (hn : 1 ≤ n) (bs : Nat) (v : Value) (l : List (Ver Int)) (w : World) (hbs : w.heap[bs]? = some (.cells #[v] 83 (0, 0))) (hr : ORow w 85 3 v l.length (pvs l)) :
    SeqStopsK Fence.wide n Try.prog 63 #[.pointer (some ⟨bs, 0, none⟩)] (bkA l) (Below w.heap.size) (fun ys => ys = dns l.length l.length) (fun pre => ∃ k, k < l.length ∧ pre = dns l.length (k + 1)) l.length w := fun lp J Jx W hW hJ hJx hY h0 =>
  back1_in n hn lp bs w.heap.size v l (block_lt hbs) J Jx hY W ((hW.block bs (block_lt hbs)).trans hbs) (hr.same (fun k hk => hW.block k (hr.lt k hk))) hr.lt h0
theorem back_any (v : Value) (w : World) (hv : ∃ A n c, v = .slice A n c) : Calls Try.prog 46 #[v] w fun e w' => e = .returned (.func (.func 63) #[] #[.pointer (some ⟨w.heap.size, 0, none⟩)]) ∧ w.alloc (.cells #[v] 83) = w' := by
  obtain ⟨A, n, c, rfl⟩ := hv
  go_enter Try.func46, Try.ntmps46
  go_wp2
  go_ret
  exact ⟨rfl, rfl⟩
end Go.Proofs.Ytpjjpjdamieeeaa
