/- Proved: ligaturelaw1.RealSums returns true for every list of uint64, and leaves its argument as it was. No condition. -/
import Derived.Test.YtoladfiajalmoaaRows
import Derived.Test.YtoladfiajalmoaaWalk
import Derived.Test.YtoladfiajalmoaaSum
import Derived.Test.YtoladfiajalmoaaEdge
import Derived.Test.YtoladfiajalmoaaRow
import Derived.WalkKit
import Derived.ProofKit
import Derived.OpenShut
import Derived.ShutString
import Derived.ChangeOld
import Derived.Below
namespace Go.Proofs.Ytoladfiajalmoaa.realSums
open Fl (S IR nanB normN keyN NaNw cmpK unkN ofB)
open Go.ChangeShapes Go.WideShapes Go.ChangeAt Go.RowKit
open Go.ChangeMaps (open_string shut_string)
set_option linter.unusedVariables false

theorem own : ownKnob Try.prog.godebug = none := by kernel_rfl
theorem laidOut : laidOutB Try.prog = true := by kernel_rfl

/-- WHAT THE WALK IS TOLD OF A SLICE OF INTEGERS THAT CAME IN: it is nil; or it leads to a row of 'cap' cells, the numbers 'zs' (the first 'len' are its elements, the rest its spare room), each fitting its kind. -/
def IsRow (k : IntKind) (w : World) (a : Option Addr) (len cap : Nat) (zs : List Int) : Prop :=
  (a = none ∧ len = 0 ∧ cap = 0 ∧ zs = []) ∨
  ∃ x, a = some x ∧ len ≤ cap ∧ cap ≤ maxLen ∧ zs.length = cap ∧ (∀ i, i < zs.length → w.cell? (x.add i) = some (.int k (zs.getD i 0))) ∧ ∀ n ∈ zs, (Lit.int k n).wf = true

/-- What came in, as one list: nil or not. -/
theorem opened {w : World} {a : Option Addr} {len cap : Nat} {z : List Int} (h : IsRow .u64 w a len cap z) :
    ∃ zs : List Int, len = zs.length ∧ IRow .u64 w a zs ∧ ∀ n ∈ zs, (Lit.int .u64 n).wf = true := by
  rcases h with ⟨rfl, rfl, rfl, rfl⟩ | ⟨x, rfl, h1, h2, h3, h4, h5⟩
  · exact ⟨[], rfl, fun i hi => absurd hi (by simp), by simp⟩
  · refine ⟨z.take len, by simp; omega, fun i hi => ⟨x, rfl, ?_⟩, fun n hn => h5 n (List.mem_of_mem_take hn)⟩
    have hi' : i < len ∧ i < z.length := by simp at hi; omega
    rw [h4 i hi'.2]; simp [hi'.2]
def words (zs : List Int) (k : Nat) : List Value := (zs.take k).map fun z => Value.float .f64 z.toNat
theorem words_all (zs : List Int) : words zs zs.length = (zs.map Int.toNat).map (Value.float .f64) := by
  unfold words; rw [List.take_length, List.map_map]; rfl
theorem words_succ (zs : List Int) (k : Nat) (h : k < zs.length) : words zs (k + 1) = words zs k ++ [.float .f64 zs[k].toNat] := by
  unfold words; rw [List.take_succ_eq_append_getElem h, List.map_append]; rfl

/-! ### STEP 1: THE WALK: the Go text returns true, AND WRITES NOTHING THAT WAS THERE: 'Below w.heap.size w w'' (Derived/Below.lean: '.refl', '.alloc', '.drew', '.setCell' at a new block, '.trans'). Open each 'IsRow' by 'rcases' AHEAD of 'go_enter'; part every test ahead of the walk. -/
theorem walk (a0 : Option Addr) (len0 cap0 : Nat) (z0 : List Int) (w : World) (w0 : IsRow .u64 w a0 len0 cap0 z0) :
    Calls Try.prog 4 #[.slice a0 len0 cap0] w fun e w' => e = .returned (.bool true) ∧ Below w.heap.size w w' := by
  obtain ⟨zs, hz, hr, hwf⟩ := opened w0
  have HR := Lib.hid hr
  have HW := Lib.hid hwf
  clear hr hwf w0
  subst hz
  by_cases hbig : 200 < zs.length
  · go_enter Try.func4, Try.ntmps4
    go_wp2
    go_ret
    exact ⟨rfl, Below.refl _ _⟩
  · obtain ⟨i0, hi0, hz0, hz1, hz2⟩ := info_parts info23
    have hbig2 : zs.length ≤ 200 := by omega
    go_enter Try.func4, Try.ntmps4
    go_wp2
    go_loopw [3, 4] (fun f i w1 => ∃ k : Nat, k ≤ zs.length ∧ i = .int .i64 k ∧ w1.ownsRow w.heap.size 23 1 f k (words zs k) ∧ Below w.heap.size w w1) (fun _ i _ => zs.length - (intOf i).toNat)
    case atStart => exact ⟨0, Nat.zero_le _, rfl, World.ownsRow_nil _ _ _ _, Below.refl _ _⟩
    case round =>
      obtain ⟨k, hk, rfl, hown, hbel⟩ := hrel
      by_cases hlt : k < zs.length
      · obtain ⟨ad, rfl, hc⟩ := (HR.out.below hbel) k hlt
        have HS := Lib.hid (words_succ zs k hlt)
        have hsz := hbel.size
        go_wp2_with (at_builtin; refine wpList_append_own _ rfl _ _ 33 rfl w.heap.size 23 i0 (.float .f64 0) 1 8 Try.underlying33 hi0 hz0 hz1 hz2 rfl (by decide) _ _ _ rfl (hown.alloc _) ⟨_, 0, none⟩ 1 1 [.float .f64 zs[k].toNat] rfl rfl ?c1 ?c2 ?c3 ?c4 ?c5 ?_)
        case c1 => exact cell_one_new _ _ _
        case c2 => intro u hu; simp at hu; subst hu; rfl
        case c3 => unfold maxLen; omega
        case c4 => omega
        case c5 => simp; omega
        intro v' w2 hown' hgrow' _
        have hbel' : Below w.heap.size w w2 := (hbel.alloc hsz _).grown hgrow' (by simp; omega) (fun g hg => (hown.lt g hg).1)
        rw [← HS.out] at hown'
        clear hgrow' hown hbel
        go_wp2
        exact ⟨⟨k + 1, hlt, by go_num, hown', hbel'⟩, by simp [intOf]; omega⟩
      · obtain rfl : k = zs.length := by omega
        obtain ⟨A, c, rfl⟩ := own_slice hown
        have hfr : FRow wr A (zs.map Int.toNat) := frow_own (base := w.heap.size) (c := c) (by rw [words_all] at hown; simpa using hown)
        have HF := Lib.hid hfr
        have hle : (zs.map Int.toNat).length ≤ 1000 := by simp; omega
        have HL := Lib.hid (show (zs.map Int.toNat).length = zs.length by simp)
        have hsum := fun W h => sum_any A (zs.map Int.toNat) c W h hle
        have hrsum := fun W h => rsum_any A (zs.map Int.toNat) c W h hle
        have Hsum := Lib.hid hsum
        have Hrsum := Lib.hid hrsum
        clear hsum hrsum hfr hown hle
        rw [HL.out] at Hsum Hrsum
        go_wp2_with fail
        refine (Hsum.out _ HF.out).mono ?_
        rintro e w' ⟨rfl, m, rfl⟩
        go_wp2_with fail
        refine (Hrsum.out _ (frow_drewN HF.out _)).mono ?_
        rintro e w' ⟨rfl, m2, rfl⟩
        go_wp2_with fail
        refine (same_any _ _ _).mono ?_
        rintro e w' ⟨rfl, rfl⟩
        rw [show sameB (Fl.sumN (zs.map Int.toNat)) (Fl.sumN (zs.map Int.toNat)) = true by simp [sameB]]
        go_wp2_with fail
        refine (sum_any none [] 0 _ (fun k hk => absurd hk (by simp)) (by simp)).mono ?_
        rintro e w' ⟨rfl, m3, rfl⟩
        rw [show Fl.sumN [] = 0 by decide +kernel]
        go_wp2_with fail
        refine (same_any _ _ _).mono ?_
        rintro e w' ⟨rfl, rfl⟩
        rw [show sameB 0 0 = true from rfl]
        go_wp2_with fail
        refine (known_any _).mono ?_
        rintro e w' ⟨rfl, rfl⟩
        go_wp2_with fail
        go_ret
        exact ⟨rfl, by repeat (first | exact hbel | refine below_drewN ?_ _)⟩

/-! ### THE ROW's STEP: WRITTEN OUT: LEAVE IT -/
set_option maxRecDepth 100000 in
theorem lifted (os : Os) (started : os.Started) (H : Type) (enc : TypeId × Value → H) :
    ReturnsInHanded {} Try.checked os 4 .any (Rows.realSumsSpec.pre6 enc Try.prog Try.f4 Rows.realSumsRow.domain false) (Rows.realSumsSpec.post enc Try.prog Try.f4 false true false false) := by
  refine returnsInHanded_of_change (C := Try.checked) own started (by kernel_rfl) Try.func4
    (ChangeSpec.witness6 (enc := enc) (C := Try.checked) false ⟨#[], #[.slice none 0 0], []⟩ 8 (by kernel_rfl) (by kernel_rfl) (by kernel_rfl) (by kernel_rfl)) ?_
  intro W base args ds gs before hval0 hW hcnd _
  have hval : ∀ (j : Nat) t v, Try.f4.params[j]? = some t → args[j]? = some v → Value.okWide Try.prog W .any base t v := hval0
  have hW' := hW
  obtain ⟨p, q, hA0, hV, rfl, hfz, hnd⟩ := hW
  have hA : DataW.TrodAll enc Try.prog W 0 (fun _ => true) true Try.f4.params.toList args.toList ds p := hA0
  rw [Try.params4] at hA hval
  obtain ⟨v0, vs0, d0, ds0, p0, q0, hargs, rfl, rfl, h0, r0⟩ := trodAll_cons hA
  obtain ⟨rfl, rfl, rfl⟩ := trodAll_nil r0
  obtain rfl : args = #[v0] := by cases args; simp_all
  obtain ⟨rfl, rfl⟩ := trodVars_none hV
  obtain ⟨a0, len0, cap0, rfl⟩ := okWide_slice Try.underlying32 (hval 0 32 v0 rfl rfl)
  have k0 := h0
  have lt0 : ∀ x ∈ p0, x.block < W.heap.size := by obtain ⟨m, hm⟩ := k0; exact DataW.trod_lt m _ _ _ hm
  obtain ⟨z0, w0⟩ : ∃ zs, IsRow .u64 W a0 len0 cap0 zs := by
    obtain ⟨fuel, hf⟩ := h0
    rcases open_ints Try.underlying32 Try.underlying22 (by kernel_rfl) hf with ⟨hcs, _⟩ | ⟨x, l, c, zs, hcs, _, hl, hm, hz, _, hcell, hwz⟩
    · simp [Value.cells] at hcs
      obtain ⟨rfl, rfl, rfl⟩ := hcs
      exact ⟨[], .inl ⟨rfl, rfl, rfl, rfl⟩⟩
    · simp [Value.cells] at hcs
      obtain ⟨rfl, rfl, rfl⟩ := hcs
      exact ⟨zs, .inr ⟨_, rfl, hl, hm, by simpa using hz, hcell, hwz⟩⟩
  clear hA0 hval0
  refine (walk a0 len0 cap0 z0 W w0).mono fun e W' ⟨he, bel⟩ => ?_
  subst he
  exact ⟨_, rfl, _, _, _, [], _, [], hW', trodAll_mk1 (shut_bool Try.underlying4 _), (trodAll_cons_mk (Below.trod laidOut (by kernel_rfl) (of_decide_eq_true (by kernel_rfl)) k0 bel lt0) trodAll_mk0), rfl, bel.frame _, fun h => by cases h⟩

theorem over : Rows.realSumsRow.holds Try.pinned (OpenSpec.ofChange Rows.realSumsSpec) :=
  OpenClaim.holds_of_wide 4 Try.f4 rfl rfl rfl rfl rfl rfl rfl ⟨rfl, rfl, rfl, rfl, rfl⟩ rfl rfl rfl rfl rfl (by kernel_rfl) Try.func4 (by kernel_rfl)
    (of_decide_eq_true (by kernel_rfl)) (by unfold Func.isWrapper; first | (rw [if_pos (by decide +kernel)]; kernel_rfl) | (rw [if_neg (by decide +kernel)]; exact ⟨rfl, rfl⟩))
    (fun os started H enc _ => lifted os started H enc)

/-- ████ THE STATEMENT ████ -/
theorem proved : Rows.RealSumsSaid := over
#print axioms proved
end Go.Proofs.Ytoladfiajalmoaa.realSums
