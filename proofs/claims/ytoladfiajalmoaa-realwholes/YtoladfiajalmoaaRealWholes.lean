/- Proved: ligaturelaw1.RealWholes returns true for every list of int and all int a and b, and leaves its arguments as they were. No condition. -/
import Derived.Test.YtoladfiajalmoaaRows
import Derived.Test.YtoladfiajalmoaaWalk
import Derived.Test.YtoladfiajalmoaaSum
import Derived.Test.YtoladfiajalmoaaEdge
import Derived.Test.YtoladfiajalmoaaRow
import Derived.Test.YtoladfiajalmoaaInt
import Derived.WalkKit
import Derived.ProofKit
import Derived.OpenShut
import Derived.ShutString
import Derived.ChangeOld
import Derived.Below
namespace Go.Proofs.Ytoladfiajalmoaa.realWholes
open Fl (S IR nanB normN keyN NaNw cmpK unkN ofB)
open Go.ChangeShapes Go.WideShapes Go.ChangeAt Go.RowKit
open Go.ChangeMaps (open_string shut_string)
set_option linter.unusedVariables false

theorem own : ownKnob Try.prog.godebug = none := by kernel_rfl
theorem laidOut : laidOutB Try.prog = true := by kernel_rfl

/-- WHAT THE WALK IS TOLD OF A SLICE OF INTEGERS THAT CAME IN: it is nil; or it leads to a row of 'cap' cells, the numbers 'zs' (the first 'len' are its elements, the rest its spare room), each fitting its kind. -/
def IsRow (k : IntKind) (w : World) (a : Option Addr) (len cap : Nat) (zs : List Int) : Prop :=
  (a = none ∧ len = 0 ∧ cap = 0 ∧ zs = []) ∨
  ∃ x, a = some x ∧ len ≤ cap ∧ cap ≤ maxLen ∧ zs.length = cap ∧ (∀ i, i < zs.length → w.cell? (x.add i) = some (.int k (zs.getD i 0))) ∧ ∀ n ∈ zs, (Lit.int k n).wf = true

/-- What came in, as one list: nil or not. -/
theorem opened {w : World} {a : Option Addr} {len cap : Nat} {z : List Int} (h : IsRow .i64 w a len cap z) :
    ∃ zs : List Int, len = zs.length ∧ IRow .i64 w a zs ∧ ∀ n ∈ zs, (Lit.int .i64 n).wf = true := by
  rcases h with ⟨rfl, rfl, rfl, rfl⟩ | ⟨x, rfl, h1, h2, h3, h4, h5⟩
  · exact ⟨[], rfl, fun i hi => absurd hi (by simp), by simp⟩
  · refine ⟨z.take len, by simp; omega, fun i hi => ⟨x, rfl, ?_⟩, fun n hn => h5 n (List.mem_of_mem_take hn)⟩
    have hi' : i < len ∧ i < z.length := by simp at hi; omega
    rw [h4 i hi'.2]; simp [hi'.2]
/-- The numbers that are added, and their sum so far. -/
def cutz (zs : List Int) : List Int := zs.map fun z => z % 1048576 - 500000
def tot (zs : List Int) (k : Nat) : Int := Fl.isum (cutz (zs.take k))
def words (zs : List Int) (k : Nat) : List Value := (cutz (zs.take k)).map fun z => Value.float .f64 (Fl.encI z)
theorem cutz_bd (zs : List Int) : ∀ x ∈ cutz zs, x.natAbs ≤ 1048576 := by
  intro x hx
  obtain ⟨z, _, rfl⟩ := List.mem_map.1 hx
  omega
theorem words_succ (zs : List Int) (k : Nat) (h : k < zs.length) : words zs (k + 1) = words zs k ++ [.float .f64 (Fl.encI (zs[k] % 1048576 - 500000))] := by
  unfold words cutz; rw [List.take_succ_eq_append_getElem h, List.map_append, List.map_append]; rfl
theorem tot_succ (zs : List Int) (k : Nat) (h : k < zs.length) : tot zs (k + 1) = tot zs k + (zs[k] % 1048576 - 500000) := by
  unfold tot cutz; rw [List.take_succ_eq_append_getElem h, List.map_append]; exact Fl.isum_snoc _ _
theorem tot_bd (zs : List Int) (k : Nat) (h : k ≤ 100) : -104857600 ≤ tot zs k ∧ tot zs k ≤ 104857600 := by
  have h1 := Fl.isum_bd (cutz (zs.take k)) (cutz_bd _)
  have h2 : (cutz (zs.take k)).length ≤ 100 := by unfold cutz; simp; omega
  unfold tot; omega
theorem masked (a : Int) : ∃ p : Nat, bits .and .i64 a 268435455 = (p : Int) ∧ p < 268435456 := ⟨(a % 268435456).toNat, by rw [Fl.and28]; omega, by omega⟩
theorem words_all (zs : List Int) : words zs zs.length = ((cutz zs).map Fl.encI).map (Value.float .f64) := by
  unfold words; rw [List.take_length, List.map_map]; rfl

/-! ### STEP 1: THE WALK: the Go text returns true, AND WRITES NOTHING THAT WAS THERE: 'Below w.heap.size w w'' (Derived/Below.lean: '.refl', '.alloc', '.drew', '.setCell' at a new block, '.trans'). Open each 'IsRow' by 'rcases' AHEAD of 'go_enter'; part every test ahead of the walk. -/
theorem walk (a0 : Option Addr) (len0 cap0 : Nat) (z0 : List Int) (a1 : Int) (a2 : Int) (w : World) (w0 : IsRow .i64 w a0 len0 cap0 z0) (w1 : (Lit.int .i64 a1).wf = true) (w2 : (Lit.int .i64 a2).wf = true) :
    Calls Try.prog 7 #[.slice a0 len0 cap0, .int .i64 a1, .int .i64 a2] w fun e w' => e = .returned (.bool true) ∧ Below w.heap.size w w' := by
  obtain ⟨zs, hz, hr, hwf⟩ := opened w0
  have HR := Lib.hid hr
  clear hr hwf w0
  subst hz
  by_cases hbig : 100 < zs.length
  · go_enter Try.func7, Try.ntmps7
    go_wp2
    go_ret
    exact ⟨rfl, Below.refl _ _⟩
  · obtain ⟨i0, hi0, hz0, hz1, hz2⟩ := info_parts info23
    have hbig2 : zs.length ≤ 100 := by omega
    go_enter Try.func7, Try.ntmps7
    go_wp2
    go_loopw [7, 8, 9] (fun s f i w1 => ∃ k : Nat, k ≤ zs.length ∧ i = .int .i64 k ∧ s = .int .i64 (tot zs k) ∧ w1.ownsRow w.heap.size 23 1 f k (words zs k) ∧ Below w.heap.size w w1) (fun _ _ i _ => zs.length - (intOf i).toNat)
    case atStart => exact ⟨0, Nat.zero_le _, rfl, rfl, World.ownsRow_nil _ _ _ _, Below.refl _ _⟩
    case round =>
      obtain ⟨k, hk, rfl, rfl, hown, hbel⟩ := hrel
      have hb0 := tot_bd zs k (by omega)
      by_cases hlt : k < zs.length
      · obtain ⟨ad, rfl, hc⟩ := (HR.out.below hbel) k hlt
        have HS := Lib.hid (words_succ zs k hlt)
        have HT := Lib.hid (tot_succ zs k hlt)
        have hsz := hbel.size
        have hand := Fl.and20 zs[k]
        have hm1 : 0 ≤ zs[k] % 1048576 := by omega
        have hm2 : zs[k] % 1048576 < 1048576 := by omega
        go_wp2_with (at_builtin; refine wpList_append_own _ rfl _ _ 33 rfl w.heap.size 23 i0 (.float .f64 0) 1 8 Try.underlying33 hi0 hz0 hz1 hz2 rfl (by decide) _ _ _ rfl (hown.alloc _) ⟨_, 0, none⟩ 1 1 [.float .f64 (Fl.encI (zs[k] % 1048576 - 500000))] rfl rfl ?c1 ?c2 ?c3 ?c4 ?c5 ?_)
        case c1 => exact cell_one_new _ _ _
        case c2 => intro u hu; simp at hu; subst hu; rfl
        case c3 => unfold maxLen; omega
        case c4 => omega
        case c5 => simp; omega
        intro v' w2 hown' hgrow' _
        have hbel' : Below w.heap.size w w2 := (hbel.alloc hsz _).grown hgrow' (by simp; omega) (fun g hg => (hown.lt g hg).1)
        rw [← HS.out] at hown'
        clear hgrow' hown hbel
        go_wp2
        exact ⟨⟨k + 1, hlt, by go_num, by rw [HT.out], hown', hbel'⟩, by simp [intOf]; omega⟩
      · obtain rfl : k = zs.length := by omega
        obtain ⟨A, c, rfl⟩ := own_slice hown
        obtain ⟨p, hp, hpl⟩ := masked a1
        obtain ⟨q, hq, hql⟩ := masked a2
        have hfr : FRow wr A ((cutz zs).map Fl.encI) := frow_own (base := w.heap.size) (c := c) (by rw [words_all] at hown; simpa [cutz] using hown)
        have HF := Lib.hid hfr
        have hle : ((cutz zs).map Fl.encI).length ≤ 1000 := by simp [cutz]; omega
        have HL := Lib.hid (show ((cutz zs).map Fl.encI).length = zs.length by simp [cutz])
        have Hsum := Lib.hid (fun W h => sum_any A ((cutz zs).map Fl.encI) c W h hle)
        have HI := Lib.hid (show Fl.sumN ((cutz zs).map Fl.encI) = floatOfInt .f64 (tot zs zs.length) by
          rw [Fl.sum_int _ (cutz_bd zs) (by simp [cutz]; omega)]; unfold tot; rw [List.take_length]; rfl)
        have htot : (tot zs zs.length).natAbs < 2 ^ 53 := by omega
        have heq : (FloatKind.f64.format.order (floatOfInt .f64 (tot zs zs.length)) (floatOfInt .f64 (tot zs zs.length)) == some .eq) = true := by
          have := Fl.nanB_encI _ htot
          change nanB (floatOfInt .f64 (tot zs zs.length)) = false at this
          unfold nanB at this
          simpa [bne] using this
        have hlp : floatOfInt .f64 (p : Int) < 2 * S := Fl.encI_lt _ (by omega)
        have hlq : floatOfInt .f64 (q : Int) < 2 * S := Fl.encI_lt _ (by omega)
        have HC := Lib.hid (show cmpK (keyN (floatOfInt .f64 (p : Int))) (keyN (floatOfInt .f64 (q : Int))) = cmpK p q from Fl.cmp_encI p q (by omega) (by omega))
        clear hfr hown hle htot hb0
        rw [HL.out] at Hsum
        rcases Nat.lt_trichotomy p q with h | h | h
        · have hc : (cmpK p q == -1) = true := by rw [Fl.cmpK_lo h]; rfl
          go_wp2_with fail
          refine (Hsum.out _ HF.out).mono ?_
          rintro e w' ⟨rfl, m, rfl⟩
          rw [HI.out]
          go_wp2_with fail
          refine (cmp_any _ _ hlp hlq _).mono ?_
          rintro e w' ⟨rfl, rfl⟩
          rw [HC.out]
          go_wp2_with fail
          refine (known_any _).mono ?_
          rintro e w' ⟨rfl, rfl⟩
          go_wp2_with fail
          go_ret
          exact ⟨rfl, below_drewN hbel m⟩
        · have hc : (cmpK p q == 0) = true := by rw [Fl.cmpK_eq h]; rfl
          have h1 : ¬ p < q := by omega
          have h2 : ¬ q < p := by omega
          clear h
          go_wp2_with fail
          refine (Hsum.out _ HF.out).mono ?_
          rintro e w' ⟨rfl, m, rfl⟩
          rw [HI.out]
          go_wp2_with fail
          refine (cmp_any _ _ hlp hlq _).mono ?_
          rintro e w' ⟨rfl, rfl⟩
          rw [HC.out]
          go_wp2_with fail
          refine (known_any _).mono ?_
          rintro e w' ⟨rfl, rfl⟩
          go_wp2_with fail
          go_ret
          exact ⟨rfl, below_drewN hbel m⟩
        · have hc : (cmpK p q == 1) = true := by rw [Fl.cmpK_hi h]; rfl
          have h1 : ¬ p < q := by omega
          go_wp2_with fail
          refine (Hsum.out _ HF.out).mono ?_
          rintro e w' ⟨rfl, m, rfl⟩
          rw [HI.out]
          go_wp2_with fail
          refine (cmp_any _ _ hlp hlq _).mono ?_
          rintro e w' ⟨rfl, rfl⟩
          rw [HC.out]
          go_wp2_with fail
          refine (known_any _).mono ?_
          rintro e w' ⟨rfl, rfl⟩
          go_wp2_with fail
          go_ret
          exact ⟨rfl, below_drewN hbel m⟩

/-! ### THE ROW's STEP: WRITTEN OUT: LEAVE IT -/
set_option maxRecDepth 100000 in
theorem lifted (os : Os) (started : os.Started) (H : Type) (enc : TypeId × Value → H) :
    ReturnsInHanded {} Try.checked os 7 .any (Rows.realWholesSpec.pre6 enc Try.prog Try.f7 Rows.realWholesRow.domain false) (Rows.realWholesSpec.post enc Try.prog Try.f7 false true false false) := by
  refine returnsInHanded_of_change (C := Try.checked) own started (by kernel_rfl) Try.func7
    (ChangeSpec.witness6 (enc := enc) (C := Try.checked) false ⟨#[], #[.slice none 0 0, .int .i64 0, .int .i64 0], []⟩ 8 (by kernel_rfl) (by kernel_rfl) (by kernel_rfl) (by kernel_rfl)) ?_
  intro W base args ds gs before hval0 hW hcnd _
  have hval : ∀ (j : Nat) t v, Try.f7.params[j]? = some t → args[j]? = some v → Value.okWide Try.prog W .any base t v := hval0
  have hW' := hW
  obtain ⟨p, q, hA0, hV, rfl, hfz, hnd⟩ := hW
  have hA : DataW.TrodAll enc Try.prog W 0 (fun _ => true) true Try.f7.params.toList args.toList ds p := hA0
  rw [Try.params7] at hA hval
  obtain ⟨v0, vs0, d0, ds0, p0, q0, hargs, rfl, rfl, h0, r0⟩ := trodAll_cons hA
  obtain ⟨v1, vs1, d1, ds1, p1, q1, rfl, rfl, rfl, h1, r1⟩ := trodAll_cons r0
  obtain ⟨v2, vs2, d2, ds2, p2, q2, rfl, rfl, rfl, h2, r2⟩ := trodAll_cons r1
  obtain ⟨rfl, rfl, rfl⟩ := trodAll_nil r2
  obtain rfl : args = #[v0, v1, v2] := by cases args; simp_all
  obtain ⟨rfl, rfl⟩ := trodVars_none hV
  obtain ⟨a0, len0, cap0, rfl⟩ := okWide_slice Try.underlying43 (hval 0 43 v0 rfl rfl)
  have k0 := h0
  have lt0 : ∀ x ∈ p0, x.block < W.heap.size := by obtain ⟨m, hm⟩ := k0; exact DataW.trod_lt m _ _ _ hm
  obtain ⟨z0, w0⟩ : ∃ zs, IsRow .i64 W a0 len0 cap0 zs := by
    obtain ⟨fuel, hf⟩ := h0
    rcases open_ints Try.underlying43 Try.underlying3 (by kernel_rfl) hf with ⟨hcs, _⟩ | ⟨x, l, c, zs, hcs, _, hl, hm, hz, _, hcell, hwz⟩
    · simp [Value.cells] at hcs
      obtain ⟨rfl, rfl, rfl⟩ := hcs
      exact ⟨[], .inl ⟨rfl, rfl, rfl, rfl⟩⟩
    · simp [Value.cells] at hcs
      obtain ⟨rfl, rfl, rfl⟩ := hcs
      exact ⟨zs, .inr ⟨_, rfl, hl, hm, by simpa using hz, hcell, hwz⟩⟩
  obtain ⟨a1, rfl, rfl, rfl, w1⟩ := open_int Try.underlying3 (hval 1 3 v1 rfl rfl) h1
  obtain ⟨a2, rfl, rfl, rfl, w2⟩ := open_int Try.underlying3 (hval 2 3 v2 rfl rfl) h2
  clear hA0 hval0
  refine (walk a0 len0 cap0 z0 a1 a2 W w0 w1 w2).mono fun e W' ⟨he, bel⟩ => ?_
  subst he
  exact ⟨_, rfl, _, _, _, [], _, [], hW', trodAll_mk1 (shut_bool Try.underlying4 _), (trodAll_cons_mk (Below.trod laidOut (by kernel_rfl) (of_decide_eq_true (by kernel_rfl)) k0 bel lt0) (trodAll_cons_mk (shut_int Try.underlying3 w1) (trodAll_cons_mk (shut_int Try.underlying3 w2) trodAll_mk0))), rfl, bel.frame _, fun h => by cases h⟩

theorem over : Rows.realWholesRow.holds Try.pinned (OpenSpec.ofChange Rows.realWholesSpec) :=
  OpenClaim.holds_of_wide 7 Try.f7 rfl rfl rfl rfl rfl rfl rfl ⟨rfl, rfl, rfl, rfl, rfl⟩ rfl rfl rfl rfl rfl (by kernel_rfl) Try.func7 (by kernel_rfl)
    (of_decide_eq_true (by kernel_rfl)) (by unfold Func.isWrapper; first | (rw [if_pos (by decide +kernel)]; kernel_rfl) | (rw [if_neg (by decide +kernel)]; exact ⟨rfl, rfl⟩))
    (fun os started H enc _ => lifted os started H enc)

/-- ████ THE STATEMENT ████ -/
theorem proved : Rows.RealWholesSaid := over
#print axioms proved
end Go.Proofs.Ytoladfiajalmoaa.realWholes
