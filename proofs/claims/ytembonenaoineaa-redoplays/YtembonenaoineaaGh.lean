/- What split and Open of package redo do: contracts. Conditions: the Drum lies in memory. -/
import Derived.Test.YtembonenaoineaaGf
import Derived.Lib.AppendStr
namespace Go.Proofs.Ytembonenaoineaa
set_option maxRecDepth 100000
set_option linter.unusedVariables false
open Go.ChangeShapes Go.WideShapes Go.ChangeAt Go.RowKit
open Lb (encI encIs encS In64 encI_len nxtI resI nxtS resS)

/-- How far the entries of b have been read: st remains, acc has come. -/
def SpI (b : List UInt8) (st : Option (List UInt8)) (acc : List (List UInt8)) : Prop :=
  match st with
  | some r => ents b = (ents r).map (acc ++ ·) ∧ acc.length + r.length ≤ b.length
  | none => ents b = none ∧ acc.length ≤ b.length
theorem SpI.start (b : List UInt8) : SpI b (some b) [] := ⟨by cases ents b <;> simp, by simp⟩
theorem SpI.next {b r : List UInt8} {acc : List (List UInt8)} (h : SpI b (some r) acc) (hr : r ≠ []) : SpI b (nxtS (some r)) (acc ++ [resS (some r)]) := by
  obtain ⟨h1, h2⟩ := h
  have hp := List.length_pos_iff.2 hr
  rw [ents_step hr] at h1
  cases hn : nxtS (some r) with
  | none =>
    rw [hn] at h1
    exact ⟨h1, by simp; omega⟩
  | some r' =>
    have hlt := nxtS_lt hn
    rw [hn] at h1
    refine ⟨?_, by simp; omega⟩
    rw [h1]
    simp only [Option.bind_some, Option.map_map]
    congr 1
    funext x
    simp
theorem SpI.done {b : List UInt8} {acc : List (List UInt8)} (h : SpI b (some []) acc) : ents b = some acc := by
  have := h.1
  rw [ents_nil] at this
  simpa using this
theorem SpI.no {b : List UInt8} {acc : List (List UInt8)} (h : SpI b none acc) : ents b = none := h.1
theorem SpI.few {b : List UInt8} {st : Option (List UInt8)} {acc : List (List UInt8)} (h : SpI b st acc) : acc.length ≤ b.length := by
  cases st with
  | none => exact h.2
  | some r => have := h.2; omega
theorem Cur.belowB {B : Nat} {w w' : World} {a : Nat} {g : Option Nat} {st : Option (List UInt8)} (h : Cur w a g st) (hb : Below B w w') (ha : a < B) (hg : ∀ k, g = some k → k < B) : Cur w' a g st := by
  obtain ⟨h1, h2, h3, h4, h5⟩ := h
  have e : ∀ o, w'.cell? ⟨a, o, none⟩ = w.cell? ⟨a, o, none⟩ := fun o => hb.cell (p := ⟨a, o, none⟩) ha
  have f : ∀ o, w'.frozen? ⟨a, o, none⟩ = w.frozen? ⟨a, o, none⟩ := fun o => hb.frozen (p := ⟨a, o, none⟩) ha
  refine ⟨Nat.lt_of_lt_of_le h1 hb.size, h2, by rw [f]; exact h3, by rw [f]; exact h4, ?_⟩
  cases st with
  | none => exact ⟨by rw [e]; exact h5.1, by rw [e]; exact h5.2⟩
  | some l =>
    obtain ⟨A, c, k1, k2, k3, k4, k5⟩ := h5
    refine ⟨A, c, by rw [e]; exact k1, by rw [e]; exact k2, ⟨fun i hi => ?_, k3.cap, k3.bare⟩, k4, k5⟩
    obtain ⟨ad, ea, hc⟩ := k3.cells i hi
    have hbk : some ad.block = g := (k4 ad ea).resolve_left (fun hl => by subst hl; simp at hi)
    exact ⟨ad, ea, (hb.cell (by rw [add_block]; exact hg _ hbk.symm)).trans hc⟩
def lenV : Value → Nat
  | .slice _ n _ => n
  | _ => 0
theorem Rs.len {L : Nat → Prop} {B : Nat} {w : World} {v : Value} {es : List (List UInt8)} (h : Rs L B w v es) : lenV v = es.length := by
  obtain ⟨A, c, rfl, _⟩ := h.open
  rfl
theorem Rs.mono {L L' : Nat → Prop} {B B' : Nat} {w : World} {v : Value} {es : List (List UInt8)} (h : Rs L B w v es) (hB : B' ≤ B) (hL : ∀ k, L k → L' k) : Rs L' B' w v es := by
  obtain ⟨rs, h1, h2, h3⟩ := h
  refine ⟨rs, h1, World.ownsRow.mono h2 hB, fun i hi => ?_⟩
  obtain ⟨A, c, e, hb, hA⟩ := h3 i hi
  exact ⟨A, c, e, hb, fun ad ea => by rcases hA ad ea with h | h; exact .inl h; exact .inr ⟨hL _ h.1, h.2⟩⟩
/-- The entries of b, or that there are none such. -/
def Splits (b : List UInt8) (w : World) (e : Ending) (w' : World) : Prop :=
  ∃ v, e = .returned (.tuple #[v, .bool (ents b).isSome]) ∧ Below w.heap.size w w' ∧ ∀ es, ents b = some es → Rs (fun k => w.heap.size ≤ k) w.heap.size w' v es
set_option maxHeartbeats 2000000 in
theorem split_any {w : World} (A : Option Addr) (b : List UInt8) (c : Nat) (hb : BS w A b c) (hl : b.length ≤ 10000) :
    Calls Try.prog 36 #[.slice A b.length c] w (Splits b w) := by
  have HO := Lib.hid (open_any A b c w hb (by omega))
  have Hcv := Lib.hid (fun (W : World) (s : ByteArray) => Lib.run_convert_string_bytes (P := Try.prog) W 9 36 5 s Try.underlying9 Try.underlying36 Try.underlying5)
  clear hb
  go_enter Try.func36, Try.ntmps36
  go_wp2_with fail
  refine HO.out.mono ?_
  rintro e w1 ⟨ca, g, rfl, hcur, hb1, hca, hg⟩
  have HC1 := Lib.hid hcur
  have hcl := hcur.1
  have HB1 := Lib.hid hb1
  have HG : Hid (∀ k, g = some k → k < w1.heap.size) := fun k e => by have := hg k e; omega
  have hz1 := hb1.size
  clear HO hcur hb1 hg
  go_wp2
  go_loopw [4] (fun v wr => ∃ (st : Option (List UInt8)) (acc : List (List UInt8)), Hid (SpI b st acc) ∧ Hid (Cur wr ca g st) ∧ Hid (Rs (fun k => w1.heap.size ≤ k) w1.heap.size wr v acc) ∧ Hid (Below w.heap.size w wr) ∧ w1.heap.size ≤ wr.heap.size) (fun v _ => b.length - lenV v)
  case atStart => exact ⟨some b, [], SpI.start b, HC1.out, Rs.nil _ _ _, HB1.out, Nat.le_refl _⟩
  case round =>
    clear HC1
    obtain ⟨st, acc, HS, HC, HR, HB, hzr⟩ := hrel
    cases st with
    | none =>
      have HN := Lib.hid HS.out.no
      go_wp2_with fail
      refine (good_any ca g none _ HC.out).mono ?_
      rintro e w' ⟨rfl, rfl⟩
      go_wp2_with fail
      refine (good_any ca g none _ HC.out).mono ?_
      rintro e w' ⟨rfl, rfl⟩
      go_wp2
      go_ret2
      refine ⟨_, by rw [HN.out]; rfl, HB.out, fun es h => by rw [HN.out] at h; cases h⟩
    | some r =>
      by_cases hr : r = []
      · subst hr
        have HN := Lib.hid HS.out.done
        go_wp2_with fail
        refine (good_any ca g (some []) _ HC.out).mono ?_
        rintro e w' ⟨rfl, rfl⟩
        go_wp2_with fail
        refine (whole_any ca g (some []) _ HC.out).mono ?_
        rintro e w' ⟨rfl, rfl⟩
        go_wp2_with fail
        refine (good_any ca g (some []) _ HC.out).mono ?_
        rintro e w' ⟨rfl, rfl⟩
        go_wp2
        go_ret2
        refine ⟨_, by rw [HN.out]; rfl, HB.out, fun es h => ?_⟩
        rw [HN.out] at h
        injection h with h
        subst h
        exact HR.out.mono hz1 (fun k hk => Nat.le_trans hz1 hk)
      · have HW : Hid (whole (some r) = false) := by simp only [Hid, whole]; simpa using hr
        have HS2 := Lib.hid (HS.out.next hr)
        have hlen : acc.length + 1 ≤ b.length := by have := HS2.out.few; simpa using this
        have HLV := Lib.hid HR.out.len
        have HWH := Lib.hid (whole_any ca g (some r) _ HC.out)
        rw [HW.out] at HWH
        clear hr HW
        go_wp2_with fail
        refine (good_any ca g (some r) _ HC.out).mono ?_
        rintro e w' ⟨rfl, rfl⟩
        go_wp2_with fail
        refine HWH.out.mono ?_
        rintro e w' ⟨rfl, rfl⟩
        go_wp2_with fail
        refine (cstr_any ca g (some r) _ HC.out).mono ?_
        rintro e w2 ⟨rfl, hc2, hg2⟩
        have hz2 := hg2.size
        have HR2 := Lib.hid (HR.out.chg (F := fun k => k = ca) ((Chg.refl _ _).grown hg2 (fun k e => by injection e with e; exact .inl e.symm)) (fun k hk e => by have := HR.out.lt hk; omega) (fun k hk e => by omega))
        have HB2 := Lib.hid (below_grown HB.out hg2 (Nat.le_refl _) (by omega))
        generalize resS (some r) = p at *
        have hcv := Hcv.out w2 (bstr p)
        have hb3 := bytes_below w2 (bstr p)
        have hbs3 := bytes_bs w2 (bstr p)
        have hpl : (bstr p).data.toList = p := rfl
        rw [hpl] at hbs3
        have hz3 := hb3.size
        have HBS3 := Lib.hid hbs3
        have HR3 := Lib.hid (HR2.out.below hb3)
        have HB3 := Lib.hid (HB2.out.trans (hb3.mono HB2.out.size))
        have HC3 := Lib.hid (Cur.below hc2 hb3)
        have HNE : Hid (∀ bd, some (⟨w2.heap.size, 0, none⟩ : Addr) = some bd → p = [] ∨ (w1.heap.size ≤ bd.block ∧ u4.ownBlock ≠ some bd.block)) := fun bd e => by
          injection e with e
          subst e
          exact .inr ⟨by simp only; omega, fun e => by have := HR2.out.lt e; simp only at this; omega⟩
        rw [bstr_size] at hcv HBS3
        generalize Lib.bytesWorld w2 5 (bstr p) = w3 at *
        generalize grownCap w2 p.length 0 5 = cp at *
        clear hc2 hg2 hb3 hbs3 hpl HC HR HB HR2 HB2 HWH
        go_wp2_with (at_builtin; refine wp_rs1 rfl _ _ rfl HR3.out rfl (some ⟨w2.heap.size, 0, none⟩) p cp rfl HBS3.out HNE.out (by omega) (by omega) ?_; intro v4 w4 hr4 hb4)
        have HR4 := Lib.hid hr4
        have HB4 := Lib.hid (HB3.out.trans (hb4.mono hz1))
        have HC4 := Lib.hid (HC3.out.belowB hb4 hcl HG.out)
        have HL4 := Lib.hid hr4.len
        have hz4 := hb4.size
        clear hr4 hb4 hcv
        go_wp2
        refine ⟨⟨nxtS (some r), acc ++ [p], HS2.out, HC4.out, HR4.out, HB4.out, by omega⟩, ?_⟩
        have e1 := HL4.out
        have e2 := HLV.out
        rw [List.length_append] at e1
        simp only [List.length_cons, List.length_nil] at e1
        omega
end Go.Proofs.Ytembonenaoineaa
