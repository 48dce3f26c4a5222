/- What the laws' helper 'may' of chapter 2 returns for a list of values in memory. -/
import Derived.Test.YtlaigelpkgakeaaVk
namespace Go.Proofs.Ytlaigelpkgakeaa
open Go.ChangeShapes Go.WideShapes Go.ChangeAt Go.RowKit
open Fl (S IR nanB normN keyN NaNw cmpK)
open Val (cmpI cmpB cmpT ltT eqT V cmpV byteOk textOk blankB oddB isB plainB)
/-- The cells of block g hold the values l, five cells each. -/
def VRow (w : World) (g : Nat) (l : List V) : Prop := g < w.heap.size ∧ ∀ i (h : i < l.length),
  w.cell? ⟨g, i * 5, none⟩ = some (.int .i64 l[i].k) ∧ w.cell? ⟨g, i * 5 + 1, none⟩ = some (.bool l[i].b) ∧ w.cell? ⟨g, i * 5 + 2, none⟩ = some (.int .i64 l[i].n) ∧
  w.cell? ⟨g, i * 5 + 3, none⟩ = some (.float .f64 l[i].f) ∧ w.cell? ⟨g, i * 5 + 4, none⟩ = some (.string l[i].t)
theorem VRow.below {w w' : World} {g : Nat} {l : List V} (h : VRow w g l) (hb : Below w.heap.size w w') : VRow w' g l := by
  refine ⟨Nat.lt_of_lt_of_le h.1 hb.size, fun i hi => ?_⟩
  have e := h.2 i hi
  rw [hb.cell (p := ⟨g, _, none⟩) h.1, hb.cell (p := ⟨g, _, none⟩) h.1, hb.cell (p := ⟨g, _, none⟩) h.1, hb.cell (p := ⟨g, _, none⟩) h.1, hb.cell (p := ⟨g, _, none⟩) h.1]
  exact e
def allV (l : List V) : Bool := l.all isB
theorem allV_take (l : List V) (k : Nat) (h : k < l.length) : allV (l.take (k + 1)) = (allV (l.take k) && isB l[k]) := by
  unfold allV; rw [List.take_succ_eq_append_getElem h, List.all_append]; simp
theorem allV_bad (l : List V) (k : Nat) (h : k < l.length) (hb : isB l[k] = false) : allV l = false := by
  unfold allV; rw [List.all_eq_false]; exact ⟨l[k], List.getElem_mem h, by rw [hb]; decide⟩
set_option maxHeartbeats 400000 in
theorem may_any (g : Nat) (l : List V) (c : Nat) (w : World) (hr : VRow w g l) (hl : l.length ≤ 1000) (hts : ∀ x ∈ l, x.t.size ≤ maxLen) :
    Calls Try.prog 13 #[.slice (some ⟨g, 0, none⟩) l.length c] w fun e w' => e = .returned (.bool (allV l)) ∧ Below w.heap.size w w' := by
  have HR := Lib.hid hr
  have HT := Lib.hid hts
  clear hr hts
  go_enter Try.func13, Try.ntmps13
  go_wp2
  go_loopw [3] (fun i w1 => ∃ k : Nat, k ≤ l.length ∧ i = .int .i64 k ∧ allV (l.take k) = true ∧ Below w.heap.size w w1) (fun i _ => l.length - (intOf i).toNat)
  case atStart => exact ⟨0, Nat.zero_le _, rfl, rfl, Below.refl _ _⟩
  case round =>
    rename_i w1
    obtain ⟨k, hk, rfl, ha, hb⟩ := hrel
    have Ha := Lib.hid ha
    have Hb := Lib.hid hb
    clear ha hb
    by_cases hlt : k < l.length
    · have HS := Lib.hid (allV_take l k hlt)
      have Hv := Lib.hid (HT.out l[k] (List.getElem_mem hlt))
      have HRw := Lib.hid (HR.out.below Hb.out)
      obtain ⟨c0, c1, c2, c3, c4⟩ := HRw.out.2 k hlt
      cases hi : isB l[k]
      · have HF := Lib.hid (allV_bad l k hlt hi)
        go_wp2_with fail
        refine (ris_any l[k] Hv.out _).mono ?_
        rintro e w2 ⟨rfl, hb2⟩
        have Hb2 := Lib.hid hb2
        clear hb2
        go_wp2_with fail
        go_ret
        exact ⟨ret_b HF.out.symm, Hb.out.trans (Hb2.out.mono Hb.out.size)⟩
      · go_wp2_with fail
        refine (ris_any l[k] Hv.out _).mono ?_
        rintro e w2 ⟨rfl, hb2⟩
        have Hb2 := Lib.hid hb2
        clear hb2
        go_wp2_with fail
        exact ⟨⟨k + 1, hlt, by go_num, by rw [HS.out, Ha.out, hi]; rfl, Hb.out.trans (Hb2.out.mono Hb.out.size)⟩, by simp [intOf]; omega⟩
    · have HE := Lib.hid (show allV l = true by rw [← List.take_of_length_le (l := l) (i := k) (by omega)]; exact Ha.out)
      go_wp2
      go_ret
      exact ⟨ret_b HE.out.symm, Hb.out⟩
end Go.Proofs.Ytlaigelpkgakeaa
