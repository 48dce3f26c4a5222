/- What alike, of the laws of chapter 4, returns: true, where both Drums are in one state. Conditions: both lie in memory. -/
import Derived.Test.YtghpjeaecdcgeaaRj
import Derived.BigQuiet
import Derived.Deep.QuietTactic
import Derived.Deep.RegionWith
namespace Go.Proofs.Ytghpjeaecdcgeaa
set_option linter.unusedVariables false
open Go.ChangeShapes Go.WideShapes Go.ChangeAt Go.RowKit
set_option maxRecDepth 100000 in
set_option maxHeartbeats 2000000 in
theorem alike_any {F G : Nat → Prop} {w : World} {a b : Nat} {s : DS} (h : PD F w a s) (h' : RD G w b s) :
    Calls Try.prog 21 #[.pointer (some ⟨a, 0, none⟩), .pointer (some ⟨b, 0, none⟩)] w fun e w' => e = .returned (.bool true) ∧ Below w.heap.size w w' := by
  have HP := Lib.hid h
  have HR := Lib.hid h'
  obtain ⟨ov, sv, wv, n, d, hm⟩ := h'
  obtain ⟨A, c, hsv⟩ := own_slice hm.rs
  subst hsv
  have HM := Lib.hid hm
  have hbl := hm.lt b hm.fb
  have k1 := hm.cells.2.1
  have hfew := hm.ok.few
  clear h hm
  go_enter Try.func21, Try.ntmps21
  go_wp2_with fail
  go_quiet ((first
    | (go_at_call 25; with_reducible exact quiet_eq (len_any (HP.out.drewN _)))
    | (go_at_call 23; with_reducible exact quiet_eq (waiting_any (HP.out.drewN _)))
    | (go_at_call 32; with_reducible exact quiet_eq (rwaiting_any (HR.out.drewN _)))))
  have HB0 := Lib.hid (below_drewN (Below.refl w.heap.size w) nq)
  go_wp2
  go_loopw [5] (fun i wr => ∃ k : Nat, k ≤ s.now.length + 2 ∧ i = .int .i64 ((k : Int) - 1) ∧ Hid (Below w.heap.size w wr)) (fun i _ => s.now.length + 2 - (intOf i + 1).toNat)
  case atStart => exact ⟨0, by omega, rfl, HB0.out⟩
  case round =>
    obtain ⟨k, hk, rfl, HB⟩ := hrel
    clear HB0
    have j1 : wr.cell? ⟨b, 1, none⟩ = some (.slice A s.now.length c) := (HB.out.cell hbl).trans k1
    by_cases hlt : k ≤ s.now.length + 1
    · have HP1 := Lib.hid (HP.out.below HB.out).drew
      have HR1 := Lib.hid (HR.out.below HB.out).drew
      have HBd := Lib.hid HB.out.drew
      have hle : ((k : Int) - 1) ≤ (s.now.length : Int) := by omega
      have HK := Lib.hid hlt
      clear hlt
      obtain ⟨i, hi⟩ : ∃ i : Int, i = (k : Int) - 1 := ⟨_, rfl⟩
      rw [← hi] at hle ⊢
      have hlo : -1 ≤ i := by omega
      have HI := Lib.hid hi
      clear hi
      go_wp2_with fail
      go_region_with ((first
        | (go_at_call 24; with_reducible refine (read_any HP1.out i).mono ?_; rintro e w5 ⟨v5, rfl, ho5, hb5⟩; obtain ⟨A5, c5, rfl, hbs5, hA5⟩ := ho5.open; have hcv5 := hbs5.conv _ rfl; have HR5 := Lib.hid (HR1.out.below hb5); have HB5 := Lib.hid (HBd.out.trans (hb5.mono HBd.out.size)); have HS5 := Lib.hid hbs5; clear ho5 hb5 hbs5 hA5)
        | (go_at_call 33; with_reducible refine (rread_any HR5.out i).mono ?_; rintro e w6 ⟨A6, c6, rfl, hbs6, hb6⟩; have hcv6 := hbs6.conv _ rfl; have hcv56 := (HS5.out.below hb6).conv _ rfl; have HB6 := Lib.hid (HB5.out.trans (hb6.mono HB5.out.size)); clear hb6 hbs6)))
      all_goals (
        clear hcv5 hcv6 hcv56 j1
        go_wp2
        have hi := HI.out
        have hk' := HK.out
        refine ⟨⟨k + 1, by omega, by rw [hi]; congr 1; omega, HB6.out⟩, by simp [intOf]; omega⟩)
    · go_wp2
      go_ret
      exact ⟨rfl, HB.out⟩
end Go.Proofs.Ytghpjeaecdcgeaa
