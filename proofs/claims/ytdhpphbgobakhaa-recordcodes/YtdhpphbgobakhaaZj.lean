/- The law's known of chapter 10. No condition. -/
import Derived.Test.YtdhpphbgobakhaaZi
namespace Go.Proofs.Ytdhpphbgobakhaa
set_option maxRecDepth 100000
set_option linter.unusedVariables false
open Go.ChangeShapes Go.WideShapes Go.ChangeAt Go.RowKit
open Fl (S cmpK keyN normN)
open Val (V cmpV isB ltT)
open Lb
theorem wrow_nil (w : World) : WRow w none [] := fun k hk => absurd hk (by simp)
theorem known10_any (w : World) : Calls Try.prog 10 #[] w fun e w' => e = .returned (.bool true) ∧ Below w.heap.size w w' := by
  have HE := Lib.hid (penc_any 0 0 none 0 [] w (wrow_nil w) (fun x hx => by cases hx) (fun x hx => by cases hx) (by simp))
  have hm : mayB 0 0 ([] : List (Wr × Ns)).unzip.1 = true := by decide +kernel
  have HP : Hid (∀ e w', EncP w.heap.size 0 0 (([] : List (Wr × Ns)).map (·.1)) e w' → ∃ A c, e = .returned (.tuple #[.slice A 3 c, .int .i64 0]) ∧ Own w.heap.size w' (.slice A 3 c) [0, 0, 0]) := by
    intro e w' h
    unfold EncP at h
    rw [show mayB 0 0 (([] : List (Wr × Ns)).map (·.1)) = true by decide +kernel, if_pos rfl, show encA 0 0 (([] : List (Wr × Ns)).map (·.1)) = [0, 0, 0] by decide +kernel] at h
    obtain ⟨A, c, h1, h2, _⟩ := h
    exact ⟨A, c, h1, h2⟩
  have HNM := Lib.hid (fun W => pname_any ⟨#[97]⟩ (by decide) W)
  rw [show nameB ⟨#[97]⟩ = true by decide +kernel] at HNM
  have HND := Lib.hid (fun W => pnode_any zN zS W ⟨fun k hk => absurd hk (by simp [zN]), fun k hk => absurd hk (by simp [zN])⟩ ⟨by simp [zN], by simp [zN], (fun x hx => by cases hx), (fun x hx => by cases hx)⟩)
  rw [show nodeB zN = true by decide +kernel] at HND
  unfold zN zS at HND
  clear hm
  go_enter Try.func10, Try.ntmps10
  go_wp2_with fail
  refine HE.out.mono ?_
  rintro e w1 ⟨hp, hb⟩
  obtain ⟨A, c, rfl, ho⟩ := HP.out _ _ hp
  obtain ⟨A1, c1, e1, hbs, _⟩ := ho.open
  injection e1 with e1 _ e2
  subst e1
  subst e2
  have B1 := Lib.hid hb
  have hcv := hbs.conv 3 rfl
  have hq : ((bstr [0, 0, 0]).toList == [0, 0, 0]) = true := by rw [bstr_list]; rfl
  clear hp hb ho hbs
  go_wp2_with fail
  (with_reducible refine (HNM.out _).mono ?_); rintro e w2 ⟨rfl, rfl⟩
  go_wp2_with fail
  refine (HND.out _).mono ?_
  rintro e w2 ⟨rfl, hb⟩
  have B2 := Lib.hid (bnext B1.out hb)
  clear hb
  go_wp2
  go_ret
  exact ⟨rfl, B2.out⟩
end Go.Proofs.Ytdhpphbgobakhaa
