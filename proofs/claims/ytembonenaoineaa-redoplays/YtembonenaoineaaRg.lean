/- What padded, New and Sync of the reference do. Conditions: the Drum lies in memory; what is padded has at most 64 bytes. -/
import Derived.Test.YtembonenaoineaaRd
import Derived.Deep.RegionLaw
import Derived.Deep.AppendLies
namespace Go.Proofs.Ytembonenaoineaa
set_option maxRecDepth 100000
set_option linter.unusedVariables false
open Go.ChangeShapes Go.WideShapes Go.ChangeAt Go.RowKit

theorem infoT : (Try.prog.info? 9).map (fun i => (i.zero, i.size, i.bytes)) = some (some (.string ByteArray.empty), 1, 16) := by kernel_rfl
theorem splice_zsec (p : List UInt8) (hp : p.length ≤ 64) : splice (bcs zsec) 0 (bcs p) = bcs (pad p) := by
  unfold splice pad
  rw [bcs_len, Nat.zero_add, List.take_zero, List.nil_append, bcs_append]
  congr 1
  unfold bcs zsec
  rw [← List.map_drop, List.drop_replicate]
theorem bs_cells {w : World} {A : Option Addr} {l : List UInt8} {c : Nat} (h : BS w A l c) : ∀ j v, (bcs l)[j]? = some v → ∃ ad, A = some ad ∧ w.cell? (ad.add j) = some v := by
  intro j v hj
  have hjl : j < l.length := by
    rcases Nat.lt_or_ge j l.length with h | h
    · exact h
    · rw [List.getElem?_eq_none (by rw [bcs_len]; exact h)] at hj; cases hj
  obtain ⟨ad, e, hc⟩ := h.cells j hjl
  refine ⟨ad, e, ?_⟩
  rw [hc]
  simp [bcs, hjl] at hj
  rw [hj]
theorem padded_any {w : World} (A : Option Addr) (p : List UInt8) (c : Nat) (h : BS w A p c) (hp : p.length ≤ 64) :
    Calls Try.prog 33 #[.slice A p.length c] w fun e w' => e = .returned (.string (bstr (pad p))) ∧ Below w.heap.size w w' := by
  obtain ⟨i0, hi0, hz0, hz1, hz2⟩ := info_parts infoB
  have H := Lib.hid h
  clear h
  go_enter Try.func33, Try.ntmps33
  go_wp2_with (at_make; refine wpList_make_full _ rfl _ _ _ rfl 0 5 i0 _ 1 Try.underlying36 hi0 hz0 hz1 _ _ _ _ 64 rfl rfl (by decide) (by decide) (by rw [hz2]; decide) (by unfold maxLen; omega) (Nat.zero_le _) ?_)
  intro w1 ho hg
  have hb1 : Below w.heap.size w w1 := (Below.refl _ _).grown hg (Nat.le_refl _) (fun k e => by cases e)
  have ho1 : w1.ownsRow 0 5 1 (.slice (some ⟨w.heap.size, 0, none⟩) 64 64) 64 (bcs zsec) := by
    have e : (madeCells #[Value.int .u8 0] 64).toList = bcs zsec := by rw [toList_madeCells_one]; rfl
    rw [← e]
    simpa using ho
  obtain ⟨cur, hcur, _, _, hcs, _⟩ := own_open ho1
  have HCUR := Lib.hid hcur
  have hbs1 := H.out.below hb1
  have HBS1 := Lib.hid hbs1
  have hfin := own_splice ho1 hcur 0 (bcs p) (by rw [bcs_len]; omega)
  rw [splice_zsec p hp] at hfin
  have hown : Own 0 (w1.setRow w.heap.size (splice cur.toList 0 (bcs p)).toArray) (.slice (some ⟨w.heap.size, 0, none⟩) 64 64) (pad p) := by
    unfold Own
    rw [pad_len hp]; exact hfin
  have hcv := (own_bs hown).conv 64 (by rw [pad_len hp])
  have HB2 := Lib.hid (below_setRow hb1 (Nat.le_refl w.heap.size) (splice cur.toList 0 (bcs p)).toArray)
  have hcsz : cur.size = 64 := by simpa using hcs
  clear ho hg hb1 ho1 hcur hcs hbs1 hfin hown
  go_wp2_with (refine wp_copyK rfl (.tmp 5) (.tmp 6) 36 36 rfl 5 1 Try.underlying36 (by kernel_rfl) w.heap.size 0 64 64 _ c A rfl rfl cur 5 (bcs p) HCUR.out (by rw [bcs_len, Nat.mul_one]; exact (Nat.min_eq_left hp).symm) (bs_cells HBS1.out) (by rw [bcs_len]; omega) (bcs_one p) ?_)
  go_ret
  exact ⟨rfl, HB2.out⟩
theorem strs_one (l : List (List UInt8)) : ∀ u ∈ l.map stc, u.oneCell' = true := by
  intro u hu
  obtain ⟨_, _, rfl⟩ := List.mem_map.1 hu
  rfl
section
variable {w : World} {ops : Array Oper} {rest : List Oper} {o : Oper} {a : Act} {Q : Exit → Act → World → Prop}
/-- append([]string{}, l...). -/
theorem wp_strs (hgd : o.guard = none) (s x : Operand) (ho : o.op = .call { callee := .builtin .append, args := #[s, x], argTypes := #[64, 64] }) (v : Value) (l : List (List UInt8)) (n : Nat) (hn : n ≤ 200)
    (hv : w.ownsRow 0 9 1 v n (l.map stc)) (hs : a.eval s = .slice (some ⟨w.heap.size, 0, none⟩) 0 0) (hx : a.eval x = v)
    (h : ∀ g c w', w'.ownsRow 0 9 1 (.slice (some ⟨g, 0, none⟩) n c) n (l.map stc) → w.heap.size ≤ g → Below w.heap.size w w' → wpList Try.prog ops Q rest (a.put o.dst (.slice (some ⟨g, 0, none⟩) n c)) w') :
    wpList Try.prog ops Q (o :: rest) a (w.alloc (.cells #[] 9)) := by
  obtain ⟨i0, hi0, hz0, hz1, hz2⟩ := info_parts infoT
  have he := World.ownsRow_made (base := 0) (e := 9) (size := 1) w #[] 0 (Nat.zero_le _) (by unfold maxLen; omega) rfl
  have hb1 := (Below.refl w.heap.size w).alloc (Nat.le_refl _) (.cells #[] 9)
  rcases hv.2 with ⟨rfl, rfl⟩ | ⟨g0, c0, cur0, rfl, _, hg0, _⟩
  · have hl : l = [] := by have := hv.1; simpa using this
    subst hl
    refine wpList_append_own_none hgd s x _ ho 0 9 i0 1 Try.underlying64 hi0 _ _ _ hs he hx (h _ _ _ he (Nat.le_refl _) hb1)
  · have hv1 := hv.alloc (.cells #[] 9)
    refine wpList_append_own_at _ hgd s x _ ho 0 9 i0 _ 1 16 Try.underlying64 hi0 hz0 hz1 hz2 rfl (by decide) _ 0 [] hs he ⟨g0, 0, none⟩ n c0 (l.map stc) hx hv.1 (World.ownsRow.cells hv1 rfl) (strs_one l) (by unfold maxLen; omega) (by omega) (Nat.zero_le _) ?_
    intro v' w' ho' hg' hnil hat
    rw [Nat.zero_add, List.nil_append] at ho'
    have hb' : Below w.heap.size w w' := hb1.grown hg' (by simp) (fun k e => by simp [Value.ownBlock] at e; omega)
    rcases ho'.2 with ⟨h0, _⟩ | ⟨g', c', cur', rfl, _⟩
    · exact absurd ((hnil.1 h0).1) (by simp)
    · refine h g' c' w' ho' ?_ hb'
      rcases hat with hat | hat <;> simp [Value.ownBlock] at hat <;> omega
end
theorem rsync_any {F : Nat → Prop} {w : World} {b : Nat} {s : DS} (h : RD F w b s) :
    Calls Try.prog 76 #[.pointer (some ⟨b, 0, none⟩)] w (DoesR F w b (.int .i64 (syE s)) (syS s)) := by
  have H0 := Lib.hid h.lt
  have HR := Lib.hid (alive_any h)
  clear h
  cases hr : runsB s with
  | false =>
    rw [hr] at HR
    rw [show syE s = 9 by simp [syE, hr], show syS s = ticked s by simp [syS, hr]]
    clear hr
    go_enter Try.func76, Try.ntmps76
    go_wp2_with fail
    refine HR.out.mono ?_
    rintro e w1 ⟨rfl, h1, h2⟩
    have h1' := Lib.hid h1
    have h2' := Lib.hid h2
    clear h1 h2
    go_wp2
    go_ret
    exact ⟨rfl, h1'.out, h2'.out⟩
  | true =>
    rw [hr] at HR
    rw [show syE s = 0 by simp [syE, hr], show syS s = held (ticked s) by simp [syS, hr]]
    clear hr
    generalize ticked s = s1 at *
    go_enter Try.func76, Try.ntmps76
    go_wp2_with fail
    refine HR.out.mono ?_
    rintro e w1 ⟨rfl, h1, h2⟩
    have h2' := Lib.hid h2
    obtain ⟨ov, sv, wv, n, d, hm⟩ := h1
    have HM := Lib.hid hm
    obtain ⟨k0, k1, k2, k3, k4, kf⟩ := hm.cells
    have hbl := hm.lt b hm.fb
    have hfew := hm.ok.few
    clear h2 hm
    go_wp2_with (at_builtin; refine wp_strs rfl (.tmp 7) (.tmp 11) rfl sv s1.now s1.now.length hfew HM.out.rs rfl rfl ?_)
    intro g c w2 ho hge hb
    have hba : w2.heap[b]? = _ := (hb.block b hbl).trans HM.out.blk
    have j0 : w2.cell? ⟨b, 0, none⟩ = some ov := by rw [cell_of_row w2 b _ _ _ _ hba]; rfl
    have j2 : w2.cell? ⟨b, 2, none⟩ = some wv := by rw [cell_of_row w2 b _ _ _ _ hba]; rfl
    have jf : ∀ o, w2.frozen? ⟨b, o, none⟩ = false := fun o => frozen_of_row w2 b o _ _ hba
    have HBA := Lib.hid hba
    have HO := Lib.hid ho
    have HB := Lib.hid hb
    obtain ⟨cur, hcg, _⟩ := own_open ho
    have hglt := block_lt hcg
    have hz := hb.size
    clear ho hb hba hcg k0 k1 k2 k3 k4 kf
    go_wp2
    go_ret
    refine DoesR.next h2'.out ?_ H0.out
    have hgb : g ≠ b := by omega
    have hz5 : ((w2.setCell ⟨b, 0, none⟩ (.slice (some ⟨g, 0, none⟩) s1.now.length c)).setCell ⟨b, 2, none⟩ (.slice none 0 0)).heap.size = w2.heap.size := by simp [World.setCell]
    have hk : ∀ k, k ≠ b → ((w2.setCell ⟨b, 0, none⟩ (.slice (some ⟨g, 0, none⟩) s1.now.length c)).setCell ⟨b, 2, none⟩ (.slice none 0 0)).heap[k]? = w2.heap[k]? := fun k hkb => by
      rw [heap_setCell_other _ _ _ _ hkb, heap_setCell_other _ _ _ _ hkb]
    have hblk := heap_setCell_same _ b 2 _ _ (.slice none 0 0) (heap_setCell_same w2 b 0 _ _ (.slice (some ⟨g, 0, none⟩) s1.now.length c) HBA.out)
    refine ⟨rfl, RM.own (held_ok HM.out.ok) ?_ (.inl HM.out.fb) ?_ (fun k e => .inl (HM.out.fs k e)) (fun k e => by cases e) ?_ hblk ?_ ?_ (World.ownsRow_nil _ _ _ _) HM.out.life, ?_⟩
    · intro k hk'
      rw [hz5]
      rcases hk' with hk' | hk'
      · have := HM.out.lt k hk'; omega
      · rw [hz5] at hk'; exact hk'.2
    · intro k e
      simp [Value.ownBlock] at e
      subst e
      exact .inr ⟨hge, by rw [hz5]; exact hglt⟩
    · intro k e
      simp [Value.ownBlock] at e
      subst e
      intro e'
      have := HM.out.lt _ (HM.out.fs _ e')
      omega
    · exact own_same HO.out (fun k e => by simp [Value.ownBlock] at e; subst e; exact hk _ hgb)
    · exact own_same HM.out.rs (fun k e => (hk k (fun e' => by subst e'; exact HM.out.nb HM.out.rs (by decide) e)).trans (HB.out.block k (HM.out.lt k (HM.out.fs k e))))
    · refine ((Chg.below HB.out).grown (grown_set _ b 0 _) (fun k e => ?_)).grown (grown_set _ b 2 _) (fun k e => ?_)
      · injection e with e; subst e; exact .inl HM.out.fb
      · injection e with e; subst e; exact .inl HM.out.fb
end Go.Proofs.Ytembonenaoineaa
