/- What Fuse, New and Read of package drum do, and what they call. Conditions: the Drum lies in memory. -/
import Derived.Test.YtembonenaoineaaDw
import Derived.Lib.SliceRun
namespace Go.Proofs.Ytembonenaoineaa
set_option maxRecDepth 100000
set_option linter.unusedVariables false
open Go.ChangeShapes Go.WideShapes Go.ChangeAt Go.RowKit

theorem infoS : (Try.prog.info? 87).map (fun i => (i.zero, i.size, i.bytes)) = some (some (.agg (Array.replicate 64 (.int .u8 0))), 64, 64) := by kernel_rfl
theorem sizeS : (Try.prog.info? 87).map (·.size) = some 64 := by kernel_rfl
theorem sizeW : (Try.prog.info? 89).map (·.size) = some 65 := by kernel_rfl

theorem fuse_nil (w : World) (i : Int) : Calls Try.prog 19 #[.pointer none, .int .i64 i] w fun e w' => e = .returned (.tuple #[]) ∧ w = w' := by
  go_enter Try.func19, Try.ntmps19
  go_wp2
  (try simp only [Exit.inBlock, Exit.then])
  refine bodyPost_ret (results_none rfl _ _ _) rfl ?_
  exact ⟨rfl, rfl⟩
theorem fuse_any {F : Nat → Prop} {w : World} {a : Nat} {s : DS} (h : PD F w a s) (i : Int) (h0 : -9223372036854775808 ≤ i) (h1 : i ≤ 9223372036854775807) :
    Calls Try.prog 19 #[.pointer (some ⟨a, 0, none⟩), .int .i64 i] w (Does F w a (.tuple #[]) (fzS s i)) := by
  obtain ⟨g1, c1, g2, c2, pv, f, n, d, h⟩ := h
  obtain ⟨k0, k1, k2, k3, k4, k5, kf⟩ := h.cells
  have H := Lib.hid h
  have hl := h.life
  have A1 := h.set 3 (.bool (decide (0 ≤ i))) (pv' := pv) (f' := decide (0 ≤ i)) (n' := n) (d' := d) (s' := { s with life := none }) rfl rfl ⟨h.ok.sec, h.ok.sec', h.ok.len, h.ok.few, h.ok.pnd, fun k e => by cases e⟩ rfl h.f3 h.r3 h.an3
  have HL : Hid (LifeP (fzS s i).life (decide (0 ≤ i)) i d) := by
    simp only [Hid, fzS]
    cases hlf : s.life with
    | none => rw [hlf] at hl; exact ⟨hl.1, h0, h1⟩
    | some fu =>
      have hd : d = false := by
        rw [hlf] at hl
        cases fu with
        | none => exact hl.1
        | some k => exact hl.1
      simp only [fuseL]
      split
      · exact ⟨hd, by simp; omega, h0, h1⟩
      · exact ⟨hd, by simp; omega, by omega⟩
  have H2 : Hid (PM F ((w.setCell ⟨a, 3, none⟩ (.bool (decide (0 ≤ i)))).setCell ⟨a, 4, none⟩ (.int .i64 i)) a g1 c1 g2 c2 pv (decide (0 ≤ i)) i d (fzS s i)) := by
    have hb := heap_setCell_same w a 3 _ _ (.bool (decide (0 ≤ i))) h.blk
    have hb2 := heap_setCell_same _ a 4 _ _ (.int .i64 i) hb
    refine ⟨fzS_ok h.ok h1, fun k hk => by simpa [World.setCell] using h.lt k hk, h.fa, h.f1, h.f2, h.f3, h.ne, hb2, ?_, ?_, ?_, HL.out⟩
    · exact ownsRow_setCell_other (ownsRow_setCell_other h.r1 (by simp only [Value.ownBlock]; intro e; injection e with e; exact h.an1 e.symm) _) (by simp only [Value.ownBlock]; intro e; injection e with e; exact h.an1 e.symm) _
    · exact ownsRow_setCell_other (ownsRow_setCell_other h.r2 (by simp only [Value.ownBlock]; intro e; injection e with e; exact h.an2 e.symm) _) (by simp only [Value.ownBlock]; intro e; injection e with e; exact h.an2 e.symm) _
    · exact ownsRow_setCell_other (ownsRow_setCell_other h.r3 (by exact h.an3) _) (by exact h.an3) _
  clear h hl A1 HL
  go_enter Try.func19, Try.ntmps19
  go_wp2
  go_end0
  exact does_of ⟨_, _, _, _, _, _, _, _, H2.out⟩ ((chg_set H.out.fa _ _).grown (grown_set _ a 4 _) fun k e => by injection e with e; subst e; exact .inl H.out.fa) H.out.lt

/-- A new row of sectors. -/
theorem clone_any {w : World} {g c : Nat} {l : List (List UInt8)} {n : Nat} (h : w.ownsRow 0 87 64 (.slice (some ⟨g, 0, none⟩) n c) n (scs l)) (hn : n ≤ 200) :
    Calls Try.prog 47 #[.slice (some ⟨g, 0, none⟩) n c] w fun e w' => ∃ g' c', e = .returned (.slice (some ⟨g', 0, none⟩) n c') ∧ w'.ownsRow 0 87 64 (.slice (some ⟨g', 0, none⟩) n c') n (scs l) ∧ w.heap.size ≤ g' ∧ Below w.heap.size w w' := by
  obtain ⟨i0, hi0, hz0, hz1, hz2⟩ := info_parts infoS
  have HS := Lib.hid (h.alloc (.cells #[] 87))
  have HE := Lib.hid (World.ownsRow_made (base := 0) (e := 87) (size := 64) w #[] 0 (Nat.zero_le _) (by unfold maxLen; omega) rfl)
  have H1 := Lib.hid h.1
  have hq : ∀ W, (binOp .eql 63 (.slice (some ⟨g, 0, none⟩) n c) (.slice none 0 0)).run Try.prog W = .ok (.bool false) W := fun W => Lib.run_eql_slice_nil W _ _ _ _ _ _ _ Try.underlying63
  clear h
  go_enter Try.func47, Try.ntmps47
  go_wp2_with (at_builtin; refine wpList_append_own_at _ rfl _ _ _ rfl 0 87 i0 _ 64 64 Try.underlying63 hi0 hz0 hz1 hz2 rfl (by decide) _ 0 [] rfl HE.out ⟨g, 0, none⟩ n c (scs l) rfl H1.out (World.ownsRow.cells HS.out rfl) (scs_one l) (by unfold maxLen; omega) (by omega) (Nat.zero_le _) ?_)
  intro v' w' ho hg hnil hat
  rcases ho.2 with ⟨h0, _⟩ | ⟨g', c', cur, rfl, h2⟩
  · exact absurd h0 hnil
  · have hge : w.heap.size ≤ g' := by
      simp only [Value.ownBlock] at hat
      rcases hat with hat | hat <;> injection hat with hat <;> omega
    have hb : Below w.heap.size w w' := ((Below.refl w.heap.size w).alloc (Nat.le_refl _) _).grown hg (by simp) fun k e => by simp [Value.ownBlock] at e; omega
    clear hnil hat hg h2
    go_wp2
    go_ret
    exact ⟨_, _, rfl, ho, hge, hb⟩
theorem cloneB_any {w : World} {ad : Addr} {c : Nat} {l : List UInt8} {n : Nat} (h : BS w (some ad) l c) (hn : n = l.length) (hl : l.length ≤ 10000000) :
    Calls Try.prog 65 #[.slice (some ad) n c] w fun e w' => ∃ v, e = .returned v ∧ Own w.heap.size w' v l ∧ Below w.heap.size w w' := by
  subst hn
  have HS := Lib.hid (h.below ((Below.refl w.heap.size w).alloc (Nat.le_refl _) (.cells #[] 5)))
  have HE := Lib.hid (show Own w.heap.size (w.alloc (.cells #[] 5)) (.slice (some ⟨w.heap.size, 0, none⟩) 0 0) [] from World.ownsRow_made w #[] 0 (Nat.le_refl _) (by unfold maxLen; omega) rfl)
  have hq : ∀ W, (binOp .eql 36 (.slice (some ad) l.length c) (.slice none 0 0)).run Try.prog W = .ok (.bool false) W := fun W => Lib.run_eql_slice_nil W _ _ _ _ _ _ _ Try.underlying36
  clear h
  go_enter Try.func65, Try.ntmps65
  go_wp2_with (at_builtin; refine wp_app rfl _ _ rfl w.heap.size _ [] HE.out rfl (some ad) l _ c rfl rfl HS.out (by simp; omega) (by simp) ?_)
  intro v' w' h1 h2
  go_wp2
  go_ret
  exact ⟨_, rfl, h1, ((Below.refl w.heap.size w).alloc (Nat.le_refl _) _).trans h2⟩
/-- A new Drum over a row of sectors. -/
theorem holding_any {w : World} {g c : Nat} {l : List (List UInt8)} {n : Nat} (h : w.ownsRow 0 87 64 (.slice (some ⟨g, 0, none⟩) n c) n (scs l)) (hn : n = l.length) (hl : l.length ≤ 200) (hs : ∀ x ∈ l, x.length = 64) :
    Calls Try.prog 32 #[.slice (some ⟨g, 0, none⟩) n c] w fun e w' => ∃ a, e = .returned (.pointer (some ⟨a, 0, none⟩)) ∧ PD (Nu (fun k => k = g) w w') w' a (fresh l) ∧ Below w.heap.size w w' := by
  subst hn
  have H := Lib.hid h
  obtain ⟨cur, hg, _⟩ := own_open h
  have hglt := block_lt hg
  clear hg h
  go_enter Try.func32, Try.ntmps32
  go_wp2_with fail
  refine (clone_any H.out hl).mono ?_
  rintro e w1 ⟨g', c', rfl, h1, hge, hb⟩
  have HB := Lib.hid hb
  have HR := Lib.hid h1
  have HQ := Lib.hid (World.ownsRow.kept H.out (grown_of_below hb none) (.inr (by simp [Value.ownBlock])))
  have hsz := hb.size
  clear h1 hb
  go_wp2
  go_ret
  have hb2 : Below w.heap.size w (w1.alloc (.cells #[.slice (some ⟨g, 0, none⟩) l.length c, .slice (some ⟨g', 0, none⟩) l.length c', .slice none 0 0, .bool false, .int .i64 0, .bool false] 84)) := HB.out.alloc hsz _
  obtain ⟨cur', hg', _⟩ := own_open HR.out
  have hglt' := block_lt hg'
  refine ⟨w1.heap.size, rfl, ⟨g, c, g', c', .slice none 0 0, false, 0, false, ⟨fresh_ok hs hl, ?_, ?_, .inl rfl, ?_, ?_, ?_, heap_alloc_new w1 _, HQ.out.alloc _, HR.out.alloc _, World.ownsRow_nil _ _ _ _, ?_⟩⟩, hb2⟩
  · intro k hk
    rcases hk with hk | hk
    · subst hk; simp; omega
    · exact hk.2
  · exact .inr ⟨hsz, by simp⟩
  · exact .inr ⟨hge, by simp; omega⟩
  · intro k e; cases e
  · omega
  · exact ⟨rfl, rfl, by omega, by omega⟩
theorem zeros_cells (n : Nat) : (madeCells (Array.replicate 64 (.int .u8 0)) (n * 64)).toList = scs (List.replicate n zsec) := by
  have hz : (bcs zsec) = List.replicate 64 (.int .u8 0) := by rfl
  have e1 : scs (List.replicate n zsec) = List.replicate (n * 64) (.int .u8 0) := by
    unfold scs
    induction n with
    | zero => rfl
    | succ n ih => rw [List.replicate_succ, List.flatMap_cons, ih, hz, List.replicate_append_replicate]; congr 1; omega
  rw [e1]
  apply List.ext_getElem?
  intro i
  simp only [madeCells, Array.toList_map, List.getElem?_map, Array.toList_range, List.getElem?_replicate]
  by_cases hi : i < n * 64
  · have hm : i % 64 < 64 := Nat.mod_lt _ (by decide)
    simp [hi, Array.size_replicate, hm]
  · simp [hi]
theorem new_any (n : Int) (w : World) : Calls Try.prog 11 #[.int .i64 n] w fun e w' => ∃ a, e = .returned (.pointer (some ⟨a, 0, none⟩)) ∧ PD (Nu (fun _ => False) w w') w' a (nwS n) ∧ Below w.heap.size w w' := by
  obtain ⟨i0, hi0, hz0, hz1, hz2⟩ := info_parts infoS
  have hm : many n ≤ 200 := by unfold many; omega
  have he : min (max n 0) 200 = ((many n : Nat) : Int) := by unfold many; omega
  have HC := Lib.hid (zeros_cells (many n))
  have HN := Lib.hid (show nwS n = fresh (List.replicate (many n) zsec) from rfl)
  generalize many n = m at *
  go_enter Try.func11, Try.ntmps11
  go_wp2_with (at_make; refine wpList_make_full _ rfl _ _ _ rfl 0 87 i0 _ 64 Try.underlying63 hi0 hz0 hz1 _ _ _ _ m rfl rfl (by omega) (by omega) (by rw [hz2]; omega) (by unfold maxLen; omega) (Nat.zero_le _) ?_)
  all_goals (
    intro w1 ho hg
    rw [HC.out] at ho
    have HO := Lib.hid ho
    have HG := Lib.hid hg
    obtain ⟨cur, hb, _⟩ := own_open ho
    have hlt := block_lt hb
    clear ho hg hb
    go_wp2_with fail
    refine (holding_any HO.out (by simp) (by simpa using hm) (fun x hx => by rw [List.eq_of_mem_replicate hx]; rfl)).mono ?_
    rintro e w2 ⟨a, rfl, hp, hb⟩
    have hw : Below w.heap.size w w2 := ((Below.refl w.heap.size w).grown HG.out (Nat.le_refl _) fun k e => by cases e).trans (hb.mono HG.out.size)
    have hs := HG.out.size
    have hP : PD (Nu (fun _ => False) w w2) w2 a (nwS n) := by
      rw [HN.out]
      refine hp.wide hw.size _ (fun k hk => .inr ?_) (fun k hk => absurd hk id)
      rcases hk with hk | hk <;> omega
    have HP := Lib.hid hP
    clear hp hb hP
    go_wp2
    go_ret
    exact ⟨a, rfl, HP.out, hw⟩)
theorem sec_bs {F : Nat → Prop} {w : World} {a g1 c1 g2 c2 : Nat} {pv : Value} {f : Bool} {n : Int} {d : Bool} {s : DS} (h : PM F w a g1 c1 g2 c2 pv f n d s) (j : Nat) (hj : j < s.now.length) : BS w (some ⟨g1, j * 64, none⟩) s.now[j] 64 := by
  have hl := h.ok.sec _ (List.getElem_mem hj)
  have hg := flat_get bcs 64 s.now (fun x hx => by rw [bcs_len, h.ok.sec x hx]) j hj
  refine ⟨fun i hi => ⟨_, rfl, ?_⟩, by omega, fun e => by cases e⟩
  have hc := World.ownsRow.cells h.r1 (g := g1) rfl (j * 64 + i) (.int .u8 (s.now[j][i].toNat : Nat)) (by
    have : (bcs s.now[j])[i]? = some (.int .u8 (s.now[j][i].toNat : Nat)) := by simp [bcs, hi]
    rw [← hg, List.getElem?_take, if_pos (by omega), List.getElem?_drop] at this
    exact this)
  rw [Addr.add_lit] at hc ⊢
  rw [Nat.zero_add] at hc
  exact hc
theorem read_any {F : Nat → Prop} {w : World} {a : Nat} {s : DS} (h : PD F w a s) (i : Int) :
    Calls Try.prog 49 #[.pointer (some ⟨a, 0, none⟩), .int .i64 i] w fun e w' => ∃ v, e = .returned v ∧ Own w.heap.size w' v (rdL s i) ∧ Below w.heap.size w w' := by
  have HH := Lib.hid (has_any h i)
  obtain ⟨g1, c1, g2, c2, pv, f, n, d, h⟩ := h
  cases ht : there s i with
  | false =>
    rw [ht] at HH
    have e0 : rdL s i = [] := by simp [rdL, ht]
    rw [e0]
    clear h ht e0
    go_enter Try.func49, Try.ntmps49
    go_wp2_with (go_at_call 45; refine HH.out.mono ?_; rintro e w' ⟨rfl, rfl⟩)
    go_ret
    exact ⟨_, rfl, Own.nil _ _, Below.refl _ _⟩
  | true =>
    have ht2 := ht
    simp only [there, decide_eq_true_eq] at ht2
    obtain ⟨j, rfl⟩ : ∃ j : Nat, i = j := ⟨i.toNat, by omega⟩
    have hj : j < s.now.length := by omega
    rw [ht] at HH
    have e0 : rdL s j = s.now[j] := by simp [rdL, ht, List.getD, hj]
    rw [e0]
    obtain ⟨k0, k1, k2, k3, k4, k5, kf⟩ := h.cells
    have HB := Lib.hid (sec_bs h j hj)
    have hl := h.ok.sec _ (List.getElem_mem hj)
    clear h e0 ht
    generalize s.now[j] = q at *
    go_enter Try.func49, Try.ntmps49
    go_wp2_with (first | (go_at_call 45; refine HH.out.mono ?_; rintro e w' ⟨rfl, rfl⟩) | fail)
    refine (cloneB_any HB.out (by omega) (by omega)).mono ?_
    rintro e w' ⟨v, rfl, h1, h2⟩
    go_wp2
    go_ret
    exact ⟨_, rfl, h1, h2⟩
theorem read_nil (w : World) (i : Int) : Calls Try.prog 49 #[.pointer none, .int .i64 i] w fun e w' => e = .returned (.slice none 0 0) ∧ w = w' := by
  go_enter Try.func49, Try.ntmps49
  go_wp2_with (go_at_call 45; refine (has_nil _ _).mono ?_; rintro e w' ⟨rfl, rfl⟩)
  go_ret
  exact ⟨rfl, rfl⟩
end Go.Proofs.Ytembonenaoineaa
