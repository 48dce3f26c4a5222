/- The program's writeBytes and Encode of chapter 10: contracts. Conditions: the rows lie in memory, fewer than 1,000,000 writes; numbers in the range of Go's types. -/
import Derived.Test.YtdhpphbgobakhaaZh
namespace Go.Proofs.Ytdhpphbgobakhaa
set_option maxRecDepth 100000
set_option linter.unusedVariables false
open Go.ChangeShapes Go.WideShapes Go.ChangeAt Go.RowKit
open Fl (S cmpK keyN normN)
open Val (V cmpV isB ltT)
open Lb
/-- Valid, apart from its number. -/
def Fine (x : Wr) : Prop := In64 x.id ∧ ((x.gone = true) ∨ (x.gone = false ∧ x.e = true ∧ edgeB x.g = true ∧ x.g.w < 2 * S) ∨ (x.gone = false ∧ x.e = false ∧ nodeB x.n = true ∧ NdIn x.n))
theorem fine_of {nn ne : Int} {l : List Wr} (h : mayB nn ne l = true) (hi : ∀ x ∈ l, WrIn x) : ∀ x ∈ l, Fine x := fun x hx => by
  have hb := mayB_bd h
  obtain ⟨h1, h2⟩ := writeB_cases (mayB_write h x hx) (hi x hx) hb.1.2 hb.2.2
  refine ⟨⟨by omega, by omega⟩, ?_⟩
  rcases h2 with ⟨h2, _, _⟩ | ⟨h2, h3, _, h4⟩ | ⟨h2, h3, _, h4⟩
  · exact .inl h2
  · exact .inr (.inl ⟨h2, h3, h4, (hi x hx).2.2.2.2⟩)
  · exact .inr (.inr ⟨h2, h3, h4, (hi x hx).1⟩)
theorem encE_len {e : Eg} (h : edgeB e = true) : (encE e).length ≤ 46 := by
  obtain ⟨h1, h2, h3, h4⟩ := edgeB_of h
  have := nameB_len h3
  have l1 := (encI_len e.a (by omega) (by omega)).1
  have l2 := (encI_len e.b (by omega) (by omega)).1
  have l3 := (encS_len e.t (by omega)).1
  have l4 : (encR e.w).length = 8 := rfl
  unfold encE
  rw [List.length_append, List.length_append, List.length_append]; omega
theorem encN_len {n : Nd} (h : nodeB n = true) (hi : NdIn n) : (encN n).length ≤ 224 := by
  have hp := encPs_len (prIn_of h hi) n.ps.length (Nat.le_refl _)
  obtain ⟨h1, _, h3, h4⟩ := nodeB_of h
  have lA := (encI_len (n.ls.length : Int) (by omega) (by omega)).1
  have lB := (encI_len (n.ps.length : Int) (by omega) (by omega)).1
  have lS := encSs_len 8 n.ls (fun x hx => (nameB_len (h1 x hx)).2) (by omega)
  rw [List.take_length] at hp
  unfold encN
  rw [List.length_append, List.length_append, List.length_append]; omega
theorem encW_len {x : Wr} (h : Fine x) : (encW x).length ≤ 254 := by
  obtain ⟨h1, h2⟩ := h
  have l1 := (encI_len (b2i x.e) (b2i_in _).1 (b2i_in _).2).1
  have l2 := (encI_len x.id h1.1 h1.2).1
  have l3 := (encI_len (b2i x.gone) (b2i_in _).1 (b2i_in _).2).1
  unfold encW
  rw [List.length_append, List.length_append, List.length_append]
  generalize (encI (b2i x.e)).length = a1 at *
  generalize (encI (b2i x.gone)).length = a2 at *
  rcases h2 with h2 | ⟨h2, h3, h4, _⟩ | ⟨h2, h3, h4, h5⟩
  · rw [h2]; simp; omega
  · have := encE_len h4
    rw [h2, h3]; simp; omega
  · have := encN_len h4 h5
    rw [h2, h3]; simp; omega
theorem encWs_snoc (l : List Wr) (k : Nat) (h : k < l.length) : encWs (l.take (k + 1)) = encWs (l.take k) ++ encW l[k] := by
  unfold encWs; rw [List.take_succ_eq_append_getElem h, List.flatMap_append]; simp
theorem encWs_len {l : List Wr} (h : ∀ x ∈ l, Fine x) : ∀ k, k ≤ l.length → (encWs (l.take k)).length ≤ 254 * k
  | 0, _ => by simp [encWs]
  | k + 1, hk => by
    rw [encWs_snoc l k hk, List.length_append]
    have := encWs_len h k (by omega)
    have := encW_len (h _ (List.getElem_mem hk))
    omega
theorem encA_len {nn ne : Int} {l : List Wr} (h : mayB nn ne l = true) (hi : ∀ x ∈ l, WrIn x) : (encA nn ne l).length ≤ 15000 := by
  have h1 := mayB_len h
  have hb := mayB_bd h
  have h2 := encWs_len (fine_of h hi) l.length (Nat.le_refl _)
  rw [List.take_length] at h2
  have l1 := (encI_len nn (by omega) (by omega)).1
  have l2 := (encI_len ne (by omega) (by omega)).1
  have l3 := (encI_len (l.length : Int) (by omega) (by omega)).1
  unfold encA
  rw [List.length_append, List.length_append, List.length_append]; omega
set_option maxHeartbeats 2000000 in
theorem pwriteb_any (x : Wr) (s : Ns) (w : World) (h : NdAt w x.n s) (hx : Fine x) : Calls Try.prog 13 #[wrv x s] w (Gives w.heap.size (encW x) w) := by
  obtain ⟨hid, hc⟩ := hx
  obtain ⟨V, hV⟩ : ∃ V, V = w.alloc (.cells (wrc x s) 45) := ⟨_, rfl⟩
  have hbx : V.heap[w.heap.size]? = some (.cells (wrc x s) 45 (0, 0)) := by rw [hV]; exact heap_alloc_new w _
  have hal : Below w.heap.size w V := by rw [hV]; exact one_box w _
  have HX := Lib.hid (fun W (hW : Below V.heap.size V W) => wb_box hbx hW)
  have HAL := Lib.hid hal
  have HN := Lib.hid (h.below hal)
  have HBI := Lib.hid (fun b W => bit_any b W)
  have HK := Lib.hid (fun W => pints_any none [] 0 [b2i x.e, x.id, b2i x.gone] #[.int .i64 (b2i x.e), .int .i64 x.id, .int .i64 (b2i x.gone)] 3 W (bs_nil W) (by intro y hy; simp at hy; rcases hy with rfl | rfl | rfl; exact b2i_in _; exact hid; exact b2i_in _) (by simp) (by simp) rfl rfl)
  have hdr : (encIs [b2i x.e, x.id, b2i x.gone]).length ≤ 30 := encIs_len [b2i x.e, x.id, b2i x.gone] (by intro y hy; simp at hy; rcases hy with rfl | rfl | rfl; exact b2i_in _; exact hid; exact b2i_in _)
  have HE : Hid (encW x = encIs [b2i x.e, x.id, b2i x.gone] ++ (if x.gone then [] else if x.e then encE x.g else encN x.n)) := by simp only [Hid]; unfold encW; simp [encIs]
  have HEB := Lib.hid (fun W (hb : edgeB x.g = true) (hf : x.g.w < 2 * S) => show Calls Try.prog 40 #[egv x.g] W (Gives W.heap.size (encE x.g) W) from by
    obtain ⟨h1, h2, h3, h4⟩ := edgeB_of hb
    have := nameB_len h3
    exact pedgeb_any x.g ⟨by omega, by omega⟩ ⟨by omega, by omega⟩ (by omega) hf W)
  have HNB := Lib.hid (fun W (hW : Below V.heap.size V W) hb hi => pnodeb_any x.n s W (HN.out.below hW) hb hi)
  have HEL := Lib.hid (fun hb => encE_len (e := x.g) hb)
  have HNL := Lib.hid (fun hb hi => encN_len (n := x.n) hb hi)
  simp only [List.nil_append] at HK
  clear hbx hal h hid
  obtain ⟨e, id, gone, ⟨ls, ps⟩, ⟨ga, gb, gt, gw⟩⟩ := x
  obtain ⟨A, lc, B, pc⟩ := s
  unfold WB at HX
  unfold wrc at hV
  simp only at HX HK HE HEB HNB hV hc hdr HEL HNL
  generalize encW ⟨e, id, gone, ⟨ls, ps⟩, ⟨ga, gb, gt, gw⟩⟩ = out at *
  generalize encIs [b2i e, id, b2i gone] = o1 at *
  have hS0 := HX.out V.drew (Below.refl _ _).drew
  have hS2 := HX.out (V.drew.alloc (.cells #[.int .i64 (b2i e), .int .i64 id, .int .i64 (b2i gone)] 3)) ((Below.refl V.heap.size V).drew.trans (one_box V.drew _))
  obtain ⟨b0, b1, b2, b3, b4, b5, b6, b7, b8⟩ := HX.out V (Below.refl _ _)
  go_enter Try.func13, Try.ntmps13
  go_upto_region 1 with fail
  rw [← hV]
  clear hV b0 b1 b2 b3 b4 b5 b6 b7 b8
  go_region_held3 (fun W => W.cell? ⟨w.heap.size, 0, none⟩ = some (.bool e) ∧ W.cell? ⟨w.heap.size, 1, none⟩ = some (.int .i64 id) ∧ W.cell? ⟨w.heap.size, 2, none⟩ = some (.bool gone)) (first | exact ⟨hS0.1, hS0.2.1, hS0.2.2.1⟩ | exact ⟨hS2.1, hS2.2.1, hS2.2.2.1⟩ | exact hS1)
    (first
      | (go_at_call 12; refine (HK.out V.drew).mono ?_; rintro e w1 ⟨v, rfl, ho, hb1⟩; have B1 := Lib.hid ((Below.refl V.heap.size V).drew.trans hb1); have hS1 := (fun z => And.intro z.1 (And.intro z.2.1 z.2.2.1)) (HX.out w1 B1.out); have HO := Lib.hid ho; clear ho hb1)
      | (go_at_call 39; (with_reducible refine (HBI.out _ _).mono ?_); rintro e w1 ⟨rfl, rfl⟩))
  obtain ⟨A1, c1, rfl, hbs, _⟩ := HO.out.open
  have HO1 := Lib.hid (HO.out.mono (Below.refl V.heap.size V).drew.size)
  clear hS0 hS2 hbs
  obtain ⟨k0, k1, k2, k3, k4, k5, k6, k7, k8⟩ := HX.out w1 B1.out
  clear hS1
  rcases hc with rfl | ⟨rfl, rfl, hc, hf⟩ | ⟨rfl, rfl, hc, hi⟩
  · have HQ := Lib.hid (show out = o1 by rw [HE.out]; simp)
    clear HE
    go_wp2
    go_ret
    have := HQ.out
    subst this
    exact ⟨_, rfl, HO1.out.mono HAL.out.size, bnext HAL.out B1.out⟩
  · have HQ := Lib.hid (show out = o1 ++ encE ⟨ga, gb, gt, gw⟩ by rw [HE.out]; simp)
    have HCE := Lib.hid (HEB.out w1 hc hf)
    have hle := HEL.out hc
    clear HE HEB HNB HNL HEL hc hf
    generalize encE ⟨ga, gb, gt, gw⟩ = px at *
    go_wp2_with fail
    refine HCE.out.mono ?_
    rintro e w2 ⟨v, rfl, ho, hb2⟩
    obtain ⟨A5, c5', rfl, hbs5, _⟩ := ho.open
    have HBS5 := Lib.hid hbs5
    have HO5 := Lib.hid (HO1.out.below hb2)
    have B2 := Lib.hid (bnext B1.out hb2)
    have hsz := B2.out.size
    clear ho hb2 hbs5
    go_wp2_with (at_builtin; refine wp_app rfl _ _ rfl V.heap.size _ _ HO5.out rfl _ px _ _ rfl rfl HBS5.out ?c1 ?c2 ?_)
    case c1 => omega
    case c2 => exact hsz
    intro v6 w6 hown6 hbel6
    have HO6 := Lib.hid hown6
    have B6 := Lib.hid (B2.out.trans hbel6)
    clear hown6 hbel6
    go_wp2
    go_ret
    exact ⟨_, rfl, by rw [HQ.out]; exact HO6.out.mono HAL.out.size, bnext HAL.out B6.out⟩
  · have HQ := Lib.hid (show out = o1 ++ encN ⟨ls, ps⟩ by rw [HE.out]; simp)
    have HCE := Lib.hid (HNB.out w1 B1.out hc hi)
    have hle := HNL.out hc hi
    clear HE HEB HNB HNL HEL hc hi
    generalize encN ⟨ls, ps⟩ = px at *
    go_wp2_with fail
    refine HCE.out.mono ?_
    rintro e w2 ⟨v, rfl, ho, hb2⟩
    obtain ⟨A5, c5', rfl, hbs5, _⟩ := ho.open
    have HBS5 := Lib.hid hbs5
    have HO5 := Lib.hid (HO1.out.below hb2)
    have B2 := Lib.hid (bnext B1.out hb2)
    have hsz := B2.out.size
    clear ho hb2 hbs5
    go_wp2_with (at_builtin; refine wp_app rfl _ _ rfl V.heap.size _ _ HO5.out rfl _ px _ _ rfl rfl HBS5.out ?c1 ?c2 ?_)
    case c1 => omega
    case c2 => exact hsz
    intro v6 w6 hown6 hbel6
    have HO6 := Lib.hid hown6
    have B6 := Lib.hid (B2.out.trans hbel6)
    clear hown6 hbel6
    go_wp2
    go_ret
    exact ⟨_, rfl, by rw [HQ.out]; exact HO6.out.mono HAL.out.size, bnext HAL.out B6.out⟩
theorem write_box {W W' : World} {g : Nat} {x : Wr} {s : Ns} {cs : Array Value} (h : W.heap[g]? = some (.cells cs 45 (0, 0))) (hcs : cs = wrc x s) (hb : Below W.heap.size W W') : WB W' g x s := by
  subst hcs
  exact wb_box h hb
/-- What Encode returns. -/
def EncP (B : Nat) (nn ne : Int) (l : List Wr) (e : Ending) (w' : World) : Prop :=
  if mayB nn ne l = true then ∃ A c, e = .returned (.tuple #[.slice A (encA nn ne l).length c, .int .i64 0]) ∧ Own B w' (.slice A (encA nn ne l).length c) (encA nn ne l) ∧ (encA nn ne l).length ≤ 15000
  else e = .returned (.tuple #[.slice none 0 0, .int .i64 1])
set_option maxHeartbeats 2000000 in
theorem penc_any (nn ne : Int) (A : Option Addr) (c : Nat) (l : List (Wr × Ns)) (w : World) (h : WRow w A l) (ho : ∀ x, x ∈ l → WOk x.1) (hi : ∀ x, x ∈ l → WrIn x.1) (hl : l.length ≤ 1000000) : Calls Try.prog 5 #[.int .i64 nn, .int .i64 ne, .slice A l.length c] w fun e w' => EncP w.heap.size nn ne (l.map (·.1)) e w' ∧ Below w.heap.size w w' := by
  have HM := Lib.hid (pmay_any nn ne A c l w h (fun x hx => ⟨ho x hx, (hi x hx).2.2.2.2⟩) hl)
  cases hm : mayB nn ne (l.map (·.1)) with
  | false =>
    rw [hm] at HM
    have HE : Hid (∀ e w', EncP w.heap.size nn ne (l.map (·.1)) e w' = (e = .returned (.tuple #[.slice none 0 0, .int .i64 1]))) := by
      intro e w'; unfold EncP; rw [hm, if_neg (by decide)]
    clear hm
    go_enter Try.func5, Try.ntmps5
    go_wp2_with fail
    refine HM.out.mono ?_
    rintro e w1 ⟨rfl, hb⟩
    have B1 := Lib.hid hb
    clear hb
    go_wp2
    go_ret2
    exact ⟨by rw [HE.out]; rfl, B1.out⟩
  | true =>
    rw [hm] at HM
    have hin : ∀ x ∈ l.map (·.1), WrIn x := fun x hx => by obtain ⟨y, hy, rfl⟩ := List.mem_map.1 hx; exact hi y hy
    have hfi := fine_of hm hin
    have hlen := mayB_len hm
    rw [List.length_map] at hlen
    obtain ⟨⟨n1, n2⟩, m1, m2⟩ := mayB_bd hm
    have HLE := Lib.hid (encA_len hm hin)
    have HE : Hid (∀ e w', EncP w.heap.size nn ne (l.map (·.1)) e w' = (∃ A c, e = .returned (.tuple #[.slice A (encA nn ne (l.map (·.1))).length c, .int .i64 0]) ∧ Own w.heap.size w' (.slice A (encA nn ne (l.map (·.1))).length c) (encA nn ne (l.map (·.1))) ∧ (encA nn ne (l.map (·.1))).length ≤ 15000)) := by
      intro e w'; unfold EncP; rw [hm, if_pos rfl]
    have HK := Lib.hid (fun W => pints_any none [] 0 [nn, ne, (l.length : Int)] #[.int .i64 nn, .int .i64 ne, .int .i64 (l.length : Int)] 3 W (bs_nil W) (by intro y hy; simp at hy; rcases hy with rfl | rfl | rfl <;> exact ⟨by omega, by omega⟩) (by simp) (by simp) rfl rfl)
    have hdr := encIs_len [nn, ne, (l.length : Int)] (by intro y hy; simp at hy; rcases hy with rfl | rfl | rfl <;> exact ⟨by omega, by omega⟩)
    have HEQ : Hid (encIs [nn, ne, (l.length : Int)] ++ encWs (l.map (·.1)) = encA nn ne (l.map (·.1))) := by simp only [Hid]; unfold encA; simp [encIs]
    have HFI := Lib.hid hfi
    have HR := Lib.hid h
    simp only [List.nil_append] at HK
    generalize encA nn ne (l.map (·.1)) = out at *
    generalize encIs [nn, ne, (l.length : Int)] = o1 at *
    clear hm hin hfi h ho hi
    go_enter Try.func5, Try.ntmps5
    go_wp2_with fail
    refine HM.out.mono ?_
    rintro e w1 ⟨rfl, hb⟩
    have B1 := Lib.hid hb
    clear hb
    go_wp2_with fail
    refine (HK.out _).mono ?_
    rintro e w2 ⟨v, rfl, ho, hb2⟩
    have B2 := Lib.hid (bnext B1.out hb2)
    have HO := Lib.hid (ho.mono B1.out.size)
    clear ho hb2
    obtain ⟨A1, c1, rfl, _, _⟩ := HO.out.open
    go_wp2
    go_loopw [8, 24] (fun v i wr => ∃ (k : Nat) (d : List UInt8), k ≤ l.length ∧ i = .int .i64 (k : Nat) ∧ Hid (d = o1 ++ encWs ((l.map (·.1)).take k)) ∧ Hid (Own w.heap.size wr v d) ∧ Hid (Below w.heap.size w wr)) (fun _ i _ => l.length - (intOf i).toNat)
    case atStart => exact ⟨0, o1, Nat.zero_le _, rfl, by simp [Hid, encWs], HO.out, B2.out⟩
    case round =>
      obtain ⟨k, d, hk, rfl, HDD, HOW, HB⟩ := hrel
      obtain ⟨Ad, cd, rfl, hbs, _⟩ := HOW.out.open
      by_cases hlt : k < l.length
      · have hkm : k < (l.map (·.1)).length := by rw [List.length_map]; exact hlt
        obtain ⟨ad, pk, ea, hp, he, hn⟩ := (HR.out.below HB.out) k hlt
        subst ea
        have HSN0 := encWs_snoc (l.map (·.1)) k hkm
        have hfk := HFI.out ((l.map (·.1))[k]'hkm) (List.getElem_mem hkm)
        have hdl : d.length ≤ 30 + 254 * 56 := by
          have h0 := encWs_len HFI.out k (by rw [List.length_map]; exact hk)
          have := HDD.out
          have h9 : 254 * k ≤ 254 * 56 := Nat.mul_le_mul_left _ (by omega)
          rw [this, List.length_append]
          have : o1.length ≤ 30 := hdr
          omega
        rw [List.getElem_map] at HSN0 hfk
        have HSN := Lib.hid HSN0
        have hwl := encW_len hfk
        have hi5 : IntKind.i64.wrap (k : Int) = (k : Int) := wrap_small (show k ≤ 9223372036854775807 by omega)
        have hi0 : (0 : Int) ≤ (k : Int) := by omega
        have HWB := Lib.hid (fun W (hW : Below wr.heap.size wr W) => pwriteb_any l[k].1 l[k].2 W (hn.below hW) hfk)
        clear hn HSN0 hbs hfk
        generalize l[k] = y at *
        clear hkm
        generalize encW y.1 = px at *
        obtain ⟨⟨ye, yid, yg, ⟨yls, yps⟩, ⟨ya, yb, yt, yw⟩⟩, ⟨yA, yc, yB, yc2⟩⟩ := y
        obtain ⟨c0, c1, c2, c3, c4, c5, c6, c7, c8⟩ := he
        simp only at c0 c1 c2 c3 c4 c5 c6 c7 c8 HWB
        have hal := one_box wr (.cells #[.bool ye, .int .i64 yid, .bool yg, .slice yA yls.length yc, .slice yB yps.length yc2, .int .i64 ya, .int .i64 yb, .string yt, .float .f64 yw] 45)
        have HWB1 := Lib.hid (HWB.out _ hal)
        have HAL := Lib.hid hal
        clear hal HWB
        go_wp2_with fail
        refine HWB1.out.mono ?_
        rintro e w4 ⟨v, rfl, ho, hb4⟩
        obtain ⟨A5, c5', rfl, hbs5, _⟩ := ho.open
        have HBS5 := Lib.hid hbs5
        have HB4 := Lib.hid (bnext (bnext HB.out HAL.out) hb4)
        have HO5 := Lib.hid (HOW.out.below (bnext HAL.out hb4))
        have hsz5 := HB4.out.size
        clear ho hb4 hbs5
        go_wp2_with (at_builtin; refine wp_app rfl _ _ rfl w.heap.size _ _ HO5.out rfl _ px _ _ rfl rfl HBS5.out ?c1 ?c2 ?_)
        case c1 => omega
        case c2 => exact hsz5
        intro v6 w6 hown6 hbel6
        have HO6 := Lib.hid hown6
        have B6 := Lib.hid (HB4.out.trans hbel6)
        clear hown6 hbel6
        go_wp2
        refine ⟨⟨k + 1, _, hlt, by go_num, ?_, HO6.out, B6.out⟩, by simp [intOf]; omega⟩
        show _ = _
        rw [HSN.out, HDD.out]
        simp only [List.append_assoc]
      · obtain rfl : k = l.length := by omega
        have e := HDD.out
        rw [← List.length_map (f := fun x : Wr × Ns => x.1), List.take_length, HEQ.out] at e
        subst e
        go_wp2
        go_ret2
        exact ⟨by rw [HE.out]; exact ⟨_, _, rfl, HOW.out, HLE.out⟩, HB.out⟩
end Go.Proofs.Ytdhpphbgobakhaa
