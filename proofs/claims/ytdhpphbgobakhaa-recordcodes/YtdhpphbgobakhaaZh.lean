/- The program's edgeBytes and nodeBytes of chapter 10: the bytes that they return. Conditions: what is valid, in memory; numbers in the range of Go's types. -/
import Derived.Test.YtdhpphbgobakhaaZg
namespace Go.Proofs.Ytdhpphbgobakhaa
set_option maxRecDepth 100000
set_option linter.unusedVariables false
open Go.ChangeShapes Go.WideShapes Go.ChangeAt Go.RowKit
open Fl (S cmpK keyN normN)
open Val (V cmpV isB ltT)
open Lb
theorem edge_box {W W' : World} {g : Nat} {x : Eg} {cs : Array Value} (h : W.heap[g]? = some (.cells cs 39 (0, 0))) (hcs : cs = #[.int .i64 x.a, .int .i64 x.b, .string x.t, .float .f64 x.w]) (hb : Below W.heap.size W W') : W'.cell? ⟨g, 0, none⟩ = some (.int .i64 x.a) ∧ W'.cell? ⟨g, 1, none⟩ = some (.int .i64 x.b) ∧ W'.cell? ⟨g, 2, none⟩ = some (.string x.t) ∧ W'.cell? ⟨g, 3, none⟩ = some (.float .f64 x.w) := by
  subst hcs
  have hq := (hb.block _ (block_of h)).trans h
  refine ⟨?_, ?_, ?_, ?_⟩ <;> rw [cell_of_row W' g _ _ _ _ hq] <;> rfl
set_option maxHeartbeats 1000000 in
theorem pedgeb_any (x : Eg) (ha : In64 x.a) (hb : In64 x.b) (ht : x.t.size ≤ 100) (hf : x.w < 2 * S) (w : World) : Calls Try.prog 40 #[egv x] w (Gives w.heap.size (encE x) w) := by
  obtain ⟨V, hV⟩ : ∃ V, V = w.alloc (.cells #[.int .i64 x.a, .int .i64 x.b, .string x.t, .float .f64 x.w] 39) := ⟨_, rfl⟩
  have hbx : V.heap[w.heap.size]? = some (.cells #[.int .i64 x.a, .int .i64 x.b, .string x.t, .float .f64 x.w] 39 (0, 0)) := by rw [hV]; exact heap_alloc_new w _
  have hal : Below w.heap.size w V := by rw [hV]; exact one_box w _
  have HX := Lib.hid (fun W (hW : Below V.heap.size V W) => edge_box hbx rfl hW)
  have HAL := Lib.hid hal
  have HK := Lib.hid (pints_any none [] 0 [x.a, x.b] #[.int .i64 x.a, .int .i64 x.b] 2 V (bs_nil V) (by intro y hy; simp at hy; rcases hy with rfl | rfl <;> assumption) (by simp) (by simp) rfl rfl)
  rw [show ([] ++ encIs [x.a, x.b] : List UInt8) = encI x.a ++ encI x.b by simp [encIs]] at HK
  have l1 := (encI_len x.a ha.1 ha.2).1
  have l2 := (encI_len x.b hb.1 hb.2).1
  have l3 := (encS_len x.t (by omega)).1
  have HS := Lib.hid (fun W A c (h : BS W A (encI x.a ++ encI x.b) c) => pstr1_any A (encI x.a ++ encI x.b) c x.t W h ht (by rw [List.length_append]; omega))
  have HR := Lib.hid (fun W A c (h : BS W A (encI x.a ++ encI x.b ++ encS x.t.data.toList) c) => preal1_any A (encI x.a ++ encI x.b ++ encS x.t.data.toList) c x.w W h hf (by rw [List.length_append, List.length_append]; omega))
  have HE : Hid (encI x.a ++ encI x.b ++ encS x.t.data.toList ++ encR x.w = encE x) := by simp only [Hid]; unfold encE; simp only [List.append_assoc]
  clear hbx hal l1 l2 l3 ha hb ht hf
  obtain ⟨a, b, t, f⟩ := x
  simp only at HX HK HE HS HR hV
  generalize encE ⟨a, b, t, f⟩ = out at *
  generalize encI a ++ encI b = o1 at *
  generalize o1 ++ encS t.data.toList = o2 at *
  obtain ⟨b0, b1, b2, b3⟩ := HX.out V (Below.refl _ _)
  go_enter Try.func40, Try.ntmps40
  go_upto_region 1 with fail
  rw [← hV]
  clear hV
  go_wp2_with fail
  refine HK.out.mono ?_
  rintro e w1 ⟨v, rfl, ho, hb1⟩
  obtain ⟨A, c, rfl, hbs, _⟩ := ho.open
  have HBS := Lib.hid hbs
  have B1 := Lib.hid hb1
  obtain ⟨d0, d1, d2, d3⟩ := HX.out w1 hb1
  clear ho hbs hb1
  go_wp2_with fail
  refine (HS.out _ _ _ HBS.out).mono ?_
  rintro e w2 ⟨v, rfl, ho, hb2⟩
  obtain ⟨A2, c2, rfl, hbs, _⟩ := ho.open
  have HBS2 := Lib.hid hbs
  have B2 := Lib.hid (bnext B1.out hb2)
  obtain ⟨f0, f1, f2, f3⟩ := HX.out w2 B2.out
  clear ho hbs hb2
  go_wp2_with fail
  refine (HR.out _ _ _ HBS2.out).mono ?_
  rintro e w3 ⟨v, rfl, ho, hb3⟩
  have HO := Lib.hid ho
  have B3 := Lib.hid (bnext HAL.out (bnext B2.out hb3))
  have HSZ := Lib.hid (bnext HAL.out B2.out).size
  clear ho hb3
  go_wp2
  go_ret
  refine ⟨_, rfl, ?_, B3.out⟩
  have := HO.out.mono HSZ.out
  rw [HE.out] at this
  exact this
theorem encPs_snoc (l : List Pr) (k : Nat) (h : k < l.length) : encPs (l.take (k + 1)) = encPs (l.take k) ++ encP l[k] := by
  unfold encPs; rw [List.take_succ_eq_append_getElem h, List.flatMap_append]; simp
theorem encV_len {v : V} (hk : In64 v.k) (hn : In64 v.n) (ht : v.t.size ≤ 12) : (encV v).length ≤ 32 := by
  unfold encV
  have h1 := (encI_len v.k hk.1 hk.2).1
  have h2 := (encI_len v.n hn.1 hn.2).1
  have h3 := (encI_len (b2i v.b) (b2i_in _).1 (b2i_in _).2).1
  have h4 := (encS_len v.t (by omega)).1
  have h5 : (encR v.f).length = 8 := rfl
  rw [List.length_append]
  split
  · omega
  split
  · omega
  split <;> omega
theorem isB_text {v : V} (h : isB v = true) : v.t.size ≤ 12 := by
  unfold Val.isB at h
  simp only [Bool.and_eq_true, decide_eq_true_eq] at h
  exact h.2
structure PrIn (p : Pr) : Prop where
  k : p.k.size ≤ 8
  vk : In64 p.v.k
  vn : In64 p.v.n
  vf : p.v.f < 2 * S
  vt : p.v.t.size ≤ 12
theorem prIn_of {n : Nd} (h : nodeB n = true) (hi : NdIn n) : ∀ p ∈ n.ps, PrIn p := fun p hp => by
  obtain ⟨h1, h2, h3⟩ := (nodeB_of h).2.1 p hp
  have hk := isB_kind h2 h3
  exact ⟨(nameB_len h1).2, ⟨by omega, by omega⟩, (hi p hp).1, (hi p hp).2, isB_text h2⟩
theorem encP_len {p : Pr} (h : PrIn p) : (encP p).length ≤ 50 := by
  have h1 := encV_len h.vk h.vn h.vt
  have h2 := (encS_len p.k (by have := h.k; omega)).1
  have := h.k
  unfold encP
  rw [List.length_append]; omega
theorem encPs_len {l : List Pr} (h : ∀ p ∈ l, PrIn p) : ∀ k, k ≤ l.length → (encPs (l.take k)).length ≤ 50 * k
  | 0, _ => by simp [encPs]
  | k + 1, hk => by
    rw [encPs_snoc l k hk, List.length_append]
    have := encPs_len h k (by omega)
    have := encP_len (h _ (List.getElem_mem hk))
    omega
theorem node_box {W W' : World} {g : Nat} {A B : Option Addr} {n m c d : Nat} {cs : Array Value} (h : W.heap[g]? = some (.cells cs 43 (0, 0))) (hcs : cs = #[.slice A n c, .slice B m d]) (hb : Below W.heap.size W W') : W'.cell? ⟨g, 0, none⟩ = some (.slice A n c) ∧ W'.cell? ⟨g, 1, none⟩ = some (.slice B m d) := by
  subst hcs
  have hq := (hb.block _ (block_of h)).trans h
  refine ⟨?_, ?_⟩ <;> rw [cell_of_row W' g _ _ _ _ hq] <;> rfl
theorem prop_box {W W' : World} {g : Nat} {x : Pr} {cs : Array Value} (h : W.heap[g]? = some (.cells cs 49 (0, 0))) (hcs : cs = #[.string x.k, .int .i64 x.v.k, .bool x.v.b, .int .i64 x.v.n, .float .f64 x.v.f, .string x.v.t]) (hb : Below W.heap.size W W') : W'.cell? ⟨g, 0, none⟩ = some (.string x.k) ∧ W'.cell? ⟨g, 1, none⟩ = some (.int .i64 x.v.k) ∧ W'.cell? ⟨g, 2, none⟩ = some (.bool x.v.b) ∧ W'.cell? ⟨g, 3, none⟩ = some (.int .i64 x.v.n) ∧ W'.cell? ⟨g, 4, none⟩ = some (.float .f64 x.v.f) ∧ W'.cell? ⟨g, 5, none⟩ = some (.string x.v.t) := by
  subst hcs
  have hq := (hb.block _ (block_of h)).trans h
  refine ⟨?_, ?_, ?_, ?_, ?_, ?_⟩ <;> rw [cell_of_row W' g _ _ _ _ hq] <;> rfl
set_option maxHeartbeats 2000000 in
theorem pnodeb_any (n : Nd) (s : Ns) (w : World) (h : NdAt w n s) (hb : nodeB n = true) (hi : NdIn n) : Calls Try.prog 41 #[ndv n s] w (Gives w.heap.size (encN n) w) := by
  have hp := prIn_of hb hi
  obtain ⟨h1, _, h3, h4⟩ := nodeB_of hb
  obtain ⟨V, hV⟩ : ∃ V, V = w.alloc (.cells #[.slice s.la n.ls.length s.lc, .slice s.pa n.ps.length s.pc] 43) := ⟨_, rfl⟩
  have hbx : V.heap[w.heap.size]? = some (.cells #[.slice s.la n.ls.length s.lc, .slice s.pa n.ps.length s.pc] 43 (0, 0)) := by rw [hV]; exact heap_alloc_new w _
  have hal : Below w.heap.size w V := by rw [hV]; exact one_box w _
  have HX := Lib.hid (fun W (hW : Below V.heap.size V W) => node_box hbx rfl hW)
  have HAL := Lib.hid hal
  have HN := Lib.hid (h.below hal)
  have HP := Lib.hid hp
  have lA := (encI_len (n.ls.length : Int) (by omega) (by omega)).1
  have lB := (encI_len (n.ps.length : Int) (by omega) (by omega)).1
  have lS := encSs_len 8 n.ls (fun x hx => (nameB_len (h1 x hx)).2) (by omega)
  have HK := Lib.hid (pints_any none [] 0 [(n.ls.length : Int)] #[.int .i64 (n.ls.length : Int)] 1 V (bs_nil V) (by simp [In64]; omega) (by simp) (by simp) rfl rfl)
  rw [show ([] ++ encIs [(n.ls.length : Int)] : List UInt8) = encI n.ls.length by simp [encIs]] at HK
  have HS := Lib.hid (fun W A c (hW : Below V.heap.size V W) (h : BS W A (encI n.ls.length) c) => str_any A (encI n.ls.length) c s.la n.ls s.lc W h (HN.out.r1.below hW) (fun x hx => by have := (nameB_len (h1 x hx)).2; omega) (by rw [List.length_append]; omega) (by omega))
  have HI := Lib.hid (fun W A c (h : BS W A (encI n.ls.length ++ encSs n.ls) c) => pints_any A (encI n.ls.length ++ encSs n.ls) c [(n.ps.length : Int)] #[.int .i64 (n.ps.length : Int)] 1 W h (by simp [In64]; omega) (by rw [List.length_append]; omega) (by simp) rfl rfl)
  rw [show encIs [(n.ps.length : Int)] = encI n.ps.length by simp [encIs]] at HI
  have HE : Hid (encI n.ls.length ++ encSs n.ls ++ encI n.ps.length ++ encPs n.ps = encN n) := by simp only [Hid]; unfold encN; simp only [List.append_assoc]
  have HLEN : Hid ((encI n.ls.length ++ encSs n.ls ++ encI n.ps.length).length ≤ 100) := by simp only [Hid]; rw [List.length_append, List.length_append]; omega
  clear hbx hal lA lB lS h hb hi h1 hp
  obtain ⟨ls, ps⟩ := n
  obtain ⟨la, lc, pa, pc⟩ := s
  simp only at HX HK HE HS HI HN HP HLEN hV h3 h4
  generalize encN ⟨ls, ps⟩ = out at *
  generalize encI ls.length ++ encSs ls = o1 at *
  generalize o1 ++ encI ps.length = o2 at *
  obtain ⟨b0, b1⟩ := HX.out V (Below.refl _ _)
  go_enter Try.func41, Try.ntmps41
  go_upto_region 1 with fail
  rw [← hV]
  clear hV
  go_wp2_with fail
  refine HK.out.mono ?_
  rintro e w1 ⟨v, rfl, ho, hb1⟩
  obtain ⟨A, c, rfl, hbs, _⟩ := ho.open
  have HBS := Lib.hid hbs
  have B1 := Lib.hid hb1
  obtain ⟨d0, d1⟩ := HX.out w1 hb1
  clear ho hbs hb1
  go_wp2_with fail
  refine (HS.out _ _ _ B1.out HBS.out).mono ?_
  rintro e w2 ⟨v, rfl, ho, hb2⟩
  obtain ⟨A2, c2, rfl, hbs, _⟩ := ho.open
  have HBS2 := Lib.hid hbs
  have B2 := Lib.hid (bnext B1.out hb2)
  obtain ⟨f0, f1⟩ := HX.out w2 B2.out
  clear ho hbs hb2
  go_wp2_with fail
  refine (HI.out _ _ _ HBS2.out).mono ?_
  rintro e w3 ⟨v, rfl, ho, hb3⟩
  have HO := Lib.hid (ho.mono B2.out.size)
  have B3 := Lib.hid (bnext B2.out hb3)
  obtain ⟨q0, q1⟩ := HX.out w3 B3.out
  clear ho hb3
  obtain ⟨A3, c3, rfl, _, _⟩ := HO.out.open
  go_wp2
  clear b0 b1 d0 d1 f0 f1 q0 q1
  go_loopw [3, 24] (fun v i wr => ∃ (k : Nat) (d : List UInt8), k ≤ ps.length ∧ i = .int .i64 (k : Nat) ∧ Hid (d = o2 ++ encPs (ps.take k)) ∧ Hid (Own V.heap.size wr v d) ∧ Hid (Below V.heap.size V wr)) (fun _ i _ => ps.length - (intOf i).toNat)
  case atStart => exact ⟨0, o2, Nat.zero_le _, rfl, by simp [Hid, encPs], HO.out, B3.out⟩
  case round =>
    obtain ⟨k, d, hk, rfl, HDD, HOW, HB⟩ := hrel
    obtain ⟨Ad, cd, rfl, hbs, _⟩ := HOW.out.open
    by_cases hlt : k < ps.length
    · obtain ⟨ad, pk, e1, hq, he⟩ := (HN.out.r2.below HB.out) k hlt
      subst e1
      have hpk := HP.out _ (List.getElem_mem hlt)
      have HSN := Lib.hid (encPs_snoc ps k hlt)
      have hdl : d.length ≤ 100 + 50 * k := by have h0 := encPs_len HP.out k hk; have h9 := HLEN.out; have := HDD.out; rw [this, List.length_append]; omega
      have hi5 : IntKind.i64.wrap (k : Int) = (k : Int) := wrap_small (show k ≤ 9223372036854775807 by omega)
      have hi0 : (0 : Int) ≤ (k : Int) := by omega
      have he : PAt wr pk ps[k] := he
      generalize ps[k] = x at *
      have HVB := Lib.hid (fun W => pval_any x.v hpk.vk hpk.vn hpk.vf (by have := hpk.vt; omega) W)
      have lV := encV_len hpk.vk hpk.vn hpk.vt
      have lK := (encS_len x.k (by have := hpk.k; omega)).1
      have lK2 := hpk.k
      have HST := Lib.hid (fun W A c (h : BS W A d c) => pstr1_any A d c x.k W h (by have := hpk.k; omega) (by omega))
      have HXE : Hid (encS x.k.data.toList ++ encV x.v = encP x) := rfl
      obtain ⟨xk, ⟨vk, vb, vn, vf, vt⟩⟩ := x
      obtain ⟨c0, c1, c2, c3, c4, c5⟩ := he
      simp only at c0 c1 c2 c3 c4 c5 HVB HST HXE lV lK lK2
      obtain ⟨wb, hwb⟩ : ∃ wb, wb = wr.alloc (.cells #[.string xk, .int .i64 vk, .bool vb, .int .i64 vn, .float .f64 vf, .string vt] 49) := ⟨_, rfl⟩
      have hal : Below wr.heap.size wr wb := by rw [hwb]; exact one_box wr _
      have hnw : wb.heap[wr.heap.size]? = some (.cells #[.string xk, .int .i64 vk, .bool vb, .int .i64 vn, .float .f64 vf, .string vt] 49 (0, 0)) := by rw [hwb]; exact heap_alloc_new wr _
      have HBX := Lib.hid (fun W hW => prop_box (x := ⟨xk, ⟨vk, vb, vn, vf, vt⟩⟩) hnw rfl (W' := W) hW)
      have HWAL := Lib.hid hal
      have HBS3 := Lib.hid (hbs.below hal)
      have HOW2 := Lib.hid (HOW.out.below hal)
      clear hal hnw hpk hbs
      obtain ⟨d4, hd4⟩ : ∃ d4, d ++ encS xk.data.toList = d4 := ⟨_, rfl⟩
      have hl4 : d4.length ≤ d.length + 18 := by rw [← hd4, List.length_append]; omega
      rw [hd4] at HST
      have HD4 := Lib.hid hd4
      clear hd4 lK
      generalize encP ⟨xk, ⟨vk, vb, vn, vf, vt⟩⟩ = px at *
      generalize encV ⟨vk, vb, vn, vf, vt⟩ = vx at *
      go_upto_region 7 with fail
      rw [← hwb]
      clear hwb
      obtain ⟨p0, p1, p2, p3, p4, p5⟩ := HBX.out wb (Below.refl _ _)
      simp only at p0 p1 p2 p3 p4 p5
      go_wp2_with fail
      refine (HST.out _ _ _ HBS3.out).mono ?_
      rintro e w4 ⟨v, rfl, ho, hb4⟩
      have HO4 := Lib.hid (ho.mono (Nat.le_trans HB.out.size HWAL.out.size))
      have B4 := Lib.hid hb4
      obtain ⟨g0, g1, g2, g3, g4, g5⟩ := HBX.out w4 hb4
      obtain ⟨A4, c4', rfl, _, _⟩ := HO4.out.open
      clear ho hb4
      go_wp2_with fail
      refine (HVB.out _).mono ?_
      rintro e w5 ⟨v, rfl, ho, hb5⟩
      obtain ⟨A5, c5', rfl, hbs5, _⟩ := ho.open
      have HBS5 := Lib.hid hbs5
      have B5 := Lib.hid hb5
      have HO5 := Lib.hid (HO4.out.below hb5)
      have hb05 := bnext (bnext (bnext HB.out HWAL.out) B4.out) hb5
      have hsz5 : V.heap.size ≤ w5.heap.size := hb05.size
      have HB05 := Lib.hid hb05
      clear hb05
      clear ho hb5 hbs5
      go_wp2_with (at_builtin; refine wp_app rfl _ _ rfl V.heap.size _ _ HO5.out rfl _ vx _ _ rfl rfl HBS5.out ?c1 ?c2 ?_)
      case c1 => omega
      case c2 => exact hsz5
      intro v6 w6 hown6 hbel6
      have HO6 := Lib.hid hown6
      have hbv : Below V.heap.size V w6 := HB05.out.trans hbel6
      have B6 := Lib.hid hbv
      clear hown6 hbel6 hbv
      go_wp2
      refine ⟨⟨k + 1, _, hlt, by go_num, ?_, HO6.out, B6.out⟩, by simp [intOf]; omega⟩
      show _ = _
      rw [HSN.out, ← HD4.out, HDD.out, ← HXE.out]
      simp only [List.append_assoc]
    · obtain rfl : k = ps.length := by omega
      have e := HDD.out
      rw [List.take_length, HE.out] at e
      subst e
      go_wp2
      go_ret
      exact ⟨_, rfl, HOW.out.mono HAL.out.size, bnext HAL.out HB.out⟩
end Go.Proofs.Ytdhpphbgobakhaa
