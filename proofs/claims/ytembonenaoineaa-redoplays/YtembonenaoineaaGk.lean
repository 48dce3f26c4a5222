/- A Drum and a Log on it side by side in memory; what known, of the laws of chapter 5, returns: true. Conditions: none for known. -/
import Derived.Test.YtembonenaoineaaGz
import Derived.Lib.SlBytesConst
namespace Go.Proofs.Ytembonenaoineaa
set_option maxRecDepth 100000
set_option linter.unusedVariables false
open Go.ChangeShapes Go.WideShapes Go.ChangeAt Go.RowKit
open Lb (encI encIs encS In64 encI_len encSs encSs_len encS_len)

/-- The Drum in block a and the Log in block c, both laid since w. -/
structure Sys (w wr : World) (F : Nat → Prop) (a c : Nat) (s : DS) (L : LG) : Prop where
  pd : PD F wr a s
  lm : LMg wr c a L
  cF : ¬ F c
  fF : ∀ k, F k → w.heap.size ≤ k
  fc : w.heap.size ≤ c
  bl : Below w.heap.size w wr
section
variable {w wr w' : World} {F : Nat → Prop} {a c : Nat} {s s' : DS} {L L' : LG}
theorem Sys.below (h : Sys w wr F a c s L) (hb : Below wr.heap.size wr w') : Sys w w' F a c s L :=
  ⟨h.pd.below hb, h.lm.below hb, h.cF, h.fF, h.fc, h.bl.trans (hb.mono h.bl.size)⟩
theorem Sys.puts (h : Sys w wr F a c s L) {E : Int} {e : Ending} (hp : Puts F wr c a E s' L' e w') : Sys w w' (Nu F wr w') a c s' L' := by
  obtain ⟨h1, h2, h3, h4⟩ := hp
  have hz := h.bl.size
  refine ⟨h2, h3, fun hc => ?_, nu_ge h.fF hz, h.fc, Chg.of_below h.bl h4 (fun k hk => ?_)⟩
  · rcases hc with hc | hc
    · exact h.cF hc
    · have := h.lm.lt; omega
  · rcases hk with hk | rfl
    · exact h.fF k hk
    · exact h.fc
theorem Sys.does (h : Sys w wr F a c s L) {v : Value} {e : Ending} (hd : Does F wr a v s' e w') : Sys w w' (Nu F wr w') a c s' L := by
  obtain ⟨h1, h2, h3⟩ := hd
  have hz := h.bl.size
  refine ⟨h2, h.lm.chg h3 h.cF, fun hc => ?_, nu_ge h.fF hz, h.fc, Chg.of_below h.bl h3 h.fF⟩
  rcases hc with hc | hc
  · exact h.cF hc
  · have := h.lm.lt; omega
theorem Sys.drewN (h : Sys w wr F a c s L) (n : Nat) : Sys w (wr.drewN n) F a c s L :=
  ⟨h.pd.drewN n, h.lm, h.cF, h.fF, h.fc, below_drewN h.bl n⟩
theorem sys_open (hb : Below w.heap.size w wr) (hp : PD F wr a s) (hF : ∀ k, F k → w.heap.size ≤ k) (hb2 : Below wr.heap.size wr w') (hl : LMg w' c a L) (hc : wr.heap.size ≤ c) : Sys w w' F a c s L :=
  ⟨hp.below hb2, hl, fun h => by have := hp.lt c h; omega, hF, Nat.le_trans hb.size hc, hb.trans (hb2.mono hb.size)⟩
/-- What may be argument to a write. -/
theorem arg_bs {A : Option Addr} {p : List UInt8} {cp : Nat} (hb : BS w A p cp) (h : Sys w wr F a c s L) : BS wr A p cp := hb.below h.bl
end
/-- What an entry laid behind the log (rs = false) or in place of it (rs = true) leaves. -/
structure Stepd (rs : Bool) (s : DS) (L : LG) (es : List (List UInt8)) (p : List UInt8) (E : Int) (s' : DS) (L' : LG) : Prop where
  res : (E = 0 ∧ Rst s' L' (esOf rs es ++ [p]) ∧ L'.h.n = L.h.n + 1 ∧ (s.life = some none → s'.life = some none)) ∨ (E = 9 ∧ s.life ≠ some none ∧ L' = ⟨L.h, L.cnt, true⟩)
  ok : DOk s'
  len : s'.now.length = s.now.length
  left : ∀ keep, Left (crL s' keep) es (L.h.n + 1) ∨ Left (crL s' keep) (esOf rs es ++ [p]) (L.h.n + 1)
  all : ∀ keep, E = 0 → Left (crL s' keep) (esOf rs es ++ [p]) (L.h.n + 1)
  pend : s'.pend.length ≤ s.pend.length + 110
def Stp (rs : Bool) (w wr : World) (F : Nat → Prop) (a c : Nat) (s : DS) (L : LG) (es : List (List UInt8)) (p : List UInt8) (e : Ending) (w' : World) : Prop :=
  ∃ E s' L', e = .returned (.int .i64 E) ∧ Sys w w' (Nu F wr w') a c s' L' ∧ Chg (fun k => F k ∨ k = c) wr w' ∧ Stepd rs s L es p E s' L'
theorem saveS_pend (s : DS) (i : Nat) (x : List UInt8) (nh : Hd) : (saveS s i x nh).pend.length ≤ s.pend.length + nch x + 1 := by
  have h1 : (st1 s i x).pend.length ≤ s.pend.length + nch x := wrs_pend s i x _
  have h2 : (st2 s i x).pend.length ≤ s.pend.length + nch x := Nat.le_trans (syS_pend _) h1
  have h3 : (st3 s i x nh).pend.length ≤ s.pend.length + nch x + 1 := Nat.le_trans (wrS_pend _ _ _) (by omega)
  unfold saveS
  split
  · omega
  · split
    · omega
    · split
      · exact h3
      · exact Nat.le_trans (syS_pend _) h3
theorem apS_pend {s : DS} (hok : DOk s) (L : LG) (at' : Hd) {e : List UInt8} : (apS s L at' e).pend.length ≤ s.pend.length + 110 := by
  unfold apS
  split
  · omega
  · split
    · rename_i hc
      refine Nat.le_trans (saveS_pend _ _ _ _) ?_
      have h3 := bk_few hok.few
      simp only [nxOk, hvB, decide_eq_true_eq] at hc
      have h2 : (pX s at' e).length ≤ 64 + e.length := by unfold pX; rw [List.length_append, List.length_take]; omega
      have : nch (pX s at' e) ≤ 102 := by unfold nch; omega
      omega
    · omega
section
variable {w wr : World} {F : Nat → Prop} {a c : Nat} {s : DS} {L : LG} {es : List (List UInt8)}
theorem app_rst (h : Sys w wr F a c s L) (hr : Rst s L es) (P : Option Addr) (p : List UInt8) (cp : Nat) (hP : BS wr P p cp) (hp : p.length ≤ 8191) (hx : (enc es ++ encS p).length ≤ bk s.now * 64) (hn : L.h.n < 1099511627776) :
    Calls Try.prog 15 #[.pointer (some ⟨c, 0, none⟩), .slice P p.length cp] wr (Stp false w wr F a c s L es p) := by
  have hbd := hr.rest.inv.bd
  have hfew := bk_few hr.rest.ok.few
  have hes : es.length ≤ (enc es).length := by
    clear hx hr hbd
    induction es with
    | nil => simp
    | cons q es ih =>
      have : 1 ≤ (encS q).length := by
        simp only [encS, List.length_append]
        have := (Lib.uvarint_pos (Lib.zigzag (q.length : Int)))
        simp only [encI]; omega
      simp only [enc, List.flatMap_cons, List.length_append, List.length_cons] at *; omega
  rw [List.length_append] at hx
  refine (append_any h.pd h.lm h.cF P p cp hP (by omega) hbd.2.1 hbd.1 (by omega) (by rw [hr.cnt]; omega) hr.rest.four (by rw [hr.rest.pend]; simp)).mono ?_
  intro e w' hpu
  obtain ⟨g1, g2, g3, g4⟩ := ap_step hr false p hp (by rw [List.length_append]; exact hx) hn
  exact ⟨_, _, _, hpu.1, h.puts hpu, hpu.2.2.2, g1, apS_ok hr.rest.ok _ _ _, g2, g3, g4, apS_pend hr.rest.ok _ _⟩
theorem res_rst (h : Sys w wr F a c s L) (hr : Rst s L es) (P : Option Addr) (p : List UInt8) (cp : Nat) (hP : BS wr P p cp) (hp : p.length ≤ 8191) (hx : (encS p).length ≤ bk s.now * 64) (hn : L.h.n < 1099511627776) :
    Calls Try.prog 17 #[.pointer (some ⟨c, 0, none⟩), .slice P p.length cp] wr (Stp true w wr F a c s L es p) := by
  have hbd := hr.rest.inv.bd
  have hfew := bk_few hr.rest.ok.few
  refine (reset_any h.pd h.lm h.cF P p cp hP (by omega) hbd.2.1 hbd.1 hr.rest.four (by rw [hr.rest.pend]; simp)).mono ?_
  intro e w' hpu
  obtain ⟨g1, g2, g3, g4⟩ := ap_step hr true p hp (by show ([] ++ encS p).length ≤ _; simpa using hx) hn
  exact ⟨_, _, _, hpu.1, h.puts hpu, hpu.2.2.2, g1, apS_ok hr.rest.ok _ _ _, g2, g3, g4, apS_pend hr.rest.ok _ _⟩
/-- A dead Log writes nothing. -/
theorem app_dead (h : Sys w wr F a c s L) (hd : L.dead = true) (P : Option Addr) (p : List UInt8) (cp : Nat) (hP : BS wr P p cp) (hp : p.length ≤ 10000) (hb : L.h.k ≤ 1 ∧ L.h.n ≤ 1099511627776 ∧ L.h.z ≤ 10000 ∧ L.cnt ≤ 100000 ∧ 4 ≤ s.now.length ∧ s.pend.length ≤ 800) :
    Calls Try.prog 15 #[.pointer (some ⟨c, 0, none⟩), .slice P p.length cp] wr fun e w' => e = .returned (.int .i64 9) ∧ Sys w w' (Nu F wr w') a c s L ∧ Chg (fun k => F k ∨ k = c) wr w' := by
  refine (append_any h.pd h.lm h.cF P p cp hP hp hb.1 hb.2.1 hb.2.2.1 hb.2.2.2.1 hb.2.2.2.2.1 hb.2.2.2.2.2).mono ?_
  intro e w' hpu
  obtain ⟨g1, g2, g3⟩ := ap_dead s L.h L.cnt (encS p) hd
  rw [g1, g2, g3] at hpu
  exact ⟨hpu.1, h.puts hpu, hpu.2.2.2⟩
theorem res_dead (h : Sys w wr F a c s L) (hd : L.dead = true) (P : Option Addr) (p : List UInt8) (cp : Nat) (hP : BS wr P p cp) (hp : p.length ≤ 10000) (hb : L.h.k ≤ 1 ∧ L.h.n ≤ 1099511627776 ∧ L.h.z ≤ 10000 ∧ L.cnt ≤ 100000 ∧ 4 ≤ s.now.length ∧ s.pend.length ≤ 800) :
    Calls Try.prog 17 #[.pointer (some ⟨c, 0, none⟩), .slice P p.length cp] wr fun e w' => e = .returned (.int .i64 9) ∧ Sys w w' (Nu F wr w') a c s L ∧ Chg (fun k => F k ∨ k = c) wr w' := by
  refine (reset_any h.pd h.lm h.cF P p cp hP hp hb.1 hb.2.1 hb.2.2.2.2.1 hb.2.2.2.2.2).mono ?_
  intro e w' hpu
  obtain ⟨g1, g2, g3⟩ := ap_dead s (oth L.h) 0 (encS p) hd
  rw [g1, g2, g3] at hpu
  exact ⟨hpu.1, h.puts hpu, hpu.2.2.2⟩
end
theorem row_below' {w wr : World} {K : Option Addr} {l : List Bool} (h : Row .bool w K l) (hb : Below w.heap.size w wr) : Row .bool wr K l := h.below hb
theorem Rst.fuse {s : DS} {L : LG} {es : List (List UInt8)} (h : Rst s L es) {n : Int} (hn : n ≤ 9223372036854775807) : Rst (fzS s n) L es :=
  ⟨⟨fzS_ok h.rest.ok hn, h.rest.four, h.rest.pend, h.rest.old, h.rest.inv⟩, h.alive, h.cnt⟩
/-- A dead Log, and what is known of it. -/
structure Gone (s : DS) (L : LG) : Prop where
  dead : L.dead = true
  bd : L.h.k ≤ 1 ∧ L.h.n ≤ 1099511627776 ∧ L.h.z ≤ 10000 ∧ L.cnt ≤ 100000 ∧ 4 ≤ s.now.length ∧ s.pend.length ≤ 800
theorem enc_few (es : List (List UInt8)) : es.length ≤ (enc es).length := by
  induction es with
  | nil => simp
  | cons q es ih =>
    have : 1 ≤ (encS q).length := by
      simp only [encS, List.length_append]
      have := (Lib.uvarint_pos (Lib.zigzag (q.length : Int)))
      simp only [encI]; omega
    simp only [enc, List.flatMap_cons, List.length_append, List.length_cons] at *; omega
theorem Stepd.gone {rs : Bool} {s s' : DS} {L L' : LG} {es : List (List UInt8)} {p : List UInt8} {E : Int} (h : Stepd rs s L es p E s' L') (hr : Rst s L es) (he : E ≠ 0) : E = 9 ∧ Gone s' L' ∧ L'.cnt = L.cnt ∧ L'.h = L.h := by
  rcases h.res with ⟨h0, _⟩ | ⟨h9, _, rfl⟩
  · exact absurd h0 he
  · have hbd := hr.rest.inv.bd
    have hfew := bk_few hr.rest.ok.few
    have h4 := enc_few es
    have hp := h.pend
    rw [hr.rest.pend] at hp
    simp only [List.length_nil] at hp
    exact ⟨h9, ⟨rfl, hbd.2.1, hbd.1, by show L.h.z ≤ _; omega, by show L.cnt ≤ _; rw [hr.cnt]; omega, by rw [h.len]; exact hr.rest.four, by omega⟩, rfl, rfl⟩
theorem bk_new (n : Nat) (hn : n ≤ 200) : bk (nwS (n : Nat)).now = (n - 2) / 2 := by
  unfold bk
  rw [nwS_len]
  unfold many
  omega
set_option maxHeartbeats 2000000 in
theorem known5_any (w : World) : Calls Try.prog 26 #[] w fun e w' => e = .returned (.bool true) ∧ Below w.heap.size w w' := by
  go_enter Try.func26, Try.ntmps26
  go_wp2_with fail
  refine (new_any 4 w).mono ?_
  rintro e w1 ⟨a, rfl, hp1, hb1⟩
  have HB1 := Lib.hid hb1
  have HF1 := Lib.hid (nu_ge (F := fun _ => False) (w := w) (w' := w1) (B := w.heap.size) (fun _ h => absurd h id) (Nat.le_refl _))
  have HP1 := Lib.hid hp1
  have HR := Lib.hid (rst_new 4 (by omega) (by omega))
  have HBK : Hid (bk (nwS ((4 : Nat) : Int)).now = 1) := bk_new 4 (by omega)
  have HLF : Hid ((nwS ((4 : Nat) : Int)).life = some none) := rfl
  change Hid (PD _ w1 a (nwS ((4 : Nat) : Int))) at HP1
  clear hp1 hb1
  generalize Nu (fun _ => False) w w1 = F1 at *
  generalize nwS ((4 : Nat) : Int) = s1 at *
  go_wp2_with fail
  refine (open_rst HP1.out HR.out.rest (by simp)).mono ?_
  rintro e w2 ⟨hb2, c, v, rfl, hl2, hc2, hrs2⟩
  obtain ⟨A2, c2, rfl, _, _, _⟩ := hrs2.open
  have HS2 := Lib.hid (sys_open HB1.out HP1.out HF1.out hb2 hl2 hc2)
  have HRM := Lib.hid (room_any hl2 HS2.out.pd (Nat.zero_le _))
  rw [HBK.out] at HRM
  change Hid (Calls _ _ _ _ fun e w' => e = .returned (.int .i64 64) ∧ _) at HRM
  clear hb2 hl2 hc2 hrs2 HP1 HB1 HF1
  go_wp2_with fail
  refine HRM.out.mono ?_
  rintro e w3 ⟨rfl, hb3⟩
  have hb4 := (Below.refl w3.heap.size w3).alloc (Nat.le_refl _) (.cells #[.int .u8 97] 5 (1, 2))
  have HS3 := Lib.hid ((HS2.out.below hb3).below hb4)
  have HAR := Lib.hid (bs_new w3 5 [97] #[.int .u8 97] (1, 2) rfl)
  have cv := conv_const w3 97
  have HAP := Lib.hid (app_rst (L := ⟨hd0, 0, false⟩) HS3.out HR.out _ [97] 1 HAR.out (by decide) (by rw [HBK.out]; decide +kernel) (by decide))
  change Hid (Calls _ _ #[_, .slice _ 1 1] _ _) at HAP
  clear hb3 hb4 HRM HAR
  go_wp2_with fail
  refine HAP.out.mono ?_
  rintro e w4 ⟨E, s', L', rfl, hs4, hc4, hst⟩
  rcases hst.res with ⟨rfl, hr4, hn4, _⟩ | ⟨_, hl, _⟩
  · have HS4 := Lib.hid hs4
    have HR4 := Lib.hid hr4
    have HLN := Lib.hid (llen_any hs4.lm)
    rw [hr4.cnt] at HLN
    have hz : L'.h.z = 2 := by
      have := hr4.rest.inv.bd.2.2.2
      rw [← this]; decide +kernel
    have hbk : bk s'.now = 1 := by
      have := hst.len
      have e := HBK.out
      unfold bk at e ⊢
      rw [this]; exact e
    have HRM := Lib.hid (room_any hs4.lm hs4.pd (by omega))
    rw [hz, hbk] at HRM
    change Hid (Calls _ _ _ _ fun e w' => e = .returned (.int .i64 1) ∧ _) at HLN
    change Hid (Calls _ _ _ _ fun e w' => e = .returned (.int .i64 62) ∧ _) at HRM
    clear hs4 hc4 hst hr4 hn4 hz hbk cv HAP
    go_wp2_with fail
    refine HLN.out.mono ?_
    rintro e w5 ⟨rfl, rfl⟩
    go_wp2_with fail
    refine HRM.out.mono ?_
    rintro e w6 ⟨rfl, hb6⟩
    have HB6 := Lib.hid (HS4.out.bl.trans (hb6.mono HS4.out.bl.size))
    clear hb6
    go_wp2
    go_ret
    exact ⟨rfl, HB6.out⟩
  · exact absurd HLF.out hl
end Go.Proofs.Ytembonenaoineaa
