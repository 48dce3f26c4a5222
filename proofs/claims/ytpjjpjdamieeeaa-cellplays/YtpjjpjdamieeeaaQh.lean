/- slices.Clone at versions; Each of package cell with the closure of alike. Conditions: each contract names its own. -/
import Derived.Test.YtpjjpjdamieeeaaQg
namespace Go.Proofs.Ytpjjpjdamieeeaa
set_option maxRecDepth 100000
set_option linter.unusedVariables false
open Go.ChangeShapes Go.WideShapes Go.ChangeAt Go.RowKit
theorem eqlIn_func (w : World) (d : Nat) (fn : Fn) (bs lb : Array Value) : (Op.equalIn (d + 1) 50 (.func fn bs lb) .nilFunc).run Try.prog w = .ok false w := by
  simp [Op.equalIn, run_underlying Try.underlying50]
theorem eql_func (w : World) (fn : Fn) (bs lb : Array Value) : (binOp .eql 50 (.func fn bs lb) .nilFunc).run Try.prog w = .ok (.bool false) w := by
  simp only [binOp]
  simp [Op.equal, Op.maxDepth, eqlIn_func w 9999 fn bs lb]
theorem clone_any {w : World} {v : Value} {l : List (Ver Int)} (h : ORow w 85 3 v l.length (pvs l)) (hl : l.length ≤ 900000) :
    Calls Try.prog 58 #[v] w fun e w' => ∃ v', e = .returned v' ∧ ORow w' 85 3 v' l.length (pvs l) ∧ (∀ k, v'.ownBlock = some k → w.heap.size ≤ k) ∧ Below w.heap.size w w' := by
  rcases h.2 with ⟨rfl, h0⟩ | ⟨g, o, cap, cur, rfl, _⟩
  · have e : l = [] := List.length_eq_zero_iff.1 h0
    subst e
    have hql := Lib.run_eql_slice_nil (P := Try.prog) w 83 85 none 0 0 0 0 Try.underlying83
    clear h h0 hl
    go_enter Try.func58, Try.ntmps58
    go_wp2
    go_ret
    exact ⟨_, rfl, orow_nil _ _ _, fun k hk => by simp [Value.ownBlock] at hk, Below.refl _ _⟩
  · have hb := (Below.refl w.heap.size w).alloc (Nat.le_refl _) (.cells #[] 85)
    have HB := Lib.hid hb
    have HE : Hid ((w.alloc (.cells #[] 85)).ownsRow 0 85 3 (.slice (some ⟨w.heap.size, 0, none⟩) 0 0) 0 []) := World.ownsRow_made w #[] 0 (Nat.zero_le _) (by unfold maxLen; omega) rfl
    have h1 := h.same (w' := w.alloc (.cells #[] 85)) (fun k hk => hb.block k (h.lt k hk))
    have HC : Hid (∀ j u, (pvs l)[j]? = some u → (w.alloc (.cells #[] 85)).cell? ((⟨g, o, none⟩ : Addr).add j) = some u) := fun j u hj => by
      rw [Addr.add_lit]
      have hjl : j < l.length * 3 := by rw [← pvs_len]; exact (List.getElem?_eq_some_iff.1 hj).1
      rw [h1.cellAt j hjl]; exact hj
    have hql := Lib.run_eql_slice_nil (P := Try.prog) w 83 85 (some ⟨g, o, none⟩) l.length cap 0 0 Try.underlying83
    clear h h1 hb
    go_enter Try.func58, Try.ntmps58
    go_wp2_with (refine wp_own 83 85 _ 3 24 Try.underlying83 infoP rfl (by decide) (by decide) rfl (.tmp 5) (.tmp 6) rfl _ _ [] HE.out rfl ⟨g, o, none⟩ l.length cap (pvs l) rfl (pvs_len l) HC.out (pv_one l) (by omega) ?_; intro v2 w2 hr2 hg2 ho2; rw [Nat.zero_add, List.nil_append] at hr2; have HR2 := Lib.hid hr2; have HG2 := Lib.hid hg2; have HO2 := Lib.hid ho2; clear hr2 hg2 ho2)
    go_ret
    have hb := HB.out
    refine ⟨v2, rfl, orow_own HR2.out, fun k hk => ?_, hb.grown HG2.out hb.size (fun k hk => by simp [Value.ownBlock] at hk; omega)⟩
    rcases HO2.out with e | e
    · rw [e] at hk; simp [Value.ownBlock] at hk; omega
    · rw [e] at hk; injection hk with hk; simp at hk; omega
section
variable {w w' : World} {bk bg bw q y x : Nat} {V F : Nat → Prop} {l : List (Ver Int)}
theorem Bx.below {k : Nat} (h : Bx w bk bg bw q y k true V l) (hb : Below w.heap.size w w') : Bx w' bk bg bw q y k true V l := h.same hb.size (fun j hj => hb.block j hj)
/-- What holds behind i versions. -/
def Pos (l : List (Ver Int)) (i k : Nat) : Prop := k ≤ i ∧ ∀ j (hj : j < l.length), k ≤ j → j < i → l[j].g = true
set_option maxHeartbeats 4000000 in
theorem each_any (h : CC F w x l) (hx : Bx w bk bg bw q y 0 true V l) (hl : l.length ≤ 900000) :
    Calls Try.prog 32 #[.pointer (some ⟨x, 0, none⟩), .func (.func 44) #[] #[.pointer (some ⟨bk, 0, none⟩), .pointer (some ⟨bw, 0, none⟩), .pointer (some ⟨bg, 0, none⟩)]] w fun e w' => e = .returned (.tuple #[]) ∧ ∃ k, Pos l l.length k ∧ Bx w' bk bg bw q y k true V l ∧ Chg (fun j => j = bk ∨ j = bg) w w' := by
  obtain ⟨v1, hm⟩ := h
  obtain ⟨k0, kf⟩ := hm.cells
  have HCl := Lib.hid (clone_any hm.r1 hl)
  have HX := Lib.hid hx
  have HT := Lib.hid (fun W k (hW : Bx W bk bg bw q y k true V l) (v : Int) (hs : skp l k < l.length) (hv : l[skp l k].v = v) => told_any hW v hl hs hv)
  obtain ⟨A, cp, rfl⟩ := hm.r1.slice
  have hbk : Hid (bk < w.heap.size ∧ bg < w.heap.size) := ⟨block_lt hx.hk, block_lt hx.hg⟩
  clear hm hx
  have hqf := eql_func w (.func 44) #[] #[.pointer (some ⟨bk, 0, none⟩), .pointer (some ⟨bw, 0, none⟩), .pointer (some ⟨bg, 0, none⟩)]
  go_enter Try.func32, Try.ntmps32
  go_wp2_with fail
  (with_reducible refine HCl.out.mono ?_)
  rintro e w1 ⟨v2, rfl, hr2, hn2, hb2⟩
  have HN2 := Lib.hid hn2
  have HB2 := Lib.hid hb2
  have HR2 := Lib.hid hr2
  have hbig := hr2.big
  obtain ⟨A2, cp2, rfl⟩ := hr2.slice
  have HX1 := Lib.hid (HX.out.below hb2)
  clear hr2 hn2 hb2 HCl k0 kf
  go_wp2_with fail
  go_loopw [5, 18] (fun _ i wr => ∃ i' k : Nat, i' ≤ l.length ∧ i = .int .i64 (i' : Nat) ∧ Hid (Pos l i' k) ∧ Hid (Bx wr bk bg bw q y k true V l) ∧ Hid (Chg (fun j => j = bk ∨ j = bg) w wr) ∧ Hid (ORow wr 85 3 (.slice A2 l.length cp2) l.length (pvs l))) (fun _ i _ => l.length - (intOf i).toNat)
  case atStart => exact ⟨0, 0, Nat.zero_le _, rfl, ⟨Nat.le_refl _, fun j hj h1 h2 => absurd h2 (by omega)⟩, HX1.out, Chg.below HB2.out, HR2.out⟩
  case round =>
    obtain ⟨i, k, hi, rfl, HP, HB, HC, HR⟩ := hrel
    by_cases hlt : i < l.length
    · obtain ⟨g, o, cp', hgg, hcp⟩ := HR.out.form (by omega)
      injection hgg with hgg _ hcc
      subst hgg
      subst hcc
      obtain ⟨q0, q1, q2, _⟩ := orow_at HR.out hlt
      have hi5 : IntKind.i64.wrap (i : Int) = (i : Int) := wrapI (by omega)
      have hbv := (Below.refl wr.heap.size wr).alloc (Nat.le_refl _) (.cells #[.int .i64 l[i].w, .int .i64 (kv l[i]), .bool l[i].g] 85)
      have HBV := Lib.hid hbv
      have HBx := Lib.hid (HB.out.below hbv)
      have HCv : Hid (Chg (fun j => j = bk ∨ j = bg) w (wr.alloc (.cells #[.int .i64 l[i].w, .int .i64 (kv l[i]), .bool l[i].g] 85))) := HC.out.trans (Chg.below hbv)
      have HRv := Lib.hid (HR.out.same (w' := wr.alloc (.cells #[.int .i64 l[i].w, .int .i64 (kv l[i]), .bool l[i].g] 85)) (fun k hk => hbv.block k (HR.out.lt k hk)))
      clear hbv
      cases hgo : l[i].g with
      | true =>
        have HP2 : Hid (Pos l (i + 1) k) := ⟨by have := HP.out.1; omega, fun j hj h1 h2 => by
          by_cases e : j = i
          · subst e; exact hgo
          · exact HP.out.2 j hj h1 (by omega)⟩
        rw [hgo] at q2 HBx HCv HRv HBV
        clear hgo
        generalize kv l[i] = m1 at *
        generalize l[i].w = m0 at *
        go_wp2_with fail
        exact ⟨⟨i + 1, k, by omega, by go_num, HP2.out, HBx.out, HCv.out, HRv.out⟩, by simp [intOf]; omega⟩
      | false =>
        have hsk : skp l k = i := skp_to hlt hgo (i - k) k (by have := HP.out.1; omega) HP.out.2
        have hkv : kv l[i] = l[i].v := by unfold kv; rw [hgo]; rfl
        have CT := HT.out _ k HBx.out (kv l[i]) (by omega) (by rw [hkv]; congr 1; simp only [hsk])
        rw [hsk] at CT
        have HP2 : Hid (Pos l (i + 1) (i + 1)) := ⟨Nat.le_refl _, fun j hj h1 h2 => absurd h1 (by omega)⟩
        rw [hgo] at q2 HBx HCv HRv HBV CT
        have CT := Lib.hid CT
        clear hgo hsk hkv
        generalize kv l[i] = m1 at *
        generalize l[i].w = m0 at *
        go_wp2_with (go_at_call 44; (with_reducible refine CT.out.mono ?_); rintro e w5 ⟨rfl, h5, hc5⟩; have H5 := Lib.hid h5; have HC5 := Lib.hid (HCv.out.trans (hc5.mono (fun j hj => .inl hj))); have HR5 := Lib.hid (HRv.out.same (w' := w5) (fun k hk => hc5.block k (HRv.out.lt k hk) (fun e => by have h1 := HN2.out k hk; have h2 := hbk.out; omega))); clear h5 hc5)
        exact ⟨⟨i + 1, i + 1, by omega, by go_num, HP2.out, H5.out, HC5.out, HR5.out⟩, by simp [intOf]; omega⟩
    · obtain rfl : i = l.length := by omega
      go_wp2
      go_end0
      exact ⟨rfl, k, HP.out, HB.out, HC.out⟩
end
end Go.Proofs.Ytpjjpjdamieeeaa
