/- The walk of Split. -/
import Derived.Test.YthgjfmdbipmhoaaB8
namespace Go.Proofs.Ythgjfmdbipmhoaa
open Go.RowKit Go.Shelf

/-- what Split hands back -/
def SplitR (o : Option (List (List Int))) (v : Value) (b : Bool) (w' : World) : Prop := match o with
  | none => v = .slice none 0 0 ∧ b = false
  | some l => (∃ A' c', v = .slice A' l.length c' ∧ Parts w' w'.heap.size A' l) ∧ b = true
attribute [local go_sem] Oper.semAt_some
set_option maxRecDepth 100000 in
set_option maxHeartbeats 4000000 in
theorem split_in (A : Option Addr) (n c : Nat) (x0 : Int) (t : List Int) (w : World) (hl : (x0 :: t).length = n) (hc : n ≤ c) (hn : c ≤ maxLen) (hB : isB (x0 :: t)) (hx : Bytes w w.heap.size A (x0 :: t)) :
    CallsIn Fence.wide 4 Try.prog 13 #[.slice A n c] w fun e w' => (∃ v b, e = .returned (.tuple #[v, .bool b]) ∧ SplitR (splitL (x0 :: t)) v b w') ∧ Below w.heap.size w w' := by
  have hx0 := hB x0 (List.mem_cons_self ..)
  obtain ⟨cnt, hcn⟩ := Int.eq_ofNat_of_zero_le hx0.1
  have hcnt : cnt ≤ 255 := by omega
  have hcnt2 : (cnt : Int) ≤ 255 := by omega
  have hn1 : 1 ≤ n := by simp at hl; omega
  have HG : Hid (Calls Try.prog 10 #[.slice A n c, .int .i64 0, .int .i64 1] w fun e w' => e = .returned (.tuple #[.int .u64 cnt, .bool true]) ∧ w = w') := by
    have h := get_some A n c 0 1 (x0 :: t) w hl hc hn hB hx (by omega) (by omega)
    have e : getL (((x0 :: t).drop 0).take 1) = cnt := by simp [getL]; omega
    rw [e] at h
    exact h
  have HS : Hid (splitL (x0 :: t) = splitG (x0 :: t) cnt 1) := by
    show splitG (x0 :: t) x0.toNat 1 = _
    rw [hcn, Int.toNat_natCast]
  clear hx0 hcn
  generalize x0 :: t = xs at *
  have HX := Lib.hid hx
  have HB := Lib.hid hB
  have HL := Lib.hid hl
  clear hx hB hl
  refine callsIn_of_wp_marks Try.func13 rfl trivial ?_ rfl
  simp only [Try.ntmps13, List.size_toArray, List.length_cons, List.length_nil, Nat.reduceAdd, Nat.reduceSub, Array.replicate_succ, Array.replicate_zero, List.push_toArray, List.append_toArray, List.nil_append, List.cons_append]
  gi_wp2_with (refine ⟨trivial, ?_⟩; gi_at_call 10; refine (callsIn_wide.2 HG.out).mono ?_; rintro e w2 ⟨rfl, rfl⟩)
  rw [make_lists cnt (by omega)]
  gi_wp2_with (refine ⟨trivial, ?_⟩; gi_at_call 18; refine (callsIn_wide.2 (parts_any A n c 1 cnt _)).mono ?_; rintro e w2 ⟨rfl, rfl⟩)
  obtain ⟨W0, hW0⟩ : ∃ W0, (((((w.alloc (.cells (madeCells #[.slice none 0 0] cnt) 23)).alloc (.cells #[.slice (some ⟨w.heap.size, 0, none⟩) 0 cnt] 29)).alloc (.cells #[.int .i64 1] 3)).alloc (.cells #[.slice A n c] 23)).alloc (.cells #[.int .i64 1] 3)).alloc (.cells #[.int .i64 cnt] 3) = W0 := ⟨_, rfl⟩
  obtain ⟨hs0, hb0, bl, ba, bb, bt, bc, own0⟩ := split_start A n c cnt hcnt w W0 hW0.symm
  rw [hW0]
  clear hW0
  have h0 : SI W0 w.heap.size (w.heap.size + 6) (w.heap.size + 1) (w.heap.size + 1 + 1) (w.heap.size + 1 + 1 + 1) ([] : List (Pt xs)) (.slice (some ⟨w.heap.size, 0, none⟩) 0 cnt) [] W0 :=
    ⟨bl, ba, own0, by simp [Value.ownBlock]; omega, fun k p hp => by simp at hp, ⟨Below.refl _ _, fun _ h => h⟩, by omega⟩
  refine wpIn_rangeFunc_ownF (gf := 21) (lb := #[.pointer (some ⟨w.heap.size + 1 + 1 + 1 + 1, 0, none⟩), .pointer (some ⟨w.heap.size + 1 + 1 + 1 + 1 + 1, 0, none⟩), .pointer (some ⟨w.heap.size + 1 + 1 + 1, 0, none⟩)]) rfl (by decide) rfl trivial (enters_of Try.func21 (by kernel_rfl) rfl)
    (parts_stops 3 (by decide) _ _ _ w.heap.size A n c cnt 1 xs HL.out hc hn HB.out hcnt hn1 W0 bt bc bb (HX.out.below hb0) hb0.size) KpB.trans (KpB.put hb0.size (by omega)) (Below.refl _ _) (fun _ => rfl)
    (fun pre W => ∃ lv vs, SI W0 w.heap.size (w.heap.size + 6) (w.heap.size + 1) (w.heap.size + 1 + 1) (w.heap.size + 1 + 1 + 1) pre lv vs W)
    (fun _ _ _ => False)
    (si_own W0 _ _ _ _ _ xs hb0.size (by omega))
    (fun _ _ _ _ _ hs _ _ => hs)
    ⟨_, _, h0⟩
    (fun p => { tmps := #[.slice A n c, undef, .slice none 0 0, .bool false, .int .u64 cnt, .bool true, .pointer (some ⟨w.heap.size + 1, 0, none⟩), .pointer (some ⟨w.heap.size + 1 + 1, 0, none⟩), .slice (cutA A (p.i + 2) p.to) p.x.length p.x.length, .int .i64 (p.to : Int), .tuple #[.int .u64 cnt, .bool true], .slice A n c, .tuple #[.int .u64 cnt, .bool true], .int .u64 cnt, .bool true, .bool true, .bool false, .int .u64 cnt, .slice (some ⟨w.heap.size, 0, none⟩) 0 cnt, .slice A n c, .int .u64 cnt, .int .i64 cnt, .func (.func 21) #[] #[.pointer (some ⟨w.heap.size + 1 + 1 + 1 + 1, 0, none⟩), .pointer (some ⟨w.heap.size + 1 + 1 + 1 + 1 + 1, 0, none⟩), .pointer (some ⟨w.heap.size + 1 + 1 + 1, 0, none⟩)], .slice (cutA A (p.i + 2) p.to) p.x.length p.x.length, .int .i64 (p.to : Int), undef, undef, undef, undef, undef, undef, undef, undef, undef, undef, undef, undef, undef, undef, undef, undef, undef, undef], defers := [] }) ?assign ?body ?done ?stop
  case assign =>
    intro l p W K hK
    dsimp only [encP]
    gi_wp2
    exact hK
  case body =>
    rintro l pre p W ⟨lv, vs, hI⟩ hlen
    obtain ⟨q1, q2, q3, -⟩ := cutL_spec p.h
    have hxl : p.x.length ≤ 65535 := (cutL_blob HB.out p.h).2
    have hy := HX.out.cut (p.i + 2) p.x.length p.to (by omega)
    rw [← q3] at hy
    have hy2 : Bytes W.drew W.drew.heap.size (cutA A (p.i + 2) p.to) p.x := (((hy.below hb0).below hI.kp.1).more (Nat.le_trans hb0.size hI.kp.1.size) : Bytes W W.heap.size (cutA A (p.i + 2) p.to) p.x)
    have hclone := clone_any (cutA A (p.i + 2) p.to) p.x.length p.x.length p.x W.drew rfl hy2 (by omega)
    have hpre : pre.length ≤ 255 := by omega
    have hstep := fun (w2 : World) (v : Value) (hb : Below W.heap.size W w2) (hv : OwnB w2 W.heap.size v p.x) => split_step hI p hpre hb0.size (by omega) (by omega) (by omega) (by omega) hb hv
    have hcl := hI.bl.cell
    refine wpIn_block ?_
    refine region_round (by kernel_rfl) (by kernel_rfl) (fun h => by obtain ⟨_, _, h⟩ := h; exact h) ?_
    refine wpAny_take (i := 1) (oi := ⟨some 26, .move (.tmp 8), _, _, _, none⟩) (v := .slice (cutA A (p.i + 2) p.to) p.x.length p.x.length) rfl (by kernel_rfl) (by kernel_rfl) (by kernel_rfl) (fun _ _ _ h => h) (yields_move rfl) ?_
    refine wpAny_take (i := 5) (oi := ⟨some 30, .move (.tmp 9), _, _, _, none⟩) (v := .int .i64 (p.to : Int)) rfl (by kernel_rfl) (by kernel_rfl) (by kernel_rfl) (fun _ _ _ h => h) (yields_move rfl) ?_
    simp only [Act.put, List.setIfInBounds_toArray, List.set_cons_zero, List.set_cons_succ]
    refine any_two (i := 0) (j := 2) (by kernel_rfl) ?_ ?_
    · refine op_value (o := ⟨some 25, .load 29 (.tmp 6), _, _, _, none⟩) (v := lv) rfl rfl (load_rows W.drew hcl rfl) ?_
      simp only [Act.put, List.setIfInBounds_toArray, List.set_cons_zero, List.set_cons_succ]
      refine any_one (i := 2) (by kernel_rfl) ?_
      refine op_call (dst := some 27) (xs := #[.tmp 26]) (f := 19) (args := #[.slice (cutA A (p.i + 2) p.to) p.x.length p.x.length]) rfl rfl Try.func19 rfl rfl (hclone.mono ?_)
      rintro e w2 ⟨⟨v, rfl, hv⟩, hb'⟩
      have hb : Below W.heap.size W w2 := ⟨hb'.os, hb'.tape, hb'.output, hb'.size, hb'.block⟩
      refine ⟨_, rfl, ?_⟩
      obtain ⟨A', c', rfl⟩ := hv.form
      obtain ⟨lv', w4, hrun, ⟨g, cap, rfl⟩, b4, a5, hfin⟩ := hstep w2 _ hb hv
      have cl2 : Boxed w2 (w.heap.size + 1) 29 lv := (hb.block _ hI.bl.lt).trans hI.bl
      simp only [Act.put, List.setIfInBounds_toArray, List.set_cons_zero, List.set_cons_succ]
      refine any_one (i := 3) (by kernel_rfl) ?_
      refine op_value (o := ⟨some 28, .buildSlice 29 1 #[(0, .tmp 27)], _, _, _, none⟩) (v := .slice (some ⟨w2.heap.size, 0, none⟩) 1 1) (w' := w2.alloc (.cells #[.slice A' p.x.length c'] 23)) rfl rfl (build_one _ rfl) ?_
      simp only [Act.put, List.setIfInBounds_toArray, List.set_cons_zero, List.set_cons_succ]
      refine any_one (i := 4) (by kernel_rfl) ?_
      refine op_value (o := ⟨some 29, .call { callee := .builtin .append, args := #[.tmp 25, .tmp 28], argTypes := #[29, 29] }, _, _, _, none⟩) (v := .slice (some ⟨g, 0, none⟩) (pre.length + 1) cap) (w' := w4) rfl rfl (run_append_op rfl rfl hrun) ?_
      simp only [Act.put, List.setIfInBounds_toArray, List.set_cons_zero, List.set_cons_succ]
      refine any_one (i := 6) (by kernel_rfl) ?_
      refine op_skip (o := ⟨none, .store 29 (.tmp 6) (.tmp 29), _, _, _, none⟩) rfl rfl (store_rows _ b4.cell b4.frozen rfl rfl) ?_
      simp only [Act.put]
      refine any_one (i := 7) (by kernel_rfl) ?_
      refine op_skip (o := ⟨none, .store 3 (.tmp 7) (.tmp 30), _, _, _, none⟩) rfl rfl (store_int _ a5.cell a5.frozen rfl rfl) ?_
      simp only [Act.put]
      exact ⟨by kernel_rfl, hfin.1, hfin.2.1, _, _, hfin.2.2⟩
    · refine op_call (dst := some 27) (xs := #[.tmp 26]) (f := 19) (args := #[.slice (cutA A (p.i + 2) p.to) p.x.length p.x.length]) rfl rfl Try.func19 rfl rfl (hclone.mono ?_)
      rintro e w2 ⟨⟨v, rfl, hv⟩, hb'⟩
      have hb : Below W.heap.size W w2 := ⟨hb'.os, hb'.tape, hb'.output, hb'.size, hb'.block⟩
      refine ⟨_, rfl, ?_⟩
      obtain ⟨A', c', rfl⟩ := hv.form
      obtain ⟨lv', w4, hrun, ⟨g, cap, rfl⟩, b4, a5, hfin⟩ := hstep w2 _ hb hv
      have cl2 : Boxed w2 (w.heap.size + 1) 29 lv := (hb.block _ hI.bl.lt).trans hI.bl
      simp only [Act.put, List.setIfInBounds_toArray, List.set_cons_zero, List.set_cons_succ]
      refine any_two (i := 0) (j := 3) (by kernel_rfl) ?_ ?_
      · refine op_value (o := ⟨some 25, .load 29 (.tmp 6), _, _, _, none⟩) (v := lv) rfl rfl (load_rows _ cl2.cell rfl) ?_
        simp only [Act.put, List.setIfInBounds_toArray, List.set_cons_zero, List.set_cons_succ]
        refine any_one (i := 3) (by kernel_rfl) ?_
        refine op_value (o := ⟨some 28, .buildSlice 29 1 #[(0, .tmp 27)], _, _, _, none⟩) (v := .slice (some ⟨w2.heap.size, 0, none⟩) 1 1) (w' := w2.alloc (.cells #[.slice A' p.x.length c'] 23)) rfl rfl (build_one _ rfl) ?_
        simp only [Act.put, List.setIfInBounds_toArray, List.set_cons_zero, List.set_cons_succ]
        refine any_one (i := 4) (by kernel_rfl) ?_
        refine op_value (o := ⟨some 29, .call { callee := .builtin .append, args := #[.tmp 25, .tmp 28], argTypes := #[29, 29] }, _, _, _, none⟩) (v := .slice (some ⟨g, 0, none⟩) (pre.length + 1) cap) (w' := w4) rfl rfl (run_append_op rfl rfl hrun) ?_
        simp only [Act.put, List.setIfInBounds_toArray, List.set_cons_zero, List.set_cons_succ]
        refine any_one (i := 6) (by kernel_rfl) ?_
        refine op_skip (o := ⟨none, .store 29 (.tmp 6) (.tmp 29), _, _, _, none⟩) rfl rfl (store_rows _ b4.cell b4.frozen rfl rfl) ?_
        simp only [Act.put]
        refine any_one (i := 7) (by kernel_rfl) ?_
        refine op_skip (o := ⟨none, .store 3 (.tmp 7) (.tmp 30), _, _, _, none⟩) rfl rfl (store_int _ a5.cell a5.frozen rfl rfl) ?_
        simp only [Act.put]
        exact ⟨by kernel_rfl, hfin.1, hfin.2.1, _, _, hfin.2.2⟩
      · refine op_value (o := ⟨some 28, .buildSlice 29 1 #[(0, .tmp 27)], _, _, _, none⟩) (v := .slice (some ⟨w2.heap.size, 0, none⟩) 1 1) (w' := w2.alloc (.cells #[.slice A' p.x.length c'] 23)) rfl rfl (build_one _ rfl) ?_
        simp only [Act.put, List.setIfInBounds_toArray, List.set_cons_zero, List.set_cons_succ]
        refine any_one (i := 0) (by kernel_rfl) ?_
        refine op_value (o := ⟨some 25, .load 29 (.tmp 6), _, _, _, none⟩) (v := lv) (w' := w2.alloc (.cells #[.slice A' p.x.length c'] 23)) rfl rfl (load_rows (w2.alloc (.cells #[.slice A' p.x.length c'] 23)) (cl2.alloc _).cell rfl) ?_
        simp only [Act.put, List.setIfInBounds_toArray, List.set_cons_zero, List.set_cons_succ]
        refine any_one (i := 4) (by kernel_rfl) ?_
        refine op_value (o := ⟨some 29, .call { callee := .builtin .append, args := #[.tmp 25, .tmp 28], argTypes := #[29, 29] }, _, _, _, none⟩) (v := .slice (some ⟨g, 0, none⟩) (pre.length + 1) cap) (w' := w4) rfl rfl (run_append_op rfl rfl hrun) ?_
        simp only [Act.put, List.setIfInBounds_toArray, List.set_cons_zero, List.set_cons_succ]
        refine any_one (i := 6) (by kernel_rfl) ?_
        refine op_skip (o := ⟨none, .store 29 (.tmp 6) (.tmp 29), _, _, _, none⟩) rfl rfl (store_rows _ b4.cell b4.frozen rfl rfl) ?_
        simp only [Act.put]
        refine any_one (i := 7) (by kernel_rfl) ?_
        refine op_skip (o := ⟨none, .store 3 (.tmp 7) (.tmp 30), _, _, _, none⟩) rfl rfl (store_int _ a5.cell a5.frozen rfl rfl) ?_
        simp only [Act.put]
        exact ⟨by kernel_rfl, hfin.1, hfin.2.1, _, _, hfin.2.2⟩
  case done =>
    rintro D ys W hD rfl ⟨lv, vs, hI⟩ hK
    have hform : ∃ a cc, lv = .slice a (partsG xs cnt 1).length cc := by
      rcases hI.own.2 with ⟨rfl, e⟩ | ⟨g, cap, cur, rfl, _⟩
      · exact ⟨none, 0, by rw [e]⟩
      · exact ⟨_, cap, rfl⟩
    obtain ⟨a, cc, rfl⟩ := hform
    have hcl := hI.bl.cell
    have hca := hI.ba.cell
    have hkl := partsG_len (xs := xs) cnt 1
    have hel := endF_le (xs := xs) cnt 1 (by rw [HL.out]; exact hn1)
    rw [HL.out] at hel
    have hsp := splitG_parts xs cnt 1
    rw [HL.out] at hsp
    have HSP := Lib.hid (HS.out.trans hsp)
    have hbelD : Below w.heap.size w (W.putObj D (.deferred none)) := (hb0.trans hI.kp.1).trans (belowK_b (w := w) (Nat.le_refl _) W D _ _ (by omega) hK rfl rfl)
    have hparts : Parts (W.putObj D (.deferred none)) (W.putObj D (.deferred none)).heap.size a ((partsG xs cnt 1).map (·.x)) := by
      intro k ys hk
      rw [List.getElem?_map] at hk
      cases hq : (partsG xs cnt 1)[k]? with
      | none => rw [hq] at hk; cases hk
      | some p =>
        rw [hq] at hk
        obtain rfl : p.x = ys := by simpa using hk
        obtain ⟨v, hv, ho⟩ := hI.el k p hq
        have hgr := grownBy_putObj' W D (.deferred none)
        have ho2 : OwnB (W.putObj D (.deferred none)) (w.heap.size + 6) v p.x := ownsRow_putObj ho _ hK rfl
        have hown2 := ownsRow_putObj hI.own (.deferred none) hK rfl
        obtain ⟨A2, c2, rfl⟩ := ho2.form
        rcases hown2.2 with ⟨_, e⟩ | ⟨g, cap, cur, e, _, hg, _⟩
        · rw [List.getElem?_eq_none (by omega)] at hq
          cases hq
        · injection e with e1 e2 e3
          subst e1
          have hcell := hown2.cells (g := g) rfl k _ hv
          rw [Addr.add_mid] at hcell
          obtain ⟨q1, q2, q3, -⟩ := cutL_spec p.h
          refine ⟨g, 0, A2, c2, rfl, Row.lt (t := 23) hg, hcell, ho2.bytes.2, ?_⟩
          rw [q3]
          exact fun x hx => HB.out x (List.mem_of_mem_drop (List.mem_of_mem_take hx))
    have HPARTS := Lib.hid hparts
    have HBD := Lib.hid hbelD
    have HKK := Lib.hid hK
    clear hparts hbelD hsp hI hK
    by_cases hk : (partsG xs cnt 1).length = cnt
    · by_cases he : endF 1 (partsG xs cnt 1) = n
      · rw [if_pos ⟨hk, he⟩] at HSP
        rw [he] at hca
        rw [hk] at hcl
        have HKE := Lib.hid hk
        clear hk he hel
        gi_wp2
        refine ⟨by simp, .inl ⟨_, _, rfl, run_takeDeferred HKK.out, ?_⟩⟩
        refine ⟨_, results_tmp2 rfl _ _ _, ⟨_, _, rfl, ?_⟩, HBD.out⟩
        rw [HSP.out]
        exact ⟨⟨a, cc, by rw [List.length_map, HKE.out]; rfl, HPARTS.out⟩, rfl⟩
      · rw [if_neg (fun h => he h.2)] at HSP
        rw [hk] at hcl
        have he2 : ¬ ((endF 1 (partsG xs cnt 1) : Nat) : Int) = (n : Int) := by omega
        clear hk he hkl
        generalize endF 1 (partsG xs cnt 1) = ee at *
        gi_wp2
        refine ⟨by simp, .inl ⟨_, _, rfl, run_takeDeferred HKK.out, ?_⟩⟩
        refine ⟨_, results_tmp2 rfl _ _ _, ⟨_, _, rfl, ?_⟩, HBD.out⟩
        rw [HSP.out]
        exact ⟨rfl, rfl⟩
    · rw [if_neg (fun h => hk h.1)] at HSP
      generalize (partsG xs cnt 1).length = kk at *
      have hk2 : ¬ ((kk : Nat) : Int) = (cnt : Int) := by omega
      generalize endF 1 (partsG xs cnt 1) = ee at *
      clear hk
      gi_wp2
      refine ⟨by simp, .inl ⟨_, _, rfl, run_takeDeferred HKK.out, ?_⟩⟩
      refine ⟨_, results_tmp2 rfl _ _ _, ⟨_, _, rfl, ?_⟩, HBD.out⟩
      rw [HSP.out]
      exact ⟨rfl, rfl⟩
  case stop =>
    rintro D c' pre W _ _ h _
    exact h.elim
theorem split_nil (A : Option Addr) (c : Nat) (w : World) :
    Calls Try.prog 13 #[.slice A 0 c] w fun e w' => e = .returned (.tuple #[.slice none 0 0, .bool false]) ∧ w = w' := by
  have HG := Lib.hid (get_none A 0 c 0 1 [] w rfl (Nat.zero_le _) (by rfl))
  go_enter Try.func13, Try.ntmps13
  go_wp2_with fail
  refine HG.out.mono ?_
  rintro e w2 ⟨rfl, rfl⟩
  go_wp2
  go_returns
  exact ⟨rfl, rfl⟩
/-- SPLIT, OF ANY BYTES -/
theorem split_any (A : Option Addr) (n c : Nat) (xs : List Int) (w : World) (hl : xs.length = n) (hc : n ≤ c) (hn : c ≤ maxLen) (hB : isB xs) (hx : Bytes w w.heap.size A xs) :
    Calls Try.prog 13 #[.slice A n c] w fun e w' => (∃ v b, e = .returned (.tuple #[v, .bool b]) ∧ SplitR (splitL xs) v b w') ∧ Below w.heap.size w w' := by
  cases xs with
  | nil =>
    obtain rfl : n = 0 := hl.symm
    refine (split_nil A c w).mono ?_
    rintro e w' ⟨rfl, rfl⟩
    exact ⟨⟨_, _, rfl, rfl, rfl⟩, Below.refl _ _⟩
  | cons x0 t => exact callsIn_wide.1 (split_in A n c x0 t w hl hc hn hB hx)
end Go.Proofs.Ythgjfmdbipmhoaa
