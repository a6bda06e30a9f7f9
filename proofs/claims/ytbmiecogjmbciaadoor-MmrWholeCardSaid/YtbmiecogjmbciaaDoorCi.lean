/- Part of a proof. -/
import Derived.Test.YtbmiecogjmbciaaDoorCh
import Derived.Deep.Strs
namespace Go.Proofs.YtbmiecogjmbciaaDoor
set_option maxRecDepth 8000
open Go.RowKit

def mid (k : Int) : List Int := k :: List.replicate 31 0
theorem mid_len (k : Int) : (mid k).length = 32 := by simp [mid]
theorem mid_id (k : Int) (h0 : 0 ≤ k) (h1 : k ≤ 255) : (mid k).length = 32 ∧ ∀ b ∈ mid k, 0 ≤ b ∧ b ≤ 255 := ⟨mid_len k, fun b hb => by
  rcases List.mem_cons.1 hb with e | e
  · omega
  · have := List.eq_of_mem_replicate e
    omega⟩
def ma0 : Tot := ⟨mid 1, 2, 1⟩
def ma1 : Tot := ⟨mid 2, 2, 1⟩
def ma2 : Tot := ⟨mid 3, 2, 1⟩
def mr3 : Tot := joinT (joinT ma0 ma1) ma2
def mz32 : List Int := List.replicate 32 0
theorem mz_len : mz32.length = 32 := by simp [mz32]
theorem ma_ok : okTs [ma0, ma1, ma2] := by
  have h : ∀ k : Int, 0 ≤ k → k ≤ 255 → okT ⟨mid k, 2, 1⟩ := fun k h0 h1 => ⟨mid_id k h0 h1, by show 2 < Big; unfold Big; decide, by show (-9223372036854775808 : Int) ≤ 1; decide, by show (1 : Int) ≤ 9223372036854775807; decide⟩
  intro x hx
  simp only [List.mem_cons, List.not_mem_nil, or_false] at hx
  rcases hx with rfl | rfl | rfl
  · exact h 1 (by decide) (by decide)
  · exact h 2 (by decide) (by decide)
  · exact h 3 (by decide) (by decide)
theorem ma_leaves : Leaves [ma0, ma1, ma2] := by
  intro x hx
  simp only [List.mem_cons, List.not_mem_nil, or_false] at hx
  rcases hx with rfl | rfl | rfl <;> exact ⟨rfl, by decide⟩
theorem ma_peaks : peaksT [ma0, ma1, ma2] = [joinT ma0 ma1, ma2] := rfl
theorem ma_path : mpathR [ma0, ma1, ma2] 2 = ([joinT ma0 ma1], true) := rfl
theorem ma_root : rootP [joinT ma0 ma1, ma2] = mr3 := rfl
theorem ma_all : allT [ma0, ma1, ma2] = mr3 := rfl
theorem ma_check : mcheckT mr3 2 ma2 [joinT ma0 ma1] = (4, true) := by
  have h := mcheck_path (l := [ma0, ma1, ma2]) (i := 2) (by decide) (by decide) ma_leaves
  rw [ma_all] at h
  exact h
theorem mr3_w : mr3.w = 6 := by decide +kernel
theorem ma_n : (joinT ma0 ma1).n = 2 := by decide +kernel
theorem mr3_ok : okT mr3 := join_ok
theorem mr3_len : len32 mr3 := mr3_ok.len
theorem join_len {a b : Tot} : (joinT a b).h.length = 32 := (join_ok (a := a) (b := b)).1.1
theorem join_ne : (!eqL (joinT ma0 ma1).h mz32) = true := by decide +kernel
theorem built_w2 : Tryd.prog.built 27 [(0, .int .u64 2)] = some (wcs 2) := by kernel_rfl
theorem built_w4 : Tryd.prog.built 27 [(0, .int .u64 4)] = some (wcs 4) := by kernel_rfl
theorem built_w6 : Tryd.prog.built 27 [(0, .int .u64 6)] = some (wcs 6) := by kernel_rfl
theorem built_m1 : Tryd.prog.built 24 [(0, .int .u8 1)] = some (arrB 32 (mid 1)) := by kernel_rfl
theorem built_m2 : Tryd.prog.built 24 [(0, .int .u8 2)] = some (arrB 32 (mid 2)) := by kernel_rfl
theorem built_m3 : Tryd.prog.built 24 [(0, .int .u8 3)] = some (arrB 32 (mid 3)) := by kernel_rfl
theorem built_z : Tryd.prog.built 24 [] = some (arrB 32 mz32) := by kernel_rfl
section
variable {a : Act} {dst : Option Tmp} {x y z : Operand} {ty : TypeId} {pos : String} {after : Array Edge} {gd : Option (Nat × Bool)}
/-- a field of a value -/
theorem run_fieldT {t : Tot} (h : len32 t) (u : World) : (Instr.field 29 (totV t) 0).run Tryd.prog u = .ok (idv t.h) u ∧ (Instr.field 29 (totV t) 1).run Tryd.prog u = .ok (.agg (wcs t.w)) u ∧ (Instr.field 29 (totV t) 2).run Tryd.prog u = .ok (.int .i64 t.n) u := by
  have pH := run_part_agg aggIdT (cs := totA t) (off := 0) (v := arrB 32 t.h) (by have := ext_list (totC_H h); rwa [Array.toArray_toList] at this) u
  have pW := run_part_agg aggWd (cs := totA t) (off := 32) (v := wcs t.w) (by have := ext_list (totC_W h); rwa [Array.toArray_toList] at this) u
  have pN := run_part_plain (P := Tryd.prog) u (e := 3) (by kernel_rfl) (totC_N h)
  refine ⟨?_, ?_, ?_⟩
  · simp [Instr.field, asAgg, totV, run_underlying Tryd.underlying29, pH, idv]
  · simp [Instr.field, asAgg, totV, run_underlying Tryd.underlying29, pW]
  · simp [Instr.field, asAgg, totV, run_underlying Tryd.underlying29, pN]
theorem fieldH_op {t : Tot} (h : len32 t) (u : World) (hx : a.eval x = totV t) : (execOp a.eval ⟨dst, .field 29 x 0, ty, pos, after, gd⟩).run Tryd.prog u = .ok (.value (idv t.h)) u := by
  unfold execOp
  simp only [hx, Sem.run_bind, (run_fieldT h u).1, Result.andThen_ok, Sem.run_pure]
theorem fieldW_op {t : Tot} {n : Nat} (h : len32 t) (hn : t.w = n) (u : World) (hx : a.eval x = totV t) : (execOp a.eval ⟨dst, .field 29 x 1, ty, pos, after, gd⟩).run Tryd.prog u = .ok (.value (.agg (wcs n))) u := by
  subst hn
  unfold execOp
  simp only [hx, Sem.run_bind, (run_fieldT h u).2.1, Result.andThen_ok, Sem.run_pure]
theorem eqlW_op {m n : Nat} (hm : m < Big) (hn : n < Big) {b : Bool} (hb : eqN m n = b) (u : World) (hx : a.eval x = .agg (wcs m)) (hy : a.eval y = .agg (wcs n)) :
    (execOp a.eval ⟨dst, .binOp .eql 27 x y 27, ty, pos, after, gd⟩).run Tryd.prog u = .ok (.value (.bool b)) u := by
  have h : (Op.equalIn 10000 27 (.agg (wcs m)) (.agg (wcs n))).run Tryd.prog u = .ok (eqN m n) u := run_equal_wide m n hm hn u
  rw [hb] at h
  unfold execOp
  simp only [hx, hy]
  generalize wcs m = cm at *
  generalize wcs n = cn at *
  go_simp
theorem FAt_build3T {t0 t1 t2 : Tot} (h0 : len32 t0) (h1 : len32 t1) (h2 : len32 t2) (hx : a.eval x = totV t0) (hy : a.eval y = totV t1) (hz : a.eval z = totV t2) (u : World) :
    FAt Tryd.prog ⟨dst, .buildSlice 22 3 #[(0, x), (1, y), (2, z)], ty, pos, after, gd⟩ a (fun v N => ∃ g, v = .slice (some ⟨g, 0, none⟩) 3 3 ∧ N = [(g, Obj.cells (totC t0 ++ (totC t1 ++ totC t2)).toArray 29 (0, 0))]) u := by
  have hr : (Instr.buildSlice 22 3 #[(0, totV t0), (1, totV t1), (2, totV t2)]).run Tryd.prog u = .ok (.slice (some ⟨u.heap.size, 0, none⟩) 3 3) (u.alloc (.cells (totC t0 ++ (totC t1 ++ totC t2)).toArray 29)) := by
    cases hq : Tryd.prog.info? 29 with
    | none => have := elTot.info; rw [hq] at this; cases this
    | some i =>
      have hi := elTot.info
      rw [hq] at hi
      simp only [Option.map_some, Option.some.injEq, Prod.mk.injEq] at hi
      obtain ⟨k1, k2, k3⟩ := hi
      refine run_buildSlice u 22 29 3 _ _ i (totV zTot) Tryd.underlying22 hq k1 (by omega) (by omega) ?_
      rw [k2]
      have hf := Great.fill_whole (s := 37) (by decide) [totV t0, totV t1, totV t2] ((Array.range (3 * 37)).map ((totV zTot).cells[· % (totV zTot).cells.size]!)) (by
        intro v hv
        simp only [List.mem_cons, List.not_mem_nil, or_false] at hv
        rcases hv with rfl | rfl | rfl
        · exact totA_size h0
        · exact totA_size h1
        · exact totA_size h2) (by simp)
      simpa [Value.cells, totV, totA] using hf
  unfold FAt execOp
  simp only [List.map_toArray, List.map_cons, List.map_nil, hx, hy, hz, Sem.run_bind, Sem.run_pure, hr, Result.andThen_ok]
  refine ⟨(Below.refl _ _).alloc (Nat.le_refl _) _, _, ⟨_, rfl, rfl⟩, fun y hy => ?_⟩
  cases List.mem_singleton.1 hy
  exact ⟨Nat.le_refl _, heap_alloc_new u _⟩
end
set_option maxRecDepth 20000 in
set_option maxHeartbeats 4000000 in
theorem mawake_any (T : MmrC) (w : World) (ht : Tables w) : Calls Tryd.prog 9 #[] w fun e w' => e = .returned (.bool true) ∧ Below w.heap.size w w' := by
  have E0 : Hid (EnvX w w []) := EnvX.start w
  have HT := Lib.hid ht
  have HM := Lib.hid T
  have HLF : Hid (∀ (u : World) (h : List Int), (h.length = 32 ∧ ∀ b ∈ h, 0 ≤ b ∧ b ≤ 255) → EnvX w u [] → Calls Tryd.prog 22 #[idv h, .agg (wcs 2)] u fun e w' => e = .returned (totV ⟨h, 2, 1⟩) ∧ Below u.heap.size u w') := fun u h hh hu => HM.out.leaf h 2 u hh (by decide +kernel) (HT.out.below (EnvX.bel hu))
  clear ht T
  go_enter Tryd.func9, Tryd.ntmps9
  go_upto_region 1 with (fail)
  refine wp_region_Hx (w0 := w) [0, 1, 2] [] rfl E0.out ?_
  refine lexH_phase [0] [1, 2] ?_
  have hw1 : EnvX w _ [] := E0.out
  have hone := @EnvC.one _ _ _ hw1
  (refine wpG_val (v := .agg (wcs 2)) rfl rfl (fun u hu => buildA_op u built_w2) ?_ hw1; intro K hK; go_big_quiet_op; go_big_quiet_on)
  clear hone hw1
  refine wpG_nil ?_
  refine (hOp_fresh (R := fun x N => ∃ g, x = .pointer (some ⟨g, 0, none⟩) ∧ N = [(g, Obj.cells (wcs 0) 27 (0, 0))]) (M0 := []) rfl rfl (fun _ h => h) (fun u hu => FAt_new (new_wd _) u) ?_)
  rintro _ _ ⟨g1, rfl, rfl⟩ hf he2; intro K' hK'; go_big_quiet_op; go_big_quiet_on
  have HGg1 := Lib.hid (hf _ (List.mem_singleton.2 rfl))
  clear hf
  change lexH _ _ _ _ _ _ [(g1, Obj.cells (wcs 0) 27 (0, 0))]
  refine (hOp_store rfl (g1) (wcs 2) rfl rfl HGg1.out.1 27 ((wcs 0)) (List.Mem.head _) (wc_info _) ((wc_size _).trans (wc_size _).symm) (wc_one _) [(g1, Obj.cells (wcs 2) 27 (0, 0))] (List.forall_mem_cons.2 ⟨.inl rfl, fun y hy => .inr ⟨List.mem_cons_of_mem _ hy, HGg1.out.2 y hy⟩⟩) ?_)
  intro he3
  intro u5 E2'
  have EX4 := Lib.hid E2'
  clear E2'
  go_upto_region 2 with (fail)
  refine wp_region_H (w0 := w) [(g1, Obj.cells (wcs 2) 27 (0, 0))] (by kernel_rfl) EX4.out ?_
  refine anyH_phase [0, 1, 2, 3, 4, 5, 6, 7, 8] 2 rfl ⟨_, (EnvX.drew EX4.out)⟩ (by kernel_rfl) ?_
  have hw6 : EnvX w _ [(g1, Obj.cells (wcs 2) 27 (0, 0))] := (EnvX.drew EX4.out)
  have hone := @EnvC.one _ _ _ hw6
  (refine wpG_val (v := idv (mid 1)) rfl rfl (fun u hu => buildA_op u built_m1) ?_ hw6; intro K hK; go_big_quiet_op; go_big_quiet_on)
  (refine wpG_val (v := .agg (wcs 2)) rfl rfl (fun u hu => load_any_op u (box_wide hu (List.Mem.head _)) rfl) ?_ hw6; intro K hK; go_big_quiet_op; go_big_quiet_on)
  (refine wpG_call (f := 22) (args := #[idv (mid 1), .agg (wcs 2)]) (v := totV ma0) rfl rfl rfl Tryd.func22 rfl rfl (fun u hu => HLF.out u (mid 1) (mid_id 1 (by omega) (by omega)) (EnvX.sub hu (fun _ h => by cases h))) ?_ hw6; intro K hK; go_big_quiet_op; go_big_quiet_on)
  (refine wpG_val (v := idv (mid 2)) rfl rfl (fun u hu => buildA_op u built_m2) ?_ hw6; intro K hK; go_big_quiet_op; go_big_quiet_on)
  (refine wpG_val (v := .agg (wcs 2)) rfl rfl (fun u hu => load_any_op u (box_wide hu (List.Mem.head _)) rfl) ?_ hw6; intro K hK; go_big_quiet_op; go_big_quiet_on)
  (refine wpG_call (f := 22) (args := #[idv (mid 2), .agg (wcs 2)]) (v := totV ma1) rfl rfl rfl Tryd.func22 rfl rfl (fun u hu => HLF.out u (mid 2) (mid_id 2 (by omega) (by omega)) (EnvX.sub hu (fun _ h => by cases h))) ?_ hw6; intro K hK; go_big_quiet_op; go_big_quiet_on)
  (refine wpG_val (v := idv (mid 3)) rfl rfl (fun u hu => buildA_op u built_m3) ?_ hw6; intro K hK; go_big_quiet_op; go_big_quiet_on)
  (refine wpG_val (v := .agg (wcs 2)) rfl rfl (fun u hu => load_any_op u (box_wide hu (List.Mem.head _)) rfl) ?_ hw6; intro K hK; go_big_quiet_op; go_big_quiet_on)
  (refine wpG_call (f := 22) (args := #[idv (mid 3), .agg (wcs 2)]) (v := totV ma2) rfl rfl rfl Tryd.func22 rfl rfl (fun u hu => HLF.out u (mid 3) (mid_id 3 (by omega) (by omega)) (EnvX.sub hu (fun _ h => by cases h))) ?_ hw6; intro K hK; go_big_quiet_op; go_big_quiet_on)
  clear hone hw6
  refine wpG_nil ?_
  refine anyH_one (i := 9) (by kernel_rfl) (hOp_fresh (R := fun v N => ∃ g, v = .slice (some ⟨g, 0, none⟩) 3 3 ∧ N = [(g, Obj.cells (totC ma0 ++ (totC ma1 ++ totC ma2)).toArray 29 (0, 0))]) (M0 := [(g1, Obj.cells (wcs 2) 27 (0, 0))]) rfl rfl (fun _ h => h) (fun u hu => FAt_build3T (t0 := ma0) (t1 := ma1) (t2 := ma2) (mid_len 1) (mid_len 2) (mid_len 3) rfl rfl rfl u) ?_)
  rintro _ _ ⟨gl, rfl, rfl⟩ hf he7; intro K' hK'; go_big_quiet_op; go_big_quiet_on
  clear hf
  change anyH _ _ _ _ _ _ _ _ [(gl, Obj.cells (totC ma0 ++ (totC ma1 ++ totC ma2)).toArray 29 (0, 0)), (g1, Obj.cells (wcs 2) 27 (0, 0))]
  refine anyH_phase [10] 0 rfl ⟨_, he7.choose_spec⟩ (by kernel_rfl) ?_
  have hw8 : EnvX w _ [(gl, Obj.cells (totC ma0 ++ (totC ma1 ++ totC ma2)).toArray 29 (0, 0)), (g1, Obj.cells (wcs 2) 27 (0, 0))] := he7.choose_spec
  have hone := @EnvC.one _ _ _ hw8
  (refine wpG_op rfl rfl rfl ?_; intro K hK; go_big_quiet_op; go_big_quiet_on)
  clear hone hw8
  refine wpG_nil ?_
  refine anyH_done (by kernel_rfl) ?_
  intro u10 E2'
  have EX9 := Lib.hid E2'
  clear E2'
  have hTL : TotsIn u10 (u10).heap.size (some ⟨gl, 0, none⟩) [ma0, ma1, ma2] := row_tots (n := 3) (cap := 3) (EnvX.row EX9.out (List.Mem.head _)) ma_ok rfl (by
    have hl : (totC ma0 ++ (totC ma1 ++ totC ma2)).length = 3 * 37 := by rw [List.length_append, List.length_append, totC_len (t := ma0) (mid_len 1), totC_len (t := ma1) (mid_len 2), totC_len (t := ma2) (mid_len 3)]
    show (totC ma0 ++ (totC ma1 ++ totC ma2)).take (3 * 37) = _
    rw [List.take_of_length_le (by omega)]
    simp)
  have HTL := Lib.hid hTL
  have HB2 := Lib.hid (EnvX.bel EX9.out)
  clear hTL EX9 HLF
  obtain ⟨al, hal⟩ : ∃ al : Addr, al = ⟨gl, 0, none⟩ := ⟨_, rfl⟩
  rw [← hal] at HTL ⊢
  clear hal
  have HPK := Lib.hid (lpeaks_any HM.out [ma0, ma1, ma2] (some al) 3 3 u10 rfl (by omega) (by omega) (by decide) ma_ok HTL.out (HT.out.below HB2.out))
  rw [ma_peaks] at HPK
  go_upto_region 3 with (fail)
  go_wp2_with fail
  refine HPK.out.mono ?_
  rintro e w3 ⟨⟨v, rfl, hv⟩, hb⟩
  obtain ⟨Ap, cp, rfl, hp1, hp2⟩ := hv.form
  have HTP := Lib.hid (hv.tots rfl)
  have H23 := Lib.hid hb
  have HB3 := Lib.hid (HB2.out.trans (hb.mono HB2.out.size))
  clear hv hb HPK
  have HPA : Hid (Calls Tryd.prog 13 #[.slice (some al) 3 3, .int .i64 2] w3 fun e w' => (∃ v, e = .returned (.tuple #[v, .bool true]) ∧ OwnT w' w3.heap.size v [joinT ma0 ma1]) ∧ Below w3.heap.size w3 w') := by
    have h := HM.out.path [ma0, ma1, ma2] 2 (some al) 3 3 w3 rfl (by omega) (by omega) (by decide) ⟨by omega, by omega⟩ ma_ok (HTL.out.up H23.out) (HT.out.below HB3.out)
    rw [ma_path] at h
    exact h
  go_upto_region 4 with (fail)
  go_wp2_with fail
  refine HPA.out.mono ?_
  rintro e w4 ⟨⟨v, rfl, hv⟩, hb⟩
  obtain ⟨Aq, cq, rfl, hq1, hq2⟩ := hv.form
  have HTQ := Lib.hid (hv.tots rfl)
  have HB4 := Lib.hid (HB3.out.trans (hb.mono HB3.out.size))
  have HTL4 := Lib.hid ((HTL.out.up H23.out).up hb)
  have HTP4 := Lib.hid (HTP.out.up hb)
  have HPF : Hid ((2 ≤ cp ∧ cp ≤ maxLen) ∧ 1 ≤ cq ∧ cq ≤ maxLen) := ⟨⟨hp1, hp2⟩, hq1, hq2⟩
  clear hv hb HPA HTL HTP hp1 hp2 hq1 hq2
  rw [show ([joinT ma0 ma1] : List Tot).length = 1 from rfl]
  have HT4 := Lib.hid (HT.out.below HB4.out)
  have E4 : Hid (EnvX w4 w4 []) := EnvX.start w4
  have okP : okTs [joinT ma0 ma1, ma2] := fun t ht => by
    simp only [List.mem_cons, List.not_mem_nil, or_false] at ht
    rcases ht with rfl | rfl
    · exact join_ok
    · exact ma_ok _ (by simp)
  have okQ : okTs [joinT ma0 ma1] := fun t ht => by cases List.mem_singleton.1 ht; exact join_ok
  have HRT : Hid (∀ u, EnvX w4 u [] → Calls Tryd.prog 18 #[.slice Ap 2 cp] u fun e w' => e = .returned (totV mr3) ∧ Below u.heap.size u w') := fun u hu => by
    have h := HM.out.root [joinT ma0 ma1, ma2] Ap 2 cp u rfl (by omega) HPF.out.1.1 HPF.out.1.2 okP (HTP4.out.up (EnvX.bel hu)) (HT4.out.below (EnvX.bel hu))
    rwa [ma_root] at h
  have HCK : Hid (∀ u, EnvX w4 u [] → Calls Tryd.prog 15 #[totV mr3, .int .i64 2, totV ma2, .slice Aq 1 cq] u fun e w' => e = .returned (.tuple #[.agg (wcs 4), .bool true]) ∧ Below u.heap.size u w') := fun u hu => by
    have h := HM.out.check mr3 ma2 2 [joinT ma0 ma1] Aq 1 cq u mr3_ok (ma_ok _ (by simp)) ⟨by omega, by omega⟩ rfl (by omega) HPF.out.2.1 HPF.out.2.2 okQ (HTQ.out.up (EnvX.bel hu)) (HT4.out.below (EnvX.bel hu))
    rwa [ma_check] at h
  have HSM : Hid (∀ u, EnvX w4 u [] → Calls Tryd.prog 17 #[.slice Ap 2 cp, .slice Ap 2 cp] u fun e w' => e = .returned (.bool true) ∧ Below u.heap.size u w') := fun u hu => by
    have h := HM.out.same [joinT ma0 ma1, ma2] [joinT ma0 ma1, ma2] Ap Ap 2 cp 2 cp u rfl rfl (by omega) (by omega) HPF.out.1.1 HPF.out.1.2 HPF.out.1.1 HPF.out.1.2 okP okP (HTP4.out.up (EnvX.bel hu)) (HTP4.out.up (EnvX.bel hu))
    rwa [decide_eq_true rfl] at h
  have HJN : Hid (∀ u, EnvX w4 u [] → Calls Tryd.prog 20 #[totV ma0, totV ma1] u fun e w' => e = .returned (totV (joinT ma0 ma1)) ∧ Below u.heap.size u w') := fun u hu => HM.out.join ma0 ma1 u (ma_ok _ (by simp)) (ma_ok _ (by simp)) (HT4.out.below (EnvX.bel hu))
  obtain ⟨ap, hap, hp0⟩ := HTP4.out.loads okP (k := 0) (by decide)
  obtain ⟨ap', hap', hp1⟩ := HTP4.out.loads okP (k := 1) (by decide)
  obtain ⟨al0, hal0, hl0⟩ := HTL4.out.loads ma_ok (k := 0) (by decide)
  obtain ⟨al1, hal1, hl1⟩ := HTL4.out.loads ma_ok (k := 1) (by decide)
  obtain ⟨al2, hal2, hl2⟩ := HTL4.out.loads ma_ok (k := 2) (by decide)
  subst hap
  obtain rfl := Option.some.inj hap'
  obtain rfl := Option.some.inj hal0
  obtain rfl := Option.some.inj hal1
  obtain rfl := Option.some.inj hal2
  have HP0 : Hid (∀ u, EnvX w4 u [] → (loadVar 3 ((ap.add (0 * 37)).add 36)).run Tryd.prog u = .ok (.int .i64 2) u) := fun u hu => by have h := (hp0 u hu).2.2.2; rw [show ([joinT ma0 ma1, ma2] : List Tot).getD 0 noTot = joinT ma0 ma1 from rfl, ma_n] at h; exact h
  have HP1 : Hid (∀ u, EnvX w4 u [] → (loadVar 3 ((ap.add (1 * 37)).add 36)).run Tryd.prog u = .ok (.int .i64 1) u) := fun u hu => (hp1 u hu).2.2.2
  have HL0 : Hid (∀ u, EnvX w4 u [] → (loadVar 29 (al.add (0 * 37))).run Tryd.prog u = .ok (totV ma0) u) := fun u hu => (hl0 u hu).1
  have HL1 : Hid (∀ u, EnvX w4 u [] → (loadVar 29 (al.add (1 * 37))).run Tryd.prog u = .ok (totV ma1) u) := fun u hu => (hl1 u hu).1
  have HL2 : Hid (∀ u, EnvX w4 u [] → (loadVar 29 (al.add (2 * 37))).run Tryd.prog u = .ok (totV ma2) u) := fun u hu => (hl2 u hu).1
  clear hp0 hp1 hl0 hl1 hl2 hap' hal0 hal1 hal2 okP okQ
  go_upto_region 7 with (fail)
  refine wp_region_H (w0 := w4) [] (by kernel_rfl) E4.out ?_
  refine anyH_phase [0, 1, 2, 3, 4, 5, 6, 7, 8, 9] 3 rfl ⟨_, (EnvX.drew E4.out)⟩ (by kernel_rfl) ?_
  have hw11 : EnvX w4 _ [] := (EnvX.drew E4.out)
  have hone := @EnvC.one _ _ _ hw11
  (refine wpG_op rfl rfl rfl ?_; intro K hK; go_big_quiet_op; go_big_quiet_on)
  (refine wpG_call (f := 18) (args := #[.slice (some ap) 2 cp]) (v := totV mr3) rfl rfl rfl Tryd.func18 rfl rfl (fun u hu => HRT.out u (EnvX.sub hu (fun _ h => by cases h))) ?_ hw11; intro K hK; go_big_quiet_op; go_big_quiet_on)
  (refine wpG_op rfl rfl rfl ?_; intro K hK; go_big_quiet_op; go_big_quiet_on)
  (refine wpG_val (v := .pointer (some (al.add (2 * 37)))) rfl rfl (fun u hu => idxSl_op (i := 2) Tryd.underlying22 aggTot.size (by decide) u rfl rfl) ?_ hw11; intro K hK; go_big_quiet_op; go_big_quiet_on)
  (refine wpG_val (v := totV ma2) rfl rfl (fun u hu => load_any_op u (HL2.out u (EnvX.sub hu (fun _ h => by cases h))) rfl) ?_ hw11; intro K hK; go_big_quiet_op; go_big_quiet_on)
  (refine wpG_op rfl rfl rfl ?_; intro K hK; go_big_quiet_op; go_big_quiet_on)
  (refine wpG_call (f := 15) (args := #[totV mr3, .int .i64 2, totV ma2, .slice Aq 1 cq]) (v := .tuple #[.agg (wcs 4), .bool true]) rfl rfl rfl Tryd.func15 rfl rfl (fun u hu => HCK.out u (EnvX.sub hu (fun _ h => by cases h))) ?_ hw11; intro K hK; go_big_quiet_op; go_big_quiet_on)
  (refine wpG_op rfl rfl rfl ?_; intro K hK; go_big_quiet_op; go_big_quiet_on)
  (refine wpG_op rfl rfl rfl ?_; intro K hK; go_big_quiet_op; go_big_quiet_on)
  (refine wpG_op rfl rfl rfl ?_; intro K hK; go_big_quiet_op; go_big_quiet_on)
  clear hone hw11
  refine wpG_nil ?_
  refine anyH_one (i := 10) (by kernel_rfl) (hOp_fresh (R := fun x N => ∃ g, x = .pointer (some ⟨g, 0, none⟩) ∧ N = [(g, Obj.cells (wcs 0) 27 (0, 0))]) (M0 := []) rfl rfl (fun _ h => h) (fun u hu => FAt_new (new_wd _) u) ?_)
  rintro _ _ ⟨g6, rfl, rfl⟩ hf he12; intro K' hK'; go_big_quiet_op; go_big_quiet_on
  have HGg6 := Lib.hid (hf _ (List.mem_singleton.2 rfl))
  clear hf
  change anyH _ _ _ _ _ _ _ _ [(g6, Obj.cells (wcs 0) 27 (0, 0))]
  refine anyH_one (i := 11) (by kernel_rfl) (hOp_store rfl (g6) (wcs 4) rfl rfl HGg6.out.1 27 ((wcs 0)) (List.Mem.head _) (wc_info _) ((wc_size _).trans (wc_size _).symm) (wc_one _) [(g6, Obj.cells (wcs 4) 27 (0, 0))] (List.forall_mem_cons.2 ⟨.inl rfl, fun y hy => .inr ⟨List.mem_cons_of_mem _ hy, HGg6.out.2 y hy⟩⟩) ?_)
  intro he13
  refine anyH_phase [12] 0 rfl ⟨_, he13.choose_spec⟩ (by kernel_rfl) ?_
  have hw14 : EnvX w4 _ [(g6, Obj.cells (wcs 4) 27 (0, 0))] := he13.choose_spec
  have hone := @EnvC.one _ _ _ hw14
  (refine wpG_op rfl rfl rfl ?_; intro K hK; go_big_quiet_op; go_big_quiet_on)
  clear hone hw14
  refine wpG_nil ?_
  refine anyH_done (by kernel_rfl) ?_
  intro u16 E2'
  have EX15 := Lib.hid E2'
  clear E2'
  have H4V := Lib.hid (EnvX.bel EX15.out)
  have HL6 : Hid (∀ u, EnvX u16 u [] → (loadVar 27 ⟨g6, 0, none⟩).run Tryd.prog u = .ok (.agg (wcs 4)) u) := fun u hu => box_wide (EnvX.comb EX15.out hu) (List.mem_append_right _ (List.Mem.head _))
  clear EX15 E4
  generalize u16 = V at *
  have EV : Hid (EnvX V V []) := EnvX.start V
  have HUP : Hid (∀ u, EnvX V u [] → EnvX w4 u []) := fun u hu => ⟨H4V.out.trans ((EnvX.bel hu).mono H4V.out.size), fun _ _ h => by cases h⟩
  have HBV := Lib.hid (HB4.out.trans (H4V.out.mono HB4.out.size))
  go_upto_region 8 with (fail)
  refine wp_region_H (w0 := V) [] (by kernel_rfl) EV.out ?_
  refine anyH_phaseN [0, 1, 2, 3, 4, 5, 6, 7, 8, 9, 10, 11, 12, 13, 14, 15, 16, 17, 18, 19, 20, 21, 22, 23, 24, 25, 26, 27, 28, 29, 30, 31, 32, 33, 34, 35, 36, 37, 38, 39, 40, 41, 42, 43, 44] 0 rfl (by kernel_rfl) ?_
  have hw17 : EnvX V _ [] := EnvX.sub (EnvX.drew EV.out) (fun _ h => by cases h)
  have hone := @EnvC.one _ _ _ hw17
  (refine wpG_op rfl rfl rfl ?_; intro K hK; go_big_quiet_op; go_big_quiet_on)
  (refine wpG_val (v := .pointer (some (ap.add (0 * 37)))) rfl rfl (fun u hu => idxSl_op (i := 0) Tryd.underlying22 aggTot.size (by decide) u rfl rfl) ?_ hw17; intro K hK; go_big_quiet_op; go_big_quiet_on)
  (refine wpG_val (v := .pointer (some ((ap.add (0 * 37)).add 36))) rfl rfl (fun u hu => fieldT_op (k := 2) (off := 36) rfl u rfl) ?_ hw17; intro K hK; go_big_quiet_op; go_big_quiet_on)
  (refine wpG_val (v := .int .i64 2) rfl rfl (fun u hu => load_any_op u (HP0.out u (HUP.out u (EnvX.sub hu (fun _ h => by cases h)))) rfl) ?_ hw17; intro K hK; go_big_quiet_op; go_big_quiet_on)
  (refine wpG_val (v := .bool true) rfl rfl (fun u hu => eqlI_op u (by decide) rfl rfl) ?_ hw17; intro K hK; go_big_quiet_op; go_big_quiet_on)
  (refine wpG_op rfl rfl rfl ?_; intro K hK; go_big_quiet_op; go_big_quiet_on)
  (refine wpG_op rfl rfl rfl ?_; intro K hK; go_big_quiet_op; go_big_quiet_on)
  (refine wpG_val (v := .pointer (some (ap.add (1 * 37)))) rfl rfl (fun u hu => idxSl_op (i := 1) Tryd.underlying22 aggTot.size (by decide) u rfl rfl) ?_ hw17; intro K hK; go_big_quiet_op; go_big_quiet_on)
  (refine wpG_val (v := .pointer (some ((ap.add (1 * 37)).add 36))) rfl rfl (fun u hu => fieldT_op (k := 2) (off := 36) rfl u rfl) ?_ hw17; intro K hK; go_big_quiet_op; go_big_quiet_on)
  (refine wpG_val (v := .int .i64 1) rfl rfl (fun u hu => load_any_op u (HP1.out u (HUP.out u (EnvX.sub hu (fun _ h => by cases h)))) rfl) ?_ hw17; intro K hK; go_big_quiet_op; go_big_quiet_on)
  (refine wpG_val (v := .bool true) rfl rfl (fun u hu => eqlI_op u (by decide) rfl rfl) ?_ hw17; intro K hK; go_big_quiet_op; go_big_quiet_on)
  (refine wpG_op rfl rfl rfl ?_; intro K hK; go_big_quiet_op; go_big_quiet_on)
  (refine wpG_op rfl rfl rfl ?_; intro K hK; go_big_quiet_op; go_big_quiet_on)
  (refine wpG_op rfl rfl rfl ?_; intro K hK; go_big_quiet_op; go_big_quiet_on)
  (refine wpG_call (f := 18) (args := #[.slice (some ap) 2 cp]) (v := totV mr3) rfl rfl rfl Tryd.func18 rfl rfl (fun u hu => HRT.out u (HUP.out u (EnvX.sub hu (fun _ h => by cases h)))) ?_ hw17; intro K hK; go_big_quiet_op; go_big_quiet_on)
  (refine wpG_val (v := .agg (wcs 6)) rfl rfl (fun u hu => fieldW_op mr3_len (by rw [mr3_w]) u rfl) ?_ hw17; intro K hK; go_big_quiet_op; go_big_quiet_on)
  (refine wpG_val (v := .agg (wcs 6)) rfl rfl (fun u hu => buildA_op u built_w6) ?_ hw17; intro K hK; go_big_quiet_op; go_big_quiet_on)
  (refine wpG_val (v := .bool true) rfl rfl (fun u hu => eqlW_op (m := 6) (n := 6) (by decide +kernel) (by decide +kernel) rfl u rfl rfl) ?_ hw17; intro K hK; go_big_quiet_op; go_big_quiet_on)
  (refine wpG_op rfl rfl rfl ?_; intro K hK; go_big_quiet_op; go_big_quiet_on)
  (refine wpG_op rfl rfl rfl ?_; intro K hK; go_big_quiet_op; go_big_quiet_on)
  (refine wpG_op rfl rfl rfl ?_; intro K hK; go_big_quiet_op; go_big_quiet_on)
  (refine wpG_op rfl rfl rfl ?_; intro K hK; go_big_quiet_op; go_big_quiet_on)
  (refine wpG_op rfl rfl rfl ?_; intro K hK; go_big_quiet_op; go_big_quiet_on)
  (refine wpG_val (v := .agg (wcs 4)) rfl rfl (fun u hu => load_any_op u (HL6.out u (EnvX.sub hu (fun _ h => by cases h))) rfl) ?_ hw17; intro K hK; go_big_quiet_op; go_big_quiet_on)
  (refine wpG_val (v := .agg (wcs 4)) rfl rfl (fun u hu => buildA_op u built_w4) ?_ hw17; intro K hK; go_big_quiet_op; go_big_quiet_on)
  (refine wpG_val (v := .bool true) rfl rfl (fun u hu => eqlW_op (m := 4) (n := 4) (by decide +kernel) (by decide +kernel) rfl u rfl rfl) ?_ hw17; intro K hK; go_big_quiet_op; go_big_quiet_on)
  (refine wpG_op rfl rfl rfl ?_; intro K hK; go_big_quiet_op; go_big_quiet_on)
  (refine wpG_op rfl rfl rfl ?_; intro K hK; go_big_quiet_op; go_big_quiet_on)
  (refine wpG_op rfl rfl rfl ?_; intro K hK; go_big_quiet_op; go_big_quiet_on)
  (refine wpG_op rfl rfl rfl ?_; intro K hK; go_big_quiet_op; go_big_quiet_on)
  (refine wpG_call (f := 17) (args := #[.slice (some ap) 2 cp, .slice (some ap) 2 cp]) (v := .bool true) rfl rfl rfl Tryd.func17 rfl rfl (fun u hu => HSM.out u (HUP.out u (EnvX.sub hu (fun _ h => by cases h)))) ?_ hw17; intro K hK; go_big_quiet_op; go_big_quiet_on)
  (refine wpG_op rfl rfl rfl ?_; intro K hK; go_big_quiet_op; go_big_quiet_on)
  (refine wpG_op rfl rfl rfl ?_; intro K hK; go_big_quiet_op; go_big_quiet_on)
  (refine wpG_op rfl rfl rfl ?_; intro K hK; go_big_quiet_op; go_big_quiet_on)
  (refine wpG_val (v := .pointer (some (al.add (0 * 37)))) rfl rfl (fun u hu => idxSl_op (i := 0) Tryd.underlying22 aggTot.size (by decide) u rfl rfl) ?_ hw17; intro K hK; go_big_quiet_op; go_big_quiet_on)
  (refine wpG_val (v := totV ma0) rfl rfl (fun u hu => load_any_op u (HL0.out u (HUP.out u (EnvX.sub hu (fun _ h => by cases h)))) rfl) ?_ hw17; intro K hK; go_big_quiet_op; go_big_quiet_on)
  (refine wpG_op rfl rfl rfl ?_; intro K hK; go_big_quiet_op; go_big_quiet_on)
  (refine wpG_val (v := .pointer (some (al.add (1 * 37)))) rfl rfl (fun u hu => idxSl_op (i := 1) Tryd.underlying22 aggTot.size (by decide) u rfl rfl) ?_ hw17; intro K hK; go_big_quiet_op; go_big_quiet_on)
  (refine wpG_val (v := totV ma1) rfl rfl (fun u hu => load_any_op u (HL1.out u (HUP.out u (EnvX.sub hu (fun _ h => by cases h)))) rfl) ?_ hw17; intro K hK; go_big_quiet_op; go_big_quiet_on)
  (refine wpG_call (f := 20) (args := #[totV ma0, totV ma1]) (v := totV (joinT ma0 ma1)) rfl rfl rfl Tryd.func20 rfl rfl (fun u hu => HJN.out u (HUP.out u (EnvX.sub hu (fun _ h => by cases h)))) ?_ hw17; intro K hK; go_big_quiet_op; go_big_quiet_on)
  (refine wpG_val (v := idv (joinT ma0 ma1).h) rfl rfl (fun u hu => fieldH_op join_len u rfl) ?_ hw17; intro K hK; go_big_quiet_op; go_big_quiet_on)
  (refine wpG_val (v := idv mz32) rfl rfl (fun u hu => buildA_op u built_z) ?_ hw17; intro K hK; go_big_quiet_op; go_big_quiet_on)
  (refine wpG_val (v := .bool true) rfl rfl (fun u hu => neqb_op join_len mz_len join_ne u rfl rfl) ?_ hw17; intro K hK; go_big_quiet_op; go_big_quiet_on)
  (refine wpG_op rfl rfl rfl ?_; intro K hK; go_big_quiet_op; go_big_quiet_on)
  (refine wpG_op rfl rfl rfl ?_; intro K hK; go_big_quiet_op; go_big_quiet_on)
  clear hone hw17
  refine wpG_nil ?_
  refine anyH_done (by kernel_rfl) ?_
  intro u19 E2'
  have EX18 := Lib.hid E2'
  clear E2'
  go_wp2
  go_ret
  exact ⟨rfl, HBV.out.trans ((EnvX.bel EX18.out).mono HBV.out.size)⟩
end Go.Proofs.YtbmiecogjmbciaaDoor

namespace Go.Proofs.YtbmiecogjmbciaaDoor
set_option maxRecDepth 8000
open Go.RowKit

section
variable {a : Act} {dst : Option Tmp} {x y : Operand} {ty : TypeId} {pos : String} {after : Array Edge} {gd : Option (Nat × Bool)}
theorem eqlTb_op {s t : Tot} {b : Bool} (hs : okT s) (ht : okT t) (hb : eqT s t = b) (u : World) (hx : a.eval x = totV s) (hy : a.eval y = totV t) :
    (execOp a.eval ⟨dst, .binOp .eql 29 x y 29, ty, pos, after, gd⟩).run Tryd.prog u = .ok (.value (.bool b)) u := by
  rw [← hb]
  exact eqlT_op hs ht u hx hy
end
end Go.Proofs.YtbmiecogjmbciaaDoor

namespace Go.Proofs.YtbmiecogjmbciaaDoor
set_option maxRecDepth 8000
open Go.RowKit

theorem FreshR.full {e : TypeId} {z n : Nat} {xs : List Value} {v : Value} {N : Boxes} (h : FreshR e z n xs v N) : ∃ A c, v = .slice A n c ∧ n ≤ c ∧ c ≤ maxLen := by
  rcases h with ⟨g, cap, cur, rfl, _, h1, h2, _⟩ | ⟨rfl, _, rfl, _⟩
  · exact ⟨_, _, rfl, h1, h2⟩
  · exact ⟨_, _, rfl, Nat.le_refl _, Nat.zero_le _⟩
theorem fresh_tots {l : List Tot} {n c : Nat} {A : Option Addr} {N : Boxes} {u : World} (h : FreshR 29 37 n (l.map totC).flatten (.slice A n c) N) (hl : l.length = n) (ho : okTs l) (hN : ∀ y ∈ N, u.heap[y.1]? = some y.2) : TotsIn u u.heap.size A l :=
  own_cells (h.own (B := 0) (by rw [flatT_len ho, hl]) (fun y hy => ⟨Nat.zero_le _, hN y hy⟩))
section
variable {a : Act} {dst : Option Tmp} {x y : Operand} {ty : TypeId} {pos : String} {after : Array Edge} {gd : Option (Nat × Bool)}
end
end Go.Proofs.YtbmiecogjmbciaaDoor

namespace Go.Proofs.YtbmiecogjmbciaaDoor
set_option maxRecDepth 8000
open Go.RowKit

section
variable {a : Act} {dst : Option Tmp} {x y : Operand} {ty : TypeId} {pos : String} {after : Array Edge} {gd : Option (Nat × Bool)}
theorem leqI_op {m k : Int} {b : Bool} (u : World) (hb : decide (m ≤ k) = b) (hx : a.eval x = .int .i64 m) (hy : a.eval y = .int .i64 k) :
    (execOp a.eval ⟨dst, .binOp .leq 3 x y 3, ty, pos, after, gd⟩).run Tryd.prog u = .ok (.value (.bool b)) u := by
  subst hb
  unfold execOp
  simp only [hx, hy]
  go_simp
end
end Go.Proofs.YtbmiecogjmbciaaDoor

namespace Go.Proofs.YtbmiecogjmbciaaDoor
set_option maxRecDepth 8000
open Go.RowKit

theorem IdsIn.loads {w : World} {A : Option Addr} {l : List (List Int)} (h : IdsIn w w.heap.size A l) (hl : isIds l) {k : Nat} (hk : k < l.length) : ∃ ad, A = some ad ∧ ∀ u, EnvX w u [] → (loadVar 24 (ad.add (k * 32))).run Tryd.prog u = .ok (idv (l.getD k [])) u := by
  obtain ⟨ad, e, _⟩ := h.load hl hk
  refine ⟨ad, e, fun u hu => ?_⟩
  obtain ⟨ad2, e2, h2⟩ := (h.up (EnvX.bel hu)).load hl hk
  rw [e] at e2
  cases e2
  exact h2
end Go.Proofs.YtbmiecogjmbciaaDoor

namespace Go.Proofs.YtbmiecogjmbciaaDoor
set_option maxRecDepth 8000
open Go.RowKit

/-- numbers of 32 bits that came in -/
def u32V (x : Nat) : Value := .int .u32 (x : Int)
def wkT (ws : List Nat) (k : Nat) : Nat := if k < ws.length then ws.getD k 0 else 1
def leafAt (ids : List (List Int)) (ws : List Nat) (k : Nat) : Tot := ⟨ids.getD k [], wkT ws k, 1⟩
def leavesT (ids : List (List Int)) (ws : List Nat) : List Tot := (List.range ids.length).map (leafAt ids ws)
theorem leaves_len (ids : List (List Int)) (ws : List Nat) : (leavesT ids ws).length = ids.length := by simp [leavesT]
theorem wk_lt {ws : List Nat} (h : ∀ x ∈ ws, x < 4294967296) (k : Nat) : wkT ws k < 4294967296 := by
  unfold wkT
  split
  · rename_i hk
    rw [List.getD_eq_getElem?_getD, List.getElem?_eq_getElem hk]
    exact h _ (List.getElem_mem hk)
  · decide
theorem leaves_leaves {ids : List (List Int)} {ws : List Nat} (h : ∀ x ∈ ws, x < 4294967296) : Leaves (leavesT ids ws) := fun x hx => by
  obtain ⟨k, _, rfl⟩ := List.mem_map.1 hx
  exact ⟨rfl, wk_lt h k⟩
theorem leafAt_ok {ids : List (List Int)} {ws : List Nat} (hi : isIds ids) (h : ∀ x ∈ ws, x < 4294967296) {k : Nat} (hk : k < ids.length) : okT (leafAt ids ws k) := by
  have hw := wk_lt h k
  exact ⟨hi.get hk, by show wkT ws k < Big; unfold Big; omega, by show (-9223372036854775808 : Int) ≤ 1; decide, by show (1 : Int) ≤ 9223372036854775807; decide⟩
theorem leaves_ok {ids : List (List Int)} {ws : List Nat} (hi : isIds ids) (h : ∀ x ∈ ws, x < 4294967296) : okTs (leavesT ids ws) := fun x hx => by
  obtain ⟨k, hk, rfl⟩ := List.mem_map.1 hx
  exact leafAt_ok hi h (List.mem_range.1 hk)
theorem leaves_step {ids : List (List Int)} {ws : List Nat} {k : Nat} (hk : k < ids.length) : (leavesT ids ws).take (k + 1) = (leavesT ids ws).take k ++ [leafAt ids ws k] := by
  have h : (leavesT ids ws)[k]? = some (leafAt ids ws k) := by
    unfold leavesT
    rw [List.getElem?_map, List.getElem?_range hk]
    rfl
  rw [List.take_add_one, h]
  rfl
theorem size_u32 : (Tryd.prog.info? 76).map (·.size) = some 1 := by kernel_rfl
theorem oneU32 : ∀ w, (isAgg 76).run Tryd.prog w = .ok false w := fun w => by simp [isAgg, run_underlying Tryd.underlying76]
section
variable {a : Act} {dst : Option Tmp} {x y : Operand} {ty : TypeId} {pos : String} {after : Array Edge} {gd : Option (Nat × Bool)}
theorem conv3264_op {n : Nat} (u : World) (hn : n < 4294967296) (hx : a.eval x = .int .u32 (n : Int)) :
    (execOp a.eval ⟨dst, .convert 76 25 x, ty, pos, after, gd⟩).run Tryd.prog u = .ok (.value (.int .u64 (n : Int))) u := by
  have hw : IntKind.u64.wrap (n : Int) = (n : Int) := by rw [IntKind.wrap_u64]; omega
  unfold execOp
  simp only [hx]
  go_simp
end
theorem u32_load {w : World} {B : Nat} {A : Option Addr} {ws : List Nat} (h : CellsIn w B A (ws.map u32V)) {k : Nat} (hk : k < ws.length) : ∃ ad, A = some ad ∧ ad.block < B ∧ w.cell? (ad.add (k * 1)) = some (.int .u32 ((ws.getD k 0 : Nat) : Int)) := by
  obtain ⟨ad, e, hb, hc⟩ := h (by rw [List.length_map]; omega)
  refine ⟨ad, e, hb, hc (k * 1) _ ?_⟩
  rw [Nat.mul_one, List.getElem?_map, List.getElem?_eq_getElem hk, List.getD_eq_getElem?_getD, List.getElem?_eq_getElem hk]
  rfl
set_option maxRecDepth 20000 in
set_option maxHeartbeats 4000000 in
theorem lleaves_any (T : MmrC) (ids : List (List Int)) (ws : List Nat) (A A2 : Option Addr) (n c m c2 : Nat) (w : World) (hl : ids.length = n) (hm : ws.length = m) (hn : n ≤ 100000) (hnc : n ≤ c) (hcm : c ≤ maxLen) (hmc : m ≤ c2) (hc2 : c2 ≤ maxLen)
    (hI : isIds ids) (hA : IdsIn w w.heap.size A ids) (hb : ∀ x ∈ ws, x < 4294967296) (hA2 : CellsIn w w.heap.size A2 (ws.map u32V)) (ht : Tables w) :
    Calls Tryd.prog 24 #[.slice A n c, .slice A2 m c2] w fun e w' => (∃ v, e = .returned v ∧ OwnT w' w.heap.size v (leavesT ids ws)) ∧ Below w.heap.size w w' := by
  have HI := Lib.hid (And.intro hl (And.intro hI hA))
  have HW := Lib.hid (And.intro hm (And.intro hb hA2))
  have HT := Lib.hid ht
  have HM := Lib.hid T
  unfold maxLen at hcm hc2
  clear hl hI hA hm hb hA2 ht T
  go_enter Tryd.func24, Tryd.ntmps24
  go_upto_region 3 with (fail)
  go_loopw [5, 6, 7] (fun v i _ u => ∃ k : Nat, k ≤ n ∧ i = .int .i64 (k : Int) ∧ Hid (∃ N, FreshR 29 37 k (((leavesT ids ws).take k).map totC).flatten v N ∧ freshN w N [] ∧ EnvX w u N)) (fun _ i _ _ => n - (intOf i).toNat)
  case atStart => exact ⟨0, by omega, rfl, [], .inr ⟨rfl, rfl, rfl, rfl⟩, fun y hy => (by cases hy), EnvX.start w⟩
  case round =>
    obtain ⟨k, hk, rfl, hinv⟩ := hrel
    obtain ⟨N, hF, hfr, hE⟩ := hinv.out
    clear hinv
    by_cases hlt : k < n
    · have hlt2 : (k : Int) < (n : Int) := by omega
      obtain ⟨A', c', rfl, -, -⟩ := FreshR.full hF
      have HF := Lib.hid hF
      have HFR := Lib.hid hfr
      have EK := Lib.hid hE
      have hlen : ((leavesT ids ws).take k).length = k := by rw [List.length_take, leaves_len, HI.out.1]; omega
      have HFL : Hid ((((leavesT ids ws).take k).map totC).flatten.length = k * 37) := by show _ = _; rw [flatT_len ((leaves_ok HI.out.2.1 HW.out.2.1).take k), hlen]
      have HST := Lib.hid (leaves_step (ids := ids) (ws := ws) (k := k) (by rw [HI.out.1]; exact hlt))
      obtain ⟨ad, rfl, hld⟩ := HI.out.2.2.loads HI.out.2.1 (k := k) (by rw [HI.out.1]; exact hlt)
      have HLD := Lib.hid hld
      have HID := Lib.hid (HI.out.2.1.get (i := k) (by rw [HI.out.1]; exact hlt))
      have HWK := Lib.hid (wk_lt HW.out.2.1 k)
      have HOK := Lib.hid (leafAt_ok (ws := ws) HI.out.2.1 HW.out.2.1 (k := k) (by rw [HI.out.1]; exact hlt))
      have HKN := Lib.hid hlt
      have HOF : Hid (∀ u, Calls Tryd.prog 26 #[.int .u64 ((wkT ws k : Nat) : Int)] u fun e w' => e = .returned (.agg (wcs (wkT ws k))) ∧ Below u.heap.size u w') := fun u => of_n (wkT ws k) u (by have := HWK.out; omega)
      have HLF : Hid (∀ u, EnvX w u [] → Calls Tryd.prog 22 #[idv (ids.getD k []), .agg (wcs (wkT ws k))] u fun e w' => e = .returned (.agg (totA (leafAt ids ws k))) ∧ Below u.heap.size u w') := fun u hu => HM.out.leaf (ids.getD k []) (wkT ws k) u HID.out (by unfold Big; have := HWK.out; omega) (HT.out.below (EnvX.bel hu))
      clear hF hfr hE hld hlen
      by_cases hwk : k < m
      · have hwk2 : (k : Int) < (m : Int) := by omega
        obtain ⟨ad2, rfl, hb2, hc2'⟩ := u32_load HW.out.2.2 (k := k) (by rw [HW.out.1]; exact hwk)
        have HWE : Hid (ws.getD k 0 = wkT ws k) := by show _ = _; unfold wkT; rw [if_pos (by rw [HW.out.1]; exact hwk)]
        have HL2 : Hid (∀ u, EnvX w u [] → u.cell? (ad2.add (k * 1)) = some (.int .u32 ((wkT ws k : Nat) : Int))) := fun u hu => by
          rw [← HWE.out]
          exact ((EnvX.bel hu).cell (by rw [block_of_add]; exact hb2)).trans hc2'
        have HKM := Lib.hid hwk
        clear hb2 hc2'
        go_upto_region 7 with (fail)
        refine wp_region_Hx (w0 := w) [0, 1, 2, 3, 4] N rfl EK.out ?_
        refine lexH_phase [0, 1, 2, 3, 4] [] ?_
        have hw11 : EnvX w _ N := EK.out
        have hone := @EnvC.one _ _ _ hw11
        (refine wpG_op rfl rfl rfl ?_; intro K hK; go_big_quiet_op; go_big_quiet_on)
        (refine wpG_op rfl rfl rfl ?_; intro K hK; go_big_quiet_op; go_big_quiet_on)
        (refine wpG_val (v := .pointer (some (ad2.add (k * 1)))) rfl rfl (fun u hu => idxSl_op Tryd.underlying42 size_u32 HKM.out u rfl rfl) ?_ hw11; intro K hK; go_big_quiet_op; go_big_quiet_on)
        (refine wpG_val (v := .int .u32 ((wkT ws k : Nat) : Int)) rfl rfl (fun u hu => load_any_op u (run_load_one oneU32 u (HL2.out u (EnvX.sub hu (fun _ h => by cases h)))) rfl) ?_ hw11; intro K hK; go_big_quiet_op; go_big_quiet_on)
        (refine wpG_op rfl rfl rfl ?_; intro K hK; go_big_quiet_op; go_big_quiet_on)
        clear hone hw11
        refine wpG_nil ?_
        intro u13 E2'
        have EX12 := Lib.hid E2'
        clear E2'
        go_upto_region 8 with (fail)
        refine wp_region_H (w0 := w) N (by kernel_rfl) EX12.out ?_
        refine anyH_phase [0, 1, 2, 3, 4, 5, 6, 7, 8] 3 rfl ⟨_, (EnvX.drew EX12.out)⟩ (by kernel_rfl) ?_
        have hw14 : EnvX w _ N := (EnvX.drew EX12.out)
        have hone := @EnvC.one _ _ _ hw14
        (refine wpG_op rfl rfl rfl ?_; intro K hK; go_big_quiet_op; go_big_quiet_on)
        (refine wpG_op rfl rfl rfl ?_; intro K hK; go_big_quiet_op; go_big_quiet_on)
        (refine wpG_op rfl rfl rfl ?_; intro K hK; go_big_quiet_op; go_big_quiet_on)
        (refine wpG_val (v := .pointer (some (ad.add (k * 32)))) rfl rfl (fun u hu => idxSl_op Tryd.underlying41 aggIdT.size HKN.out u rfl rfl) ?_ hw14; intro K hK; go_big_quiet_op; go_big_quiet_on)
        (refine wpG_val (v := idv (ids.getD k [])) rfl rfl (fun u hu => load_run_op u (HLD.out u (EnvX.sub hu (fun _ h => by cases h))) rfl) ?_ hw14; intro K hK; go_big_quiet_op; go_big_quiet_on)
        (refine wpG_op rfl rfl rfl ?_; intro K hK; go_big_quiet_op; go_big_quiet_on)
        (refine wpG_val (v := .int .u64 ((wkT ws k : Nat) : Int)) rfl rfl (fun u hu => conv3264_op u HWK.out rfl) ?_ hw14; intro K hK; go_big_quiet_op; go_big_quiet_on)
        (refine wpG_call (f := 26) (args := #[.int .u64 ((wkT ws k : Nat) : Int)]) (v := .agg (wcs (wkT ws k))) rfl rfl rfl Tryd.func26 rfl rfl (fun u hu => HOF.out u) ?_ hw14; intro K hK; go_big_quiet_op; go_big_quiet_on)
        (refine wpG_call (f := 22) (args := #[idv (ids.getD k []), .agg (wcs (wkT ws k))]) (v := .agg (totA (leafAt ids ws k))) rfl rfl rfl Tryd.func22 rfl rfl (fun u hu => HLF.out u (EnvX.sub hu (fun _ h => by cases h))) ?_ hw14; intro K hK; go_big_quiet_op; go_big_quiet_on)
        clear hone hw14
        refine wpG_nil ?_
        refine anyH_one (i := 9) (by kernel_rfl) (hOp_fresh (R := BuiltR 29 (totC (leafAt ids ws k))) (M0 := N) rfl rfl (fun _ h => h) (fun u hu => FAt_buildR elTot (totC_len HOK.out.len) (totC_one _) rfl u) ?_)
        rintro _ _ ⟨gb, rfl, rfl⟩ hf he15; intro K' hK'; go_big_quiet_op; go_big_quiet_on
        clear hf
        change anyH _ _ _ _ _ _ _ _ ((gb, Obj.cells (totC (leafAt ids ws k)).toArray 29 (0, 0)) :: N)
        refine anyH_one (i := 10) (by kernel_rfl) (hOp_own (gd := none) (R := GrownR w 29 37 (k + 1) ((((leavesT ids ws).take k).map totC).flatten ++ totC (leafAt ids ws k)) []) rfl rfl rfl rfl (fun u hu => appX_op elTot (m := 1) [] hu HFL.out (by rw [Nat.one_mul]; exact totC_len HOK.out.len) (totC_one _) HF.out (fun y hy => ⟨List.mem_cons_of_mem _ hy, (HFR.out y hy).1⟩) (src_box (k := 0) hu (List.Mem.head _) (by rw [List.drop_zero, List.take_length])) (fun _ h => by cases h) (by omega) rfl rfl) ?_)
        rintro x2 M' ⟨N2, hM2, hF2, hn2⟩ he16; obtain rfl : N2 = M' := (by rw [hM2, List.append_nil]); intro K' hK'; go_big_quiet_op; go_big_quiet_on
        have HF2 := Lib.hid (And.intro hF2 hn2)
        clear hF2 hn2
        change anyH _ _ _ _ _ _ _ _ N2
        refine anyH_phase [11] 0 rfl ⟨_, he16.choose_spec⟩ (by kernel_rfl) ?_
        have hw17 : EnvX w _ N2 := he16.choose_spec
        have hone := @EnvC.one _ _ _ hw17
        (refine wpG_op rfl rfl rfl ?_; intro K hK; go_big_quiet_op; go_big_quiet_on)
        clear hone hw17
        refine wpG_nil ?_
        refine anyH_done (by kernel_rfl) ?_
        intro u19 E2'
        have EX18 := Lib.hid E2'
        clear E2'
        have HN : Hid (∃ N, FreshR 29 37 (k + 1) (((leavesT ids ws).take (k + 1)).map totC).flatten x2 N ∧ freshN w N [] ∧ EnvX w u19 N) := by
          have h := HF2.out.1
          refine ⟨N2, ?_, HF2.out.2, EX18.out⟩
          rw [HST.out, List.map_append, List.flatten_append, List.map_singleton, List.flatten_singleton]
          exact h
        go_wp2
        go_roundw
        case rel => exact ⟨k + 1, by omega, by go_num, HN⟩
        case measure => simp [intOf]; omega
      · have hwk2 : ¬ (k : Int) < (m : Int) := by omega
        have HW1 : Hid (wkT ws k = 1) := by show _ = _; unfold wkT; rw [if_neg (by rw [HW.out.1]; exact hwk)]
        go_upto_region 8 with (fail)
        rw [show (Value.int .u32 1) = .int .u32 ((wkT ws k : Nat) : Int) by rw [HW1.out]; rfl]
        refine wp_region_H (w0 := w) N (by kernel_rfl) EK.out ?_
        refine anyH_phase [0, 1, 2, 3, 4, 5, 6, 7, 8] 3 rfl ⟨_, (EnvX.drew EK.out)⟩ (by kernel_rfl) ?_
        have hw101 : EnvX w _ N := (EnvX.drew EK.out)
        have hone := @EnvC.one _ _ _ hw101
        (refine wpG_op rfl rfl rfl ?_; intro K hK; go_big_quiet_op; go_big_quiet_on)
        (refine wpG_op rfl rfl rfl ?_; intro K hK; go_big_quiet_op; go_big_quiet_on)
        (refine wpG_op rfl rfl rfl ?_; intro K hK; go_big_quiet_op; go_big_quiet_on)
        (refine wpG_val (v := .pointer (some (ad.add (k * 32)))) rfl rfl (fun u hu => idxSl_op Tryd.underlying41 aggIdT.size HKN.out u rfl rfl) ?_ hw101; intro K hK; go_big_quiet_op; go_big_quiet_on)
        (refine wpG_val (v := idv (ids.getD k [])) rfl rfl (fun u hu => load_run_op u (HLD.out u (EnvX.sub hu (fun _ h => by cases h))) rfl) ?_ hw101; intro K hK; go_big_quiet_op; go_big_quiet_on)
        (refine wpG_op rfl rfl rfl ?_; intro K hK; go_big_quiet_op; go_big_quiet_on)
        (refine wpG_val (v := .int .u64 ((wkT ws k : Nat) : Int)) rfl rfl (fun u hu => conv3264_op u HWK.out rfl) ?_ hw101; intro K hK; go_big_quiet_op; go_big_quiet_on)
        (refine wpG_call (f := 26) (args := #[.int .u64 ((wkT ws k : Nat) : Int)]) (v := .agg (wcs (wkT ws k))) rfl rfl rfl Tryd.func26 rfl rfl (fun u hu => HOF.out u) ?_ hw101; intro K hK; go_big_quiet_op; go_big_quiet_on)
        (refine wpG_call (f := 22) (args := #[idv (ids.getD k []), .agg (wcs (wkT ws k))]) (v := .agg (totA (leafAt ids ws k))) rfl rfl rfl Tryd.func22 rfl rfl (fun u hu => HLF.out u (EnvX.sub hu (fun _ h => by cases h))) ?_ hw101; intro K hK; go_big_quiet_op; go_big_quiet_on)
        clear hone hw101
        refine wpG_nil ?_
        refine anyH_one (i := 9) (by kernel_rfl) (hOp_fresh (R := BuiltR 29 (totC (leafAt ids ws k))) (M0 := N) rfl rfl (fun _ h => h) (fun u hu => FAt_buildR elTot (totC_len HOK.out.len) (totC_one _) rfl u) ?_)
        rintro _ _ ⟨gb, rfl, rfl⟩ hf he102; intro K' hK'; go_big_quiet_op; go_big_quiet_on
        clear hf
        change anyH _ _ _ _ _ _ _ _ ((gb, Obj.cells (totC (leafAt ids ws k)).toArray 29 (0, 0)) :: N)
        refine anyH_one (i := 10) (by kernel_rfl) (hOp_own (gd := none) (R := GrownR w 29 37 (k + 1) ((((leavesT ids ws).take k).map totC).flatten ++ totC (leafAt ids ws k)) []) rfl rfl rfl rfl (fun u hu => appX_op elTot (m := 1) [] hu HFL.out (by rw [Nat.one_mul]; exact totC_len HOK.out.len) (totC_one _) HF.out (fun y hy => ⟨List.mem_cons_of_mem _ hy, (HFR.out y hy).1⟩) (src_box (k := 0) hu (List.Mem.head _) (by rw [List.drop_zero, List.take_length])) (fun _ h => by cases h) (by omega) rfl rfl) ?_)
        rintro x2 M' ⟨N2, hM2, hF2, hn2⟩ he103; obtain rfl : N2 = M' := (by rw [hM2, List.append_nil]); intro K' hK'; go_big_quiet_op; go_big_quiet_on
        have HF2 := Lib.hid (And.intro hF2 hn2)
        clear hF2 hn2
        change anyH _ _ _ _ _ _ _ _ N2
        refine anyH_phase [11] 0 rfl ⟨_, he103.choose_spec⟩ (by kernel_rfl) ?_
        have hw104 : EnvX w _ N2 := he103.choose_spec
        have hone := @EnvC.one _ _ _ hw104
        (refine wpG_op rfl rfl rfl ?_; intro K hK; go_big_quiet_op; go_big_quiet_on)
        clear hone hw104
        refine wpG_nil ?_
        refine anyH_done (by kernel_rfl) ?_
        intro u106 E2'
        have EX105 := Lib.hid E2'
        clear E2'
        have HN : Hid (∃ N, FreshR 29 37 (k + 1) (((leavesT ids ws).take (k + 1)).map totC).flatten x2 N ∧ freshN w N [] ∧ EnvX w u106 N) := by
          have h := HF2.out.1
          refine ⟨N2, ?_, HF2.out.2, EX105.out⟩
          rw [HST.out, List.map_append, List.flatten_append, List.map_singleton, List.flatten_singleton]
          exact h
        go_wp2
        go_roundw
        case rel => exact ⟨k + 1, by omega, by go_num, HN⟩
        case measure => simp [intOf]; omega
    · obtain rfl : k = n := by omega
      have hge : ¬ (k : Int) < (k : Int) := by omega
      obtain ⟨A', c', rfl, -, -⟩ := FreshR.full hF
      have HO : Hid (OwnT wr w.heap.size (.slice A' k c') (leavesT ids ws)) := by
        have hl : (leavesT ids ws).length = k := by rw [leaves_len, HI.out.1]
        rw [List.take_of_length_le (by omega)] at hF
        unfold Hid OwnT
        rw [hl]
        exact hF.own (by rw [flatT_len (leaves_ok HI.out.2.1 HW.out.2.1), hl]) (fun y hy => ⟨(hfr y hy).1, EnvX.box hE _ _ hy⟩)
      have HB := Lib.hid (EnvX.bel hE)
      clear hF hfr hE
      go_wp2
      go_ret
      exact ⟨⟨_, rfl, HO.out⟩, HB.out⟩
end Go.Proofs.YtbmiecogjmbciaaDoor

namespace Go.Proofs.YtbmiecogjmbciaaDoor
set_option maxRecDepth 8000
open Go.ChangeShapes Go.WideShapes Go.ChangeAt Go.RowKit Go.Deep

theorem cellsWide : Tryd.prog.cellsOf 27 = 4 := by kernel_rfl
theorem cellsTot : Tryd.prog.cellsOf 29 = 37 := by kernel_rfl
theorem cellsInt : Tryd.prog.cellsOf 3 = 1 := by kernel_rfl
section
variable {H : Type} {enc : TypeId × Value → H} {W : World} {base : Nat} {spare : Nat → Bool} {held : Bool} {fuel : Nat} {cs : List Value} {x : DataW H × List MemPlace}
theorem wide_cells (h : DataW.trod enc Tryd.prog W base spare held fuel 27 cs = some x) : ∃ n : Nat, n < Big ∧ cs = (wcs n).toList := by
  obtain ⟨ys, m, _, _, hlen, hl, hall⟩ := DataW.trod_array Tryd.underlying27 h
  rw [cellsWide] at hlen
  have hc : ∀ i, i < 4 → ∃ n : Int, cs[i]? = some (.int .u64 n) ∧ 0 ≤ n ∧ n < 18446744073709551616 := by
    intro i hi
    have h1 := hall i hi
    rw [List.getElem?_eq_getElem (by omega : i < ys.length)] at h1
    obtain ⟨n, e, _, wf⟩ := DataW.trod_int Tryd.underlying25 h1
    refine ⟨n, ?_, ?_⟩
    · rw [cellsU64, Nat.mul_one] at e
      have hi' : i < cs.length := by omega
      simp only [List.drop_eq_getElem_cons hi', List.take_succ_cons, List.take_zero, List.cons.injEq, and_true] at e
      rw [List.getElem?_eq_getElem hi', e]
    · have := bounds_u64 wf
      omega
  obtain ⟨a, e0, a0, a1⟩ := hc 0 (by omega)
  obtain ⟨b, e1, b0, b1⟩ := hc 1 (by omega)
  obtain ⟨c, e2, c0, c1⟩ := hc 2 (by omega)
  obtain ⟨d, e3, d0, d1⟩ := hc 3 (by omega)
  have hcs : cs.toArray = arrW 4 [a, b, c, d] := by
    apply arrW_ext
    · simp
    · simpa using hlen
    · intro i hi
      rw [List.getElem?_toArray]
      rcases i with _ | _ | _ | _ | i
      · exact e0
      · exact e1
      · exact e2
      · exact e3
      · omega
  obtain ⟨n, hn, hw⟩ := wl_of [a, b, c, d] rfl (by
    intro k
    rcases k with _ | _ | _ | _ | k
    · exact ⟨a0, a1⟩
    · exact ⟨b0, b1⟩
    · exact ⟨c0, c1⟩
    · exact ⟨d0, d1⟩
    · simp)
  refine ⟨n, hn, ?_⟩
  have h2 : cs.toArray = wcs n := by rw [hcs, hw]; rfl
  rw [← h2]
theorem tot_cells (h : DataW.trod enc Tryd.prog W base spare held fuel 29 cs = some x) : ∃ t : Tot, okT t ∧ cs = totC t := by
  obtain ⟨y0, y1, y2, n, _, hl, h0, h1, h2⟩ := trod_struct3 Tryd.underlying29 h
  rw [cellsTot] at hl
  obtain ⟨hs, k1, k2, e0⟩ := id_cells h0
  obtain ⟨w, hw, e1⟩ := wide_cells h1
  obtain ⟨i, e2, _, wf⟩ := DataW.trod_int Tryd.underlying3 h2
  have e0' : cs.take 32 = hs.map u8v := by
    have h := e0
    rw [show Tryd.prog.cellsOf 24 = 32 from cellsOfId] at h
    exact h
  have e1' : (cs.drop 32).take 4 = (wcs w).toList := by
    have h := e1
    rw [show Tryd.prog.cellsOf 27 = 4 from cellsWide] at h
    exact h
  have e2' : (cs.drop 36).take 1 = [.int .i64 i] := by
    have h := e2
    rw [show Tryd.prog.cellsOf 3 = 1 from cellsInt] at h
    exact h
  refine ⟨⟨hs, w, i⟩, ⟨⟨k1, k2⟩, hw, bounds_i64 wf⟩, ?_⟩
  unfold totC
  have ha : (arrB 32 hs).toList = hs.map u8v := by
    have : (hs.map u8v).toArray = arrB 32 hs := by unfold arrB; rw [k1]; simp
    rw [← this]
  show cs = (arrB 32 hs).toList ++ ((wcs w).toList ++ [.int .i64 i])
  rw [ha, ← e0', ← e1', ← e2', List.take_of_length_le (l := cs.drop 36) (by rw [List.length_drop]; omega), show cs.drop 36 = (cs.drop 32).drop 4 by rw [List.drop_drop], List.take_append_drop, List.take_append_drop]
theorem u32_cells (h : DataW.trod enc Tryd.prog W base spare held fuel 76 cs = some x) : ∃ n : Nat, n < 4294967296 ∧ cs = [u32V n] := by
  obtain ⟨i, e, _, wf⟩ := DataW.trod_int Tryd.underlying76 h
  obtain ⟨y, rfl⟩ : ∃ n : Nat, i = (n : Int) := Int.eq_ofNat_of_zero_le (bounds_u32 wf).1
  exact ⟨y, by have := (bounds_u32 wf).2; omega, e⟩
end
section
variable {H : Type} {enc : TypeId × Value → H} {W : World} {base : Nat} {v : Value} {d : DataW H} {p : List MemPlace}
theorem open_tot (hok : Value.okWide Tryd.prog W .any base 29 v) (h : DataW.Trod enc Tryd.prog W 0 (fun _ => true) true 29 v d p) : ∃ t : Tot, v = totV t ∧ okT t := by
  obtain ⟨cs, rfl, hsz, _⟩ : ∃ cs, v = .agg cs ∧ cs.size = Tryd.prog.cellsOf 29 ∧ Row.okWide Tryd.prog W .any base 29 cs := by
    simpa [Value.okWide, Tryd.underlying29] using hok
  obtain ⟨fuel, hf⟩ := h
  obtain ⟨t, ht, hc⟩ := tot_cells hf
  refine ⟨t, ?_, ht⟩
  have : cs.toList = totC t := hc
  unfold totV totA
  rw [← this]
theorem open_tots (hok : Value.okWide Tryd.prog W .any base 22 v) (h : DataW.Trod enc Tryd.prog W 0 (fun _ => true) true 22 v d p) :
    ∃ (a : Option Addr) (n c : Nat) (l : List Tot), v = .slice a n c ∧ l.length = n ∧ n ≤ c ∧ c ≤ maxLen ∧ okTs l ∧ TotsIn W W.heap.size a l :=
  open_elems (ok := okT) (C := totC) Tryd.underlying22 cellsTot (by decide) (fun t ht => totC_len ht.len) (fun _ _ _ h => tot_cells h) hok h
theorem flat_ones : ∀ l : List Nat, (l.map fun n => [u32V n]).flatten = l.map u32V
  | [] => rfl
  | x :: l => by rw [List.map_cons, List.flatten_cons, flat_ones l]; rfl
theorem open_u32s (hok : Value.okWide Tryd.prog W .any base 42 v) (h : DataW.Trod enc Tryd.prog W 0 (fun _ => true) true 42 v d p) :
    ∃ (a : Option Addr) (n c : Nat) (l : List Nat), v = .slice a n c ∧ l.length = n ∧ n ≤ c ∧ c ≤ maxLen ∧ (∀ x ∈ l, x < 4294967296) ∧ CellsIn W W.heap.size a (l.map u32V) := by
  obtain ⟨a, n, c, l, h1, h2, h3, h4, h5, h6⟩ := open_elems (ok := fun n : Nat => n < 4294967296) (C := fun n => [u32V n]) Tryd.underlying42 cells39 (by decide) (fun _ _ => rfl) (fun _ _ _ h => u32_cells h) hok h
  rw [flat_ones] at h6
  exact ⟨a, n, c, l, h1, h2, h3, h4, h5, h6⟩
end
/-- The total of zeros, as a value and as it reads. -/
def zeroT : Value := .agg ((List.replicate 32 (Value.int .u8 0) ++ (List.replicate 4 (Value.int .u64 0) ++ [Value.int .i64 0])).toArray)
def zeroTD {H : Type} : DataW H := .agg [.agg (List.replicate 32 (.lit (.int .u8 0))), .agg (List.replicate 4 (.lit (.int .u64 0))), .lit (.int .i64 0)]
end Go.Proofs.YtbmiecogjmbciaaDoor

namespace Go.Proofs.YtbmiecogjmbciaaDoor
set_option maxRecDepth 8000

def forkF : Nat → Nat → Nat → Nat → List (Nat × Nat × Bool)
  | 0, _, _, _ => []
  | m + 1, f, n, i => if n ≤ 1 then [] else if i < f + halfT n then forkF m f (halfT n) i ++ [(f, n, false)] else forkF m (f + halfT n) (n - halfT n) i ++ [(f, n, true)]
def forksT (f n i : Nat) : List (Nat × Nat × Bool) := forkF n f n i
theorem forkF_more : ∀ (a b f n i : Nat), n ≤ a → n ≤ b → forkF a f n i = forkF b f n i
  | 0, 0, _, _, _, _, _ => rfl
  | 0, b + 1, f, n, i, ha, _ => by
    obtain rfl : n = 0 := by omega
    unfold forkF
    rfl
  | a + 1, 0, f, n, i, _, hb => by
    obtain rfl : n = 0 := by omega
    unfold forkF
    rfl
  | a + 1, b + 1, f, n, i, ha, hb => by
    unfold forkF
    by_cases h1 : n ≤ 1
    · rw [if_pos h1, if_pos h1]
    · obtain ⟨b1, b2, b3, -⟩ := half_spec (n := n) (by omega)
      rw [if_neg h1, if_neg h1]
      by_cases h2 : i < f + halfT n
      · rw [if_pos h2, if_pos h2, forkF_more a b f (halfT n) i (by omega) (by omega)]
      · rw [if_neg h2, if_neg h2, forkF_more a b (f + halfT n) (n - halfT n) i (by omega) (by omega)]
theorem forks_one (f i : Nat) : forksT f 1 i = [] := rfl
theorem forks_low {f n i : Nat} (h : 2 ≤ n) (hi : i < f + halfT n) : forksT f n i = forksT f (halfT n) i ++ [(f, n, false)] := by
  obtain ⟨b1, b2, b3, -⟩ := half_spec h
  obtain ⟨m, rfl⟩ : ∃ m, n = m + 1 := ⟨n - 1, by omega⟩
  unfold forksT
  rw [forkF, if_neg (by omega), if_pos hi, forkF_more m (halfT (m + 1)) f (halfT (m + 1)) i (by omega) (by omega)]
theorem forks_high {f n i : Nat} (h : 2 ≤ n) (hi : ¬ i < f + halfT n) : forksT f n i = forksT (f + halfT n) (n - halfT n) i ++ [(f, n, true)] := by
  obtain ⟨b1, b2, b3, -⟩ := half_spec h
  obtain ⟨m, rfl⟩ : ∃ m, n = m + 1 := ⟨n - 1, by omega⟩
  unfold forksT
  rw [forkF, if_neg (by omega), if_neg hi, forkF_more m (m + 1 - halfT (m + 1)) _ (m + 1 - halfT (m + 1)) i (by omega) (by omega)]
theorem forks_len : ∀ (n f i : Nat), (forksT f n i).length ≤ n := by
  intro n
  induction n using Nat.strongRecOn with
  | _ n ih =>
    intro f i
    by_cases h : 2 ≤ n
    · obtain ⟨b1, b2, b3, -⟩ := half_spec h
      by_cases hi : i < f + halfT n
      · rw [forks_low h hi, List.length_append]
        have := ih (halfT n) b2 f i
        simp
        omega
      · rw [forks_high h hi, List.length_append]
        have := ih (n - halfT n) (by omega) (f + halfT n) i
        simp
        omega
    · match n with
      | 0 => exact Nat.le_refl _
      | 1 => exact Nat.zero_le _
      | n + 2 => omega
theorem fork_sides : ∀ (n f i : Nat), i < n → (forksT f n (f + i)).map (fun x => !x.2.2) = sidesT n i := by
  intro n
  induction n using Nat.strongRecOn with
  | _ n ih =>
    intro f i hi
    by_cases h : 2 ≤ n
    · obtain ⟨b1, b2, b3, -⟩ := half_spec h
      by_cases hl : i < halfT n
      · rw [forks_low h (by omega), sides_low h hl, List.map_append, ih (halfT n) b2 f i hl]
        rfl
      · rw [forks_high h (by omega), sides_high h hl, List.map_append]
        have := ih (n - halfT n) (by omega) (f + halfT n) (i - halfT n) (by omega)
        rw [show f + halfT n + (i - halfT n) = f + i by omega] at this
        rw [this]
        rfl
    · obtain rfl : n = 1 := by omega
      rfl
theorem fork_in : ∀ (n f i : Nat), ∀ x ∈ forksT f n i, 2 ≤ x.2.1 ∧ x.1 + x.2.1 ≤ f + n := by
  intro n
  induction n using Nat.strongRecOn with
  | _ n ih =>
    intro f i x hx
    by_cases h : 2 ≤ n
    · obtain ⟨b1, b2, b3, -⟩ := half_spec h
      by_cases hl : i < f + halfT n
      · rw [forks_low h hl] at hx
        rcases List.mem_append.1 hx with h1 | h1
        · have := ih (halfT n) b2 f i x h1
          omega
        · cases List.mem_singleton.1 h1
          exact ⟨h, Nat.le_refl _⟩
      · rw [forks_high h hl] at hx
        rcases List.mem_append.1 hx with h1 | h1
        · have := ih (n - halfT n) (by omega) (f + halfT n) i x h1
          omega
        · cases List.mem_singleton.1 h1
          exact ⟨h, Nat.le_refl _⟩
    · match n, hx with
      | 0, hx => cases hx
      | 1, hx => cases hx
      | n + 2, _ => omega
theorem take_snoc {α β : Type} (F : List α) (g : α → β) (d : α) {k : Nat} (hk : k < F.length) : (F.take (k + 1)).map g = (F.take k).map g ++ [g (F.getD k d)] := by
  rw [List.take_succ_eq_append_getElem hk, List.map_append, List.getD_eq_getElem?_getD, List.getElem?_eq_getElem hk]
  rfl
theorem getD_mem {α : Type} (F : List α) (d : α) {k : Nat} (hk : k < F.length) : F.getD k d ∈ F := by
  rw [List.getD_eq_getElem?_getD, List.getElem?_eq_getElem hk]
  exact List.getElem_mem hk
theorem map_getD {α β : Type} (F : List α) (g : α → β) (d : α) (e : β) {k : Nat} (hk : k < F.length) : (F.map g).getD k e = g (F.getD k d) := by
  rw [List.getD_eq_getElem?_getD, List.getD_eq_getElem?_getD, List.getElem?_map, List.getElem?_eq_getElem hk]
  rfl
end Go.Proofs.YtbmiecogjmbciaaDoor

namespace Go.Proofs.YtbmiecogjmbciaaDoor
set_option maxRecDepth 8000

/-- how many leaves the far side has, and where it begins -/
def farN (x : Nat × Nat × Bool) : Nat := if x.2.2 then halfT x.2.1 else x.2.1 - halfT x.2.1
def farF (x : Nat × Nat × Bool) : Nat := if x.2.2 then x.1 else x.1 + halfT x.2.1
def nearN (x : Nat × Nat × Bool) : Nat := if x.2.2 then x.2.1 - halfT x.2.1 else halfT x.2.1
def nearF (x : Nat × Nat × Bool) : Nat := if x.2.2 then x.1 + halfT x.2.1 else x.1
def otherM (l : List Tot) (x : Nat × Nat × Bool) : Tot := allT ((l.drop (farF x)).take (farN x))
theorem fork_sizes : ∀ (n f i : Nat), i < n → (forksT f n (f + i)).map farN = sizesT n i := by
  intro n
  induction n using Nat.strongRecOn with
  | _ n ih =>
    intro f i hi
    by_cases h : 2 ≤ n
    · obtain ⟨b1, b2, b3, -⟩ := half_spec h
      by_cases hl : i < halfT n
      · rw [forks_low h (by omega), sizes_low h hl, List.map_append, ih (halfT n) b2 f i hl]
        rfl
      · rw [forks_high h (by omega), sizes_high h hl, List.map_append]
        have := ih (n - halfT n) (by omega) (f + halfT n) (i - halfT n) (by omega)
        rw [show f + halfT n + (i - halfT n) = f + i by omega] at this
        rw [this]
        rfl
    · obtain rfl : n = 1 := by omega
      rfl
theorem fork_mpath (l : List Tot) : ∀ (n f i : Nat), i < n → f + n ≤ l.length → mpathT ((l.drop f).take n) i = (forksT f n (f + i)).map (otherM l) := by
  intro n
  induction n using Nat.strongRecOn with
  | _ n ih =>
    intro f i hi hl
    have hlen : ((l.drop f).take n).length = n := by rw [List.length_take, List.length_drop]; omega
    by_cases h : 2 ≤ n
    · obtain ⟨b1, b2, b3, -⟩ := half_spec h
      have t0 : ((l.drop f).take n).take (halfT n) = (l.drop f).take (halfT n) := by rw [List.take_take, Nat.min_eq_left (by omega)]
      have d0 : ((l.drop f).take n).drop (halfT n) = (l.drop (f + halfT n)).take (n - halfT n) := by rw [List.drop_take, List.drop_drop]
      by_cases hlo : i < halfT n
      · have hp := mpath_low (l := (l.drop f).take n) (i := i) (by omega) (by rw [hlen]; exact hlo)
        rw [hlen, t0, d0] at hp
        rw [hp, forks_low h (by omega), List.map_append, ih (halfT n) b2 f i hlo (by omega)]
        rfl
      · have hp := mpath_high (l := (l.drop f).take n) (i := i) (by omega) (by rw [hlen]; exact hlo)
        rw [hlen, t0, d0] at hp
        have := ih (n - halfT n) (by omega) (f + halfT n) (i - halfT n) (by omega) (by omega)
        rw [show f + halfT n + (i - halfT n) = f + i by omega] at this
        rw [hp, forks_high h (by omega), List.map_append, this]
        rfl
    · obtain rfl : n = 1 := by omega
      match hq : (l.drop f).take 1, hlen with
      | [x], _ => rfl
theorem fork_mpath0 {l : List Tot} {n i : Nat} (hl : l.length = n) (hi : i < n) : mpathT l i = (forksT 0 n i).map (otherM l) := by
  have := fork_mpath l n 0 i hi (by omega)
  rw [List.drop_zero, List.take_of_length_le (by omega), Nat.zero_add] at this
  exact this
/-- .. where they stand -/
theorem fork_far {n i : Nat} : ∀ x ∈ forksT 0 n i, 2 ≤ x.2.1 ∧ farF x + farN x ≤ n ∧ 1 ≤ farN x ∧ farN x ≤ n ∧ nearF x + nearN x ≤ n ∧ 1 ≤ nearN x ∧ (x.2.2 = true → farF x < nearF x) ∧ (x.2.2 = false → nearF x < farF x) := by
  intro x hx
  have h := fork_in n 0 i x hx
  obtain ⟨f, m, b⟩ := x
  obtain ⟨b1, b2, b3, -⟩ := half_spec h.1
  unfold farF farN nearF nearN
  simp only at h b1 b2 b3 ⊢
  cases b with
  | true =>
    simp only [if_true]
    refine ⟨h.1, by omega, by omega, by omega, by omega, by omega, ?_, ?_⟩
    · intro _; omega
    · intro h; cases h
  | false =>
    simp only [Bool.false_eq_true, if_false]
    refine ⟨h.1, by omega, by omega, by omega, by omega, by omega, ?_, ?_⟩
    · intro h; cases h
    · intro _; omega
theorem getD_el {α : Type} (d : α) {l : List α} {j : Nat} (h : j < l.length) : l.getD j d = l[j] := by
  rw [List.getD_eq_getElem?_getD, List.getElem?_eq_getElem h]
  rfl
def turnI (N t j : Nat) : Nat := if j < t ∨ N - t ≤ j then N - 1 - j else j
/-- a list of which t at both ends are turned round -/
def turnL {α : Type} (d : α) (X : List α) (t : Nat) : List α := (List.range X.length).map fun j => X.getD (turnI X.length t j) d
theorem turn_len {α : Type} (d : α) (X : List α) (t : Nat) : (turnL d X t).length = X.length := by unfold turnL; simp
theorem turn_get {α : Type} (d : α) (X : List α) (t : Nat) {j : Nat} (hj : j < X.length) : (turnL d X t).getD j d = X.getD (turnI X.length t j) d := by
  unfold turnL
  rw [List.getD_eq_getElem?_getD, List.getElem?_map, List.getElem?_range hj]
  rfl
theorem turn_start {α : Type} (d : α) (X : List α) : turnL d X 0 = X := by
  apply List.ext_getElem (turn_len _ _ _)
  intro j h1 h2
  have := turn_get d X 0 h2
  rw [getD_el d h1] at this
  rw [this]
  have e : turnI X.length 0 j = j := by unfold turnI; split <;> omega
  rw [e, getD_el d h2]
theorem turn_end {α : Type} (d : α) (X : List α) {t : Nat} (h : X.length ≤ 2 * t + 1) : turnL d X t = X.reverse := by
  apply List.ext_getElem (by rw [turn_len, List.length_reverse])
  intro j h1 h2
  rw [turn_len] at h1
  have := turn_get d X t h1
  rw [getD_el d (by rw [turn_len]; exact h1)] at this
  rw [this, List.getElem_reverse]
  have e : turnI X.length t j = X.length - 1 - j := by unfold turnI; split <;> omega
  rw [e, getD_el d (by omega)]
theorem turn_step {α : Type} (d : α) (X : List α) {t : Nat} (h : 2 * t + 1 < X.length) :
    ((turnL d X t).set t (X.getD (X.length - 1 - t) d)).set (X.length - 1 - t) (X.getD t d) = turnL d X (t + 1) := by
  apply List.ext_getElem (by rw [List.length_set, List.length_set, turn_len, turn_len])
  intro j h1 h2
  rw [turn_len] at h2
  have e2 := turn_get d X (t + 1) h2
  rw [getD_el d (by rw [turn_len]; exact h2)] at e2
  rw [e2, List.getElem_set]
  by_cases c1 : X.length - 1 - t = j
  · rw [if_pos c1]
    have e : turnI X.length (t + 1) j = t := by unfold turnI; split <;> omega
    rw [e]
  · rw [if_neg c1, List.getElem_set]
    by_cases c2 : t = j
    · rw [if_pos c2]
      have e : turnI X.length (t + 1) j = X.length - 1 - t := by unfold turnI; split <;> omega
      rw [e]
    · rw [if_neg c2]
      have e1 := turn_get d X t h2
      rw [getD_el d (by rw [turn_len]; exact h2)] at e1
      rw [e1]
      have e : turnI X.length (t + 1) j = turnI X.length t j := by unfold turnI; split <;> split <;> omega
      rw [e]
theorem turn_low {α : Type} (d : α) (X : List α) {t : Nat} (h : 2 * t + 1 < X.length) : (turnL d X t).getD t d = X.getD t d ∧ (turnL d X t).getD (X.length - 1 - t) d = X.getD (X.length - 1 - t) d := by
  constructor
  · rw [turn_get d X t (by omega)]
    have e : turnI X.length t t = t := by unfold turnI; split <;> omega
    rw [e]
  · rw [turn_get d X t (by omega)]
    have e : turnI X.length t (X.length - 1 - t) = X.length - 1 - t := by unfold turnI; split <;> omega
    rw [e]
end Go.Proofs.YtbmiecogjmbciaaDoor
