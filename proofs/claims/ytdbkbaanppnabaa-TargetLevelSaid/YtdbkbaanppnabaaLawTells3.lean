/- The walk of the law TargetTells. -/
import Derived.Test.YtdbkbaanppnabaaT7
namespace Go.Proofs.Ytdbkbaanppnabaa
open Go.RowKit

theorem eqN_self (m : Nat) : eqN m m = true := by simp [eqN]
set_option maxRecDepth 100000 in
set_option maxHeartbeats 8000000 in
theorem law_tells_walk (bits t x k : Nat) (is : Bool) (l : Int) (f : Nat → Nat) (hbits : Hid (bits < 4294967296)) (ht : Hid (t < Big)) (hxB : Hid (x < Big)) (hkB : Hid (k < Big)) (hf : Hid (∀ i, f i < 256)) (hx : Hid (tv bits = x)) (his : Hid (isC bits = is)) (hk : Hid (wkV t = k)) (hl : Hid (lvI (numOf f) t = l)) (w : World) :
    Calls Try.prog 3 #[.int .u32 (bits : Int), .agg (wcs (t)), .agg (idF (fun i => (f i : Int)))] w fun e w' => e = .returned (.bool true) ∧ Below w.heap.size w w' := by
  have E1 : Hid (EnvX w ((w.alloc (.cells (wcs (t)) 25)).alloc (.cells (idF (fun i => (f i : Int))) 27)) [(w.heap.size + 1, (io (fun i => (f i : Int)))), (w.heap.size, (wo (t)))]) := by
    have h := (((EnvX.start w).new (wo (t))).new (io (fun i => (f i : Int))))
    simp only [World.size_alloc] at h
    exact h
  go_enter Try.func3, Try.ntmps3
  go_upto_region 1 with (fail)
  generalize ((w.alloc (.cells (wcs (t)) 25)).alloc (.cells (idF (fun i => (f i : Int))) 27)) = w1 at *
  refine wp_region_Gx (w0 := w) [0, 1] [] [(w.heap.size + 1, (io (fun i => (f i : Int)))), (w.heap.size, (wo (t)))] rfl E1.out ?_
  have hone := @EnvC.one _ _ _ (E1.out)
  (refine wpG_call (f := 9) (args := #[]) (v := .bool true) rfl rfl rfl Try.func9 rfl rfl (fun u _ => awake_any u) ?_ (E1.out); intro K hK; go_big_quiet_op; go_big_quiet_on)
  (refine wpG_op rfl rfl rfl ?_; intro K hK; go_big_quiet_op; go_big_quiet_on)
  clear hone
  refine wpG_nil ?_
  rintro u2 ⟨hl2, E2'⟩
  have EX1 := Lib.hid E2'
  clear hl2 E2' E1
  go_upto_region 2 with (fail)
  refine wp_region_Gx (w0 := w) [0, 1, 2, 3, 4] [5, 6, 7] [(w.heap.size + 1, (io (fun i => (f i : Int)))), (w.heap.size, (wo (t)))] rfl EX1.out ?_
  have hone := @EnvC.one _ _ _ (EX1.out)
  (refine wpG_op rfl rfl rfl ?_; intro K hK; go_big_quiet_op; go_big_quiet_on)
  (refine wpG_call (f := 10) (args := #[.int .u32 (bits : Int)]) (v := .tuple #[.agg (wcs (x)), .bool (is)]) rfl rfl rfl Try.func10 rfl rfl (fun u _ => (by rw [← hx.out, ← his.out]; exact target_any bits u hbits.out)) ?_ (EX1.out); intro K hK; go_big_quiet_op; go_big_quiet_on)
  (refine wpG_op rfl rfl rfl ?_; intro K hK; go_big_quiet_op; go_big_quiet_on)
  (refine wpG_op rfl rfl rfl ?_; intro K hK; go_big_quiet_op; go_big_quiet_on)
  (refine wpG_op rfl rfl rfl ?_; intro K hK; go_big_quiet_op; go_big_quiet_on)
  clear hone
  refine wpG_nil ?_
  (refine (gOp_new (wo (0)) rfl (new_wide _) ?_); intro g3 hbg3 hfg3; intro K' hK'; go_big_quiet_op; go_big_quiet_on)
  have ng3x0 : Hid (w.heap.size + 1 ≠ g3) := hfg3 (w.heap.size + 1, _) (List.Mem.head _)
  have ng3x1 : Hid (w.heap.size ≠ g3) := hfg3 (w.heap.size, _) (List.Mem.tail _ (List.Mem.head _))
  clear hfg3
  refine (gOp_store rfl (g3) (wcs (x)) rfl rfl hbg3 25 (wcs (0)) (List.Mem.head _) (wc_info _) ((wc_size _).trans (wc_size _).symm) (wc_one _) [(g3, (wo (x))), (w.heap.size + 1, (io (fun i => (f i : Int)))), (w.heap.size, (wo (t)))] (List.forall_mem_cons.2 ⟨.inl rfl, (List.forall_mem_cons.2 ⟨.inr ⟨(List.Mem.tail _ (List.Mem.head _)), ng3x0.out⟩, (List.forall_mem_cons.2 ⟨.inr ⟨(List.Mem.tail _ (List.Mem.tail _ (List.Mem.head _))), ng3x1.out⟩, (fun _ h => by cases h)⟩)⟩)⟩) ?_)
  (refine (gOp_pure rfl rfl ?_); intro K' hK'; go_big_quiet_op; go_big_quiet_on)
  rintro u5 ⟨hl2, E2'⟩
  have EX4 := Lib.hid E2'
  clear hl2 E2' EX1
  go_upto_region 3 with (fail)
  refine wp_region_Gx (w0 := w) [0, 1, 2, 3, 4] [5, 6, 7] [(g3, (wo (x))), (w.heap.size + 1, (io (fun i => (f i : Int)))), (w.heap.size, (wo (t)))] rfl EX4.out ?_
  have hone := @EnvC.one _ _ _ (EX4.out)
  (refine wpG_op rfl rfl rfl ?_; intro K hK; go_big_quiet_op; go_big_quiet_on)
  (refine wpG_call (f := 11) (args := #[.int .u32 (bits : Int)]) (v := .tuple #[.agg (wcs (x)), .bool (is)]) rfl rfl rfl Try.func11 rfl rfl (fun u _ => (by rw [← hx.out, ← his.out]; exact rtarget_any bits u hbits.out)) ?_ (EX4.out); intro K hK; go_big_quiet_op; go_big_quiet_on)
  (refine wpG_op rfl rfl rfl ?_; intro K hK; go_big_quiet_op; go_big_quiet_on)
  (refine wpG_op rfl rfl rfl ?_; intro K hK; go_big_quiet_op; go_big_quiet_on)
  (refine wpG_op rfl rfl rfl ?_; intro K hK; go_big_quiet_op; go_big_quiet_on)
  clear hone
  refine wpG_nil ?_
  (refine (gOp_new (wo (0)) rfl (new_wide _) ?_); intro g6 hbg6 hfg6; intro K' hK'; go_big_quiet_op; go_big_quiet_on)
  have ng6x0 : Hid (g3 ≠ g6) := hfg6 (g3, _) (List.Mem.head _)
  have ng6x1 : Hid (w.heap.size + 1 ≠ g6) := hfg6 (w.heap.size + 1, _) (List.Mem.tail _ (List.Mem.head _))
  have ng6x2 : Hid (w.heap.size ≠ g6) := hfg6 (w.heap.size, _) (List.Mem.tail _ (List.Mem.tail _ (List.Mem.head _)))
  clear hfg6
  refine (gOp_store rfl (g6) (wcs (x)) rfl rfl hbg6 25 (wcs (0)) (List.Mem.head _) (wc_info _) ((wc_size _).trans (wc_size _).symm) (wc_one _) [(g6, (wo (x))), (g3, (wo (x))), (w.heap.size + 1, (io (fun i => (f i : Int)))), (w.heap.size, (wo (t)))] (List.forall_mem_cons.2 ⟨.inl rfl, (List.forall_mem_cons.2 ⟨.inr ⟨(List.Mem.tail _ (List.Mem.head _)), ng6x0.out⟩, (List.forall_mem_cons.2 ⟨.inr ⟨(List.Mem.tail _ (List.Mem.tail _ (List.Mem.head _))), ng6x1.out⟩, (List.forall_mem_cons.2 ⟨.inr ⟨(List.Mem.tail _ (List.Mem.tail _ (List.Mem.tail _ (List.Mem.head _)))), ng6x2.out⟩, (fun _ h => by cases h)⟩)⟩)⟩)⟩) ?_)
  (refine (gOp_pure rfl rfl ?_); intro K' hK'; go_big_quiet_op; go_big_quiet_on)
  rintro u8 ⟨hl2, E2'⟩
  have EX7 := Lib.hid E2'
  clear hl2 E2' EX4
  go_upto_region 4 with (fail)
  refine wp_region_G (w0 := w) [0, 1, 2, 3, 4, 5, 6, 7, 8, 9, 10, 11, 12, 13, 14, 15, 16, 17, 18, 19, 20, 21, 22, 23, 24, 25, 26, 27, 28, 29, 30, 31, 32, 33, 34] [(g6, (wo (x))), (g3, (wo (x))), (w.heap.size + 1, (io (fun i => (f i : Int)))), (w.heap.size, (wo (t)))] 0 (by kernel_rfl) (by kernel_rfl) rfl EX7.out ?_
  have hone := @EnvC.one _ _ _ (EX7.out.drew)
  (refine wpG_op rfl rfl rfl ?_; intro K hK; go_big_quiet_op; go_big_quiet_on)
  (refine wpG_op rfl rfl rfl ?_; intro K hK; go_big_quiet_op; go_big_quiet_on)
  (refine wpG_load rfl rfl (g3) rfl 25 _ _ (fun u hu => EnvC.box hu _ (wo (x)) (List.Mem.tail _ (List.Mem.head _))) Try.underlying25 rfl (wc_info _) ?_ (EX7.out.drew); intro K hK; go_big_quiet_op; go_big_quiet_on)
  (refine wpG_load rfl rfl (g6) rfl 25 _ _ (fun u hu => EnvC.box hu _ (wo (x)) (List.Mem.head _)) Try.underlying25 rfl (wc_info _) ?_ (EX7.out.drew); intro K hK; go_big_quiet_op; go_big_quiet_on)
  (refine wpG_val (v := .bool (true)) rfl rfl (fun u _ => eql_op (hxB.out) (hxB.out) (eqN_self x) rfl rfl u) ?_ (EX7.out.drew); intro K hK; go_big_quiet_op; go_big_quiet_on)
  (refine wpG_op rfl rfl rfl ?_; intro K hK; go_big_quiet_op; go_big_quiet_on)
  (refine wpG_op rfl rfl rfl ?_; intro K hK; go_big_quiet_op; go_big_quiet_on)
  (refine wpG_op rfl rfl rfl ?_; intro K hK; go_big_quiet_op; go_big_quiet_on)
  (refine wpG_op rfl rfl rfl ?_; intro K hK; go_big_quiet_op; go_big_quiet_on)
  (refine wpG_op rfl rfl rfl ?_; intro K hK; go_big_quiet_op; go_big_quiet_on)
  (refine wpG_op rfl rfl rfl ?_; intro K hK; go_big_quiet_op; go_big_quiet_on)
  (refine wpG_op rfl rfl rfl ?_; intro K hK; go_big_quiet_op; go_big_quiet_on)
  (refine wpG_load rfl rfl (w.heap.size) rfl 25 _ _ (fun u hu => EnvC.box hu _ (wo (t)) (List.Mem.tail _ (List.Mem.tail _ (List.Mem.tail _ (List.Mem.head _))))) Try.underlying25 rfl (wc_info _) ?_ (EX7.out.drew); intro K hK; go_big_quiet_op; go_big_quiet_on)
  (refine wpG_call (f := 12) (args := #[.agg (wcs (t))]) (v := .int .u32 (cN t : Nat)) rfl rfl rfl Try.func12 rfl rfl (fun u _ => compact_any t u ht.out) ?_ (EX7.out.drew); intro K hK; go_big_quiet_op; go_big_quiet_on)
  (refine wpG_load rfl rfl (w.heap.size) rfl 25 _ _ (fun u hu => EnvC.box hu _ (wo (t)) (List.Mem.tail _ (List.Mem.tail _ (List.Mem.tail _ (List.Mem.head _))))) Try.underlying25 rfl (wc_info _) ?_ (EX7.out.drew); intro K hK; go_big_quiet_op; go_big_quiet_on)
  (refine wpG_call (f := 13) (args := #[.agg (wcs (t))]) (v := .int .u32 (cN t : Nat)) rfl rfl rfl Try.func13 rfl rfl (fun u _ => rcompact_any t u ht.out) ?_ (EX7.out.drew); intro K hK; go_big_quiet_op; go_big_quiet_on)
  (refine wpG_op rfl rfl rfl ?_; intro K hK; go_big_quiet_op; go_big_quiet_on)
  (refine wpG_op rfl rfl rfl ?_; intro K hK; go_big_quiet_op; go_big_quiet_on)
  (refine wpG_op rfl rfl rfl ?_; intro K hK; go_big_quiet_op; go_big_quiet_on)
  (refine wpG_load rfl rfl (w.heap.size) rfl 25 _ _ (fun u hu => EnvC.box hu _ (wo (t)) (List.Mem.tail _ (List.Mem.tail _ (List.Mem.tail _ (List.Mem.head _))))) Try.underlying25 rfl (wc_info _) ?_ (EX7.out.drew); intro K hK; go_big_quiet_op; go_big_quiet_on)
  (refine wpG_call (f := 14) (args := #[.agg (wcs (t))]) (v := .agg (wcs (k))) rfl rfl rfl Try.func14 rfl rfl (fun u _ => (by rw [← hk.out]; exact work_any t u ht.out)) ?_ (EX7.out.drew); intro K hK; go_big_quiet_op; go_big_quiet_on)
  (refine wpG_load rfl rfl (w.heap.size) rfl 25 _ _ (fun u hu => EnvC.box hu _ (wo (t)) (List.Mem.tail _ (List.Mem.tail _ (List.Mem.tail _ (List.Mem.head _))))) Try.underlying25 rfl (wc_info _) ?_ (EX7.out.drew); intro K hK; go_big_quiet_op; go_big_quiet_on)
  (refine wpG_call (f := 15) (args := #[.agg (wcs (t))]) (v := .agg (wcs (k))) rfl rfl rfl Try.func15 rfl rfl (fun u _ => (by rw [← hk.out]; exact rwork_any t u ht.out)) ?_ (EX7.out.drew); intro K hK; go_big_quiet_op; go_big_quiet_on)
  (refine wpG_val (v := .bool (true)) rfl rfl (fun u _ => eql_op (hkB.out) (hkB.out) (eqN_self k) rfl rfl u) ?_ (EX7.out.drew); intro K hK; go_big_quiet_op; go_big_quiet_on)
  (refine wpG_op rfl rfl rfl ?_; intro K hK; go_big_quiet_op; go_big_quiet_on)
  (refine wpG_op rfl rfl rfl ?_; intro K hK; go_big_quiet_op; go_big_quiet_on)
  (refine wpG_load rfl rfl (w.heap.size + 1) rfl 27 _ _ (fun u hu => EnvC.box hu _ (io (fun i => (f i : Int))) (List.Mem.tail _ (List.Mem.tail _ (List.Mem.head _)))) Try.underlying27 rfl (infoId _ (idF_size _)) ?_ (EX7.out.drew); intro K hK; go_big_quiet_op; go_big_quiet_on)
  (refine wpG_load rfl rfl (w.heap.size) rfl 25 _ _ (fun u hu => EnvC.box hu _ (wo (t)) (List.Mem.tail _ (List.Mem.tail _ (List.Mem.tail _ (List.Mem.head _))))) Try.underlying25 rfl (wc_info _) ?_ (EX7.out.drew); intro K hK; go_big_quiet_op; go_big_quiet_on)
  (refine wpG_call (f := 16) (args := #[.agg (idF (fun i => (f i : Int))), .agg (wcs (t))]) (v := .int .i64 l) rfl rfl rfl Try.func16 rfl rfl (fun u _ => (by rw [← hl.out]; exact level_any f hf.out t u ht.out)) ?_ (EX7.out.drew); intro K hK; go_big_quiet_op; go_big_quiet_on)
  (refine wpG_load rfl rfl (w.heap.size + 1) rfl 27 _ _ (fun u hu => EnvC.box hu _ (io (fun i => (f i : Int))) (List.Mem.tail _ (List.Mem.tail _ (List.Mem.head _)))) Try.underlying27 rfl (infoId _ (idF_size _)) ?_ (EX7.out.drew); intro K hK; go_big_quiet_op; go_big_quiet_on)
  (refine wpG_load rfl rfl (w.heap.size) rfl 25 _ _ (fun u hu => EnvC.box hu _ (wo (t)) (List.Mem.tail _ (List.Mem.tail _ (List.Mem.tail _ (List.Mem.head _))))) Try.underlying25 rfl (wc_info _) ?_ (EX7.out.drew); intro K hK; go_big_quiet_op; go_big_quiet_on)
  (refine wpG_call (f := 17) (args := #[.agg (idF (fun i => (f i : Int))), .agg (wcs (t))]) (v := .int .i64 l) rfl rfl rfl Try.func17 rfl rfl (fun u _ => (by rw [← hl.out]; exact rlevel_any f hf.out t u ht.out)) ?_ (EX7.out.drew); intro K hK; go_big_quiet_op; go_big_quiet_on)
  (refine wpG_op rfl rfl rfl ?_; intro K hK; go_big_quiet_op; go_big_quiet_on)
  (refine wpG_op rfl rfl rfl ?_; intro K hK; go_big_quiet_op; go_big_quiet_on)
  (refine wpG_op rfl rfl rfl ?_; intro K hK; go_big_quiet_op; go_big_quiet_on)
  clear hone
  refine wpG_nil ?_
  refine anyG_done (by kernel_rfl) ?_
  rintro u10 ⟨hl2, E2'⟩
  have EX9 := Lib.hid E2'
  clear hl2 E2' EX7
  go_wp2_with fail
  go_ret
  exact ⟨rfl, EX9.out.bel⟩

theorem law_tells (bits t : Nat) (f : Nat → Nat) (w : World) (hb : bits < 4294967296) (ht : t < Big) (hf : ∀ i, f i < 256) :
    Calls Try.prog 3 #[.int .u32 (bits : Int), .agg (wcs t), .agg (idF (fun i => (f i : Int)))] w fun e w' => e = .returned (.bool true) ∧ Below w.heap.size w w' :=
  law_tells_walk bits t _ _ _ _ f hb ht (tv_big bits) (wkV_lt t) hf rfl rfl rfl rfl w
end Go.Proofs.Ytdbkbaanppnabaa
