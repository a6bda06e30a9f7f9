/- The walk of the law TargetWork. -/
import Derived.Test.YtdbkbaanppnabaaLawTells3
namespace Go.Proofs.Ytdbkbaanppnabaa
open Go.RowKit

set_option maxRecDepth 100000 in
set_option maxHeartbeats 8000000 in
theorem lwork_no (t s : Nat) (ht : Hid (t < Big)) (hw : Hid (wkV t = 1)) (h1B : Hid (1 < Big)) (hz : Hid (0 = t + 1 - Big)) (hge : Hid (Big ≤ t + 1)) (w : World) :
    Calls Try.prog 5 #[.agg (wcs (t)), .agg (wcs (s))] w fun e w' => e = .returned (.bool true) ∧ Below w.heap.size w w' := by
  have E1 : Hid (EnvX w ((w.alloc (.cells (wcs (t)) 25)).alloc (.cells (wcs (s)) 25)) [(w.heap.size + 1, (wo (s))), (w.heap.size, (wo (t)))]) := by
    have h := (((EnvX.start w).new (wo (t))).new (wo (s)))
    try simp only [World.size_alloc] at h
    exact h
  go_enter Try.func5, Try.ntmps5
  go_upto_region 1 with (fail)
  generalize ((w.alloc (.cells (wcs (t)) 25)).alloc (.cells (wcs (s)) 25)) = w1 at *
  refine wp_region_Gx (w0 := w) [0, 1] [] [(w.heap.size + 1, (wo (s))), (w.heap.size, (wo (t)))] rfl E1.out ?_
  have hone := @EnvC.one _ _ _ (E1.out)
  (refine wpG_call (f := 9) (args := #[]) (v := .bool true) rfl rfl rfl Try.func9 rfl rfl (fun u _ => awake_any u) ?_ (E1.out); intro K hK; go_big_quiet_op; go_big_quiet_on)
  (refine wpG_op rfl rfl rfl ?_; intro K hK; go_big_quiet_op; go_big_quiet_on)
  clear hone
  refine wpG_nil ?_
  rintro u2 ⟨hl2, E2'⟩
  have EX1 := Lib.hid E2'
  clear hl2 E2' E1
  go_upto_region 2 with (fail)
  refine wp_region_Gx (w0 := w) [0, 1] [2, 3] [(w.heap.size + 1, (wo (s))), (w.heap.size, (wo (t)))] rfl EX1.out ?_
  have hone := @EnvC.one _ _ _ (EX1.out)
  (refine wpG_load rfl rfl (w.heap.size) rfl 25 _ _ (fun u hu => EnvC.box hu _ (wo (t)) (List.Mem.tail _ (List.Mem.head _))) Try.underlying25 rfl (wc_info _) ?_ (EX1.out); intro K hK; go_big_quiet_op; go_big_quiet_on)
  (refine wpG_call (f := 14) (args := #[.agg (wcs (t))]) (v := .agg (wcs (1))) rfl rfl rfl Try.func14 rfl rfl (fun u _ => (by have h := work_any t u ht.out; rw [hw.out] at h; exact h)) ?_ (EX1.out); intro K hK; go_big_quiet_op; go_big_quiet_on)
  clear hone
  refine wpG_nil ?_
  (refine (gOp_new (wo (0)) rfl (new_wide _) ?_); intro g3 hbg3 hfg3; intro K' hK'; go_big_quiet_op; go_big_quiet_on)
  have ng3x0 : Hid (w.heap.size + 1 ≠ g3) := hfg3 (w.heap.size + 1, _) (List.Mem.head _)
  have ng3x1 : Hid (w.heap.size ≠ g3) := hfg3 (w.heap.size, _) (List.Mem.tail _ (List.Mem.head _))
  clear hfg3
  refine (gOp_store rfl (g3) (wcs (1)) rfl rfl hbg3 25 (wcs (0)) (List.Mem.head _) (wc_info _) ((wc_size _).trans (wc_size _).symm) (wc_one _) [(g3, (wo (1))), (w.heap.size + 1, (wo (s))), (w.heap.size, (wo (t)))] (List.forall_mem_cons.2 ⟨.inl rfl, (List.forall_mem_cons.2 ⟨.inr ⟨(List.Mem.tail _ (List.Mem.head _)), ng3x0.out⟩, (List.forall_mem_cons.2 ⟨.inr ⟨(List.Mem.tail _ (List.Mem.tail _ (List.Mem.head _))), ng3x1.out⟩, (fun _ h => by cases h)⟩)⟩)⟩) ?_)
  rintro u5 ⟨hl2, E2'⟩
  have EX4 := Lib.hid E2'
  clear hl2 E2' EX1
  go_upto_region 3 with (fail)
  refine wp_region_G (w0 := w) [0, 1, 2, 3, 4, 5] [(g3, (wo (1))), (w.heap.size + 1, (wo (s))), (w.heap.size, (wo (t)))] 3 (by kernel_rfl) (by kernel_rfl) rfl EX4.out ?_
  have hone := @EnvC.one _ _ _ (EX4.out.drew)
  (refine wpG_load rfl rfl (w.heap.size) rfl 25 _ _ (fun u hu => EnvC.box hu _ (wo (t)) (List.Mem.tail _ (List.Mem.tail _ (List.Mem.head _)))) Try.underlying25 rfl (wc_info _) ?_ (EX4.out.drew); intro K hK; go_big_quiet_op; go_big_quiet_on)
  (refine wpG_call (f := 19) (args := #[.int .u64 (1 : Nat)]) (v := .agg (wcs (1))) rfl rfl rfl Try.func19 rfl rfl (fun u _ => of_n 1 u (by decide)) ?_ (EX4.out.drew); intro K hK; go_big_quiet_op; go_big_quiet_on)
  (refine wpG_call (f := 20) (args := #[.agg (wcs (t)), .agg (wcs (1))]) (v := .tuple #[.agg (wcs (0)), .bool false]) rfl rfl rfl Try.func20 rfl rfl (fun u _ => add_no t 1 0 u ht.out h1B.out hz.out hge.out) ?_ (EX4.out.drew); intro K hK; go_big_quiet_op; go_big_quiet_on)
  (refine wpG_op rfl rfl rfl ?_; intro K hK; go_big_quiet_op; go_big_quiet_on)
  (refine wpG_op rfl rfl rfl ?_; intro K hK; go_big_quiet_op; go_big_quiet_on)
  (refine wpG_op rfl rfl rfl ?_; intro K hK; go_big_quiet_op; go_big_quiet_on)
  clear hone
  refine wpG_nil ?_
  (refine anyG_one (i := 6) (by kernel_rfl) (gOp_new (wo (0)) rfl (new_wide _) ?_); intro g6 hbg6 hfg6; intro K' hK'; go_big_quiet_op; go_big_quiet_on)
  have ng6x0 : Hid (g3 ≠ g6) := hfg6 (g3, _) (List.Mem.head _)
  have ng6x1 : Hid (w.heap.size + 1 ≠ g6) := hfg6 (w.heap.size + 1, _) (List.Mem.tail _ (List.Mem.head _))
  have ng6x2 : Hid (w.heap.size ≠ g6) := hfg6 (w.heap.size, _) (List.Mem.tail _ (List.Mem.tail _ (List.Mem.head _)))
  clear hfg6
  refine anyG_one (i := 7) (by kernel_rfl) (gOp_store rfl (g6) (wcs (0)) rfl rfl hbg6 25 (wcs (0)) (List.Mem.head _) (wc_info _) ((wc_size _).trans (wc_size _).symm) (wc_one _) [(g6, (wo (0))), (g3, (wo (1))), (w.heap.size + 1, (wo (s))), (w.heap.size, (wo (t)))] (List.forall_mem_cons.2 ⟨.inl rfl, (List.forall_mem_cons.2 ⟨.inr ⟨(List.Mem.tail _ (List.Mem.head _)), ng6x0.out⟩, (List.forall_mem_cons.2 ⟨.inr ⟨(List.Mem.tail _ (List.Mem.tail _ (List.Mem.head _))), ng6x1.out⟩, (List.forall_mem_cons.2 ⟨.inr ⟨(List.Mem.tail _ (List.Mem.tail _ (List.Mem.tail _ (List.Mem.head _)))), ng6x2.out⟩, (fun _ h => by cases h)⟩)⟩)⟩)⟩) ?_)
  (refine anyG_one (i := 8) (by kernel_rfl) (gOp_pure rfl rfl ?_); intro K' hK'; go_big_quiet_op; go_big_quiet_on)
  refine anyG_done (by kernel_rfl) ?_
  rintro u8 ⟨hl2, E2'⟩
  have EX7 := Lib.hid E2'
  clear hl2 E2' EX4
  go_upto_region 5 with (fail)
  refine wp_region_G (w0 := w) [0, 1, 2, 3, 4, 5, 6] [(g6, (wo (0))), (g3, (wo (1))), (w.heap.size + 1, (wo (s))), (w.heap.size, (wo (t)))] 0 (by kernel_rfl) (by kernel_rfl) rfl EX7.out ?_
  have hone := @EnvC.one _ _ _ (EX7.out.drew)
  (refine wpG_op rfl rfl rfl ?_; intro K hK; go_big_quiet_op; go_big_quiet_on)
  (refine wpG_op rfl rfl rfl ?_; intro K hK; go_big_quiet_op; go_big_quiet_on)
  (refine wpG_load rfl rfl (g3) rfl 25 _ _ (fun u hu => EnvC.box hu _ (wo (1)) (List.Mem.tail _ (List.Mem.head _))) Try.underlying25 rfl (wc_info _) ?_ (EX7.out.drew); intro K hK; go_big_quiet_op; go_big_quiet_on)
  (refine wpG_call (f := 19) (args := #[.int .u64 (1 : Nat)]) (v := .agg (wcs (1))) rfl rfl rfl Try.func19 rfl rfl (fun u _ => of_n 1 u (by decide)) ?_ (EX7.out.drew); intro K hK; go_big_quiet_op; go_big_quiet_on)
  (refine wpG_val (v := .bool (true)) rfl rfl (fun u _ => eql_op (h1B.out) (h1B.out) (eqN_self 1) rfl rfl u) ?_ (EX7.out.drew); intro K hK; go_big_quiet_op; go_big_quiet_on)
  (refine wpG_op rfl rfl rfl ?_; intro K hK; go_big_quiet_op; go_big_quiet_on)
  (refine wpG_op rfl rfl rfl ?_; intro K hK; go_big_quiet_op; go_big_quiet_on)
  clear hone
  refine wpG_nil ?_
  refine anyG_done (by kernel_rfl) ?_
  rintro u10 ⟨hl2, E2'⟩
  have EX9 := Lib.hid E2'
  clear hl2 E2' EX7
  go_wp2_with fail
  go_ret
  exact ⟨rfl, EX9.out.bel⟩
set_option maxRecDepth 100000 in
set_option maxHeartbeats 8000000 in
theorem lwork_a_zero (t s k n q r m o : Nat) (mb : Bool) (ht : Hid (t < Big)) (hs : Hid (s < Big)) (hkB : Hid (k < Big)) (hmB : Hid (m < Big)) (hoB : Hid (o < Big)) (hnB : Hid (n < Big)) (hn0 : Hid (0 < n)) (hqB : Hid (q < Big)) (h1B : Hid (1 < Big)) (hk : Hid (wkV t = k)) (hn : Hid (n = t + 1)) (hq : Hid ((Big - 1) / n = q)) (hr : Hid ((Big - 1) % n = r)) (hm : Hid ((q + 1) % Big = m)) (hmb : Hid (decide (q + 1 < Big) = mb)) (ho : Hid (o = r + 1)) (e1 : Hid (eqN k m = true)) (e2 : Hid (eqN o n = true)) (e3 : Hid (eqN k q = false)) (e4 : Hid ((!eqN o n) = false)) (e5 : Hid (eqN t 0 = true)) (w : World) :
    Calls Try.prog 5 #[.agg (wcs (t)), .agg (wcs (s))] w fun e w' => e = .returned (.bool true) ∧ Below w.heap.size w w' := by
  have E1 : Hid (EnvX w ((w.alloc (.cells (wcs (t)) 25)).alloc (.cells (wcs (s)) 25)) [(w.heap.size + 1, (wo (s))), (w.heap.size, (wo (t)))]) := by
    have h := (((EnvX.start w).new (wo (t))).new (wo (s)))
    try simp only [World.size_alloc] at h
    exact h
  go_enter Try.func5, Try.ntmps5
  go_upto_region 1 with (fail)
  generalize ((w.alloc (.cells (wcs (t)) 25)).alloc (.cells (wcs (s)) 25)) = w1 at *
  refine wp_region_Gx (w0 := w) [0, 1] [] [(w.heap.size + 1, (wo (s))), (w.heap.size, (wo (t)))] rfl E1.out ?_
  have hone := @EnvC.one _ _ _ (E1.out)
  (refine wpG_call (f := 9) (args := #[]) (v := .bool true) rfl rfl rfl Try.func9 rfl rfl (fun u _ => awake_any u) ?_ (E1.out); intro K hK; go_big_quiet_op; go_big_quiet_on)
  (refine wpG_op rfl rfl rfl ?_; intro K hK; go_big_quiet_op; go_big_quiet_on)
  clear hone
  refine wpG_nil ?_
  rintro u2 ⟨hl2, E2'⟩
  have EX1 := Lib.hid E2'
  clear hl2 E2' E1
  go_upto_region 2 with (fail)
  refine wp_region_Gx (w0 := w) [0, 1] [2, 3] [(w.heap.size + 1, (wo (s))), (w.heap.size, (wo (t)))] rfl EX1.out ?_
  have hone := @EnvC.one _ _ _ (EX1.out)
  (refine wpG_load rfl rfl (w.heap.size) rfl 25 _ _ (fun u hu => EnvC.box hu _ (wo (t)) (List.Mem.tail _ (List.Mem.head _))) Try.underlying25 rfl (wc_info _) ?_ (EX1.out); intro K hK; go_big_quiet_op; go_big_quiet_on)
  (refine wpG_call (f := 14) (args := #[.agg (wcs (t))]) (v := .agg (wcs (k))) rfl rfl rfl Try.func14 rfl rfl (fun u _ => (by have h := work_any t u ht.out; rw [hk.out] at h; exact h)) ?_ (EX1.out); intro K hK; go_big_quiet_op; go_big_quiet_on)
  clear hone
  refine wpG_nil ?_
  (refine (gOp_new (wo (0)) rfl (new_wide _) ?_); intro g3 hbg3 hfg3; intro K' hK'; go_big_quiet_op; go_big_quiet_on)
  have ng3x0 : Hid (w.heap.size + 1 ≠ g3) := hfg3 (w.heap.size + 1, _) (List.Mem.head _)
  have ng3x1 : Hid (w.heap.size ≠ g3) := hfg3 (w.heap.size, _) (List.Mem.tail _ (List.Mem.head _))
  clear hfg3
  refine (gOp_store rfl (g3) (wcs (k)) rfl rfl hbg3 25 (wcs (0)) (List.Mem.head _) (wc_info _) ((wc_size _).trans (wc_size _).symm) (wc_one _) [(g3, (wo (k))), (w.heap.size + 1, (wo (s))), (w.heap.size, (wo (t)))] (List.forall_mem_cons.2 ⟨.inl rfl, (List.forall_mem_cons.2 ⟨.inr ⟨(List.Mem.tail _ (List.Mem.head _)), ng3x0.out⟩, (List.forall_mem_cons.2 ⟨.inr ⟨(List.Mem.tail _ (List.Mem.tail _ (List.Mem.head _))), ng3x1.out⟩, (fun _ h => by cases h)⟩)⟩)⟩) ?_)
  rintro u5 ⟨hl2, E2'⟩
  have EX4 := Lib.hid E2'
  clear hl2 E2' EX1
  go_upto_region 3 with (fail)
  refine wp_region_G (w0 := w) [0, 1, 2, 3, 4, 5] [(g3, (wo (k))), (w.heap.size + 1, (wo (s))), (w.heap.size, (wo (t)))] 3 (by kernel_rfl) (by kernel_rfl) rfl EX4.out ?_
  have hone := @EnvC.one _ _ _ (EX4.out.drew)
  (refine wpG_load rfl rfl (w.heap.size) rfl 25 _ _ (fun u hu => EnvC.box hu _ (wo (t)) (List.Mem.tail _ (List.Mem.tail _ (List.Mem.head _)))) Try.underlying25 rfl (wc_info _) ?_ (EX4.out.drew); intro K hK; go_big_quiet_op; go_big_quiet_on)
  (refine wpG_call (f := 19) (args := #[.int .u64 (1 : Nat)]) (v := .agg (wcs (1))) rfl rfl rfl Try.func19 rfl rfl (fun u _ => of_n 1 u (by decide)) ?_ (EX4.out.drew); intro K hK; go_big_quiet_op; go_big_quiet_on)
  (refine wpG_call (f := 20) (args := #[.agg (wcs (t)), .agg (wcs (1))]) (v := .tuple #[.agg (wcs (n)), .bool true]) rfl rfl rfl Try.func20 rfl rfl (fun u _ => add_yes t 1 n u hn.out hnB.out) ?_ (EX4.out.drew); intro K hK; go_big_quiet_op; go_big_quiet_on)
  (refine wpG_op rfl rfl rfl ?_; intro K hK; go_big_quiet_op; go_big_quiet_on)
  (refine wpG_op rfl rfl rfl ?_; intro K hK; go_big_quiet_op; go_big_quiet_on)
  (refine wpG_op rfl rfl rfl ?_; intro K hK; go_big_quiet_op; go_big_quiet_on)
  clear hone
  refine wpG_nil ?_
  (refine anyG_one (i := 6) (by kernel_rfl) (gOp_new (wo (0)) rfl (new_wide _) ?_); intro g6 hbg6 hfg6; intro K' hK'; go_big_quiet_op; go_big_quiet_on)
  have ng6x0 : Hid (g3 ≠ g6) := hfg6 (g3, _) (List.Mem.head _)
  have ng6x1 : Hid (w.heap.size + 1 ≠ g6) := hfg6 (w.heap.size + 1, _) (List.Mem.tail _ (List.Mem.head _))
  have ng6x2 : Hid (w.heap.size ≠ g6) := hfg6 (w.heap.size, _) (List.Mem.tail _ (List.Mem.tail _ (List.Mem.head _)))
  clear hfg6
  refine anyG_one (i := 7) (by kernel_rfl) (gOp_store rfl (g6) (wcs (n)) rfl rfl hbg6 25 (wcs (0)) (List.Mem.head _) (wc_info _) ((wc_size _).trans (wc_size _).symm) (wc_one _) [(g6, (wo (n))), (g3, (wo (k))), (w.heap.size + 1, (wo (s))), (w.heap.size, (wo (t)))] (List.forall_mem_cons.2 ⟨.inl rfl, (List.forall_mem_cons.2 ⟨.inr ⟨(List.Mem.tail _ (List.Mem.head _)), ng6x0.out⟩, (List.forall_mem_cons.2 ⟨.inr ⟨(List.Mem.tail _ (List.Mem.tail _ (List.Mem.head _))), ng6x1.out⟩, (List.forall_mem_cons.2 ⟨.inr ⟨(List.Mem.tail _ (List.Mem.tail _ (List.Mem.tail _ (List.Mem.head _)))), ng6x2.out⟩, (fun _ h => by cases h)⟩)⟩)⟩)⟩) ?_)
  (refine anyG_one (i := 8) (by kernel_rfl) (gOp_pure rfl rfl ?_); intro K' hK'; go_big_quiet_op; go_big_quiet_on)
  refine anyG_done (by kernel_rfl) ?_
  rintro u8 ⟨hl2, E2'⟩
  have EX7 := Lib.hid E2'
  clear hl2 E2' EX4
  go_upto_region 6 with (fail)
  refine wp_region_Gx (w0 := w) [0] [1, 2] [(g6, (wo (n))), (g3, (wo (k))), (w.heap.size + 1, (wo (s))), (w.heap.size, (wo (t)))] rfl EX7.out ?_
  have hone := @EnvC.one _ _ _ (EX7.out)
  (refine wpG_val (v := .agg (wcs (Big - 1))) rfl rfl (fun u _ => build_all u) ?_ (EX7.out); intro K hK; go_big_quiet_op; go_big_quiet_on)
  clear hone
  refine wpG_nil ?_
  (refine (gOp_new (wo (0)) rfl (new_wide _) ?_); intro g9 hbg9 hfg9; intro K' hK'; go_big_quiet_op; go_big_quiet_on)
  have ng9x0 : Hid (g6 ≠ g9) := hfg9 (g6, _) (List.Mem.head _)
  have ng9x1 : Hid (g3 ≠ g9) := hfg9 (g3, _) (List.Mem.tail _ (List.Mem.head _))
  have ng9x2 : Hid (w.heap.size + 1 ≠ g9) := hfg9 (w.heap.size + 1, _) (List.Mem.tail _ (List.Mem.tail _ (List.Mem.head _)))
  have ng9x3 : Hid (w.heap.size ≠ g9) := hfg9 (w.heap.size, _) (List.Mem.tail _ (List.Mem.tail _ (List.Mem.tail _ (List.Mem.head _))))
  clear hfg9
  refine (gOp_store rfl (g9) (wcs (Big - 1)) rfl rfl hbg9 25 (wcs (0)) (List.Mem.head _) (wc_info _) ((wc_size _).trans (wc_size _).symm) (wc_one _) [(g9, (wo (Big - 1))), (g6, (wo (n))), (g3, (wo (k))), (w.heap.size + 1, (wo (s))), (w.heap.size, (wo (t)))] (List.forall_mem_cons.2 ⟨.inl rfl, (List.forall_mem_cons.2 ⟨.inr ⟨(List.Mem.tail _ (List.Mem.head _)), ng9x0.out⟩, (List.forall_mem_cons.2 ⟨.inr ⟨(List.Mem.tail _ (List.Mem.tail _ (List.Mem.head _))), ng9x1.out⟩, (List.forall_mem_cons.2 ⟨.inr ⟨(List.Mem.tail _ (List.Mem.tail _ (List.Mem.tail _ (List.Mem.head _)))), ng9x2.out⟩, (List.forall_mem_cons.2 ⟨.inr ⟨(List.Mem.tail _ (List.Mem.tail _ (List.Mem.tail _ (List.Mem.tail _ (List.Mem.head _))))), ng9x3.out⟩, (fun _ h => by cases h)⟩)⟩)⟩)⟩)⟩) ?_)
  rintro u11 ⟨hl2, E2'⟩
  have EX10 := Lib.hid E2'
  clear hl2 E2' EX7
  go_upto_region 7 with (fail)
  refine wp_region_Gx (w0 := w) [0, 1, 2, 3, 4, 5, 6] [7, 8, 9, 10, 11] [(g9, (wo (Big - 1))), (g6, (wo (n))), (g3, (wo (k))), (w.heap.size + 1, (wo (s))), (w.heap.size, (wo (t)))] rfl EX10.out ?_
  have hone := @EnvC.one _ _ _ (EX10.out)
  (refine wpG_load rfl rfl (g9) rfl 25 _ _ (fun u hu => EnvC.box hu _ (wo (Big - 1)) (List.Mem.head _)) Try.underlying25 rfl (wc_info _) ?_ (EX10.out); intro K hK; go_big_quiet_op; go_big_quiet_on)
  (refine wpG_load rfl rfl (g6) rfl 25 _ _ (fun u hu => EnvC.box hu _ (wo (n)) (List.Mem.tail _ (List.Mem.head _))) Try.underlying25 rfl (wc_info _) ?_ (EX10.out); intro K hK; go_big_quiet_op; go_big_quiet_on)
  (refine wpG_call (f := 21) (args := #[.agg (wcs (Big - 1)), .agg (wcs (n))]) (v := .tuple #[.agg (wcs (q)), .agg (wcs (r)), .bool true]) rfl rfl rfl Try.func21 rfl rfl (fun u _ => (by have h := div_yes (Big - 1) n u (Nat.sub_lt Big_pos Nat.one_pos) hnB.out hn0.out; rw [hq.out, hr.out] at h; exact h)) ?_ (EX10.out); intro K hK; go_big_quiet_op; go_big_quiet_on)
  (refine wpG_op rfl rfl rfl ?_; intro K hK; go_big_quiet_op; go_big_quiet_on)
  (refine wpG_op rfl rfl rfl ?_; intro K hK; go_big_quiet_op; go_big_quiet_on)
  (refine wpG_op rfl rfl rfl ?_; intro K hK; go_big_quiet_op; go_big_quiet_on)
  (refine wpG_op rfl rfl rfl ?_; intro K hK; go_big_quiet_op; go_big_quiet_on)
  clear hone
  refine wpG_nil ?_
  (refine (gOp_new (wo (0)) rfl (new_wide _) ?_); intro g12 hbg12 hfg12; intro K' hK'; go_big_quiet_op; go_big_quiet_on)
  have ng12x0 : Hid (g9 ≠ g12) := hfg12 (g9, _) (List.Mem.head _)
  have ng12x1 : Hid (g6 ≠ g12) := hfg12 (g6, _) (List.Mem.tail _ (List.Mem.head _))
  have ng12x2 : Hid (g3 ≠ g12) := hfg12 (g3, _) (List.Mem.tail _ (List.Mem.tail _ (List.Mem.head _)))
  have ng12x3 : Hid (w.heap.size + 1 ≠ g12) := hfg12 (w.heap.size + 1, _) (List.Mem.tail _ (List.Mem.tail _ (List.Mem.tail _ (List.Mem.head _))))
  have ng12x4 : Hid (w.heap.size ≠ g12) := hfg12 (w.heap.size, _) (List.Mem.tail _ (List.Mem.tail _ (List.Mem.tail _ (List.Mem.tail _ (List.Mem.head _)))))
  clear hfg12
  (refine (gOp_new (wo (0)) rfl (new_wide _) ?_); intro g13 hbg13 hfg13; intro K' hK'; go_big_quiet_op; go_big_quiet_on)
  have ng13x5 : Hid (g12 ≠ g13) := hfg13 (g12, _) (List.Mem.head _)
  have ng13x6 : Hid (g9 ≠ g13) := hfg13 (g9, _) (List.Mem.tail _ (List.Mem.head _))
  have ng13x7 : Hid (g6 ≠ g13) := hfg13 (g6, _) (List.Mem.tail _ (List.Mem.tail _ (List.Mem.head _)))
  have ng13x8 : Hid (g3 ≠ g13) := hfg13 (g3, _) (List.Mem.tail _ (List.Mem.tail _ (List.Mem.tail _ (List.Mem.head _))))
  have ng13x9 : Hid (w.heap.size + 1 ≠ g13) := hfg13 (w.heap.size + 1, _) (List.Mem.tail _ (List.Mem.tail _ (List.Mem.tail _ (List.Mem.tail _ (List.Mem.head _)))))
  have ng13x10 : Hid (w.heap.size ≠ g13) := hfg13 (w.heap.size, _) (List.Mem.tail _ (List.Mem.tail _ (List.Mem.tail _ (List.Mem.tail _ (List.Mem.tail _ (List.Mem.head _))))))
  clear hfg13
  refine (gOp_store rfl (g12) (wcs (q)) rfl rfl hbg12 25 (wcs (0)) (List.Mem.tail _ (List.Mem.head _)) (wc_info _) ((wc_size _).trans (wc_size _).symm) (wc_one _) [(g12, (wo (q))), (g13, (wo (0))), (g9, (wo (Big - 1))), (g6, (wo (n))), (g3, (wo (k))), (w.heap.size + 1, (wo (s))), (w.heap.size, (wo (t)))] (List.forall_mem_cons.2 ⟨.inl rfl, (List.forall_mem_cons.2 ⟨.inr ⟨(List.Mem.head _), (Ne.symm ng13x5.out)⟩, (List.forall_mem_cons.2 ⟨.inr ⟨(List.Mem.tail _ (List.Mem.tail _ (List.Mem.head _))), ng12x0.out⟩, (List.forall_mem_cons.2 ⟨.inr ⟨(List.Mem.tail _ (List.Mem.tail _ (List.Mem.tail _ (List.Mem.head _)))), ng12x1.out⟩, (List.forall_mem_cons.2 ⟨.inr ⟨(List.Mem.tail _ (List.Mem.tail _ (List.Mem.tail _ (List.Mem.tail _ (List.Mem.head _))))), ng12x2.out⟩, (List.forall_mem_cons.2 ⟨.inr ⟨(List.Mem.tail _ (List.Mem.tail _ (List.Mem.tail _ (List.Mem.tail _ (List.Mem.tail _ (List.Mem.head _)))))), ng12x3.out⟩, (List.forall_mem_cons.2 ⟨.inr ⟨(List.Mem.tail _ (List.Mem.tail _ (List.Mem.tail _ (List.Mem.tail _ (List.Mem.tail _ (List.Mem.tail _ (List.Mem.head _))))))), ng12x4.out⟩, (fun _ h => by cases h)⟩)⟩)⟩)⟩)⟩)⟩)⟩) ?_)
  refine (gOp_store rfl (g13) (wcs (r)) rfl rfl hbg13 25 (wcs (0)) (List.Mem.tail _ (List.Mem.head _)) (wc_info _) ((wc_size _).trans (wc_size _).symm) (wc_one _) [(g13, (wo (r))), (g12, (wo (q))), (g9, (wo (Big - 1))), (g6, (wo (n))), (g3, (wo (k))), (w.heap.size + 1, (wo (s))), (w.heap.size, (wo (t)))] (List.forall_mem_cons.2 ⟨.inl rfl, (List.forall_mem_cons.2 ⟨.inr ⟨(List.Mem.head _), ng13x5.out⟩, (List.forall_mem_cons.2 ⟨.inr ⟨(List.Mem.tail _ (List.Mem.tail _ (List.Mem.head _))), ng13x6.out⟩, (List.forall_mem_cons.2 ⟨.inr ⟨(List.Mem.tail _ (List.Mem.tail _ (List.Mem.tail _ (List.Mem.head _)))), ng13x7.out⟩, (List.forall_mem_cons.2 ⟨.inr ⟨(List.Mem.tail _ (List.Mem.tail _ (List.Mem.tail _ (List.Mem.tail _ (List.Mem.head _))))), ng13x8.out⟩, (List.forall_mem_cons.2 ⟨.inr ⟨(List.Mem.tail _ (List.Mem.tail _ (List.Mem.tail _ (List.Mem.tail _ (List.Mem.tail _ (List.Mem.head _)))))), ng13x9.out⟩, (List.forall_mem_cons.2 ⟨.inr ⟨(List.Mem.tail _ (List.Mem.tail _ (List.Mem.tail _ (List.Mem.tail _ (List.Mem.tail _ (List.Mem.tail _ (List.Mem.head _))))))), ng13x10.out⟩, (fun _ h => by cases h)⟩)⟩)⟩)⟩)⟩)⟩)⟩) ?_)
  (refine (gOp_pure rfl rfl ?_); intro K' hK'; go_big_quiet_op; go_big_quiet_on)
  rintro u15 ⟨hl2, E2'⟩
  have EX14 := Lib.hid E2'
  clear hl2 E2' EX10
  go_upto_region 8 with (fail)
  refine wp_region_G (w0 := w) [0, 1, 2, 3, 4, 5] [(g13, (wo (r))), (g12, (wo (q))), (g9, (wo (Big - 1))), (g6, (wo (n))), (g3, (wo (k))), (w.heap.size + 1, (wo (s))), (w.heap.size, (wo (t)))] 3 (by kernel_rfl) (by kernel_rfl) rfl EX14.out ?_
  have hone := @EnvC.one _ _ _ (EX14.out.drew)
  (refine wpG_load rfl rfl (g12) rfl 25 _ _ (fun u hu => EnvC.box hu _ (wo (q)) (List.Mem.tail _ (List.Mem.head _))) Try.underlying25 rfl (wc_info _) ?_ (EX14.out.drew); intro K hK; go_big_quiet_op; go_big_quiet_on)
  (refine wpG_call (f := 19) (args := #[.int .u64 (1 : Nat)]) (v := .agg (wcs (1))) rfl rfl rfl Try.func19 rfl rfl (fun u _ => of_n 1 u (by decide)) ?_ (EX14.out.drew); intro K hK; go_big_quiet_op; go_big_quiet_on)
  (refine wpG_call (f := 20) (args := #[.agg (wcs (q)), .agg (wcs (1))]) (v := .tuple #[.agg (wcs (m)), .bool (mb)]) rfl rfl rfl Try.func20 rfl rfl (fun u _ => (by have h := add_any q 1 u hqB.out h1B.out; rw [hm.out, hmb.out] at h; exact h)) ?_ (EX14.out.drew); intro K hK; go_big_quiet_op; go_big_quiet_on)
  (refine wpG_op rfl rfl rfl ?_; intro K hK; go_big_quiet_op; go_big_quiet_on)
  (refine wpG_op rfl rfl rfl ?_; intro K hK; go_big_quiet_op; go_big_quiet_on)
  (refine wpG_op rfl rfl rfl ?_; intro K hK; go_big_quiet_op; go_big_quiet_on)
  clear hone
  refine wpG_nil ?_
  (refine anyG_one (i := 6) (by kernel_rfl) (gOp_new (wo (0)) rfl (new_wide _) ?_); intro g16 hbg16 hfg16; intro K' hK'; go_big_quiet_op; go_big_quiet_on)
  have ng16x0 : Hid (g13 ≠ g16) := hfg16 (g13, _) (List.Mem.head _)
  have ng16x1 : Hid (g12 ≠ g16) := hfg16 (g12, _) (List.Mem.tail _ (List.Mem.head _))
  have ng16x2 : Hid (g9 ≠ g16) := hfg16 (g9, _) (List.Mem.tail _ (List.Mem.tail _ (List.Mem.head _)))
  have ng16x3 : Hid (g6 ≠ g16) := hfg16 (g6, _) (List.Mem.tail _ (List.Mem.tail _ (List.Mem.tail _ (List.Mem.head _))))
  have ng16x4 : Hid (g3 ≠ g16) := hfg16 (g3, _) (List.Mem.tail _ (List.Mem.tail _ (List.Mem.tail _ (List.Mem.tail _ (List.Mem.head _)))))
  have ng16x5 : Hid (w.heap.size + 1 ≠ g16) := hfg16 (w.heap.size + 1, _) (List.Mem.tail _ (List.Mem.tail _ (List.Mem.tail _ (List.Mem.tail _ (List.Mem.tail _ (List.Mem.head _))))))
  have ng16x6 : Hid (w.heap.size ≠ g16) := hfg16 (w.heap.size, _) (List.Mem.tail _ (List.Mem.tail _ (List.Mem.tail _ (List.Mem.tail _ (List.Mem.tail _ (List.Mem.tail _ (List.Mem.head _)))))))
  clear hfg16
  refine anyG_one (i := 7) (by kernel_rfl) (gOp_store rfl (g16) (wcs (m)) rfl rfl hbg16 25 (wcs (0)) (List.Mem.head _) (wc_info _) ((wc_size _).trans (wc_size _).symm) (wc_one _) [(g16, (wo (m))), (g13, (wo (r))), (g12, (wo (q))), (g9, (wo (Big - 1))), (g6, (wo (n))), (g3, (wo (k))), (w.heap.size + 1, (wo (s))), (w.heap.size, (wo (t)))] (List.forall_mem_cons.2 ⟨.inl rfl, (List.forall_mem_cons.2 ⟨.inr ⟨(List.Mem.tail _ (List.Mem.head _)), ng16x0.out⟩, (List.forall_mem_cons.2 ⟨.inr ⟨(List.Mem.tail _ (List.Mem.tail _ (List.Mem.head _))), ng16x1.out⟩, (List.forall_mem_cons.2 ⟨.inr ⟨(List.Mem.tail _ (List.Mem.tail _ (List.Mem.tail _ (List.Mem.head _)))), ng16x2.out⟩, (List.forall_mem_cons.2 ⟨.inr ⟨(List.Mem.tail _ (List.Mem.tail _ (List.Mem.tail _ (List.Mem.tail _ (List.Mem.head _))))), ng16x3.out⟩, (List.forall_mem_cons.2 ⟨.inr ⟨(List.Mem.tail _ (List.Mem.tail _ (List.Mem.tail _ (List.Mem.tail _ (List.Mem.tail _ (List.Mem.head _)))))), ng16x4.out⟩, (List.forall_mem_cons.2 ⟨.inr ⟨(List.Mem.tail _ (List.Mem.tail _ (List.Mem.tail _ (List.Mem.tail _ (List.Mem.tail _ (List.Mem.tail _ (List.Mem.head _))))))), ng16x5.out⟩, (List.forall_mem_cons.2 ⟨.inr ⟨(List.Mem.tail _ (List.Mem.tail _ (List.Mem.tail _ (List.Mem.tail _ (List.Mem.tail _ (List.Mem.tail _ (List.Mem.tail _ (List.Mem.head _)))))))), ng16x6.out⟩, (fun _ h => by cases h)⟩)⟩)⟩)⟩)⟩)⟩)⟩)⟩) ?_)
  (refine anyG_one (i := 8) (by kernel_rfl) (gOp_pure rfl rfl ?_); intro K' hK'; go_big_quiet_op; go_big_quiet_on)
  refine anyG_done (by kernel_rfl) ?_
  rintro u18 ⟨hl2, E2'⟩
  have EX17 := Lib.hid E2'
  clear hl2 E2' EX14
  go_upto_region 9 with (fail)
  refine wp_region_G (w0 := w) [0, 1, 2, 3, 4, 5] [(g16, (wo (m))), (g13, (wo (r))), (g12, (wo (q))), (g9, (wo (Big - 1))), (g6, (wo (n))), (g3, (wo (k))), (w.heap.size + 1, (wo (s))), (w.heap.size, (wo (t)))] 3 (by kernel_rfl) (by kernel_rfl) rfl EX17.out ?_
  have hone := @EnvC.one _ _ _ (EX17.out.drew)
  (refine wpG_load rfl rfl (g13) rfl 25 _ _ (fun u hu => EnvC.box hu _ (wo (r)) (List.Mem.tail _ (List.Mem.head _))) Try.underlying25 rfl (wc_info _) ?_ (EX17.out.drew); intro K hK; go_big_quiet_op; go_big_quiet_on)
  (refine wpG_call (f := 19) (args := #[.int .u64 (1 : Nat)]) (v := .agg (wcs (1))) rfl rfl rfl Try.func19 rfl rfl (fun u _ => of_n 1 u (by decide)) ?_ (EX17.out.drew); intro K hK; go_big_quiet_op; go_big_quiet_on)
  (refine wpG_call (f := 20) (args := #[.agg (wcs (r)), .agg (wcs (1))]) (v := .tuple #[.agg (wcs (o)), .bool true]) rfl rfl rfl Try.func20 rfl rfl (fun u _ => add_yes r 1 o u ho.out hoB.out) ?_ (EX17.out.drew); intro K hK; go_big_quiet_op; go_big_quiet_on)
  (refine wpG_op rfl rfl rfl ?_; intro K hK; go_big_quiet_op; go_big_quiet_on)
  (refine wpG_op rfl rfl rfl ?_; intro K hK; go_big_quiet_op; go_big_quiet_on)
  (refine wpG_op rfl rfl rfl ?_; intro K hK; go_big_quiet_op; go_big_quiet_on)
  clear hone
  refine wpG_nil ?_
  (refine anyG_one (i := 6) (by kernel_rfl) (gOp_new (wo (0)) rfl (new_wide _) ?_); intro g19 hbg19 hfg19; intro K' hK'; go_big_quiet_op; go_big_quiet_on)
  have ng19x0 : Hid (g16 ≠ g19) := hfg19 (g16, _) (List.Mem.head _)
  have ng19x1 : Hid (g13 ≠ g19) := hfg19 (g13, _) (List.Mem.tail _ (List.Mem.head _))
  have ng19x2 : Hid (g12 ≠ g19) := hfg19 (g12, _) (List.Mem.tail _ (List.Mem.tail _ (List.Mem.head _)))
  have ng19x3 : Hid (g9 ≠ g19) := hfg19 (g9, _) (List.Mem.tail _ (List.Mem.tail _ (List.Mem.tail _ (List.Mem.head _))))
  have ng19x4 : Hid (g6 ≠ g19) := hfg19 (g6, _) (List.Mem.tail _ (List.Mem.tail _ (List.Mem.tail _ (List.Mem.tail _ (List.Mem.head _)))))
  have ng19x5 : Hid (g3 ≠ g19) := hfg19 (g3, _) (List.Mem.tail _ (List.Mem.tail _ (List.Mem.tail _ (List.Mem.tail _ (List.Mem.tail _ (List.Mem.head _))))))
  have ng19x6 : Hid (w.heap.size + 1 ≠ g19) := hfg19 (w.heap.size + 1, _) (List.Mem.tail _ (List.Mem.tail _ (List.Mem.tail _ (List.Mem.tail _ (List.Mem.tail _ (List.Mem.tail _ (List.Mem.head _)))))))
  have ng19x7 : Hid (w.heap.size ≠ g19) := hfg19 (w.heap.size, _) (List.Mem.tail _ (List.Mem.tail _ (List.Mem.tail _ (List.Mem.tail _ (List.Mem.tail _ (List.Mem.tail _ (List.Mem.tail _ (List.Mem.head _))))))))
  clear hfg19
  refine anyG_one (i := 7) (by kernel_rfl) (gOp_store rfl (g19) (wcs (o)) rfl rfl hbg19 25 (wcs (0)) (List.Mem.head _) (wc_info _) ((wc_size _).trans (wc_size _).symm) (wc_one _) [(g19, (wo (o))), (g16, (wo (m))), (g13, (wo (r))), (g12, (wo (q))), (g9, (wo (Big - 1))), (g6, (wo (n))), (g3, (wo (k))), (w.heap.size + 1, (wo (s))), (w.heap.size, (wo (t)))] (List.forall_mem_cons.2 ⟨.inl rfl, (List.forall_mem_cons.2 ⟨.inr ⟨(List.Mem.tail _ (List.Mem.head _)), ng19x0.out⟩, (List.forall_mem_cons.2 ⟨.inr ⟨(List.Mem.tail _ (List.Mem.tail _ (List.Mem.head _))), ng19x1.out⟩, (List.forall_mem_cons.2 ⟨.inr ⟨(List.Mem.tail _ (List.Mem.tail _ (List.Mem.tail _ (List.Mem.head _)))), ng19x2.out⟩, (List.forall_mem_cons.2 ⟨.inr ⟨(List.Mem.tail _ (List.Mem.tail _ (List.Mem.tail _ (List.Mem.tail _ (List.Mem.head _))))), ng19x3.out⟩, (List.forall_mem_cons.2 ⟨.inr ⟨(List.Mem.tail _ (List.Mem.tail _ (List.Mem.tail _ (List.Mem.tail _ (List.Mem.tail _ (List.Mem.head _)))))), ng19x4.out⟩, (List.forall_mem_cons.2 ⟨.inr ⟨(List.Mem.tail _ (List.Mem.tail _ (List.Mem.tail _ (List.Mem.tail _ (List.Mem.tail _ (List.Mem.tail _ (List.Mem.head _))))))), ng19x5.out⟩, (List.forall_mem_cons.2 ⟨.inr ⟨(List.Mem.tail _ (List.Mem.tail _ (List.Mem.tail _ (List.Mem.tail _ (List.Mem.tail _ (List.Mem.tail _ (List.Mem.tail _ (List.Mem.head _)))))))), ng19x6.out⟩, (List.forall_mem_cons.2 ⟨.inr ⟨(List.Mem.tail _ (List.Mem.tail _ (List.Mem.tail _ (List.Mem.tail _ (List.Mem.tail _ (List.Mem.tail _ (List.Mem.tail _ (List.Mem.tail _ (List.Mem.head _))))))))), ng19x7.out⟩, (fun _ h => by cases h)⟩)⟩)⟩)⟩)⟩)⟩)⟩)⟩)⟩) ?_)
  (refine anyG_one (i := 8) (by kernel_rfl) (gOp_pure rfl rfl ?_); intro K' hK'; go_big_quiet_op; go_big_quiet_on)
  refine anyG_done (by kernel_rfl) ?_
  rintro u21 ⟨hl2, E2'⟩
  have EX20 := Lib.hid E2'
  clear hl2 E2' EX17
  go_upto_region 10 with (fail)
  refine wp_region_G (w0 := w) [0, 1, 2, 3, 4, 5, 6, 7, 8, 9, 10, 11, 12, 13, 14, 15, 16, 17, 18, 19, 20, 21, 22, 23, 24, 25, 26, 27, 28, 29, 30, 31, 32, 33, 34] [(g19, (wo (o))), (g16, (wo (m))), (g13, (wo (r))), (g12, (wo (q))), (g9, (wo (Big - 1))), (g6, (wo (n))), (g3, (wo (k))), (w.heap.size + 1, (wo (s))), (w.heap.size, (wo (t)))] 0 (by kernel_rfl) (by kernel_rfl) rfl EX20.out ?_
  have hone := @EnvC.one _ _ _ (EX20.out.drew)
  (refine wpG_load rfl rfl (g3) rfl 25 _ _ (fun u hu => EnvC.box hu _ (wo (k)) (List.Mem.tail _ (List.Mem.tail _ (List.Mem.tail _ (List.Mem.tail _ (List.Mem.tail _ (List.Mem.tail _ (List.Mem.head _)))))))) Try.underlying25 rfl (wc_info _) ?_ (EX20.out.drew); intro K hK; go_big_quiet_op; go_big_quiet_on)
  (refine wpG_load rfl rfl (g16) rfl 25 _ _ (fun u hu => EnvC.box hu _ (wo (m)) (List.Mem.tail _ (List.Mem.head _))) Try.underlying25 rfl (wc_info _) ?_ (EX20.out.drew); intro K hK; go_big_quiet_op; go_big_quiet_on)
  (refine wpG_val (v := .bool (true)) rfl rfl (fun u _ => eql_op (hkB.out) (hmB.out) (e1.out) rfl rfl u) ?_ (EX20.out.drew); intro K hK; go_big_quiet_op; go_big_quiet_on)
  (refine wpG_load rfl rfl (g19) rfl 25 _ _ (fun u hu => EnvC.box hu _ (wo (o)) (List.Mem.head _)) Try.underlying25 rfl (wc_info _) ?_ (EX20.out.drew); intro K hK; go_big_quiet_op; go_big_quiet_on)
  (refine wpG_load rfl rfl (g6) rfl 25 _ _ (fun u hu => EnvC.box hu _ (wo (n)) (List.Mem.tail _ (List.Mem.tail _ (List.Mem.tail _ (List.Mem.tail _ (List.Mem.tail _ (List.Mem.head _))))))) Try.underlying25 rfl (wc_info _) ?_ (EX20.out.drew); intro K hK; go_big_quiet_op; go_big_quiet_on)
  (refine wpG_val (v := .bool (true)) rfl rfl (fun u _ => eql_op (hoB.out) (hnB.out) (e2.out) rfl rfl u) ?_ (EX20.out.drew); intro K hK; go_big_quiet_op; go_big_quiet_on)
  (refine wpG_op rfl rfl rfl ?_; intro K hK; go_big_quiet_op; go_big_quiet_on)
  (refine wpG_op rfl rfl rfl ?_; intro K hK; go_big_quiet_op; go_big_quiet_on)
  (refine wpG_load rfl rfl (g3) rfl 25 _ _ (fun u hu => EnvC.box hu _ (wo (k)) (List.Mem.tail _ (List.Mem.tail _ (List.Mem.tail _ (List.Mem.tail _ (List.Mem.tail _ (List.Mem.tail _ (List.Mem.head _)))))))) Try.underlying25 rfl (wc_info _) ?_ (EX20.out.drew); intro K hK; go_big_quiet_op; go_big_quiet_on)
  (refine wpG_load rfl rfl (g12) rfl 25 _ _ (fun u hu => EnvC.box hu _ (wo (q)) (List.Mem.tail _ (List.Mem.tail _ (List.Mem.tail _ (List.Mem.head _))))) Try.underlying25 rfl (wc_info _) ?_ (EX20.out.drew); intro K hK; go_big_quiet_op; go_big_quiet_on)
  (refine wpG_val (v := .bool (false)) rfl rfl (fun u _ => eql_op (hkB.out) (hqB.out) (e3.out) rfl rfl u) ?_ (EX20.out.drew); intro K hK; go_big_quiet_op; go_big_quiet_on)
  (refine wpG_load rfl rfl (g19) rfl 25 _ _ (fun u hu => EnvC.box hu _ (wo (o)) (List.Mem.head _)) Try.underlying25 rfl (wc_info _) ?_ (EX20.out.drew); intro K hK; go_big_quiet_op; go_big_quiet_on)
  (refine wpG_load rfl rfl (g6) rfl 25 _ _ (fun u hu => EnvC.box hu _ (wo (n)) (List.Mem.tail _ (List.Mem.tail _ (List.Mem.tail _ (List.Mem.tail _ (List.Mem.tail _ (List.Mem.head _))))))) Try.underlying25 rfl (wc_info _) ?_ (EX20.out.drew); intro K hK; go_big_quiet_op; go_big_quiet_on)
  (refine wpG_val (v := .bool (false)) rfl rfl (fun u _ => neq_op (hoB.out) (hnB.out) (e4.out) rfl rfl u) ?_ (EX20.out.drew); intro K hK; go_big_quiet_op; go_big_quiet_on)
  (refine wpG_op rfl rfl rfl ?_; intro K hK; go_big_quiet_op; go_big_quiet_on)
  (refine wpG_op rfl rfl rfl ?_; intro K hK; go_big_quiet_op; go_big_quiet_on)
  (refine wpG_op rfl rfl rfl ?_; intro K hK; go_big_quiet_op; go_big_quiet_on)
  (refine wpG_load rfl rfl (w.heap.size) rfl 25 _ _ (fun u hu => EnvC.box hu _ (wo (t)) (List.Mem.tail _ (List.Mem.tail _ (List.Mem.tail _ (List.Mem.tail _ (List.Mem.tail _ (List.Mem.tail _ (List.Mem.tail _ (List.Mem.tail _ (List.Mem.head _)))))))))) Try.underlying25 rfl (wc_info _) ?_ (EX20.out.drew); intro K hK; go_big_quiet_op; go_big_quiet_on)
  (refine wpG_op rfl rfl rfl ?_; intro K hK; go_big_quiet_op; go_big_quiet_on)
  (refine wpG_val (v := .bool (true)) rfl rfl (fun u _ => eql_op (ht.out) (Big_pos) (e5.out) rfl rfl u) ?_ (EX20.out.drew); intro K hK; go_big_quiet_op; go_big_quiet_on)
  (refine wpG_op rfl rfl rfl ?_; intro K hK; go_big_quiet_op; go_big_quiet_on)
  (refine wpG_skip rfl rfl ?_ EX20.out.drew; intro K hK; go_big_quiet_op; go_big_quiet_on)
  (refine wpG_skip rfl rfl ?_ EX20.out.drew; intro K hK; go_big_quiet_op; go_big_quiet_on)
  (refine wpG_skip rfl rfl ?_ EX20.out.drew; intro K hK; go_big_quiet_op; go_big_quiet_on)
  (refine wpG_skip rfl rfl ?_ EX20.out.drew; intro K hK; go_big_quiet_op; go_big_quiet_on)
  (refine wpG_op rfl rfl rfl ?_; intro K hK; go_big_quiet_op; go_big_quiet_on)
  (refine wpG_op rfl rfl rfl ?_; intro K hK; go_big_quiet_op; go_big_quiet_on)
  (refine wpG_skip rfl rfl ?_ EX20.out.drew; intro K hK; go_big_quiet_op; go_big_quiet_on)
  (refine wpG_skip rfl rfl ?_ EX20.out.drew; intro K hK; go_big_quiet_op; go_big_quiet_on)
  (refine wpG_skip rfl rfl ?_ EX20.out.drew; intro K hK; go_big_quiet_op; go_big_quiet_on)
  (refine wpG_skip rfl rfl ?_ EX20.out.drew; intro K hK; go_big_quiet_op; go_big_quiet_on)
  (refine wpG_skip rfl rfl ?_ EX20.out.drew; intro K hK; go_big_quiet_op; go_big_quiet_on)
  (refine wpG_op rfl rfl rfl ?_; intro K hK; go_big_quiet_op; go_big_quiet_on)
  (refine wpG_op rfl rfl rfl ?_; intro K hK; go_big_quiet_op; go_big_quiet_on)
  (refine wpG_op rfl rfl rfl ?_; intro K hK; go_big_quiet_op; go_big_quiet_on)
  clear hone
  refine wpG_nil ?_
  refine anyG_done (by kernel_rfl) ?_
  rintro u23 ⟨hl2, E2'⟩
  have EX22 := Lib.hid E2'
  clear hl2 E2' EX20
  go_wp2_with fail
  go_ret
  exact ⟨rfl, EX22.out.bel⟩
set_option maxRecDepth 100000 in
set_option maxHeartbeats 8000000 in
theorem lwork_a_gt (t s k n q r m o : Nat) (mb : Bool) (ht : Hid (t < Big)) (hs : Hid (s < Big)) (hkB : Hid (k < Big)) (hmB : Hid (m < Big)) (hoB : Hid (o < Big)) (hnB : Hid (n < Big)) (hn0 : Hid (0 < n)) (hqB : Hid (q < Big)) (h1B : Hid (1 < Big)) (hk : Hid (wkV t = k)) (hn : Hid (n = t + 1)) (hq : Hid ((Big - 1) / n = q)) (hr : Hid ((Big - 1) % n = r)) (hm : Hid ((q + 1) % Big = m)) (hmb : Hid (decide (q + 1 < Big) = mb)) (ho : Hid (o = r + 1)) (e1 : Hid (eqN k m = true)) (e2 : Hid (eqN o n = true)) (e3 : Hid (eqN k q = false)) (e4 : Hid ((!eqN o n) = false)) (e5 : Hid (eqN t 0 = false)) (c : Int) (hc : Hid (cmpI t s = c)) (n1 : 0 < c) (w : World) :
    Calls Try.prog 5 #[.agg (wcs (t)), .agg (wcs (s))] w fun e w' => e = .returned (.bool true) ∧ Below w.heap.size w w' := by
  have E1 : Hid (EnvX w ((w.alloc (.cells (wcs (t)) 25)).alloc (.cells (wcs (s)) 25)) [(w.heap.size + 1, (wo (s))), (w.heap.size, (wo (t)))]) := by
    have h := (((EnvX.start w).new (wo (t))).new (wo (s)))
    try simp only [World.size_alloc] at h
    exact h
  go_enter Try.func5, Try.ntmps5
  go_upto_region 1 with (fail)
  generalize ((w.alloc (.cells (wcs (t)) 25)).alloc (.cells (wcs (s)) 25)) = w1 at *
  refine wp_region_Gx (w0 := w) [0, 1] [] [(w.heap.size + 1, (wo (s))), (w.heap.size, (wo (t)))] rfl E1.out ?_
  have hone := @EnvC.one _ _ _ (E1.out)
  (refine wpG_call (f := 9) (args := #[]) (v := .bool true) rfl rfl rfl Try.func9 rfl rfl (fun u _ => awake_any u) ?_ (E1.out); intro K hK; go_big_quiet_op; go_big_quiet_on)
  (refine wpG_op rfl rfl rfl ?_; intro K hK; go_big_quiet_op; go_big_quiet_on)
  clear hone
  refine wpG_nil ?_
  rintro u2 ⟨hl2, E2'⟩
  have EX1 := Lib.hid E2'
  clear hl2 E2' E1
  go_upto_region 2 with (fail)
  refine wp_region_Gx (w0 := w) [0, 1] [2, 3] [(w.heap.size + 1, (wo (s))), (w.heap.size, (wo (t)))] rfl EX1.out ?_
  have hone := @EnvC.one _ _ _ (EX1.out)
  (refine wpG_load rfl rfl (w.heap.size) rfl 25 _ _ (fun u hu => EnvC.box hu _ (wo (t)) (List.Mem.tail _ (List.Mem.head _))) Try.underlying25 rfl (wc_info _) ?_ (EX1.out); intro K hK; go_big_quiet_op; go_big_quiet_on)
  (refine wpG_call (f := 14) (args := #[.agg (wcs (t))]) (v := .agg (wcs (k))) rfl rfl rfl Try.func14 rfl rfl (fun u _ => (by have h := work_any t u ht.out; rw [hk.out] at h; exact h)) ?_ (EX1.out); intro K hK; go_big_quiet_op; go_big_quiet_on)
  clear hone
  refine wpG_nil ?_
  (refine (gOp_new (wo (0)) rfl (new_wide _) ?_); intro g3 hbg3 hfg3; intro K' hK'; go_big_quiet_op; go_big_quiet_on)
  have ng3x0 : Hid (w.heap.size + 1 ≠ g3) := hfg3 (w.heap.size + 1, _) (List.Mem.head _)
  have ng3x1 : Hid (w.heap.size ≠ g3) := hfg3 (w.heap.size, _) (List.Mem.tail _ (List.Mem.head _))
  clear hfg3
  refine (gOp_store rfl (g3) (wcs (k)) rfl rfl hbg3 25 (wcs (0)) (List.Mem.head _) (wc_info _) ((wc_size _).trans (wc_size _).symm) (wc_one _) [(g3, (wo (k))), (w.heap.size + 1, (wo (s))), (w.heap.size, (wo (t)))] (List.forall_mem_cons.2 ⟨.inl rfl, (List.forall_mem_cons.2 ⟨.inr ⟨(List.Mem.tail _ (List.Mem.head _)), ng3x0.out⟩, (List.forall_mem_cons.2 ⟨.inr ⟨(List.Mem.tail _ (List.Mem.tail _ (List.Mem.head _))), ng3x1.out⟩, (fun _ h => by cases h)⟩)⟩)⟩) ?_)
  rintro u5 ⟨hl2, E2'⟩
  have EX4 := Lib.hid E2'
  clear hl2 E2' EX1
  go_upto_region 3 with (fail)
  refine wp_region_G (w0 := w) [0, 1, 2, 3, 4, 5] [(g3, (wo (k))), (w.heap.size + 1, (wo (s))), (w.heap.size, (wo (t)))] 3 (by kernel_rfl) (by kernel_rfl) rfl EX4.out ?_
  have hone := @EnvC.one _ _ _ (EX4.out.drew)
  (refine wpG_load rfl rfl (w.heap.size) rfl 25 _ _ (fun u hu => EnvC.box hu _ (wo (t)) (List.Mem.tail _ (List.Mem.tail _ (List.Mem.head _)))) Try.underlying25 rfl (wc_info _) ?_ (EX4.out.drew); intro K hK; go_big_quiet_op; go_big_quiet_on)
  (refine wpG_call (f := 19) (args := #[.int .u64 (1 : Nat)]) (v := .agg (wcs (1))) rfl rfl rfl Try.func19 rfl rfl (fun u _ => of_n 1 u (by decide)) ?_ (EX4.out.drew); intro K hK; go_big_quiet_op; go_big_quiet_on)
  (refine wpG_call (f := 20) (args := #[.agg (wcs (t)), .agg (wcs (1))]) (v := .tuple #[.agg (wcs (n)), .bool true]) rfl rfl rfl Try.func20 rfl rfl (fun u _ => add_yes t 1 n u hn.out hnB.out) ?_ (EX4.out.drew); intro K hK; go_big_quiet_op; go_big_quiet_on)
  (refine wpG_op rfl rfl rfl ?_; intro K hK; go_big_quiet_op; go_big_quiet_on)
  (refine wpG_op rfl rfl rfl ?_; intro K hK; go_big_quiet_op; go_big_quiet_on)
  (refine wpG_op rfl rfl rfl ?_; intro K hK; go_big_quiet_op; go_big_quiet_on)
  clear hone
  refine wpG_nil ?_
  (refine anyG_one (i := 6) (by kernel_rfl) (gOp_new (wo (0)) rfl (new_wide _) ?_); intro g6 hbg6 hfg6; intro K' hK'; go_big_quiet_op; go_big_quiet_on)
  have ng6x0 : Hid (g3 ≠ g6) := hfg6 (g3, _) (List.Mem.head _)
  have ng6x1 : Hid (w.heap.size + 1 ≠ g6) := hfg6 (w.heap.size + 1, _) (List.Mem.tail _ (List.Mem.head _))
  have ng6x2 : Hid (w.heap.size ≠ g6) := hfg6 (w.heap.size, _) (List.Mem.tail _ (List.Mem.tail _ (List.Mem.head _)))
  clear hfg6
  refine anyG_one (i := 7) (by kernel_rfl) (gOp_store rfl (g6) (wcs (n)) rfl rfl hbg6 25 (wcs (0)) (List.Mem.head _) (wc_info _) ((wc_size _).trans (wc_size _).symm) (wc_one _) [(g6, (wo (n))), (g3, (wo (k))), (w.heap.size + 1, (wo (s))), (w.heap.size, (wo (t)))] (List.forall_mem_cons.2 ⟨.inl rfl, (List.forall_mem_cons.2 ⟨.inr ⟨(List.Mem.tail _ (List.Mem.head _)), ng6x0.out⟩, (List.forall_mem_cons.2 ⟨.inr ⟨(List.Mem.tail _ (List.Mem.tail _ (List.Mem.head _))), ng6x1.out⟩, (List.forall_mem_cons.2 ⟨.inr ⟨(List.Mem.tail _ (List.Mem.tail _ (List.Mem.tail _ (List.Mem.head _)))), ng6x2.out⟩, (fun _ h => by cases h)⟩)⟩)⟩)⟩) ?_)
  (refine anyG_one (i := 8) (by kernel_rfl) (gOp_pure rfl rfl ?_); intro K' hK'; go_big_quiet_op; go_big_quiet_on)
  refine anyG_done (by kernel_rfl) ?_
  rintro u8 ⟨hl2, E2'⟩
  have EX7 := Lib.hid E2'
  clear hl2 E2' EX4
  go_upto_region 6 with (fail)
  refine wp_region_Gx (w0 := w) [0] [1, 2] [(g6, (wo (n))), (g3, (wo (k))), (w.heap.size + 1, (wo (s))), (w.heap.size, (wo (t)))] rfl EX7.out ?_
  have hone := @EnvC.one _ _ _ (EX7.out)
  (refine wpG_val (v := .agg (wcs (Big - 1))) rfl rfl (fun u _ => build_all u) ?_ (EX7.out); intro K hK; go_big_quiet_op; go_big_quiet_on)
  clear hone
  refine wpG_nil ?_
  (refine (gOp_new (wo (0)) rfl (new_wide _) ?_); intro g9 hbg9 hfg9; intro K' hK'; go_big_quiet_op; go_big_quiet_on)
  have ng9x0 : Hid (g6 ≠ g9) := hfg9 (g6, _) (List.Mem.head _)
  have ng9x1 : Hid (g3 ≠ g9) := hfg9 (g3, _) (List.Mem.tail _ (List.Mem.head _))
  have ng9x2 : Hid (w.heap.size + 1 ≠ g9) := hfg9 (w.heap.size + 1, _) (List.Mem.tail _ (List.Mem.tail _ (List.Mem.head _)))
  have ng9x3 : Hid (w.heap.size ≠ g9) := hfg9 (w.heap.size, _) (List.Mem.tail _ (List.Mem.tail _ (List.Mem.tail _ (List.Mem.head _))))
  clear hfg9
  refine (gOp_store rfl (g9) (wcs (Big - 1)) rfl rfl hbg9 25 (wcs (0)) (List.Mem.head _) (wc_info _) ((wc_size _).trans (wc_size _).symm) (wc_one _) [(g9, (wo (Big - 1))), (g6, (wo (n))), (g3, (wo (k))), (w.heap.size + 1, (wo (s))), (w.heap.size, (wo (t)))] (List.forall_mem_cons.2 ⟨.inl rfl, (List.forall_mem_cons.2 ⟨.inr ⟨(List.Mem.tail _ (List.Mem.head _)), ng9x0.out⟩, (List.forall_mem_cons.2 ⟨.inr ⟨(List.Mem.tail _ (List.Mem.tail _ (List.Mem.head _))), ng9x1.out⟩, (List.forall_mem_cons.2 ⟨.inr ⟨(List.Mem.tail _ (List.Mem.tail _ (List.Mem.tail _ (List.Mem.head _)))), ng9x2.out⟩, (List.forall_mem_cons.2 ⟨.inr ⟨(List.Mem.tail _ (List.Mem.tail _ (List.Mem.tail _ (List.Mem.tail _ (List.Mem.head _))))), ng9x3.out⟩, (fun _ h => by cases h)⟩)⟩)⟩)⟩)⟩) ?_)
  rintro u11 ⟨hl2, E2'⟩
  have EX10 := Lib.hid E2'
  clear hl2 E2' EX7
  go_upto_region 7 with (fail)
  refine wp_region_Gx (w0 := w) [0, 1, 2, 3, 4, 5, 6] [7, 8, 9, 10, 11] [(g9, (wo (Big - 1))), (g6, (wo (n))), (g3, (wo (k))), (w.heap.size + 1, (wo (s))), (w.heap.size, (wo (t)))] rfl EX10.out ?_
  have hone := @EnvC.one _ _ _ (EX10.out)
  (refine wpG_load rfl rfl (g9) rfl 25 _ _ (fun u hu => EnvC.box hu _ (wo (Big - 1)) (List.Mem.head _)) Try.underlying25 rfl (wc_info _) ?_ (EX10.out); intro K hK; go_big_quiet_op; go_big_quiet_on)
  (refine wpG_load rfl rfl (g6) rfl 25 _ _ (fun u hu => EnvC.box hu _ (wo (n)) (List.Mem.tail _ (List.Mem.head _))) Try.underlying25 rfl (wc_info _) ?_ (EX10.out); intro K hK; go_big_quiet_op; go_big_quiet_on)
  (refine wpG_call (f := 21) (args := #[.agg (wcs (Big - 1)), .agg (wcs (n))]) (v := .tuple #[.agg (wcs (q)), .agg (wcs (r)), .bool true]) rfl rfl rfl Try.func21 rfl rfl (fun u _ => (by have h := div_yes (Big - 1) n u (Nat.sub_lt Big_pos Nat.one_pos) hnB.out hn0.out; rw [hq.out, hr.out] at h; exact h)) ?_ (EX10.out); intro K hK; go_big_quiet_op; go_big_quiet_on)
  (refine wpG_op rfl rfl rfl ?_; intro K hK; go_big_quiet_op; go_big_quiet_on)
  (refine wpG_op rfl rfl rfl ?_; intro K hK; go_big_quiet_op; go_big_quiet_on)
  (refine wpG_op rfl rfl rfl ?_; intro K hK; go_big_quiet_op; go_big_quiet_on)
  (refine wpG_op rfl rfl rfl ?_; intro K hK; go_big_quiet_op; go_big_quiet_on)
  clear hone
  refine wpG_nil ?_
  (refine (gOp_new (wo (0)) rfl (new_wide _) ?_); intro g12 hbg12 hfg12; intro K' hK'; go_big_quiet_op; go_big_quiet_on)
  have ng12x0 : Hid (g9 ≠ g12) := hfg12 (g9, _) (List.Mem.head _)
  have ng12x1 : Hid (g6 ≠ g12) := hfg12 (g6, _) (List.Mem.tail _ (List.Mem.head _))
  have ng12x2 : Hid (g3 ≠ g12) := hfg12 (g3, _) (List.Mem.tail _ (List.Mem.tail _ (List.Mem.head _)))
  have ng12x3 : Hid (w.heap.size + 1 ≠ g12) := hfg12 (w.heap.size + 1, _) (List.Mem.tail _ (List.Mem.tail _ (List.Mem.tail _ (List.Mem.head _))))
  have ng12x4 : Hid (w.heap.size ≠ g12) := hfg12 (w.heap.size, _) (List.Mem.tail _ (List.Mem.tail _ (List.Mem.tail _ (List.Mem.tail _ (List.Mem.head _)))))
  clear hfg12
  (refine (gOp_new (wo (0)) rfl (new_wide _) ?_); intro g13 hbg13 hfg13; intro K' hK'; go_big_quiet_op; go_big_quiet_on)
  have ng13x5 : Hid (g12 ≠ g13) := hfg13 (g12, _) (List.Mem.head _)
  have ng13x6 : Hid (g9 ≠ g13) := hfg13 (g9, _) (List.Mem.tail _ (List.Mem.head _))
  have ng13x7 : Hid (g6 ≠ g13) := hfg13 (g6, _) (List.Mem.tail _ (List.Mem.tail _ (List.Mem.head _)))
  have ng13x8 : Hid (g3 ≠ g13) := hfg13 (g3, _) (List.Mem.tail _ (List.Mem.tail _ (List.Mem.tail _ (List.Mem.head _))))
  have ng13x9 : Hid (w.heap.size + 1 ≠ g13) := hfg13 (w.heap.size + 1, _) (List.Mem.tail _ (List.Mem.tail _ (List.Mem.tail _ (List.Mem.tail _ (List.Mem.head _)))))
  have ng13x10 : Hid (w.heap.size ≠ g13) := hfg13 (w.heap.size, _) (List.Mem.tail _ (List.Mem.tail _ (List.Mem.tail _ (List.Mem.tail _ (List.Mem.tail _ (List.Mem.head _))))))
  clear hfg13
  refine (gOp_store rfl (g12) (wcs (q)) rfl rfl hbg12 25 (wcs (0)) (List.Mem.tail _ (List.Mem.head _)) (wc_info _) ((wc_size _).trans (wc_size _).symm) (wc_one _) [(g12, (wo (q))), (g13, (wo (0))), (g9, (wo (Big - 1))), (g6, (wo (n))), (g3, (wo (k))), (w.heap.size + 1, (wo (s))), (w.heap.size, (wo (t)))] (List.forall_mem_cons.2 ⟨.inl rfl, (List.forall_mem_cons.2 ⟨.inr ⟨(List.Mem.head _), (Ne.symm ng13x5.out)⟩, (List.forall_mem_cons.2 ⟨.inr ⟨(List.Mem.tail _ (List.Mem.tail _ (List.Mem.head _))), ng12x0.out⟩, (List.forall_mem_cons.2 ⟨.inr ⟨(List.Mem.tail _ (List.Mem.tail _ (List.Mem.tail _ (List.Mem.head _)))), ng12x1.out⟩, (List.forall_mem_cons.2 ⟨.inr ⟨(List.Mem.tail _ (List.Mem.tail _ (List.Mem.tail _ (List.Mem.tail _ (List.Mem.head _))))), ng12x2.out⟩, (List.forall_mem_cons.2 ⟨.inr ⟨(List.Mem.tail _ (List.Mem.tail _ (List.Mem.tail _ (List.Mem.tail _ (List.Mem.tail _ (List.Mem.head _)))))), ng12x3.out⟩, (List.forall_mem_cons.2 ⟨.inr ⟨(List.Mem.tail _ (List.Mem.tail _ (List.Mem.tail _ (List.Mem.tail _ (List.Mem.tail _ (List.Mem.tail _ (List.Mem.head _))))))), ng12x4.out⟩, (fun _ h => by cases h)⟩)⟩)⟩)⟩)⟩)⟩)⟩) ?_)
  refine (gOp_store rfl (g13) (wcs (r)) rfl rfl hbg13 25 (wcs (0)) (List.Mem.tail _ (List.Mem.head _)) (wc_info _) ((wc_size _).trans (wc_size _).symm) (wc_one _) [(g13, (wo (r))), (g12, (wo (q))), (g9, (wo (Big - 1))), (g6, (wo (n))), (g3, (wo (k))), (w.heap.size + 1, (wo (s))), (w.heap.size, (wo (t)))] (List.forall_mem_cons.2 ⟨.inl rfl, (List.forall_mem_cons.2 ⟨.inr ⟨(List.Mem.head _), ng13x5.out⟩, (List.forall_mem_cons.2 ⟨.inr ⟨(List.Mem.tail _ (List.Mem.tail _ (List.Mem.head _))), ng13x6.out⟩, (List.forall_mem_cons.2 ⟨.inr ⟨(List.Mem.tail _ (List.Mem.tail _ (List.Mem.tail _ (List.Mem.head _)))), ng13x7.out⟩, (List.forall_mem_cons.2 ⟨.inr ⟨(List.Mem.tail _ (List.Mem.tail _ (List.Mem.tail _ (List.Mem.tail _ (List.Mem.head _))))), ng13x8.out⟩, (List.forall_mem_cons.2 ⟨.inr ⟨(List.Mem.tail _ (List.Mem.tail _ (List.Mem.tail _ (List.Mem.tail _ (List.Mem.tail _ (List.Mem.head _)))))), ng13x9.out⟩, (List.forall_mem_cons.2 ⟨.inr ⟨(List.Mem.tail _ (List.Mem.tail _ (List.Mem.tail _ (List.Mem.tail _ (List.Mem.tail _ (List.Mem.tail _ (List.Mem.head _))))))), ng13x10.out⟩, (fun _ h => by cases h)⟩)⟩)⟩)⟩)⟩)⟩)⟩) ?_)
  (refine (gOp_pure rfl rfl ?_); intro K' hK'; go_big_quiet_op; go_big_quiet_on)
  rintro u15 ⟨hl2, E2'⟩
  have EX14 := Lib.hid E2'
  clear hl2 E2' EX10
  go_upto_region 8 with (fail)
  refine wp_region_G (w0 := w) [0, 1, 2, 3, 4, 5] [(g13, (wo (r))), (g12, (wo (q))), (g9, (wo (Big - 1))), (g6, (wo (n))), (g3, (wo (k))), (w.heap.size + 1, (wo (s))), (w.heap.size, (wo (t)))] 3 (by kernel_rfl) (by kernel_rfl) rfl EX14.out ?_
  have hone := @EnvC.one _ _ _ (EX14.out.drew)
  (refine wpG_load rfl rfl (g12) rfl 25 _ _ (fun u hu => EnvC.box hu _ (wo (q)) (List.Mem.tail _ (List.Mem.head _))) Try.underlying25 rfl (wc_info _) ?_ (EX14.out.drew); intro K hK; go_big_quiet_op; go_big_quiet_on)
  (refine wpG_call (f := 19) (args := #[.int .u64 (1 : Nat)]) (v := .agg (wcs (1))) rfl rfl rfl Try.func19 rfl rfl (fun u _ => of_n 1 u (by decide)) ?_ (EX14.out.drew); intro K hK; go_big_quiet_op; go_big_quiet_on)
  (refine wpG_call (f := 20) (args := #[.agg (wcs (q)), .agg (wcs (1))]) (v := .tuple #[.agg (wcs (m)), .bool (mb)]) rfl rfl rfl Try.func20 rfl rfl (fun u _ => (by have h := add_any q 1 u hqB.out h1B.out; rw [hm.out, hmb.out] at h; exact h)) ?_ (EX14.out.drew); intro K hK; go_big_quiet_op; go_big_quiet_on)
  (refine wpG_op rfl rfl rfl ?_; intro K hK; go_big_quiet_op; go_big_quiet_on)
  (refine wpG_op rfl rfl rfl ?_; intro K hK; go_big_quiet_op; go_big_quiet_on)
  (refine wpG_op rfl rfl rfl ?_; intro K hK; go_big_quiet_op; go_big_quiet_on)
  clear hone
  refine wpG_nil ?_
  (refine anyG_one (i := 6) (by kernel_rfl) (gOp_new (wo (0)) rfl (new_wide _) ?_); intro g16 hbg16 hfg16; intro K' hK'; go_big_quiet_op; go_big_quiet_on)
  have ng16x0 : Hid (g13 ≠ g16) := hfg16 (g13, _) (List.Mem.head _)
  have ng16x1 : Hid (g12 ≠ g16) := hfg16 (g12, _) (List.Mem.tail _ (List.Mem.head _))
  have ng16x2 : Hid (g9 ≠ g16) := hfg16 (g9, _) (List.Mem.tail _ (List.Mem.tail _ (List.Mem.head _)))
  have ng16x3 : Hid (g6 ≠ g16) := hfg16 (g6, _) (List.Mem.tail _ (List.Mem.tail _ (List.Mem.tail _ (List.Mem.head _))))
  have ng16x4 : Hid (g3 ≠ g16) := hfg16 (g3, _) (List.Mem.tail _ (List.Mem.tail _ (List.Mem.tail _ (List.Mem.tail _ (List.Mem.head _)))))
  have ng16x5 : Hid (w.heap.size + 1 ≠ g16) := hfg16 (w.heap.size + 1, _) (List.Mem.tail _ (List.Mem.tail _ (List.Mem.tail _ (List.Mem.tail _ (List.Mem.tail _ (List.Mem.head _))))))
  have ng16x6 : Hid (w.heap.size ≠ g16) := hfg16 (w.heap.size, _) (List.Mem.tail _ (List.Mem.tail _ (List.Mem.tail _ (List.Mem.tail _ (List.Mem.tail _ (List.Mem.tail _ (List.Mem.head _)))))))
  clear hfg16
  refine anyG_one (i := 7) (by kernel_rfl) (gOp_store rfl (g16) (wcs (m)) rfl rfl hbg16 25 (wcs (0)) (List.Mem.head _) (wc_info _) ((wc_size _).trans (wc_size _).symm) (wc_one _) [(g16, (wo (m))), (g13, (wo (r))), (g12, (wo (q))), (g9, (wo (Big - 1))), (g6, (wo (n))), (g3, (wo (k))), (w.heap.size + 1, (wo (s))), (w.heap.size, (wo (t)))] (List.forall_mem_cons.2 ⟨.inl rfl, (List.forall_mem_cons.2 ⟨.inr ⟨(List.Mem.tail _ (List.Mem.head _)), ng16x0.out⟩, (List.forall_mem_cons.2 ⟨.inr ⟨(List.Mem.tail _ (List.Mem.tail _ (List.Mem.head _))), ng16x1.out⟩, (List.forall_mem_cons.2 ⟨.inr ⟨(List.Mem.tail _ (List.Mem.tail _ (List.Mem.tail _ (List.Mem.head _)))), ng16x2.out⟩, (List.forall_mem_cons.2 ⟨.inr ⟨(List.Mem.tail _ (List.Mem.tail _ (List.Mem.tail _ (List.Mem.tail _ (List.Mem.head _))))), ng16x3.out⟩, (List.forall_mem_cons.2 ⟨.inr ⟨(List.Mem.tail _ (List.Mem.tail _ (List.Mem.tail _ (List.Mem.tail _ (List.Mem.tail _ (List.Mem.head _)))))), ng16x4.out⟩, (List.forall_mem_cons.2 ⟨.inr ⟨(List.Mem.tail _ (List.Mem.tail _ (List.Mem.tail _ (List.Mem.tail _ (List.Mem.tail _ (List.Mem.tail _ (List.Mem.head _))))))), ng16x5.out⟩, (List.forall_mem_cons.2 ⟨.inr ⟨(List.Mem.tail _ (List.Mem.tail _ (List.Mem.tail _ (List.Mem.tail _ (List.Mem.tail _ (List.Mem.tail _ (List.Mem.tail _ (List.Mem.head _)))))))), ng16x6.out⟩, (fun _ h => by cases h)⟩)⟩)⟩)⟩)⟩)⟩)⟩)⟩) ?_)
  (refine anyG_one (i := 8) (by kernel_rfl) (gOp_pure rfl rfl ?_); intro K' hK'; go_big_quiet_op; go_big_quiet_on)
  refine anyG_done (by kernel_rfl) ?_
  rintro u18 ⟨hl2, E2'⟩
  have EX17 := Lib.hid E2'
  clear hl2 E2' EX14
  go_upto_region 9 with (fail)
  refine wp_region_G (w0 := w) [0, 1, 2, 3, 4, 5] [(g16, (wo (m))), (g13, (wo (r))), (g12, (wo (q))), (g9, (wo (Big - 1))), (g6, (wo (n))), (g3, (wo (k))), (w.heap.size + 1, (wo (s))), (w.heap.size, (wo (t)))] 3 (by kernel_rfl) (by kernel_rfl) rfl EX17.out ?_
  have hone := @EnvC.one _ _ _ (EX17.out.drew)
  (refine wpG_load rfl rfl (g13) rfl 25 _ _ (fun u hu => EnvC.box hu _ (wo (r)) (List.Mem.tail _ (List.Mem.head _))) Try.underlying25 rfl (wc_info _) ?_ (EX17.out.drew); intro K hK; go_big_quiet_op; go_big_quiet_on)
  (refine wpG_call (f := 19) (args := #[.int .u64 (1 : Nat)]) (v := .agg (wcs (1))) rfl rfl rfl Try.func19 rfl rfl (fun u _ => of_n 1 u (by decide)) ?_ (EX17.out.drew); intro K hK; go_big_quiet_op; go_big_quiet_on)
  (refine wpG_call (f := 20) (args := #[.agg (wcs (r)), .agg (wcs (1))]) (v := .tuple #[.agg (wcs (o)), .bool true]) rfl rfl rfl Try.func20 rfl rfl (fun u _ => add_yes r 1 o u ho.out hoB.out) ?_ (EX17.out.drew); intro K hK; go_big_quiet_op; go_big_quiet_on)
  (refine wpG_op rfl rfl rfl ?_; intro K hK; go_big_quiet_op; go_big_quiet_on)
  (refine wpG_op rfl rfl rfl ?_; intro K hK; go_big_quiet_op; go_big_quiet_on)
  (refine wpG_op rfl rfl rfl ?_; intro K hK; go_big_quiet_op; go_big_quiet_on)
  clear hone
  refine wpG_nil ?_
  (refine anyG_one (i := 6) (by kernel_rfl) (gOp_new (wo (0)) rfl (new_wide _) ?_); intro g19 hbg19 hfg19; intro K' hK'; go_big_quiet_op; go_big_quiet_on)
  have ng19x0 : Hid (g16 ≠ g19) := hfg19 (g16, _) (List.Mem.head _)
  have ng19x1 : Hid (g13 ≠ g19) := hfg19 (g13, _) (List.Mem.tail _ (List.Mem.head _))
  have ng19x2 : Hid (g12 ≠ g19) := hfg19 (g12, _) (List.Mem.tail _ (List.Mem.tail _ (List.Mem.head _)))
  have ng19x3 : Hid (g9 ≠ g19) := hfg19 (g9, _) (List.Mem.tail _ (List.Mem.tail _ (List.Mem.tail _ (List.Mem.head _))))
  have ng19x4 : Hid (g6 ≠ g19) := hfg19 (g6, _) (List.Mem.tail _ (List.Mem.tail _ (List.Mem.tail _ (List.Mem.tail _ (List.Mem.head _)))))
  have ng19x5 : Hid (g3 ≠ g19) := hfg19 (g3, _) (List.Mem.tail _ (List.Mem.tail _ (List.Mem.tail _ (List.Mem.tail _ (List.Mem.tail _ (List.Mem.head _))))))
  have ng19x6 : Hid (w.heap.size + 1 ≠ g19) := hfg19 (w.heap.size + 1, _) (List.Mem.tail _ (List.Mem.tail _ (List.Mem.tail _ (List.Mem.tail _ (List.Mem.tail _ (List.Mem.tail _ (List.Mem.head _)))))))
  have ng19x7 : Hid (w.heap.size ≠ g19) := hfg19 (w.heap.size, _) (List.Mem.tail _ (List.Mem.tail _ (List.Mem.tail _ (List.Mem.tail _ (List.Mem.tail _ (List.Mem.tail _ (List.Mem.tail _ (List.Mem.head _))))))))
  clear hfg19
  refine anyG_one (i := 7) (by kernel_rfl) (gOp_store rfl (g19) (wcs (o)) rfl rfl hbg19 25 (wcs (0)) (List.Mem.head _) (wc_info _) ((wc_size _).trans (wc_size _).symm) (wc_one _) [(g19, (wo (o))), (g16, (wo (m))), (g13, (wo (r))), (g12, (wo (q))), (g9, (wo (Big - 1))), (g6, (wo (n))), (g3, (wo (k))), (w.heap.size + 1, (wo (s))), (w.heap.size, (wo (t)))] (List.forall_mem_cons.2 ⟨.inl rfl, (List.forall_mem_cons.2 ⟨.inr ⟨(List.Mem.tail _ (List.Mem.head _)), ng19x0.out⟩, (List.forall_mem_cons.2 ⟨.inr ⟨(List.Mem.tail _ (List.Mem.tail _ (List.Mem.head _))), ng19x1.out⟩, (List.forall_mem_cons.2 ⟨.inr ⟨(List.Mem.tail _ (List.Mem.tail _ (List.Mem.tail _ (List.Mem.head _)))), ng19x2.out⟩, (List.forall_mem_cons.2 ⟨.inr ⟨(List.Mem.tail _ (List.Mem.tail _ (List.Mem.tail _ (List.Mem.tail _ (List.Mem.head _))))), ng19x3.out⟩, (List.forall_mem_cons.2 ⟨.inr ⟨(List.Mem.tail _ (List.Mem.tail _ (List.Mem.tail _ (List.Mem.tail _ (List.Mem.tail _ (List.Mem.head _)))))), ng19x4.out⟩, (List.forall_mem_cons.2 ⟨.inr ⟨(List.Mem.tail _ (List.Mem.tail _ (List.Mem.tail _ (List.Mem.tail _ (List.Mem.tail _ (List.Mem.tail _ (List.Mem.head _))))))), ng19x5.out⟩, (List.forall_mem_cons.2 ⟨.inr ⟨(List.Mem.tail _ (List.Mem.tail _ (List.Mem.tail _ (List.Mem.tail _ (List.Mem.tail _ (List.Mem.tail _ (List.Mem.tail _ (List.Mem.head _)))))))), ng19x6.out⟩, (List.forall_mem_cons.2 ⟨.inr ⟨(List.Mem.tail _ (List.Mem.tail _ (List.Mem.tail _ (List.Mem.tail _ (List.Mem.tail _ (List.Mem.tail _ (List.Mem.tail _ (List.Mem.tail _ (List.Mem.head _))))))))), ng19x7.out⟩, (fun _ h => by cases h)⟩)⟩)⟩)⟩)⟩)⟩)⟩)⟩)⟩) ?_)
  (refine anyG_one (i := 8) (by kernel_rfl) (gOp_pure rfl rfl ?_); intro K' hK'; go_big_quiet_op; go_big_quiet_on)
  refine anyG_done (by kernel_rfl) ?_
  rintro u21 ⟨hl2, E2'⟩
  have EX20 := Lib.hid E2'
  clear hl2 E2' EX17
  go_upto_region 10 with (fail)
  refine wp_region_G (w0 := w) [0, 1, 2, 3, 4, 5, 6, 7, 8, 9, 10, 11, 12, 13, 14, 15, 16, 17, 18, 19, 20, 21, 22, 23, 24, 25, 26, 27, 28, 29, 30, 31, 32, 33, 34] [(g19, (wo (o))), (g16, (wo (m))), (g13, (wo (r))), (g12, (wo (q))), (g9, (wo (Big - 1))), (g6, (wo (n))), (g3, (wo (k))), (w.heap.size + 1, (wo (s))), (w.heap.size, (wo (t)))] 0 (by kernel_rfl) (by kernel_rfl) rfl EX20.out ?_
  have hone := @EnvC.one _ _ _ (EX20.out.drew)
  (refine wpG_load rfl rfl (g3) rfl 25 _ _ (fun u hu => EnvC.box hu _ (wo (k)) (List.Mem.tail _ (List.Mem.tail _ (List.Mem.tail _ (List.Mem.tail _ (List.Mem.tail _ (List.Mem.tail _ (List.Mem.head _)))))))) Try.underlying25 rfl (wc_info _) ?_ (EX20.out.drew); intro K hK; go_big_quiet_op; go_big_quiet_on)
  (refine wpG_load rfl rfl (g16) rfl 25 _ _ (fun u hu => EnvC.box hu _ (wo (m)) (List.Mem.tail _ (List.Mem.head _))) Try.underlying25 rfl (wc_info _) ?_ (EX20.out.drew); intro K hK; go_big_quiet_op; go_big_quiet_on)
  (refine wpG_val (v := .bool (true)) rfl rfl (fun u _ => eql_op (hkB.out) (hmB.out) (e1.out) rfl rfl u) ?_ (EX20.out.drew); intro K hK; go_big_quiet_op; go_big_quiet_on)
  (refine wpG_load rfl rfl (g19) rfl 25 _ _ (fun u hu => EnvC.box hu _ (wo (o)) (List.Mem.head _)) Try.underlying25 rfl (wc_info _) ?_ (EX20.out.drew); intro K hK; go_big_quiet_op; go_big_quiet_on)
  (refine wpG_load rfl rfl (g6) rfl 25 _ _ (fun u hu => EnvC.box hu _ (wo (n)) (List.Mem.tail _ (List.Mem.tail _ (List.Mem.tail _ (List.Mem.tail _ (List.Mem.tail _ (List.Mem.head _))))))) Try.underlying25 rfl (wc_info _) ?_ (EX20.out.drew); intro K hK; go_big_quiet_op; go_big_quiet_on)
  (refine wpG_val (v := .bool (true)) rfl rfl (fun u _ => eql_op (hoB.out) (hnB.out) (e2.out) rfl rfl u) ?_ (EX20.out.drew); intro K hK; go_big_quiet_op; go_big_quiet_on)
  (refine wpG_op rfl rfl rfl ?_; intro K hK; go_big_quiet_op; go_big_quiet_on)
  (refine wpG_op rfl rfl rfl ?_; intro K hK; go_big_quiet_op; go_big_quiet_on)
  (refine wpG_load rfl rfl (g3) rfl 25 _ _ (fun u hu => EnvC.box hu _ (wo (k)) (List.Mem.tail _ (List.Mem.tail _ (List.Mem.tail _ (List.Mem.tail _ (List.Mem.tail _ (List.Mem.tail _ (List.Mem.head _)))))))) Try.underlying25 rfl (wc_info _) ?_ (EX20.out.drew); intro K hK; go_big_quiet_op; go_big_quiet_on)
  (refine wpG_load rfl rfl (g12) rfl 25 _ _ (fun u hu => EnvC.box hu _ (wo (q)) (List.Mem.tail _ (List.Mem.tail _ (List.Mem.tail _ (List.Mem.head _))))) Try.underlying25 rfl (wc_info _) ?_ (EX20.out.drew); intro K hK; go_big_quiet_op; go_big_quiet_on)
  (refine wpG_val (v := .bool (false)) rfl rfl (fun u _ => eql_op (hkB.out) (hqB.out) (e3.out) rfl rfl u) ?_ (EX20.out.drew); intro K hK; go_big_quiet_op; go_big_quiet_on)
  (refine wpG_load rfl rfl (g19) rfl 25 _ _ (fun u hu => EnvC.box hu _ (wo (o)) (List.Mem.head _)) Try.underlying25 rfl (wc_info _) ?_ (EX20.out.drew); intro K hK; go_big_quiet_op; go_big_quiet_on)
  (refine wpG_load rfl rfl (g6) rfl 25 _ _ (fun u hu => EnvC.box hu _ (wo (n)) (List.Mem.tail _ (List.Mem.tail _ (List.Mem.tail _ (List.Mem.tail _ (List.Mem.tail _ (List.Mem.head _))))))) Try.underlying25 rfl (wc_info _) ?_ (EX20.out.drew); intro K hK; go_big_quiet_op; go_big_quiet_on)
  (refine wpG_val (v := .bool (false)) rfl rfl (fun u _ => neq_op (hoB.out) (hnB.out) (e4.out) rfl rfl u) ?_ (EX20.out.drew); intro K hK; go_big_quiet_op; go_big_quiet_on)
  (refine wpG_op rfl rfl rfl ?_; intro K hK; go_big_quiet_op; go_big_quiet_on)
  (refine wpG_op rfl rfl rfl ?_; intro K hK; go_big_quiet_op; go_big_quiet_on)
  (refine wpG_op rfl rfl rfl ?_; intro K hK; go_big_quiet_op; go_big_quiet_on)
  (refine wpG_load rfl rfl (w.heap.size) rfl 25 _ _ (fun u hu => EnvC.box hu _ (wo (t)) (List.Mem.tail _ (List.Mem.tail _ (List.Mem.tail _ (List.Mem.tail _ (List.Mem.tail _ (List.Mem.tail _ (List.Mem.tail _ (List.Mem.tail _ (List.Mem.head _)))))))))) Try.underlying25 rfl (wc_info _) ?_ (EX20.out.drew); intro K hK; go_big_quiet_op; go_big_quiet_on)
  (refine wpG_op rfl rfl rfl ?_; intro K hK; go_big_quiet_op; go_big_quiet_on)
  (refine wpG_val (v := .bool (false)) rfl rfl (fun u _ => eql_op (ht.out) (Big_pos) (e5.out) rfl rfl u) ?_ (EX20.out.drew); intro K hK; go_big_quiet_op; go_big_quiet_on)
  (refine wpG_op rfl rfl rfl ?_; intro K hK; go_big_quiet_op; go_big_quiet_on)
  (refine wpG_load rfl rfl (w.heap.size) rfl 25 _ _ (fun u hu => EnvC.box hu _ (wo (t)) (List.Mem.tail _ (List.Mem.tail _ (List.Mem.tail _ (List.Mem.tail _ (List.Mem.tail _ (List.Mem.tail _ (List.Mem.tail _ (List.Mem.tail _ (List.Mem.head _)))))))))) Try.underlying25 rfl (wc_info _) ?_ (EX20.out.drew); intro K hK; go_big_quiet_op; go_big_quiet_on)
  (refine wpG_load rfl rfl (w.heap.size + 1) rfl 25 _ _ (fun u hu => EnvC.box hu _ (wo (s)) (List.Mem.tail _ (List.Mem.tail _ (List.Mem.tail _ (List.Mem.tail _ (List.Mem.tail _ (List.Mem.tail _ (List.Mem.tail _ (List.Mem.head _))))))))) Try.underlying25 rfl (wc_info _) ?_ (EX20.out.drew); intro K hK; go_big_quiet_op; go_big_quiet_on)
  (refine wpG_call (f := 18) (args := #[.agg (wcs (t)), .agg (wcs (s))]) (v := .int .i64 c) rfl rfl rfl Try.func18 rfl rfl (fun u _ => (by rw [← hc.out]; exact cmp_any (t) (s) u ht.out hs.out)) ?_ (EX20.out.drew); intro K hK; go_big_quiet_op; go_big_quiet_on)
  (refine wpG_op rfl rfl rfl ?_; intro K hK; go_big_quiet_op; go_big_quiet_on)
  (refine wpG_op rfl rfl rfl ?_; intro K hK; go_big_quiet_op; go_big_quiet_on)
  (refine wpG_op rfl rfl rfl ?_; intro K hK; go_big_quiet_op; go_big_quiet_on)
  (refine wpG_skip rfl rfl ?_ EX20.out.drew; intro K hK; go_big_quiet_op; go_big_quiet_on)
  (refine wpG_skip rfl rfl ?_ EX20.out.drew; intro K hK; go_big_quiet_op; go_big_quiet_on)
  (refine wpG_skip rfl rfl ?_ EX20.out.drew; intro K hK; go_big_quiet_op; go_big_quiet_on)
  (refine wpG_skip rfl rfl ?_ EX20.out.drew; intro K hK; go_big_quiet_op; go_big_quiet_on)
  (refine wpG_skip rfl rfl ?_ EX20.out.drew; intro K hK; go_big_quiet_op; go_big_quiet_on)
  (refine wpG_op rfl rfl rfl ?_; intro K hK; go_big_quiet_op; go_big_quiet_on)
  (refine wpG_op rfl rfl rfl ?_; intro K hK; go_big_quiet_op; go_big_quiet_on)
  (refine wpG_op rfl rfl rfl ?_; intro K hK; go_big_quiet_op; go_big_quiet_on)
  clear hone
  refine wpG_nil ?_
  refine anyG_done (by kernel_rfl) ?_
  rintro u23 ⟨hl2, E2'⟩
  have EX22 := Lib.hid E2'
  clear hl2 E2' EX20
  go_wp2_with fail
  go_ret
  exact ⟨rfl, EX22.out.bel⟩
set_option maxRecDepth 100000 in
set_option maxHeartbeats 8000000 in
theorem lwork_a_le (t s k n q r m o : Nat) (mb : Bool) (ht : Hid (t < Big)) (hs : Hid (s < Big)) (hkB : Hid (k < Big)) (hmB : Hid (m < Big)) (hoB : Hid (o < Big)) (hnB : Hid (n < Big)) (hn0 : Hid (0 < n)) (hqB : Hid (q < Big)) (h1B : Hid (1 < Big)) (hk : Hid (wkV t = k)) (hn : Hid (n = t + 1)) (hq : Hid ((Big - 1) / n = q)) (hr : Hid ((Big - 1) % n = r)) (hm : Hid ((q + 1) % Big = m)) (hmb : Hid (decide (q + 1 < Big) = mb)) (ho : Hid (o = r + 1)) (e1 : Hid (eqN k m = true)) (e2 : Hid (eqN o n = true)) (e3 : Hid (eqN k q = false)) (e4 : Hid ((!eqN o n) = false)) (e5 : Hid (eqN t 0 = false)) (c : Int) (hc : Hid (cmpI t s = c)) (n1 : ¬ 0 < c) (k2 : Nat) (c2 : Int) (hk2B : Hid (k2 < Big)) (hk2 : Hid (wkV s = k2)) (hc2 : Hid (cmpI k2 k = c2)) (n2 : c2 ≤ 0) (w : World) :
    Calls Try.prog 5 #[.agg (wcs (t)), .agg (wcs (s))] w fun e w' => e = .returned (.bool true) ∧ Below w.heap.size w w' := by
  have E1 : Hid (EnvX w ((w.alloc (.cells (wcs (t)) 25)).alloc (.cells (wcs (s)) 25)) [(w.heap.size + 1, (wo (s))), (w.heap.size, (wo (t)))]) := by
    have h := (((EnvX.start w).new (wo (t))).new (wo (s)))
    try simp only [World.size_alloc] at h
    exact h
  go_enter Try.func5, Try.ntmps5
  go_upto_region 1 with (fail)
  generalize ((w.alloc (.cells (wcs (t)) 25)).alloc (.cells (wcs (s)) 25)) = w1 at *
  refine wp_region_Gx (w0 := w) [0, 1] [] [(w.heap.size + 1, (wo (s))), (w.heap.size, (wo (t)))] rfl E1.out ?_
  have hone := @EnvC.one _ _ _ (E1.out)
  (refine wpG_call (f := 9) (args := #[]) (v := .bool true) rfl rfl rfl Try.func9 rfl rfl (fun u _ => awake_any u) ?_ (E1.out); intro K hK; go_big_quiet_op; go_big_quiet_on)
  (refine wpG_op rfl rfl rfl ?_; intro K hK; go_big_quiet_op; go_big_quiet_on)
  clear hone
  refine wpG_nil ?_
  rintro u2 ⟨hl2, E2'⟩
  have EX1 := Lib.hid E2'
  clear hl2 E2' E1
  go_upto_region 2 with (fail)
  refine wp_region_Gx (w0 := w) [0, 1] [2, 3] [(w.heap.size + 1, (wo (s))), (w.heap.size, (wo (t)))] rfl EX1.out ?_
  have hone := @EnvC.one _ _ _ (EX1.out)
  (refine wpG_load rfl rfl (w.heap.size) rfl 25 _ _ (fun u hu => EnvC.box hu _ (wo (t)) (List.Mem.tail _ (List.Mem.head _))) Try.underlying25 rfl (wc_info _) ?_ (EX1.out); intro K hK; go_big_quiet_op; go_big_quiet_on)
  (refine wpG_call (f := 14) (args := #[.agg (wcs (t))]) (v := .agg (wcs (k))) rfl rfl rfl Try.func14 rfl rfl (fun u _ => (by have h := work_any t u ht.out; rw [hk.out] at h; exact h)) ?_ (EX1.out); intro K hK; go_big_quiet_op; go_big_quiet_on)
  clear hone
  refine wpG_nil ?_
  (refine (gOp_new (wo (0)) rfl (new_wide _) ?_); intro g3 hbg3 hfg3; intro K' hK'; go_big_quiet_op; go_big_quiet_on)
  have ng3x0 : Hid (w.heap.size + 1 ≠ g3) := hfg3 (w.heap.size + 1, _) (List.Mem.head _)
  have ng3x1 : Hid (w.heap.size ≠ g3) := hfg3 (w.heap.size, _) (List.Mem.tail _ (List.Mem.head _))
  clear hfg3
  refine (gOp_store rfl (g3) (wcs (k)) rfl rfl hbg3 25 (wcs (0)) (List.Mem.head _) (wc_info _) ((wc_size _).trans (wc_size _).symm) (wc_one _) [(g3, (wo (k))), (w.heap.size + 1, (wo (s))), (w.heap.size, (wo (t)))] (List.forall_mem_cons.2 ⟨.inl rfl, (List.forall_mem_cons.2 ⟨.inr ⟨(List.Mem.tail _ (List.Mem.head _)), ng3x0.out⟩, (List.forall_mem_cons.2 ⟨.inr ⟨(List.Mem.tail _ (List.Mem.tail _ (List.Mem.head _))), ng3x1.out⟩, (fun _ h => by cases h)⟩)⟩)⟩) ?_)
  rintro u5 ⟨hl2, E2'⟩
  have EX4 := Lib.hid E2'
  clear hl2 E2' EX1
  go_upto_region 3 with (fail)
  refine wp_region_G (w0 := w) [0, 1, 2, 3, 4, 5] [(g3, (wo (k))), (w.heap.size + 1, (wo (s))), (w.heap.size, (wo (t)))] 3 (by kernel_rfl) (by kernel_rfl) rfl EX4.out ?_
  have hone := @EnvC.one _ _ _ (EX4.out.drew)
  (refine wpG_load rfl rfl (w.heap.size) rfl 25 _ _ (fun u hu => EnvC.box hu _ (wo (t)) (List.Mem.tail _ (List.Mem.tail _ (List.Mem.head _)))) Try.underlying25 rfl (wc_info _) ?_ (EX4.out.drew); intro K hK; go_big_quiet_op; go_big_quiet_on)
  (refine wpG_call (f := 19) (args := #[.int .u64 (1 : Nat)]) (v := .agg (wcs (1))) rfl rfl rfl Try.func19 rfl rfl (fun u _ => of_n 1 u (by decide)) ?_ (EX4.out.drew); intro K hK; go_big_quiet_op; go_big_quiet_on)
  (refine wpG_call (f := 20) (args := #[.agg (wcs (t)), .agg (wcs (1))]) (v := .tuple #[.agg (wcs (n)), .bool true]) rfl rfl rfl Try.func20 rfl rfl (fun u _ => add_yes t 1 n u hn.out hnB.out) ?_ (EX4.out.drew); intro K hK; go_big_quiet_op; go_big_quiet_on)
  (refine wpG_op rfl rfl rfl ?_; intro K hK; go_big_quiet_op; go_big_quiet_on)
  (refine wpG_op rfl rfl rfl ?_; intro K hK; go_big_quiet_op; go_big_quiet_on)
  (refine wpG_op rfl rfl rfl ?_; intro K hK; go_big_quiet_op; go_big_quiet_on)
  clear hone
  refine wpG_nil ?_
  (refine anyG_one (i := 6) (by kernel_rfl) (gOp_new (wo (0)) rfl (new_wide _) ?_); intro g6 hbg6 hfg6; intro K' hK'; go_big_quiet_op; go_big_quiet_on)
  have ng6x0 : Hid (g3 ≠ g6) := hfg6 (g3, _) (List.Mem.head _)
  have ng6x1 : Hid (w.heap.size + 1 ≠ g6) := hfg6 (w.heap.size + 1, _) (List.Mem.tail _ (List.Mem.head _))
  have ng6x2 : Hid (w.heap.size ≠ g6) := hfg6 (w.heap.size, _) (List.Mem.tail _ (List.Mem.tail _ (List.Mem.head _)))
  clear hfg6
  refine anyG_one (i := 7) (by kernel_rfl) (gOp_store rfl (g6) (wcs (n)) rfl rfl hbg6 25 (wcs (0)) (List.Mem.head _) (wc_info _) ((wc_size _).trans (wc_size _).symm) (wc_one _) [(g6, (wo (n))), (g3, (wo (k))), (w.heap.size + 1, (wo (s))), (w.heap.size, (wo (t)))] (List.forall_mem_cons.2 ⟨.inl rfl, (List.forall_mem_cons.2 ⟨.inr ⟨(List.Mem.tail _ (List.Mem.head _)), ng6x0.out⟩, (List.forall_mem_cons.2 ⟨.inr ⟨(List.Mem.tail _ (List.Mem.tail _ (List.Mem.head _))), ng6x1.out⟩, (List.forall_mem_cons.2 ⟨.inr ⟨(List.Mem.tail _ (List.Mem.tail _ (List.Mem.tail _ (List.Mem.head _)))), ng6x2.out⟩, (fun _ h => by cases h)⟩)⟩)⟩)⟩) ?_)
  (refine anyG_one (i := 8) (by kernel_rfl) (gOp_pure rfl rfl ?_); intro K' hK'; go_big_quiet_op; go_big_quiet_on)
  refine anyG_done (by kernel_rfl) ?_
  rintro u8 ⟨hl2, E2'⟩
  have EX7 := Lib.hid E2'
  clear hl2 E2' EX4
  go_upto_region 6 with (fail)
  refine wp_region_Gx (w0 := w) [0] [1, 2] [(g6, (wo (n))), (g3, (wo (k))), (w.heap.size + 1, (wo (s))), (w.heap.size, (wo (t)))] rfl EX7.out ?_
  have hone := @EnvC.one _ _ _ (EX7.out)
  (refine wpG_val (v := .agg (wcs (Big - 1))) rfl rfl (fun u _ => build_all u) ?_ (EX7.out); intro K hK; go_big_quiet_op; go_big_quiet_on)
  clear hone
  refine wpG_nil ?_
  (refine (gOp_new (wo (0)) rfl (new_wide _) ?_); intro g9 hbg9 hfg9; intro K' hK'; go_big_quiet_op; go_big_quiet_on)
  have ng9x0 : Hid (g6 ≠ g9) := hfg9 (g6, _) (List.Mem.head _)
  have ng9x1 : Hid (g3 ≠ g9) := hfg9 (g3, _) (List.Mem.tail _ (List.Mem.head _))
  have ng9x2 : Hid (w.heap.size + 1 ≠ g9) := hfg9 (w.heap.size + 1, _) (List.Mem.tail _ (List.Mem.tail _ (List.Mem.head _)))
  have ng9x3 : Hid (w.heap.size ≠ g9) := hfg9 (w.heap.size, _) (List.Mem.tail _ (List.Mem.tail _ (List.Mem.tail _ (List.Mem.head _))))
  clear hfg9
  refine (gOp_store rfl (g9) (wcs (Big - 1)) rfl rfl hbg9 25 (wcs (0)) (List.Mem.head _) (wc_info _) ((wc_size _).trans (wc_size _).symm) (wc_one _) [(g9, (wo (Big - 1))), (g6, (wo (n))), (g3, (wo (k))), (w.heap.size + 1, (wo (s))), (w.heap.size, (wo (t)))] (List.forall_mem_cons.2 ⟨.inl rfl, (List.forall_mem_cons.2 ⟨.inr ⟨(List.Mem.tail _ (List.Mem.head _)), ng9x0.out⟩, (List.forall_mem_cons.2 ⟨.inr ⟨(List.Mem.tail _ (List.Mem.tail _ (List.Mem.head _))), ng9x1.out⟩, (List.forall_mem_cons.2 ⟨.inr ⟨(List.Mem.tail _ (List.Mem.tail _ (List.Mem.tail _ (List.Mem.head _)))), ng9x2.out⟩, (List.forall_mem_cons.2 ⟨.inr ⟨(List.Mem.tail _ (List.Mem.tail _ (List.Mem.tail _ (List.Mem.tail _ (List.Mem.head _))))), ng9x3.out⟩, (fun _ h => by cases h)⟩)⟩)⟩)⟩)⟩) ?_)
  rintro u11 ⟨hl2, E2'⟩
  have EX10 := Lib.hid E2'
  clear hl2 E2' EX7
  go_upto_region 7 with (fail)
  refine wp_region_Gx (w0 := w) [0, 1, 2, 3, 4, 5, 6] [7, 8, 9, 10, 11] [(g9, (wo (Big - 1))), (g6, (wo (n))), (g3, (wo (k))), (w.heap.size + 1, (wo (s))), (w.heap.size, (wo (t)))] rfl EX10.out ?_
  have hone := @EnvC.one _ _ _ (EX10.out)
  (refine wpG_load rfl rfl (g9) rfl 25 _ _ (fun u hu => EnvC.box hu _ (wo (Big - 1)) (List.Mem.head _)) Try.underlying25 rfl (wc_info _) ?_ (EX10.out); intro K hK; go_big_quiet_op; go_big_quiet_on)
  (refine wpG_load rfl rfl (g6) rfl 25 _ _ (fun u hu => EnvC.box hu _ (wo (n)) (List.Mem.tail _ (List.Mem.head _))) Try.underlying25 rfl (wc_info _) ?_ (EX10.out); intro K hK; go_big_quiet_op; go_big_quiet_on)
  (refine wpG_call (f := 21) (args := #[.agg (wcs (Big - 1)), .agg (wcs (n))]) (v := .tuple #[.agg (wcs (q)), .agg (wcs (r)), .bool true]) rfl rfl rfl Try.func21 rfl rfl (fun u _ => (by have h := div_yes (Big - 1) n u (Nat.sub_lt Big_pos Nat.one_pos) hnB.out hn0.out; rw [hq.out, hr.out] at h; exact h)) ?_ (EX10.out); intro K hK; go_big_quiet_op; go_big_quiet_on)
  (refine wpG_op rfl rfl rfl ?_; intro K hK; go_big_quiet_op; go_big_quiet_on)
  (refine wpG_op rfl rfl rfl ?_; intro K hK; go_big_quiet_op; go_big_quiet_on)
  (refine wpG_op rfl rfl rfl ?_; intro K hK; go_big_quiet_op; go_big_quiet_on)
  (refine wpG_op rfl rfl rfl ?_; intro K hK; go_big_quiet_op; go_big_quiet_on)
  clear hone
  refine wpG_nil ?_
  (refine (gOp_new (wo (0)) rfl (new_wide _) ?_); intro g12 hbg12 hfg12; intro K' hK'; go_big_quiet_op; go_big_quiet_on)
  have ng12x0 : Hid (g9 ≠ g12) := hfg12 (g9, _) (List.Mem.head _)
  have ng12x1 : Hid (g6 ≠ g12) := hfg12 (g6, _) (List.Mem.tail _ (List.Mem.head _))
  have ng12x2 : Hid (g3 ≠ g12) := hfg12 (g3, _) (List.Mem.tail _ (List.Mem.tail _ (List.Mem.head _)))
  have ng12x3 : Hid (w.heap.size + 1 ≠ g12) := hfg12 (w.heap.size + 1, _) (List.Mem.tail _ (List.Mem.tail _ (List.Mem.tail _ (List.Mem.head _))))
  have ng12x4 : Hid (w.heap.size ≠ g12) := hfg12 (w.heap.size, _) (List.Mem.tail _ (List.Mem.tail _ (List.Mem.tail _ (List.Mem.tail _ (List.Mem.head _)))))
  clear hfg12
  (refine (gOp_new (wo (0)) rfl (new_wide _) ?_); intro g13 hbg13 hfg13; intro K' hK'; go_big_quiet_op; go_big_quiet_on)
  have ng13x5 : Hid (g12 ≠ g13) := hfg13 (g12, _) (List.Mem.head _)
  have ng13x6 : Hid (g9 ≠ g13) := hfg13 (g9, _) (List.Mem.tail _ (List.Mem.head _))
  have ng13x7 : Hid (g6 ≠ g13) := hfg13 (g6, _) (List.Mem.tail _ (List.Mem.tail _ (List.Mem.head _)))
  have ng13x8 : Hid (g3 ≠ g13) := hfg13 (g3, _) (List.Mem.tail _ (List.Mem.tail _ (List.Mem.tail _ (List.Mem.head _))))
  have ng13x9 : Hid (w.heap.size + 1 ≠ g13) := hfg13 (w.heap.size + 1, _) (List.Mem.tail _ (List.Mem.tail _ (List.Mem.tail _ (List.Mem.tail _ (List.Mem.head _)))))
  have ng13x10 : Hid (w.heap.size ≠ g13) := hfg13 (w.heap.size, _) (List.Mem.tail _ (List.Mem.tail _ (List.Mem.tail _ (List.Mem.tail _ (List.Mem.tail _ (List.Mem.head _))))))
  clear hfg13
  refine (gOp_store rfl (g12) (wcs (q)) rfl rfl hbg12 25 (wcs (0)) (List.Mem.tail _ (List.Mem.head _)) (wc_info _) ((wc_size _).trans (wc_size _).symm) (wc_one _) [(g12, (wo (q))), (g13, (wo (0))), (g9, (wo (Big - 1))), (g6, (wo (n))), (g3, (wo (k))), (w.heap.size + 1, (wo (s))), (w.heap.size, (wo (t)))] (List.forall_mem_cons.2 ⟨.inl rfl, (List.forall_mem_cons.2 ⟨.inr ⟨(List.Mem.head _), (Ne.symm ng13x5.out)⟩, (List.forall_mem_cons.2 ⟨.inr ⟨(List.Mem.tail _ (List.Mem.tail _ (List.Mem.head _))), ng12x0.out⟩, (List.forall_mem_cons.2 ⟨.inr ⟨(List.Mem.tail _ (List.Mem.tail _ (List.Mem.tail _ (List.Mem.head _)))), ng12x1.out⟩, (List.forall_mem_cons.2 ⟨.inr ⟨(List.Mem.tail _ (List.Mem.tail _ (List.Mem.tail _ (List.Mem.tail _ (List.Mem.head _))))), ng12x2.out⟩, (List.forall_mem_cons.2 ⟨.inr ⟨(List.Mem.tail _ (List.Mem.tail _ (List.Mem.tail _ (List.Mem.tail _ (List.Mem.tail _ (List.Mem.head _)))))), ng12x3.out⟩, (List.forall_mem_cons.2 ⟨.inr ⟨(List.Mem.tail _ (List.Mem.tail _ (List.Mem.tail _ (List.Mem.tail _ (List.Mem.tail _ (List.Mem.tail _ (List.Mem.head _))))))), ng12x4.out⟩, (fun _ h => by cases h)⟩)⟩)⟩)⟩)⟩)⟩)⟩) ?_)
  refine (gOp_store rfl (g13) (wcs (r)) rfl rfl hbg13 25 (wcs (0)) (List.Mem.tail _ (List.Mem.head _)) (wc_info _) ((wc_size _).trans (wc_size _).symm) (wc_one _) [(g13, (wo (r))), (g12, (wo (q))), (g9, (wo (Big - 1))), (g6, (wo (n))), (g3, (wo (k))), (w.heap.size + 1, (wo (s))), (w.heap.size, (wo (t)))] (List.forall_mem_cons.2 ⟨.inl rfl, (List.forall_mem_cons.2 ⟨.inr ⟨(List.Mem.head _), ng13x5.out⟩, (List.forall_mem_cons.2 ⟨.inr ⟨(List.Mem.tail _ (List.Mem.tail _ (List.Mem.head _))), ng13x6.out⟩, (List.forall_mem_cons.2 ⟨.inr ⟨(List.Mem.tail _ (List.Mem.tail _ (List.Mem.tail _ (List.Mem.head _)))), ng13x7.out⟩, (List.forall_mem_cons.2 ⟨.inr ⟨(List.Mem.tail _ (List.Mem.tail _ (List.Mem.tail _ (List.Mem.tail _ (List.Mem.head _))))), ng13x8.out⟩, (List.forall_mem_cons.2 ⟨.inr ⟨(List.Mem.tail _ (List.Mem.tail _ (List.Mem.tail _ (List.Mem.tail _ (List.Mem.tail _ (List.Mem.head _)))))), ng13x9.out⟩, (List.forall_mem_cons.2 ⟨.inr ⟨(List.Mem.tail _ (List.Mem.tail _ (List.Mem.tail _ (List.Mem.tail _ (List.Mem.tail _ (List.Mem.tail _ (List.Mem.head _))))))), ng13x10.out⟩, (fun _ h => by cases h)⟩)⟩)⟩)⟩)⟩)⟩)⟩) ?_)
  (refine (gOp_pure rfl rfl ?_); intro K' hK'; go_big_quiet_op; go_big_quiet_on)
  rintro u15 ⟨hl2, E2'⟩
  have EX14 := Lib.hid E2'
  clear hl2 E2' EX10
  go_upto_region 8 with (fail)
  refine wp_region_G (w0 := w) [0, 1, 2, 3, 4, 5] [(g13, (wo (r))), (g12, (wo (q))), (g9, (wo (Big - 1))), (g6, (wo (n))), (g3, (wo (k))), (w.heap.size + 1, (wo (s))), (w.heap.size, (wo (t)))] 3 (by kernel_rfl) (by kernel_rfl) rfl EX14.out ?_
  have hone := @EnvC.one _ _ _ (EX14.out.drew)
  (refine wpG_load rfl rfl (g12) rfl 25 _ _ (fun u hu => EnvC.box hu _ (wo (q)) (List.Mem.tail _ (List.Mem.head _))) Try.underlying25 rfl (wc_info _) ?_ (EX14.out.drew); intro K hK; go_big_quiet_op; go_big_quiet_on)
  (refine wpG_call (f := 19) (args := #[.int .u64 (1 : Nat)]) (v := .agg (wcs (1))) rfl rfl rfl Try.func19 rfl rfl (fun u _ => of_n 1 u (by decide)) ?_ (EX14.out.drew); intro K hK; go_big_quiet_op; go_big_quiet_on)
  (refine wpG_call (f := 20) (args := #[.agg (wcs (q)), .agg (wcs (1))]) (v := .tuple #[.agg (wcs (m)), .bool (mb)]) rfl rfl rfl Try.func20 rfl rfl (fun u _ => (by have h := add_any q 1 u hqB.out h1B.out; rw [hm.out, hmb.out] at h; exact h)) ?_ (EX14.out.drew); intro K hK; go_big_quiet_op; go_big_quiet_on)
  (refine wpG_op rfl rfl rfl ?_; intro K hK; go_big_quiet_op; go_big_quiet_on)
  (refine wpG_op rfl rfl rfl ?_; intro K hK; go_big_quiet_op; go_big_quiet_on)
  (refine wpG_op rfl rfl rfl ?_; intro K hK; go_big_quiet_op; go_big_quiet_on)
  clear hone
  refine wpG_nil ?_
  (refine anyG_one (i := 6) (by kernel_rfl) (gOp_new (wo (0)) rfl (new_wide _) ?_); intro g16 hbg16 hfg16; intro K' hK'; go_big_quiet_op; go_big_quiet_on)
  have ng16x0 : Hid (g13 ≠ g16) := hfg16 (g13, _) (List.Mem.head _)
  have ng16x1 : Hid (g12 ≠ g16) := hfg16 (g12, _) (List.Mem.tail _ (List.Mem.head _))
  have ng16x2 : Hid (g9 ≠ g16) := hfg16 (g9, _) (List.Mem.tail _ (List.Mem.tail _ (List.Mem.head _)))
  have ng16x3 : Hid (g6 ≠ g16) := hfg16 (g6, _) (List.Mem.tail _ (List.Mem.tail _ (List.Mem.tail _ (List.Mem.head _))))
  have ng16x4 : Hid (g3 ≠ g16) := hfg16 (g3, _) (List.Mem.tail _ (List.Mem.tail _ (List.Mem.tail _ (List.Mem.tail _ (List.Mem.head _)))))
  have ng16x5 : Hid (w.heap.size + 1 ≠ g16) := hfg16 (w.heap.size + 1, _) (List.Mem.tail _ (List.Mem.tail _ (List.Mem.tail _ (List.Mem.tail _ (List.Mem.tail _ (List.Mem.head _))))))
  have ng16x6 : Hid (w.heap.size ≠ g16) := hfg16 (w.heap.size, _) (List.Mem.tail _ (List.Mem.tail _ (List.Mem.tail _ (List.Mem.tail _ (List.Mem.tail _ (List.Mem.tail _ (List.Mem.head _)))))))
  clear hfg16
  refine anyG_one (i := 7) (by kernel_rfl) (gOp_store rfl (g16) (wcs (m)) rfl rfl hbg16 25 (wcs (0)) (List.Mem.head _) (wc_info _) ((wc_size _).trans (wc_size _).symm) (wc_one _) [(g16, (wo (m))), (g13, (wo (r))), (g12, (wo (q))), (g9, (wo (Big - 1))), (g6, (wo (n))), (g3, (wo (k))), (w.heap.size + 1, (wo (s))), (w.heap.size, (wo (t)))] (List.forall_mem_cons.2 ⟨.inl rfl, (List.forall_mem_cons.2 ⟨.inr ⟨(List.Mem.tail _ (List.Mem.head _)), ng16x0.out⟩, (List.forall_mem_cons.2 ⟨.inr ⟨(List.Mem.tail _ (List.Mem.tail _ (List.Mem.head _))), ng16x1.out⟩, (List.forall_mem_cons.2 ⟨.inr ⟨(List.Mem.tail _ (List.Mem.tail _ (List.Mem.tail _ (List.Mem.head _)))), ng16x2.out⟩, (List.forall_mem_cons.2 ⟨.inr ⟨(List.Mem.tail _ (List.Mem.tail _ (List.Mem.tail _ (List.Mem.tail _ (List.Mem.head _))))), ng16x3.out⟩, (List.forall_mem_cons.2 ⟨.inr ⟨(List.Mem.tail _ (List.Mem.tail _ (List.Mem.tail _ (List.Mem.tail _ (List.Mem.tail _ (List.Mem.head _)))))), ng16x4.out⟩, (List.forall_mem_cons.2 ⟨.inr ⟨(List.Mem.tail _ (List.Mem.tail _ (List.Mem.tail _ (List.Mem.tail _ (List.Mem.tail _ (List.Mem.tail _ (List.Mem.head _))))))), ng16x5.out⟩, (List.forall_mem_cons.2 ⟨.inr ⟨(List.Mem.tail _ (List.Mem.tail _ (List.Mem.tail _ (List.Mem.tail _ (List.Mem.tail _ (List.Mem.tail _ (List.Mem.tail _ (List.Mem.head _)))))))), ng16x6.out⟩, (fun _ h => by cases h)⟩)⟩)⟩)⟩)⟩)⟩)⟩)⟩) ?_)
  (refine anyG_one (i := 8) (by kernel_rfl) (gOp_pure rfl rfl ?_); intro K' hK'; go_big_quiet_op; go_big_quiet_on)
  refine anyG_done (by kernel_rfl) ?_
  rintro u18 ⟨hl2, E2'⟩
  have EX17 := Lib.hid E2'
  clear hl2 E2' EX14
  go_upto_region 9 with (fail)
  refine wp_region_G (w0 := w) [0, 1, 2, 3, 4, 5] [(g16, (wo (m))), (g13, (wo (r))), (g12, (wo (q))), (g9, (wo (Big - 1))), (g6, (wo (n))), (g3, (wo (k))), (w.heap.size + 1, (wo (s))), (w.heap.size, (wo (t)))] 3 (by kernel_rfl) (by kernel_rfl) rfl EX17.out ?_
  have hone := @EnvC.one _ _ _ (EX17.out.drew)
  (refine wpG_load rfl rfl (g13) rfl 25 _ _ (fun u hu => EnvC.box hu _ (wo (r)) (List.Mem.tail _ (List.Mem.head _))) Try.underlying25 rfl (wc_info _) ?_ (EX17.out.drew); intro K hK; go_big_quiet_op; go_big_quiet_on)
  (refine wpG_call (f := 19) (args := #[.int .u64 (1 : Nat)]) (v := .agg (wcs (1))) rfl rfl rfl Try.func19 rfl rfl (fun u _ => of_n 1 u (by decide)) ?_ (EX17.out.drew); intro K hK; go_big_quiet_op; go_big_quiet_on)
  (refine wpG_call (f := 20) (args := #[.agg (wcs (r)), .agg (wcs (1))]) (v := .tuple #[.agg (wcs (o)), .bool true]) rfl rfl rfl Try.func20 rfl rfl (fun u _ => add_yes r 1 o u ho.out hoB.out) ?_ (EX17.out.drew); intro K hK; go_big_quiet_op; go_big_quiet_on)
  (refine wpG_op rfl rfl rfl ?_; intro K hK; go_big_quiet_op; go_big_quiet_on)
  (refine wpG_op rfl rfl rfl ?_; intro K hK; go_big_quiet_op; go_big_quiet_on)
  (refine wpG_op rfl rfl rfl ?_; intro K hK; go_big_quiet_op; go_big_quiet_on)
  clear hone
  refine wpG_nil ?_
  (refine anyG_one (i := 6) (by kernel_rfl) (gOp_new (wo (0)) rfl (new_wide _) ?_); intro g19 hbg19 hfg19; intro K' hK'; go_big_quiet_op; go_big_quiet_on)
  have ng19x0 : Hid (g16 ≠ g19) := hfg19 (g16, _) (List.Mem.head _)
  have ng19x1 : Hid (g13 ≠ g19) := hfg19 (g13, _) (List.Mem.tail _ (List.Mem.head _))
  have ng19x2 : Hid (g12 ≠ g19) := hfg19 (g12, _) (List.Mem.tail _ (List.Mem.tail _ (List.Mem.head _)))
  have ng19x3 : Hid (g9 ≠ g19) := hfg19 (g9, _) (List.Mem.tail _ (List.Mem.tail _ (List.Mem.tail _ (List.Mem.head _))))
  have ng19x4 : Hid (g6 ≠ g19) := hfg19 (g6, _) (List.Mem.tail _ (List.Mem.tail _ (List.Mem.tail _ (List.Mem.tail _ (List.Mem.head _)))))
  have ng19x5 : Hid (g3 ≠ g19) := hfg19 (g3, _) (List.Mem.tail _ (List.Mem.tail _ (List.Mem.tail _ (List.Mem.tail _ (List.Mem.tail _ (List.Mem.head _))))))
  have ng19x6 : Hid (w.heap.size + 1 ≠ g19) := hfg19 (w.heap.size + 1, _) (List.Mem.tail _ (List.Mem.tail _ (List.Mem.tail _ (List.Mem.tail _ (List.Mem.tail _ (List.Mem.tail _ (List.Mem.head _)))))))
  have ng19x7 : Hid (w.heap.size ≠ g19) := hfg19 (w.heap.size, _) (List.Mem.tail _ (List.Mem.tail _ (List.Mem.tail _ (List.Mem.tail _ (List.Mem.tail _ (List.Mem.tail _ (List.Mem.tail _ (List.Mem.head _))))))))
  clear hfg19
  refine anyG_one (i := 7) (by kernel_rfl) (gOp_store rfl (g19) (wcs (o)) rfl rfl hbg19 25 (wcs (0)) (List.Mem.head _) (wc_info _) ((wc_size _).trans (wc_size _).symm) (wc_one _) [(g19, (wo (o))), (g16, (wo (m))), (g13, (wo (r))), (g12, (wo (q))), (g9, (wo (Big - 1))), (g6, (wo (n))), (g3, (wo (k))), (w.heap.size + 1, (wo (s))), (w.heap.size, (wo (t)))] (List.forall_mem_cons.2 ⟨.inl rfl, (List.forall_mem_cons.2 ⟨.inr ⟨(List.Mem.tail _ (List.Mem.head _)), ng19x0.out⟩, (List.forall_mem_cons.2 ⟨.inr ⟨(List.Mem.tail _ (List.Mem.tail _ (List.Mem.head _))), ng19x1.out⟩, (List.forall_mem_cons.2 ⟨.inr ⟨(List.Mem.tail _ (List.Mem.tail _ (List.Mem.tail _ (List.Mem.head _)))), ng19x2.out⟩, (List.forall_mem_cons.2 ⟨.inr ⟨(List.Mem.tail _ (List.Mem.tail _ (List.Mem.tail _ (List.Mem.tail _ (List.Mem.head _))))), ng19x3.out⟩, (List.forall_mem_cons.2 ⟨.inr ⟨(List.Mem.tail _ (List.Mem.tail _ (List.Mem.tail _ (List.Mem.tail _ (List.Mem.tail _ (List.Mem.head _)))))), ng19x4.out⟩, (List.forall_mem_cons.2 ⟨.inr ⟨(List.Mem.tail _ (List.Mem.tail _ (List.Mem.tail _ (List.Mem.tail _ (List.Mem.tail _ (List.Mem.tail _ (List.Mem.head _))))))), ng19x5.out⟩, (List.forall_mem_cons.2 ⟨.inr ⟨(List.Mem.tail _ (List.Mem.tail _ (List.Mem.tail _ (List.Mem.tail _ (List.Mem.tail _ (List.Mem.tail _ (List.Mem.tail _ (List.Mem.head _)))))))), ng19x6.out⟩, (List.forall_mem_cons.2 ⟨.inr ⟨(List.Mem.tail _ (List.Mem.tail _ (List.Mem.tail _ (List.Mem.tail _ (List.Mem.tail _ (List.Mem.tail _ (List.Mem.tail _ (List.Mem.tail _ (List.Mem.head _))))))))), ng19x7.out⟩, (fun _ h => by cases h)⟩)⟩)⟩)⟩)⟩)⟩)⟩)⟩)⟩) ?_)
  (refine anyG_one (i := 8) (by kernel_rfl) (gOp_pure rfl rfl ?_); intro K' hK'; go_big_quiet_op; go_big_quiet_on)
  refine anyG_done (by kernel_rfl) ?_
  rintro u21 ⟨hl2, E2'⟩
  have EX20 := Lib.hid E2'
  clear hl2 E2' EX17
  go_upto_region 10 with (fail)
  refine wp_region_G (w0 := w) [0, 1, 2, 3, 4, 5, 6, 7, 8, 9, 10, 11, 12, 13, 14, 15, 16, 17, 18, 19, 20, 21, 22, 23, 24, 25, 26, 27, 28, 29, 30, 31, 32, 33, 34] [(g19, (wo (o))), (g16, (wo (m))), (g13, (wo (r))), (g12, (wo (q))), (g9, (wo (Big - 1))), (g6, (wo (n))), (g3, (wo (k))), (w.heap.size + 1, (wo (s))), (w.heap.size, (wo (t)))] 0 (by kernel_rfl) (by kernel_rfl) rfl EX20.out ?_
  have hone := @EnvC.one _ _ _ (EX20.out.drew)
  (refine wpG_load rfl rfl (g3) rfl 25 _ _ (fun u hu => EnvC.box hu _ (wo (k)) (List.Mem.tail _ (List.Mem.tail _ (List.Mem.tail _ (List.Mem.tail _ (List.Mem.tail _ (List.Mem.tail _ (List.Mem.head _)))))))) Try.underlying25 rfl (wc_info _) ?_ (EX20.out.drew); intro K hK; go_big_quiet_op; go_big_quiet_on)
  (refine wpG_load rfl rfl (g16) rfl 25 _ _ (fun u hu => EnvC.box hu _ (wo (m)) (List.Mem.tail _ (List.Mem.head _))) Try.underlying25 rfl (wc_info _) ?_ (EX20.out.drew); intro K hK; go_big_quiet_op; go_big_quiet_on)
  (refine wpG_val (v := .bool (true)) rfl rfl (fun u _ => eql_op (hkB.out) (hmB.out) (e1.out) rfl rfl u) ?_ (EX20.out.drew); intro K hK; go_big_quiet_op; go_big_quiet_on)
  (refine wpG_load rfl rfl (g19) rfl 25 _ _ (fun u hu => EnvC.box hu _ (wo (o)) (List.Mem.head _)) Try.underlying25 rfl (wc_info _) ?_ (EX20.out.drew); intro K hK; go_big_quiet_op; go_big_quiet_on)
  (refine wpG_load rfl rfl (g6) rfl 25 _ _ (fun u hu => EnvC.box hu _ (wo (n)) (List.Mem.tail _ (List.Mem.tail _ (List.Mem.tail _ (List.Mem.tail _ (List.Mem.tail _ (List.Mem.head _))))))) Try.underlying25 rfl (wc_info _) ?_ (EX20.out.drew); intro K hK; go_big_quiet_op; go_big_quiet_on)
  (refine wpG_val (v := .bool (true)) rfl rfl (fun u _ => eql_op (hoB.out) (hnB.out) (e2.out) rfl rfl u) ?_ (EX20.out.drew); intro K hK; go_big_quiet_op; go_big_quiet_on)
  (refine wpG_op rfl rfl rfl ?_; intro K hK; go_big_quiet_op; go_big_quiet_on)
  (refine wpG_op rfl rfl rfl ?_; intro K hK; go_big_quiet_op; go_big_quiet_on)
  (refine wpG_load rfl rfl (g3) rfl 25 _ _ (fun u hu => EnvC.box hu _ (wo (k)) (List.Mem.tail _ (List.Mem.tail _ (List.Mem.tail _ (List.Mem.tail _ (List.Mem.tail _ (List.Mem.tail _ (List.Mem.head _)))))))) Try.underlying25 rfl (wc_info _) ?_ (EX20.out.drew); intro K hK; go_big_quiet_op; go_big_quiet_on)
  (refine wpG_load rfl rfl (g12) rfl 25 _ _ (fun u hu => EnvC.box hu _ (wo (q)) (List.Mem.tail _ (List.Mem.tail _ (List.Mem.tail _ (List.Mem.head _))))) Try.underlying25 rfl (wc_info _) ?_ (EX20.out.drew); intro K hK; go_big_quiet_op; go_big_quiet_on)
  (refine wpG_val (v := .bool (false)) rfl rfl (fun u _ => eql_op (hkB.out) (hqB.out) (e3.out) rfl rfl u) ?_ (EX20.out.drew); intro K hK; go_big_quiet_op; go_big_quiet_on)
  (refine wpG_load rfl rfl (g19) rfl 25 _ _ (fun u hu => EnvC.box hu _ (wo (o)) (List.Mem.head _)) Try.underlying25 rfl (wc_info _) ?_ (EX20.out.drew); intro K hK; go_big_quiet_op; go_big_quiet_on)
  (refine wpG_load rfl rfl (g6) rfl 25 _ _ (fun u hu => EnvC.box hu _ (wo (n)) (List.Mem.tail _ (List.Mem.tail _ (List.Mem.tail _ (List.Mem.tail _ (List.Mem.tail _ (List.Mem.head _))))))) Try.underlying25 rfl (wc_info _) ?_ (EX20.out.drew); intro K hK; go_big_quiet_op; go_big_quiet_on)
  (refine wpG_val (v := .bool (false)) rfl rfl (fun u _ => neq_op (hoB.out) (hnB.out) (e4.out) rfl rfl u) ?_ (EX20.out.drew); intro K hK; go_big_quiet_op; go_big_quiet_on)
  (refine wpG_op rfl rfl rfl ?_; intro K hK; go_big_quiet_op; go_big_quiet_on)
  (refine wpG_op rfl rfl rfl ?_; intro K hK; go_big_quiet_op; go_big_quiet_on)
  (refine wpG_op rfl rfl rfl ?_; intro K hK; go_big_quiet_op; go_big_quiet_on)
  (refine wpG_load rfl rfl (w.heap.size) rfl 25 _ _ (fun u hu => EnvC.box hu _ (wo (t)) (List.Mem.tail _ (List.Mem.tail _ (List.Mem.tail _ (List.Mem.tail _ (List.Mem.tail _ (List.Mem.tail _ (List.Mem.tail _ (List.Mem.tail _ (List.Mem.head _)))))))))) Try.underlying25 rfl (wc_info _) ?_ (EX20.out.drew); intro K hK; go_big_quiet_op; go_big_quiet_on)
  (refine wpG_op rfl rfl rfl ?_; intro K hK; go_big_quiet_op; go_big_quiet_on)
  (refine wpG_val (v := .bool (false)) rfl rfl (fun u _ => eql_op (ht.out) (Big_pos) (e5.out) rfl rfl u) ?_ (EX20.out.drew); intro K hK; go_big_quiet_op; go_big_quiet_on)
  (refine wpG_op rfl rfl rfl ?_; intro K hK; go_big_quiet_op; go_big_quiet_on)
  (refine wpG_load rfl rfl (w.heap.size) rfl 25 _ _ (fun u hu => EnvC.box hu _ (wo (t)) (List.Mem.tail _ (List.Mem.tail _ (List.Mem.tail _ (List.Mem.tail _ (List.Mem.tail _ (List.Mem.tail _ (List.Mem.tail _ (List.Mem.tail _ (List.Mem.head _)))))))))) Try.underlying25 rfl (wc_info _) ?_ (EX20.out.drew); intro K hK; go_big_quiet_op; go_big_quiet_on)
  (refine wpG_load rfl rfl (w.heap.size + 1) rfl 25 _ _ (fun u hu => EnvC.box hu _ (wo (s)) (List.Mem.tail _ (List.Mem.tail _ (List.Mem.tail _ (List.Mem.tail _ (List.Mem.tail _ (List.Mem.tail _ (List.Mem.tail _ (List.Mem.head _))))))))) Try.underlying25 rfl (wc_info _) ?_ (EX20.out.drew); intro K hK; go_big_quiet_op; go_big_quiet_on)
  (refine wpG_call (f := 18) (args := #[.agg (wcs (t)), .agg (wcs (s))]) (v := .int .i64 c) rfl rfl rfl Try.func18 rfl rfl (fun u _ => (by rw [← hc.out]; exact cmp_any (t) (s) u ht.out hs.out)) ?_ (EX20.out.drew); intro K hK; go_big_quiet_op; go_big_quiet_on)
  (refine wpG_op rfl rfl rfl ?_; intro K hK; go_big_quiet_op; go_big_quiet_on)
  (refine wpG_op rfl rfl rfl ?_; intro K hK; go_big_quiet_op; go_big_quiet_on)
  (refine wpG_op rfl rfl rfl ?_; intro K hK; go_big_quiet_op; go_big_quiet_on)
  (refine wpG_load rfl rfl (w.heap.size + 1) rfl 25 _ _ (fun u hu => EnvC.box hu _ (wo (s)) (List.Mem.tail _ (List.Mem.tail _ (List.Mem.tail _ (List.Mem.tail _ (List.Mem.tail _ (List.Mem.tail _ (List.Mem.tail _ (List.Mem.head _))))))))) Try.underlying25 rfl (wc_info _) ?_ (EX20.out.drew); intro K hK; go_big_quiet_op; go_big_quiet_on)
  (refine wpG_call (f := 14) (args := #[.agg (wcs (s))]) (v := .agg (wcs (k2))) rfl rfl rfl Try.func14 rfl rfl (fun u _ => (by have h := work_any s u hs.out; rw [hk2.out] at h; exact h)) ?_ (EX20.out.drew); intro K hK; go_big_quiet_op; go_big_quiet_on)
  (refine wpG_load rfl rfl (g3) rfl 25 _ _ (fun u hu => EnvC.box hu _ (wo (k)) (List.Mem.tail _ (List.Mem.tail _ (List.Mem.tail _ (List.Mem.tail _ (List.Mem.tail _ (List.Mem.tail _ (List.Mem.head _)))))))) Try.underlying25 rfl (wc_info _) ?_ (EX20.out.drew); intro K hK; go_big_quiet_op; go_big_quiet_on)
  (refine wpG_call (f := 18) (args := #[.agg (wcs (k2)), .agg (wcs (k))]) (v := .int .i64 c2) rfl rfl rfl Try.func18 rfl rfl (fun u _ => (by rw [← hc2.out]; exact cmp_any (k2) (k) u hk2B.out hkB.out)) ?_ (EX20.out.drew); intro K hK; go_big_quiet_op; go_big_quiet_on)
  (refine wpG_op rfl rfl rfl ?_; intro K hK; go_big_quiet_op; go_big_quiet_on)
  (refine wpG_op rfl rfl rfl ?_; intro K hK; go_big_quiet_op; go_big_quiet_on)
  (refine wpG_op rfl rfl rfl ?_; intro K hK; go_big_quiet_op; go_big_quiet_on)
  (refine wpG_op rfl rfl rfl ?_; intro K hK; go_big_quiet_op; go_big_quiet_on)
  clear hone
  refine wpG_nil ?_
  refine anyG_done (by kernel_rfl) ?_
  rintro u23 ⟨hl2, E2'⟩
  have EX22 := Lib.hid E2'
  clear hl2 E2' EX20
  go_wp2_with fail
  go_ret
  exact ⟨rfl, EX22.out.bel⟩
set_option maxRecDepth 100000 in
set_option maxHeartbeats 8000000 in
theorem lwork_b_zero (t s k n q r m o : Nat) (mb : Bool) (ht : Hid (t < Big)) (hs : Hid (s < Big)) (hkB : Hid (k < Big)) (hmB : Hid (m < Big)) (hoB : Hid (o < Big)) (hnB : Hid (n < Big)) (hn0 : Hid (0 < n)) (hqB : Hid (q < Big)) (h1B : Hid (1 < Big)) (hk : Hid (wkV t = k)) (hn : Hid (n = t + 1)) (hq : Hid ((Big - 1) / n = q)) (hr : Hid ((Big - 1) % n = r)) (hm : Hid ((q + 1) % Big = m)) (hmb : Hid (decide (q + 1 < Big) = mb)) (ho : Hid (o = r + 1)) (e1 : Hid (eqN k m = false)) (e2 : Hid (eqN o n = false)) (e3 : Hid (eqN k q = true)) (e4 : Hid ((!eqN o n) = true)) (e5 : Hid (eqN t 0 = true)) (w : World) :
    Calls Try.prog 5 #[.agg (wcs (t)), .agg (wcs (s))] w fun e w' => e = .returned (.bool true) ∧ Below w.heap.size w w' := by
  have E1 : Hid (EnvX w ((w.alloc (.cells (wcs (t)) 25)).alloc (.cells (wcs (s)) 25)) [(w.heap.size + 1, (wo (s))), (w.heap.size, (wo (t)))]) := by
    have h := (((EnvX.start w).new (wo (t))).new (wo (s)))
    try simp only [World.size_alloc] at h
    exact h
  go_enter Try.func5, Try.ntmps5
  go_upto_region 1 with (fail)
  generalize ((w.alloc (.cells (wcs (t)) 25)).alloc (.cells (wcs (s)) 25)) = w1 at *
  refine wp_region_Gx (w0 := w) [0, 1] [] [(w.heap.size + 1, (wo (s))), (w.heap.size, (wo (t)))] rfl E1.out ?_
  have hone := @EnvC.one _ _ _ (E1.out)
  (refine wpG_call (f := 9) (args := #[]) (v := .bool true) rfl rfl rfl Try.func9 rfl rfl (fun u _ => awake_any u) ?_ (E1.out); intro K hK; go_big_quiet_op; go_big_quiet_on)
  (refine wpG_op rfl rfl rfl ?_; intro K hK; go_big_quiet_op; go_big_quiet_on)
  clear hone
  refine wpG_nil ?_
  rintro u2 ⟨hl2, E2'⟩
  have EX1 := Lib.hid E2'
  clear hl2 E2' E1
  go_upto_region 2 with (fail)
  refine wp_region_Gx (w0 := w) [0, 1] [2, 3] [(w.heap.size + 1, (wo (s))), (w.heap.size, (wo (t)))] rfl EX1.out ?_
  have hone := @EnvC.one _ _ _ (EX1.out)
  (refine wpG_load rfl rfl (w.heap.size) rfl 25 _ _ (fun u hu => EnvC.box hu _ (wo (t)) (List.Mem.tail _ (List.Mem.head _))) Try.underlying25 rfl (wc_info _) ?_ (EX1.out); intro K hK; go_big_quiet_op; go_big_quiet_on)
  (refine wpG_call (f := 14) (args := #[.agg (wcs (t))]) (v := .agg (wcs (k))) rfl rfl rfl Try.func14 rfl rfl (fun u _ => (by have h := work_any t u ht.out; rw [hk.out] at h; exact h)) ?_ (EX1.out); intro K hK; go_big_quiet_op; go_big_quiet_on)
  clear hone
  refine wpG_nil ?_
  (refine (gOp_new (wo (0)) rfl (new_wide _) ?_); intro g3 hbg3 hfg3; intro K' hK'; go_big_quiet_op; go_big_quiet_on)
  have ng3x0 : Hid (w.heap.size + 1 ≠ g3) := hfg3 (w.heap.size + 1, _) (List.Mem.head _)
  have ng3x1 : Hid (w.heap.size ≠ g3) := hfg3 (w.heap.size, _) (List.Mem.tail _ (List.Mem.head _))
  clear hfg3
  refine (gOp_store rfl (g3) (wcs (k)) rfl rfl hbg3 25 (wcs (0)) (List.Mem.head _) (wc_info _) ((wc_size _).trans (wc_size _).symm) (wc_one _) [(g3, (wo (k))), (w.heap.size + 1, (wo (s))), (w.heap.size, (wo (t)))] (List.forall_mem_cons.2 ⟨.inl rfl, (List.forall_mem_cons.2 ⟨.inr ⟨(List.Mem.tail _ (List.Mem.head _)), ng3x0.out⟩, (List.forall_mem_cons.2 ⟨.inr ⟨(List.Mem.tail _ (List.Mem.tail _ (List.Mem.head _))), ng3x1.out⟩, (fun _ h => by cases h)⟩)⟩)⟩) ?_)
  rintro u5 ⟨hl2, E2'⟩
  have EX4 := Lib.hid E2'
  clear hl2 E2' EX1
  go_upto_region 3 with (fail)
  refine wp_region_G (w0 := w) [0, 1, 2, 3, 4, 5] [(g3, (wo (k))), (w.heap.size + 1, (wo (s))), (w.heap.size, (wo (t)))] 3 (by kernel_rfl) (by kernel_rfl) rfl EX4.out ?_
  have hone := @EnvC.one _ _ _ (EX4.out.drew)
  (refine wpG_load rfl rfl (w.heap.size) rfl 25 _ _ (fun u hu => EnvC.box hu _ (wo (t)) (List.Mem.tail _ (List.Mem.tail _ (List.Mem.head _)))) Try.underlying25 rfl (wc_info _) ?_ (EX4.out.drew); intro K hK; go_big_quiet_op; go_big_quiet_on)
  (refine wpG_call (f := 19) (args := #[.int .u64 (1 : Nat)]) (v := .agg (wcs (1))) rfl rfl rfl Try.func19 rfl rfl (fun u _ => of_n 1 u (by decide)) ?_ (EX4.out.drew); intro K hK; go_big_quiet_op; go_big_quiet_on)
  (refine wpG_call (f := 20) (args := #[.agg (wcs (t)), .agg (wcs (1))]) (v := .tuple #[.agg (wcs (n)), .bool true]) rfl rfl rfl Try.func20 rfl rfl (fun u _ => add_yes t 1 n u hn.out hnB.out) ?_ (EX4.out.drew); intro K hK; go_big_quiet_op; go_big_quiet_on)
  (refine wpG_op rfl rfl rfl ?_; intro K hK; go_big_quiet_op; go_big_quiet_on)
  (refine wpG_op rfl rfl rfl ?_; intro K hK; go_big_quiet_op; go_big_quiet_on)
  (refine wpG_op rfl rfl rfl ?_; intro K hK; go_big_quiet_op; go_big_quiet_on)
  clear hone
  refine wpG_nil ?_
  (refine anyG_one (i := 6) (by kernel_rfl) (gOp_new (wo (0)) rfl (new_wide _) ?_); intro g6 hbg6 hfg6; intro K' hK'; go_big_quiet_op; go_big_quiet_on)
  have ng6x0 : Hid (g3 ≠ g6) := hfg6 (g3, _) (List.Mem.head _)
  have ng6x1 : Hid (w.heap.size + 1 ≠ g6) := hfg6 (w.heap.size + 1, _) (List.Mem.tail _ (List.Mem.head _))
  have ng6x2 : Hid (w.heap.size ≠ g6) := hfg6 (w.heap.size, _) (List.Mem.tail _ (List.Mem.tail _ (List.Mem.head _)))
  clear hfg6
  refine anyG_one (i := 7) (by kernel_rfl) (gOp_store rfl (g6) (wcs (n)) rfl rfl hbg6 25 (wcs (0)) (List.Mem.head _) (wc_info _) ((wc_size _).trans (wc_size _).symm) (wc_one _) [(g6, (wo (n))), (g3, (wo (k))), (w.heap.size + 1, (wo (s))), (w.heap.size, (wo (t)))] (List.forall_mem_cons.2 ⟨.inl rfl, (List.forall_mem_cons.2 ⟨.inr ⟨(List.Mem.tail _ (List.Mem.head _)), ng6x0.out⟩, (List.forall_mem_cons.2 ⟨.inr ⟨(List.Mem.tail _ (List.Mem.tail _ (List.Mem.head _))), ng6x1.out⟩, (List.forall_mem_cons.2 ⟨.inr ⟨(List.Mem.tail _ (List.Mem.tail _ (List.Mem.tail _ (List.Mem.head _)))), ng6x2.out⟩, (fun _ h => by cases h)⟩)⟩)⟩)⟩) ?_)
  (refine anyG_one (i := 8) (by kernel_rfl) (gOp_pure rfl rfl ?_); intro K' hK'; go_big_quiet_op; go_big_quiet_on)
  refine anyG_done (by kernel_rfl) ?_
  rintro u8 ⟨hl2, E2'⟩
  have EX7 := Lib.hid E2'
  clear hl2 E2' EX4
  go_upto_region 6 with (fail)
  refine wp_region_Gx (w0 := w) [0] [1, 2] [(g6, (wo (n))), (g3, (wo (k))), (w.heap.size + 1, (wo (s))), (w.heap.size, (wo (t)))] rfl EX7.out ?_
  have hone := @EnvC.one _ _ _ (EX7.out)
  (refine wpG_val (v := .agg (wcs (Big - 1))) rfl rfl (fun u _ => build_all u) ?_ (EX7.out); intro K hK; go_big_quiet_op; go_big_quiet_on)
  clear hone
  refine wpG_nil ?_
  (refine (gOp_new (wo (0)) rfl (new_wide _) ?_); intro g9 hbg9 hfg9; intro K' hK'; go_big_quiet_op; go_big_quiet_on)
  have ng9x0 : Hid (g6 ≠ g9) := hfg9 (g6, _) (List.Mem.head _)
  have ng9x1 : Hid (g3 ≠ g9) := hfg9 (g3, _) (List.Mem.tail _ (List.Mem.head _))
  have ng9x2 : Hid (w.heap.size + 1 ≠ g9) := hfg9 (w.heap.size + 1, _) (List.Mem.tail _ (List.Mem.tail _ (List.Mem.head _)))
  have ng9x3 : Hid (w.heap.size ≠ g9) := hfg9 (w.heap.size, _) (List.Mem.tail _ (List.Mem.tail _ (List.Mem.tail _ (List.Mem.head _))))
  clear hfg9
  refine (gOp_store rfl (g9) (wcs (Big - 1)) rfl rfl hbg9 25 (wcs (0)) (List.Mem.head _) (wc_info _) ((wc_size _).trans (wc_size _).symm) (wc_one _) [(g9, (wo (Big - 1))), (g6, (wo (n))), (g3, (wo (k))), (w.heap.size + 1, (wo (s))), (w.heap.size, (wo (t)))] (List.forall_mem_cons.2 ⟨.inl rfl, (List.forall_mem_cons.2 ⟨.inr ⟨(List.Mem.tail _ (List.Mem.head _)), ng9x0.out⟩, (List.forall_mem_cons.2 ⟨.inr ⟨(List.Mem.tail _ (List.Mem.tail _ (List.Mem.head _))), ng9x1.out⟩, (List.forall_mem_cons.2 ⟨.inr ⟨(List.Mem.tail _ (List.Mem.tail _ (List.Mem.tail _ (List.Mem.head _)))), ng9x2.out⟩, (List.forall_mem_cons.2 ⟨.inr ⟨(List.Mem.tail _ (List.Mem.tail _ (List.Mem.tail _ (List.Mem.tail _ (List.Mem.head _))))), ng9x3.out⟩, (fun _ h => by cases h)⟩)⟩)⟩)⟩)⟩) ?_)
  rintro u11 ⟨hl2, E2'⟩
  have EX10 := Lib.hid E2'
  clear hl2 E2' EX7
  go_upto_region 7 with (fail)
  refine wp_region_Gx (w0 := w) [0, 1, 2, 3, 4, 5, 6] [7, 8, 9, 10, 11] [(g9, (wo (Big - 1))), (g6, (wo (n))), (g3, (wo (k))), (w.heap.size + 1, (wo (s))), (w.heap.size, (wo (t)))] rfl EX10.out ?_
  have hone := @EnvC.one _ _ _ (EX10.out)
  (refine wpG_load rfl rfl (g9) rfl 25 _ _ (fun u hu => EnvC.box hu _ (wo (Big - 1)) (List.Mem.head _)) Try.underlying25 rfl (wc_info _) ?_ (EX10.out); intro K hK; go_big_quiet_op; go_big_quiet_on)
  (refine wpG_load rfl rfl (g6) rfl 25 _ _ (fun u hu => EnvC.box hu _ (wo (n)) (List.Mem.tail _ (List.Mem.head _))) Try.underlying25 rfl (wc_info _) ?_ (EX10.out); intro K hK; go_big_quiet_op; go_big_quiet_on)
  (refine wpG_call (f := 21) (args := #[.agg (wcs (Big - 1)), .agg (wcs (n))]) (v := .tuple #[.agg (wcs (q)), .agg (wcs (r)), .bool true]) rfl rfl rfl Try.func21 rfl rfl (fun u _ => (by have h := div_yes (Big - 1) n u (Nat.sub_lt Big_pos Nat.one_pos) hnB.out hn0.out; rw [hq.out, hr.out] at h; exact h)) ?_ (EX10.out); intro K hK; go_big_quiet_op; go_big_quiet_on)
  (refine wpG_op rfl rfl rfl ?_; intro K hK; go_big_quiet_op; go_big_quiet_on)
  (refine wpG_op rfl rfl rfl ?_; intro K hK; go_big_quiet_op; go_big_quiet_on)
  (refine wpG_op rfl rfl rfl ?_; intro K hK; go_big_quiet_op; go_big_quiet_on)
  (refine wpG_op rfl rfl rfl ?_; intro K hK; go_big_quiet_op; go_big_quiet_on)
  clear hone
  refine wpG_nil ?_
  (refine (gOp_new (wo (0)) rfl (new_wide _) ?_); intro g12 hbg12 hfg12; intro K' hK'; go_big_quiet_op; go_big_quiet_on)
  have ng12x0 : Hid (g9 ≠ g12) := hfg12 (g9, _) (List.Mem.head _)
  have ng12x1 : Hid (g6 ≠ g12) := hfg12 (g6, _) (List.Mem.tail _ (List.Mem.head _))
  have ng12x2 : Hid (g3 ≠ g12) := hfg12 (g3, _) (List.Mem.tail _ (List.Mem.tail _ (List.Mem.head _)))
  have ng12x3 : Hid (w.heap.size + 1 ≠ g12) := hfg12 (w.heap.size + 1, _) (List.Mem.tail _ (List.Mem.tail _ (List.Mem.tail _ (List.Mem.head _))))
  have ng12x4 : Hid (w.heap.size ≠ g12) := hfg12 (w.heap.size, _) (List.Mem.tail _ (List.Mem.tail _ (List.Mem.tail _ (List.Mem.tail _ (List.Mem.head _)))))
  clear hfg12
  (refine (gOp_new (wo (0)) rfl (new_wide _) ?_); intro g13 hbg13 hfg13; intro K' hK'; go_big_quiet_op; go_big_quiet_on)
  have ng13x5 : Hid (g12 ≠ g13) := hfg13 (g12, _) (List.Mem.head _)
  have ng13x6 : Hid (g9 ≠ g13) := hfg13 (g9, _) (List.Mem.tail _ (List.Mem.head _))
  have ng13x7 : Hid (g6 ≠ g13) := hfg13 (g6, _) (List.Mem.tail _ (List.Mem.tail _ (List.Mem.head _)))
  have ng13x8 : Hid (g3 ≠ g13) := hfg13 (g3, _) (List.Mem.tail _ (List.Mem.tail _ (List.Mem.tail _ (List.Mem.head _))))
  have ng13x9 : Hid (w.heap.size + 1 ≠ g13) := hfg13 (w.heap.size + 1, _) (List.Mem.tail _ (List.Mem.tail _ (List.Mem.tail _ (List.Mem.tail _ (List.Mem.head _)))))
  have ng13x10 : Hid (w.heap.size ≠ g13) := hfg13 (w.heap.size, _) (List.Mem.tail _ (List.Mem.tail _ (List.Mem.tail _ (List.Mem.tail _ (List.Mem.tail _ (List.Mem.head _))))))
  clear hfg13
  refine (gOp_store rfl (g12) (wcs (q)) rfl rfl hbg12 25 (wcs (0)) (List.Mem.tail _ (List.Mem.head _)) (wc_info _) ((wc_size _).trans (wc_size _).symm) (wc_one _) [(g12, (wo (q))), (g13, (wo (0))), (g9, (wo (Big - 1))), (g6, (wo (n))), (g3, (wo (k))), (w.heap.size + 1, (wo (s))), (w.heap.size, (wo (t)))] (List.forall_mem_cons.2 ⟨.inl rfl, (List.forall_mem_cons.2 ⟨.inr ⟨(List.Mem.head _), (Ne.symm ng13x5.out)⟩, (List.forall_mem_cons.2 ⟨.inr ⟨(List.Mem.tail _ (List.Mem.tail _ (List.Mem.head _))), ng12x0.out⟩, (List.forall_mem_cons.2 ⟨.inr ⟨(List.Mem.tail _ (List.Mem.tail _ (List.Mem.tail _ (List.Mem.head _)))), ng12x1.out⟩, (List.forall_mem_cons.2 ⟨.inr ⟨(List.Mem.tail _ (List.Mem.tail _ (List.Mem.tail _ (List.Mem.tail _ (List.Mem.head _))))), ng12x2.out⟩, (List.forall_mem_cons.2 ⟨.inr ⟨(List.Mem.tail _ (List.Mem.tail _ (List.Mem.tail _ (List.Mem.tail _ (List.Mem.tail _ (List.Mem.head _)))))), ng12x3.out⟩, (List.forall_mem_cons.2 ⟨.inr ⟨(List.Mem.tail _ (List.Mem.tail _ (List.Mem.tail _ (List.Mem.tail _ (List.Mem.tail _ (List.Mem.tail _ (List.Mem.head _))))))), ng12x4.out⟩, (fun _ h => by cases h)⟩)⟩)⟩)⟩)⟩)⟩)⟩) ?_)
  refine (gOp_store rfl (g13) (wcs (r)) rfl rfl hbg13 25 (wcs (0)) (List.Mem.tail _ (List.Mem.head _)) (wc_info _) ((wc_size _).trans (wc_size _).symm) (wc_one _) [(g13, (wo (r))), (g12, (wo (q))), (g9, (wo (Big - 1))), (g6, (wo (n))), (g3, (wo (k))), (w.heap.size + 1, (wo (s))), (w.heap.size, (wo (t)))] (List.forall_mem_cons.2 ⟨.inl rfl, (List.forall_mem_cons.2 ⟨.inr ⟨(List.Mem.head _), ng13x5.out⟩, (List.forall_mem_cons.2 ⟨.inr ⟨(List.Mem.tail _ (List.Mem.tail _ (List.Mem.head _))), ng13x6.out⟩, (List.forall_mem_cons.2 ⟨.inr ⟨(List.Mem.tail _ (List.Mem.tail _ (List.Mem.tail _ (List.Mem.head _)))), ng13x7.out⟩, (List.forall_mem_cons.2 ⟨.inr ⟨(List.Mem.tail _ (List.Mem.tail _ (List.Mem.tail _ (List.Mem.tail _ (List.Mem.head _))))), ng13x8.out⟩, (List.forall_mem_cons.2 ⟨.inr ⟨(List.Mem.tail _ (List.Mem.tail _ (List.Mem.tail _ (List.Mem.tail _ (List.Mem.tail _ (List.Mem.head _)))))), ng13x9.out⟩, (List.forall_mem_cons.2 ⟨.inr ⟨(List.Mem.tail _ (List.Mem.tail _ (List.Mem.tail _ (List.Mem.tail _ (List.Mem.tail _ (List.Mem.tail _ (List.Mem.head _))))))), ng13x10.out⟩, (fun _ h => by cases h)⟩)⟩)⟩)⟩)⟩)⟩)⟩) ?_)
  (refine (gOp_pure rfl rfl ?_); intro K' hK'; go_big_quiet_op; go_big_quiet_on)
  rintro u15 ⟨hl2, E2'⟩
  have EX14 := Lib.hid E2'
  clear hl2 E2' EX10
  go_upto_region 8 with (fail)
  refine wp_region_G (w0 := w) [0, 1, 2, 3, 4, 5] [(g13, (wo (r))), (g12, (wo (q))), (g9, (wo (Big - 1))), (g6, (wo (n))), (g3, (wo (k))), (w.heap.size + 1, (wo (s))), (w.heap.size, (wo (t)))] 3 (by kernel_rfl) (by kernel_rfl) rfl EX14.out ?_
  have hone := @EnvC.one _ _ _ (EX14.out.drew)
  (refine wpG_load rfl rfl (g12) rfl 25 _ _ (fun u hu => EnvC.box hu _ (wo (q)) (List.Mem.tail _ (List.Mem.head _))) Try.underlying25 rfl (wc_info _) ?_ (EX14.out.drew); intro K hK; go_big_quiet_op; go_big_quiet_on)
  (refine wpG_call (f := 19) (args := #[.int .u64 (1 : Nat)]) (v := .agg (wcs (1))) rfl rfl rfl Try.func19 rfl rfl (fun u _ => of_n 1 u (by decide)) ?_ (EX14.out.drew); intro K hK; go_big_quiet_op; go_big_quiet_on)
  (refine wpG_call (f := 20) (args := #[.agg (wcs (q)), .agg (wcs (1))]) (v := .tuple #[.agg (wcs (m)), .bool (mb)]) rfl rfl rfl Try.func20 rfl rfl (fun u _ => (by have h := add_any q 1 u hqB.out h1B.out; rw [hm.out, hmb.out] at h; exact h)) ?_ (EX14.out.drew); intro K hK; go_big_quiet_op; go_big_quiet_on)
  (refine wpG_op rfl rfl rfl ?_; intro K hK; go_big_quiet_op; go_big_quiet_on)
  (refine wpG_op rfl rfl rfl ?_; intro K hK; go_big_quiet_op; go_big_quiet_on)
  (refine wpG_op rfl rfl rfl ?_; intro K hK; go_big_quiet_op; go_big_quiet_on)
  clear hone
  refine wpG_nil ?_
  (refine anyG_one (i := 6) (by kernel_rfl) (gOp_new (wo (0)) rfl (new_wide _) ?_); intro g16 hbg16 hfg16; intro K' hK'; go_big_quiet_op; go_big_quiet_on)
  have ng16x0 : Hid (g13 ≠ g16) := hfg16 (g13, _) (List.Mem.head _)
  have ng16x1 : Hid (g12 ≠ g16) := hfg16 (g12, _) (List.Mem.tail _ (List.Mem.head _))
  have ng16x2 : Hid (g9 ≠ g16) := hfg16 (g9, _) (List.Mem.tail _ (List.Mem.tail _ (List.Mem.head _)))
  have ng16x3 : Hid (g6 ≠ g16) := hfg16 (g6, _) (List.Mem.tail _ (List.Mem.tail _ (List.Mem.tail _ (List.Mem.head _))))
  have ng16x4 : Hid (g3 ≠ g16) := hfg16 (g3, _) (List.Mem.tail _ (List.Mem.tail _ (List.Mem.tail _ (List.Mem.tail _ (List.Mem.head _)))))
  have ng16x5 : Hid (w.heap.size + 1 ≠ g16) := hfg16 (w.heap.size + 1, _) (List.Mem.tail _ (List.Mem.tail _ (List.Mem.tail _ (List.Mem.tail _ (List.Mem.tail _ (List.Mem.head _))))))
  have ng16x6 : Hid (w.heap.size ≠ g16) := hfg16 (w.heap.size, _) (List.Mem.tail _ (List.Mem.tail _ (List.Mem.tail _ (List.Mem.tail _ (List.Mem.tail _ (List.Mem.tail _ (List.Mem.head _)))))))
  clear hfg16
  refine anyG_one (i := 7) (by kernel_rfl) (gOp_store rfl (g16) (wcs (m)) rfl rfl hbg16 25 (wcs (0)) (List.Mem.head _) (wc_info _) ((wc_size _).trans (wc_size _).symm) (wc_one _) [(g16, (wo (m))), (g13, (wo (r))), (g12, (wo (q))), (g9, (wo (Big - 1))), (g6, (wo (n))), (g3, (wo (k))), (w.heap.size + 1, (wo (s))), (w.heap.size, (wo (t)))] (List.forall_mem_cons.2 ⟨.inl rfl, (List.forall_mem_cons.2 ⟨.inr ⟨(List.Mem.tail _ (List.Mem.head _)), ng16x0.out⟩, (List.forall_mem_cons.2 ⟨.inr ⟨(List.Mem.tail _ (List.Mem.tail _ (List.Mem.head _))), ng16x1.out⟩, (List.forall_mem_cons.2 ⟨.inr ⟨(List.Mem.tail _ (List.Mem.tail _ (List.Mem.tail _ (List.Mem.head _)))), ng16x2.out⟩, (List.forall_mem_cons.2 ⟨.inr ⟨(List.Mem.tail _ (List.Mem.tail _ (List.Mem.tail _ (List.Mem.tail _ (List.Mem.head _))))), ng16x3.out⟩, (List.forall_mem_cons.2 ⟨.inr ⟨(List.Mem.tail _ (List.Mem.tail _ (List.Mem.tail _ (List.Mem.tail _ (List.Mem.tail _ (List.Mem.head _)))))), ng16x4.out⟩, (List.forall_mem_cons.2 ⟨.inr ⟨(List.Mem.tail _ (List.Mem.tail _ (List.Mem.tail _ (List.Mem.tail _ (List.Mem.tail _ (List.Mem.tail _ (List.Mem.head _))))))), ng16x5.out⟩, (List.forall_mem_cons.2 ⟨.inr ⟨(List.Mem.tail _ (List.Mem.tail _ (List.Mem.tail _ (List.Mem.tail _ (List.Mem.tail _ (List.Mem.tail _ (List.Mem.tail _ (List.Mem.head _)))))))), ng16x6.out⟩, (fun _ h => by cases h)⟩)⟩)⟩)⟩)⟩)⟩)⟩)⟩) ?_)
  (refine anyG_one (i := 8) (by kernel_rfl) (gOp_pure rfl rfl ?_); intro K' hK'; go_big_quiet_op; go_big_quiet_on)
  refine anyG_done (by kernel_rfl) ?_
  rintro u18 ⟨hl2, E2'⟩
  have EX17 := Lib.hid E2'
  clear hl2 E2' EX14
  go_upto_region 9 with (fail)
  refine wp_region_G (w0 := w) [0, 1, 2, 3, 4, 5] [(g16, (wo (m))), (g13, (wo (r))), (g12, (wo (q))), (g9, (wo (Big - 1))), (g6, (wo (n))), (g3, (wo (k))), (w.heap.size + 1, (wo (s))), (w.heap.size, (wo (t)))] 3 (by kernel_rfl) (by kernel_rfl) rfl EX17.out ?_
  have hone := @EnvC.one _ _ _ (EX17.out.drew)
  (refine wpG_load rfl rfl (g13) rfl 25 _ _ (fun u hu => EnvC.box hu _ (wo (r)) (List.Mem.tail _ (List.Mem.head _))) Try.underlying25 rfl (wc_info _) ?_ (EX17.out.drew); intro K hK; go_big_quiet_op; go_big_quiet_on)
  (refine wpG_call (f := 19) (args := #[.int .u64 (1 : Nat)]) (v := .agg (wcs (1))) rfl rfl rfl Try.func19 rfl rfl (fun u _ => of_n 1 u (by decide)) ?_ (EX17.out.drew); intro K hK; go_big_quiet_op; go_big_quiet_on)
  (refine wpG_call (f := 20) (args := #[.agg (wcs (r)), .agg (wcs (1))]) (v := .tuple #[.agg (wcs (o)), .bool true]) rfl rfl rfl Try.func20 rfl rfl (fun u _ => add_yes r 1 o u ho.out hoB.out) ?_ (EX17.out.drew); intro K hK; go_big_quiet_op; go_big_quiet_on)
  (refine wpG_op rfl rfl rfl ?_; intro K hK; go_big_quiet_op; go_big_quiet_on)
  (refine wpG_op rfl rfl rfl ?_; intro K hK; go_big_quiet_op; go_big_quiet_on)
  (refine wpG_op rfl rfl rfl ?_; intro K hK; go_big_quiet_op; go_big_quiet_on)
  clear hone
  refine wpG_nil ?_
  (refine anyG_one (i := 6) (by kernel_rfl) (gOp_new (wo (0)) rfl (new_wide _) ?_); intro g19 hbg19 hfg19; intro K' hK'; go_big_quiet_op; go_big_quiet_on)
  have ng19x0 : Hid (g16 ≠ g19) := hfg19 (g16, _) (List.Mem.head _)
  have ng19x1 : Hid (g13 ≠ g19) := hfg19 (g13, _) (List.Mem.tail _ (List.Mem.head _))
  have ng19x2 : Hid (g12 ≠ g19) := hfg19 (g12, _) (List.Mem.tail _ (List.Mem.tail _ (List.Mem.head _)))
  have ng19x3 : Hid (g9 ≠ g19) := hfg19 (g9, _) (List.Mem.tail _ (List.Mem.tail _ (List.Mem.tail _ (List.Mem.head _))))
  have ng19x4 : Hid (g6 ≠ g19) := hfg19 (g6, _) (List.Mem.tail _ (List.Mem.tail _ (List.Mem.tail _ (List.Mem.tail _ (List.Mem.head _)))))
  have ng19x5 : Hid (g3 ≠ g19) := hfg19 (g3, _) (List.Mem.tail _ (List.Mem.tail _ (List.Mem.tail _ (List.Mem.tail _ (List.Mem.tail _ (List.Mem.head _))))))
  have ng19x6 : Hid (w.heap.size + 1 ≠ g19) := hfg19 (w.heap.size + 1, _) (List.Mem.tail _ (List.Mem.tail _ (List.Mem.tail _ (List.Mem.tail _ (List.Mem.tail _ (List.Mem.tail _ (List.Mem.head _)))))))
  have ng19x7 : Hid (w.heap.size ≠ g19) := hfg19 (w.heap.size, _) (List.Mem.tail _ (List.Mem.tail _ (List.Mem.tail _ (List.Mem.tail _ (List.Mem.tail _ (List.Mem.tail _ (List.Mem.tail _ (List.Mem.head _))))))))
  clear hfg19
  refine anyG_one (i := 7) (by kernel_rfl) (gOp_store rfl (g19) (wcs (o)) rfl rfl hbg19 25 (wcs (0)) (List.Mem.head _) (wc_info _) ((wc_size _).trans (wc_size _).symm) (wc_one _) [(g19, (wo (o))), (g16, (wo (m))), (g13, (wo (r))), (g12, (wo (q))), (g9, (wo (Big - 1))), (g6, (wo (n))), (g3, (wo (k))), (w.heap.size + 1, (wo (s))), (w.heap.size, (wo (t)))] (List.forall_mem_cons.2 ⟨.inl rfl, (List.forall_mem_cons.2 ⟨.inr ⟨(List.Mem.tail _ (List.Mem.head _)), ng19x0.out⟩, (List.forall_mem_cons.2 ⟨.inr ⟨(List.Mem.tail _ (List.Mem.tail _ (List.Mem.head _))), ng19x1.out⟩, (List.forall_mem_cons.2 ⟨.inr ⟨(List.Mem.tail _ (List.Mem.tail _ (List.Mem.tail _ (List.Mem.head _)))), ng19x2.out⟩, (List.forall_mem_cons.2 ⟨.inr ⟨(List.Mem.tail _ (List.Mem.tail _ (List.Mem.tail _ (List.Mem.tail _ (List.Mem.head _))))), ng19x3.out⟩, (List.forall_mem_cons.2 ⟨.inr ⟨(List.Mem.tail _ (List.Mem.tail _ (List.Mem.tail _ (List.Mem.tail _ (List.Mem.tail _ (List.Mem.head _)))))), ng19x4.out⟩, (List.forall_mem_cons.2 ⟨.inr ⟨(List.Mem.tail _ (List.Mem.tail _ (List.Mem.tail _ (List.Mem.tail _ (List.Mem.tail _ (List.Mem.tail _ (List.Mem.head _))))))), ng19x5.out⟩, (List.forall_mem_cons.2 ⟨.inr ⟨(List.Mem.tail _ (List.Mem.tail _ (List.Mem.tail _ (List.Mem.tail _ (List.Mem.tail _ (List.Mem.tail _ (List.Mem.tail _ (List.Mem.head _)))))))), ng19x6.out⟩, (List.forall_mem_cons.2 ⟨.inr ⟨(List.Mem.tail _ (List.Mem.tail _ (List.Mem.tail _ (List.Mem.tail _ (List.Mem.tail _ (List.Mem.tail _ (List.Mem.tail _ (List.Mem.tail _ (List.Mem.head _))))))))), ng19x7.out⟩, (fun _ h => by cases h)⟩)⟩)⟩)⟩)⟩)⟩)⟩)⟩)⟩) ?_)
  (refine anyG_one (i := 8) (by kernel_rfl) (gOp_pure rfl rfl ?_); intro K' hK'; go_big_quiet_op; go_big_quiet_on)
  refine anyG_done (by kernel_rfl) ?_
  rintro u21 ⟨hl2, E2'⟩
  have EX20 := Lib.hid E2'
  clear hl2 E2' EX17
  go_upto_region 10 with (fail)
  refine wp_region_G (w0 := w) [0, 1, 2, 3, 4, 5, 6, 7, 8, 9, 10, 11, 12, 13, 14, 15, 16, 17, 18, 19, 20, 21, 22, 23, 24, 25, 26, 27, 28, 29, 30, 31, 32, 33, 34] [(g19, (wo (o))), (g16, (wo (m))), (g13, (wo (r))), (g12, (wo (q))), (g9, (wo (Big - 1))), (g6, (wo (n))), (g3, (wo (k))), (w.heap.size + 1, (wo (s))), (w.heap.size, (wo (t)))] 0 (by kernel_rfl) (by kernel_rfl) rfl EX20.out ?_
  have hone := @EnvC.one _ _ _ (EX20.out.drew)
  (refine wpG_load rfl rfl (g3) rfl 25 _ _ (fun u hu => EnvC.box hu _ (wo (k)) (List.Mem.tail _ (List.Mem.tail _ (List.Mem.tail _ (List.Mem.tail _ (List.Mem.tail _ (List.Mem.tail _ (List.Mem.head _)))))))) Try.underlying25 rfl (wc_info _) ?_ (EX20.out.drew); intro K hK; go_big_quiet_op; go_big_quiet_on)
  (refine wpG_load rfl rfl (g16) rfl 25 _ _ (fun u hu => EnvC.box hu _ (wo (m)) (List.Mem.tail _ (List.Mem.head _))) Try.underlying25 rfl (wc_info _) ?_ (EX20.out.drew); intro K hK; go_big_quiet_op; go_big_quiet_on)
  (refine wpG_val (v := .bool (false)) rfl rfl (fun u _ => eql_op (hkB.out) (hmB.out) (e1.out) rfl rfl u) ?_ (EX20.out.drew); intro K hK; go_big_quiet_op; go_big_quiet_on)
  (refine wpG_load rfl rfl (g19) rfl 25 _ _ (fun u hu => EnvC.box hu _ (wo (o)) (List.Mem.head _)) Try.underlying25 rfl (wc_info _) ?_ (EX20.out.drew); intro K hK; go_big_quiet_op; go_big_quiet_on)
  (refine wpG_load rfl rfl (g6) rfl 25 _ _ (fun u hu => EnvC.box hu _ (wo (n)) (List.Mem.tail _ (List.Mem.tail _ (List.Mem.tail _ (List.Mem.tail _ (List.Mem.tail _ (List.Mem.head _))))))) Try.underlying25 rfl (wc_info _) ?_ (EX20.out.drew); intro K hK; go_big_quiet_op; go_big_quiet_on)
  (refine wpG_val (v := .bool (false)) rfl rfl (fun u _ => eql_op (hoB.out) (hnB.out) (e2.out) rfl rfl u) ?_ (EX20.out.drew); intro K hK; go_big_quiet_op; go_big_quiet_on)
  (refine wpG_op rfl rfl rfl ?_; intro K hK; go_big_quiet_op; go_big_quiet_on)
  (refine wpG_op rfl rfl rfl ?_; intro K hK; go_big_quiet_op; go_big_quiet_on)
  (refine wpG_load rfl rfl (g3) rfl 25 _ _ (fun u hu => EnvC.box hu _ (wo (k)) (List.Mem.tail _ (List.Mem.tail _ (List.Mem.tail _ (List.Mem.tail _ (List.Mem.tail _ (List.Mem.tail _ (List.Mem.head _)))))))) Try.underlying25 rfl (wc_info _) ?_ (EX20.out.drew); intro K hK; go_big_quiet_op; go_big_quiet_on)
  (refine wpG_load rfl rfl (g12) rfl 25 _ _ (fun u hu => EnvC.box hu _ (wo (q)) (List.Mem.tail _ (List.Mem.tail _ (List.Mem.tail _ (List.Mem.head _))))) Try.underlying25 rfl (wc_info _) ?_ (EX20.out.drew); intro K hK; go_big_quiet_op; go_big_quiet_on)
  (refine wpG_val (v := .bool (true)) rfl rfl (fun u _ => eql_op (hkB.out) (hqB.out) (e3.out) rfl rfl u) ?_ (EX20.out.drew); intro K hK; go_big_quiet_op; go_big_quiet_on)
  (refine wpG_load rfl rfl (g19) rfl 25 _ _ (fun u hu => EnvC.box hu _ (wo (o)) (List.Mem.head _)) Try.underlying25 rfl (wc_info _) ?_ (EX20.out.drew); intro K hK; go_big_quiet_op; go_big_quiet_on)
  (refine wpG_load rfl rfl (g6) rfl 25 _ _ (fun u hu => EnvC.box hu _ (wo (n)) (List.Mem.tail _ (List.Mem.tail _ (List.Mem.tail _ (List.Mem.tail _ (List.Mem.tail _ (List.Mem.head _))))))) Try.underlying25 rfl (wc_info _) ?_ (EX20.out.drew); intro K hK; go_big_quiet_op; go_big_quiet_on)
  (refine wpG_val (v := .bool (true)) rfl rfl (fun u _ => neq_op (hoB.out) (hnB.out) (e4.out) rfl rfl u) ?_ (EX20.out.drew); intro K hK; go_big_quiet_op; go_big_quiet_on)
  (refine wpG_op rfl rfl rfl ?_; intro K hK; go_big_quiet_op; go_big_quiet_on)
  (refine wpG_op rfl rfl rfl ?_; intro K hK; go_big_quiet_op; go_big_quiet_on)
  (refine wpG_op rfl rfl rfl ?_; intro K hK; go_big_quiet_op; go_big_quiet_on)
  (refine wpG_load rfl rfl (w.heap.size) rfl 25 _ _ (fun u hu => EnvC.box hu _ (wo (t)) (List.Mem.tail _ (List.Mem.tail _ (List.Mem.tail _ (List.Mem.tail _ (List.Mem.tail _ (List.Mem.tail _ (List.Mem.tail _ (List.Mem.tail _ (List.Mem.head _)))))))))) Try.underlying25 rfl (wc_info _) ?_ (EX20.out.drew); intro K hK; go_big_quiet_op; go_big_quiet_on)
  (refine wpG_op rfl rfl rfl ?_; intro K hK; go_big_quiet_op; go_big_quiet_on)
  (refine wpG_val (v := .bool (true)) rfl rfl (fun u _ => eql_op (ht.out) (Big_pos) (e5.out) rfl rfl u) ?_ (EX20.out.drew); intro K hK; go_big_quiet_op; go_big_quiet_on)
  (refine wpG_op rfl rfl rfl ?_; intro K hK; go_big_quiet_op; go_big_quiet_on)
  (refine wpG_skip rfl rfl ?_ EX20.out.drew; intro K hK; go_big_quiet_op; go_big_quiet_on)
  (refine wpG_skip rfl rfl ?_ EX20.out.drew; intro K hK; go_big_quiet_op; go_big_quiet_on)
  (refine wpG_skip rfl rfl ?_ EX20.out.drew; intro K hK; go_big_quiet_op; go_big_quiet_on)
  (refine wpG_skip rfl rfl ?_ EX20.out.drew; intro K hK; go_big_quiet_op; go_big_quiet_on)
  (refine wpG_op rfl rfl rfl ?_; intro K hK; go_big_quiet_op; go_big_quiet_on)
  (refine wpG_op rfl rfl rfl ?_; intro K hK; go_big_quiet_op; go_big_quiet_on)
  (refine wpG_skip rfl rfl ?_ EX20.out.drew; intro K hK; go_big_quiet_op; go_big_quiet_on)
  (refine wpG_skip rfl rfl ?_ EX20.out.drew; intro K hK; go_big_quiet_op; go_big_quiet_on)
  (refine wpG_skip rfl rfl ?_ EX20.out.drew; intro K hK; go_big_quiet_op; go_big_quiet_on)
  (refine wpG_skip rfl rfl ?_ EX20.out.drew; intro K hK; go_big_quiet_op; go_big_quiet_on)
  (refine wpG_skip rfl rfl ?_ EX20.out.drew; intro K hK; go_big_quiet_op; go_big_quiet_on)
  (refine wpG_op rfl rfl rfl ?_; intro K hK; go_big_quiet_op; go_big_quiet_on)
  (refine wpG_op rfl rfl rfl ?_; intro K hK; go_big_quiet_op; go_big_quiet_on)
  (refine wpG_op rfl rfl rfl ?_; intro K hK; go_big_quiet_op; go_big_quiet_on)
  clear hone
  refine wpG_nil ?_
  refine anyG_done (by kernel_rfl) ?_
  rintro u23 ⟨hl2, E2'⟩
  have EX22 := Lib.hid E2'
  clear hl2 E2' EX20
  go_wp2_with fail
  go_ret
  exact ⟨rfl, EX22.out.bel⟩
set_option maxRecDepth 100000 in
set_option maxHeartbeats 8000000 in
theorem lwork_b_gt (t s k n q r m o : Nat) (mb : Bool) (ht : Hid (t < Big)) (hs : Hid (s < Big)) (hkB : Hid (k < Big)) (hmB : Hid (m < Big)) (hoB : Hid (o < Big)) (hnB : Hid (n < Big)) (hn0 : Hid (0 < n)) (hqB : Hid (q < Big)) (h1B : Hid (1 < Big)) (hk : Hid (wkV t = k)) (hn : Hid (n = t + 1)) (hq : Hid ((Big - 1) / n = q)) (hr : Hid ((Big - 1) % n = r)) (hm : Hid ((q + 1) % Big = m)) (hmb : Hid (decide (q + 1 < Big) = mb)) (ho : Hid (o = r + 1)) (e1 : Hid (eqN k m = false)) (e2 : Hid (eqN o n = false)) (e3 : Hid (eqN k q = true)) (e4 : Hid ((!eqN o n) = true)) (e5 : Hid (eqN t 0 = false)) (c : Int) (hc : Hid (cmpI t s = c)) (n1 : 0 < c) (w : World) :
    Calls Try.prog 5 #[.agg (wcs (t)), .agg (wcs (s))] w fun e w' => e = .returned (.bool true) ∧ Below w.heap.size w w' := by
  have E1 : Hid (EnvX w ((w.alloc (.cells (wcs (t)) 25)).alloc (.cells (wcs (s)) 25)) [(w.heap.size + 1, (wo (s))), (w.heap.size, (wo (t)))]) := by
    have h := (((EnvX.start w).new (wo (t))).new (wo (s)))
    try simp only [World.size_alloc] at h
    exact h
  go_enter Try.func5, Try.ntmps5
  go_upto_region 1 with (fail)
  generalize ((w.alloc (.cells (wcs (t)) 25)).alloc (.cells (wcs (s)) 25)) = w1 at *
  refine wp_region_Gx (w0 := w) [0, 1] [] [(w.heap.size + 1, (wo (s))), (w.heap.size, (wo (t)))] rfl E1.out ?_
  have hone := @EnvC.one _ _ _ (E1.out)
  (refine wpG_call (f := 9) (args := #[]) (v := .bool true) rfl rfl rfl Try.func9 rfl rfl (fun u _ => awake_any u) ?_ (E1.out); intro K hK; go_big_quiet_op; go_big_quiet_on)
  (refine wpG_op rfl rfl rfl ?_; intro K hK; go_big_quiet_op; go_big_quiet_on)
  clear hone
  refine wpG_nil ?_
  rintro u2 ⟨hl2, E2'⟩
  have EX1 := Lib.hid E2'
  clear hl2 E2' E1
  go_upto_region 2 with (fail)
  refine wp_region_Gx (w0 := w) [0, 1] [2, 3] [(w.heap.size + 1, (wo (s))), (w.heap.size, (wo (t)))] rfl EX1.out ?_
  have hone := @EnvC.one _ _ _ (EX1.out)
  (refine wpG_load rfl rfl (w.heap.size) rfl 25 _ _ (fun u hu => EnvC.box hu _ (wo (t)) (List.Mem.tail _ (List.Mem.head _))) Try.underlying25 rfl (wc_info _) ?_ (EX1.out); intro K hK; go_big_quiet_op; go_big_quiet_on)
  (refine wpG_call (f := 14) (args := #[.agg (wcs (t))]) (v := .agg (wcs (k))) rfl rfl rfl Try.func14 rfl rfl (fun u _ => (by have h := work_any t u ht.out; rw [hk.out] at h; exact h)) ?_ (EX1.out); intro K hK; go_big_quiet_op; go_big_quiet_on)
  clear hone
  refine wpG_nil ?_
  (refine (gOp_new (wo (0)) rfl (new_wide _) ?_); intro g3 hbg3 hfg3; intro K' hK'; go_big_quiet_op; go_big_quiet_on)
  have ng3x0 : Hid (w.heap.size + 1 ≠ g3) := hfg3 (w.heap.size + 1, _) (List.Mem.head _)
  have ng3x1 : Hid (w.heap.size ≠ g3) := hfg3 (w.heap.size, _) (List.Mem.tail _ (List.Mem.head _))
  clear hfg3
  refine (gOp_store rfl (g3) (wcs (k)) rfl rfl hbg3 25 (wcs (0)) (List.Mem.head _) (wc_info _) ((wc_size _).trans (wc_size _).symm) (wc_one _) [(g3, (wo (k))), (w.heap.size + 1, (wo (s))), (w.heap.size, (wo (t)))] (List.forall_mem_cons.2 ⟨.inl rfl, (List.forall_mem_cons.2 ⟨.inr ⟨(List.Mem.tail _ (List.Mem.head _)), ng3x0.out⟩, (List.forall_mem_cons.2 ⟨.inr ⟨(List.Mem.tail _ (List.Mem.tail _ (List.Mem.head _))), ng3x1.out⟩, (fun _ h => by cases h)⟩)⟩)⟩) ?_)
  rintro u5 ⟨hl2, E2'⟩
  have EX4 := Lib.hid E2'
  clear hl2 E2' EX1
  go_upto_region 3 with (fail)
  refine wp_region_G (w0 := w) [0, 1, 2, 3, 4, 5] [(g3, (wo (k))), (w.heap.size + 1, (wo (s))), (w.heap.size, (wo (t)))] 3 (by kernel_rfl) (by kernel_rfl) rfl EX4.out ?_
  have hone := @EnvC.one _ _ _ (EX4.out.drew)
  (refine wpG_load rfl rfl (w.heap.size) rfl 25 _ _ (fun u hu => EnvC.box hu _ (wo (t)) (List.Mem.tail _ (List.Mem.tail _ (List.Mem.head _)))) Try.underlying25 rfl (wc_info _) ?_ (EX4.out.drew); intro K hK; go_big_quiet_op; go_big_quiet_on)
  (refine wpG_call (f := 19) (args := #[.int .u64 (1 : Nat)]) (v := .agg (wcs (1))) rfl rfl rfl Try.func19 rfl rfl (fun u _ => of_n 1 u (by decide)) ?_ (EX4.out.drew); intro K hK; go_big_quiet_op; go_big_quiet_on)
  (refine wpG_call (f := 20) (args := #[.agg (wcs (t)), .agg (wcs (1))]) (v := .tuple #[.agg (wcs (n)), .bool true]) rfl rfl rfl Try.func20 rfl rfl (fun u _ => add_yes t 1 n u hn.out hnB.out) ?_ (EX4.out.drew); intro K hK; go_big_quiet_op; go_big_quiet_on)
  (refine wpG_op rfl rfl rfl ?_; intro K hK; go_big_quiet_op; go_big_quiet_on)
  (refine wpG_op rfl rfl rfl ?_; intro K hK; go_big_quiet_op; go_big_quiet_on)
  (refine wpG_op rfl rfl rfl ?_; intro K hK; go_big_quiet_op; go_big_quiet_on)
  clear hone
  refine wpG_nil ?_
  (refine anyG_one (i := 6) (by kernel_rfl) (gOp_new (wo (0)) rfl (new_wide _) ?_); intro g6 hbg6 hfg6; intro K' hK'; go_big_quiet_op; go_big_quiet_on)
  have ng6x0 : Hid (g3 ≠ g6) := hfg6 (g3, _) (List.Mem.head _)
  have ng6x1 : Hid (w.heap.size + 1 ≠ g6) := hfg6 (w.heap.size + 1, _) (List.Mem.tail _ (List.Mem.head _))
  have ng6x2 : Hid (w.heap.size ≠ g6) := hfg6 (w.heap.size, _) (List.Mem.tail _ (List.Mem.tail _ (List.Mem.head _)))
  clear hfg6
  refine anyG_one (i := 7) (by kernel_rfl) (gOp_store rfl (g6) (wcs (n)) rfl rfl hbg6 25 (wcs (0)) (List.Mem.head _) (wc_info _) ((wc_size _).trans (wc_size _).symm) (wc_one _) [(g6, (wo (n))), (g3, (wo (k))), (w.heap.size + 1, (wo (s))), (w.heap.size, (wo (t)))] (List.forall_mem_cons.2 ⟨.inl rfl, (List.forall_mem_cons.2 ⟨.inr ⟨(List.Mem.tail _ (List.Mem.head _)), ng6x0.out⟩, (List.forall_mem_cons.2 ⟨.inr ⟨(List.Mem.tail _ (List.Mem.tail _ (List.Mem.head _))), ng6x1.out⟩, (List.forall_mem_cons.2 ⟨.inr ⟨(List.Mem.tail _ (List.Mem.tail _ (List.Mem.tail _ (List.Mem.head _)))), ng6x2.out⟩, (fun _ h => by cases h)⟩)⟩)⟩)⟩) ?_)
  (refine anyG_one (i := 8) (by kernel_rfl) (gOp_pure rfl rfl ?_); intro K' hK'; go_big_quiet_op; go_big_quiet_on)
  refine anyG_done (by kernel_rfl) ?_
  rintro u8 ⟨hl2, E2'⟩
  have EX7 := Lib.hid E2'
  clear hl2 E2' EX4
  go_upto_region 6 with (fail)
  refine wp_region_Gx (w0 := w) [0] [1, 2] [(g6, (wo (n))), (g3, (wo (k))), (w.heap.size + 1, (wo (s))), (w.heap.size, (wo (t)))] rfl EX7.out ?_
  have hone := @EnvC.one _ _ _ (EX7.out)
  (refine wpG_val (v := .agg (wcs (Big - 1))) rfl rfl (fun u _ => build_all u) ?_ (EX7.out); intro K hK; go_big_quiet_op; go_big_quiet_on)
  clear hone
  refine wpG_nil ?_
  (refine (gOp_new (wo (0)) rfl (new_wide _) ?_); intro g9 hbg9 hfg9; intro K' hK'; go_big_quiet_op; go_big_quiet_on)
  have ng9x0 : Hid (g6 ≠ g9) := hfg9 (g6, _) (List.Mem.head _)
  have ng9x1 : Hid (g3 ≠ g9) := hfg9 (g3, _) (List.Mem.tail _ (List.Mem.head _))
  have ng9x2 : Hid (w.heap.size + 1 ≠ g9) := hfg9 (w.heap.size + 1, _) (List.Mem.tail _ (List.Mem.tail _ (List.Mem.head _)))
  have ng9x3 : Hid (w.heap.size ≠ g9) := hfg9 (w.heap.size, _) (List.Mem.tail _ (List.Mem.tail _ (List.Mem.tail _ (List.Mem.head _))))
  clear hfg9
  refine (gOp_store rfl (g9) (wcs (Big - 1)) rfl rfl hbg9 25 (wcs (0)) (List.Mem.head _) (wc_info _) ((wc_size _).trans (wc_size _).symm) (wc_one _) [(g9, (wo (Big - 1))), (g6, (wo (n))), (g3, (wo (k))), (w.heap.size + 1, (wo (s))), (w.heap.size, (wo (t)))] (List.forall_mem_cons.2 ⟨.inl rfl, (List.forall_mem_cons.2 ⟨.inr ⟨(List.Mem.tail _ (List.Mem.head _)), ng9x0.out⟩, (List.forall_mem_cons.2 ⟨.inr ⟨(List.Mem.tail _ (List.Mem.tail _ (List.Mem.head _))), ng9x1.out⟩, (List.forall_mem_cons.2 ⟨.inr ⟨(List.Mem.tail _ (List.Mem.tail _ (List.Mem.tail _ (List.Mem.head _)))), ng9x2.out⟩, (List.forall_mem_cons.2 ⟨.inr ⟨(List.Mem.tail _ (List.Mem.tail _ (List.Mem.tail _ (List.Mem.tail _ (List.Mem.head _))))), ng9x3.out⟩, (fun _ h => by cases h)⟩)⟩)⟩)⟩)⟩) ?_)
  rintro u11 ⟨hl2, E2'⟩
  have EX10 := Lib.hid E2'
  clear hl2 E2' EX7
  go_upto_region 7 with (fail)
  refine wp_region_Gx (w0 := w) [0, 1, 2, 3, 4, 5, 6] [7, 8, 9, 10, 11] [(g9, (wo (Big - 1))), (g6, (wo (n))), (g3, (wo (k))), (w.heap.size + 1, (wo (s))), (w.heap.size, (wo (t)))] rfl EX10.out ?_
  have hone := @EnvC.one _ _ _ (EX10.out)
  (refine wpG_load rfl rfl (g9) rfl 25 _ _ (fun u hu => EnvC.box hu _ (wo (Big - 1)) (List.Mem.head _)) Try.underlying25 rfl (wc_info _) ?_ (EX10.out); intro K hK; go_big_quiet_op; go_big_quiet_on)
  (refine wpG_load rfl rfl (g6) rfl 25 _ _ (fun u hu => EnvC.box hu _ (wo (n)) (List.Mem.tail _ (List.Mem.head _))) Try.underlying25 rfl (wc_info _) ?_ (EX10.out); intro K hK; go_big_quiet_op; go_big_quiet_on)
  (refine wpG_call (f := 21) (args := #[.agg (wcs (Big - 1)), .agg (wcs (n))]) (v := .tuple #[.agg (wcs (q)), .agg (wcs (r)), .bool true]) rfl rfl rfl Try.func21 rfl rfl (fun u _ => (by have h := div_yes (Big - 1) n u (Nat.sub_lt Big_pos Nat.one_pos) hnB.out hn0.out; rw [hq.out, hr.out] at h; exact h)) ?_ (EX10.out); intro K hK; go_big_quiet_op; go_big_quiet_on)
  (refine wpG_op rfl rfl rfl ?_; intro K hK; go_big_quiet_op; go_big_quiet_on)
  (refine wpG_op rfl rfl rfl ?_; intro K hK; go_big_quiet_op; go_big_quiet_on)
  (refine wpG_op rfl rfl rfl ?_; intro K hK; go_big_quiet_op; go_big_quiet_on)
  (refine wpG_op rfl rfl rfl ?_; intro K hK; go_big_quiet_op; go_big_quiet_on)
  clear hone
  refine wpG_nil ?_
  (refine (gOp_new (wo (0)) rfl (new_wide _) ?_); intro g12 hbg12 hfg12; intro K' hK'; go_big_quiet_op; go_big_quiet_on)
  have ng12x0 : Hid (g9 ≠ g12) := hfg12 (g9, _) (List.Mem.head _)
  have ng12x1 : Hid (g6 ≠ g12) := hfg12 (g6, _) (List.Mem.tail _ (List.Mem.head _))
  have ng12x2 : Hid (g3 ≠ g12) := hfg12 (g3, _) (List.Mem.tail _ (List.Mem.tail _ (List.Mem.head _)))
  have ng12x3 : Hid (w.heap.size + 1 ≠ g12) := hfg12 (w.heap.size + 1, _) (List.Mem.tail _ (List.Mem.tail _ (List.Mem.tail _ (List.Mem.head _))))
  have ng12x4 : Hid (w.heap.size ≠ g12) := hfg12 (w.heap.size, _) (List.Mem.tail _ (List.Mem.tail _ (List.Mem.tail _ (List.Mem.tail _ (List.Mem.head _)))))
  clear hfg12
  (refine (gOp_new (wo (0)) rfl (new_wide _) ?_); intro g13 hbg13 hfg13; intro K' hK'; go_big_quiet_op; go_big_quiet_on)
  have ng13x5 : Hid (g12 ≠ g13) := hfg13 (g12, _) (List.Mem.head _)
  have ng13x6 : Hid (g9 ≠ g13) := hfg13 (g9, _) (List.Mem.tail _ (List.Mem.head _))
  have ng13x7 : Hid (g6 ≠ g13) := hfg13 (g6, _) (List.Mem.tail _ (List.Mem.tail _ (List.Mem.head _)))
  have ng13x8 : Hid (g3 ≠ g13) := hfg13 (g3, _) (List.Mem.tail _ (List.Mem.tail _ (List.Mem.tail _ (List.Mem.head _))))
  have ng13x9 : Hid (w.heap.size + 1 ≠ g13) := hfg13 (w.heap.size + 1, _) (List.Mem.tail _ (List.Mem.tail _ (List.Mem.tail _ (List.Mem.tail _ (List.Mem.head _)))))
  have ng13x10 : Hid (w.heap.size ≠ g13) := hfg13 (w.heap.size, _) (List.Mem.tail _ (List.Mem.tail _ (List.Mem.tail _ (List.Mem.tail _ (List.Mem.tail _ (List.Mem.head _))))))
  clear hfg13
  refine (gOp_store rfl (g12) (wcs (q)) rfl rfl hbg12 25 (wcs (0)) (List.Mem.tail _ (List.Mem.head _)) (wc_info _) ((wc_size _).trans (wc_size _).symm) (wc_one _) [(g12, (wo (q))), (g13, (wo (0))), (g9, (wo (Big - 1))), (g6, (wo (n))), (g3, (wo (k))), (w.heap.size + 1, (wo (s))), (w.heap.size, (wo (t)))] (List.forall_mem_cons.2 ⟨.inl rfl, (List.forall_mem_cons.2 ⟨.inr ⟨(List.Mem.head _), (Ne.symm ng13x5.out)⟩, (List.forall_mem_cons.2 ⟨.inr ⟨(List.Mem.tail _ (List.Mem.tail _ (List.Mem.head _))), ng12x0.out⟩, (List.forall_mem_cons.2 ⟨.inr ⟨(List.Mem.tail _ (List.Mem.tail _ (List.Mem.tail _ (List.Mem.head _)))), ng12x1.out⟩, (List.forall_mem_cons.2 ⟨.inr ⟨(List.Mem.tail _ (List.Mem.tail _ (List.Mem.tail _ (List.Mem.tail _ (List.Mem.head _))))), ng12x2.out⟩, (List.forall_mem_cons.2 ⟨.inr ⟨(List.Mem.tail _ (List.Mem.tail _ (List.Mem.tail _ (List.Mem.tail _ (List.Mem.tail _ (List.Mem.head _)))))), ng12x3.out⟩, (List.forall_mem_cons.2 ⟨.inr ⟨(List.Mem.tail _ (List.Mem.tail _ (List.Mem.tail _ (List.Mem.tail _ (List.Mem.tail _ (List.Mem.tail _ (List.Mem.head _))))))), ng12x4.out⟩, (fun _ h => by cases h)⟩)⟩)⟩)⟩)⟩)⟩)⟩) ?_)
  refine (gOp_store rfl (g13) (wcs (r)) rfl rfl hbg13 25 (wcs (0)) (List.Mem.tail _ (List.Mem.head _)) (wc_info _) ((wc_size _).trans (wc_size _).symm) (wc_one _) [(g13, (wo (r))), (g12, (wo (q))), (g9, (wo (Big - 1))), (g6, (wo (n))), (g3, (wo (k))), (w.heap.size + 1, (wo (s))), (w.heap.size, (wo (t)))] (List.forall_mem_cons.2 ⟨.inl rfl, (List.forall_mem_cons.2 ⟨.inr ⟨(List.Mem.head _), ng13x5.out⟩, (List.forall_mem_cons.2 ⟨.inr ⟨(List.Mem.tail _ (List.Mem.tail _ (List.Mem.head _))), ng13x6.out⟩, (List.forall_mem_cons.2 ⟨.inr ⟨(List.Mem.tail _ (List.Mem.tail _ (List.Mem.tail _ (List.Mem.head _)))), ng13x7.out⟩, (List.forall_mem_cons.2 ⟨.inr ⟨(List.Mem.tail _ (List.Mem.tail _ (List.Mem.tail _ (List.Mem.tail _ (List.Mem.head _))))), ng13x8.out⟩, (List.forall_mem_cons.2 ⟨.inr ⟨(List.Mem.tail _ (List.Mem.tail _ (List.Mem.tail _ (List.Mem.tail _ (List.Mem.tail _ (List.Mem.head _)))))), ng13x9.out⟩, (List.forall_mem_cons.2 ⟨.inr ⟨(List.Mem.tail _ (List.Mem.tail _ (List.Mem.tail _ (List.Mem.tail _ (List.Mem.tail _ (List.Mem.tail _ (List.Mem.head _))))))), ng13x10.out⟩, (fun _ h => by cases h)⟩)⟩)⟩)⟩)⟩)⟩)⟩) ?_)
  (refine (gOp_pure rfl rfl ?_); intro K' hK'; go_big_quiet_op; go_big_quiet_on)
  rintro u15 ⟨hl2, E2'⟩
  have EX14 := Lib.hid E2'
  clear hl2 E2' EX10
  go_upto_region 8 with (fail)
  refine wp_region_G (w0 := w) [0, 1, 2, 3, 4, 5] [(g13, (wo (r))), (g12, (wo (q))), (g9, (wo (Big - 1))), (g6, (wo (n))), (g3, (wo (k))), (w.heap.size + 1, (wo (s))), (w.heap.size, (wo (t)))] 3 (by kernel_rfl) (by kernel_rfl) rfl EX14.out ?_
  have hone := @EnvC.one _ _ _ (EX14.out.drew)
  (refine wpG_load rfl rfl (g12) rfl 25 _ _ (fun u hu => EnvC.box hu _ (wo (q)) (List.Mem.tail _ (List.Mem.head _))) Try.underlying25 rfl (wc_info _) ?_ (EX14.out.drew); intro K hK; go_big_quiet_op; go_big_quiet_on)
  (refine wpG_call (f := 19) (args := #[.int .u64 (1 : Nat)]) (v := .agg (wcs (1))) rfl rfl rfl Try.func19 rfl rfl (fun u _ => of_n 1 u (by decide)) ?_ (EX14.out.drew); intro K hK; go_big_quiet_op; go_big_quiet_on)
  (refine wpG_call (f := 20) (args := #[.agg (wcs (q)), .agg (wcs (1))]) (v := .tuple #[.agg (wcs (m)), .bool (mb)]) rfl rfl rfl Try.func20 rfl rfl (fun u _ => (by have h := add_any q 1 u hqB.out h1B.out; rw [hm.out, hmb.out] at h; exact h)) ?_ (EX14.out.drew); intro K hK; go_big_quiet_op; go_big_quiet_on)
  (refine wpG_op rfl rfl rfl ?_; intro K hK; go_big_quiet_op; go_big_quiet_on)
  (refine wpG_op rfl rfl rfl ?_; intro K hK; go_big_quiet_op; go_big_quiet_on)
  (refine wpG_op rfl rfl rfl ?_; intro K hK; go_big_quiet_op; go_big_quiet_on)
  clear hone
  refine wpG_nil ?_
  (refine anyG_one (i := 6) (by kernel_rfl) (gOp_new (wo (0)) rfl (new_wide _) ?_); intro g16 hbg16 hfg16; intro K' hK'; go_big_quiet_op; go_big_quiet_on)
  have ng16x0 : Hid (g13 ≠ g16) := hfg16 (g13, _) (List.Mem.head _)
  have ng16x1 : Hid (g12 ≠ g16) := hfg16 (g12, _) (List.Mem.tail _ (List.Mem.head _))
  have ng16x2 : Hid (g9 ≠ g16) := hfg16 (g9, _) (List.Mem.tail _ (List.Mem.tail _ (List.Mem.head _)))
  have ng16x3 : Hid (g6 ≠ g16) := hfg16 (g6, _) (List.Mem.tail _ (List.Mem.tail _ (List.Mem.tail _ (List.Mem.head _))))
  have ng16x4 : Hid (g3 ≠ g16) := hfg16 (g3, _) (List.Mem.tail _ (List.Mem.tail _ (List.Mem.tail _ (List.Mem.tail _ (List.Mem.head _)))))
  have ng16x5 : Hid (w.heap.size + 1 ≠ g16) := hfg16 (w.heap.size + 1, _) (List.Mem.tail _ (List.Mem.tail _ (List.Mem.tail _ (List.Mem.tail _ (List.Mem.tail _ (List.Mem.head _))))))
  have ng16x6 : Hid (w.heap.size ≠ g16) := hfg16 (w.heap.size, _) (List.Mem.tail _ (List.Mem.tail _ (List.Mem.tail _ (List.Mem.tail _ (List.Mem.tail _ (List.Mem.tail _ (List.Mem.head _)))))))
  clear hfg16
  refine anyG_one (i := 7) (by kernel_rfl) (gOp_store rfl (g16) (wcs (m)) rfl rfl hbg16 25 (wcs (0)) (List.Mem.head _) (wc_info _) ((wc_size _).trans (wc_size _).symm) (wc_one _) [(g16, (wo (m))), (g13, (wo (r))), (g12, (wo (q))), (g9, (wo (Big - 1))), (g6, (wo (n))), (g3, (wo (k))), (w.heap.size + 1, (wo (s))), (w.heap.size, (wo (t)))] (List.forall_mem_cons.2 ⟨.inl rfl, (List.forall_mem_cons.2 ⟨.inr ⟨(List.Mem.tail _ (List.Mem.head _)), ng16x0.out⟩, (List.forall_mem_cons.2 ⟨.inr ⟨(List.Mem.tail _ (List.Mem.tail _ (List.Mem.head _))), ng16x1.out⟩, (List.forall_mem_cons.2 ⟨.inr ⟨(List.Mem.tail _ (List.Mem.tail _ (List.Mem.tail _ (List.Mem.head _)))), ng16x2.out⟩, (List.forall_mem_cons.2 ⟨.inr ⟨(List.Mem.tail _ (List.Mem.tail _ (List.Mem.tail _ (List.Mem.tail _ (List.Mem.head _))))), ng16x3.out⟩, (List.forall_mem_cons.2 ⟨.inr ⟨(List.Mem.tail _ (List.Mem.tail _ (List.Mem.tail _ (List.Mem.tail _ (List.Mem.tail _ (List.Mem.head _)))))), ng16x4.out⟩, (List.forall_mem_cons.2 ⟨.inr ⟨(List.Mem.tail _ (List.Mem.tail _ (List.Mem.tail _ (List.Mem.tail _ (List.Mem.tail _ (List.Mem.tail _ (List.Mem.head _))))))), ng16x5.out⟩, (List.forall_mem_cons.2 ⟨.inr ⟨(List.Mem.tail _ (List.Mem.tail _ (List.Mem.tail _ (List.Mem.tail _ (List.Mem.tail _ (List.Mem.tail _ (List.Mem.tail _ (List.Mem.head _)))))))), ng16x6.out⟩, (fun _ h => by cases h)⟩)⟩)⟩)⟩)⟩)⟩)⟩)⟩) ?_)
  (refine anyG_one (i := 8) (by kernel_rfl) (gOp_pure rfl rfl ?_); intro K' hK'; go_big_quiet_op; go_big_quiet_on)
  refine anyG_done (by kernel_rfl) ?_
  rintro u18 ⟨hl2, E2'⟩
  have EX17 := Lib.hid E2'
  clear hl2 E2' EX14
  go_upto_region 9 with (fail)
  refine wp_region_G (w0 := w) [0, 1, 2, 3, 4, 5] [(g16, (wo (m))), (g13, (wo (r))), (g12, (wo (q))), (g9, (wo (Big - 1))), (g6, (wo (n))), (g3, (wo (k))), (w.heap.size + 1, (wo (s))), (w.heap.size, (wo (t)))] 3 (by kernel_rfl) (by kernel_rfl) rfl EX17.out ?_
  have hone := @EnvC.one _ _ _ (EX17.out.drew)
  (refine wpG_load rfl rfl (g13) rfl 25 _ _ (fun u hu => EnvC.box hu _ (wo (r)) (List.Mem.tail _ (List.Mem.head _))) Try.underlying25 rfl (wc_info _) ?_ (EX17.out.drew); intro K hK; go_big_quiet_op; go_big_quiet_on)
  (refine wpG_call (f := 19) (args := #[.int .u64 (1 : Nat)]) (v := .agg (wcs (1))) rfl rfl rfl Try.func19 rfl rfl (fun u _ => of_n 1 u (by decide)) ?_ (EX17.out.drew); intro K hK; go_big_quiet_op; go_big_quiet_on)
  (refine wpG_call (f := 20) (args := #[.agg (wcs (r)), .agg (wcs (1))]) (v := .tuple #[.agg (wcs (o)), .bool true]) rfl rfl rfl Try.func20 rfl rfl (fun u _ => add_yes r 1 o u ho.out hoB.out) ?_ (EX17.out.drew); intro K hK; go_big_quiet_op; go_big_quiet_on)
  (refine wpG_op rfl rfl rfl ?_; intro K hK; go_big_quiet_op; go_big_quiet_on)
  (refine wpG_op rfl rfl rfl ?_; intro K hK; go_big_quiet_op; go_big_quiet_on)
  (refine wpG_op rfl rfl rfl ?_; intro K hK; go_big_quiet_op; go_big_quiet_on)
  clear hone
  refine wpG_nil ?_
  (refine anyG_one (i := 6) (by kernel_rfl) (gOp_new (wo (0)) rfl (new_wide _) ?_); intro g19 hbg19 hfg19; intro K' hK'; go_big_quiet_op; go_big_quiet_on)
  have ng19x0 : Hid (g16 ≠ g19) := hfg19 (g16, _) (List.Mem.head _)
  have ng19x1 : Hid (g13 ≠ g19) := hfg19 (g13, _) (List.Mem.tail _ (List.Mem.head _))
  have ng19x2 : Hid (g12 ≠ g19) := hfg19 (g12, _) (List.Mem.tail _ (List.Mem.tail _ (List.Mem.head _)))
  have ng19x3 : Hid (g9 ≠ g19) := hfg19 (g9, _) (List.Mem.tail _ (List.Mem.tail _ (List.Mem.tail _ (List.Mem.head _))))
  have ng19x4 : Hid (g6 ≠ g19) := hfg19 (g6, _) (List.Mem.tail _ (List.Mem.tail _ (List.Mem.tail _ (List.Mem.tail _ (List.Mem.head _)))))
  have ng19x5 : Hid (g3 ≠ g19) := hfg19 (g3, _) (List.Mem.tail _ (List.Mem.tail _ (List.Mem.tail _ (List.Mem.tail _ (List.Mem.tail _ (List.Mem.head _))))))
  have ng19x6 : Hid (w.heap.size + 1 ≠ g19) := hfg19 (w.heap.size + 1, _) (List.Mem.tail _ (List.Mem.tail _ (List.Mem.tail _ (List.Mem.tail _ (List.Mem.tail _ (List.Mem.tail _ (List.Mem.head _)))))))
  have ng19x7 : Hid (w.heap.size ≠ g19) := hfg19 (w.heap.size, _) (List.Mem.tail _ (List.Mem.tail _ (List.Mem.tail _ (List.Mem.tail _ (List.Mem.tail _ (List.Mem.tail _ (List.Mem.tail _ (List.Mem.head _))))))))
  clear hfg19
  refine anyG_one (i := 7) (by kernel_rfl) (gOp_store rfl (g19) (wcs (o)) rfl rfl hbg19 25 (wcs (0)) (List.Mem.head _) (wc_info _) ((wc_size _).trans (wc_size _).symm) (wc_one _) [(g19, (wo (o))), (g16, (wo (m))), (g13, (wo (r))), (g12, (wo (q))), (g9, (wo (Big - 1))), (g6, (wo (n))), (g3, (wo (k))), (w.heap.size + 1, (wo (s))), (w.heap.size, (wo (t)))] (List.forall_mem_cons.2 ⟨.inl rfl, (List.forall_mem_cons.2 ⟨.inr ⟨(List.Mem.tail _ (List.Mem.head _)), ng19x0.out⟩, (List.forall_mem_cons.2 ⟨.inr ⟨(List.Mem.tail _ (List.Mem.tail _ (List.Mem.head _))), ng19x1.out⟩, (List.forall_mem_cons.2 ⟨.inr ⟨(List.Mem.tail _ (List.Mem.tail _ (List.Mem.tail _ (List.Mem.head _)))), ng19x2.out⟩, (List.forall_mem_cons.2 ⟨.inr ⟨(List.Mem.tail _ (List.Mem.tail _ (List.Mem.tail _ (List.Mem.tail _ (List.Mem.head _))))), ng19x3.out⟩, (List.forall_mem_cons.2 ⟨.inr ⟨(List.Mem.tail _ (List.Mem.tail _ (List.Mem.tail _ (List.Mem.tail _ (List.Mem.tail _ (List.Mem.head _)))))), ng19x4.out⟩, (List.forall_mem_cons.2 ⟨.inr ⟨(List.Mem.tail _ (List.Mem.tail _ (List.Mem.tail _ (List.Mem.tail _ (List.Mem.tail _ (List.Mem.tail _ (List.Mem.head _))))))), ng19x5.out⟩, (List.forall_mem_cons.2 ⟨.inr ⟨(List.Mem.tail _ (List.Mem.tail _ (List.Mem.tail _ (List.Mem.tail _ (List.Mem.tail _ (List.Mem.tail _ (List.Mem.tail _ (List.Mem.head _)))))))), ng19x6.out⟩, (List.forall_mem_cons.2 ⟨.inr ⟨(List.Mem.tail _ (List.Mem.tail _ (List.Mem.tail _ (List.Mem.tail _ (List.Mem.tail _ (List.Mem.tail _ (List.Mem.tail _ (List.Mem.tail _ (List.Mem.head _))))))))), ng19x7.out⟩, (fun _ h => by cases h)⟩)⟩)⟩)⟩)⟩)⟩)⟩)⟩)⟩) ?_)
  (refine anyG_one (i := 8) (by kernel_rfl) (gOp_pure rfl rfl ?_); intro K' hK'; go_big_quiet_op; go_big_quiet_on)
  refine anyG_done (by kernel_rfl) ?_
  rintro u21 ⟨hl2, E2'⟩
  have EX20 := Lib.hid E2'
  clear hl2 E2' EX17
  go_upto_region 10 with (fail)
  refine wp_region_G (w0 := w) [0, 1, 2, 3, 4, 5, 6, 7, 8, 9, 10, 11, 12, 13, 14, 15, 16, 17, 18, 19, 20, 21, 22, 23, 24, 25, 26, 27, 28, 29, 30, 31, 32, 33, 34] [(g19, (wo (o))), (g16, (wo (m))), (g13, (wo (r))), (g12, (wo (q))), (g9, (wo (Big - 1))), (g6, (wo (n))), (g3, (wo (k))), (w.heap.size + 1, (wo (s))), (w.heap.size, (wo (t)))] 0 (by kernel_rfl) (by kernel_rfl) rfl EX20.out ?_
  have hone := @EnvC.one _ _ _ (EX20.out.drew)
  (refine wpG_load rfl rfl (g3) rfl 25 _ _ (fun u hu => EnvC.box hu _ (wo (k)) (List.Mem.tail _ (List.Mem.tail _ (List.Mem.tail _ (List.Mem.tail _ (List.Mem.tail _ (List.Mem.tail _ (List.Mem.head _)))))))) Try.underlying25 rfl (wc_info _) ?_ (EX20.out.drew); intro K hK; go_big_quiet_op; go_big_quiet_on)
  (refine wpG_load rfl rfl (g16) rfl 25 _ _ (fun u hu => EnvC.box hu _ (wo (m)) (List.Mem.tail _ (List.Mem.head _))) Try.underlying25 rfl (wc_info _) ?_ (EX20.out.drew); intro K hK; go_big_quiet_op; go_big_quiet_on)
  (refine wpG_val (v := .bool (false)) rfl rfl (fun u _ => eql_op (hkB.out) (hmB.out) (e1.out) rfl rfl u) ?_ (EX20.out.drew); intro K hK; go_big_quiet_op; go_big_quiet_on)
  (refine wpG_load rfl rfl (g19) rfl 25 _ _ (fun u hu => EnvC.box hu _ (wo (o)) (List.Mem.head _)) Try.underlying25 rfl (wc_info _) ?_ (EX20.out.drew); intro K hK; go_big_quiet_op; go_big_quiet_on)
  (refine wpG_load rfl rfl (g6) rfl 25 _ _ (fun u hu => EnvC.box hu _ (wo (n)) (List.Mem.tail _ (List.Mem.tail _ (List.Mem.tail _ (List.Mem.tail _ (List.Mem.tail _ (List.Mem.head _))))))) Try.underlying25 rfl (wc_info _) ?_ (EX20.out.drew); intro K hK; go_big_quiet_op; go_big_quiet_on)
  (refine wpG_val (v := .bool (false)) rfl rfl (fun u _ => eql_op (hoB.out) (hnB.out) (e2.out) rfl rfl u) ?_ (EX20.out.drew); intro K hK; go_big_quiet_op; go_big_quiet_on)
  (refine wpG_op rfl rfl rfl ?_; intro K hK; go_big_quiet_op; go_big_quiet_on)
  (refine wpG_op rfl rfl rfl ?_; intro K hK; go_big_quiet_op; go_big_quiet_on)
  (refine wpG_load rfl rfl (g3) rfl 25 _ _ (fun u hu => EnvC.box hu _ (wo (k)) (List.Mem.tail _ (List.Mem.tail _ (List.Mem.tail _ (List.Mem.tail _ (List.Mem.tail _ (List.Mem.tail _ (List.Mem.head _)))))))) Try.underlying25 rfl (wc_info _) ?_ (EX20.out.drew); intro K hK; go_big_quiet_op; go_big_quiet_on)
  (refine wpG_load rfl rfl (g12) rfl 25 _ _ (fun u hu => EnvC.box hu _ (wo (q)) (List.Mem.tail _ (List.Mem.tail _ (List.Mem.tail _ (List.Mem.head _))))) Try.underlying25 rfl (wc_info _) ?_ (EX20.out.drew); intro K hK; go_big_quiet_op; go_big_quiet_on)
  (refine wpG_val (v := .bool (true)) rfl rfl (fun u _ => eql_op (hkB.out) (hqB.out) (e3.out) rfl rfl u) ?_ (EX20.out.drew); intro K hK; go_big_quiet_op; go_big_quiet_on)
  (refine wpG_load rfl rfl (g19) rfl 25 _ _ (fun u hu => EnvC.box hu _ (wo (o)) (List.Mem.head _)) Try.underlying25 rfl (wc_info _) ?_ (EX20.out.drew); intro K hK; go_big_quiet_op; go_big_quiet_on)
  (refine wpG_load rfl rfl (g6) rfl 25 _ _ (fun u hu => EnvC.box hu _ (wo (n)) (List.Mem.tail _ (List.Mem.tail _ (List.Mem.tail _ (List.Mem.tail _ (List.Mem.tail _ (List.Mem.head _))))))) Try.underlying25 rfl (wc_info _) ?_ (EX20.out.drew); intro K hK; go_big_quiet_op; go_big_quiet_on)
  (refine wpG_val (v := .bool (true)) rfl rfl (fun u _ => neq_op (hoB.out) (hnB.out) (e4.out) rfl rfl u) ?_ (EX20.out.drew); intro K hK; go_big_quiet_op; go_big_quiet_on)
  (refine wpG_op rfl rfl rfl ?_; intro K hK; go_big_quiet_op; go_big_quiet_on)
  (refine wpG_op rfl rfl rfl ?_; intro K hK; go_big_quiet_op; go_big_quiet_on)
  (refine wpG_op rfl rfl rfl ?_; intro K hK; go_big_quiet_op; go_big_quiet_on)
  (refine wpG_load rfl rfl (w.heap.size) rfl 25 _ _ (fun u hu => EnvC.box hu _ (wo (t)) (List.Mem.tail _ (List.Mem.tail _ (List.Mem.tail _ (List.Mem.tail _ (List.Mem.tail _ (List.Mem.tail _ (List.Mem.tail _ (List.Mem.tail _ (List.Mem.head _)))))))))) Try.underlying25 rfl (wc_info _) ?_ (EX20.out.drew); intro K hK; go_big_quiet_op; go_big_quiet_on)
  (refine wpG_op rfl rfl rfl ?_; intro K hK; go_big_quiet_op; go_big_quiet_on)
  (refine wpG_val (v := .bool (false)) rfl rfl (fun u _ => eql_op (ht.out) (Big_pos) (e5.out) rfl rfl u) ?_ (EX20.out.drew); intro K hK; go_big_quiet_op; go_big_quiet_on)
  (refine wpG_op rfl rfl rfl ?_; intro K hK; go_big_quiet_op; go_big_quiet_on)
  (refine wpG_load rfl rfl (w.heap.size) rfl 25 _ _ (fun u hu => EnvC.box hu _ (wo (t)) (List.Mem.tail _ (List.Mem.tail _ (List.Mem.tail _ (List.Mem.tail _ (List.Mem.tail _ (List.Mem.tail _ (List.Mem.tail _ (List.Mem.tail _ (List.Mem.head _)))))))))) Try.underlying25 rfl (wc_info _) ?_ (EX20.out.drew); intro K hK; go_big_quiet_op; go_big_quiet_on)
  (refine wpG_load rfl rfl (w.heap.size + 1) rfl 25 _ _ (fun u hu => EnvC.box hu _ (wo (s)) (List.Mem.tail _ (List.Mem.tail _ (List.Mem.tail _ (List.Mem.tail _ (List.Mem.tail _ (List.Mem.tail _ (List.Mem.tail _ (List.Mem.head _))))))))) Try.underlying25 rfl (wc_info _) ?_ (EX20.out.drew); intro K hK; go_big_quiet_op; go_big_quiet_on)
  (refine wpG_call (f := 18) (args := #[.agg (wcs (t)), .agg (wcs (s))]) (v := .int .i64 c) rfl rfl rfl Try.func18 rfl rfl (fun u _ => (by rw [← hc.out]; exact cmp_any (t) (s) u ht.out hs.out)) ?_ (EX20.out.drew); intro K hK; go_big_quiet_op; go_big_quiet_on)
  (refine wpG_op rfl rfl rfl ?_; intro K hK; go_big_quiet_op; go_big_quiet_on)
  (refine wpG_op rfl rfl rfl ?_; intro K hK; go_big_quiet_op; go_big_quiet_on)
  (refine wpG_op rfl rfl rfl ?_; intro K hK; go_big_quiet_op; go_big_quiet_on)
  (refine wpG_skip rfl rfl ?_ EX20.out.drew; intro K hK; go_big_quiet_op; go_big_quiet_on)
  (refine wpG_skip rfl rfl ?_ EX20.out.drew; intro K hK; go_big_quiet_op; go_big_quiet_on)
  (refine wpG_skip rfl rfl ?_ EX20.out.drew; intro K hK; go_big_quiet_op; go_big_quiet_on)
  (refine wpG_skip rfl rfl ?_ EX20.out.drew; intro K hK; go_big_quiet_op; go_big_quiet_on)
  (refine wpG_skip rfl rfl ?_ EX20.out.drew; intro K hK; go_big_quiet_op; go_big_quiet_on)
  (refine wpG_op rfl rfl rfl ?_; intro K hK; go_big_quiet_op; go_big_quiet_on)
  (refine wpG_op rfl rfl rfl ?_; intro K hK; go_big_quiet_op; go_big_quiet_on)
  (refine wpG_op rfl rfl rfl ?_; intro K hK; go_big_quiet_op; go_big_quiet_on)
  clear hone
  refine wpG_nil ?_
  refine anyG_done (by kernel_rfl) ?_
  rintro u23 ⟨hl2, E2'⟩
  have EX22 := Lib.hid E2'
  clear hl2 E2' EX20
  go_wp2_with fail
  go_ret
  exact ⟨rfl, EX22.out.bel⟩
set_option maxRecDepth 100000 in
set_option maxHeartbeats 8000000 in
theorem lwork_b_le (t s k n q r m o : Nat) (mb : Bool) (ht : Hid (t < Big)) (hs : Hid (s < Big)) (hkB : Hid (k < Big)) (hmB : Hid (m < Big)) (hoB : Hid (o < Big)) (hnB : Hid (n < Big)) (hn0 : Hid (0 < n)) (hqB : Hid (q < Big)) (h1B : Hid (1 < Big)) (hk : Hid (wkV t = k)) (hn : Hid (n = t + 1)) (hq : Hid ((Big - 1) / n = q)) (hr : Hid ((Big - 1) % n = r)) (hm : Hid ((q + 1) % Big = m)) (hmb : Hid (decide (q + 1 < Big) = mb)) (ho : Hid (o = r + 1)) (e1 : Hid (eqN k m = false)) (e2 : Hid (eqN o n = false)) (e3 : Hid (eqN k q = true)) (e4 : Hid ((!eqN o n) = true)) (e5 : Hid (eqN t 0 = false)) (c : Int) (hc : Hid (cmpI t s = c)) (n1 : ¬ 0 < c) (k2 : Nat) (c2 : Int) (hk2B : Hid (k2 < Big)) (hk2 : Hid (wkV s = k2)) (hc2 : Hid (cmpI k2 k = c2)) (n2 : c2 ≤ 0) (w : World) :
    Calls Try.prog 5 #[.agg (wcs (t)), .agg (wcs (s))] w fun e w' => e = .returned (.bool true) ∧ Below w.heap.size w w' := by
  have E1 : Hid (EnvX w ((w.alloc (.cells (wcs (t)) 25)).alloc (.cells (wcs (s)) 25)) [(w.heap.size + 1, (wo (s))), (w.heap.size, (wo (t)))]) := by
    have h := (((EnvX.start w).new (wo (t))).new (wo (s)))
    try simp only [World.size_alloc] at h
    exact h
  go_enter Try.func5, Try.ntmps5
  go_upto_region 1 with (fail)
  generalize ((w.alloc (.cells (wcs (t)) 25)).alloc (.cells (wcs (s)) 25)) = w1 at *
  refine wp_region_Gx (w0 := w) [0, 1] [] [(w.heap.size + 1, (wo (s))), (w.heap.size, (wo (t)))] rfl E1.out ?_
  have hone := @EnvC.one _ _ _ (E1.out)
  (refine wpG_call (f := 9) (args := #[]) (v := .bool true) rfl rfl rfl Try.func9 rfl rfl (fun u _ => awake_any u) ?_ (E1.out); intro K hK; go_big_quiet_op; go_big_quiet_on)
  (refine wpG_op rfl rfl rfl ?_; intro K hK; go_big_quiet_op; go_big_quiet_on)
  clear hone
  refine wpG_nil ?_
  rintro u2 ⟨hl2, E2'⟩
  have EX1 := Lib.hid E2'
  clear hl2 E2' E1
  go_upto_region 2 with (fail)
  refine wp_region_Gx (w0 := w) [0, 1] [2, 3] [(w.heap.size + 1, (wo (s))), (w.heap.size, (wo (t)))] rfl EX1.out ?_
  have hone := @EnvC.one _ _ _ (EX1.out)
  (refine wpG_load rfl rfl (w.heap.size) rfl 25 _ _ (fun u hu => EnvC.box hu _ (wo (t)) (List.Mem.tail _ (List.Mem.head _))) Try.underlying25 rfl (wc_info _) ?_ (EX1.out); intro K hK; go_big_quiet_op; go_big_quiet_on)
  (refine wpG_call (f := 14) (args := #[.agg (wcs (t))]) (v := .agg (wcs (k))) rfl rfl rfl Try.func14 rfl rfl (fun u _ => (by have h := work_any t u ht.out; rw [hk.out] at h; exact h)) ?_ (EX1.out); intro K hK; go_big_quiet_op; go_big_quiet_on)
  clear hone
  refine wpG_nil ?_
  (refine (gOp_new (wo (0)) rfl (new_wide _) ?_); intro g3 hbg3 hfg3; intro K' hK'; go_big_quiet_op; go_big_quiet_on)
  have ng3x0 : Hid (w.heap.size + 1 ≠ g3) := hfg3 (w.heap.size + 1, _) (List.Mem.head _)
  have ng3x1 : Hid (w.heap.size ≠ g3) := hfg3 (w.heap.size, _) (List.Mem.tail _ (List.Mem.head _))
  clear hfg3
  refine (gOp_store rfl (g3) (wcs (k)) rfl rfl hbg3 25 (wcs (0)) (List.Mem.head _) (wc_info _) ((wc_size _).trans (wc_size _).symm) (wc_one _) [(g3, (wo (k))), (w.heap.size + 1, (wo (s))), (w.heap.size, (wo (t)))] (List.forall_mem_cons.2 ⟨.inl rfl, (List.forall_mem_cons.2 ⟨.inr ⟨(List.Mem.tail _ (List.Mem.head _)), ng3x0.out⟩, (List.forall_mem_cons.2 ⟨.inr ⟨(List.Mem.tail _ (List.Mem.tail _ (List.Mem.head _))), ng3x1.out⟩, (fun _ h => by cases h)⟩)⟩)⟩) ?_)
  rintro u5 ⟨hl2, E2'⟩
  have EX4 := Lib.hid E2'
  clear hl2 E2' EX1
  go_upto_region 3 with (fail)
  refine wp_region_G (w0 := w) [0, 1, 2, 3, 4, 5] [(g3, (wo (k))), (w.heap.size + 1, (wo (s))), (w.heap.size, (wo (t)))] 3 (by kernel_rfl) (by kernel_rfl) rfl EX4.out ?_
  have hone := @EnvC.one _ _ _ (EX4.out.drew)
  (refine wpG_load rfl rfl (w.heap.size) rfl 25 _ _ (fun u hu => EnvC.box hu _ (wo (t)) (List.Mem.tail _ (List.Mem.tail _ (List.Mem.head _)))) Try.underlying25 rfl (wc_info _) ?_ (EX4.out.drew); intro K hK; go_big_quiet_op; go_big_quiet_on)
  (refine wpG_call (f := 19) (args := #[.int .u64 (1 : Nat)]) (v := .agg (wcs (1))) rfl rfl rfl Try.func19 rfl rfl (fun u _ => of_n 1 u (by decide)) ?_ (EX4.out.drew); intro K hK; go_big_quiet_op; go_big_quiet_on)
  (refine wpG_call (f := 20) (args := #[.agg (wcs (t)), .agg (wcs (1))]) (v := .tuple #[.agg (wcs (n)), .bool true]) rfl rfl rfl Try.func20 rfl rfl (fun u _ => add_yes t 1 n u hn.out hnB.out) ?_ (EX4.out.drew); intro K hK; go_big_quiet_op; go_big_quiet_on)
  (refine wpG_op rfl rfl rfl ?_; intro K hK; go_big_quiet_op; go_big_quiet_on)
  (refine wpG_op rfl rfl rfl ?_; intro K hK; go_big_quiet_op; go_big_quiet_on)
  (refine wpG_op rfl rfl rfl ?_; intro K hK; go_big_quiet_op; go_big_quiet_on)
  clear hone
  refine wpG_nil ?_
  (refine anyG_one (i := 6) (by kernel_rfl) (gOp_new (wo (0)) rfl (new_wide _) ?_); intro g6 hbg6 hfg6; intro K' hK'; go_big_quiet_op; go_big_quiet_on)
  have ng6x0 : Hid (g3 ≠ g6) := hfg6 (g3, _) (List.Mem.head _)
  have ng6x1 : Hid (w.heap.size + 1 ≠ g6) := hfg6 (w.heap.size + 1, _) (List.Mem.tail _ (List.Mem.head _))
  have ng6x2 : Hid (w.heap.size ≠ g6) := hfg6 (w.heap.size, _) (List.Mem.tail _ (List.Mem.tail _ (List.Mem.head _)))
  clear hfg6
  refine anyG_one (i := 7) (by kernel_rfl) (gOp_store rfl (g6) (wcs (n)) rfl rfl hbg6 25 (wcs (0)) (List.Mem.head _) (wc_info _) ((wc_size _).trans (wc_size _).symm) (wc_one _) [(g6, (wo (n))), (g3, (wo (k))), (w.heap.size + 1, (wo (s))), (w.heap.size, (wo (t)))] (List.forall_mem_cons.2 ⟨.inl rfl, (List.forall_mem_cons.2 ⟨.inr ⟨(List.Mem.tail _ (List.Mem.head _)), ng6x0.out⟩, (List.forall_mem_cons.2 ⟨.inr ⟨(List.Mem.tail _ (List.Mem.tail _ (List.Mem.head _))), ng6x1.out⟩, (List.forall_mem_cons.2 ⟨.inr ⟨(List.Mem.tail _ (List.Mem.tail _ (List.Mem.tail _ (List.Mem.head _)))), ng6x2.out⟩, (fun _ h => by cases h)⟩)⟩)⟩)⟩) ?_)
  (refine anyG_one (i := 8) (by kernel_rfl) (gOp_pure rfl rfl ?_); intro K' hK'; go_big_quiet_op; go_big_quiet_on)
  refine anyG_done (by kernel_rfl) ?_
  rintro u8 ⟨hl2, E2'⟩
  have EX7 := Lib.hid E2'
  clear hl2 E2' EX4
  go_upto_region 6 with (fail)
  refine wp_region_Gx (w0 := w) [0] [1, 2] [(g6, (wo (n))), (g3, (wo (k))), (w.heap.size + 1, (wo (s))), (w.heap.size, (wo (t)))] rfl EX7.out ?_
  have hone := @EnvC.one _ _ _ (EX7.out)
  (refine wpG_val (v := .agg (wcs (Big - 1))) rfl rfl (fun u _ => build_all u) ?_ (EX7.out); intro K hK; go_big_quiet_op; go_big_quiet_on)
  clear hone
  refine wpG_nil ?_
  (refine (gOp_new (wo (0)) rfl (new_wide _) ?_); intro g9 hbg9 hfg9; intro K' hK'; go_big_quiet_op; go_big_quiet_on)
  have ng9x0 : Hid (g6 ≠ g9) := hfg9 (g6, _) (List.Mem.head _)
  have ng9x1 : Hid (g3 ≠ g9) := hfg9 (g3, _) (List.Mem.tail _ (List.Mem.head _))
  have ng9x2 : Hid (w.heap.size + 1 ≠ g9) := hfg9 (w.heap.size + 1, _) (List.Mem.tail _ (List.Mem.tail _ (List.Mem.head _)))
  have ng9x3 : Hid (w.heap.size ≠ g9) := hfg9 (w.heap.size, _) (List.Mem.tail _ (List.Mem.tail _ (List.Mem.tail _ (List.Mem.head _))))
  clear hfg9
  refine (gOp_store rfl (g9) (wcs (Big - 1)) rfl rfl hbg9 25 (wcs (0)) (List.Mem.head _) (wc_info _) ((wc_size _).trans (wc_size _).symm) (wc_one _) [(g9, (wo (Big - 1))), (g6, (wo (n))), (g3, (wo (k))), (w.heap.size + 1, (wo (s))), (w.heap.size, (wo (t)))] (List.forall_mem_cons.2 ⟨.inl rfl, (List.forall_mem_cons.2 ⟨.inr ⟨(List.Mem.tail _ (List.Mem.head _)), ng9x0.out⟩, (List.forall_mem_cons.2 ⟨.inr ⟨(List.Mem.tail _ (List.Mem.tail _ (List.Mem.head _))), ng9x1.out⟩, (List.forall_mem_cons.2 ⟨.inr ⟨(List.Mem.tail _ (List.Mem.tail _ (List.Mem.tail _ (List.Mem.head _)))), ng9x2.out⟩, (List.forall_mem_cons.2 ⟨.inr ⟨(List.Mem.tail _ (List.Mem.tail _ (List.Mem.tail _ (List.Mem.tail _ (List.Mem.head _))))), ng9x3.out⟩, (fun _ h => by cases h)⟩)⟩)⟩)⟩)⟩) ?_)
  rintro u11 ⟨hl2, E2'⟩
  have EX10 := Lib.hid E2'
  clear hl2 E2' EX7
  go_upto_region 7 with (fail)
  refine wp_region_Gx (w0 := w) [0, 1, 2, 3, 4, 5, 6] [7, 8, 9, 10, 11] [(g9, (wo (Big - 1))), (g6, (wo (n))), (g3, (wo (k))), (w.heap.size + 1, (wo (s))), (w.heap.size, (wo (t)))] rfl EX10.out ?_
  have hone := @EnvC.one _ _ _ (EX10.out)
  (refine wpG_load rfl rfl (g9) rfl 25 _ _ (fun u hu => EnvC.box hu _ (wo (Big - 1)) (List.Mem.head _)) Try.underlying25 rfl (wc_info _) ?_ (EX10.out); intro K hK; go_big_quiet_op; go_big_quiet_on)
  (refine wpG_load rfl rfl (g6) rfl 25 _ _ (fun u hu => EnvC.box hu _ (wo (n)) (List.Mem.tail _ (List.Mem.head _))) Try.underlying25 rfl (wc_info _) ?_ (EX10.out); intro K hK; go_big_quiet_op; go_big_quiet_on)
  (refine wpG_call (f := 21) (args := #[.agg (wcs (Big - 1)), .agg (wcs (n))]) (v := .tuple #[.agg (wcs (q)), .agg (wcs (r)), .bool true]) rfl rfl rfl Try.func21 rfl rfl (fun u _ => (by have h := div_yes (Big - 1) n u (Nat.sub_lt Big_pos Nat.one_pos) hnB.out hn0.out; rw [hq.out, hr.out] at h; exact h)) ?_ (EX10.out); intro K hK; go_big_quiet_op; go_big_quiet_on)
  (refine wpG_op rfl rfl rfl ?_; intro K hK; go_big_quiet_op; go_big_quiet_on)
  (refine wpG_op rfl rfl rfl ?_; intro K hK; go_big_quiet_op; go_big_quiet_on)
  (refine wpG_op rfl rfl rfl ?_; intro K hK; go_big_quiet_op; go_big_quiet_on)
  (refine wpG_op rfl rfl rfl ?_; intro K hK; go_big_quiet_op; go_big_quiet_on)
  clear hone
  refine wpG_nil ?_
  (refine (gOp_new (wo (0)) rfl (new_wide _) ?_); intro g12 hbg12 hfg12; intro K' hK'; go_big_quiet_op; go_big_quiet_on)
  have ng12x0 : Hid (g9 ≠ g12) := hfg12 (g9, _) (List.Mem.head _)
  have ng12x1 : Hid (g6 ≠ g12) := hfg12 (g6, _) (List.Mem.tail _ (List.Mem.head _))
  have ng12x2 : Hid (g3 ≠ g12) := hfg12 (g3, _) (List.Mem.tail _ (List.Mem.tail _ (List.Mem.head _)))
  have ng12x3 : Hid (w.heap.size + 1 ≠ g12) := hfg12 (w.heap.size + 1, _) (List.Mem.tail _ (List.Mem.tail _ (List.Mem.tail _ (List.Mem.head _))))
  have ng12x4 : Hid (w.heap.size ≠ g12) := hfg12 (w.heap.size, _) (List.Mem.tail _ (List.Mem.tail _ (List.Mem.tail _ (List.Mem.tail _ (List.Mem.head _)))))
  clear hfg12
  (refine (gOp_new (wo (0)) rfl (new_wide _) ?_); intro g13 hbg13 hfg13; intro K' hK'; go_big_quiet_op; go_big_quiet_on)
  have ng13x5 : Hid (g12 ≠ g13) := hfg13 (g12, _) (List.Mem.head _)
  have ng13x6 : Hid (g9 ≠ g13) := hfg13 (g9, _) (List.Mem.tail _ (List.Mem.head _))
  have ng13x7 : Hid (g6 ≠ g13) := hfg13 (g6, _) (List.Mem.tail _ (List.Mem.tail _ (List.Mem.head _)))
  have ng13x8 : Hid (g3 ≠ g13) := hfg13 (g3, _) (List.Mem.tail _ (List.Mem.tail _ (List.Mem.tail _ (List.Mem.head _))))
  have ng13x9 : Hid (w.heap.size + 1 ≠ g13) := hfg13 (w.heap.size + 1, _) (List.Mem.tail _ (List.Mem.tail _ (List.Mem.tail _ (List.Mem.tail _ (List.Mem.head _)))))
  have ng13x10 : Hid (w.heap.size ≠ g13) := hfg13 (w.heap.size, _) (List.Mem.tail _ (List.Mem.tail _ (List.Mem.tail _ (List.Mem.tail _ (List.Mem.tail _ (List.Mem.head _))))))
  clear hfg13
  refine (gOp_store rfl (g12) (wcs (q)) rfl rfl hbg12 25 (wcs (0)) (List.Mem.tail _ (List.Mem.head _)) (wc_info _) ((wc_size _).trans (wc_size _).symm) (wc_one _) [(g12, (wo (q))), (g13, (wo (0))), (g9, (wo (Big - 1))), (g6, (wo (n))), (g3, (wo (k))), (w.heap.size + 1, (wo (s))), (w.heap.size, (wo (t)))] (List.forall_mem_cons.2 ⟨.inl rfl, (List.forall_mem_cons.2 ⟨.inr ⟨(List.Mem.head _), (Ne.symm ng13x5.out)⟩, (List.forall_mem_cons.2 ⟨.inr ⟨(List.Mem.tail _ (List.Mem.tail _ (List.Mem.head _))), ng12x0.out⟩, (List.forall_mem_cons.2 ⟨.inr ⟨(List.Mem.tail _ (List.Mem.tail _ (List.Mem.tail _ (List.Mem.head _)))), ng12x1.out⟩, (List.forall_mem_cons.2 ⟨.inr ⟨(List.Mem.tail _ (List.Mem.tail _ (List.Mem.tail _ (List.Mem.tail _ (List.Mem.head _))))), ng12x2.out⟩, (List.forall_mem_cons.2 ⟨.inr ⟨(List.Mem.tail _ (List.Mem.tail _ (List.Mem.tail _ (List.Mem.tail _ (List.Mem.tail _ (List.Mem.head _)))))), ng12x3.out⟩, (List.forall_mem_cons.2 ⟨.inr ⟨(List.Mem.tail _ (List.Mem.tail _ (List.Mem.tail _ (List.Mem.tail _ (List.Mem.tail _ (List.Mem.tail _ (List.Mem.head _))))))), ng12x4.out⟩, (fun _ h => by cases h)⟩)⟩)⟩)⟩)⟩)⟩)⟩) ?_)
  refine (gOp_store rfl (g13) (wcs (r)) rfl rfl hbg13 25 (wcs (0)) (List.Mem.tail _ (List.Mem.head _)) (wc_info _) ((wc_size _).trans (wc_size _).symm) (wc_one _) [(g13, (wo (r))), (g12, (wo (q))), (g9, (wo (Big - 1))), (g6, (wo (n))), (g3, (wo (k))), (w.heap.size + 1, (wo (s))), (w.heap.size, (wo (t)))] (List.forall_mem_cons.2 ⟨.inl rfl, (List.forall_mem_cons.2 ⟨.inr ⟨(List.Mem.head _), ng13x5.out⟩, (List.forall_mem_cons.2 ⟨.inr ⟨(List.Mem.tail _ (List.Mem.tail _ (List.Mem.head _))), ng13x6.out⟩, (List.forall_mem_cons.2 ⟨.inr ⟨(List.Mem.tail _ (List.Mem.tail _ (List.Mem.tail _ (List.Mem.head _)))), ng13x7.out⟩, (List.forall_mem_cons.2 ⟨.inr ⟨(List.Mem.tail _ (List.Mem.tail _ (List.Mem.tail _ (List.Mem.tail _ (List.Mem.head _))))), ng13x8.out⟩, (List.forall_mem_cons.2 ⟨.inr ⟨(List.Mem.tail _ (List.Mem.tail _ (List.Mem.tail _ (List.Mem.tail _ (List.Mem.tail _ (List.Mem.head _)))))), ng13x9.out⟩, (List.forall_mem_cons.2 ⟨.inr ⟨(List.Mem.tail _ (List.Mem.tail _ (List.Mem.tail _ (List.Mem.tail _ (List.Mem.tail _ (List.Mem.tail _ (List.Mem.head _))))))), ng13x10.out⟩, (fun _ h => by cases h)⟩)⟩)⟩)⟩)⟩)⟩)⟩) ?_)
  (refine (gOp_pure rfl rfl ?_); intro K' hK'; go_big_quiet_op; go_big_quiet_on)
  rintro u15 ⟨hl2, E2'⟩
  have EX14 := Lib.hid E2'
  clear hl2 E2' EX10
  go_upto_region 8 with (fail)
  refine wp_region_G (w0 := w) [0, 1, 2, 3, 4, 5] [(g13, (wo (r))), (g12, (wo (q))), (g9, (wo (Big - 1))), (g6, (wo (n))), (g3, (wo (k))), (w.heap.size + 1, (wo (s))), (w.heap.size, (wo (t)))] 3 (by kernel_rfl) (by kernel_rfl) rfl EX14.out ?_
  have hone := @EnvC.one _ _ _ (EX14.out.drew)
  (refine wpG_load rfl rfl (g12) rfl 25 _ _ (fun u hu => EnvC.box hu _ (wo (q)) (List.Mem.tail _ (List.Mem.head _))) Try.underlying25 rfl (wc_info _) ?_ (EX14.out.drew); intro K hK; go_big_quiet_op; go_big_quiet_on)
  (refine wpG_call (f := 19) (args := #[.int .u64 (1 : Nat)]) (v := .agg (wcs (1))) rfl rfl rfl Try.func19 rfl rfl (fun u _ => of_n 1 u (by decide)) ?_ (EX14.out.drew); intro K hK; go_big_quiet_op; go_big_quiet_on)
  (refine wpG_call (f := 20) (args := #[.agg (wcs (q)), .agg (wcs (1))]) (v := .tuple #[.agg (wcs (m)), .bool (mb)]) rfl rfl rfl Try.func20 rfl rfl (fun u _ => (by have h := add_any q 1 u hqB.out h1B.out; rw [hm.out, hmb.out] at h; exact h)) ?_ (EX14.out.drew); intro K hK; go_big_quiet_op; go_big_quiet_on)
  (refine wpG_op rfl rfl rfl ?_; intro K hK; go_big_quiet_op; go_big_quiet_on)
  (refine wpG_op rfl rfl rfl ?_; intro K hK; go_big_quiet_op; go_big_quiet_on)
  (refine wpG_op rfl rfl rfl ?_; intro K hK; go_big_quiet_op; go_big_quiet_on)
  clear hone
  refine wpG_nil ?_
  (refine anyG_one (i := 6) (by kernel_rfl) (gOp_new (wo (0)) rfl (new_wide _) ?_); intro g16 hbg16 hfg16; intro K' hK'; go_big_quiet_op; go_big_quiet_on)
  have ng16x0 : Hid (g13 ≠ g16) := hfg16 (g13, _) (List.Mem.head _)
  have ng16x1 : Hid (g12 ≠ g16) := hfg16 (g12, _) (List.Mem.tail _ (List.Mem.head _))
  have ng16x2 : Hid (g9 ≠ g16) := hfg16 (g9, _) (List.Mem.tail _ (List.Mem.tail _ (List.Mem.head _)))
  have ng16x3 : Hid (g6 ≠ g16) := hfg16 (g6, _) (List.Mem.tail _ (List.Mem.tail _ (List.Mem.tail _ (List.Mem.head _))))
  have ng16x4 : Hid (g3 ≠ g16) := hfg16 (g3, _) (List.Mem.tail _ (List.Mem.tail _ (List.Mem.tail _ (List.Mem.tail _ (List.Mem.head _)))))
  have ng16x5 : Hid (w.heap.size + 1 ≠ g16) := hfg16 (w.heap.size + 1, _) (List.Mem.tail _ (List.Mem.tail _ (List.Mem.tail _ (List.Mem.tail _ (List.Mem.tail _ (List.Mem.head _))))))
  have ng16x6 : Hid (w.heap.size ≠ g16) := hfg16 (w.heap.size, _) (List.Mem.tail _ (List.Mem.tail _ (List.Mem.tail _ (List.Mem.tail _ (List.Mem.tail _ (List.Mem.tail _ (List.Mem.head _)))))))
  clear hfg16
  refine anyG_one (i := 7) (by kernel_rfl) (gOp_store rfl (g16) (wcs (m)) rfl rfl hbg16 25 (wcs (0)) (List.Mem.head _) (wc_info _) ((wc_size _).trans (wc_size _).symm) (wc_one _) [(g16, (wo (m))), (g13, (wo (r))), (g12, (wo (q))), (g9, (wo (Big - 1))), (g6, (wo (n))), (g3, (wo (k))), (w.heap.size + 1, (wo (s))), (w.heap.size, (wo (t)))] (List.forall_mem_cons.2 ⟨.inl rfl, (List.forall_mem_cons.2 ⟨.inr ⟨(List.Mem.tail _ (List.Mem.head _)), ng16x0.out⟩, (List.forall_mem_cons.2 ⟨.inr ⟨(List.Mem.tail _ (List.Mem.tail _ (List.Mem.head _))), ng16x1.out⟩, (List.forall_mem_cons.2 ⟨.inr ⟨(List.Mem.tail _ (List.Mem.tail _ (List.Mem.tail _ (List.Mem.head _)))), ng16x2.out⟩, (List.forall_mem_cons.2 ⟨.inr ⟨(List.Mem.tail _ (List.Mem.tail _ (List.Mem.tail _ (List.Mem.tail _ (List.Mem.head _))))), ng16x3.out⟩, (List.forall_mem_cons.2 ⟨.inr ⟨(List.Mem.tail _ (List.Mem.tail _ (List.Mem.tail _ (List.Mem.tail _ (List.Mem.tail _ (List.Mem.head _)))))), ng16x4.out⟩, (List.forall_mem_cons.2 ⟨.inr ⟨(List.Mem.tail _ (List.Mem.tail _ (List.Mem.tail _ (List.Mem.tail _ (List.Mem.tail _ (List.Mem.tail _ (List.Mem.head _))))))), ng16x5.out⟩, (List.forall_mem_cons.2 ⟨.inr ⟨(List.Mem.tail _ (List.Mem.tail _ (List.Mem.tail _ (List.Mem.tail _ (List.Mem.tail _ (List.Mem.tail _ (List.Mem.tail _ (List.Mem.head _)))))))), ng16x6.out⟩, (fun _ h => by cases h)⟩)⟩)⟩)⟩)⟩)⟩)⟩)⟩) ?_)
  (refine anyG_one (i := 8) (by kernel_rfl) (gOp_pure rfl rfl ?_); intro K' hK'; go_big_quiet_op; go_big_quiet_on)
  refine anyG_done (by kernel_rfl) ?_
  rintro u18 ⟨hl2, E2'⟩
  have EX17 := Lib.hid E2'
  clear hl2 E2' EX14
  go_upto_region 9 with (fail)
  refine wp_region_G (w0 := w) [0, 1, 2, 3, 4, 5] [(g16, (wo (m))), (g13, (wo (r))), (g12, (wo (q))), (g9, (wo (Big - 1))), (g6, (wo (n))), (g3, (wo (k))), (w.heap.size + 1, (wo (s))), (w.heap.size, (wo (t)))] 3 (by kernel_rfl) (by kernel_rfl) rfl EX17.out ?_
  have hone := @EnvC.one _ _ _ (EX17.out.drew)
  (refine wpG_load rfl rfl (g13) rfl 25 _ _ (fun u hu => EnvC.box hu _ (wo (r)) (List.Mem.tail _ (List.Mem.head _))) Try.underlying25 rfl (wc_info _) ?_ (EX17.out.drew); intro K hK; go_big_quiet_op; go_big_quiet_on)
  (refine wpG_call (f := 19) (args := #[.int .u64 (1 : Nat)]) (v := .agg (wcs (1))) rfl rfl rfl Try.func19 rfl rfl (fun u _ => of_n 1 u (by decide)) ?_ (EX17.out.drew); intro K hK; go_big_quiet_op; go_big_quiet_on)
  (refine wpG_call (f := 20) (args := #[.agg (wcs (r)), .agg (wcs (1))]) (v := .tuple #[.agg (wcs (o)), .bool true]) rfl rfl rfl Try.func20 rfl rfl (fun u _ => add_yes r 1 o u ho.out hoB.out) ?_ (EX17.out.drew); intro K hK; go_big_quiet_op; go_big_quiet_on)
  (refine wpG_op rfl rfl rfl ?_; intro K hK; go_big_quiet_op; go_big_quiet_on)
  (refine wpG_op rfl rfl rfl ?_; intro K hK; go_big_quiet_op; go_big_quiet_on)
  (refine wpG_op rfl rfl rfl ?_; intro K hK; go_big_quiet_op; go_big_quiet_on)
  clear hone
  refine wpG_nil ?_
  (refine anyG_one (i := 6) (by kernel_rfl) (gOp_new (wo (0)) rfl (new_wide _) ?_); intro g19 hbg19 hfg19; intro K' hK'; go_big_quiet_op; go_big_quiet_on)
  have ng19x0 : Hid (g16 ≠ g19) := hfg19 (g16, _) (List.Mem.head _)
  have ng19x1 : Hid (g13 ≠ g19) := hfg19 (g13, _) (List.Mem.tail _ (List.Mem.head _))
  have ng19x2 : Hid (g12 ≠ g19) := hfg19 (g12, _) (List.Mem.tail _ (List.Mem.tail _ (List.Mem.head _)))
  have ng19x3 : Hid (g9 ≠ g19) := hfg19 (g9, _) (List.Mem.tail _ (List.Mem.tail _ (List.Mem.tail _ (List.Mem.head _))))
  have ng19x4 : Hid (g6 ≠ g19) := hfg19 (g6, _) (List.Mem.tail _ (List.Mem.tail _ (List.Mem.tail _ (List.Mem.tail _ (List.Mem.head _)))))
  have ng19x5 : Hid (g3 ≠ g19) := hfg19 (g3, _) (List.Mem.tail _ (List.Mem.tail _ (List.Mem.tail _ (List.Mem.tail _ (List.Mem.tail _ (List.Mem.head _))))))
  have ng19x6 : Hid (w.heap.size + 1 ≠ g19) := hfg19 (w.heap.size + 1, _) (List.Mem.tail _ (List.Mem.tail _ (List.Mem.tail _ (List.Mem.tail _ (List.Mem.tail _ (List.Mem.tail _ (List.Mem.head _)))))))
  have ng19x7 : Hid (w.heap.size ≠ g19) := hfg19 (w.heap.size, _) (List.Mem.tail _ (List.Mem.tail _ (List.Mem.tail _ (List.Mem.tail _ (List.Mem.tail _ (List.Mem.tail _ (List.Mem.tail _ (List.Mem.head _))))))))
  clear hfg19
  refine anyG_one (i := 7) (by kernel_rfl) (gOp_store rfl (g19) (wcs (o)) rfl rfl hbg19 25 (wcs (0)) (List.Mem.head _) (wc_info _) ((wc_size _).trans (wc_size _).symm) (wc_one _) [(g19, (wo (o))), (g16, (wo (m))), (g13, (wo (r))), (g12, (wo (q))), (g9, (wo (Big - 1))), (g6, (wo (n))), (g3, (wo (k))), (w.heap.size + 1, (wo (s))), (w.heap.size, (wo (t)))] (List.forall_mem_cons.2 ⟨.inl rfl, (List.forall_mem_cons.2 ⟨.inr ⟨(List.Mem.tail _ (List.Mem.head _)), ng19x0.out⟩, (List.forall_mem_cons.2 ⟨.inr ⟨(List.Mem.tail _ (List.Mem.tail _ (List.Mem.head _))), ng19x1.out⟩, (List.forall_mem_cons.2 ⟨.inr ⟨(List.Mem.tail _ (List.Mem.tail _ (List.Mem.tail _ (List.Mem.head _)))), ng19x2.out⟩, (List.forall_mem_cons.2 ⟨.inr ⟨(List.Mem.tail _ (List.Mem.tail _ (List.Mem.tail _ (List.Mem.tail _ (List.Mem.head _))))), ng19x3.out⟩, (List.forall_mem_cons.2 ⟨.inr ⟨(List.Mem.tail _ (List.Mem.tail _ (List.Mem.tail _ (List.Mem.tail _ (List.Mem.tail _ (List.Mem.head _)))))), ng19x4.out⟩, (List.forall_mem_cons.2 ⟨.inr ⟨(List.Mem.tail _ (List.Mem.tail _ (List.Mem.tail _ (List.Mem.tail _ (List.Mem.tail _ (List.Mem.tail _ (List.Mem.head _))))))), ng19x5.out⟩, (List.forall_mem_cons.2 ⟨.inr ⟨(List.Mem.tail _ (List.Mem.tail _ (List.Mem.tail _ (List.Mem.tail _ (List.Mem.tail _ (List.Mem.tail _ (List.Mem.tail _ (List.Mem.head _)))))))), ng19x6.out⟩, (List.forall_mem_cons.2 ⟨.inr ⟨(List.Mem.tail _ (List.Mem.tail _ (List.Mem.tail _ (List.Mem.tail _ (List.Mem.tail _ (List.Mem.tail _ (List.Mem.tail _ (List.Mem.tail _ (List.Mem.head _))))))))), ng19x7.out⟩, (fun _ h => by cases h)⟩)⟩)⟩)⟩)⟩)⟩)⟩)⟩)⟩) ?_)
  (refine anyG_one (i := 8) (by kernel_rfl) (gOp_pure rfl rfl ?_); intro K' hK'; go_big_quiet_op; go_big_quiet_on)
  refine anyG_done (by kernel_rfl) ?_
  rintro u21 ⟨hl2, E2'⟩
  have EX20 := Lib.hid E2'
  clear hl2 E2' EX17
  go_upto_region 10 with (fail)
  refine wp_region_G (w0 := w) [0, 1, 2, 3, 4, 5, 6, 7, 8, 9, 10, 11, 12, 13, 14, 15, 16, 17, 18, 19, 20, 21, 22, 23, 24, 25, 26, 27, 28, 29, 30, 31, 32, 33, 34] [(g19, (wo (o))), (g16, (wo (m))), (g13, (wo (r))), (g12, (wo (q))), (g9, (wo (Big - 1))), (g6, (wo (n))), (g3, (wo (k))), (w.heap.size + 1, (wo (s))), (w.heap.size, (wo (t)))] 0 (by kernel_rfl) (by kernel_rfl) rfl EX20.out ?_
  have hone := @EnvC.one _ _ _ (EX20.out.drew)
  (refine wpG_load rfl rfl (g3) rfl 25 _ _ (fun u hu => EnvC.box hu _ (wo (k)) (List.Mem.tail _ (List.Mem.tail _ (List.Mem.tail _ (List.Mem.tail _ (List.Mem.tail _ (List.Mem.tail _ (List.Mem.head _)))))))) Try.underlying25 rfl (wc_info _) ?_ (EX20.out.drew); intro K hK; go_big_quiet_op; go_big_quiet_on)
  (refine wpG_load rfl rfl (g16) rfl 25 _ _ (fun u hu => EnvC.box hu _ (wo (m)) (List.Mem.tail _ (List.Mem.head _))) Try.underlying25 rfl (wc_info _) ?_ (EX20.out.drew); intro K hK; go_big_quiet_op; go_big_quiet_on)
  (refine wpG_val (v := .bool (false)) rfl rfl (fun u _ => eql_op (hkB.out) (hmB.out) (e1.out) rfl rfl u) ?_ (EX20.out.drew); intro K hK; go_big_quiet_op; go_big_quiet_on)
  (refine wpG_load rfl rfl (g19) rfl 25 _ _ (fun u hu => EnvC.box hu _ (wo (o)) (List.Mem.head _)) Try.underlying25 rfl (wc_info _) ?_ (EX20.out.drew); intro K hK; go_big_quiet_op; go_big_quiet_on)
  (refine wpG_load rfl rfl (g6) rfl 25 _ _ (fun u hu => EnvC.box hu _ (wo (n)) (List.Mem.tail _ (List.Mem.tail _ (List.Mem.tail _ (List.Mem.tail _ (List.Mem.tail _ (List.Mem.head _))))))) Try.underlying25 rfl (wc_info _) ?_ (EX20.out.drew); intro K hK; go_big_quiet_op; go_big_quiet_on)
  (refine wpG_val (v := .bool (false)) rfl rfl (fun u _ => eql_op (hoB.out) (hnB.out) (e2.out) rfl rfl u) ?_ (EX20.out.drew); intro K hK; go_big_quiet_op; go_big_quiet_on)
  (refine wpG_op rfl rfl rfl ?_; intro K hK; go_big_quiet_op; go_big_quiet_on)
  (refine wpG_op rfl rfl rfl ?_; intro K hK; go_big_quiet_op; go_big_quiet_on)
  (refine wpG_load rfl rfl (g3) rfl 25 _ _ (fun u hu => EnvC.box hu _ (wo (k)) (List.Mem.tail _ (List.Mem.tail _ (List.Mem.tail _ (List.Mem.tail _ (List.Mem.tail _ (List.Mem.tail _ (List.Mem.head _)))))))) Try.underlying25 rfl (wc_info _) ?_ (EX20.out.drew); intro K hK; go_big_quiet_op; go_big_quiet_on)
  (refine wpG_load rfl rfl (g12) rfl 25 _ _ (fun u hu => EnvC.box hu _ (wo (q)) (List.Mem.tail _ (List.Mem.tail _ (List.Mem.tail _ (List.Mem.head _))))) Try.underlying25 rfl (wc_info _) ?_ (EX20.out.drew); intro K hK; go_big_quiet_op; go_big_quiet_on)
  (refine wpG_val (v := .bool (true)) rfl rfl (fun u _ => eql_op (hkB.out) (hqB.out) (e3.out) rfl rfl u) ?_ (EX20.out.drew); intro K hK; go_big_quiet_op; go_big_quiet_on)
  (refine wpG_load rfl rfl (g19) rfl 25 _ _ (fun u hu => EnvC.box hu _ (wo (o)) (List.Mem.head _)) Try.underlying25 rfl (wc_info _) ?_ (EX20.out.drew); intro K hK; go_big_quiet_op; go_big_quiet_on)
  (refine wpG_load rfl rfl (g6) rfl 25 _ _ (fun u hu => EnvC.box hu _ (wo (n)) (List.Mem.tail _ (List.Mem.tail _ (List.Mem.tail _ (List.Mem.tail _ (List.Mem.tail _ (List.Mem.head _))))))) Try.underlying25 rfl (wc_info _) ?_ (EX20.out.drew); intro K hK; go_big_quiet_op; go_big_quiet_on)
  (refine wpG_val (v := .bool (true)) rfl rfl (fun u _ => neq_op (hoB.out) (hnB.out) (e4.out) rfl rfl u) ?_ (EX20.out.drew); intro K hK; go_big_quiet_op; go_big_quiet_on)
  (refine wpG_op rfl rfl rfl ?_; intro K hK; go_big_quiet_op; go_big_quiet_on)
  (refine wpG_op rfl rfl rfl ?_; intro K hK; go_big_quiet_op; go_big_quiet_on)
  (refine wpG_op rfl rfl rfl ?_; intro K hK; go_big_quiet_op; go_big_quiet_on)
  (refine wpG_load rfl rfl (w.heap.size) rfl 25 _ _ (fun u hu => EnvC.box hu _ (wo (t)) (List.Mem.tail _ (List.Mem.tail _ (List.Mem.tail _ (List.Mem.tail _ (List.Mem.tail _ (List.Mem.tail _ (List.Mem.tail _ (List.Mem.tail _ (List.Mem.head _)))))))))) Try.underlying25 rfl (wc_info _) ?_ (EX20.out.drew); intro K hK; go_big_quiet_op; go_big_quiet_on)
  (refine wpG_op rfl rfl rfl ?_; intro K hK; go_big_quiet_op; go_big_quiet_on)
  (refine wpG_val (v := .bool (false)) rfl rfl (fun u _ => eql_op (ht.out) (Big_pos) (e5.out) rfl rfl u) ?_ (EX20.out.drew); intro K hK; go_big_quiet_op; go_big_quiet_on)
  (refine wpG_op rfl rfl rfl ?_; intro K hK; go_big_quiet_op; go_big_quiet_on)
  (refine wpG_load rfl rfl (w.heap.size) rfl 25 _ _ (fun u hu => EnvC.box hu _ (wo (t)) (List.Mem.tail _ (List.Mem.tail _ (List.Mem.tail _ (List.Mem.tail _ (List.Mem.tail _ (List.Mem.tail _ (List.Mem.tail _ (List.Mem.tail _ (List.Mem.head _)))))))))) Try.underlying25 rfl (wc_info _) ?_ (EX20.out.drew); intro K hK; go_big_quiet_op; go_big_quiet_on)
  (refine wpG_load rfl rfl (w.heap.size + 1) rfl 25 _ _ (fun u hu => EnvC.box hu _ (wo (s)) (List.Mem.tail _ (List.Mem.tail _ (List.Mem.tail _ (List.Mem.tail _ (List.Mem.tail _ (List.Mem.tail _ (List.Mem.tail _ (List.Mem.head _))))))))) Try.underlying25 rfl (wc_info _) ?_ (EX20.out.drew); intro K hK; go_big_quiet_op; go_big_quiet_on)
  (refine wpG_call (f := 18) (args := #[.agg (wcs (t)), .agg (wcs (s))]) (v := .int .i64 c) rfl rfl rfl Try.func18 rfl rfl (fun u _ => (by rw [← hc.out]; exact cmp_any (t) (s) u ht.out hs.out)) ?_ (EX20.out.drew); intro K hK; go_big_quiet_op; go_big_quiet_on)
  (refine wpG_op rfl rfl rfl ?_; intro K hK; go_big_quiet_op; go_big_quiet_on)
  (refine wpG_op rfl rfl rfl ?_; intro K hK; go_big_quiet_op; go_big_quiet_on)
  (refine wpG_op rfl rfl rfl ?_; intro K hK; go_big_quiet_op; go_big_quiet_on)
  (refine wpG_load rfl rfl (w.heap.size + 1) rfl 25 _ _ (fun u hu => EnvC.box hu _ (wo (s)) (List.Mem.tail _ (List.Mem.tail _ (List.Mem.tail _ (List.Mem.tail _ (List.Mem.tail _ (List.Mem.tail _ (List.Mem.tail _ (List.Mem.head _))))))))) Try.underlying25 rfl (wc_info _) ?_ (EX20.out.drew); intro K hK; go_big_quiet_op; go_big_quiet_on)
  (refine wpG_call (f := 14) (args := #[.agg (wcs (s))]) (v := .agg (wcs (k2))) rfl rfl rfl Try.func14 rfl rfl (fun u _ => (by have h := work_any s u hs.out; rw [hk2.out] at h; exact h)) ?_ (EX20.out.drew); intro K hK; go_big_quiet_op; go_big_quiet_on)
  (refine wpG_load rfl rfl (g3) rfl 25 _ _ (fun u hu => EnvC.box hu _ (wo (k)) (List.Mem.tail _ (List.Mem.tail _ (List.Mem.tail _ (List.Mem.tail _ (List.Mem.tail _ (List.Mem.tail _ (List.Mem.head _)))))))) Try.underlying25 rfl (wc_info _) ?_ (EX20.out.drew); intro K hK; go_big_quiet_op; go_big_quiet_on)
  (refine wpG_call (f := 18) (args := #[.agg (wcs (k2)), .agg (wcs (k))]) (v := .int .i64 c2) rfl rfl rfl Try.func18 rfl rfl (fun u _ => (by rw [← hc2.out]; exact cmp_any (k2) (k) u hk2B.out hkB.out)) ?_ (EX20.out.drew); intro K hK; go_big_quiet_op; go_big_quiet_on)
  (refine wpG_op rfl rfl rfl ?_; intro K hK; go_big_quiet_op; go_big_quiet_on)
  (refine wpG_op rfl rfl rfl ?_; intro K hK; go_big_quiet_op; go_big_quiet_on)
  (refine wpG_op rfl rfl rfl ?_; intro K hK; go_big_quiet_op; go_big_quiet_on)
  (refine wpG_op rfl rfl rfl ?_; intro K hK; go_big_quiet_op; go_big_quiet_on)
  clear hone
  refine wpG_nil ?_
  refine anyG_done (by kernel_rfl) ?_
  rintro u23 ⟨hl2, E2'⟩
  have EX22 := Lib.hid E2'
  clear hl2 E2' EX20
  go_wp2_with fail
  go_ret
  exact ⟨rfl, EX22.out.bel⟩

theorem wkV_le {t s : Nat} (ht : t < Big) (hs : s < Big) (h0 : t ≠ 0) (h : t ≤ s) : wkV s ≤ wkV t := by
  have h2 : ∀ x, 0 < x → x + 1 < Big → wkV x = Big / (x + 1) := fun x hx hb => by
    unfold wkV
    rw [if_pos hb, Nat.mod_eq_of_lt]
    exact Nat.div_lt_self Big_pos (by omega)
  by_cases hs1 : s + 1 < Big
  · rw [h2 s (by omega) hs1, h2 t (by omega) (by omega)]
    exact Nat.div_le_div_left (by omega) (by omega)
  · have e : wkV s = 1 := by unfold wkV; rw [if_neg hs1]
    rw [e]
    by_cases ht1 : t + 1 < Big
    · rw [h2 t (by omega) ht1]
      exact (Nat.le_div_iff_mul_le (by omega)).2 (by omega)
    · unfold wkV
      rw [if_neg ht1]
      exact Nat.le_refl _
theorem law_work (t s : Nat) (w : World) (ht : t < Big) (hs : s < Big) :
    Calls Try.prog 5 #[.agg (wcs t), .agg (wcs s)] w fun e w' => e = .returned (.bool true) ∧ Below w.heap.size w w' := by
  have h1B : 1 < Big := by have := Big_gt; omega
  by_cases h : t + 1 < Big
  · have hr := wk_ref h
    have hml := Nat.mod_lt (Big - 1) (show 0 < t + 1 by omega)
    have hqB : (Big - 1) / (t + 1) < Big := Nat.lt_of_le_of_lt (Nat.div_le_self _ _) (by omega)
    have hkB := wkV_lt t
    have hmB : ((Big - 1) / (t + 1) + 1) % Big < Big := Nat.mod_lt _ Big_pos
    have hne : ∀ q, q < Big → (q + 1) % Big ≠ q := fun q hq => by
      by_cases hx : q + 1 < Big
      · rw [Nat.mod_eq_of_lt hx]; omega
      · rw [show q + 1 = Big by omega, Nat.mod_self]; omega
    have s1 := cmpI_sgn t s
    have eN : ∀ a b : Nat, a = b → eqN a b = true := fun a b e => by subst e; exact eqN_self a
    have nN : ∀ a b : Nat, a ≠ b → eqN a b = false := fun a b e => by simp only [eqN]; simpa using e
    by_cases hx : (Big - 1) % (t + 1) + 1 = t + 1
    · rw [if_pos hx] at hr
      have f2 := eN _ _ hx
      by_cases h0 : t = 0
      · exact lwork_a_zero t s _ _ _ _ _ _ _ ht hs hkB hmB (by show _ < _; omega) h (by show _ < _; omega) hqB h1B rfl rfl rfl rfl rfl rfl rfl (eN _ _ hr.symm) f2 (nN _ _ (by rw [← hr]; exact hne _ hqB)) (show (!eqN _ _) = false by rw [f2]; rfl) (eN _ _ h0) w
      · by_cases hg : s < t
        · exact lwork_a_gt t s _ _ _ _ _ _ _ ht hs hkB hmB (by show _ < _; omega) h (by show _ < _; omega) hqB h1B rfl rfl rfl rfl rfl rfl rfl (eN _ _ hr.symm) f2 (nN _ _ (by rw [← hr]; exact hne _ hqB)) (show (!eqN _ _) = false by rw [f2]; rfl) (nN _ _ h0) _ rfl (by omega) w
        · have hle := wkV_le ht hs h0 (by omega)
          have s2 := cmpI_sgn (wkV s) (wkV t)
          exact lwork_a_le t s _ _ _ _ _ _ _ ht hs hkB hmB (by show _ < _; omega) h (by show _ < _; omega) hqB h1B rfl rfl rfl rfl rfl rfl rfl (eN _ _ hr.symm) f2 (nN _ _ (by rw [← hr]; exact hne _ hqB)) (show (!eqN _ _) = false by rw [f2]; rfl) (nN _ _ h0) _ rfl (by omega) _ _ (wkV_lt s) rfl rfl (by omega) w
    · rw [if_neg hx] at hr
      have f2 := nN _ _ hx
      have f1 : eqN (wkV t) (((Big - 1) / (t + 1) + 1) % Big) = false := nN _ _ (by rw [← hr]; exact (hne _ hqB).symm)
      by_cases h0 : t = 0
      · exact lwork_b_zero t s _ _ _ _ _ _ _ ht hs hkB hmB (by show _ < _; omega) h (by show _ < _; omega) hqB h1B rfl rfl rfl rfl rfl rfl rfl f1 f2 (eN _ _ hr.symm) (show (!eqN _ _) = true by rw [f2]; rfl) (eN _ _ h0) w
      · by_cases hg : s < t
        · exact lwork_b_gt t s _ _ _ _ _ _ _ ht hs hkB hmB (by show _ < _; omega) h (by show _ < _; omega) hqB h1B rfl rfl rfl rfl rfl rfl rfl f1 f2 (eN _ _ hr.symm) (show (!eqN _ _) = true by rw [f2]; rfl) (nN _ _ h0) _ rfl (by omega) w
        · have hle := wkV_le ht hs h0 (by omega)
          have s2 := cmpI_sgn (wkV s) (wkV t)
          exact lwork_b_le t s _ _ _ _ _ _ _ ht hs hkB hmB (by show _ < _; omega) h (by show _ < _; omega) hqB h1B rfl rfl rfl rfl rfl rfl rfl f1 f2 (eN _ _ hr.symm) (show (!eqN _ _) = true by rw [f2]; rfl) (nN _ _ h0) _ rfl (by omega) _ _ (wkV_lt s) rfl rfl (by omega) w
  · have e : wkV t = 1 := by unfold wkV; rw [if_neg h]
    exact lwork_no t s ht e h1B (by show _ = _; omega) (by show _ ≤ _; omega) w
end Go.Proofs.Ytdbkbaanppnabaa
