/- The walk of the law TargetOrder. -/
import Derived.Test.YtdbkbaanppnabaaLawTells3
namespace Go.Proofs.Ytdbkbaanppnabaa
open Go.RowKit

set_option maxRecDepth 100000 in
set_option maxHeartbeats 8000000 in
theorem order_ftft (a b t s x y : Nat) (ha : Hid (a < 4294967296)) (hb : Hid (b < 4294967296)) (ht : Hid (t < Big)) (hs : Hid (s < Big)) (hxB : Hid (x < Big)) (hyB : Hid (y < Big)) (hx : Hid (tv a = x)) (hy : Hid (tv b = y)) (his : Hid (isC a = false)) (hcan : Hid (isC b = true)) (c2 : Int) (h2 : Hid (cmpI t s = c2)) (n2 : 0 < c2) (w : World) :
    Calls Try.prog 7 #[.int .u32 (a : Int), .int .u32 (b : Int), .agg (wcs (t)), .agg (wcs (s))] w fun e w' => e = .returned (.bool true) ∧ Below w.heap.size w w' := by
  have E1 : Hid (EnvX w ((w.alloc (.cells (wcs (t)) 25)).alloc (.cells (wcs (s)) 25)) [(w.heap.size + 1, (wo (s))), (w.heap.size, (wo (t)))]) := by
    have h := (((EnvX.start w).new (wo (t))).new (wo (s)))
    try simp only [World.size_alloc] at h
    exact h
  go_enter Try.func7, Try.ntmps7
  go_upto_region 1 with (fail)
  generalize ((w.alloc (.cells (wcs (t)) 25)).alloc (.cells (wcs (s)) 25)) = w1 at *
  refine wp_region_Gx (w0 := w) [0, 1] [] [(w.heap.size + 1, (wo (s))), (w.heap.size, (wo (t)))] rfl E1.out ?_
  have hone := @EnvC.one _ _ _ (E1.out)
  (refine wpG_call (f := 9) (args := #[]) (v := .bool true) rfl rfl rfl Try.func9 rfl rfl (fun u _ => awake_any u) ?_ (E1.out); intro K hK; go_big_quiet_op; go_big_quiet_on)
  (refine wpG_op rfl rfl rfl ?_; intro K hK; go_big_quiet_op; go_big_quiet_on)
  clear hone
  refine wpG_nil ?_
  rintro u2 ⟨hl2, E2'⟩
  have EX1 := Lib.hid E2'
  clear hl2 E2' E1
  go_upto_region 2 with (fail)
  refine wp_region_Gx (w0 := w) [0, 1, 2, 3, 4] [5, 6, 7] [(w.heap.size + 1, (wo (s))), (w.heap.size, (wo (t)))] rfl EX1.out ?_
  have hone := @EnvC.one _ _ _ (EX1.out)
  (refine wpG_op rfl rfl rfl ?_; intro K hK; go_big_quiet_op; go_big_quiet_on)
  (refine wpG_call (f := 10) (args := #[.int .u32 (a : Int)]) (v := .tuple #[.agg (wcs (x)), .bool false]) rfl rfl rfl Try.func10 rfl rfl (fun u _ => (by rw [← hx.out, ← his.out]; exact target_any a u ha.out)) ?_ (EX1.out); intro K hK; go_big_quiet_op; go_big_quiet_on)
  (refine wpG_op rfl rfl rfl ?_; intro K hK; go_big_quiet_op; go_big_quiet_on)
  (refine wpG_op rfl rfl rfl ?_; intro K hK; go_big_quiet_op; go_big_quiet_on)
  (refine wpG_op rfl rfl rfl ?_; intro K hK; go_big_quiet_op; go_big_quiet_on)
  clear hone
  refine wpG_nil ?_
  (refine (gOp_new (wo (0)) rfl (new_wide _) ?_); intro g3 hbg3 hfg3; intro K' hK'; go_big_quiet_op; go_big_quiet_on)
  have ng3x0 : Hid (w.heap.size + 1 ≠ g3) := hfg3 (w.heap.size + 1, _) (List.Mem.head _)
  have ng3x1 : Hid (w.heap.size ≠ g3) := hfg3 (w.heap.size, _) (List.Mem.tail _ (List.Mem.head _))
  clear hfg3
  refine (gOp_store rfl (g3) (wcs (x)) rfl rfl hbg3 25 (wcs (0)) (List.Mem.head _) (wc_info _) ((wc_size _).trans (wc_size _).symm) (wc_one _) [(g3, (wo (x))), (w.heap.size + 1, (wo (s))), (w.heap.size, (wo (t)))] (List.forall_mem_cons.2 ⟨.inl rfl, (List.forall_mem_cons.2 ⟨.inr ⟨(List.Mem.tail _ (List.Mem.head _)), ng3x0.out⟩, (List.forall_mem_cons.2 ⟨.inr ⟨(List.Mem.tail _ (List.Mem.tail _ (List.Mem.head _))), ng3x1.out⟩, (fun _ h => by cases h)⟩)⟩)⟩) ?_)
  (refine (gOp_pure rfl rfl ?_); intro K' hK'; go_big_quiet_op; go_big_quiet_on)
  rintro u5 ⟨hl2, E2'⟩
  have EX4 := Lib.hid E2'
  clear hl2 E2' EX1
  go_upto_region 3 with (fail)
  refine wp_region_Gx (w0 := w) [0, 1, 2, 3, 4] [5, 6, 7] [(g3, (wo (x))), (w.heap.size + 1, (wo (s))), (w.heap.size, (wo (t)))] rfl EX4.out ?_
  have hone := @EnvC.one _ _ _ (EX4.out)
  (refine wpG_op rfl rfl rfl ?_; intro K hK; go_big_quiet_op; go_big_quiet_on)
  (refine wpG_call (f := 10) (args := #[.int .u32 (b : Int)]) (v := .tuple #[.agg (wcs (y)), .bool true]) rfl rfl rfl Try.func10 rfl rfl (fun u _ => (by rw [← hy.out, ← hcan.out]; exact target_any b u hb.out)) ?_ (EX4.out); intro K hK; go_big_quiet_op; go_big_quiet_on)
  (refine wpG_op rfl rfl rfl ?_; intro K hK; go_big_quiet_op; go_big_quiet_on)
  (refine wpG_op rfl rfl rfl ?_; intro K hK; go_big_quiet_op; go_big_quiet_on)
  (refine wpG_op rfl rfl rfl ?_; intro K hK; go_big_quiet_op; go_big_quiet_on)
  clear hone
  refine wpG_nil ?_
  (refine (gOp_new (wo (0)) rfl (new_wide _) ?_); intro g6 hbg6 hfg6; intro K' hK'; go_big_quiet_op; go_big_quiet_on)
  have ng6x0 : Hid (g3 ≠ g6) := hfg6 (g3, _) (List.Mem.head _)
  have ng6x1 : Hid (w.heap.size + 1 ≠ g6) := hfg6 (w.heap.size + 1, _) (List.Mem.tail _ (List.Mem.head _))
  have ng6x2 : Hid (w.heap.size ≠ g6) := hfg6 (w.heap.size, _) (List.Mem.tail _ (List.Mem.tail _ (List.Mem.head _)))
  clear hfg6
  refine (gOp_store rfl (g6) (wcs (y)) rfl rfl hbg6 25 (wcs (0)) (List.Mem.head _) (wc_info _) ((wc_size _).trans (wc_size _).symm) (wc_one _) [(g6, (wo (y))), (g3, (wo (x))), (w.heap.size + 1, (wo (s))), (w.heap.size, (wo (t)))] (List.forall_mem_cons.2 ⟨.inl rfl, (List.forall_mem_cons.2 ⟨.inr ⟨(List.Mem.tail _ (List.Mem.head _)), ng6x0.out⟩, (List.forall_mem_cons.2 ⟨.inr ⟨(List.Mem.tail _ (List.Mem.tail _ (List.Mem.head _))), ng6x1.out⟩, (List.forall_mem_cons.2 ⟨.inr ⟨(List.Mem.tail _ (List.Mem.tail _ (List.Mem.tail _ (List.Mem.head _)))), ng6x2.out⟩, (fun _ h => by cases h)⟩)⟩)⟩)⟩) ?_)
  (refine (gOp_pure rfl rfl ?_); intro K' hK'; go_big_quiet_op; go_big_quiet_on)
  rintro u8 ⟨hl2, E2'⟩
  have EX7 := Lib.hid E2'
  clear hl2 E2' EX4
  go_upto_region 4 with (fail)
  refine wp_region_Gx (w0 := w) [0, 1, 2, 3, 4, 5, 6, 7, 8, 9, 10, 11, 12, 13, 14, 15, 16, 17] [] [(g6, (wo (y))), (g3, (wo (x))), (w.heap.size + 1, (wo (s))), (w.heap.size, (wo (t)))] rfl EX7.out ?_
  have hone := @EnvC.one _ _ _ (EX7.out)
  (refine wpG_op rfl rfl rfl ?_; intro K hK; go_big_quiet_op; go_big_quiet_on)
  (refine wpG_op rfl rfl rfl ?_; intro K hK; go_big_quiet_op; go_big_quiet_on)
  (refine wpG_op rfl rfl rfl ?_; intro K hK; go_big_quiet_op; go_big_quiet_on)
  (refine wpG_op rfl rfl rfl ?_; intro K hK; go_big_quiet_op; go_big_quiet_on)
  (refine wpG_op rfl rfl rfl ?_; intro K hK; go_big_quiet_op; go_big_quiet_on)
  (refine wpG_skip rfl rfl ?_ EX7.out; intro K hK; go_big_quiet_op; go_big_quiet_on)
  (refine wpG_op rfl rfl rfl ?_; intro K hK; go_big_quiet_op; go_big_quiet_on)
  (refine wpG_op rfl rfl rfl ?_; intro K hK; go_big_quiet_op; go_big_quiet_on)
  (refine wpG_skip rfl rfl ?_ EX7.out; intro K hK; go_big_quiet_op; go_big_quiet_on)
  (refine wpG_skip rfl rfl ?_ EX7.out; intro K hK; go_big_quiet_op; go_big_quiet_on)
  (refine wpG_skip rfl rfl ?_ EX7.out; intro K hK; go_big_quiet_op; go_big_quiet_on)
  (refine wpG_skip rfl rfl ?_ EX7.out; intro K hK; go_big_quiet_op; go_big_quiet_on)
  (refine wpG_skip rfl rfl ?_ EX7.out; intro K hK; go_big_quiet_op; go_big_quiet_on)
  (refine wpG_skip rfl rfl ?_ EX7.out; intro K hK; go_big_quiet_op; go_big_quiet_on)
  (refine wpG_skip rfl rfl ?_ EX7.out; intro K hK; go_big_quiet_op; go_big_quiet_on)
  (refine wpG_skip rfl rfl ?_ EX7.out; intro K hK; go_big_quiet_op; go_big_quiet_on)
  (refine wpG_op rfl rfl rfl ?_; intro K hK; go_big_quiet_op; go_big_quiet_on)
  (refine wpG_op rfl rfl rfl ?_; intro K hK; go_big_quiet_op; go_big_quiet_on)
  clear hone
  refine wpG_nil ?_
  rintro u10 ⟨hl2, E2'⟩
  have EX9 := Lib.hid E2'
  clear hl2 E2' EX7
  go_upto_region 6 with (fail)
  refine wp_region_G (w0 := w) [0, 1, 2, 3, 4, 5, 6, 7, 8, 9, 10, 11] [(g6, (wo (y))), (g3, (wo (x))), (w.heap.size + 1, (wo (s))), (w.heap.size, (wo (t)))] 0 (by kernel_rfl) (by kernel_rfl) rfl EX9.out ?_
  have hone := @EnvC.one _ _ _ (EX9.out.drew)
  (refine wpG_load rfl rfl (w.heap.size) rfl 25 _ _ (fun u hu => EnvC.box hu _ (wo (t)) (List.Mem.tail _ (List.Mem.tail _ (List.Mem.tail _ (List.Mem.head _))))) Try.underlying25 rfl (wc_info _) ?_ (EX9.out.drew); intro K hK; go_big_quiet_op; go_big_quiet_on)
  (refine wpG_load rfl rfl (w.heap.size + 1) rfl 25 _ _ (fun u hu => EnvC.box hu _ (wo (s)) (List.Mem.tail _ (List.Mem.tail _ (List.Mem.head _)))) Try.underlying25 rfl (wc_info _) ?_ (EX9.out.drew); intro K hK; go_big_quiet_op; go_big_quiet_on)
  (refine wpG_call (f := 18) (args := #[.agg (wcs (t)), .agg (wcs (s))]) (v := .int .i64 c2) rfl rfl rfl Try.func18 rfl rfl (fun u _ => (by rw [← h2.out]; exact cmp_any (t) (s) u ht.out hs.out)) ?_ (EX9.out.drew); intro K hK; go_big_quiet_op; go_big_quiet_on)
  (refine wpG_op rfl rfl rfl ?_; intro K hK; go_big_quiet_op; go_big_quiet_on)
  (refine wpG_op rfl rfl rfl ?_; intro K hK; go_big_quiet_op; go_big_quiet_on)
  (refine wpG_skip rfl rfl ?_ EX9.out.drew; intro K hK; go_big_quiet_op; go_big_quiet_on)
  (refine wpG_skip rfl rfl ?_ EX9.out.drew; intro K hK; go_big_quiet_op; go_big_quiet_on)
  (refine wpG_skip rfl rfl ?_ EX9.out.drew; intro K hK; go_big_quiet_op; go_big_quiet_on)
  (refine wpG_skip rfl rfl ?_ EX9.out.drew; intro K hK; go_big_quiet_op; go_big_quiet_on)
  (refine wpG_skip rfl rfl ?_ EX9.out.drew; intro K hK; go_big_quiet_op; go_big_quiet_on)
  (refine wpG_op rfl rfl rfl ?_; intro K hK; go_big_quiet_op; go_big_quiet_on)
  (refine wpG_op rfl rfl rfl ?_; intro K hK; go_big_quiet_op; go_big_quiet_on)
  clear hone
  refine wpG_nil ?_
  refine anyG_done (by kernel_rfl) ?_
  rintro u12 ⟨hl2, E2'⟩
  have EX11 := Lib.hid E2'
  clear hl2 E2' EX9
  go_wp2_with fail
  go_ret
  exact ⟨rfl, EX11.out.bel⟩
set_option maxRecDepth 100000 in
set_option maxHeartbeats 8000000 in
theorem order_ffft (a b t s x y : Nat) (ha : Hid (a < 4294967296)) (hb : Hid (b < 4294967296)) (ht : Hid (t < Big)) (hs : Hid (s < Big)) (hxB : Hid (x < Big)) (hyB : Hid (y < Big)) (hx : Hid (tv a = x)) (hy : Hid (tv b = y)) (his : Hid (isC a = false)) (hcan : Hid (isC b = false)) (c2 : Int) (h2 : Hid (cmpI t s = c2)) (n2 : 0 < c2) (w : World) :
    Calls Try.prog 7 #[.int .u32 (a : Int), .int .u32 (b : Int), .agg (wcs (t)), .agg (wcs (s))] w fun e w' => e = .returned (.bool true) ∧ Below w.heap.size w w' := by
  have E1 : Hid (EnvX w ((w.alloc (.cells (wcs (t)) 25)).alloc (.cells (wcs (s)) 25)) [(w.heap.size + 1, (wo (s))), (w.heap.size, (wo (t)))]) := by
    have h := (((EnvX.start w).new (wo (t))).new (wo (s)))
    try simp only [World.size_alloc] at h
    exact h
  go_enter Try.func7, Try.ntmps7
  go_upto_region 1 with (fail)
  generalize ((w.alloc (.cells (wcs (t)) 25)).alloc (.cells (wcs (s)) 25)) = w1 at *
  refine wp_region_Gx (w0 := w) [0, 1] [] [(w.heap.size + 1, (wo (s))), (w.heap.size, (wo (t)))] rfl E1.out ?_
  have hone := @EnvC.one _ _ _ (E1.out)
  (refine wpG_call (f := 9) (args := #[]) (v := .bool true) rfl rfl rfl Try.func9 rfl rfl (fun u _ => awake_any u) ?_ (E1.out); intro K hK; go_big_quiet_op; go_big_quiet_on)
  (refine wpG_op rfl rfl rfl ?_; intro K hK; go_big_quiet_op; go_big_quiet_on)
  clear hone
  refine wpG_nil ?_
  rintro u2 ⟨hl2, E2'⟩
  have EX1 := Lib.hid E2'
  clear hl2 E2' E1
  go_upto_region 2 with (fail)
  refine wp_region_Gx (w0 := w) [0, 1, 2, 3, 4] [5, 6, 7] [(w.heap.size + 1, (wo (s))), (w.heap.size, (wo (t)))] rfl EX1.out ?_
  have hone := @EnvC.one _ _ _ (EX1.out)
  (refine wpG_op rfl rfl rfl ?_; intro K hK; go_big_quiet_op; go_big_quiet_on)
  (refine wpG_call (f := 10) (args := #[.int .u32 (a : Int)]) (v := .tuple #[.agg (wcs (x)), .bool false]) rfl rfl rfl Try.func10 rfl rfl (fun u _ => (by rw [← hx.out, ← his.out]; exact target_any a u ha.out)) ?_ (EX1.out); intro K hK; go_big_quiet_op; go_big_quiet_on)
  (refine wpG_op rfl rfl rfl ?_; intro K hK; go_big_quiet_op; go_big_quiet_on)
  (refine wpG_op rfl rfl rfl ?_; intro K hK; go_big_quiet_op; go_big_quiet_on)
  (refine wpG_op rfl rfl rfl ?_; intro K hK; go_big_quiet_op; go_big_quiet_on)
  clear hone
  refine wpG_nil ?_
  (refine (gOp_new (wo (0)) rfl (new_wide _) ?_); intro g3 hbg3 hfg3; intro K' hK'; go_big_quiet_op; go_big_quiet_on)
  have ng3x0 : Hid (w.heap.size + 1 ≠ g3) := hfg3 (w.heap.size + 1, _) (List.Mem.head _)
  have ng3x1 : Hid (w.heap.size ≠ g3) := hfg3 (w.heap.size, _) (List.Mem.tail _ (List.Mem.head _))
  clear hfg3
  refine (gOp_store rfl (g3) (wcs (x)) rfl rfl hbg3 25 (wcs (0)) (List.Mem.head _) (wc_info _) ((wc_size _).trans (wc_size _).symm) (wc_one _) [(g3, (wo (x))), (w.heap.size + 1, (wo (s))), (w.heap.size, (wo (t)))] (List.forall_mem_cons.2 ⟨.inl rfl, (List.forall_mem_cons.2 ⟨.inr ⟨(List.Mem.tail _ (List.Mem.head _)), ng3x0.out⟩, (List.forall_mem_cons.2 ⟨.inr ⟨(List.Mem.tail _ (List.Mem.tail _ (List.Mem.head _))), ng3x1.out⟩, (fun _ h => by cases h)⟩)⟩)⟩) ?_)
  (refine (gOp_pure rfl rfl ?_); intro K' hK'; go_big_quiet_op; go_big_quiet_on)
  rintro u5 ⟨hl2, E2'⟩
  have EX4 := Lib.hid E2'
  clear hl2 E2' EX1
  go_upto_region 3 with (fail)
  refine wp_region_Gx (w0 := w) [0, 1, 2, 3, 4] [5, 6, 7] [(g3, (wo (x))), (w.heap.size + 1, (wo (s))), (w.heap.size, (wo (t)))] rfl EX4.out ?_
  have hone := @EnvC.one _ _ _ (EX4.out)
  (refine wpG_op rfl rfl rfl ?_; intro K hK; go_big_quiet_op; go_big_quiet_on)
  (refine wpG_call (f := 10) (args := #[.int .u32 (b : Int)]) (v := .tuple #[.agg (wcs (y)), .bool false]) rfl rfl rfl Try.func10 rfl rfl (fun u _ => (by rw [← hy.out, ← hcan.out]; exact target_any b u hb.out)) ?_ (EX4.out); intro K hK; go_big_quiet_op; go_big_quiet_on)
  (refine wpG_op rfl rfl rfl ?_; intro K hK; go_big_quiet_op; go_big_quiet_on)
  (refine wpG_op rfl rfl rfl ?_; intro K hK; go_big_quiet_op; go_big_quiet_on)
  (refine wpG_op rfl rfl rfl ?_; intro K hK; go_big_quiet_op; go_big_quiet_on)
  clear hone
  refine wpG_nil ?_
  (refine (gOp_new (wo (0)) rfl (new_wide _) ?_); intro g6 hbg6 hfg6; intro K' hK'; go_big_quiet_op; go_big_quiet_on)
  have ng6x0 : Hid (g3 ≠ g6) := hfg6 (g3, _) (List.Mem.head _)
  have ng6x1 : Hid (w.heap.size + 1 ≠ g6) := hfg6 (w.heap.size + 1, _) (List.Mem.tail _ (List.Mem.head _))
  have ng6x2 : Hid (w.heap.size ≠ g6) := hfg6 (w.heap.size, _) (List.Mem.tail _ (List.Mem.tail _ (List.Mem.head _)))
  clear hfg6
  refine (gOp_store rfl (g6) (wcs (y)) rfl rfl hbg6 25 (wcs (0)) (List.Mem.head _) (wc_info _) ((wc_size _).trans (wc_size _).symm) (wc_one _) [(g6, (wo (y))), (g3, (wo (x))), (w.heap.size + 1, (wo (s))), (w.heap.size, (wo (t)))] (List.forall_mem_cons.2 ⟨.inl rfl, (List.forall_mem_cons.2 ⟨.inr ⟨(List.Mem.tail _ (List.Mem.head _)), ng6x0.out⟩, (List.forall_mem_cons.2 ⟨.inr ⟨(List.Mem.tail _ (List.Mem.tail _ (List.Mem.head _))), ng6x1.out⟩, (List.forall_mem_cons.2 ⟨.inr ⟨(List.Mem.tail _ (List.Mem.tail _ (List.Mem.tail _ (List.Mem.head _)))), ng6x2.out⟩, (fun _ h => by cases h)⟩)⟩)⟩)⟩) ?_)
  (refine (gOp_pure rfl rfl ?_); intro K' hK'; go_big_quiet_op; go_big_quiet_on)
  rintro u8 ⟨hl2, E2'⟩
  have EX7 := Lib.hid E2'
  clear hl2 E2' EX4
  go_upto_region 4 with (fail)
  refine wp_region_Gx (w0 := w) [0, 1, 2, 3, 4, 5, 6, 7, 8, 9, 10, 11, 12, 13, 14, 15, 16, 17] [] [(g6, (wo (y))), (g3, (wo (x))), (w.heap.size + 1, (wo (s))), (w.heap.size, (wo (t)))] rfl EX7.out ?_
  have hone := @EnvC.one _ _ _ (EX7.out)
  (refine wpG_op rfl rfl rfl ?_; intro K hK; go_big_quiet_op; go_big_quiet_on)
  (refine wpG_op rfl rfl rfl ?_; intro K hK; go_big_quiet_op; go_big_quiet_on)
  (refine wpG_op rfl rfl rfl ?_; intro K hK; go_big_quiet_op; go_big_quiet_on)
  (refine wpG_op rfl rfl rfl ?_; intro K hK; go_big_quiet_op; go_big_quiet_on)
  (refine wpG_op rfl rfl rfl ?_; intro K hK; go_big_quiet_op; go_big_quiet_on)
  (refine wpG_skip rfl rfl ?_ EX7.out; intro K hK; go_big_quiet_op; go_big_quiet_on)
  (refine wpG_op rfl rfl rfl ?_; intro K hK; go_big_quiet_op; go_big_quiet_on)
  (refine wpG_op rfl rfl rfl ?_; intro K hK; go_big_quiet_op; go_big_quiet_on)
  (refine wpG_skip rfl rfl ?_ EX7.out; intro K hK; go_big_quiet_op; go_big_quiet_on)
  (refine wpG_skip rfl rfl ?_ EX7.out; intro K hK; go_big_quiet_op; go_big_quiet_on)
  (refine wpG_skip rfl rfl ?_ EX7.out; intro K hK; go_big_quiet_op; go_big_quiet_on)
  (refine wpG_skip rfl rfl ?_ EX7.out; intro K hK; go_big_quiet_op; go_big_quiet_on)
  (refine wpG_skip rfl rfl ?_ EX7.out; intro K hK; go_big_quiet_op; go_big_quiet_on)
  (refine wpG_skip rfl rfl ?_ EX7.out; intro K hK; go_big_quiet_op; go_big_quiet_on)
  (refine wpG_skip rfl rfl ?_ EX7.out; intro K hK; go_big_quiet_op; go_big_quiet_on)
  (refine wpG_skip rfl rfl ?_ EX7.out; intro K hK; go_big_quiet_op; go_big_quiet_on)
  (refine wpG_op rfl rfl rfl ?_; intro K hK; go_big_quiet_op; go_big_quiet_on)
  (refine wpG_op rfl rfl rfl ?_; intro K hK; go_big_quiet_op; go_big_quiet_on)
  clear hone
  refine wpG_nil ?_
  rintro u10 ⟨hl2, E2'⟩
  have EX9 := Lib.hid E2'
  clear hl2 E2' EX7
  go_upto_region 6 with (fail)
  refine wp_region_G (w0 := w) [0, 1, 2, 3, 4, 5, 6, 7, 8, 9, 10, 11] [(g6, (wo (y))), (g3, (wo (x))), (w.heap.size + 1, (wo (s))), (w.heap.size, (wo (t)))] 0 (by kernel_rfl) (by kernel_rfl) rfl EX9.out ?_
  have hone := @EnvC.one _ _ _ (EX9.out.drew)
  (refine wpG_load rfl rfl (w.heap.size) rfl 25 _ _ (fun u hu => EnvC.box hu _ (wo (t)) (List.Mem.tail _ (List.Mem.tail _ (List.Mem.tail _ (List.Mem.head _))))) Try.underlying25 rfl (wc_info _) ?_ (EX9.out.drew); intro K hK; go_big_quiet_op; go_big_quiet_on)
  (refine wpG_load rfl rfl (w.heap.size + 1) rfl 25 _ _ (fun u hu => EnvC.box hu _ (wo (s)) (List.Mem.tail _ (List.Mem.tail _ (List.Mem.head _)))) Try.underlying25 rfl (wc_info _) ?_ (EX9.out.drew); intro K hK; go_big_quiet_op; go_big_quiet_on)
  (refine wpG_call (f := 18) (args := #[.agg (wcs (t)), .agg (wcs (s))]) (v := .int .i64 c2) rfl rfl rfl Try.func18 rfl rfl (fun u _ => (by rw [← h2.out]; exact cmp_any (t) (s) u ht.out hs.out)) ?_ (EX9.out.drew); intro K hK; go_big_quiet_op; go_big_quiet_on)
  (refine wpG_op rfl rfl rfl ?_; intro K hK; go_big_quiet_op; go_big_quiet_on)
  (refine wpG_op rfl rfl rfl ?_; intro K hK; go_big_quiet_op; go_big_quiet_on)
  (refine wpG_skip rfl rfl ?_ EX9.out.drew; intro K hK; go_big_quiet_op; go_big_quiet_on)
  (refine wpG_skip rfl rfl ?_ EX9.out.drew; intro K hK; go_big_quiet_op; go_big_quiet_on)
  (refine wpG_skip rfl rfl ?_ EX9.out.drew; intro K hK; go_big_quiet_op; go_big_quiet_on)
  (refine wpG_skip rfl rfl ?_ EX9.out.drew; intro K hK; go_big_quiet_op; go_big_quiet_on)
  (refine wpG_skip rfl rfl ?_ EX9.out.drew; intro K hK; go_big_quiet_op; go_big_quiet_on)
  (refine wpG_op rfl rfl rfl ?_; intro K hK; go_big_quiet_op; go_big_quiet_on)
  (refine wpG_op rfl rfl rfl ?_; intro K hK; go_big_quiet_op; go_big_quiet_on)
  clear hone
  refine wpG_nil ?_
  refine anyG_done (by kernel_rfl) ?_
  rintro u12 ⟨hl2, E2'⟩
  have EX11 := Lib.hid E2'
  clear hl2 E2' EX9
  go_wp2_with fail
  go_ret
  exact ⟨rfl, EX11.out.bel⟩
set_option maxRecDepth 100000 in
set_option maxHeartbeats 8000000 in
theorem order_tfft (a b t s x y : Nat) (ha : Hid (a < 4294967296)) (hb : Hid (b < 4294967296)) (ht : Hid (t < Big)) (hs : Hid (s < Big)) (hxB : Hid (x < Big)) (hyB : Hid (y < Big)) (hx : Hid (tv a = x)) (hy : Hid (tv b = y)) (his : Hid (isC a = true)) (hcan : Hid (isC b = false)) (c2 : Int) (h2 : Hid (cmpI t s = c2)) (n2 : 0 < c2) (w : World) :
    Calls Try.prog 7 #[.int .u32 (a : Int), .int .u32 (b : Int), .agg (wcs (t)), .agg (wcs (s))] w fun e w' => e = .returned (.bool true) ∧ Below w.heap.size w w' := by
  have E1 : Hid (EnvX w ((w.alloc (.cells (wcs (t)) 25)).alloc (.cells (wcs (s)) 25)) [(w.heap.size + 1, (wo (s))), (w.heap.size, (wo (t)))]) := by
    have h := (((EnvX.start w).new (wo (t))).new (wo (s)))
    try simp only [World.size_alloc] at h
    exact h
  go_enter Try.func7, Try.ntmps7
  go_upto_region 1 with (fail)
  generalize ((w.alloc (.cells (wcs (t)) 25)).alloc (.cells (wcs (s)) 25)) = w1 at *
  refine wp_region_Gx (w0 := w) [0, 1] [] [(w.heap.size + 1, (wo (s))), (w.heap.size, (wo (t)))] rfl E1.out ?_
  have hone := @EnvC.one _ _ _ (E1.out)
  (refine wpG_call (f := 9) (args := #[]) (v := .bool true) rfl rfl rfl Try.func9 rfl rfl (fun u _ => awake_any u) ?_ (E1.out); intro K hK; go_big_quiet_op; go_big_quiet_on)
  (refine wpG_op rfl rfl rfl ?_; intro K hK; go_big_quiet_op; go_big_quiet_on)
  clear hone
  refine wpG_nil ?_
  rintro u2 ⟨hl2, E2'⟩
  have EX1 := Lib.hid E2'
  clear hl2 E2' E1
  go_upto_region 2 with (fail)
  refine wp_region_Gx (w0 := w) [0, 1, 2, 3, 4] [5, 6, 7] [(w.heap.size + 1, (wo (s))), (w.heap.size, (wo (t)))] rfl EX1.out ?_
  have hone := @EnvC.one _ _ _ (EX1.out)
  (refine wpG_op rfl rfl rfl ?_; intro K hK; go_big_quiet_op; go_big_quiet_on)
  (refine wpG_call (f := 10) (args := #[.int .u32 (a : Int)]) (v := .tuple #[.agg (wcs (x)), .bool true]) rfl rfl rfl Try.func10 rfl rfl (fun u _ => (by rw [← hx.out, ← his.out]; exact target_any a u ha.out)) ?_ (EX1.out); intro K hK; go_big_quiet_op; go_big_quiet_on)
  (refine wpG_op rfl rfl rfl ?_; intro K hK; go_big_quiet_op; go_big_quiet_on)
  (refine wpG_op rfl rfl rfl ?_; intro K hK; go_big_quiet_op; go_big_quiet_on)
  (refine wpG_op rfl rfl rfl ?_; intro K hK; go_big_quiet_op; go_big_quiet_on)
  clear hone
  refine wpG_nil ?_
  (refine (gOp_new (wo (0)) rfl (new_wide _) ?_); intro g3 hbg3 hfg3; intro K' hK'; go_big_quiet_op; go_big_quiet_on)
  have ng3x0 : Hid (w.heap.size + 1 ≠ g3) := hfg3 (w.heap.size + 1, _) (List.Mem.head _)
  have ng3x1 : Hid (w.heap.size ≠ g3) := hfg3 (w.heap.size, _) (List.Mem.tail _ (List.Mem.head _))
  clear hfg3
  refine (gOp_store rfl (g3) (wcs (x)) rfl rfl hbg3 25 (wcs (0)) (List.Mem.head _) (wc_info _) ((wc_size _).trans (wc_size _).symm) (wc_one _) [(g3, (wo (x))), (w.heap.size + 1, (wo (s))), (w.heap.size, (wo (t)))] (List.forall_mem_cons.2 ⟨.inl rfl, (List.forall_mem_cons.2 ⟨.inr ⟨(List.Mem.tail _ (List.Mem.head _)), ng3x0.out⟩, (List.forall_mem_cons.2 ⟨.inr ⟨(List.Mem.tail _ (List.Mem.tail _ (List.Mem.head _))), ng3x1.out⟩, (fun _ h => by cases h)⟩)⟩)⟩) ?_)
  (refine (gOp_pure rfl rfl ?_); intro K' hK'; go_big_quiet_op; go_big_quiet_on)
  rintro u5 ⟨hl2, E2'⟩
  have EX4 := Lib.hid E2'
  clear hl2 E2' EX1
  go_upto_region 3 with (fail)
  refine wp_region_Gx (w0 := w) [0, 1, 2, 3, 4] [5, 6, 7] [(g3, (wo (x))), (w.heap.size + 1, (wo (s))), (w.heap.size, (wo (t)))] rfl EX4.out ?_
  have hone := @EnvC.one _ _ _ (EX4.out)
  (refine wpG_op rfl rfl rfl ?_; intro K hK; go_big_quiet_op; go_big_quiet_on)
  (refine wpG_call (f := 10) (args := #[.int .u32 (b : Int)]) (v := .tuple #[.agg (wcs (y)), .bool false]) rfl rfl rfl Try.func10 rfl rfl (fun u _ => (by rw [← hy.out, ← hcan.out]; exact target_any b u hb.out)) ?_ (EX4.out); intro K hK; go_big_quiet_op; go_big_quiet_on)
  (refine wpG_op rfl rfl rfl ?_; intro K hK; go_big_quiet_op; go_big_quiet_on)
  (refine wpG_op rfl rfl rfl ?_; intro K hK; go_big_quiet_op; go_big_quiet_on)
  (refine wpG_op rfl rfl rfl ?_; intro K hK; go_big_quiet_op; go_big_quiet_on)
  clear hone
  refine wpG_nil ?_
  (refine (gOp_new (wo (0)) rfl (new_wide _) ?_); intro g6 hbg6 hfg6; intro K' hK'; go_big_quiet_op; go_big_quiet_on)
  have ng6x0 : Hid (g3 ≠ g6) := hfg6 (g3, _) (List.Mem.head _)
  have ng6x1 : Hid (w.heap.size + 1 ≠ g6) := hfg6 (w.heap.size + 1, _) (List.Mem.tail _ (List.Mem.head _))
  have ng6x2 : Hid (w.heap.size ≠ g6) := hfg6 (w.heap.size, _) (List.Mem.tail _ (List.Mem.tail _ (List.Mem.head _)))
  clear hfg6
  refine (gOp_store rfl (g6) (wcs (y)) rfl rfl hbg6 25 (wcs (0)) (List.Mem.head _) (wc_info _) ((wc_size _).trans (wc_size _).symm) (wc_one _) [(g6, (wo (y))), (g3, (wo (x))), (w.heap.size + 1, (wo (s))), (w.heap.size, (wo (t)))] (List.forall_mem_cons.2 ⟨.inl rfl, (List.forall_mem_cons.2 ⟨.inr ⟨(List.Mem.tail _ (List.Mem.head _)), ng6x0.out⟩, (List.forall_mem_cons.2 ⟨.inr ⟨(List.Mem.tail _ (List.Mem.tail _ (List.Mem.head _))), ng6x1.out⟩, (List.forall_mem_cons.2 ⟨.inr ⟨(List.Mem.tail _ (List.Mem.tail _ (List.Mem.tail _ (List.Mem.head _)))), ng6x2.out⟩, (fun _ h => by cases h)⟩)⟩)⟩)⟩) ?_)
  (refine (gOp_pure rfl rfl ?_); intro K' hK'; go_big_quiet_op; go_big_quiet_on)
  rintro u8 ⟨hl2, E2'⟩
  have EX7 := Lib.hid E2'
  clear hl2 E2' EX4
  go_upto_region 4 with (fail)
  refine wp_region_Gx (w0 := w) [0, 1, 2, 3, 4, 5, 6, 7, 8, 9, 10, 11, 12, 13, 14, 15, 16, 17] [] [(g6, (wo (y))), (g3, (wo (x))), (w.heap.size + 1, (wo (s))), (w.heap.size, (wo (t)))] rfl EX7.out ?_
  have hone := @EnvC.one _ _ _ (EX7.out)
  (refine wpG_op rfl rfl rfl ?_; intro K hK; go_big_quiet_op; go_big_quiet_on)
  (refine wpG_op rfl rfl rfl ?_; intro K hK; go_big_quiet_op; go_big_quiet_on)
  (refine wpG_op rfl rfl rfl ?_; intro K hK; go_big_quiet_op; go_big_quiet_on)
  (refine wpG_op rfl rfl rfl ?_; intro K hK; go_big_quiet_op; go_big_quiet_on)
  (refine wpG_op rfl rfl rfl ?_; intro K hK; go_big_quiet_op; go_big_quiet_on)
  (refine wpG_op rfl rfl rfl ?_; intro K hK; go_big_quiet_op; go_big_quiet_on)
  (refine wpG_op rfl rfl rfl ?_; intro K hK; go_big_quiet_op; go_big_quiet_on)
  (refine wpG_op rfl rfl rfl ?_; intro K hK; go_big_quiet_op; go_big_quiet_on)
  (refine wpG_skip rfl rfl ?_ EX7.out; intro K hK; go_big_quiet_op; go_big_quiet_on)
  (refine wpG_skip rfl rfl ?_ EX7.out; intro K hK; go_big_quiet_op; go_big_quiet_on)
  (refine wpG_skip rfl rfl ?_ EX7.out; intro K hK; go_big_quiet_op; go_big_quiet_on)
  (refine wpG_skip rfl rfl ?_ EX7.out; intro K hK; go_big_quiet_op; go_big_quiet_on)
  (refine wpG_skip rfl rfl ?_ EX7.out; intro K hK; go_big_quiet_op; go_big_quiet_on)
  (refine wpG_skip rfl rfl ?_ EX7.out; intro K hK; go_big_quiet_op; go_big_quiet_on)
  (refine wpG_skip rfl rfl ?_ EX7.out; intro K hK; go_big_quiet_op; go_big_quiet_on)
  (refine wpG_skip rfl rfl ?_ EX7.out; intro K hK; go_big_quiet_op; go_big_quiet_on)
  (refine wpG_op rfl rfl rfl ?_; intro K hK; go_big_quiet_op; go_big_quiet_on)
  (refine wpG_op rfl rfl rfl ?_; intro K hK; go_big_quiet_op; go_big_quiet_on)
  clear hone
  refine wpG_nil ?_
  rintro u10 ⟨hl2, E2'⟩
  have EX9 := Lib.hid E2'
  clear hl2 E2' EX7
  go_upto_region 6 with (fail)
  refine wp_region_G (w0 := w) [0, 1, 2, 3, 4, 5, 6, 7, 8, 9, 10, 11] [(g6, (wo (y))), (g3, (wo (x))), (w.heap.size + 1, (wo (s))), (w.heap.size, (wo (t)))] 0 (by kernel_rfl) (by kernel_rfl) rfl EX9.out ?_
  have hone := @EnvC.one _ _ _ (EX9.out.drew)
  (refine wpG_load rfl rfl (w.heap.size) rfl 25 _ _ (fun u hu => EnvC.box hu _ (wo (t)) (List.Mem.tail _ (List.Mem.tail _ (List.Mem.tail _ (List.Mem.head _))))) Try.underlying25 rfl (wc_info _) ?_ (EX9.out.drew); intro K hK; go_big_quiet_op; go_big_quiet_on)
  (refine wpG_load rfl rfl (w.heap.size + 1) rfl 25 _ _ (fun u hu => EnvC.box hu _ (wo (s)) (List.Mem.tail _ (List.Mem.tail _ (List.Mem.head _)))) Try.underlying25 rfl (wc_info _) ?_ (EX9.out.drew); intro K hK; go_big_quiet_op; go_big_quiet_on)
  (refine wpG_call (f := 18) (args := #[.agg (wcs (t)), .agg (wcs (s))]) (v := .int .i64 c2) rfl rfl rfl Try.func18 rfl rfl (fun u _ => (by rw [← h2.out]; exact cmp_any (t) (s) u ht.out hs.out)) ?_ (EX9.out.drew); intro K hK; go_big_quiet_op; go_big_quiet_on)
  (refine wpG_op rfl rfl rfl ?_; intro K hK; go_big_quiet_op; go_big_quiet_on)
  (refine wpG_op rfl rfl rfl ?_; intro K hK; go_big_quiet_op; go_big_quiet_on)
  (refine wpG_skip rfl rfl ?_ EX9.out.drew; intro K hK; go_big_quiet_op; go_big_quiet_on)
  (refine wpG_skip rfl rfl ?_ EX9.out.drew; intro K hK; go_big_quiet_op; go_big_quiet_on)
  (refine wpG_skip rfl rfl ?_ EX9.out.drew; intro K hK; go_big_quiet_op; go_big_quiet_on)
  (refine wpG_skip rfl rfl ?_ EX9.out.drew; intro K hK; go_big_quiet_op; go_big_quiet_on)
  (refine wpG_skip rfl rfl ?_ EX9.out.drew; intro K hK; go_big_quiet_op; go_big_quiet_on)
  (refine wpG_op rfl rfl rfl ?_; intro K hK; go_big_quiet_op; go_big_quiet_on)
  (refine wpG_op rfl rfl rfl ?_; intro K hK; go_big_quiet_op; go_big_quiet_on)
  clear hone
  refine wpG_nil ?_
  refine anyG_done (by kernel_rfl) ?_
  rintro u12 ⟨hl2, E2'⟩
  have EX11 := Lib.hid E2'
  clear hl2 E2' EX9
  go_wp2_with fail
  go_ret
  exact ⟨rfl, EX11.out.bel⟩
set_option maxRecDepth 100000 in
set_option maxHeartbeats 8000000 in
theorem order_tttt (a b t s x y : Nat) (ha : Hid (a < 4294967296)) (hb : Hid (b < 4294967296)) (ht : Hid (t < Big)) (hs : Hid (s < Big)) (hxB : Hid (x < Big)) (hyB : Hid (y < Big)) (hx : Hid (tv a = x)) (hy : Hid (tv b = y)) (his : Hid (isC a = true)) (hcan : Hid (isC b = true)) (c2 : Int) (h2 : Hid (cmpI t s = c2)) (n2 : 0 < c2) (c1 : Int) (h1 : Hid (cmpI x y = c1)) (n1 : c1 < 0) (n0 : (a : Int) < (b : Int)) (w : World) :
    Calls Try.prog 7 #[.int .u32 (a : Int), .int .u32 (b : Int), .agg (wcs (t)), .agg (wcs (s))] w fun e w' => e = .returned (.bool true) ∧ Below w.heap.size w w' := by
  have E1 : Hid (EnvX w ((w.alloc (.cells (wcs (t)) 25)).alloc (.cells (wcs (s)) 25)) [(w.heap.size + 1, (wo (s))), (w.heap.size, (wo (t)))]) := by
    have h := (((EnvX.start w).new (wo (t))).new (wo (s)))
    try simp only [World.size_alloc] at h
    exact h
  go_enter Try.func7, Try.ntmps7
  go_upto_region 1 with (fail)
  generalize ((w.alloc (.cells (wcs (t)) 25)).alloc (.cells (wcs (s)) 25)) = w1 at *
  refine wp_region_Gx (w0 := w) [0, 1] [] [(w.heap.size + 1, (wo (s))), (w.heap.size, (wo (t)))] rfl E1.out ?_
  have hone := @EnvC.one _ _ _ (E1.out)
  (refine wpG_call (f := 9) (args := #[]) (v := .bool true) rfl rfl rfl Try.func9 rfl rfl (fun u _ => awake_any u) ?_ (E1.out); intro K hK; go_big_quiet_op; go_big_quiet_on)
  (refine wpG_op rfl rfl rfl ?_; intro K hK; go_big_quiet_op; go_big_quiet_on)
  clear hone
  refine wpG_nil ?_
  rintro u2 ⟨hl2, E2'⟩
  have EX1 := Lib.hid E2'
  clear hl2 E2' E1
  go_upto_region 2 with (fail)
  refine wp_region_Gx (w0 := w) [0, 1, 2, 3, 4] [5, 6, 7] [(w.heap.size + 1, (wo (s))), (w.heap.size, (wo (t)))] rfl EX1.out ?_
  have hone := @EnvC.one _ _ _ (EX1.out)
  (refine wpG_op rfl rfl rfl ?_; intro K hK; go_big_quiet_op; go_big_quiet_on)
  (refine wpG_call (f := 10) (args := #[.int .u32 (a : Int)]) (v := .tuple #[.agg (wcs (x)), .bool true]) rfl rfl rfl Try.func10 rfl rfl (fun u _ => (by rw [← hx.out, ← his.out]; exact target_any a u ha.out)) ?_ (EX1.out); intro K hK; go_big_quiet_op; go_big_quiet_on)
  (refine wpG_op rfl rfl rfl ?_; intro K hK; go_big_quiet_op; go_big_quiet_on)
  (refine wpG_op rfl rfl rfl ?_; intro K hK; go_big_quiet_op; go_big_quiet_on)
  (refine wpG_op rfl rfl rfl ?_; intro K hK; go_big_quiet_op; go_big_quiet_on)
  clear hone
  refine wpG_nil ?_
  (refine (gOp_new (wo (0)) rfl (new_wide _) ?_); intro g3 hbg3 hfg3; intro K' hK'; go_big_quiet_op; go_big_quiet_on)
  have ng3x0 : Hid (w.heap.size + 1 ≠ g3) := hfg3 (w.heap.size + 1, _) (List.Mem.head _)
  have ng3x1 : Hid (w.heap.size ≠ g3) := hfg3 (w.heap.size, _) (List.Mem.tail _ (List.Mem.head _))
  clear hfg3
  refine (gOp_store rfl (g3) (wcs (x)) rfl rfl hbg3 25 (wcs (0)) (List.Mem.head _) (wc_info _) ((wc_size _).trans (wc_size _).symm) (wc_one _) [(g3, (wo (x))), (w.heap.size + 1, (wo (s))), (w.heap.size, (wo (t)))] (List.forall_mem_cons.2 ⟨.inl rfl, (List.forall_mem_cons.2 ⟨.inr ⟨(List.Mem.tail _ (List.Mem.head _)), ng3x0.out⟩, (List.forall_mem_cons.2 ⟨.inr ⟨(List.Mem.tail _ (List.Mem.tail _ (List.Mem.head _))), ng3x1.out⟩, (fun _ h => by cases h)⟩)⟩)⟩) ?_)
  (refine (gOp_pure rfl rfl ?_); intro K' hK'; go_big_quiet_op; go_big_quiet_on)
  rintro u5 ⟨hl2, E2'⟩
  have EX4 := Lib.hid E2'
  clear hl2 E2' EX1
  go_upto_region 3 with (fail)
  refine wp_region_Gx (w0 := w) [0, 1, 2, 3, 4] [5, 6, 7] [(g3, (wo (x))), (w.heap.size + 1, (wo (s))), (w.heap.size, (wo (t)))] rfl EX4.out ?_
  have hone := @EnvC.one _ _ _ (EX4.out)
  (refine wpG_op rfl rfl rfl ?_; intro K hK; go_big_quiet_op; go_big_quiet_on)
  (refine wpG_call (f := 10) (args := #[.int .u32 (b : Int)]) (v := .tuple #[.agg (wcs (y)), .bool true]) rfl rfl rfl Try.func10 rfl rfl (fun u _ => (by rw [← hy.out, ← hcan.out]; exact target_any b u hb.out)) ?_ (EX4.out); intro K hK; go_big_quiet_op; go_big_quiet_on)
  (refine wpG_op rfl rfl rfl ?_; intro K hK; go_big_quiet_op; go_big_quiet_on)
  (refine wpG_op rfl rfl rfl ?_; intro K hK; go_big_quiet_op; go_big_quiet_on)
  (refine wpG_op rfl rfl rfl ?_; intro K hK; go_big_quiet_op; go_big_quiet_on)
  clear hone
  refine wpG_nil ?_
  (refine (gOp_new (wo (0)) rfl (new_wide _) ?_); intro g6 hbg6 hfg6; intro K' hK'; go_big_quiet_op; go_big_quiet_on)
  have ng6x0 : Hid (g3 ≠ g6) := hfg6 (g3, _) (List.Mem.head _)
  have ng6x1 : Hid (w.heap.size + 1 ≠ g6) := hfg6 (w.heap.size + 1, _) (List.Mem.tail _ (List.Mem.head _))
  have ng6x2 : Hid (w.heap.size ≠ g6) := hfg6 (w.heap.size, _) (List.Mem.tail _ (List.Mem.tail _ (List.Mem.head _)))
  clear hfg6
  refine (gOp_store rfl (g6) (wcs (y)) rfl rfl hbg6 25 (wcs (0)) (List.Mem.head _) (wc_info _) ((wc_size _).trans (wc_size _).symm) (wc_one _) [(g6, (wo (y))), (g3, (wo (x))), (w.heap.size + 1, (wo (s))), (w.heap.size, (wo (t)))] (List.forall_mem_cons.2 ⟨.inl rfl, (List.forall_mem_cons.2 ⟨.inr ⟨(List.Mem.tail _ (List.Mem.head _)), ng6x0.out⟩, (List.forall_mem_cons.2 ⟨.inr ⟨(List.Mem.tail _ (List.Mem.tail _ (List.Mem.head _))), ng6x1.out⟩, (List.forall_mem_cons.2 ⟨.inr ⟨(List.Mem.tail _ (List.Mem.tail _ (List.Mem.tail _ (List.Mem.head _)))), ng6x2.out⟩, (fun _ h => by cases h)⟩)⟩)⟩)⟩) ?_)
  (refine (gOp_pure rfl rfl ?_); intro K' hK'; go_big_quiet_op; go_big_quiet_on)
  rintro u8 ⟨hl2, E2'⟩
  have EX7 := Lib.hid E2'
  clear hl2 E2' EX4
  go_upto_region 4 with (fail)
  refine wp_region_Gx (w0 := w) [0, 1, 2, 3, 4, 5, 6, 7, 8, 9, 10, 11, 12, 13, 14, 15, 16, 17] [] [(g6, (wo (y))), (g3, (wo (x))), (w.heap.size + 1, (wo (s))), (w.heap.size, (wo (t)))] rfl EX7.out ?_
  have hone := @EnvC.one _ _ _ (EX7.out)
  (refine wpG_op rfl rfl rfl ?_; intro K hK; go_big_quiet_op; go_big_quiet_on)
  (refine wpG_op rfl rfl rfl ?_; intro K hK; go_big_quiet_op; go_big_quiet_on)
  (refine wpG_op rfl rfl rfl ?_; intro K hK; go_big_quiet_op; go_big_quiet_on)
  (refine wpG_op rfl rfl rfl ?_; intro K hK; go_big_quiet_op; go_big_quiet_on)
  (refine wpG_op rfl rfl rfl ?_; intro K hK; go_big_quiet_op; go_big_quiet_on)
  (refine wpG_op rfl rfl rfl ?_; intro K hK; go_big_quiet_op; go_big_quiet_on)
  (refine wpG_op rfl rfl rfl ?_; intro K hK; go_big_quiet_op; go_big_quiet_on)
  (refine wpG_op rfl rfl rfl ?_; intro K hK; go_big_quiet_op; go_big_quiet_on)
  (refine wpG_op rfl rfl rfl ?_; intro K hK; go_big_quiet_op; go_big_quiet_on)
  (refine wpG_op rfl rfl rfl ?_; intro K hK; go_big_quiet_op; go_big_quiet_on)
  (refine wpG_op rfl rfl rfl ?_; intro K hK; go_big_quiet_op; go_big_quiet_on)
  (refine wpG_load rfl rfl (g3) rfl 25 _ _ (fun u hu => EnvC.box hu _ (wo (x)) (List.Mem.tail _ (List.Mem.head _))) Try.underlying25 rfl (wc_info _) ?_ (EX7.out); intro K hK; go_big_quiet_op; go_big_quiet_on)
  (refine wpG_load rfl rfl (g6) rfl 25 _ _ (fun u hu => EnvC.box hu _ (wo (y)) (List.Mem.head _)) Try.underlying25 rfl (wc_info _) ?_ (EX7.out); intro K hK; go_big_quiet_op; go_big_quiet_on)
  (refine wpG_call (f := 18) (args := #[.agg (wcs (x)), .agg (wcs (y))]) (v := .int .i64 c1) rfl rfl rfl Try.func18 rfl rfl (fun u _ => (by rw [← h1.out]; exact cmp_any (x) (y) u hxB.out hyB.out)) ?_ (EX7.out); intro K hK; go_big_quiet_op; go_big_quiet_on)
  (refine wpG_op rfl rfl rfl ?_; intro K hK; go_big_quiet_op; go_big_quiet_on)
  (refine wpG_op rfl rfl rfl ?_; intro K hK; go_big_quiet_op; go_big_quiet_on)
  (refine wpG_op rfl rfl rfl ?_; intro K hK; go_big_quiet_op; go_big_quiet_on)
  (refine wpG_op rfl rfl rfl ?_; intro K hK; go_big_quiet_op; go_big_quiet_on)
  clear hone
  refine wpG_nil ?_
  rintro u10 ⟨hl2, E2'⟩
  have EX9 := Lib.hid E2'
  clear hl2 E2' EX7
  go_upto_region 6 with (fail)
  refine wp_region_G (w0 := w) [0, 1, 2, 3, 4, 5, 6, 7, 8, 9, 10, 11] [(g6, (wo (y))), (g3, (wo (x))), (w.heap.size + 1, (wo (s))), (w.heap.size, (wo (t)))] 0 (by kernel_rfl) (by kernel_rfl) rfl EX9.out ?_
  have hone := @EnvC.one _ _ _ (EX9.out.drew)
  (refine wpG_load rfl rfl (w.heap.size) rfl 25 _ _ (fun u hu => EnvC.box hu _ (wo (t)) (List.Mem.tail _ (List.Mem.tail _ (List.Mem.tail _ (List.Mem.head _))))) Try.underlying25 rfl (wc_info _) ?_ (EX9.out.drew); intro K hK; go_big_quiet_op; go_big_quiet_on)
  (refine wpG_load rfl rfl (w.heap.size + 1) rfl 25 _ _ (fun u hu => EnvC.box hu _ (wo (s)) (List.Mem.tail _ (List.Mem.tail _ (List.Mem.head _)))) Try.underlying25 rfl (wc_info _) ?_ (EX9.out.drew); intro K hK; go_big_quiet_op; go_big_quiet_on)
  (refine wpG_call (f := 18) (args := #[.agg (wcs (t)), .agg (wcs (s))]) (v := .int .i64 c2) rfl rfl rfl Try.func18 rfl rfl (fun u _ => (by rw [← h2.out]; exact cmp_any (t) (s) u ht.out hs.out)) ?_ (EX9.out.drew); intro K hK; go_big_quiet_op; go_big_quiet_on)
  (refine wpG_op rfl rfl rfl ?_; intro K hK; go_big_quiet_op; go_big_quiet_on)
  (refine wpG_op rfl rfl rfl ?_; intro K hK; go_big_quiet_op; go_big_quiet_on)
  (refine wpG_skip rfl rfl ?_ EX9.out.drew; intro K hK; go_big_quiet_op; go_big_quiet_on)
  (refine wpG_skip rfl rfl ?_ EX9.out.drew; intro K hK; go_big_quiet_op; go_big_quiet_on)
  (refine wpG_skip rfl rfl ?_ EX9.out.drew; intro K hK; go_big_quiet_op; go_big_quiet_on)
  (refine wpG_skip rfl rfl ?_ EX9.out.drew; intro K hK; go_big_quiet_op; go_big_quiet_on)
  (refine wpG_skip rfl rfl ?_ EX9.out.drew; intro K hK; go_big_quiet_op; go_big_quiet_on)
  (refine wpG_op rfl rfl rfl ?_; intro K hK; go_big_quiet_op; go_big_quiet_on)
  (refine wpG_op rfl rfl rfl ?_; intro K hK; go_big_quiet_op; go_big_quiet_on)
  clear hone
  refine wpG_nil ?_
  refine anyG_done (by kernel_rfl) ?_
  rintro u12 ⟨hl2, E2'⟩
  have EX11 := Lib.hid E2'
  clear hl2 E2' EX9
  go_wp2_with fail
  go_ret
  exact ⟨rfl, EX11.out.bel⟩
set_option maxRecDepth 100000 in
set_option maxHeartbeats 8000000 in
theorem order_ttft (a b t s x y : Nat) (ha : Hid (a < 4294967296)) (hb : Hid (b < 4294967296)) (ht : Hid (t < Big)) (hs : Hid (s < Big)) (hxB : Hid (x < Big)) (hyB : Hid (y < Big)) (hx : Hid (tv a = x)) (hy : Hid (tv b = y)) (his : Hid (isC a = true)) (hcan : Hid (isC b = true)) (c2 : Int) (h2 : Hid (cmpI t s = c2)) (n2 : 0 < c2) (c1 : Int) (h1 : Hid (cmpI x y = c1)) (n1 : ¬ c1 < 0) (n0 : ¬ (a : Int) < (b : Int)) (w : World) :
    Calls Try.prog 7 #[.int .u32 (a : Int), .int .u32 (b : Int), .agg (wcs (t)), .agg (wcs (s))] w fun e w' => e = .returned (.bool true) ∧ Below w.heap.size w w' := by
  have E1 : Hid (EnvX w ((w.alloc (.cells (wcs (t)) 25)).alloc (.cells (wcs (s)) 25)) [(w.heap.size + 1, (wo (s))), (w.heap.size, (wo (t)))]) := by
    have h := (((EnvX.start w).new (wo (t))).new (wo (s)))
    try simp only [World.size_alloc] at h
    exact h
  go_enter Try.func7, Try.ntmps7
  go_upto_region 1 with (fail)
  generalize ((w.alloc (.cells (wcs (t)) 25)).alloc (.cells (wcs (s)) 25)) = w1 at *
  refine wp_region_Gx (w0 := w) [0, 1] [] [(w.heap.size + 1, (wo (s))), (w.heap.size, (wo (t)))] rfl E1.out ?_
  have hone := @EnvC.one _ _ _ (E1.out)
  (refine wpG_call (f := 9) (args := #[]) (v := .bool true) rfl rfl rfl Try.func9 rfl rfl (fun u _ => awake_any u) ?_ (E1.out); intro K hK; go_big_quiet_op; go_big_quiet_on)
  (refine wpG_op rfl rfl rfl ?_; intro K hK; go_big_quiet_op; go_big_quiet_on)
  clear hone
  refine wpG_nil ?_
  rintro u2 ⟨hl2, E2'⟩
  have EX1 := Lib.hid E2'
  clear hl2 E2' E1
  go_upto_region 2 with (fail)
  refine wp_region_Gx (w0 := w) [0, 1, 2, 3, 4] [5, 6, 7] [(w.heap.size + 1, (wo (s))), (w.heap.size, (wo (t)))] rfl EX1.out ?_
  have hone := @EnvC.one _ _ _ (EX1.out)
  (refine wpG_op rfl rfl rfl ?_; intro K hK; go_big_quiet_op; go_big_quiet_on)
  (refine wpG_call (f := 10) (args := #[.int .u32 (a : Int)]) (v := .tuple #[.agg (wcs (x)), .bool true]) rfl rfl rfl Try.func10 rfl rfl (fun u _ => (by rw [← hx.out, ← his.out]; exact target_any a u ha.out)) ?_ (EX1.out); intro K hK; go_big_quiet_op; go_big_quiet_on)
  (refine wpG_op rfl rfl rfl ?_; intro K hK; go_big_quiet_op; go_big_quiet_on)
  (refine wpG_op rfl rfl rfl ?_; intro K hK; go_big_quiet_op; go_big_quiet_on)
  (refine wpG_op rfl rfl rfl ?_; intro K hK; go_big_quiet_op; go_big_quiet_on)
  clear hone
  refine wpG_nil ?_
  (refine (gOp_new (wo (0)) rfl (new_wide _) ?_); intro g3 hbg3 hfg3; intro K' hK'; go_big_quiet_op; go_big_quiet_on)
  have ng3x0 : Hid (w.heap.size + 1 ≠ g3) := hfg3 (w.heap.size + 1, _) (List.Mem.head _)
  have ng3x1 : Hid (w.heap.size ≠ g3) := hfg3 (w.heap.size, _) (List.Mem.tail _ (List.Mem.head _))
  clear hfg3
  refine (gOp_store rfl (g3) (wcs (x)) rfl rfl hbg3 25 (wcs (0)) (List.Mem.head _) (wc_info _) ((wc_size _).trans (wc_size _).symm) (wc_one _) [(g3, (wo (x))), (w.heap.size + 1, (wo (s))), (w.heap.size, (wo (t)))] (List.forall_mem_cons.2 ⟨.inl rfl, (List.forall_mem_cons.2 ⟨.inr ⟨(List.Mem.tail _ (List.Mem.head _)), ng3x0.out⟩, (List.forall_mem_cons.2 ⟨.inr ⟨(List.Mem.tail _ (List.Mem.tail _ (List.Mem.head _))), ng3x1.out⟩, (fun _ h => by cases h)⟩)⟩)⟩) ?_)
  (refine (gOp_pure rfl rfl ?_); intro K' hK'; go_big_quiet_op; go_big_quiet_on)
  rintro u5 ⟨hl2, E2'⟩
  have EX4 := Lib.hid E2'
  clear hl2 E2' EX1
  go_upto_region 3 with (fail)
  refine wp_region_Gx (w0 := w) [0, 1, 2, 3, 4] [5, 6, 7] [(g3, (wo (x))), (w.heap.size + 1, (wo (s))), (w.heap.size, (wo (t)))] rfl EX4.out ?_
  have hone := @EnvC.one _ _ _ (EX4.out)
  (refine wpG_op rfl rfl rfl ?_; intro K hK; go_big_quiet_op; go_big_quiet_on)
  (refine wpG_call (f := 10) (args := #[.int .u32 (b : Int)]) (v := .tuple #[.agg (wcs (y)), .bool true]) rfl rfl rfl Try.func10 rfl rfl (fun u _ => (by rw [← hy.out, ← hcan.out]; exact target_any b u hb.out)) ?_ (EX4.out); intro K hK; go_big_quiet_op; go_big_quiet_on)
  (refine wpG_op rfl rfl rfl ?_; intro K hK; go_big_quiet_op; go_big_quiet_on)
  (refine wpG_op rfl rfl rfl ?_; intro K hK; go_big_quiet_op; go_big_quiet_on)
  (refine wpG_op rfl rfl rfl ?_; intro K hK; go_big_quiet_op; go_big_quiet_on)
  clear hone
  refine wpG_nil ?_
  (refine (gOp_new (wo (0)) rfl (new_wide _) ?_); intro g6 hbg6 hfg6; intro K' hK'; go_big_quiet_op; go_big_quiet_on)
  have ng6x0 : Hid (g3 ≠ g6) := hfg6 (g3, _) (List.Mem.head _)
  have ng6x1 : Hid (w.heap.size + 1 ≠ g6) := hfg6 (w.heap.size + 1, _) (List.Mem.tail _ (List.Mem.head _))
  have ng6x2 : Hid (w.heap.size ≠ g6) := hfg6 (w.heap.size, _) (List.Mem.tail _ (List.Mem.tail _ (List.Mem.head _)))
  clear hfg6
  refine (gOp_store rfl (g6) (wcs (y)) rfl rfl hbg6 25 (wcs (0)) (List.Mem.head _) (wc_info _) ((wc_size _).trans (wc_size _).symm) (wc_one _) [(g6, (wo (y))), (g3, (wo (x))), (w.heap.size + 1, (wo (s))), (w.heap.size, (wo (t)))] (List.forall_mem_cons.2 ⟨.inl rfl, (List.forall_mem_cons.2 ⟨.inr ⟨(List.Mem.tail _ (List.Mem.head _)), ng6x0.out⟩, (List.forall_mem_cons.2 ⟨.inr ⟨(List.Mem.tail _ (List.Mem.tail _ (List.Mem.head _))), ng6x1.out⟩, (List.forall_mem_cons.2 ⟨.inr ⟨(List.Mem.tail _ (List.Mem.tail _ (List.Mem.tail _ (List.Mem.head _)))), ng6x2.out⟩, (fun _ h => by cases h)⟩)⟩)⟩)⟩) ?_)
  (refine (gOp_pure rfl rfl ?_); intro K' hK'; go_big_quiet_op; go_big_quiet_on)
  rintro u8 ⟨hl2, E2'⟩
  have EX7 := Lib.hid E2'
  clear hl2 E2' EX4
  go_upto_region 4 with (fail)
  refine wp_region_Gx (w0 := w) [0, 1, 2, 3, 4, 5, 6, 7, 8, 9, 10, 11, 12, 13, 14, 15, 16, 17] [] [(g6, (wo (y))), (g3, (wo (x))), (w.heap.size + 1, (wo (s))), (w.heap.size, (wo (t)))] rfl EX7.out ?_
  have hone := @EnvC.one _ _ _ (EX7.out)
  (refine wpG_op rfl rfl rfl ?_; intro K hK; go_big_quiet_op; go_big_quiet_on)
  (refine wpG_op rfl rfl rfl ?_; intro K hK; go_big_quiet_op; go_big_quiet_on)
  (refine wpG_op rfl rfl rfl ?_; intro K hK; go_big_quiet_op; go_big_quiet_on)
  (refine wpG_op rfl rfl rfl ?_; intro K hK; go_big_quiet_op; go_big_quiet_on)
  (refine wpG_op rfl rfl rfl ?_; intro K hK; go_big_quiet_op; go_big_quiet_on)
  (refine wpG_op rfl rfl rfl ?_; intro K hK; go_big_quiet_op; go_big_quiet_on)
  (refine wpG_op rfl rfl rfl ?_; intro K hK; go_big_quiet_op; go_big_quiet_on)
  (refine wpG_op rfl rfl rfl ?_; intro K hK; go_big_quiet_op; go_big_quiet_on)
  (refine wpG_op rfl rfl rfl ?_; intro K hK; go_big_quiet_op; go_big_quiet_on)
  (refine wpG_op rfl rfl rfl ?_; intro K hK; go_big_quiet_op; go_big_quiet_on)
  (refine wpG_op rfl rfl rfl ?_; intro K hK; go_big_quiet_op; go_big_quiet_on)
  (refine wpG_load rfl rfl (g3) rfl 25 _ _ (fun u hu => EnvC.box hu _ (wo (x)) (List.Mem.tail _ (List.Mem.head _))) Try.underlying25 rfl (wc_info _) ?_ (EX7.out); intro K hK; go_big_quiet_op; go_big_quiet_on)
  (refine wpG_load rfl rfl (g6) rfl 25 _ _ (fun u hu => EnvC.box hu _ (wo (y)) (List.Mem.head _)) Try.underlying25 rfl (wc_info _) ?_ (EX7.out); intro K hK; go_big_quiet_op; go_big_quiet_on)
  (refine wpG_call (f := 18) (args := #[.agg (wcs (x)), .agg (wcs (y))]) (v := .int .i64 c1) rfl rfl rfl Try.func18 rfl rfl (fun u _ => (by rw [← h1.out]; exact cmp_any (x) (y) u hxB.out hyB.out)) ?_ (EX7.out); intro K hK; go_big_quiet_op; go_big_quiet_on)
  (refine wpG_op rfl rfl rfl ?_; intro K hK; go_big_quiet_op; go_big_quiet_on)
  (refine wpG_op rfl rfl rfl ?_; intro K hK; go_big_quiet_op; go_big_quiet_on)
  (refine wpG_op rfl rfl rfl ?_; intro K hK; go_big_quiet_op; go_big_quiet_on)
  (refine wpG_op rfl rfl rfl ?_; intro K hK; go_big_quiet_op; go_big_quiet_on)
  clear hone
  refine wpG_nil ?_
  rintro u10 ⟨hl2, E2'⟩
  have EX9 := Lib.hid E2'
  clear hl2 E2' EX7
  go_upto_region 6 with (fail)
  refine wp_region_G (w0 := w) [0, 1, 2, 3, 4, 5, 6, 7, 8, 9, 10, 11] [(g6, (wo (y))), (g3, (wo (x))), (w.heap.size + 1, (wo (s))), (w.heap.size, (wo (t)))] 0 (by kernel_rfl) (by kernel_rfl) rfl EX9.out ?_
  have hone := @EnvC.one _ _ _ (EX9.out.drew)
  (refine wpG_load rfl rfl (w.heap.size) rfl 25 _ _ (fun u hu => EnvC.box hu _ (wo (t)) (List.Mem.tail _ (List.Mem.tail _ (List.Mem.tail _ (List.Mem.head _))))) Try.underlying25 rfl (wc_info _) ?_ (EX9.out.drew); intro K hK; go_big_quiet_op; go_big_quiet_on)
  (refine wpG_load rfl rfl (w.heap.size + 1) rfl 25 _ _ (fun u hu => EnvC.box hu _ (wo (s)) (List.Mem.tail _ (List.Mem.tail _ (List.Mem.head _)))) Try.underlying25 rfl (wc_info _) ?_ (EX9.out.drew); intro K hK; go_big_quiet_op; go_big_quiet_on)
  (refine wpG_call (f := 18) (args := #[.agg (wcs (t)), .agg (wcs (s))]) (v := .int .i64 c2) rfl rfl rfl Try.func18 rfl rfl (fun u _ => (by rw [← h2.out]; exact cmp_any (t) (s) u ht.out hs.out)) ?_ (EX9.out.drew); intro K hK; go_big_quiet_op; go_big_quiet_on)
  (refine wpG_op rfl rfl rfl ?_; intro K hK; go_big_quiet_op; go_big_quiet_on)
  (refine wpG_op rfl rfl rfl ?_; intro K hK; go_big_quiet_op; go_big_quiet_on)
  (refine wpG_skip rfl rfl ?_ EX9.out.drew; intro K hK; go_big_quiet_op; go_big_quiet_on)
  (refine wpG_skip rfl rfl ?_ EX9.out.drew; intro K hK; go_big_quiet_op; go_big_quiet_on)
  (refine wpG_skip rfl rfl ?_ EX9.out.drew; intro K hK; go_big_quiet_op; go_big_quiet_on)
  (refine wpG_skip rfl rfl ?_ EX9.out.drew; intro K hK; go_big_quiet_op; go_big_quiet_on)
  (refine wpG_skip rfl rfl ?_ EX9.out.drew; intro K hK; go_big_quiet_op; go_big_quiet_on)
  (refine wpG_op rfl rfl rfl ?_; intro K hK; go_big_quiet_op; go_big_quiet_on)
  (refine wpG_op rfl rfl rfl ?_; intro K hK; go_big_quiet_op; go_big_quiet_on)
  clear hone
  refine wpG_nil ?_
  refine anyG_done (by kernel_rfl) ?_
  rintro u12 ⟨hl2, E2'⟩
  have EX11 := Lib.hid E2'
  clear hl2 E2' EX9
  go_wp2_with fail
  go_ret
  exact ⟨rfl, EX11.out.bel⟩
set_option maxRecDepth 100000 in
set_option maxHeartbeats 8000000 in
theorem order_ftff (a b t s x y : Nat) (ha : Hid (a < 4294967296)) (hb : Hid (b < 4294967296)) (ht : Hid (t < Big)) (hs : Hid (s < Big)) (hxB : Hid (x < Big)) (hyB : Hid (y < Big)) (hx : Hid (tv a = x)) (hy : Hid (tv b = y)) (his : Hid (isC a = false)) (hcan : Hid (isC b = true)) (c2 : Int) (h2 : Hid (cmpI t s = c2)) (n2 : ¬ 0 < c2) (p q : Nat) (hp : Hid (cN t = p)) (hq : Hid (cN s = q)) (npq : (p : Int) ≤ (q : Int)) (w : World) :
    Calls Try.prog 7 #[.int .u32 (a : Int), .int .u32 (b : Int), .agg (wcs (t)), .agg (wcs (s))] w fun e w' => e = .returned (.bool true) ∧ Below w.heap.size w w' := by
  have E1 : Hid (EnvX w ((w.alloc (.cells (wcs (t)) 25)).alloc (.cells (wcs (s)) 25)) [(w.heap.size + 1, (wo (s))), (w.heap.size, (wo (t)))]) := by
    have h := (((EnvX.start w).new (wo (t))).new (wo (s)))
    try simp only [World.size_alloc] at h
    exact h
  go_enter Try.func7, Try.ntmps7
  go_upto_region 1 with (fail)
  generalize ((w.alloc (.cells (wcs (t)) 25)).alloc (.cells (wcs (s)) 25)) = w1 at *
  refine wp_region_Gx (w0 := w) [0, 1] [] [(w.heap.size + 1, (wo (s))), (w.heap.size, (wo (t)))] rfl E1.out ?_
  have hone := @EnvC.one _ _ _ (E1.out)
  (refine wpG_call (f := 9) (args := #[]) (v := .bool true) rfl rfl rfl Try.func9 rfl rfl (fun u _ => awake_any u) ?_ (E1.out); intro K hK; go_big_quiet_op; go_big_quiet_on)
  (refine wpG_op rfl rfl rfl ?_; intro K hK; go_big_quiet_op; go_big_quiet_on)
  clear hone
  refine wpG_nil ?_
  rintro u2 ⟨hl2, E2'⟩
  have EX1 := Lib.hid E2'
  clear hl2 E2' E1
  go_upto_region 2 with (fail)
  refine wp_region_Gx (w0 := w) [0, 1, 2, 3, 4] [5, 6, 7] [(w.heap.size + 1, (wo (s))), (w.heap.size, (wo (t)))] rfl EX1.out ?_
  have hone := @EnvC.one _ _ _ (EX1.out)
  (refine wpG_op rfl rfl rfl ?_; intro K hK; go_big_quiet_op; go_big_quiet_on)
  (refine wpG_call (f := 10) (args := #[.int .u32 (a : Int)]) (v := .tuple #[.agg (wcs (x)), .bool false]) rfl rfl rfl Try.func10 rfl rfl (fun u _ => (by rw [← hx.out, ← his.out]; exact target_any a u ha.out)) ?_ (EX1.out); intro K hK; go_big_quiet_op; go_big_quiet_on)
  (refine wpG_op rfl rfl rfl ?_; intro K hK; go_big_quiet_op; go_big_quiet_on)
  (refine wpG_op rfl rfl rfl ?_; intro K hK; go_big_quiet_op; go_big_quiet_on)
  (refine wpG_op rfl rfl rfl ?_; intro K hK; go_big_quiet_op; go_big_quiet_on)
  clear hone
  refine wpG_nil ?_
  (refine (gOp_new (wo (0)) rfl (new_wide _) ?_); intro g3 hbg3 hfg3; intro K' hK'; go_big_quiet_op; go_big_quiet_on)
  have ng3x0 : Hid (w.heap.size + 1 ≠ g3) := hfg3 (w.heap.size + 1, _) (List.Mem.head _)
  have ng3x1 : Hid (w.heap.size ≠ g3) := hfg3 (w.heap.size, _) (List.Mem.tail _ (List.Mem.head _))
  clear hfg3
  refine (gOp_store rfl (g3) (wcs (x)) rfl rfl hbg3 25 (wcs (0)) (List.Mem.head _) (wc_info _) ((wc_size _).trans (wc_size _).symm) (wc_one _) [(g3, (wo (x))), (w.heap.size + 1, (wo (s))), (w.heap.size, (wo (t)))] (List.forall_mem_cons.2 ⟨.inl rfl, (List.forall_mem_cons.2 ⟨.inr ⟨(List.Mem.tail _ (List.Mem.head _)), ng3x0.out⟩, (List.forall_mem_cons.2 ⟨.inr ⟨(List.Mem.tail _ (List.Mem.tail _ (List.Mem.head _))), ng3x1.out⟩, (fun _ h => by cases h)⟩)⟩)⟩) ?_)
  (refine (gOp_pure rfl rfl ?_); intro K' hK'; go_big_quiet_op; go_big_quiet_on)
  rintro u5 ⟨hl2, E2'⟩
  have EX4 := Lib.hid E2'
  clear hl2 E2' EX1
  go_upto_region 3 with (fail)
  refine wp_region_Gx (w0 := w) [0, 1, 2, 3, 4] [5, 6, 7] [(g3, (wo (x))), (w.heap.size + 1, (wo (s))), (w.heap.size, (wo (t)))] rfl EX4.out ?_
  have hone := @EnvC.one _ _ _ (EX4.out)
  (refine wpG_op rfl rfl rfl ?_; intro K hK; go_big_quiet_op; go_big_quiet_on)
  (refine wpG_call (f := 10) (args := #[.int .u32 (b : Int)]) (v := .tuple #[.agg (wcs (y)), .bool true]) rfl rfl rfl Try.func10 rfl rfl (fun u _ => (by rw [← hy.out, ← hcan.out]; exact target_any b u hb.out)) ?_ (EX4.out); intro K hK; go_big_quiet_op; go_big_quiet_on)
  (refine wpG_op rfl rfl rfl ?_; intro K hK; go_big_quiet_op; go_big_quiet_on)
  (refine wpG_op rfl rfl rfl ?_; intro K hK; go_big_quiet_op; go_big_quiet_on)
  (refine wpG_op rfl rfl rfl ?_; intro K hK; go_big_quiet_op; go_big_quiet_on)
  clear hone
  refine wpG_nil ?_
  (refine (gOp_new (wo (0)) rfl (new_wide _) ?_); intro g6 hbg6 hfg6; intro K' hK'; go_big_quiet_op; go_big_quiet_on)
  have ng6x0 : Hid (g3 ≠ g6) := hfg6 (g3, _) (List.Mem.head _)
  have ng6x1 : Hid (w.heap.size + 1 ≠ g6) := hfg6 (w.heap.size + 1, _) (List.Mem.tail _ (List.Mem.head _))
  have ng6x2 : Hid (w.heap.size ≠ g6) := hfg6 (w.heap.size, _) (List.Mem.tail _ (List.Mem.tail _ (List.Mem.head _)))
  clear hfg6
  refine (gOp_store rfl (g6) (wcs (y)) rfl rfl hbg6 25 (wcs (0)) (List.Mem.head _) (wc_info _) ((wc_size _).trans (wc_size _).symm) (wc_one _) [(g6, (wo (y))), (g3, (wo (x))), (w.heap.size + 1, (wo (s))), (w.heap.size, (wo (t)))] (List.forall_mem_cons.2 ⟨.inl rfl, (List.forall_mem_cons.2 ⟨.inr ⟨(List.Mem.tail _ (List.Mem.head _)), ng6x0.out⟩, (List.forall_mem_cons.2 ⟨.inr ⟨(List.Mem.tail _ (List.Mem.tail _ (List.Mem.head _))), ng6x1.out⟩, (List.forall_mem_cons.2 ⟨.inr ⟨(List.Mem.tail _ (List.Mem.tail _ (List.Mem.tail _ (List.Mem.head _)))), ng6x2.out⟩, (fun _ h => by cases h)⟩)⟩)⟩)⟩) ?_)
  (refine (gOp_pure rfl rfl ?_); intro K' hK'; go_big_quiet_op; go_big_quiet_on)
  rintro u8 ⟨hl2, E2'⟩
  have EX7 := Lib.hid E2'
  clear hl2 E2' EX4
  go_upto_region 4 with (fail)
  refine wp_region_Gx (w0 := w) [0, 1, 2, 3, 4, 5, 6, 7, 8, 9, 10, 11, 12, 13, 14, 15, 16, 17] [] [(g6, (wo (y))), (g3, (wo (x))), (w.heap.size + 1, (wo (s))), (w.heap.size, (wo (t)))] rfl EX7.out ?_
  have hone := @EnvC.one _ _ _ (EX7.out)
  (refine wpG_op rfl rfl rfl ?_; intro K hK; go_big_quiet_op; go_big_quiet_on)
  (refine wpG_op rfl rfl rfl ?_; intro K hK; go_big_quiet_op; go_big_quiet_on)
  (refine wpG_op rfl rfl rfl ?_; intro K hK; go_big_quiet_op; go_big_quiet_on)
  (refine wpG_op rfl rfl rfl ?_; intro K hK; go_big_quiet_op; go_big_quiet_on)
  (refine wpG_op rfl rfl rfl ?_; intro K hK; go_big_quiet_op; go_big_quiet_on)
  (refine wpG_skip rfl rfl ?_ EX7.out; intro K hK; go_big_quiet_op; go_big_quiet_on)
  (refine wpG_op rfl rfl rfl ?_; intro K hK; go_big_quiet_op; go_big_quiet_on)
  (refine wpG_op rfl rfl rfl ?_; intro K hK; go_big_quiet_op; go_big_quiet_on)
  (refine wpG_skip rfl rfl ?_ EX7.out; intro K hK; go_big_quiet_op; go_big_quiet_on)
  (refine wpG_skip rfl rfl ?_ EX7.out; intro K hK; go_big_quiet_op; go_big_quiet_on)
  (refine wpG_skip rfl rfl ?_ EX7.out; intro K hK; go_big_quiet_op; go_big_quiet_on)
  (refine wpG_skip rfl rfl ?_ EX7.out; intro K hK; go_big_quiet_op; go_big_quiet_on)
  (refine wpG_skip rfl rfl ?_ EX7.out; intro K hK; go_big_quiet_op; go_big_quiet_on)
  (refine wpG_skip rfl rfl ?_ EX7.out; intro K hK; go_big_quiet_op; go_big_quiet_on)
  (refine wpG_skip rfl rfl ?_ EX7.out; intro K hK; go_big_quiet_op; go_big_quiet_on)
  (refine wpG_skip rfl rfl ?_ EX7.out; intro K hK; go_big_quiet_op; go_big_quiet_on)
  (refine wpG_op rfl rfl rfl ?_; intro K hK; go_big_quiet_op; go_big_quiet_on)
  (refine wpG_op rfl rfl rfl ?_; intro K hK; go_big_quiet_op; go_big_quiet_on)
  clear hone
  refine wpG_nil ?_
  rintro u10 ⟨hl2, E2'⟩
  have EX9 := Lib.hid E2'
  clear hl2 E2' EX7
  go_upto_region 6 with (fail)
  refine wp_region_G (w0 := w) [0, 1, 2, 3, 4, 5, 6, 7, 8, 9, 10, 11] [(g6, (wo (y))), (g3, (wo (x))), (w.heap.size + 1, (wo (s))), (w.heap.size, (wo (t)))] 0 (by kernel_rfl) (by kernel_rfl) rfl EX9.out ?_
  have hone := @EnvC.one _ _ _ (EX9.out.drew)
  (refine wpG_load rfl rfl (w.heap.size) rfl 25 _ _ (fun u hu => EnvC.box hu _ (wo (t)) (List.Mem.tail _ (List.Mem.tail _ (List.Mem.tail _ (List.Mem.head _))))) Try.underlying25 rfl (wc_info _) ?_ (EX9.out.drew); intro K hK; go_big_quiet_op; go_big_quiet_on)
  (refine wpG_load rfl rfl (w.heap.size + 1) rfl 25 _ _ (fun u hu => EnvC.box hu _ (wo (s)) (List.Mem.tail _ (List.Mem.tail _ (List.Mem.head _)))) Try.underlying25 rfl (wc_info _) ?_ (EX9.out.drew); intro K hK; go_big_quiet_op; go_big_quiet_on)
  (refine wpG_call (f := 18) (args := #[.agg (wcs (t)), .agg (wcs (s))]) (v := .int .i64 c2) rfl rfl rfl Try.func18 rfl rfl (fun u _ => (by rw [← h2.out]; exact cmp_any (t) (s) u ht.out hs.out)) ?_ (EX9.out.drew); intro K hK; go_big_quiet_op; go_big_quiet_on)
  (refine wpG_op rfl rfl rfl ?_; intro K hK; go_big_quiet_op; go_big_quiet_on)
  (refine wpG_op rfl rfl rfl ?_; intro K hK; go_big_quiet_op; go_big_quiet_on)
  (refine wpG_load rfl rfl (w.heap.size) rfl 25 _ _ (fun u hu => EnvC.box hu _ (wo (t)) (List.Mem.tail _ (List.Mem.tail _ (List.Mem.tail _ (List.Mem.head _))))) Try.underlying25 rfl (wc_info _) ?_ (EX9.out.drew); intro K hK; go_big_quiet_op; go_big_quiet_on)
  (refine wpG_call (f := 12) (args := #[.agg (wcs (t))]) (v := .int .u32 (p : Int)) rfl rfl rfl Try.func12 rfl rfl (fun u _ => (by have h := compact_any t u ht.out; rw [hp.out] at h; exact h)) ?_ (EX9.out.drew); intro K hK; go_big_quiet_op; go_big_quiet_on)
  (refine wpG_load rfl rfl (w.heap.size + 1) rfl 25 _ _ (fun u hu => EnvC.box hu _ (wo (s)) (List.Mem.tail _ (List.Mem.tail _ (List.Mem.head _)))) Try.underlying25 rfl (wc_info _) ?_ (EX9.out.drew); intro K hK; go_big_quiet_op; go_big_quiet_on)
  (refine wpG_call (f := 12) (args := #[.agg (wcs (s))]) (v := .int .u32 (q : Int)) rfl rfl rfl Try.func12 rfl rfl (fun u _ => (by have h := compact_any s u hs.out; rw [hq.out] at h; exact h)) ?_ (EX9.out.drew); intro K hK; go_big_quiet_op; go_big_quiet_on)
  (refine wpG_op rfl rfl rfl ?_; intro K hK; go_big_quiet_op; go_big_quiet_on)
  (refine wpG_op rfl rfl rfl ?_; intro K hK; go_big_quiet_op; go_big_quiet_on)
  (refine wpG_op rfl rfl rfl ?_; intro K hK; go_big_quiet_op; go_big_quiet_on)
  clear hone
  refine wpG_nil ?_
  refine anyG_done (by kernel_rfl) ?_
  rintro u12 ⟨hl2, E2'⟩
  have EX11 := Lib.hid E2'
  clear hl2 E2' EX9
  go_wp2_with fail
  go_ret
  exact ⟨rfl, EX11.out.bel⟩
set_option maxRecDepth 100000 in
set_option maxHeartbeats 8000000 in
theorem order_ffff (a b t s x y : Nat) (ha : Hid (a < 4294967296)) (hb : Hid (b < 4294967296)) (ht : Hid (t < Big)) (hs : Hid (s < Big)) (hxB : Hid (x < Big)) (hyB : Hid (y < Big)) (hx : Hid (tv a = x)) (hy : Hid (tv b = y)) (his : Hid (isC a = false)) (hcan : Hid (isC b = false)) (c2 : Int) (h2 : Hid (cmpI t s = c2)) (n2 : ¬ 0 < c2) (p q : Nat) (hp : Hid (cN t = p)) (hq : Hid (cN s = q)) (npq : (p : Int) ≤ (q : Int)) (w : World) :
    Calls Try.prog 7 #[.int .u32 (a : Int), .int .u32 (b : Int), .agg (wcs (t)), .agg (wcs (s))] w fun e w' => e = .returned (.bool true) ∧ Below w.heap.size w w' := by
  have E1 : Hid (EnvX w ((w.alloc (.cells (wcs (t)) 25)).alloc (.cells (wcs (s)) 25)) [(w.heap.size + 1, (wo (s))), (w.heap.size, (wo (t)))]) := by
    have h := (((EnvX.start w).new (wo (t))).new (wo (s)))
    try simp only [World.size_alloc] at h
    exact h
  go_enter Try.func7, Try.ntmps7
  go_upto_region 1 with (fail)
  generalize ((w.alloc (.cells (wcs (t)) 25)).alloc (.cells (wcs (s)) 25)) = w1 at *
  refine wp_region_Gx (w0 := w) [0, 1] [] [(w.heap.size + 1, (wo (s))), (w.heap.size, (wo (t)))] rfl E1.out ?_
  have hone := @EnvC.one _ _ _ (E1.out)
  (refine wpG_call (f := 9) (args := #[]) (v := .bool true) rfl rfl rfl Try.func9 rfl rfl (fun u _ => awake_any u) ?_ (E1.out); intro K hK; go_big_quiet_op; go_big_quiet_on)
  (refine wpG_op rfl rfl rfl ?_; intro K hK; go_big_quiet_op; go_big_quiet_on)
  clear hone
  refine wpG_nil ?_
  rintro u2 ⟨hl2, E2'⟩
  have EX1 := Lib.hid E2'
  clear hl2 E2' E1
  go_upto_region 2 with (fail)
  refine wp_region_Gx (w0 := w) [0, 1, 2, 3, 4] [5, 6, 7] [(w.heap.size + 1, (wo (s))), (w.heap.size, (wo (t)))] rfl EX1.out ?_
  have hone := @EnvC.one _ _ _ (EX1.out)
  (refine wpG_op rfl rfl rfl ?_; intro K hK; go_big_quiet_op; go_big_quiet_on)
  (refine wpG_call (f := 10) (args := #[.int .u32 (a : Int)]) (v := .tuple #[.agg (wcs (x)), .bool false]) rfl rfl rfl Try.func10 rfl rfl (fun u _ => (by rw [← hx.out, ← his.out]; exact target_any a u ha.out)) ?_ (EX1.out); intro K hK; go_big_quiet_op; go_big_quiet_on)
  (refine wpG_op rfl rfl rfl ?_; intro K hK; go_big_quiet_op; go_big_quiet_on)
  (refine wpG_op rfl rfl rfl ?_; intro K hK; go_big_quiet_op; go_big_quiet_on)
  (refine wpG_op rfl rfl rfl ?_; intro K hK; go_big_quiet_op; go_big_quiet_on)
  clear hone
  refine wpG_nil ?_
  (refine (gOp_new (wo (0)) rfl (new_wide _) ?_); intro g3 hbg3 hfg3; intro K' hK'; go_big_quiet_op; go_big_quiet_on)
  have ng3x0 : Hid (w.heap.size + 1 ≠ g3) := hfg3 (w.heap.size + 1, _) (List.Mem.head _)
  have ng3x1 : Hid (w.heap.size ≠ g3) := hfg3 (w.heap.size, _) (List.Mem.tail _ (List.Mem.head _))
  clear hfg3
  refine (gOp_store rfl (g3) (wcs (x)) rfl rfl hbg3 25 (wcs (0)) (List.Mem.head _) (wc_info _) ((wc_size _).trans (wc_size _).symm) (wc_one _) [(g3, (wo (x))), (w.heap.size + 1, (wo (s))), (w.heap.size, (wo (t)))] (List.forall_mem_cons.2 ⟨.inl rfl, (List.forall_mem_cons.2 ⟨.inr ⟨(List.Mem.tail _ (List.Mem.head _)), ng3x0.out⟩, (List.forall_mem_cons.2 ⟨.inr ⟨(List.Mem.tail _ (List.Mem.tail _ (List.Mem.head _))), ng3x1.out⟩, (fun _ h => by cases h)⟩)⟩)⟩) ?_)
  (refine (gOp_pure rfl rfl ?_); intro K' hK'; go_big_quiet_op; go_big_quiet_on)
  rintro u5 ⟨hl2, E2'⟩
  have EX4 := Lib.hid E2'
  clear hl2 E2' EX1
  go_upto_region 3 with (fail)
  refine wp_region_Gx (w0 := w) [0, 1, 2, 3, 4] [5, 6, 7] [(g3, (wo (x))), (w.heap.size + 1, (wo (s))), (w.heap.size, (wo (t)))] rfl EX4.out ?_
  have hone := @EnvC.one _ _ _ (EX4.out)
  (refine wpG_op rfl rfl rfl ?_; intro K hK; go_big_quiet_op; go_big_quiet_on)
  (refine wpG_call (f := 10) (args := #[.int .u32 (b : Int)]) (v := .tuple #[.agg (wcs (y)), .bool false]) rfl rfl rfl Try.func10 rfl rfl (fun u _ => (by rw [← hy.out, ← hcan.out]; exact target_any b u hb.out)) ?_ (EX4.out); intro K hK; go_big_quiet_op; go_big_quiet_on)
  (refine wpG_op rfl rfl rfl ?_; intro K hK; go_big_quiet_op; go_big_quiet_on)
  (refine wpG_op rfl rfl rfl ?_; intro K hK; go_big_quiet_op; go_big_quiet_on)
  (refine wpG_op rfl rfl rfl ?_; intro K hK; go_big_quiet_op; go_big_quiet_on)
  clear hone
  refine wpG_nil ?_
  (refine (gOp_new (wo (0)) rfl (new_wide _) ?_); intro g6 hbg6 hfg6; intro K' hK'; go_big_quiet_op; go_big_quiet_on)
  have ng6x0 : Hid (g3 ≠ g6) := hfg6 (g3, _) (List.Mem.head _)
  have ng6x1 : Hid (w.heap.size + 1 ≠ g6) := hfg6 (w.heap.size + 1, _) (List.Mem.tail _ (List.Mem.head _))
  have ng6x2 : Hid (w.heap.size ≠ g6) := hfg6 (w.heap.size, _) (List.Mem.tail _ (List.Mem.tail _ (List.Mem.head _)))
  clear hfg6
  refine (gOp_store rfl (g6) (wcs (y)) rfl rfl hbg6 25 (wcs (0)) (List.Mem.head _) (wc_info _) ((wc_size _).trans (wc_size _).symm) (wc_one _) [(g6, (wo (y))), (g3, (wo (x))), (w.heap.size + 1, (wo (s))), (w.heap.size, (wo (t)))] (List.forall_mem_cons.2 ⟨.inl rfl, (List.forall_mem_cons.2 ⟨.inr ⟨(List.Mem.tail _ (List.Mem.head _)), ng6x0.out⟩, (List.forall_mem_cons.2 ⟨.inr ⟨(List.Mem.tail _ (List.Mem.tail _ (List.Mem.head _))), ng6x1.out⟩, (List.forall_mem_cons.2 ⟨.inr ⟨(List.Mem.tail _ (List.Mem.tail _ (List.Mem.tail _ (List.Mem.head _)))), ng6x2.out⟩, (fun _ h => by cases h)⟩)⟩)⟩)⟩) ?_)
  (refine (gOp_pure rfl rfl ?_); intro K' hK'; go_big_quiet_op; go_big_quiet_on)
  rintro u8 ⟨hl2, E2'⟩
  have EX7 := Lib.hid E2'
  clear hl2 E2' EX4
  go_upto_region 4 with (fail)
  refine wp_region_Gx (w0 := w) [0, 1, 2, 3, 4, 5, 6, 7, 8, 9, 10, 11, 12, 13, 14, 15, 16, 17] [] [(g6, (wo (y))), (g3, (wo (x))), (w.heap.size + 1, (wo (s))), (w.heap.size, (wo (t)))] rfl EX7.out ?_
  have hone := @EnvC.one _ _ _ (EX7.out)
  (refine wpG_op rfl rfl rfl ?_; intro K hK; go_big_quiet_op; go_big_quiet_on)
  (refine wpG_op rfl rfl rfl ?_; intro K hK; go_big_quiet_op; go_big_quiet_on)
  (refine wpG_op rfl rfl rfl ?_; intro K hK; go_big_quiet_op; go_big_quiet_on)
  (refine wpG_op rfl rfl rfl ?_; intro K hK; go_big_quiet_op; go_big_quiet_on)
  (refine wpG_op rfl rfl rfl ?_; intro K hK; go_big_quiet_op; go_big_quiet_on)
  (refine wpG_skip rfl rfl ?_ EX7.out; intro K hK; go_big_quiet_op; go_big_quiet_on)
  (refine wpG_op rfl rfl rfl ?_; intro K hK; go_big_quiet_op; go_big_quiet_on)
  (refine wpG_op rfl rfl rfl ?_; intro K hK; go_big_quiet_op; go_big_quiet_on)
  (refine wpG_skip rfl rfl ?_ EX7.out; intro K hK; go_big_quiet_op; go_big_quiet_on)
  (refine wpG_skip rfl rfl ?_ EX7.out; intro K hK; go_big_quiet_op; go_big_quiet_on)
  (refine wpG_skip rfl rfl ?_ EX7.out; intro K hK; go_big_quiet_op; go_big_quiet_on)
  (refine wpG_skip rfl rfl ?_ EX7.out; intro K hK; go_big_quiet_op; go_big_quiet_on)
  (refine wpG_skip rfl rfl ?_ EX7.out; intro K hK; go_big_quiet_op; go_big_quiet_on)
  (refine wpG_skip rfl rfl ?_ EX7.out; intro K hK; go_big_quiet_op; go_big_quiet_on)
  (refine wpG_skip rfl rfl ?_ EX7.out; intro K hK; go_big_quiet_op; go_big_quiet_on)
  (refine wpG_skip rfl rfl ?_ EX7.out; intro K hK; go_big_quiet_op; go_big_quiet_on)
  (refine wpG_op rfl rfl rfl ?_; intro K hK; go_big_quiet_op; go_big_quiet_on)
  (refine wpG_op rfl rfl rfl ?_; intro K hK; go_big_quiet_op; go_big_quiet_on)
  clear hone
  refine wpG_nil ?_
  rintro u10 ⟨hl2, E2'⟩
  have EX9 := Lib.hid E2'
  clear hl2 E2' EX7
  go_upto_region 6 with (fail)
  refine wp_region_G (w0 := w) [0, 1, 2, 3, 4, 5, 6, 7, 8, 9, 10, 11] [(g6, (wo (y))), (g3, (wo (x))), (w.heap.size + 1, (wo (s))), (w.heap.size, (wo (t)))] 0 (by kernel_rfl) (by kernel_rfl) rfl EX9.out ?_
  have hone := @EnvC.one _ _ _ (EX9.out.drew)
  (refine wpG_load rfl rfl (w.heap.size) rfl 25 _ _ (fun u hu => EnvC.box hu _ (wo (t)) (List.Mem.tail _ (List.Mem.tail _ (List.Mem.tail _ (List.Mem.head _))))) Try.underlying25 rfl (wc_info _) ?_ (EX9.out.drew); intro K hK; go_big_quiet_op; go_big_quiet_on)
  (refine wpG_load rfl rfl (w.heap.size + 1) rfl 25 _ _ (fun u hu => EnvC.box hu _ (wo (s)) (List.Mem.tail _ (List.Mem.tail _ (List.Mem.head _)))) Try.underlying25 rfl (wc_info _) ?_ (EX9.out.drew); intro K hK; go_big_quiet_op; go_big_quiet_on)
  (refine wpG_call (f := 18) (args := #[.agg (wcs (t)), .agg (wcs (s))]) (v := .int .i64 c2) rfl rfl rfl Try.func18 rfl rfl (fun u _ => (by rw [← h2.out]; exact cmp_any (t) (s) u ht.out hs.out)) ?_ (EX9.out.drew); intro K hK; go_big_quiet_op; go_big_quiet_on)
  (refine wpG_op rfl rfl rfl ?_; intro K hK; go_big_quiet_op; go_big_quiet_on)
  (refine wpG_op rfl rfl rfl ?_; intro K hK; go_big_quiet_op; go_big_quiet_on)
  (refine wpG_load rfl rfl (w.heap.size) rfl 25 _ _ (fun u hu => EnvC.box hu _ (wo (t)) (List.Mem.tail _ (List.Mem.tail _ (List.Mem.tail _ (List.Mem.head _))))) Try.underlying25 rfl (wc_info _) ?_ (EX9.out.drew); intro K hK; go_big_quiet_op; go_big_quiet_on)
  (refine wpG_call (f := 12) (args := #[.agg (wcs (t))]) (v := .int .u32 (p : Int)) rfl rfl rfl Try.func12 rfl rfl (fun u _ => (by have h := compact_any t u ht.out; rw [hp.out] at h; exact h)) ?_ (EX9.out.drew); intro K hK; go_big_quiet_op; go_big_quiet_on)
  (refine wpG_load rfl rfl (w.heap.size + 1) rfl 25 _ _ (fun u hu => EnvC.box hu _ (wo (s)) (List.Mem.tail _ (List.Mem.tail _ (List.Mem.head _)))) Try.underlying25 rfl (wc_info _) ?_ (EX9.out.drew); intro K hK; go_big_quiet_op; go_big_quiet_on)
  (refine wpG_call (f := 12) (args := #[.agg (wcs (s))]) (v := .int .u32 (q : Int)) rfl rfl rfl Try.func12 rfl rfl (fun u _ => (by have h := compact_any s u hs.out; rw [hq.out] at h; exact h)) ?_ (EX9.out.drew); intro K hK; go_big_quiet_op; go_big_quiet_on)
  (refine wpG_op rfl rfl rfl ?_; intro K hK; go_big_quiet_op; go_big_quiet_on)
  (refine wpG_op rfl rfl rfl ?_; intro K hK; go_big_quiet_op; go_big_quiet_on)
  (refine wpG_op rfl rfl rfl ?_; intro K hK; go_big_quiet_op; go_big_quiet_on)
  clear hone
  refine wpG_nil ?_
  refine anyG_done (by kernel_rfl) ?_
  rintro u12 ⟨hl2, E2'⟩
  have EX11 := Lib.hid E2'
  clear hl2 E2' EX9
  go_wp2_with fail
  go_ret
  exact ⟨rfl, EX11.out.bel⟩
set_option maxRecDepth 100000 in
set_option maxHeartbeats 8000000 in
theorem order_tfff (a b t s x y : Nat) (ha : Hid (a < 4294967296)) (hb : Hid (b < 4294967296)) (ht : Hid (t < Big)) (hs : Hid (s < Big)) (hxB : Hid (x < Big)) (hyB : Hid (y < Big)) (hx : Hid (tv a = x)) (hy : Hid (tv b = y)) (his : Hid (isC a = true)) (hcan : Hid (isC b = false)) (c2 : Int) (h2 : Hid (cmpI t s = c2)) (n2 : ¬ 0 < c2) (p q : Nat) (hp : Hid (cN t = p)) (hq : Hid (cN s = q)) (npq : (p : Int) ≤ (q : Int)) (w : World) :
    Calls Try.prog 7 #[.int .u32 (a : Int), .int .u32 (b : Int), .agg (wcs (t)), .agg (wcs (s))] w fun e w' => e = .returned (.bool true) ∧ Below w.heap.size w w' := by
  have E1 : Hid (EnvX w ((w.alloc (.cells (wcs (t)) 25)).alloc (.cells (wcs (s)) 25)) [(w.heap.size + 1, (wo (s))), (w.heap.size, (wo (t)))]) := by
    have h := (((EnvX.start w).new (wo (t))).new (wo (s)))
    try simp only [World.size_alloc] at h
    exact h
  go_enter Try.func7, Try.ntmps7
  go_upto_region 1 with (fail)
  generalize ((w.alloc (.cells (wcs (t)) 25)).alloc (.cells (wcs (s)) 25)) = w1 at *
  refine wp_region_Gx (w0 := w) [0, 1] [] [(w.heap.size + 1, (wo (s))), (w.heap.size, (wo (t)))] rfl E1.out ?_
  have hone := @EnvC.one _ _ _ (E1.out)
  (refine wpG_call (f := 9) (args := #[]) (v := .bool true) rfl rfl rfl Try.func9 rfl rfl (fun u _ => awake_any u) ?_ (E1.out); intro K hK; go_big_quiet_op; go_big_quiet_on)
  (refine wpG_op rfl rfl rfl ?_; intro K hK; go_big_quiet_op; go_big_quiet_on)
  clear hone
  refine wpG_nil ?_
  rintro u2 ⟨hl2, E2'⟩
  have EX1 := Lib.hid E2'
  clear hl2 E2' E1
  go_upto_region 2 with (fail)
  refine wp_region_Gx (w0 := w) [0, 1, 2, 3, 4] [5, 6, 7] [(w.heap.size + 1, (wo (s))), (w.heap.size, (wo (t)))] rfl EX1.out ?_
  have hone := @EnvC.one _ _ _ (EX1.out)
  (refine wpG_op rfl rfl rfl ?_; intro K hK; go_big_quiet_op; go_big_quiet_on)
  (refine wpG_call (f := 10) (args := #[.int .u32 (a : Int)]) (v := .tuple #[.agg (wcs (x)), .bool true]) rfl rfl rfl Try.func10 rfl rfl (fun u _ => (by rw [← hx.out, ← his.out]; exact target_any a u ha.out)) ?_ (EX1.out); intro K hK; go_big_quiet_op; go_big_quiet_on)
  (refine wpG_op rfl rfl rfl ?_; intro K hK; go_big_quiet_op; go_big_quiet_on)
  (refine wpG_op rfl rfl rfl ?_; intro K hK; go_big_quiet_op; go_big_quiet_on)
  (refine wpG_op rfl rfl rfl ?_; intro K hK; go_big_quiet_op; go_big_quiet_on)
  clear hone
  refine wpG_nil ?_
  (refine (gOp_new (wo (0)) rfl (new_wide _) ?_); intro g3 hbg3 hfg3; intro K' hK'; go_big_quiet_op; go_big_quiet_on)
  have ng3x0 : Hid (w.heap.size + 1 ≠ g3) := hfg3 (w.heap.size + 1, _) (List.Mem.head _)
  have ng3x1 : Hid (w.heap.size ≠ g3) := hfg3 (w.heap.size, _) (List.Mem.tail _ (List.Mem.head _))
  clear hfg3
  refine (gOp_store rfl (g3) (wcs (x)) rfl rfl hbg3 25 (wcs (0)) (List.Mem.head _) (wc_info _) ((wc_size _).trans (wc_size _).symm) (wc_one _) [(g3, (wo (x))), (w.heap.size + 1, (wo (s))), (w.heap.size, (wo (t)))] (List.forall_mem_cons.2 ⟨.inl rfl, (List.forall_mem_cons.2 ⟨.inr ⟨(List.Mem.tail _ (List.Mem.head _)), ng3x0.out⟩, (List.forall_mem_cons.2 ⟨.inr ⟨(List.Mem.tail _ (List.Mem.tail _ (List.Mem.head _))), ng3x1.out⟩, (fun _ h => by cases h)⟩)⟩)⟩) ?_)
  (refine (gOp_pure rfl rfl ?_); intro K' hK'; go_big_quiet_op; go_big_quiet_on)
  rintro u5 ⟨hl2, E2'⟩
  have EX4 := Lib.hid E2'
  clear hl2 E2' EX1
  go_upto_region 3 with (fail)
  refine wp_region_Gx (w0 := w) [0, 1, 2, 3, 4] [5, 6, 7] [(g3, (wo (x))), (w.heap.size + 1, (wo (s))), (w.heap.size, (wo (t)))] rfl EX4.out ?_
  have hone := @EnvC.one _ _ _ (EX4.out)
  (refine wpG_op rfl rfl rfl ?_; intro K hK; go_big_quiet_op; go_big_quiet_on)
  (refine wpG_call (f := 10) (args := #[.int .u32 (b : Int)]) (v := .tuple #[.agg (wcs (y)), .bool false]) rfl rfl rfl Try.func10 rfl rfl (fun u _ => (by rw [← hy.out, ← hcan.out]; exact target_any b u hb.out)) ?_ (EX4.out); intro K hK; go_big_quiet_op; go_big_quiet_on)
  (refine wpG_op rfl rfl rfl ?_; intro K hK; go_big_quiet_op; go_big_quiet_on)
  (refine wpG_op rfl rfl rfl ?_; intro K hK; go_big_quiet_op; go_big_quiet_on)
  (refine wpG_op rfl rfl rfl ?_; intro K hK; go_big_quiet_op; go_big_quiet_on)
  clear hone
  refine wpG_nil ?_
  (refine (gOp_new (wo (0)) rfl (new_wide _) ?_); intro g6 hbg6 hfg6; intro K' hK'; go_big_quiet_op; go_big_quiet_on)
  have ng6x0 : Hid (g3 ≠ g6) := hfg6 (g3, _) (List.Mem.head _)
  have ng6x1 : Hid (w.heap.size + 1 ≠ g6) := hfg6 (w.heap.size + 1, _) (List.Mem.tail _ (List.Mem.head _))
  have ng6x2 : Hid (w.heap.size ≠ g6) := hfg6 (w.heap.size, _) (List.Mem.tail _ (List.Mem.tail _ (List.Mem.head _)))
  clear hfg6
  refine (gOp_store rfl (g6) (wcs (y)) rfl rfl hbg6 25 (wcs (0)) (List.Mem.head _) (wc_info _) ((wc_size _).trans (wc_size _).symm) (wc_one _) [(g6, (wo (y))), (g3, (wo (x))), (w.heap.size + 1, (wo (s))), (w.heap.size, (wo (t)))] (List.forall_mem_cons.2 ⟨.inl rfl, (List.forall_mem_cons.2 ⟨.inr ⟨(List.Mem.tail _ (List.Mem.head _)), ng6x0.out⟩, (List.forall_mem_cons.2 ⟨.inr ⟨(List.Mem.tail _ (List.Mem.tail _ (List.Mem.head _))), ng6x1.out⟩, (List.forall_mem_cons.2 ⟨.inr ⟨(List.Mem.tail _ (List.Mem.tail _ (List.Mem.tail _ (List.Mem.head _)))), ng6x2.out⟩, (fun _ h => by cases h)⟩)⟩)⟩)⟩) ?_)
  (refine (gOp_pure rfl rfl ?_); intro K' hK'; go_big_quiet_op; go_big_quiet_on)
  rintro u8 ⟨hl2, E2'⟩
  have EX7 := Lib.hid E2'
  clear hl2 E2' EX4
  go_upto_region 4 with (fail)
  refine wp_region_Gx (w0 := w) [0, 1, 2, 3, 4, 5, 6, 7, 8, 9, 10, 11, 12, 13, 14, 15, 16, 17] [] [(g6, (wo (y))), (g3, (wo (x))), (w.heap.size + 1, (wo (s))), (w.heap.size, (wo (t)))] rfl EX7.out ?_
  have hone := @EnvC.one _ _ _ (EX7.out)
  (refine wpG_op rfl rfl rfl ?_; intro K hK; go_big_quiet_op; go_big_quiet_on)
  (refine wpG_op rfl rfl rfl ?_; intro K hK; go_big_quiet_op; go_big_quiet_on)
  (refine wpG_op rfl rfl rfl ?_; intro K hK; go_big_quiet_op; go_big_quiet_on)
  (refine wpG_op rfl rfl rfl ?_; intro K hK; go_big_quiet_op; go_big_quiet_on)
  (refine wpG_op rfl rfl rfl ?_; intro K hK; go_big_quiet_op; go_big_quiet_on)
  (refine wpG_op rfl rfl rfl ?_; intro K hK; go_big_quiet_op; go_big_quiet_on)
  (refine wpG_op rfl rfl rfl ?_; intro K hK; go_big_quiet_op; go_big_quiet_on)
  (refine wpG_op rfl rfl rfl ?_; intro K hK; go_big_quiet_op; go_big_quiet_on)
  (refine wpG_skip rfl rfl ?_ EX7.out; intro K hK; go_big_quiet_op; go_big_quiet_on)
  (refine wpG_skip rfl rfl ?_ EX7.out; intro K hK; go_big_quiet_op; go_big_quiet_on)
  (refine wpG_skip rfl rfl ?_ EX7.out; intro K hK; go_big_quiet_op; go_big_quiet_on)
  (refine wpG_skip rfl rfl ?_ EX7.out; intro K hK; go_big_quiet_op; go_big_quiet_on)
  (refine wpG_skip rfl rfl ?_ EX7.out; intro K hK; go_big_quiet_op; go_big_quiet_on)
  (refine wpG_skip rfl rfl ?_ EX7.out; intro K hK; go_big_quiet_op; go_big_quiet_on)
  (refine wpG_skip rfl rfl ?_ EX7.out; intro K hK; go_big_quiet_op; go_big_quiet_on)
  (refine wpG_skip rfl rfl ?_ EX7.out; intro K hK; go_big_quiet_op; go_big_quiet_on)
  (refine wpG_op rfl rfl rfl ?_; intro K hK; go_big_quiet_op; go_big_quiet_on)
  (refine wpG_op rfl rfl rfl ?_; intro K hK; go_big_quiet_op; go_big_quiet_on)
  clear hone
  refine wpG_nil ?_
  rintro u10 ⟨hl2, E2'⟩
  have EX9 := Lib.hid E2'
  clear hl2 E2' EX7
  go_upto_region 6 with (fail)
  refine wp_region_G (w0 := w) [0, 1, 2, 3, 4, 5, 6, 7, 8, 9, 10, 11] [(g6, (wo (y))), (g3, (wo (x))), (w.heap.size + 1, (wo (s))), (w.heap.size, (wo (t)))] 0 (by kernel_rfl) (by kernel_rfl) rfl EX9.out ?_
  have hone := @EnvC.one _ _ _ (EX9.out.drew)
  (refine wpG_load rfl rfl (w.heap.size) rfl 25 _ _ (fun u hu => EnvC.box hu _ (wo (t)) (List.Mem.tail _ (List.Mem.tail _ (List.Mem.tail _ (List.Mem.head _))))) Try.underlying25 rfl (wc_info _) ?_ (EX9.out.drew); intro K hK; go_big_quiet_op; go_big_quiet_on)
  (refine wpG_load rfl rfl (w.heap.size + 1) rfl 25 _ _ (fun u hu => EnvC.box hu _ (wo (s)) (List.Mem.tail _ (List.Mem.tail _ (List.Mem.head _)))) Try.underlying25 rfl (wc_info _) ?_ (EX9.out.drew); intro K hK; go_big_quiet_op; go_big_quiet_on)
  (refine wpG_call (f := 18) (args := #[.agg (wcs (t)), .agg (wcs (s))]) (v := .int .i64 c2) rfl rfl rfl Try.func18 rfl rfl (fun u _ => (by rw [← h2.out]; exact cmp_any (t) (s) u ht.out hs.out)) ?_ (EX9.out.drew); intro K hK; go_big_quiet_op; go_big_quiet_on)
  (refine wpG_op rfl rfl rfl ?_; intro K hK; go_big_quiet_op; go_big_quiet_on)
  (refine wpG_op rfl rfl rfl ?_; intro K hK; go_big_quiet_op; go_big_quiet_on)
  (refine wpG_load rfl rfl (w.heap.size) rfl 25 _ _ (fun u hu => EnvC.box hu _ (wo (t)) (List.Mem.tail _ (List.Mem.tail _ (List.Mem.tail _ (List.Mem.head _))))) Try.underlying25 rfl (wc_info _) ?_ (EX9.out.drew); intro K hK; go_big_quiet_op; go_big_quiet_on)
  (refine wpG_call (f := 12) (args := #[.agg (wcs (t))]) (v := .int .u32 (p : Int)) rfl rfl rfl Try.func12 rfl rfl (fun u _ => (by have h := compact_any t u ht.out; rw [hp.out] at h; exact h)) ?_ (EX9.out.drew); intro K hK; go_big_quiet_op; go_big_quiet_on)
  (refine wpG_load rfl rfl (w.heap.size + 1) rfl 25 _ _ (fun u hu => EnvC.box hu _ (wo (s)) (List.Mem.tail _ (List.Mem.tail _ (List.Mem.head _)))) Try.underlying25 rfl (wc_info _) ?_ (EX9.out.drew); intro K hK; go_big_quiet_op; go_big_quiet_on)
  (refine wpG_call (f := 12) (args := #[.agg (wcs (s))]) (v := .int .u32 (q : Int)) rfl rfl rfl Try.func12 rfl rfl (fun u _ => (by have h := compact_any s u hs.out; rw [hq.out] at h; exact h)) ?_ (EX9.out.drew); intro K hK; go_big_quiet_op; go_big_quiet_on)
  (refine wpG_op rfl rfl rfl ?_; intro K hK; go_big_quiet_op; go_big_quiet_on)
  (refine wpG_op rfl rfl rfl ?_; intro K hK; go_big_quiet_op; go_big_quiet_on)
  (refine wpG_op rfl rfl rfl ?_; intro K hK; go_big_quiet_op; go_big_quiet_on)
  clear hone
  refine wpG_nil ?_
  refine anyG_done (by kernel_rfl) ?_
  rintro u12 ⟨hl2, E2'⟩
  have EX11 := Lib.hid E2'
  clear hl2 E2' EX9
  go_wp2_with fail
  go_ret
  exact ⟨rfl, EX11.out.bel⟩
set_option maxRecDepth 100000 in
set_option maxHeartbeats 8000000 in
theorem order_tttf (a b t s x y : Nat) (ha : Hid (a < 4294967296)) (hb : Hid (b < 4294967296)) (ht : Hid (t < Big)) (hs : Hid (s < Big)) (hxB : Hid (x < Big)) (hyB : Hid (y < Big)) (hx : Hid (tv a = x)) (hy : Hid (tv b = y)) (his : Hid (isC a = true)) (hcan : Hid (isC b = true)) (c2 : Int) (h2 : Hid (cmpI t s = c2)) (n2 : ¬ 0 < c2) (c1 : Int) (h1 : Hid (cmpI x y = c1)) (n1 : c1 < 0) (n0 : (a : Int) < (b : Int)) (p q : Nat) (hp : Hid (cN t = p)) (hq : Hid (cN s = q)) (npq : (p : Int) ≤ (q : Int)) (w : World) :
    Calls Try.prog 7 #[.int .u32 (a : Int), .int .u32 (b : Int), .agg (wcs (t)), .agg (wcs (s))] w fun e w' => e = .returned (.bool true) ∧ Below w.heap.size w w' := by
  have E1 : Hid (EnvX w ((w.alloc (.cells (wcs (t)) 25)).alloc (.cells (wcs (s)) 25)) [(w.heap.size + 1, (wo (s))), (w.heap.size, (wo (t)))]) := by
    have h := (((EnvX.start w).new (wo (t))).new (wo (s)))
    try simp only [World.size_alloc] at h
    exact h
  go_enter Try.func7, Try.ntmps7
  go_upto_region 1 with (fail)
  generalize ((w.alloc (.cells (wcs (t)) 25)).alloc (.cells (wcs (s)) 25)) = w1 at *
  refine wp_region_Gx (w0 := w) [0, 1] [] [(w.heap.size + 1, (wo (s))), (w.heap.size, (wo (t)))] rfl E1.out ?_
  have hone := @EnvC.one _ _ _ (E1.out)
  (refine wpG_call (f := 9) (args := #[]) (v := .bool true) rfl rfl rfl Try.func9 rfl rfl (fun u _ => awake_any u) ?_ (E1.out); intro K hK; go_big_quiet_op; go_big_quiet_on)
  (refine wpG_op rfl rfl rfl ?_; intro K hK; go_big_quiet_op; go_big_quiet_on)
  clear hone
  refine wpG_nil ?_
  rintro u2 ⟨hl2, E2'⟩
  have EX1 := Lib.hid E2'
  clear hl2 E2' E1
  go_upto_region 2 with (fail)
  refine wp_region_Gx (w0 := w) [0, 1, 2, 3, 4] [5, 6, 7] [(w.heap.size + 1, (wo (s))), (w.heap.size, (wo (t)))] rfl EX1.out ?_
  have hone := @EnvC.one _ _ _ (EX1.out)
  (refine wpG_op rfl rfl rfl ?_; intro K hK; go_big_quiet_op; go_big_quiet_on)
  (refine wpG_call (f := 10) (args := #[.int .u32 (a : Int)]) (v := .tuple #[.agg (wcs (x)), .bool true]) rfl rfl rfl Try.func10 rfl rfl (fun u _ => (by rw [← hx.out, ← his.out]; exact target_any a u ha.out)) ?_ (EX1.out); intro K hK; go_big_quiet_op; go_big_quiet_on)
  (refine wpG_op rfl rfl rfl ?_; intro K hK; go_big_quiet_op; go_big_quiet_on)
  (refine wpG_op rfl rfl rfl ?_; intro K hK; go_big_quiet_op; go_big_quiet_on)
  (refine wpG_op rfl rfl rfl ?_; intro K hK; go_big_quiet_op; go_big_quiet_on)
  clear hone
  refine wpG_nil ?_
  (refine (gOp_new (wo (0)) rfl (new_wide _) ?_); intro g3 hbg3 hfg3; intro K' hK'; go_big_quiet_op; go_big_quiet_on)
  have ng3x0 : Hid (w.heap.size + 1 ≠ g3) := hfg3 (w.heap.size + 1, _) (List.Mem.head _)
  have ng3x1 : Hid (w.heap.size ≠ g3) := hfg3 (w.heap.size, _) (List.Mem.tail _ (List.Mem.head _))
  clear hfg3
  refine (gOp_store rfl (g3) (wcs (x)) rfl rfl hbg3 25 (wcs (0)) (List.Mem.head _) (wc_info _) ((wc_size _).trans (wc_size _).symm) (wc_one _) [(g3, (wo (x))), (w.heap.size + 1, (wo (s))), (w.heap.size, (wo (t)))] (List.forall_mem_cons.2 ⟨.inl rfl, (List.forall_mem_cons.2 ⟨.inr ⟨(List.Mem.tail _ (List.Mem.head _)), ng3x0.out⟩, (List.forall_mem_cons.2 ⟨.inr ⟨(List.Mem.tail _ (List.Mem.tail _ (List.Mem.head _))), ng3x1.out⟩, (fun _ h => by cases h)⟩)⟩)⟩) ?_)
  (refine (gOp_pure rfl rfl ?_); intro K' hK'; go_big_quiet_op; go_big_quiet_on)
  rintro u5 ⟨hl2, E2'⟩
  have EX4 := Lib.hid E2'
  clear hl2 E2' EX1
  go_upto_region 3 with (fail)
  refine wp_region_Gx (w0 := w) [0, 1, 2, 3, 4] [5, 6, 7] [(g3, (wo (x))), (w.heap.size + 1, (wo (s))), (w.heap.size, (wo (t)))] rfl EX4.out ?_
  have hone := @EnvC.one _ _ _ (EX4.out)
  (refine wpG_op rfl rfl rfl ?_; intro K hK; go_big_quiet_op; go_big_quiet_on)
  (refine wpG_call (f := 10) (args := #[.int .u32 (b : Int)]) (v := .tuple #[.agg (wcs (y)), .bool true]) rfl rfl rfl Try.func10 rfl rfl (fun u _ => (by rw [← hy.out, ← hcan.out]; exact target_any b u hb.out)) ?_ (EX4.out); intro K hK; go_big_quiet_op; go_big_quiet_on)
  (refine wpG_op rfl rfl rfl ?_; intro K hK; go_big_quiet_op; go_big_quiet_on)
  (refine wpG_op rfl rfl rfl ?_; intro K hK; go_big_quiet_op; go_big_quiet_on)
  (refine wpG_op rfl rfl rfl ?_; intro K hK; go_big_quiet_op; go_big_quiet_on)
  clear hone
  refine wpG_nil ?_
  (refine (gOp_new (wo (0)) rfl (new_wide _) ?_); intro g6 hbg6 hfg6; intro K' hK'; go_big_quiet_op; go_big_quiet_on)
  have ng6x0 : Hid (g3 ≠ g6) := hfg6 (g3, _) (List.Mem.head _)
  have ng6x1 : Hid (w.heap.size + 1 ≠ g6) := hfg6 (w.heap.size + 1, _) (List.Mem.tail _ (List.Mem.head _))
  have ng6x2 : Hid (w.heap.size ≠ g6) := hfg6 (w.heap.size, _) (List.Mem.tail _ (List.Mem.tail _ (List.Mem.head _)))
  clear hfg6
  refine (gOp_store rfl (g6) (wcs (y)) rfl rfl hbg6 25 (wcs (0)) (List.Mem.head _) (wc_info _) ((wc_size _).trans (wc_size _).symm) (wc_one _) [(g6, (wo (y))), (g3, (wo (x))), (w.heap.size + 1, (wo (s))), (w.heap.size, (wo (t)))] (List.forall_mem_cons.2 ⟨.inl rfl, (List.forall_mem_cons.2 ⟨.inr ⟨(List.Mem.tail _ (List.Mem.head _)), ng6x0.out⟩, (List.forall_mem_cons.2 ⟨.inr ⟨(List.Mem.tail _ (List.Mem.tail _ (List.Mem.head _))), ng6x1.out⟩, (List.forall_mem_cons.2 ⟨.inr ⟨(List.Mem.tail _ (List.Mem.tail _ (List.Mem.tail _ (List.Mem.head _)))), ng6x2.out⟩, (fun _ h => by cases h)⟩)⟩)⟩)⟩) ?_)
  (refine (gOp_pure rfl rfl ?_); intro K' hK'; go_big_quiet_op; go_big_quiet_on)
  rintro u8 ⟨hl2, E2'⟩
  have EX7 := Lib.hid E2'
  clear hl2 E2' EX4
  go_upto_region 4 with (fail)
  refine wp_region_Gx (w0 := w) [0, 1, 2, 3, 4, 5, 6, 7, 8, 9, 10, 11, 12, 13, 14, 15, 16, 17] [] [(g6, (wo (y))), (g3, (wo (x))), (w.heap.size + 1, (wo (s))), (w.heap.size, (wo (t)))] rfl EX7.out ?_
  have hone := @EnvC.one _ _ _ (EX7.out)
  (refine wpG_op rfl rfl rfl ?_; intro K hK; go_big_quiet_op; go_big_quiet_on)
  (refine wpG_op rfl rfl rfl ?_; intro K hK; go_big_quiet_op; go_big_quiet_on)
  (refine wpG_op rfl rfl rfl ?_; intro K hK; go_big_quiet_op; go_big_quiet_on)
  (refine wpG_op rfl rfl rfl ?_; intro K hK; go_big_quiet_op; go_big_quiet_on)
  (refine wpG_op rfl rfl rfl ?_; intro K hK; go_big_quiet_op; go_big_quiet_on)
  (refine wpG_op rfl rfl rfl ?_; intro K hK; go_big_quiet_op; go_big_quiet_on)
  (refine wpG_op rfl rfl rfl ?_; intro K hK; go_big_quiet_op; go_big_quiet_on)
  (refine wpG_op rfl rfl rfl ?_; intro K hK; go_big_quiet_op; go_big_quiet_on)
  (refine wpG_op rfl rfl rfl ?_; intro K hK; go_big_quiet_op; go_big_quiet_on)
  (refine wpG_op rfl rfl rfl ?_; intro K hK; go_big_quiet_op; go_big_quiet_on)
  (refine wpG_op rfl rfl rfl ?_; intro K hK; go_big_quiet_op; go_big_quiet_on)
  (refine wpG_load rfl rfl (g3) rfl 25 _ _ (fun u hu => EnvC.box hu _ (wo (x)) (List.Mem.tail _ (List.Mem.head _))) Try.underlying25 rfl (wc_info _) ?_ (EX7.out); intro K hK; go_big_quiet_op; go_big_quiet_on)
  (refine wpG_load rfl rfl (g6) rfl 25 _ _ (fun u hu => EnvC.box hu _ (wo (y)) (List.Mem.head _)) Try.underlying25 rfl (wc_info _) ?_ (EX7.out); intro K hK; go_big_quiet_op; go_big_quiet_on)
  (refine wpG_call (f := 18) (args := #[.agg (wcs (x)), .agg (wcs (y))]) (v := .int .i64 c1) rfl rfl rfl Try.func18 rfl rfl (fun u _ => (by rw [← h1.out]; exact cmp_any (x) (y) u hxB.out hyB.out)) ?_ (EX7.out); intro K hK; go_big_quiet_op; go_big_quiet_on)
  (refine wpG_op rfl rfl rfl ?_; intro K hK; go_big_quiet_op; go_big_quiet_on)
  (refine wpG_op rfl rfl rfl ?_; intro K hK; go_big_quiet_op; go_big_quiet_on)
  (refine wpG_op rfl rfl rfl ?_; intro K hK; go_big_quiet_op; go_big_quiet_on)
  (refine wpG_op rfl rfl rfl ?_; intro K hK; go_big_quiet_op; go_big_quiet_on)
  clear hone
  refine wpG_nil ?_
  rintro u10 ⟨hl2, E2'⟩
  have EX9 := Lib.hid E2'
  clear hl2 E2' EX7
  go_upto_region 6 with (fail)
  refine wp_region_G (w0 := w) [0, 1, 2, 3, 4, 5, 6, 7, 8, 9, 10, 11] [(g6, (wo (y))), (g3, (wo (x))), (w.heap.size + 1, (wo (s))), (w.heap.size, (wo (t)))] 0 (by kernel_rfl) (by kernel_rfl) rfl EX9.out ?_
  have hone := @EnvC.one _ _ _ (EX9.out.drew)
  (refine wpG_load rfl rfl (w.heap.size) rfl 25 _ _ (fun u hu => EnvC.box hu _ (wo (t)) (List.Mem.tail _ (List.Mem.tail _ (List.Mem.tail _ (List.Mem.head _))))) Try.underlying25 rfl (wc_info _) ?_ (EX9.out.drew); intro K hK; go_big_quiet_op; go_big_quiet_on)
  (refine wpG_load rfl rfl (w.heap.size + 1) rfl 25 _ _ (fun u hu => EnvC.box hu _ (wo (s)) (List.Mem.tail _ (List.Mem.tail _ (List.Mem.head _)))) Try.underlying25 rfl (wc_info _) ?_ (EX9.out.drew); intro K hK; go_big_quiet_op; go_big_quiet_on)
  (refine wpG_call (f := 18) (args := #[.agg (wcs (t)), .agg (wcs (s))]) (v := .int .i64 c2) rfl rfl rfl Try.func18 rfl rfl (fun u _ => (by rw [← h2.out]; exact cmp_any (t) (s) u ht.out hs.out)) ?_ (EX9.out.drew); intro K hK; go_big_quiet_op; go_big_quiet_on)
  (refine wpG_op rfl rfl rfl ?_; intro K hK; go_big_quiet_op; go_big_quiet_on)
  (refine wpG_op rfl rfl rfl ?_; intro K hK; go_big_quiet_op; go_big_quiet_on)
  (refine wpG_load rfl rfl (w.heap.size) rfl 25 _ _ (fun u hu => EnvC.box hu _ (wo (t)) (List.Mem.tail _ (List.Mem.tail _ (List.Mem.tail _ (List.Mem.head _))))) Try.underlying25 rfl (wc_info _) ?_ (EX9.out.drew); intro K hK; go_big_quiet_op; go_big_quiet_on)
  (refine wpG_call (f := 12) (args := #[.agg (wcs (t))]) (v := .int .u32 (p : Int)) rfl rfl rfl Try.func12 rfl rfl (fun u _ => (by have h := compact_any t u ht.out; rw [hp.out] at h; exact h)) ?_ (EX9.out.drew); intro K hK; go_big_quiet_op; go_big_quiet_on)
  (refine wpG_load rfl rfl (w.heap.size + 1) rfl 25 _ _ (fun u hu => EnvC.box hu _ (wo (s)) (List.Mem.tail _ (List.Mem.tail _ (List.Mem.head _)))) Try.underlying25 rfl (wc_info _) ?_ (EX9.out.drew); intro K hK; go_big_quiet_op; go_big_quiet_on)
  (refine wpG_call (f := 12) (args := #[.agg (wcs (s))]) (v := .int .u32 (q : Int)) rfl rfl rfl Try.func12 rfl rfl (fun u _ => (by have h := compact_any s u hs.out; rw [hq.out] at h; exact h)) ?_ (EX9.out.drew); intro K hK; go_big_quiet_op; go_big_quiet_on)
  (refine wpG_op rfl rfl rfl ?_; intro K hK; go_big_quiet_op; go_big_quiet_on)
  (refine wpG_op rfl rfl rfl ?_; intro K hK; go_big_quiet_op; go_big_quiet_on)
  (refine wpG_op rfl rfl rfl ?_; intro K hK; go_big_quiet_op; go_big_quiet_on)
  clear hone
  refine wpG_nil ?_
  refine anyG_done (by kernel_rfl) ?_
  rintro u12 ⟨hl2, E2'⟩
  have EX11 := Lib.hid E2'
  clear hl2 E2' EX9
  go_wp2_with fail
  go_ret
  exact ⟨rfl, EX11.out.bel⟩
set_option maxRecDepth 100000 in
set_option maxHeartbeats 8000000 in
theorem order_ttff (a b t s x y : Nat) (ha : Hid (a < 4294967296)) (hb : Hid (b < 4294967296)) (ht : Hid (t < Big)) (hs : Hid (s < Big)) (hxB : Hid (x < Big)) (hyB : Hid (y < Big)) (hx : Hid (tv a = x)) (hy : Hid (tv b = y)) (his : Hid (isC a = true)) (hcan : Hid (isC b = true)) (c2 : Int) (h2 : Hid (cmpI t s = c2)) (n2 : ¬ 0 < c2) (c1 : Int) (h1 : Hid (cmpI x y = c1)) (n1 : ¬ c1 < 0) (n0 : ¬ (a : Int) < (b : Int)) (p q : Nat) (hp : Hid (cN t = p)) (hq : Hid (cN s = q)) (npq : (p : Int) ≤ (q : Int)) (w : World) :
    Calls Try.prog 7 #[.int .u32 (a : Int), .int .u32 (b : Int), .agg (wcs (t)), .agg (wcs (s))] w fun e w' => e = .returned (.bool true) ∧ Below w.heap.size w w' := by
  have E1 : Hid (EnvX w ((w.alloc (.cells (wcs (t)) 25)).alloc (.cells (wcs (s)) 25)) [(w.heap.size + 1, (wo (s))), (w.heap.size, (wo (t)))]) := by
    have h := (((EnvX.start w).new (wo (t))).new (wo (s)))
    try simp only [World.size_alloc] at h
    exact h
  go_enter Try.func7, Try.ntmps7
  go_upto_region 1 with (fail)
  generalize ((w.alloc (.cells (wcs (t)) 25)).alloc (.cells (wcs (s)) 25)) = w1 at *
  refine wp_region_Gx (w0 := w) [0, 1] [] [(w.heap.size + 1, (wo (s))), (w.heap.size, (wo (t)))] rfl E1.out ?_
  have hone := @EnvC.one _ _ _ (E1.out)
  (refine wpG_call (f := 9) (args := #[]) (v := .bool true) rfl rfl rfl Try.func9 rfl rfl (fun u _ => awake_any u) ?_ (E1.out); intro K hK; go_big_quiet_op; go_big_quiet_on)
  (refine wpG_op rfl rfl rfl ?_; intro K hK; go_big_quiet_op; go_big_quiet_on)
  clear hone
  refine wpG_nil ?_
  rintro u2 ⟨hl2, E2'⟩
  have EX1 := Lib.hid E2'
  clear hl2 E2' E1
  go_upto_region 2 with (fail)
  refine wp_region_Gx (w0 := w) [0, 1, 2, 3, 4] [5, 6, 7] [(w.heap.size + 1, (wo (s))), (w.heap.size, (wo (t)))] rfl EX1.out ?_
  have hone := @EnvC.one _ _ _ (EX1.out)
  (refine wpG_op rfl rfl rfl ?_; intro K hK; go_big_quiet_op; go_big_quiet_on)
  (refine wpG_call (f := 10) (args := #[.int .u32 (a : Int)]) (v := .tuple #[.agg (wcs (x)), .bool true]) rfl rfl rfl Try.func10 rfl rfl (fun u _ => (by rw [← hx.out, ← his.out]; exact target_any a u ha.out)) ?_ (EX1.out); intro K hK; go_big_quiet_op; go_big_quiet_on)
  (refine wpG_op rfl rfl rfl ?_; intro K hK; go_big_quiet_op; go_big_quiet_on)
  (refine wpG_op rfl rfl rfl ?_; intro K hK; go_big_quiet_op; go_big_quiet_on)
  (refine wpG_op rfl rfl rfl ?_; intro K hK; go_big_quiet_op; go_big_quiet_on)
  clear hone
  refine wpG_nil ?_
  (refine (gOp_new (wo (0)) rfl (new_wide _) ?_); intro g3 hbg3 hfg3; intro K' hK'; go_big_quiet_op; go_big_quiet_on)
  have ng3x0 : Hid (w.heap.size + 1 ≠ g3) := hfg3 (w.heap.size + 1, _) (List.Mem.head _)
  have ng3x1 : Hid (w.heap.size ≠ g3) := hfg3 (w.heap.size, _) (List.Mem.tail _ (List.Mem.head _))
  clear hfg3
  refine (gOp_store rfl (g3) (wcs (x)) rfl rfl hbg3 25 (wcs (0)) (List.Mem.head _) (wc_info _) ((wc_size _).trans (wc_size _).symm) (wc_one _) [(g3, (wo (x))), (w.heap.size + 1, (wo (s))), (w.heap.size, (wo (t)))] (List.forall_mem_cons.2 ⟨.inl rfl, (List.forall_mem_cons.2 ⟨.inr ⟨(List.Mem.tail _ (List.Mem.head _)), ng3x0.out⟩, (List.forall_mem_cons.2 ⟨.inr ⟨(List.Mem.tail _ (List.Mem.tail _ (List.Mem.head _))), ng3x1.out⟩, (fun _ h => by cases h)⟩)⟩)⟩) ?_)
  (refine (gOp_pure rfl rfl ?_); intro K' hK'; go_big_quiet_op; go_big_quiet_on)
  rintro u5 ⟨hl2, E2'⟩
  have EX4 := Lib.hid E2'
  clear hl2 E2' EX1
  go_upto_region 3 with (fail)
  refine wp_region_Gx (w0 := w) [0, 1, 2, 3, 4] [5, 6, 7] [(g3, (wo (x))), (w.heap.size + 1, (wo (s))), (w.heap.size, (wo (t)))] rfl EX4.out ?_
  have hone := @EnvC.one _ _ _ (EX4.out)
  (refine wpG_op rfl rfl rfl ?_; intro K hK; go_big_quiet_op; go_big_quiet_on)
  (refine wpG_call (f := 10) (args := #[.int .u32 (b : Int)]) (v := .tuple #[.agg (wcs (y)), .bool true]) rfl rfl rfl Try.func10 rfl rfl (fun u _ => (by rw [← hy.out, ← hcan.out]; exact target_any b u hb.out)) ?_ (EX4.out); intro K hK; go_big_quiet_op; go_big_quiet_on)
  (refine wpG_op rfl rfl rfl ?_; intro K hK; go_big_quiet_op; go_big_quiet_on)
  (refine wpG_op rfl rfl rfl ?_; intro K hK; go_big_quiet_op; go_big_quiet_on)
  (refine wpG_op rfl rfl rfl ?_; intro K hK; go_big_quiet_op; go_big_quiet_on)
  clear hone
  refine wpG_nil ?_
  (refine (gOp_new (wo (0)) rfl (new_wide _) ?_); intro g6 hbg6 hfg6; intro K' hK'; go_big_quiet_op; go_big_quiet_on)
  have ng6x0 : Hid (g3 ≠ g6) := hfg6 (g3, _) (List.Mem.head _)
  have ng6x1 : Hid (w.heap.size + 1 ≠ g6) := hfg6 (w.heap.size + 1, _) (List.Mem.tail _ (List.Mem.head _))
  have ng6x2 : Hid (w.heap.size ≠ g6) := hfg6 (w.heap.size, _) (List.Mem.tail _ (List.Mem.tail _ (List.Mem.head _)))
  clear hfg6
  refine (gOp_store rfl (g6) (wcs (y)) rfl rfl hbg6 25 (wcs (0)) (List.Mem.head _) (wc_info _) ((wc_size _).trans (wc_size _).symm) (wc_one _) [(g6, (wo (y))), (g3, (wo (x))), (w.heap.size + 1, (wo (s))), (w.heap.size, (wo (t)))] (List.forall_mem_cons.2 ⟨.inl rfl, (List.forall_mem_cons.2 ⟨.inr ⟨(List.Mem.tail _ (List.Mem.head _)), ng6x0.out⟩, (List.forall_mem_cons.2 ⟨.inr ⟨(List.Mem.tail _ (List.Mem.tail _ (List.Mem.head _))), ng6x1.out⟩, (List.forall_mem_cons.2 ⟨.inr ⟨(List.Mem.tail _ (List.Mem.tail _ (List.Mem.tail _ (List.Mem.head _)))), ng6x2.out⟩, (fun _ h => by cases h)⟩)⟩)⟩)⟩) ?_)
  (refine (gOp_pure rfl rfl ?_); intro K' hK'; go_big_quiet_op; go_big_quiet_on)
  rintro u8 ⟨hl2, E2'⟩
  have EX7 := Lib.hid E2'
  clear hl2 E2' EX4
  go_upto_region 4 with (fail)
  refine wp_region_Gx (w0 := w) [0, 1, 2, 3, 4, 5, 6, 7, 8, 9, 10, 11, 12, 13, 14, 15, 16, 17] [] [(g6, (wo (y))), (g3, (wo (x))), (w.heap.size + 1, (wo (s))), (w.heap.size, (wo (t)))] rfl EX7.out ?_
  have hone := @EnvC.one _ _ _ (EX7.out)
  (refine wpG_op rfl rfl rfl ?_; intro K hK; go_big_quiet_op; go_big_quiet_on)
  (refine wpG_op rfl rfl rfl ?_; intro K hK; go_big_quiet_op; go_big_quiet_on)
  (refine wpG_op rfl rfl rfl ?_; intro K hK; go_big_quiet_op; go_big_quiet_on)
  (refine wpG_op rfl rfl rfl ?_; intro K hK; go_big_quiet_op; go_big_quiet_on)
  (refine wpG_op rfl rfl rfl ?_; intro K hK; go_big_quiet_op; go_big_quiet_on)
  (refine wpG_op rfl rfl rfl ?_; intro K hK; go_big_quiet_op; go_big_quiet_on)
  (refine wpG_op rfl rfl rfl ?_; intro K hK; go_big_quiet_op; go_big_quiet_on)
  (refine wpG_op rfl rfl rfl ?_; intro K hK; go_big_quiet_op; go_big_quiet_on)
  (refine wpG_op rfl rfl rfl ?_; intro K hK; go_big_quiet_op; go_big_quiet_on)
  (refine wpG_op rfl rfl rfl ?_; intro K hK; go_big_quiet_op; go_big_quiet_on)
  (refine wpG_op rfl rfl rfl ?_; intro K hK; go_big_quiet_op; go_big_quiet_on)
  (refine wpG_load rfl rfl (g3) rfl 25 _ _ (fun u hu => EnvC.box hu _ (wo (x)) (List.Mem.tail _ (List.Mem.head _))) Try.underlying25 rfl (wc_info _) ?_ (EX7.out); intro K hK; go_big_quiet_op; go_big_quiet_on)
  (refine wpG_load rfl rfl (g6) rfl 25 _ _ (fun u hu => EnvC.box hu _ (wo (y)) (List.Mem.head _)) Try.underlying25 rfl (wc_info _) ?_ (EX7.out); intro K hK; go_big_quiet_op; go_big_quiet_on)
  (refine wpG_call (f := 18) (args := #[.agg (wcs (x)), .agg (wcs (y))]) (v := .int .i64 c1) rfl rfl rfl Try.func18 rfl rfl (fun u _ => (by rw [← h1.out]; exact cmp_any (x) (y) u hxB.out hyB.out)) ?_ (EX7.out); intro K hK; go_big_quiet_op; go_big_quiet_on)
  (refine wpG_op rfl rfl rfl ?_; intro K hK; go_big_quiet_op; go_big_quiet_on)
  (refine wpG_op rfl rfl rfl ?_; intro K hK; go_big_quiet_op; go_big_quiet_on)
  (refine wpG_op rfl rfl rfl ?_; intro K hK; go_big_quiet_op; go_big_quiet_on)
  (refine wpG_op rfl rfl rfl ?_; intro K hK; go_big_quiet_op; go_big_quiet_on)
  clear hone
  refine wpG_nil ?_
  rintro u10 ⟨hl2, E2'⟩
  have EX9 := Lib.hid E2'
  clear hl2 E2' EX7
  go_upto_region 6 with (fail)
  refine wp_region_G (w0 := w) [0, 1, 2, 3, 4, 5, 6, 7, 8, 9, 10, 11] [(g6, (wo (y))), (g3, (wo (x))), (w.heap.size + 1, (wo (s))), (w.heap.size, (wo (t)))] 0 (by kernel_rfl) (by kernel_rfl) rfl EX9.out ?_
  have hone := @EnvC.one _ _ _ (EX9.out.drew)
  (refine wpG_load rfl rfl (w.heap.size) rfl 25 _ _ (fun u hu => EnvC.box hu _ (wo (t)) (List.Mem.tail _ (List.Mem.tail _ (List.Mem.tail _ (List.Mem.head _))))) Try.underlying25 rfl (wc_info _) ?_ (EX9.out.drew); intro K hK; go_big_quiet_op; go_big_quiet_on)
  (refine wpG_load rfl rfl (w.heap.size + 1) rfl 25 _ _ (fun u hu => EnvC.box hu _ (wo (s)) (List.Mem.tail _ (List.Mem.tail _ (List.Mem.head _)))) Try.underlying25 rfl (wc_info _) ?_ (EX9.out.drew); intro K hK; go_big_quiet_op; go_big_quiet_on)
  (refine wpG_call (f := 18) (args := #[.agg (wcs (t)), .agg (wcs (s))]) (v := .int .i64 c2) rfl rfl rfl Try.func18 rfl rfl (fun u _ => (by rw [← h2.out]; exact cmp_any (t) (s) u ht.out hs.out)) ?_ (EX9.out.drew); intro K hK; go_big_quiet_op; go_big_quiet_on)
  (refine wpG_op rfl rfl rfl ?_; intro K hK; go_big_quiet_op; go_big_quiet_on)
  (refine wpG_op rfl rfl rfl ?_; intro K hK; go_big_quiet_op; go_big_quiet_on)
  (refine wpG_load rfl rfl (w.heap.size) rfl 25 _ _ (fun u hu => EnvC.box hu _ (wo (t)) (List.Mem.tail _ (List.Mem.tail _ (List.Mem.tail _ (List.Mem.head _))))) Try.underlying25 rfl (wc_info _) ?_ (EX9.out.drew); intro K hK; go_big_quiet_op; go_big_quiet_on)
  (refine wpG_call (f := 12) (args := #[.agg (wcs (t))]) (v := .int .u32 (p : Int)) rfl rfl rfl Try.func12 rfl rfl (fun u _ => (by have h := compact_any t u ht.out; rw [hp.out] at h; exact h)) ?_ (EX9.out.drew); intro K hK; go_big_quiet_op; go_big_quiet_on)
  (refine wpG_load rfl rfl (w.heap.size + 1) rfl 25 _ _ (fun u hu => EnvC.box hu _ (wo (s)) (List.Mem.tail _ (List.Mem.tail _ (List.Mem.head _)))) Try.underlying25 rfl (wc_info _) ?_ (EX9.out.drew); intro K hK; go_big_quiet_op; go_big_quiet_on)
  (refine wpG_call (f := 12) (args := #[.agg (wcs (s))]) (v := .int .u32 (q : Int)) rfl rfl rfl Try.func12 rfl rfl (fun u _ => (by have h := compact_any s u hs.out; rw [hq.out] at h; exact h)) ?_ (EX9.out.drew); intro K hK; go_big_quiet_op; go_big_quiet_on)
  (refine wpG_op rfl rfl rfl ?_; intro K hK; go_big_quiet_op; go_big_quiet_on)
  (refine wpG_op rfl rfl rfl ?_; intro K hK; go_big_quiet_op; go_big_quiet_on)
  (refine wpG_op rfl rfl rfl ?_; intro K hK; go_big_quiet_op; go_big_quiet_on)
  clear hone
  refine wpG_nil ?_
  refine anyG_done (by kernel_rfl) ?_
  rintro u12 ⟨hl2, E2'⟩
  have EX11 := Lib.hid E2'
  clear hl2 E2' EX9
  go_wp2_with fail
  go_ret
  exact ⟨rfl, EX11.out.bel⟩

theorem law_order (a b t s : Nat) (w : World) (ha : a < 4294967296) (hb : b < 4294967296) (ht : t < Big) (hs : s < Big) :
    Calls Try.prog 7 #[.int .u32 (a : Int), .int .u32 (b : Int), .agg (wcs t), .agg (wcs s)] w fun e w' => e = .returned (.bool true) ∧ Below w.heap.size w w' := by
  have s2 := cmpI_sgn t s
  have s1 := cmpI_sgn (tv a) (tv b)
  by_cases hg : s < t
  · by_cases hi : isC a = true
    · by_cases hj : isC b = true
      · have hk := tv_lt_iff hi hj
        by_cases hl : a < b
        · exact order_tttt a b t s _ _ ha hb ht hs (tv_big a) (tv_big b) rfl rfl hi hj _ rfl (by omega) _ rfl (by omega) (by omega) w
        · exact order_ttft a b t s _ _ ha hb ht hs (tv_big a) (tv_big b) rfl rfl hi hj _ rfl (by omega) _ rfl (by omega) (by omega) w
      · exact order_tfft a b t s _ _ ha hb ht hs (tv_big a) (tv_big b) rfl rfl hi (show isC b = false by simpa using hj) _ rfl (by omega) w
    · by_cases hj : isC b = true
      · exact order_ftft a b t s _ _ ha hb ht hs (tv_big a) (tv_big b) rfl rfl (show isC a = false by simpa using hi) hj _ rfl (by omega) w
      · exact order_ffft a b t s _ _ ha hb ht hs (tv_big a) (tv_big b) rfl rfl (show isC a = false by simpa using hi) (show isC b = false by simpa using hj) _ rfl (by omega) w
  · have hm := cN_mono (show t ≤ s by omega)
    by_cases hi : isC a = true
    · by_cases hj : isC b = true
      · have hk := tv_lt_iff hi hj
        by_cases hl : a < b
        · exact order_tttf a b t s _ _ ha hb ht hs (tv_big a) (tv_big b) rfl rfl hi hj _ rfl (by omega) _ rfl (by omega) (by omega) _ _ rfl rfl (by omega) w
        · exact order_ttff a b t s _ _ ha hb ht hs (tv_big a) (tv_big b) rfl rfl hi hj _ rfl (by omega) _ rfl (by omega) (by omega) _ _ rfl rfl (by omega) w
      · exact order_tfff a b t s _ _ ha hb ht hs (tv_big a) (tv_big b) rfl rfl hi (show isC b = false by simpa using hj) _ rfl (by omega) _ _ rfl rfl (by omega) w
    · by_cases hj : isC b = true
      · exact order_ftff a b t s _ _ ha hb ht hs (tv_big a) (tv_big b) rfl rfl (show isC a = false by simpa using hi) hj _ rfl (by omega) _ _ rfl rfl (by omega) w
      · exact order_ffff a b t s _ _ ha hb ht hs (tv_big a) (tv_big b) rfl rfl (show isC a = false by simpa using hi) (show isC b = false by simpa using hj) _ rfl (by omega) _ _ rfl rfl (by omega) w
end Go.Proofs.Ytdbkbaanppnabaa
