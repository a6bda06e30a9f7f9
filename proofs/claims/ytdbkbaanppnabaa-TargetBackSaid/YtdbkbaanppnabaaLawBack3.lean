/- The walk of the law TargetBack. -/
import Derived.Test.YtdbkbaanppnabaaLawTells3
namespace Go.Proofs.Ytdbkbaanppnabaa
open Go.RowKit

set_option maxRecDepth 100000 in
set_option maxHeartbeats 8000000 in
theorem back_ftl (bits t x y : Nat) (hbits : Hid (bits < 4294967296)) (ht : Hid (t < Big)) (hxB : Hid (x < Big)) (hyB : Hid (y < Big)) (hBB : Hid (32768 < Big)) (hx : Hid (tv bits = x)) (his : Hid (isC bits = false)) (c : Nat) (hcb : Hid (c < 4294967296)) (hc : Hid (cN t = c)) (hy : Hid (tv c = y)) (hhas : Hid (isC c = true)) (c1 : Int) (h1 : Hid (cmpI t 32768 = c1)) (n1 : 0 ≤ c1) (c2 : Int) (h2 : Hid (cmpI y t = c2)) (n2 : ¬ 0 < c2) (w : World) :
    Calls Try.prog 4 #[.int .u32 (bits : Int), .agg (wcs (t))] w fun e w' => e = .returned (.bool true) ∧ Below w.heap.size w w' := by
  have E1 : Hid (EnvX w (w.alloc (.cells (wcs (t)) 25)) [(w.heap.size, (wo (t)))]) := by
    have h := ((EnvX.start w).new (wo (t)))
    try simp only [World.size_alloc] at h
    exact h
  go_enter Try.func4, Try.ntmps4
  go_upto_region 1 with (fail)
  generalize (w.alloc (.cells (wcs (t)) 25)) = w1 at *
  refine wp_region_Gx (w0 := w) [0, 1] [] [(w.heap.size, (wo (t)))] rfl E1.out ?_
  have hone := @EnvC.one _ _ _ (E1.out)
  (refine wpG_call (f := 9) (args := #[]) (v := .bool true) rfl rfl rfl Try.func9 rfl rfl (fun u _ => awake_any u) ?_ (E1.out); intro K hK; go_big_quiet_op; go_big_quiet_on)
  (refine wpG_op rfl rfl rfl ?_; intro K hK; go_big_quiet_op; go_big_quiet_on)
  clear hone
  refine wpG_nil ?_
  rintro u2 ⟨hl2, E2'⟩
  have EX1 := Lib.hid E2'
  clear hl2 E2' E1
  go_upto_region 2 with (fail)
  refine wp_region_Gx (w0 := w) [0, 1, 2, 3, 4] [5, 6, 7] [(w.heap.size, (wo (t)))] rfl EX1.out ?_
  have hone := @EnvC.one _ _ _ (EX1.out)
  (refine wpG_op rfl rfl rfl ?_; intro K hK; go_big_quiet_op; go_big_quiet_on)
  (refine wpG_call (f := 10) (args := #[.int .u32 (bits : Int)]) (v := .tuple #[.agg (wcs (x)), .bool false]) rfl rfl rfl Try.func10 rfl rfl (fun u _ => (by rw [← hx.out, ← his.out]; exact target_any bits u hbits.out)) ?_ (EX1.out); intro K hK; go_big_quiet_op; go_big_quiet_on)
  (refine wpG_op rfl rfl rfl ?_; intro K hK; go_big_quiet_op; go_big_quiet_on)
  (refine wpG_op rfl rfl rfl ?_; intro K hK; go_big_quiet_op; go_big_quiet_on)
  (refine wpG_op rfl rfl rfl ?_; intro K hK; go_big_quiet_op; go_big_quiet_on)
  clear hone
  refine wpG_nil ?_
  (refine (gOp_new (wo (0)) rfl (new_wide _) ?_); intro g3 hbg3 hfg3; intro K' hK'; go_big_quiet_op; go_big_quiet_on)
  have ng3x0 : Hid (w.heap.size ≠ g3) := hfg3 (w.heap.size, _) (List.Mem.head _)
  clear hfg3
  refine (gOp_store rfl (g3) (wcs (x)) rfl rfl hbg3 25 (wcs (0)) (List.Mem.head _) (wc_info _) ((wc_size _).trans (wc_size _).symm) (wc_one _) [(g3, (wo (x))), (w.heap.size, (wo (t)))] (List.forall_mem_cons.2 ⟨.inl rfl, (List.forall_mem_cons.2 ⟨.inr ⟨(List.Mem.tail _ (List.Mem.head _)), ng3x0.out⟩, (fun _ h => by cases h)⟩)⟩) ?_)
  (refine (gOp_pure rfl rfl ?_); intro K' hK'; go_big_quiet_op; go_big_quiet_on)
  rintro u5 ⟨hl2, E2'⟩
  have EX4 := Lib.hid E2'
  clear hl2 E2' EX1
  go_upto_region 3 with (fail)
  refine wp_region_Gx (w0 := w) [0, 1, 2] [] [(g3, (wo (x))), (w.heap.size, (wo (t)))] rfl EX4.out ?_
  have hone := @EnvC.one _ _ _ (EX4.out)
  (refine wpG_load rfl rfl (w.heap.size) rfl 25 _ _ (fun u hu => EnvC.box hu _ (wo (t)) (List.Mem.tail _ (List.Mem.head _))) Try.underlying25 rfl (wc_info _) ?_ (EX4.out); intro K hK; go_big_quiet_op; go_big_quiet_on)
  (refine wpG_call (f := 12) (args := #[.agg (wcs (t))]) (v := .int .u32 (c : Int)) rfl rfl rfl Try.func12 rfl rfl (fun u _ => (by have h := compact_any t u ht.out; rw [hc.out] at h; exact h)) ?_ (EX4.out); intro K hK; go_big_quiet_op; go_big_quiet_on)
  (refine wpG_op rfl rfl rfl ?_; intro K hK; go_big_quiet_op; go_big_quiet_on)
  clear hone
  refine wpG_nil ?_
  rintro u7 ⟨hl2, E2'⟩
  have EX6 := Lib.hid E2'
  clear hl2 E2' EX4
  go_upto_region 4 with (fail)
  refine wp_region_Gx (w0 := w) [0, 1, 2, 3, 4] [5, 6, 7] [(g3, (wo (x))), (w.heap.size, (wo (t)))] rfl EX6.out ?_
  have hone := @EnvC.one _ _ _ (EX6.out)
  (refine wpG_op rfl rfl rfl ?_; intro K hK; go_big_quiet_op; go_big_quiet_on)
  (refine wpG_call (f := 10) (args := #[.int .u32 (c : Int)]) (v := .tuple #[.agg (wcs (y)), .bool true]) rfl rfl rfl Try.func10 rfl rfl (fun u _ => (by have h := target_any c u hcb.out; rw [hy.out, hhas.out] at h; exact h)) ?_ (EX6.out); intro K hK; go_big_quiet_op; go_big_quiet_on)
  (refine wpG_op rfl rfl rfl ?_; intro K hK; go_big_quiet_op; go_big_quiet_on)
  (refine wpG_op rfl rfl rfl ?_; intro K hK; go_big_quiet_op; go_big_quiet_on)
  (refine wpG_op rfl rfl rfl ?_; intro K hK; go_big_quiet_op; go_big_quiet_on)
  clear hone
  refine wpG_nil ?_
  (refine (gOp_new (wo (0)) rfl (new_wide _) ?_); intro g8 hbg8 hfg8; intro K' hK'; go_big_quiet_op; go_big_quiet_on)
  have ng8x0 : Hid (g3 ≠ g8) := hfg8 (g3, _) (List.Mem.head _)
  have ng8x1 : Hid (w.heap.size ≠ g8) := hfg8 (w.heap.size, _) (List.Mem.tail _ (List.Mem.head _))
  clear hfg8
  refine (gOp_store rfl (g8) (wcs (y)) rfl rfl hbg8 25 (wcs (0)) (List.Mem.head _) (wc_info _) ((wc_size _).trans (wc_size _).symm) (wc_one _) [(g8, (wo (y))), (g3, (wo (x))), (w.heap.size, (wo (t)))] (List.forall_mem_cons.2 ⟨.inl rfl, (List.forall_mem_cons.2 ⟨.inr ⟨(List.Mem.tail _ (List.Mem.head _)), ng8x0.out⟩, (List.forall_mem_cons.2 ⟨.inr ⟨(List.Mem.tail _ (List.Mem.tail _ (List.Mem.head _))), ng8x1.out⟩, (fun _ h => by cases h)⟩)⟩)⟩) ?_)
  (refine (gOp_pure rfl rfl ?_); intro K' hK'; go_big_quiet_op; go_big_quiet_on)
  rintro u10 ⟨hl2, E2'⟩
  have EX9 := Lib.hid E2'
  clear hl2 E2' EX6
  go_upto_region 5 with (fail)
  refine wp_region_G (w0 := w) [0, 1, 2, 3, 4, 5, 6, 7, 8, 9, 10, 11, 12, 13, 14, 15, 16, 17, 18, 19, 20, 21, 22, 23, 24, 25, 26, 27, 28, 29, 30, 31, 32, 33, 34, 35] [(g8, (wo (y))), (g3, (wo (x))), (w.heap.size, (wo (t)))] 0 (by kernel_rfl) (by kernel_rfl) rfl EX9.out ?_
  have hone := @EnvC.one _ _ _ (EX9.out.drew)
  (refine wpG_op rfl rfl rfl ?_; intro K hK; go_big_quiet_op; go_big_quiet_on)
  (refine wpG_op rfl rfl rfl ?_; intro K hK; go_big_quiet_op; go_big_quiet_on)
  (refine wpG_op rfl rfl rfl ?_; intro K hK; go_big_quiet_op; go_big_quiet_on)
  (refine wpG_op rfl rfl rfl ?_; intro K hK; go_big_quiet_op; go_big_quiet_on)
  (refine wpG_op rfl rfl rfl ?_; intro K hK; go_big_quiet_op; go_big_quiet_on)
  (refine wpG_skip rfl rfl ?_ EX9.out.drew; intro K hK; go_big_quiet_op; go_big_quiet_on)
  (refine wpG_skip rfl rfl ?_ EX9.out.drew; intro K hK; go_big_quiet_op; go_big_quiet_on)
  (refine wpG_skip rfl rfl ?_ EX9.out.drew; intro K hK; go_big_quiet_op; go_big_quiet_on)
  (refine wpG_skip rfl rfl ?_ EX9.out.drew; intro K hK; go_big_quiet_op; go_big_quiet_on)
  (refine wpG_op rfl rfl rfl ?_; intro K hK; go_big_quiet_op; go_big_quiet_on)
  (refine wpG_op rfl rfl rfl ?_; intro K hK; go_big_quiet_op; go_big_quiet_on)
  (refine wpG_op rfl rfl rfl ?_; intro K hK; go_big_quiet_op; go_big_quiet_on)
  (refine wpG_op rfl rfl rfl ?_; intro K hK; go_big_quiet_op; go_big_quiet_on)
  (refine wpG_load rfl rfl (w.heap.size) rfl 25 _ _ (fun u hu => EnvC.box hu _ (wo (t)) (List.Mem.tail _ (List.Mem.tail _ (List.Mem.head _)))) Try.underlying25 rfl (wc_info _) ?_ (EX9.out.drew); intro K hK; go_big_quiet_op; go_big_quiet_on)
  (refine wpG_call (f := 19) (args := #[.int .u64 (32768 : Nat)]) (v := .agg (wcs (32768))) rfl rfl rfl Try.func19 rfl rfl (fun u _ => of_n 32768 u (by decide)) ?_ (EX9.out.drew); intro K hK; go_big_quiet_op; go_big_quiet_on)
  (refine wpG_call (f := 18) (args := #[.agg (wcs (t)), .agg (wcs (32768))]) (v := .int .i64 c1) rfl rfl rfl Try.func18 rfl rfl (fun u _ => (by rw [← h1.out]; exact cmp_any (t) (32768) u ht.out hBB.out)) ?_ (EX9.out.drew); intro K hK; go_big_quiet_op; go_big_quiet_on)
  (refine wpG_op rfl rfl rfl ?_; intro K hK; go_big_quiet_op; go_big_quiet_on)
  (refine wpG_op rfl rfl rfl ?_; intro K hK; go_big_quiet_op; go_big_quiet_on)
  (refine wpG_op rfl rfl rfl ?_; intro K hK; go_big_quiet_op; go_big_quiet_on)
  (refine wpG_op rfl rfl rfl ?_; intro K hK; go_big_quiet_op; go_big_quiet_on)
  (refine wpG_op rfl rfl rfl ?_; intro K hK; go_big_quiet_op; go_big_quiet_on)
  (refine wpG_op rfl rfl rfl ?_; intro K hK; go_big_quiet_op; go_big_quiet_on)
  (refine wpG_load rfl rfl (g8) rfl 25 _ _ (fun u hu => EnvC.box hu _ (wo (y)) (List.Mem.head _)) Try.underlying25 rfl (wc_info _) ?_ (EX9.out.drew); intro K hK; go_big_quiet_op; go_big_quiet_on)
  (refine wpG_load rfl rfl (w.heap.size) rfl 25 _ _ (fun u hu => EnvC.box hu _ (wo (t)) (List.Mem.tail _ (List.Mem.tail _ (List.Mem.head _)))) Try.underlying25 rfl (wc_info _) ?_ (EX9.out.drew); intro K hK; go_big_quiet_op; go_big_quiet_on)
  (refine wpG_call (f := 18) (args := #[.agg (wcs (y)), .agg (wcs (t))]) (v := .int .i64 c2) rfl rfl rfl Try.func18 rfl rfl (fun u _ => (by rw [← h2.out]; exact cmp_any (y) (t) u hyB.out ht.out)) ?_ (EX9.out.drew); intro K hK; go_big_quiet_op; go_big_quiet_on)
  (refine wpG_op rfl rfl rfl ?_; intro K hK; go_big_quiet_op; go_big_quiet_on)
  (refine wpG_op rfl rfl rfl ?_; intro K hK; go_big_quiet_op; go_big_quiet_on)
  (refine wpG_op rfl rfl rfl ?_; intro K hK; go_big_quiet_op; go_big_quiet_on)
  (refine wpG_op rfl rfl rfl ?_; intro K hK; go_big_quiet_op; go_big_quiet_on)
  (refine wpG_op rfl rfl rfl ?_; intro K hK; go_big_quiet_op; go_big_quiet_on)
  (refine wpG_op rfl rfl rfl ?_; intro K hK; go_big_quiet_op; go_big_quiet_on)
  (refine wpG_op rfl rfl rfl ?_; intro K hK; go_big_quiet_op; go_big_quiet_on)
  (refine wpG_skip rfl rfl ?_ EX9.out.drew; intro K hK; go_big_quiet_op; go_big_quiet_on)
  (refine wpG_skip rfl rfl ?_ EX9.out.drew; intro K hK; go_big_quiet_op; go_big_quiet_on)
  (refine wpG_op rfl rfl rfl ?_; intro K hK; go_big_quiet_op; go_big_quiet_on)
  (refine wpG_op rfl rfl rfl ?_; intro K hK; go_big_quiet_op; go_big_quiet_on)
  clear hone
  refine wpG_nil ?_
  refine anyG_done (by kernel_rfl) ?_
  rintro u12 ⟨hl2, E2'⟩
  have EX11 := Lib.hid E2'
  clear hl2 E2' EX9
  go_upto_region 7 with (fail)
  refine wp_region_Gx (w0 := w) [0, 1, 2, 3, 4, 5, 6, 7, 8, 9, 10, 11, 12, 13, 14, 15, 16, 17] [] [(g8, (wo (y))), (g3, (wo (x))), (w.heap.size, (wo (t)))] rfl EX11.out ?_
  have hone := @EnvC.one _ _ _ (EX11.out)
  (refine wpG_op rfl rfl rfl ?_; intro K hK; go_big_quiet_op; go_big_quiet_on)
  (refine wpG_op rfl rfl rfl ?_; intro K hK; go_big_quiet_op; go_big_quiet_on)
  (refine wpG_op rfl rfl rfl ?_; intro K hK; go_big_quiet_op; go_big_quiet_on)
  (refine wpG_skip rfl rfl ?_ EX11.out; intro K hK; go_big_quiet_op; go_big_quiet_on)
  (refine wpG_skip rfl rfl ?_ EX11.out; intro K hK; go_big_quiet_op; go_big_quiet_on)
  (refine wpG_skip rfl rfl ?_ EX11.out; intro K hK; go_big_quiet_op; go_big_quiet_on)
  (refine wpG_skip rfl rfl ?_ EX11.out; intro K hK; go_big_quiet_op; go_big_quiet_on)
  (refine wpG_op rfl rfl rfl ?_; intro K hK; go_big_quiet_op; go_big_quiet_on)
  (refine wpG_op rfl rfl rfl ?_; intro K hK; go_big_quiet_op; go_big_quiet_on)
  (refine wpG_skip rfl rfl ?_ EX11.out; intro K hK; go_big_quiet_op; go_big_quiet_on)
  (refine wpG_skip rfl rfl ?_ EX11.out; intro K hK; go_big_quiet_op; go_big_quiet_on)
  (refine wpG_skip rfl rfl ?_ EX11.out; intro K hK; go_big_quiet_op; go_big_quiet_on)
  (refine wpG_skip rfl rfl ?_ EX11.out; intro K hK; go_big_quiet_op; go_big_quiet_on)
  (refine wpG_skip rfl rfl ?_ EX11.out; intro K hK; go_big_quiet_op; go_big_quiet_on)
  (refine wpG_skip rfl rfl ?_ EX11.out; intro K hK; go_big_quiet_op; go_big_quiet_on)
  (refine wpG_skip rfl rfl ?_ EX11.out; intro K hK; go_big_quiet_op; go_big_quiet_on)
  (refine wpG_op rfl rfl rfl ?_; intro K hK; go_big_quiet_op; go_big_quiet_on)
  (refine wpG_op rfl rfl rfl ?_; intro K hK; go_big_quiet_op; go_big_quiet_on)
  clear hone
  refine wpG_nil ?_
  rintro u14 ⟨hl2, E2'⟩
  have EX13 := Lib.hid E2'
  clear hl2 E2' EX11
  go_wp2_with fail
  go_ret
  exact ⟨rfl, EX13.out.bel⟩
set_option maxRecDepth 100000 in
set_option maxHeartbeats 8000000 in
theorem back_ffl (bits t x y : Nat) (hbits : Hid (bits < 4294967296)) (ht : Hid (t < Big)) (hxB : Hid (x < Big)) (hyB : Hid (y < Big)) (hBB : Hid (32768 < Big)) (hx : Hid (tv bits = x)) (his : Hid (isC bits = false)) (hc : Hid (cN t = 0)) (hy : Hid (tv 0 = y)) (hhas : Hid (isC 0 = false)) (c1 : Int) (h1 : Hid (cmpI t 32768 = c1)) (n1 : ¬ 0 ≤ c1) (w : World) :
    Calls Try.prog 4 #[.int .u32 (bits : Int), .agg (wcs (t))] w fun e w' => e = .returned (.bool true) ∧ Below w.heap.size w w' := by
  have E1 : Hid (EnvX w (w.alloc (.cells (wcs (t)) 25)) [(w.heap.size, (wo (t)))]) := by
    have h := ((EnvX.start w).new (wo (t)))
    try simp only [World.size_alloc] at h
    exact h
  go_enter Try.func4, Try.ntmps4
  go_upto_region 1 with (fail)
  generalize (w.alloc (.cells (wcs (t)) 25)) = w1 at *
  refine wp_region_Gx (w0 := w) [0, 1] [] [(w.heap.size, (wo (t)))] rfl E1.out ?_
  have hone := @EnvC.one _ _ _ (E1.out)
  (refine wpG_call (f := 9) (args := #[]) (v := .bool true) rfl rfl rfl Try.func9 rfl rfl (fun u _ => awake_any u) ?_ (E1.out); intro K hK; go_big_quiet_op; go_big_quiet_on)
  (refine wpG_op rfl rfl rfl ?_; intro K hK; go_big_quiet_op; go_big_quiet_on)
  clear hone
  refine wpG_nil ?_
  rintro u2 ⟨hl2, E2'⟩
  have EX1 := Lib.hid E2'
  clear hl2 E2' E1
  go_upto_region 2 with (fail)
  refine wp_region_Gx (w0 := w) [0, 1, 2, 3, 4] [5, 6, 7] [(w.heap.size, (wo (t)))] rfl EX1.out ?_
  have hone := @EnvC.one _ _ _ (EX1.out)
  (refine wpG_op rfl rfl rfl ?_; intro K hK; go_big_quiet_op; go_big_quiet_on)
  (refine wpG_call (f := 10) (args := #[.int .u32 (bits : Int)]) (v := .tuple #[.agg (wcs (x)), .bool false]) rfl rfl rfl Try.func10 rfl rfl (fun u _ => (by rw [← hx.out, ← his.out]; exact target_any bits u hbits.out)) ?_ (EX1.out); intro K hK; go_big_quiet_op; go_big_quiet_on)
  (refine wpG_op rfl rfl rfl ?_; intro K hK; go_big_quiet_op; go_big_quiet_on)
  (refine wpG_op rfl rfl rfl ?_; intro K hK; go_big_quiet_op; go_big_quiet_on)
  (refine wpG_op rfl rfl rfl ?_; intro K hK; go_big_quiet_op; go_big_quiet_on)
  clear hone
  refine wpG_nil ?_
  (refine (gOp_new (wo (0)) rfl (new_wide _) ?_); intro g3 hbg3 hfg3; intro K' hK'; go_big_quiet_op; go_big_quiet_on)
  have ng3x0 : Hid (w.heap.size ≠ g3) := hfg3 (w.heap.size, _) (List.Mem.head _)
  clear hfg3
  refine (gOp_store rfl (g3) (wcs (x)) rfl rfl hbg3 25 (wcs (0)) (List.Mem.head _) (wc_info _) ((wc_size _).trans (wc_size _).symm) (wc_one _) [(g3, (wo (x))), (w.heap.size, (wo (t)))] (List.forall_mem_cons.2 ⟨.inl rfl, (List.forall_mem_cons.2 ⟨.inr ⟨(List.Mem.tail _ (List.Mem.head _)), ng3x0.out⟩, (fun _ h => by cases h)⟩)⟩) ?_)
  (refine (gOp_pure rfl rfl ?_); intro K' hK'; go_big_quiet_op; go_big_quiet_on)
  rintro u5 ⟨hl2, E2'⟩
  have EX4 := Lib.hid E2'
  clear hl2 E2' EX1
  go_upto_region 3 with (fail)
  refine wp_region_Gx (w0 := w) [0, 1, 2] [] [(g3, (wo (x))), (w.heap.size, (wo (t)))] rfl EX4.out ?_
  have hone := @EnvC.one _ _ _ (EX4.out)
  (refine wpG_load rfl rfl (w.heap.size) rfl 25 _ _ (fun u hu => EnvC.box hu _ (wo (t)) (List.Mem.tail _ (List.Mem.head _))) Try.underlying25 rfl (wc_info _) ?_ (EX4.out); intro K hK; go_big_quiet_op; go_big_quiet_on)
  (refine wpG_call (f := 12) (args := #[.agg (wcs (t))]) (v := .int .u32 0) rfl rfl rfl Try.func12 rfl rfl (fun u _ => (by have h := compact_any t u ht.out; rw [hc.out] at h; exact h)) ?_ (EX4.out); intro K hK; go_big_quiet_op; go_big_quiet_on)
  (refine wpG_op rfl rfl rfl ?_; intro K hK; go_big_quiet_op; go_big_quiet_on)
  clear hone
  refine wpG_nil ?_
  rintro u7 ⟨hl2, E2'⟩
  have EX6 := Lib.hid E2'
  clear hl2 E2' EX4
  go_upto_region 4 with (fail)
  refine wp_region_Gx (w0 := w) [0, 1, 2, 3, 4] [5, 6, 7] [(g3, (wo (x))), (w.heap.size, (wo (t)))] rfl EX6.out ?_
  have hone := @EnvC.one _ _ _ (EX6.out)
  (refine wpG_op rfl rfl rfl ?_; intro K hK; go_big_quiet_op; go_big_quiet_on)
  (refine wpG_call (f := 10) (args := #[.int .u32 0]) (v := .tuple #[.agg (wcs (y)), .bool false]) rfl rfl rfl Try.func10 rfl rfl (fun u _ => (by have h := target_any 0 u (by decide); rw [hy.out, hhas.out] at h; exact h)) ?_ (EX6.out); intro K hK; go_big_quiet_op; go_big_quiet_on)
  (refine wpG_op rfl rfl rfl ?_; intro K hK; go_big_quiet_op; go_big_quiet_on)
  (refine wpG_op rfl rfl rfl ?_; intro K hK; go_big_quiet_op; go_big_quiet_on)
  (refine wpG_op rfl rfl rfl ?_; intro K hK; go_big_quiet_op; go_big_quiet_on)
  clear hone
  refine wpG_nil ?_
  (refine (gOp_new (wo (0)) rfl (new_wide _) ?_); intro g8 hbg8 hfg8; intro K' hK'; go_big_quiet_op; go_big_quiet_on)
  have ng8x0 : Hid (g3 ≠ g8) := hfg8 (g3, _) (List.Mem.head _)
  have ng8x1 : Hid (w.heap.size ≠ g8) := hfg8 (w.heap.size, _) (List.Mem.tail _ (List.Mem.head _))
  clear hfg8
  refine (gOp_store rfl (g8) (wcs (y)) rfl rfl hbg8 25 (wcs (0)) (List.Mem.head _) (wc_info _) ((wc_size _).trans (wc_size _).symm) (wc_one _) [(g8, (wo (y))), (g3, (wo (x))), (w.heap.size, (wo (t)))] (List.forall_mem_cons.2 ⟨.inl rfl, (List.forall_mem_cons.2 ⟨.inr ⟨(List.Mem.tail _ (List.Mem.head _)), ng8x0.out⟩, (List.forall_mem_cons.2 ⟨.inr ⟨(List.Mem.tail _ (List.Mem.tail _ (List.Mem.head _))), ng8x1.out⟩, (fun _ h => by cases h)⟩)⟩)⟩) ?_)
  (refine (gOp_pure rfl rfl ?_); intro K' hK'; go_big_quiet_op; go_big_quiet_on)
  rintro u10 ⟨hl2, E2'⟩
  have EX9 := Lib.hid E2'
  clear hl2 E2' EX6
  go_upto_region 5 with (fail)
  refine wp_region_G (w0 := w) [0, 1, 2, 3, 4, 5, 6, 7, 8, 9, 10, 11, 12, 13, 14, 15, 16, 17, 18, 19, 20, 21, 22, 23, 24, 25, 26, 27, 28, 29, 30, 31, 32, 33, 34, 35] [(g8, (wo (y))), (g3, (wo (x))), (w.heap.size, (wo (t)))] 0 (by kernel_rfl) (by kernel_rfl) rfl EX9.out ?_
  have hone := @EnvC.one _ _ _ (EX9.out.drew)
  (refine wpG_op rfl rfl rfl ?_; intro K hK; go_big_quiet_op; go_big_quiet_on)
  (refine wpG_op rfl rfl rfl ?_; intro K hK; go_big_quiet_op; go_big_quiet_on)
  (refine wpG_op rfl rfl rfl ?_; intro K hK; go_big_quiet_op; go_big_quiet_on)
  (refine wpG_op rfl rfl rfl ?_; intro K hK; go_big_quiet_op; go_big_quiet_on)
  (refine wpG_op rfl rfl rfl ?_; intro K hK; go_big_quiet_op; go_big_quiet_on)
  (refine wpG_skip rfl rfl ?_ EX9.out.drew; intro K hK; go_big_quiet_op; go_big_quiet_on)
  (refine wpG_skip rfl rfl ?_ EX9.out.drew; intro K hK; go_big_quiet_op; go_big_quiet_on)
  (refine wpG_skip rfl rfl ?_ EX9.out.drew; intro K hK; go_big_quiet_op; go_big_quiet_on)
  (refine wpG_skip rfl rfl ?_ EX9.out.drew; intro K hK; go_big_quiet_op; go_big_quiet_on)
  (refine wpG_op rfl rfl rfl ?_; intro K hK; go_big_quiet_op; go_big_quiet_on)
  (refine wpG_op rfl rfl rfl ?_; intro K hK; go_big_quiet_op; go_big_quiet_on)
  (refine wpG_op rfl rfl rfl ?_; intro K hK; go_big_quiet_op; go_big_quiet_on)
  (refine wpG_op rfl rfl rfl ?_; intro K hK; go_big_quiet_op; go_big_quiet_on)
  (refine wpG_load rfl rfl (w.heap.size) rfl 25 _ _ (fun u hu => EnvC.box hu _ (wo (t)) (List.Mem.tail _ (List.Mem.tail _ (List.Mem.head _)))) Try.underlying25 rfl (wc_info _) ?_ (EX9.out.drew); intro K hK; go_big_quiet_op; go_big_quiet_on)
  (refine wpG_call (f := 19) (args := #[.int .u64 (32768 : Nat)]) (v := .agg (wcs (32768))) rfl rfl rfl Try.func19 rfl rfl (fun u _ => of_n 32768 u (by decide)) ?_ (EX9.out.drew); intro K hK; go_big_quiet_op; go_big_quiet_on)
  (refine wpG_call (f := 18) (args := #[.agg (wcs (t)), .agg (wcs (32768))]) (v := .int .i64 c1) rfl rfl rfl Try.func18 rfl rfl (fun u _ => (by rw [← h1.out]; exact cmp_any (t) (32768) u ht.out hBB.out)) ?_ (EX9.out.drew); intro K hK; go_big_quiet_op; go_big_quiet_on)
  (refine wpG_op rfl rfl rfl ?_; intro K hK; go_big_quiet_op; go_big_quiet_on)
  (refine wpG_op rfl rfl rfl ?_; intro K hK; go_big_quiet_op; go_big_quiet_on)
  (refine wpG_op rfl rfl rfl ?_; intro K hK; go_big_quiet_op; go_big_quiet_on)
  (refine wpG_op rfl rfl rfl ?_; intro K hK; go_big_quiet_op; go_big_quiet_on)
  (refine wpG_op rfl rfl rfl ?_; intro K hK; go_big_quiet_op; go_big_quiet_on)
  (refine wpG_op rfl rfl rfl ?_; intro K hK; go_big_quiet_op; go_big_quiet_on)
  (refine wpG_skip rfl rfl ?_ EX9.out.drew; intro K hK; go_big_quiet_op; go_big_quiet_on)
  (refine wpG_skip rfl rfl ?_ EX9.out.drew; intro K hK; go_big_quiet_op; go_big_quiet_on)
  (refine wpG_skip rfl rfl ?_ EX9.out.drew; intro K hK; go_big_quiet_op; go_big_quiet_on)
  (refine wpG_skip rfl rfl ?_ EX9.out.drew; intro K hK; go_big_quiet_op; go_big_quiet_on)
  (refine wpG_op rfl rfl rfl ?_; intro K hK; go_big_quiet_op; go_big_quiet_on)
  (refine wpG_op rfl rfl rfl ?_; intro K hK; go_big_quiet_op; go_big_quiet_on)
  (refine wpG_op rfl rfl rfl ?_; intro K hK; go_big_quiet_op; go_big_quiet_on)
  (refine wpG_op rfl rfl rfl ?_; intro K hK; go_big_quiet_op; go_big_quiet_on)
  (refine wpG_op rfl rfl rfl ?_; intro K hK; go_big_quiet_op; go_big_quiet_on)
  (refine wpG_op rfl rfl rfl ?_; intro K hK; go_big_quiet_op; go_big_quiet_on)
  (refine wpG_op rfl rfl rfl ?_; intro K hK; go_big_quiet_op; go_big_quiet_on)
  (refine wpG_op rfl rfl rfl ?_; intro K hK; go_big_quiet_op; go_big_quiet_on)
  (refine wpG_op rfl rfl rfl ?_; intro K hK; go_big_quiet_op; go_big_quiet_on)
  (refine wpG_op rfl rfl rfl ?_; intro K hK; go_big_quiet_op; go_big_quiet_on)
  clear hone
  refine wpG_nil ?_
  refine anyG_done (by kernel_rfl) ?_
  rintro u12 ⟨hl2, E2'⟩
  have EX11 := Lib.hid E2'
  clear hl2 E2' EX9
  go_upto_region 7 with (fail)
  refine wp_region_Gx (w0 := w) [0, 1, 2, 3, 4, 5, 6, 7, 8, 9, 10, 11, 12, 13, 14, 15, 16, 17] [] [(g8, (wo (y))), (g3, (wo (x))), (w.heap.size, (wo (t)))] rfl EX11.out ?_
  have hone := @EnvC.one _ _ _ (EX11.out)
  (refine wpG_op rfl rfl rfl ?_; intro K hK; go_big_quiet_op; go_big_quiet_on)
  (refine wpG_op rfl rfl rfl ?_; intro K hK; go_big_quiet_op; go_big_quiet_on)
  (refine wpG_op rfl rfl rfl ?_; intro K hK; go_big_quiet_op; go_big_quiet_on)
  (refine wpG_skip rfl rfl ?_ EX11.out; intro K hK; go_big_quiet_op; go_big_quiet_on)
  (refine wpG_skip rfl rfl ?_ EX11.out; intro K hK; go_big_quiet_op; go_big_quiet_on)
  (refine wpG_skip rfl rfl ?_ EX11.out; intro K hK; go_big_quiet_op; go_big_quiet_on)
  (refine wpG_skip rfl rfl ?_ EX11.out; intro K hK; go_big_quiet_op; go_big_quiet_on)
  (refine wpG_op rfl rfl rfl ?_; intro K hK; go_big_quiet_op; go_big_quiet_on)
  (refine wpG_op rfl rfl rfl ?_; intro K hK; go_big_quiet_op; go_big_quiet_on)
  (refine wpG_skip rfl rfl ?_ EX11.out; intro K hK; go_big_quiet_op; go_big_quiet_on)
  (refine wpG_skip rfl rfl ?_ EX11.out; intro K hK; go_big_quiet_op; go_big_quiet_on)
  (refine wpG_skip rfl rfl ?_ EX11.out; intro K hK; go_big_quiet_op; go_big_quiet_on)
  (refine wpG_skip rfl rfl ?_ EX11.out; intro K hK; go_big_quiet_op; go_big_quiet_on)
  (refine wpG_skip rfl rfl ?_ EX11.out; intro K hK; go_big_quiet_op; go_big_quiet_on)
  (refine wpG_skip rfl rfl ?_ EX11.out; intro K hK; go_big_quiet_op; go_big_quiet_on)
  (refine wpG_skip rfl rfl ?_ EX11.out; intro K hK; go_big_quiet_op; go_big_quiet_on)
  (refine wpG_op rfl rfl rfl ?_; intro K hK; go_big_quiet_op; go_big_quiet_on)
  (refine wpG_op rfl rfl rfl ?_; intro K hK; go_big_quiet_op; go_big_quiet_on)
  clear hone
  refine wpG_nil ?_
  rintro u14 ⟨hl2, E2'⟩
  have EX13 := Lib.hid E2'
  clear hl2 E2' EX11
  go_wp2_with fail
  go_ret
  exact ⟨rfl, EX13.out.bel⟩
set_option maxRecDepth 100000 in
set_option maxHeartbeats 8000000 in
theorem back_ttg (bits t x y : Nat) (hbits : Hid (bits < 4294967296)) (ht : Hid (t < Big)) (hxB : Hid (x < Big)) (hyB : Hid (y < Big)) (hBB : Hid (32768 < Big)) (hx : Hid (tv bits = x)) (his : Hid (isC bits = true)) (c : Nat) (hcb : Hid (c < 4294967296)) (hc : Hid (cN t = c)) (hy : Hid (tv c = y)) (hhas : Hid (isC c = true)) (c1 : Int) (h1 : Hid (cmpI t 32768 = c1)) (n1 : 0 ≤ c1) (hcx : Hid (cN x = bits)) (c3 : Int) (h3 : Hid (cmpI x t = c3)) (n3 : 0 < c3) (c2 : Int) (h2 : Hid (cmpI y t = c2)) (n2 : ¬ 0 < c2) (w : World) :
    Calls Try.prog 4 #[.int .u32 (bits : Int), .agg (wcs (t))] w fun e w' => e = .returned (.bool true) ∧ Below w.heap.size w w' := by
  have E1 : Hid (EnvX w (w.alloc (.cells (wcs (t)) 25)) [(w.heap.size, (wo (t)))]) := by
    have h := ((EnvX.start w).new (wo (t)))
    try simp only [World.size_alloc] at h
    exact h
  go_enter Try.func4, Try.ntmps4
  go_upto_region 1 with (fail)
  generalize (w.alloc (.cells (wcs (t)) 25)) = w1 at *
  refine wp_region_Gx (w0 := w) [0, 1] [] [(w.heap.size, (wo (t)))] rfl E1.out ?_
  have hone := @EnvC.one _ _ _ (E1.out)
  (refine wpG_call (f := 9) (args := #[]) (v := .bool true) rfl rfl rfl Try.func9 rfl rfl (fun u _ => awake_any u) ?_ (E1.out); intro K hK; go_big_quiet_op; go_big_quiet_on)
  (refine wpG_op rfl rfl rfl ?_; intro K hK; go_big_quiet_op; go_big_quiet_on)
  clear hone
  refine wpG_nil ?_
  rintro u2 ⟨hl2, E2'⟩
  have EX1 := Lib.hid E2'
  clear hl2 E2' E1
  go_upto_region 2 with (fail)
  refine wp_region_Gx (w0 := w) [0, 1, 2, 3, 4] [5, 6, 7] [(w.heap.size, (wo (t)))] rfl EX1.out ?_
  have hone := @EnvC.one _ _ _ (EX1.out)
  (refine wpG_op rfl rfl rfl ?_; intro K hK; go_big_quiet_op; go_big_quiet_on)
  (refine wpG_call (f := 10) (args := #[.int .u32 (bits : Int)]) (v := .tuple #[.agg (wcs (x)), .bool true]) rfl rfl rfl Try.func10 rfl rfl (fun u _ => (by rw [← hx.out, ← his.out]; exact target_any bits u hbits.out)) ?_ (EX1.out); intro K hK; go_big_quiet_op; go_big_quiet_on)
  (refine wpG_op rfl rfl rfl ?_; intro K hK; go_big_quiet_op; go_big_quiet_on)
  (refine wpG_op rfl rfl rfl ?_; intro K hK; go_big_quiet_op; go_big_quiet_on)
  (refine wpG_op rfl rfl rfl ?_; intro K hK; go_big_quiet_op; go_big_quiet_on)
  clear hone
  refine wpG_nil ?_
  (refine (gOp_new (wo (0)) rfl (new_wide _) ?_); intro g3 hbg3 hfg3; intro K' hK'; go_big_quiet_op; go_big_quiet_on)
  have ng3x0 : Hid (w.heap.size ≠ g3) := hfg3 (w.heap.size, _) (List.Mem.head _)
  clear hfg3
  refine (gOp_store rfl (g3) (wcs (x)) rfl rfl hbg3 25 (wcs (0)) (List.Mem.head _) (wc_info _) ((wc_size _).trans (wc_size _).symm) (wc_one _) [(g3, (wo (x))), (w.heap.size, (wo (t)))] (List.forall_mem_cons.2 ⟨.inl rfl, (List.forall_mem_cons.2 ⟨.inr ⟨(List.Mem.tail _ (List.Mem.head _)), ng3x0.out⟩, (fun _ h => by cases h)⟩)⟩) ?_)
  (refine (gOp_pure rfl rfl ?_); intro K' hK'; go_big_quiet_op; go_big_quiet_on)
  rintro u5 ⟨hl2, E2'⟩
  have EX4 := Lib.hid E2'
  clear hl2 E2' EX1
  go_upto_region 3 with (fail)
  refine wp_region_Gx (w0 := w) [0, 1, 2] [] [(g3, (wo (x))), (w.heap.size, (wo (t)))] rfl EX4.out ?_
  have hone := @EnvC.one _ _ _ (EX4.out)
  (refine wpG_load rfl rfl (w.heap.size) rfl 25 _ _ (fun u hu => EnvC.box hu _ (wo (t)) (List.Mem.tail _ (List.Mem.head _))) Try.underlying25 rfl (wc_info _) ?_ (EX4.out); intro K hK; go_big_quiet_op; go_big_quiet_on)
  (refine wpG_call (f := 12) (args := #[.agg (wcs (t))]) (v := .int .u32 (c : Int)) rfl rfl rfl Try.func12 rfl rfl (fun u _ => (by have h := compact_any t u ht.out; rw [hc.out] at h; exact h)) ?_ (EX4.out); intro K hK; go_big_quiet_op; go_big_quiet_on)
  (refine wpG_op rfl rfl rfl ?_; intro K hK; go_big_quiet_op; go_big_quiet_on)
  clear hone
  refine wpG_nil ?_
  rintro u7 ⟨hl2, E2'⟩
  have EX6 := Lib.hid E2'
  clear hl2 E2' EX4
  go_upto_region 4 with (fail)
  refine wp_region_Gx (w0 := w) [0, 1, 2, 3, 4] [5, 6, 7] [(g3, (wo (x))), (w.heap.size, (wo (t)))] rfl EX6.out ?_
  have hone := @EnvC.one _ _ _ (EX6.out)
  (refine wpG_op rfl rfl rfl ?_; intro K hK; go_big_quiet_op; go_big_quiet_on)
  (refine wpG_call (f := 10) (args := #[.int .u32 (c : Int)]) (v := .tuple #[.agg (wcs (y)), .bool true]) rfl rfl rfl Try.func10 rfl rfl (fun u _ => (by have h := target_any c u hcb.out; rw [hy.out, hhas.out] at h; exact h)) ?_ (EX6.out); intro K hK; go_big_quiet_op; go_big_quiet_on)
  (refine wpG_op rfl rfl rfl ?_; intro K hK; go_big_quiet_op; go_big_quiet_on)
  (refine wpG_op rfl rfl rfl ?_; intro K hK; go_big_quiet_op; go_big_quiet_on)
  (refine wpG_op rfl rfl rfl ?_; intro K hK; go_big_quiet_op; go_big_quiet_on)
  clear hone
  refine wpG_nil ?_
  (refine (gOp_new (wo (0)) rfl (new_wide _) ?_); intro g8 hbg8 hfg8; intro K' hK'; go_big_quiet_op; go_big_quiet_on)
  have ng8x0 : Hid (g3 ≠ g8) := hfg8 (g3, _) (List.Mem.head _)
  have ng8x1 : Hid (w.heap.size ≠ g8) := hfg8 (w.heap.size, _) (List.Mem.tail _ (List.Mem.head _))
  clear hfg8
  refine (gOp_store rfl (g8) (wcs (y)) rfl rfl hbg8 25 (wcs (0)) (List.Mem.head _) (wc_info _) ((wc_size _).trans (wc_size _).symm) (wc_one _) [(g8, (wo (y))), (g3, (wo (x))), (w.heap.size, (wo (t)))] (List.forall_mem_cons.2 ⟨.inl rfl, (List.forall_mem_cons.2 ⟨.inr ⟨(List.Mem.tail _ (List.Mem.head _)), ng8x0.out⟩, (List.forall_mem_cons.2 ⟨.inr ⟨(List.Mem.tail _ (List.Mem.tail _ (List.Mem.head _))), ng8x1.out⟩, (fun _ h => by cases h)⟩)⟩)⟩) ?_)
  (refine (gOp_pure rfl rfl ?_); intro K' hK'; go_big_quiet_op; go_big_quiet_on)
  rintro u10 ⟨hl2, E2'⟩
  have EX9 := Lib.hid E2'
  clear hl2 E2' EX6
  go_upto_region 5 with (fail)
  refine wp_region_G (w0 := w) [0, 1, 2, 3, 4, 5, 6, 7, 8, 9, 10, 11, 12, 13, 14, 15, 16, 17, 18, 19, 20, 21, 22, 23, 24, 25, 26, 27, 28, 29, 30, 31, 32, 33, 34, 35] [(g8, (wo (y))), (g3, (wo (x))), (w.heap.size, (wo (t)))] 0 (by kernel_rfl) (by kernel_rfl) rfl EX9.out ?_
  have hone := @EnvC.one _ _ _ (EX9.out.drew)
  (refine wpG_op rfl rfl rfl ?_; intro K hK; go_big_quiet_op; go_big_quiet_on)
  (refine wpG_op rfl rfl rfl ?_; intro K hK; go_big_quiet_op; go_big_quiet_on)
  (refine wpG_op rfl rfl rfl ?_; intro K hK; go_big_quiet_op; go_big_quiet_on)
  (refine wpG_op rfl rfl rfl ?_; intro K hK; go_big_quiet_op; go_big_quiet_on)
  (refine wpG_op rfl rfl rfl ?_; intro K hK; go_big_quiet_op; go_big_quiet_on)
  (refine wpG_load rfl rfl (g3) rfl 25 _ _ (fun u hu => EnvC.box hu _ (wo (x)) (List.Mem.tail _ (List.Mem.head _))) Try.underlying25 rfl (wc_info _) ?_ (EX9.out.drew); intro K hK; go_big_quiet_op; go_big_quiet_on)
  (refine wpG_call (f := 12) (args := #[.agg (wcs (x))]) (v := .int .u32 (bits : Int)) rfl rfl rfl Try.func12 rfl rfl (fun u _ => (by have h := compact_any x u hxB.out; rw [hcx.out] at h; exact h)) ?_ (EX9.out.drew); intro K hK; go_big_quiet_op; go_big_quiet_on)
  (refine wpG_op rfl rfl rfl ?_; intro K hK; go_big_quiet_op; go_big_quiet_on)
  (refine wpG_op rfl rfl rfl ?_; intro K hK; go_big_quiet_op; go_big_quiet_on)
  (refine wpG_op rfl rfl rfl ?_; intro K hK; go_big_quiet_op; go_big_quiet_on)
  (refine wpG_op rfl rfl rfl ?_; intro K hK; go_big_quiet_op; go_big_quiet_on)
  (refine wpG_op rfl rfl rfl ?_; intro K hK; go_big_quiet_op; go_big_quiet_on)
  (refine wpG_op rfl rfl rfl ?_; intro K hK; go_big_quiet_op; go_big_quiet_on)
  (refine wpG_load rfl rfl (w.heap.size) rfl 25 _ _ (fun u hu => EnvC.box hu _ (wo (t)) (List.Mem.tail _ (List.Mem.tail _ (List.Mem.head _)))) Try.underlying25 rfl (wc_info _) ?_ (EX9.out.drew); intro K hK; go_big_quiet_op; go_big_quiet_on)
  (refine wpG_call (f := 19) (args := #[.int .u64 (32768 : Nat)]) (v := .agg (wcs (32768))) rfl rfl rfl Try.func19 rfl rfl (fun u _ => of_n 32768 u (by decide)) ?_ (EX9.out.drew); intro K hK; go_big_quiet_op; go_big_quiet_on)
  (refine wpG_call (f := 18) (args := #[.agg (wcs (t)), .agg (wcs (32768))]) (v := .int .i64 c1) rfl rfl rfl Try.func18 rfl rfl (fun u _ => (by rw [← h1.out]; exact cmp_any (t) (32768) u ht.out hBB.out)) ?_ (EX9.out.drew); intro K hK; go_big_quiet_op; go_big_quiet_on)
  (refine wpG_op rfl rfl rfl ?_; intro K hK; go_big_quiet_op; go_big_quiet_on)
  (refine wpG_op rfl rfl rfl ?_; intro K hK; go_big_quiet_op; go_big_quiet_on)
  (refine wpG_op rfl rfl rfl ?_; intro K hK; go_big_quiet_op; go_big_quiet_on)
  (refine wpG_op rfl rfl rfl ?_; intro K hK; go_big_quiet_op; go_big_quiet_on)
  (refine wpG_op rfl rfl rfl ?_; intro K hK; go_big_quiet_op; go_big_quiet_on)
  (refine wpG_op rfl rfl rfl ?_; intro K hK; go_big_quiet_op; go_big_quiet_on)
  (refine wpG_load rfl rfl (g8) rfl 25 _ _ (fun u hu => EnvC.box hu _ (wo (y)) (List.Mem.head _)) Try.underlying25 rfl (wc_info _) ?_ (EX9.out.drew); intro K hK; go_big_quiet_op; go_big_quiet_on)
  (refine wpG_load rfl rfl (w.heap.size) rfl 25 _ _ (fun u hu => EnvC.box hu _ (wo (t)) (List.Mem.tail _ (List.Mem.tail _ (List.Mem.head _)))) Try.underlying25 rfl (wc_info _) ?_ (EX9.out.drew); intro K hK; go_big_quiet_op; go_big_quiet_on)
  (refine wpG_call (f := 18) (args := #[.agg (wcs (y)), .agg (wcs (t))]) (v := .int .i64 c2) rfl rfl rfl Try.func18 rfl rfl (fun u _ => (by rw [← h2.out]; exact cmp_any (y) (t) u hyB.out ht.out)) ?_ (EX9.out.drew); intro K hK; go_big_quiet_op; go_big_quiet_on)
  (refine wpG_op rfl rfl rfl ?_; intro K hK; go_big_quiet_op; go_big_quiet_on)
  (refine wpG_op rfl rfl rfl ?_; intro K hK; go_big_quiet_op; go_big_quiet_on)
  (refine wpG_op rfl rfl rfl ?_; intro K hK; go_big_quiet_op; go_big_quiet_on)
  (refine wpG_op rfl rfl rfl ?_; intro K hK; go_big_quiet_op; go_big_quiet_on)
  (refine wpG_op rfl rfl rfl ?_; intro K hK; go_big_quiet_op; go_big_quiet_on)
  (refine wpG_op rfl rfl rfl ?_; intro K hK; go_big_quiet_op; go_big_quiet_on)
  (refine wpG_op rfl rfl rfl ?_; intro K hK; go_big_quiet_op; go_big_quiet_on)
  (refine wpG_skip rfl rfl ?_ EX9.out.drew; intro K hK; go_big_quiet_op; go_big_quiet_on)
  (refine wpG_skip rfl rfl ?_ EX9.out.drew; intro K hK; go_big_quiet_op; go_big_quiet_on)
  (refine wpG_op rfl rfl rfl ?_; intro K hK; go_big_quiet_op; go_big_quiet_on)
  (refine wpG_op rfl rfl rfl ?_; intro K hK; go_big_quiet_op; go_big_quiet_on)
  clear hone
  refine wpG_nil ?_
  refine anyG_done (by kernel_rfl) ?_
  rintro u12 ⟨hl2, E2'⟩
  have EX11 := Lib.hid E2'
  clear hl2 E2' EX9
  go_upto_region 7 with (fail)
  refine wp_region_Gx (w0 := w) [0, 1, 2, 3, 4, 5, 6, 7, 8, 9, 10, 11, 12, 13, 14, 15, 16, 17] [] [(g8, (wo (y))), (g3, (wo (x))), (w.heap.size, (wo (t)))] rfl EX11.out ?_
  have hone := @EnvC.one _ _ _ (EX11.out)
  (refine wpG_op rfl rfl rfl ?_; intro K hK; go_big_quiet_op; go_big_quiet_on)
  (refine wpG_op rfl rfl rfl ?_; intro K hK; go_big_quiet_op; go_big_quiet_on)
  (refine wpG_op rfl rfl rfl ?_; intro K hK; go_big_quiet_op; go_big_quiet_on)
  (refine wpG_load rfl rfl (g3) rfl 25 _ _ (fun u hu => EnvC.box hu _ (wo (x)) (List.Mem.tail _ (List.Mem.head _))) Try.underlying25 rfl (wc_info _) ?_ (EX11.out); intro K hK; go_big_quiet_op; go_big_quiet_on)
  (refine wpG_load rfl rfl (w.heap.size) rfl 25 _ _ (fun u hu => EnvC.box hu _ (wo (t)) (List.Mem.tail _ (List.Mem.tail _ (List.Mem.head _)))) Try.underlying25 rfl (wc_info _) ?_ (EX11.out); intro K hK; go_big_quiet_op; go_big_quiet_on)
  (refine wpG_call (f := 18) (args := #[.agg (wcs (x)), .agg (wcs (t))]) (v := .int .i64 c3) rfl rfl rfl Try.func18 rfl rfl (fun u _ => (by rw [← h3.out]; exact cmp_any (x) (t) u hxB.out ht.out)) ?_ (EX11.out); intro K hK; go_big_quiet_op; go_big_quiet_on)
  (refine wpG_op rfl rfl rfl ?_; intro K hK; go_big_quiet_op; go_big_quiet_on)
  (refine wpG_op rfl rfl rfl ?_; intro K hK; go_big_quiet_op; go_big_quiet_on)
  (refine wpG_op rfl rfl rfl ?_; intro K hK; go_big_quiet_op; go_big_quiet_on)
  (refine wpG_skip rfl rfl ?_ EX11.out; intro K hK; go_big_quiet_op; go_big_quiet_on)
  (refine wpG_skip rfl rfl ?_ EX11.out; intro K hK; go_big_quiet_op; go_big_quiet_on)
  (refine wpG_skip rfl rfl ?_ EX11.out; intro K hK; go_big_quiet_op; go_big_quiet_on)
  (refine wpG_skip rfl rfl ?_ EX11.out; intro K hK; go_big_quiet_op; go_big_quiet_on)
  (refine wpG_skip rfl rfl ?_ EX11.out; intro K hK; go_big_quiet_op; go_big_quiet_on)
  (refine wpG_skip rfl rfl ?_ EX11.out; intro K hK; go_big_quiet_op; go_big_quiet_on)
  (refine wpG_skip rfl rfl ?_ EX11.out; intro K hK; go_big_quiet_op; go_big_quiet_on)
  (refine wpG_op rfl rfl rfl ?_; intro K hK; go_big_quiet_op; go_big_quiet_on)
  (refine wpG_op rfl rfl rfl ?_; intro K hK; go_big_quiet_op; go_big_quiet_on)
  clear hone
  refine wpG_nil ?_
  rintro u14 ⟨hl2, E2'⟩
  have EX13 := Lib.hid E2'
  clear hl2 E2' EX11
  go_wp2_with fail
  go_ret
  exact ⟨rfl, EX13.out.bel⟩
set_option maxRecDepth 100000 in
set_option maxHeartbeats 8000000 in
theorem back_tfg (bits t x y : Nat) (hbits : Hid (bits < 4294967296)) (ht : Hid (t < Big)) (hxB : Hid (x < Big)) (hyB : Hid (y < Big)) (hBB : Hid (32768 < Big)) (hx : Hid (tv bits = x)) (his : Hid (isC bits = true)) (hc : Hid (cN t = 0)) (hy : Hid (tv 0 = y)) (hhas : Hid (isC 0 = false)) (c1 : Int) (h1 : Hid (cmpI t 32768 = c1)) (n1 : ¬ 0 ≤ c1) (hcx : Hid (cN x = bits)) (c3 : Int) (h3 : Hid (cmpI x t = c3)) (n3 : 0 < c3) (w : World) :
    Calls Try.prog 4 #[.int .u32 (bits : Int), .agg (wcs (t))] w fun e w' => e = .returned (.bool true) ∧ Below w.heap.size w w' := by
  have E1 : Hid (EnvX w (w.alloc (.cells (wcs (t)) 25)) [(w.heap.size, (wo (t)))]) := by
    have h := ((EnvX.start w).new (wo (t)))
    try simp only [World.size_alloc] at h
    exact h
  go_enter Try.func4, Try.ntmps4
  go_upto_region 1 with (fail)
  generalize (w.alloc (.cells (wcs (t)) 25)) = w1 at *
  refine wp_region_Gx (w0 := w) [0, 1] [] [(w.heap.size, (wo (t)))] rfl E1.out ?_
  have hone := @EnvC.one _ _ _ (E1.out)
  (refine wpG_call (f := 9) (args := #[]) (v := .bool true) rfl rfl rfl Try.func9 rfl rfl (fun u _ => awake_any u) ?_ (E1.out); intro K hK; go_big_quiet_op; go_big_quiet_on)
  (refine wpG_op rfl rfl rfl ?_; intro K hK; go_big_quiet_op; go_big_quiet_on)
  clear hone
  refine wpG_nil ?_
  rintro u2 ⟨hl2, E2'⟩
  have EX1 := Lib.hid E2'
  clear hl2 E2' E1
  go_upto_region 2 with (fail)
  refine wp_region_Gx (w0 := w) [0, 1, 2, 3, 4] [5, 6, 7] [(w.heap.size, (wo (t)))] rfl EX1.out ?_
  have hone := @EnvC.one _ _ _ (EX1.out)
  (refine wpG_op rfl rfl rfl ?_; intro K hK; go_big_quiet_op; go_big_quiet_on)
  (refine wpG_call (f := 10) (args := #[.int .u32 (bits : Int)]) (v := .tuple #[.agg (wcs (x)), .bool true]) rfl rfl rfl Try.func10 rfl rfl (fun u _ => (by rw [← hx.out, ← his.out]; exact target_any bits u hbits.out)) ?_ (EX1.out); intro K hK; go_big_quiet_op; go_big_quiet_on)
  (refine wpG_op rfl rfl rfl ?_; intro K hK; go_big_quiet_op; go_big_quiet_on)
  (refine wpG_op rfl rfl rfl ?_; intro K hK; go_big_quiet_op; go_big_quiet_on)
  (refine wpG_op rfl rfl rfl ?_; intro K hK; go_big_quiet_op; go_big_quiet_on)
  clear hone
  refine wpG_nil ?_
  (refine (gOp_new (wo (0)) rfl (new_wide _) ?_); intro g3 hbg3 hfg3; intro K' hK'; go_big_quiet_op; go_big_quiet_on)
  have ng3x0 : Hid (w.heap.size ≠ g3) := hfg3 (w.heap.size, _) (List.Mem.head _)
  clear hfg3
  refine (gOp_store rfl (g3) (wcs (x)) rfl rfl hbg3 25 (wcs (0)) (List.Mem.head _) (wc_info _) ((wc_size _).trans (wc_size _).symm) (wc_one _) [(g3, (wo (x))), (w.heap.size, (wo (t)))] (List.forall_mem_cons.2 ⟨.inl rfl, (List.forall_mem_cons.2 ⟨.inr ⟨(List.Mem.tail _ (List.Mem.head _)), ng3x0.out⟩, (fun _ h => by cases h)⟩)⟩) ?_)
  (refine (gOp_pure rfl rfl ?_); intro K' hK'; go_big_quiet_op; go_big_quiet_on)
  rintro u5 ⟨hl2, E2'⟩
  have EX4 := Lib.hid E2'
  clear hl2 E2' EX1
  go_upto_region 3 with (fail)
  refine wp_region_Gx (w0 := w) [0, 1, 2] [] [(g3, (wo (x))), (w.heap.size, (wo (t)))] rfl EX4.out ?_
  have hone := @EnvC.one _ _ _ (EX4.out)
  (refine wpG_load rfl rfl (w.heap.size) rfl 25 _ _ (fun u hu => EnvC.box hu _ (wo (t)) (List.Mem.tail _ (List.Mem.head _))) Try.underlying25 rfl (wc_info _) ?_ (EX4.out); intro K hK; go_big_quiet_op; go_big_quiet_on)
  (refine wpG_call (f := 12) (args := #[.agg (wcs (t))]) (v := .int .u32 0) rfl rfl rfl Try.func12 rfl rfl (fun u _ => (by have h := compact_any t u ht.out; rw [hc.out] at h; exact h)) ?_ (EX4.out); intro K hK; go_big_quiet_op; go_big_quiet_on)
  (refine wpG_op rfl rfl rfl ?_; intro K hK; go_big_quiet_op; go_big_quiet_on)
  clear hone
  refine wpG_nil ?_
  rintro u7 ⟨hl2, E2'⟩
  have EX6 := Lib.hid E2'
  clear hl2 E2' EX4
  go_upto_region 4 with (fail)
  refine wp_region_Gx (w0 := w) [0, 1, 2, 3, 4] [5, 6, 7] [(g3, (wo (x))), (w.heap.size, (wo (t)))] rfl EX6.out ?_
  have hone := @EnvC.one _ _ _ (EX6.out)
  (refine wpG_op rfl rfl rfl ?_; intro K hK; go_big_quiet_op; go_big_quiet_on)
  (refine wpG_call (f := 10) (args := #[.int .u32 0]) (v := .tuple #[.agg (wcs (y)), .bool false]) rfl rfl rfl Try.func10 rfl rfl (fun u _ => (by have h := target_any 0 u (by decide); rw [hy.out, hhas.out] at h; exact h)) ?_ (EX6.out); intro K hK; go_big_quiet_op; go_big_quiet_on)
  (refine wpG_op rfl rfl rfl ?_; intro K hK; go_big_quiet_op; go_big_quiet_on)
  (refine wpG_op rfl rfl rfl ?_; intro K hK; go_big_quiet_op; go_big_quiet_on)
  (refine wpG_op rfl rfl rfl ?_; intro K hK; go_big_quiet_op; go_big_quiet_on)
  clear hone
  refine wpG_nil ?_
  (refine (gOp_new (wo (0)) rfl (new_wide _) ?_); intro g8 hbg8 hfg8; intro K' hK'; go_big_quiet_op; go_big_quiet_on)
  have ng8x0 : Hid (g3 ≠ g8) := hfg8 (g3, _) (List.Mem.head _)
  have ng8x1 : Hid (w.heap.size ≠ g8) := hfg8 (w.heap.size, _) (List.Mem.tail _ (List.Mem.head _))
  clear hfg8
  refine (gOp_store rfl (g8) (wcs (y)) rfl rfl hbg8 25 (wcs (0)) (List.Mem.head _) (wc_info _) ((wc_size _).trans (wc_size _).symm) (wc_one _) [(g8, (wo (y))), (g3, (wo (x))), (w.heap.size, (wo (t)))] (List.forall_mem_cons.2 ⟨.inl rfl, (List.forall_mem_cons.2 ⟨.inr ⟨(List.Mem.tail _ (List.Mem.head _)), ng8x0.out⟩, (List.forall_mem_cons.2 ⟨.inr ⟨(List.Mem.tail _ (List.Mem.tail _ (List.Mem.head _))), ng8x1.out⟩, (fun _ h => by cases h)⟩)⟩)⟩) ?_)
  (refine (gOp_pure rfl rfl ?_); intro K' hK'; go_big_quiet_op; go_big_quiet_on)
  rintro u10 ⟨hl2, E2'⟩
  have EX9 := Lib.hid E2'
  clear hl2 E2' EX6
  go_upto_region 5 with (fail)
  refine wp_region_G (w0 := w) [0, 1, 2, 3, 4, 5, 6, 7, 8, 9, 10, 11, 12, 13, 14, 15, 16, 17, 18, 19, 20, 21, 22, 23, 24, 25, 26, 27, 28, 29, 30, 31, 32, 33, 34, 35] [(g8, (wo (y))), (g3, (wo (x))), (w.heap.size, (wo (t)))] 0 (by kernel_rfl) (by kernel_rfl) rfl EX9.out ?_
  have hone := @EnvC.one _ _ _ (EX9.out.drew)
  (refine wpG_op rfl rfl rfl ?_; intro K hK; go_big_quiet_op; go_big_quiet_on)
  (refine wpG_op rfl rfl rfl ?_; intro K hK; go_big_quiet_op; go_big_quiet_on)
  (refine wpG_op rfl rfl rfl ?_; intro K hK; go_big_quiet_op; go_big_quiet_on)
  (refine wpG_op rfl rfl rfl ?_; intro K hK; go_big_quiet_op; go_big_quiet_on)
  (refine wpG_op rfl rfl rfl ?_; intro K hK; go_big_quiet_op; go_big_quiet_on)
  (refine wpG_load rfl rfl (g3) rfl 25 _ _ (fun u hu => EnvC.box hu _ (wo (x)) (List.Mem.tail _ (List.Mem.head _))) Try.underlying25 rfl (wc_info _) ?_ (EX9.out.drew); intro K hK; go_big_quiet_op; go_big_quiet_on)
  (refine wpG_call (f := 12) (args := #[.agg (wcs (x))]) (v := .int .u32 (bits : Int)) rfl rfl rfl Try.func12 rfl rfl (fun u _ => (by have h := compact_any x u hxB.out; rw [hcx.out] at h; exact h)) ?_ (EX9.out.drew); intro K hK; go_big_quiet_op; go_big_quiet_on)
  (refine wpG_op rfl rfl rfl ?_; intro K hK; go_big_quiet_op; go_big_quiet_on)
  (refine wpG_op rfl rfl rfl ?_; intro K hK; go_big_quiet_op; go_big_quiet_on)
  (refine wpG_op rfl rfl rfl ?_; intro K hK; go_big_quiet_op; go_big_quiet_on)
  (refine wpG_op rfl rfl rfl ?_; intro K hK; go_big_quiet_op; go_big_quiet_on)
  (refine wpG_op rfl rfl rfl ?_; intro K hK; go_big_quiet_op; go_big_quiet_on)
  (refine wpG_op rfl rfl rfl ?_; intro K hK; go_big_quiet_op; go_big_quiet_on)
  (refine wpG_load rfl rfl (w.heap.size) rfl 25 _ _ (fun u hu => EnvC.box hu _ (wo (t)) (List.Mem.tail _ (List.Mem.tail _ (List.Mem.head _)))) Try.underlying25 rfl (wc_info _) ?_ (EX9.out.drew); intro K hK; go_big_quiet_op; go_big_quiet_on)
  (refine wpG_call (f := 19) (args := #[.int .u64 (32768 : Nat)]) (v := .agg (wcs (32768))) rfl rfl rfl Try.func19 rfl rfl (fun u _ => of_n 32768 u (by decide)) ?_ (EX9.out.drew); intro K hK; go_big_quiet_op; go_big_quiet_on)
  (refine wpG_call (f := 18) (args := #[.agg (wcs (t)), .agg (wcs (32768))]) (v := .int .i64 c1) rfl rfl rfl Try.func18 rfl rfl (fun u _ => (by rw [← h1.out]; exact cmp_any (t) (32768) u ht.out hBB.out)) ?_ (EX9.out.drew); intro K hK; go_big_quiet_op; go_big_quiet_on)
  (refine wpG_op rfl rfl rfl ?_; intro K hK; go_big_quiet_op; go_big_quiet_on)
  (refine wpG_op rfl rfl rfl ?_; intro K hK; go_big_quiet_op; go_big_quiet_on)
  (refine wpG_op rfl rfl rfl ?_; intro K hK; go_big_quiet_op; go_big_quiet_on)
  (refine wpG_op rfl rfl rfl ?_; intro K hK; go_big_quiet_op; go_big_quiet_on)
  (refine wpG_op rfl rfl rfl ?_; intro K hK; go_big_quiet_op; go_big_quiet_on)
  (refine wpG_op rfl rfl rfl ?_; intro K hK; go_big_quiet_op; go_big_quiet_on)
  (refine wpG_skip rfl rfl ?_ EX9.out.drew; intro K hK; go_big_quiet_op; go_big_quiet_on)
  (refine wpG_skip rfl rfl ?_ EX9.out.drew; intro K hK; go_big_quiet_op; go_big_quiet_on)
  (refine wpG_skip rfl rfl ?_ EX9.out.drew; intro K hK; go_big_quiet_op; go_big_quiet_on)
  (refine wpG_skip rfl rfl ?_ EX9.out.drew; intro K hK; go_big_quiet_op; go_big_quiet_on)
  (refine wpG_op rfl rfl rfl ?_; intro K hK; go_big_quiet_op; go_big_quiet_on)
  (refine wpG_op rfl rfl rfl ?_; intro K hK; go_big_quiet_op; go_big_quiet_on)
  (refine wpG_op rfl rfl rfl ?_; intro K hK; go_big_quiet_op; go_big_quiet_on)
  (refine wpG_op rfl rfl rfl ?_; intro K hK; go_big_quiet_op; go_big_quiet_on)
  (refine wpG_op rfl rfl rfl ?_; intro K hK; go_big_quiet_op; go_big_quiet_on)
  (refine wpG_op rfl rfl rfl ?_; intro K hK; go_big_quiet_op; go_big_quiet_on)
  (refine wpG_op rfl rfl rfl ?_; intro K hK; go_big_quiet_op; go_big_quiet_on)
  (refine wpG_op rfl rfl rfl ?_; intro K hK; go_big_quiet_op; go_big_quiet_on)
  (refine wpG_op rfl rfl rfl ?_; intro K hK; go_big_quiet_op; go_big_quiet_on)
  (refine wpG_op rfl rfl rfl ?_; intro K hK; go_big_quiet_op; go_big_quiet_on)
  clear hone
  refine wpG_nil ?_
  refine anyG_done (by kernel_rfl) ?_
  rintro u12 ⟨hl2, E2'⟩
  have EX11 := Lib.hid E2'
  clear hl2 E2' EX9
  go_upto_region 7 with (fail)
  refine wp_region_Gx (w0 := w) [0, 1, 2, 3, 4, 5, 6, 7, 8, 9, 10, 11, 12, 13, 14, 15, 16, 17] [] [(g8, (wo (y))), (g3, (wo (x))), (w.heap.size, (wo (t)))] rfl EX11.out ?_
  have hone := @EnvC.one _ _ _ (EX11.out)
  (refine wpG_op rfl rfl rfl ?_; intro K hK; go_big_quiet_op; go_big_quiet_on)
  (refine wpG_op rfl rfl rfl ?_; intro K hK; go_big_quiet_op; go_big_quiet_on)
  (refine wpG_op rfl rfl rfl ?_; intro K hK; go_big_quiet_op; go_big_quiet_on)
  (refine wpG_load rfl rfl (g3) rfl 25 _ _ (fun u hu => EnvC.box hu _ (wo (x)) (List.Mem.tail _ (List.Mem.head _))) Try.underlying25 rfl (wc_info _) ?_ (EX11.out); intro K hK; go_big_quiet_op; go_big_quiet_on)
  (refine wpG_load rfl rfl (w.heap.size) rfl 25 _ _ (fun u hu => EnvC.box hu _ (wo (t)) (List.Mem.tail _ (List.Mem.tail _ (List.Mem.head _)))) Try.underlying25 rfl (wc_info _) ?_ (EX11.out); intro K hK; go_big_quiet_op; go_big_quiet_on)
  (refine wpG_call (f := 18) (args := #[.agg (wcs (x)), .agg (wcs (t))]) (v := .int .i64 c3) rfl rfl rfl Try.func18 rfl rfl (fun u _ => (by rw [← h3.out]; exact cmp_any (x) (t) u hxB.out ht.out)) ?_ (EX11.out); intro K hK; go_big_quiet_op; go_big_quiet_on)
  (refine wpG_op rfl rfl rfl ?_; intro K hK; go_big_quiet_op; go_big_quiet_on)
  (refine wpG_op rfl rfl rfl ?_; intro K hK; go_big_quiet_op; go_big_quiet_on)
  (refine wpG_op rfl rfl rfl ?_; intro K hK; go_big_quiet_op; go_big_quiet_on)
  (refine wpG_skip rfl rfl ?_ EX11.out; intro K hK; go_big_quiet_op; go_big_quiet_on)
  (refine wpG_skip rfl rfl ?_ EX11.out; intro K hK; go_big_quiet_op; go_big_quiet_on)
  (refine wpG_skip rfl rfl ?_ EX11.out; intro K hK; go_big_quiet_op; go_big_quiet_on)
  (refine wpG_skip rfl rfl ?_ EX11.out; intro K hK; go_big_quiet_op; go_big_quiet_on)
  (refine wpG_skip rfl rfl ?_ EX11.out; intro K hK; go_big_quiet_op; go_big_quiet_on)
  (refine wpG_skip rfl rfl ?_ EX11.out; intro K hK; go_big_quiet_op; go_big_quiet_on)
  (refine wpG_skip rfl rfl ?_ EX11.out; intro K hK; go_big_quiet_op; go_big_quiet_on)
  (refine wpG_op rfl rfl rfl ?_; intro K hK; go_big_quiet_op; go_big_quiet_on)
  (refine wpG_op rfl rfl rfl ?_; intro K hK; go_big_quiet_op; go_big_quiet_on)
  clear hone
  refine wpG_nil ?_
  rintro u14 ⟨hl2, E2'⟩
  have EX13 := Lib.hid E2'
  clear hl2 E2' EX11
  go_wp2_with fail
  go_ret
  exact ⟨rfl, EX13.out.bel⟩
set_option maxRecDepth 100000 in
set_option maxHeartbeats 8000000 in
theorem back_ttl (bits t x y : Nat) (hbits : Hid (bits < 4294967296)) (ht : Hid (t < Big)) (hxB : Hid (x < Big)) (hyB : Hid (y < Big)) (hBB : Hid (32768 < Big)) (hx : Hid (tv bits = x)) (his : Hid (isC bits = true)) (c : Nat) (hcb : Hid (c < 4294967296)) (hc : Hid (cN t = c)) (hy : Hid (tv c = y)) (hhas : Hid (isC c = true)) (c1 : Int) (h1 : Hid (cmpI t 32768 = c1)) (n1 : 0 ≤ c1) (hcx : Hid (cN x = bits)) (c3 : Int) (h3 : Hid (cmpI x t = c3)) (n3 : ¬ 0 < c3) (c2 : Int) (h2 : Hid (cmpI y t = c2)) (n2 : ¬ 0 < c2) (c4 : Int) (h4 : Hid (cmpI x y = c4)) (n4 : c4 ≤ 0) (w : World) :
    Calls Try.prog 4 #[.int .u32 (bits : Int), .agg (wcs (t))] w fun e w' => e = .returned (.bool true) ∧ Below w.heap.size w w' := by
  have E1 : Hid (EnvX w (w.alloc (.cells (wcs (t)) 25)) [(w.heap.size, (wo (t)))]) := by
    have h := ((EnvX.start w).new (wo (t)))
    try simp only [World.size_alloc] at h
    exact h
  go_enter Try.func4, Try.ntmps4
  go_upto_region 1 with (fail)
  generalize (w.alloc (.cells (wcs (t)) 25)) = w1 at *
  refine wp_region_Gx (w0 := w) [0, 1] [] [(w.heap.size, (wo (t)))] rfl E1.out ?_
  have hone := @EnvC.one _ _ _ (E1.out)
  (refine wpG_call (f := 9) (args := #[]) (v := .bool true) rfl rfl rfl Try.func9 rfl rfl (fun u _ => awake_any u) ?_ (E1.out); intro K hK; go_big_quiet_op; go_big_quiet_on)
  (refine wpG_op rfl rfl rfl ?_; intro K hK; go_big_quiet_op; go_big_quiet_on)
  clear hone
  refine wpG_nil ?_
  rintro u2 ⟨hl2, E2'⟩
  have EX1 := Lib.hid E2'
  clear hl2 E2' E1
  go_upto_region 2 with (fail)
  refine wp_region_Gx (w0 := w) [0, 1, 2, 3, 4] [5, 6, 7] [(w.heap.size, (wo (t)))] rfl EX1.out ?_
  have hone := @EnvC.one _ _ _ (EX1.out)
  (refine wpG_op rfl rfl rfl ?_; intro K hK; go_big_quiet_op; go_big_quiet_on)
  (refine wpG_call (f := 10) (args := #[.int .u32 (bits : Int)]) (v := .tuple #[.agg (wcs (x)), .bool true]) rfl rfl rfl Try.func10 rfl rfl (fun u _ => (by rw [← hx.out, ← his.out]; exact target_any bits u hbits.out)) ?_ (EX1.out); intro K hK; go_big_quiet_op; go_big_quiet_on)
  (refine wpG_op rfl rfl rfl ?_; intro K hK; go_big_quiet_op; go_big_quiet_on)
  (refine wpG_op rfl rfl rfl ?_; intro K hK; go_big_quiet_op; go_big_quiet_on)
  (refine wpG_op rfl rfl rfl ?_; intro K hK; go_big_quiet_op; go_big_quiet_on)
  clear hone
  refine wpG_nil ?_
  (refine (gOp_new (wo (0)) rfl (new_wide _) ?_); intro g3 hbg3 hfg3; intro K' hK'; go_big_quiet_op; go_big_quiet_on)
  have ng3x0 : Hid (w.heap.size ≠ g3) := hfg3 (w.heap.size, _) (List.Mem.head _)
  clear hfg3
  refine (gOp_store rfl (g3) (wcs (x)) rfl rfl hbg3 25 (wcs (0)) (List.Mem.head _) (wc_info _) ((wc_size _).trans (wc_size _).symm) (wc_one _) [(g3, (wo (x))), (w.heap.size, (wo (t)))] (List.forall_mem_cons.2 ⟨.inl rfl, (List.forall_mem_cons.2 ⟨.inr ⟨(List.Mem.tail _ (List.Mem.head _)), ng3x0.out⟩, (fun _ h => by cases h)⟩)⟩) ?_)
  (refine (gOp_pure rfl rfl ?_); intro K' hK'; go_big_quiet_op; go_big_quiet_on)
  rintro u5 ⟨hl2, E2'⟩
  have EX4 := Lib.hid E2'
  clear hl2 E2' EX1
  go_upto_region 3 with (fail)
  refine wp_region_Gx (w0 := w) [0, 1, 2] [] [(g3, (wo (x))), (w.heap.size, (wo (t)))] rfl EX4.out ?_
  have hone := @EnvC.one _ _ _ (EX4.out)
  (refine wpG_load rfl rfl (w.heap.size) rfl 25 _ _ (fun u hu => EnvC.box hu _ (wo (t)) (List.Mem.tail _ (List.Mem.head _))) Try.underlying25 rfl (wc_info _) ?_ (EX4.out); intro K hK; go_big_quiet_op; go_big_quiet_on)
  (refine wpG_call (f := 12) (args := #[.agg (wcs (t))]) (v := .int .u32 (c : Int)) rfl rfl rfl Try.func12 rfl rfl (fun u _ => (by have h := compact_any t u ht.out; rw [hc.out] at h; exact h)) ?_ (EX4.out); intro K hK; go_big_quiet_op; go_big_quiet_on)
  (refine wpG_op rfl rfl rfl ?_; intro K hK; go_big_quiet_op; go_big_quiet_on)
  clear hone
  refine wpG_nil ?_
  rintro u7 ⟨hl2, E2'⟩
  have EX6 := Lib.hid E2'
  clear hl2 E2' EX4
  go_upto_region 4 with (fail)
  refine wp_region_Gx (w0 := w) [0, 1, 2, 3, 4] [5, 6, 7] [(g3, (wo (x))), (w.heap.size, (wo (t)))] rfl EX6.out ?_
  have hone := @EnvC.one _ _ _ (EX6.out)
  (refine wpG_op rfl rfl rfl ?_; intro K hK; go_big_quiet_op; go_big_quiet_on)
  (refine wpG_call (f := 10) (args := #[.int .u32 (c : Int)]) (v := .tuple #[.agg (wcs (y)), .bool true]) rfl rfl rfl Try.func10 rfl rfl (fun u _ => (by have h := target_any c u hcb.out; rw [hy.out, hhas.out] at h; exact h)) ?_ (EX6.out); intro K hK; go_big_quiet_op; go_big_quiet_on)
  (refine wpG_op rfl rfl rfl ?_; intro K hK; go_big_quiet_op; go_big_quiet_on)
  (refine wpG_op rfl rfl rfl ?_; intro K hK; go_big_quiet_op; go_big_quiet_on)
  (refine wpG_op rfl rfl rfl ?_; intro K hK; go_big_quiet_op; go_big_quiet_on)
  clear hone
  refine wpG_nil ?_
  (refine (gOp_new (wo (0)) rfl (new_wide _) ?_); intro g8 hbg8 hfg8; intro K' hK'; go_big_quiet_op; go_big_quiet_on)
  have ng8x0 : Hid (g3 ≠ g8) := hfg8 (g3, _) (List.Mem.head _)
  have ng8x1 : Hid (w.heap.size ≠ g8) := hfg8 (w.heap.size, _) (List.Mem.tail _ (List.Mem.head _))
  clear hfg8
  refine (gOp_store rfl (g8) (wcs (y)) rfl rfl hbg8 25 (wcs (0)) (List.Mem.head _) (wc_info _) ((wc_size _).trans (wc_size _).symm) (wc_one _) [(g8, (wo (y))), (g3, (wo (x))), (w.heap.size, (wo (t)))] (List.forall_mem_cons.2 ⟨.inl rfl, (List.forall_mem_cons.2 ⟨.inr ⟨(List.Mem.tail _ (List.Mem.head _)), ng8x0.out⟩, (List.forall_mem_cons.2 ⟨.inr ⟨(List.Mem.tail _ (List.Mem.tail _ (List.Mem.head _))), ng8x1.out⟩, (fun _ h => by cases h)⟩)⟩)⟩) ?_)
  (refine (gOp_pure rfl rfl ?_); intro K' hK'; go_big_quiet_op; go_big_quiet_on)
  rintro u10 ⟨hl2, E2'⟩
  have EX9 := Lib.hid E2'
  clear hl2 E2' EX6
  go_upto_region 5 with (fail)
  refine wp_region_G (w0 := w) [0, 1, 2, 3, 4, 5, 6, 7, 8, 9, 10, 11, 12, 13, 14, 15, 16, 17, 18, 19, 20, 21, 22, 23, 24, 25, 26, 27, 28, 29, 30, 31, 32, 33, 34, 35] [(g8, (wo (y))), (g3, (wo (x))), (w.heap.size, (wo (t)))] 0 (by kernel_rfl) (by kernel_rfl) rfl EX9.out ?_
  have hone := @EnvC.one _ _ _ (EX9.out.drew)
  (refine wpG_op rfl rfl rfl ?_; intro K hK; go_big_quiet_op; go_big_quiet_on)
  (refine wpG_op rfl rfl rfl ?_; intro K hK; go_big_quiet_op; go_big_quiet_on)
  (refine wpG_op rfl rfl rfl ?_; intro K hK; go_big_quiet_op; go_big_quiet_on)
  (refine wpG_op rfl rfl rfl ?_; intro K hK; go_big_quiet_op; go_big_quiet_on)
  (refine wpG_op rfl rfl rfl ?_; intro K hK; go_big_quiet_op; go_big_quiet_on)
  (refine wpG_load rfl rfl (g3) rfl 25 _ _ (fun u hu => EnvC.box hu _ (wo (x)) (List.Mem.tail _ (List.Mem.head _))) Try.underlying25 rfl (wc_info _) ?_ (EX9.out.drew); intro K hK; go_big_quiet_op; go_big_quiet_on)
  (refine wpG_call (f := 12) (args := #[.agg (wcs (x))]) (v := .int .u32 (bits : Int)) rfl rfl rfl Try.func12 rfl rfl (fun u _ => (by have h := compact_any x u hxB.out; rw [hcx.out] at h; exact h)) ?_ (EX9.out.drew); intro K hK; go_big_quiet_op; go_big_quiet_on)
  (refine wpG_op rfl rfl rfl ?_; intro K hK; go_big_quiet_op; go_big_quiet_on)
  (refine wpG_op rfl rfl rfl ?_; intro K hK; go_big_quiet_op; go_big_quiet_on)
  (refine wpG_op rfl rfl rfl ?_; intro K hK; go_big_quiet_op; go_big_quiet_on)
  (refine wpG_op rfl rfl rfl ?_; intro K hK; go_big_quiet_op; go_big_quiet_on)
  (refine wpG_op rfl rfl rfl ?_; intro K hK; go_big_quiet_op; go_big_quiet_on)
  (refine wpG_op rfl rfl rfl ?_; intro K hK; go_big_quiet_op; go_big_quiet_on)
  (refine wpG_load rfl rfl (w.heap.size) rfl 25 _ _ (fun u hu => EnvC.box hu _ (wo (t)) (List.Mem.tail _ (List.Mem.tail _ (List.Mem.head _)))) Try.underlying25 rfl (wc_info _) ?_ (EX9.out.drew); intro K hK; go_big_quiet_op; go_big_quiet_on)
  (refine wpG_call (f := 19) (args := #[.int .u64 (32768 : Nat)]) (v := .agg (wcs (32768))) rfl rfl rfl Try.func19 rfl rfl (fun u _ => of_n 32768 u (by decide)) ?_ (EX9.out.drew); intro K hK; go_big_quiet_op; go_big_quiet_on)
  (refine wpG_call (f := 18) (args := #[.agg (wcs (t)), .agg (wcs (32768))]) (v := .int .i64 c1) rfl rfl rfl Try.func18 rfl rfl (fun u _ => (by rw [← h1.out]; exact cmp_any (t) (32768) u ht.out hBB.out)) ?_ (EX9.out.drew); intro K hK; go_big_quiet_op; go_big_quiet_on)
  (refine wpG_op rfl rfl rfl ?_; intro K hK; go_big_quiet_op; go_big_quiet_on)
  (refine wpG_op rfl rfl rfl ?_; intro K hK; go_big_quiet_op; go_big_quiet_on)
  (refine wpG_op rfl rfl rfl ?_; intro K hK; go_big_quiet_op; go_big_quiet_on)
  (refine wpG_op rfl rfl rfl ?_; intro K hK; go_big_quiet_op; go_big_quiet_on)
  (refine wpG_op rfl rfl rfl ?_; intro K hK; go_big_quiet_op; go_big_quiet_on)
  (refine wpG_op rfl rfl rfl ?_; intro K hK; go_big_quiet_op; go_big_quiet_on)
  (refine wpG_load rfl rfl (g8) rfl 25 _ _ (fun u hu => EnvC.box hu _ (wo (y)) (List.Mem.head _)) Try.underlying25 rfl (wc_info _) ?_ (EX9.out.drew); intro K hK; go_big_quiet_op; go_big_quiet_on)
  (refine wpG_load rfl rfl (w.heap.size) rfl 25 _ _ (fun u hu => EnvC.box hu _ (wo (t)) (List.Mem.tail _ (List.Mem.tail _ (List.Mem.head _)))) Try.underlying25 rfl (wc_info _) ?_ (EX9.out.drew); intro K hK; go_big_quiet_op; go_big_quiet_on)
  (refine wpG_call (f := 18) (args := #[.agg (wcs (y)), .agg (wcs (t))]) (v := .int .i64 c2) rfl rfl rfl Try.func18 rfl rfl (fun u _ => (by rw [← h2.out]; exact cmp_any (y) (t) u hyB.out ht.out)) ?_ (EX9.out.drew); intro K hK; go_big_quiet_op; go_big_quiet_on)
  (refine wpG_op rfl rfl rfl ?_; intro K hK; go_big_quiet_op; go_big_quiet_on)
  (refine wpG_op rfl rfl rfl ?_; intro K hK; go_big_quiet_op; go_big_quiet_on)
  (refine wpG_op rfl rfl rfl ?_; intro K hK; go_big_quiet_op; go_big_quiet_on)
  (refine wpG_op rfl rfl rfl ?_; intro K hK; go_big_quiet_op; go_big_quiet_on)
  (refine wpG_op rfl rfl rfl ?_; intro K hK; go_big_quiet_op; go_big_quiet_on)
  (refine wpG_op rfl rfl rfl ?_; intro K hK; go_big_quiet_op; go_big_quiet_on)
  (refine wpG_op rfl rfl rfl ?_; intro K hK; go_big_quiet_op; go_big_quiet_on)
  (refine wpG_skip rfl rfl ?_ EX9.out.drew; intro K hK; go_big_quiet_op; go_big_quiet_on)
  (refine wpG_skip rfl rfl ?_ EX9.out.drew; intro K hK; go_big_quiet_op; go_big_quiet_on)
  (refine wpG_op rfl rfl rfl ?_; intro K hK; go_big_quiet_op; go_big_quiet_on)
  (refine wpG_op rfl rfl rfl ?_; intro K hK; go_big_quiet_op; go_big_quiet_on)
  clear hone
  refine wpG_nil ?_
  refine anyG_done (by kernel_rfl) ?_
  rintro u12 ⟨hl2, E2'⟩
  have EX11 := Lib.hid E2'
  clear hl2 E2' EX9
  go_upto_region 7 with (fail)
  refine wp_region_Gx (w0 := w) [0, 1, 2, 3, 4, 5, 6, 7, 8, 9, 10, 11, 12, 13, 14, 15, 16, 17] [] [(g8, (wo (y))), (g3, (wo (x))), (w.heap.size, (wo (t)))] rfl EX11.out ?_
  have hone := @EnvC.one _ _ _ (EX11.out)
  (refine wpG_op rfl rfl rfl ?_; intro K hK; go_big_quiet_op; go_big_quiet_on)
  (refine wpG_op rfl rfl rfl ?_; intro K hK; go_big_quiet_op; go_big_quiet_on)
  (refine wpG_op rfl rfl rfl ?_; intro K hK; go_big_quiet_op; go_big_quiet_on)
  (refine wpG_load rfl rfl (g3) rfl 25 _ _ (fun u hu => EnvC.box hu _ (wo (x)) (List.Mem.tail _ (List.Mem.head _))) Try.underlying25 rfl (wc_info _) ?_ (EX11.out); intro K hK; go_big_quiet_op; go_big_quiet_on)
  (refine wpG_load rfl rfl (w.heap.size) rfl 25 _ _ (fun u hu => EnvC.box hu _ (wo (t)) (List.Mem.tail _ (List.Mem.tail _ (List.Mem.head _)))) Try.underlying25 rfl (wc_info _) ?_ (EX11.out); intro K hK; go_big_quiet_op; go_big_quiet_on)
  (refine wpG_call (f := 18) (args := #[.agg (wcs (x)), .agg (wcs (t))]) (v := .int .i64 c3) rfl rfl rfl Try.func18 rfl rfl (fun u _ => (by rw [← h3.out]; exact cmp_any (x) (t) u hxB.out ht.out)) ?_ (EX11.out); intro K hK; go_big_quiet_op; go_big_quiet_on)
  (refine wpG_op rfl rfl rfl ?_; intro K hK; go_big_quiet_op; go_big_quiet_on)
  (refine wpG_op rfl rfl rfl ?_; intro K hK; go_big_quiet_op; go_big_quiet_on)
  (refine wpG_op rfl rfl rfl ?_; intro K hK; go_big_quiet_op; go_big_quiet_on)
  (refine wpG_op rfl rfl rfl ?_; intro K hK; go_big_quiet_op; go_big_quiet_on)
  (refine wpG_op rfl rfl rfl ?_; intro K hK; go_big_quiet_op; go_big_quiet_on)
  (refine wpG_load rfl rfl (g3) rfl 25 _ _ (fun u hu => EnvC.box hu _ (wo (x)) (List.Mem.tail _ (List.Mem.head _))) Try.underlying25 rfl (wc_info _) ?_ (EX11.out); intro K hK; go_big_quiet_op; go_big_quiet_on)
  (refine wpG_load rfl rfl (g8) rfl 25 _ _ (fun u hu => EnvC.box hu _ (wo (y)) (List.Mem.head _)) Try.underlying25 rfl (wc_info _) ?_ (EX11.out); intro K hK; go_big_quiet_op; go_big_quiet_on)
  (refine wpG_call (f := 18) (args := #[.agg (wcs (x)), .agg (wcs (y))]) (v := .int .i64 c4) rfl rfl rfl Try.func18 rfl rfl (fun u _ => (by rw [← h4.out]; exact cmp_any (x) (y) u hxB.out hyB.out)) ?_ (EX11.out); intro K hK; go_big_quiet_op; go_big_quiet_on)
  (refine wpG_op rfl rfl rfl ?_; intro K hK; go_big_quiet_op; go_big_quiet_on)
  (refine wpG_op rfl rfl rfl ?_; intro K hK; go_big_quiet_op; go_big_quiet_on)
  (refine wpG_op rfl rfl rfl ?_; intro K hK; go_big_quiet_op; go_big_quiet_on)
  (refine wpG_op rfl rfl rfl ?_; intro K hK; go_big_quiet_op; go_big_quiet_on)
  clear hone
  refine wpG_nil ?_
  rintro u14 ⟨hl2, E2'⟩
  have EX13 := Lib.hid E2'
  clear hl2 E2' EX11
  go_wp2_with fail
  go_ret
  exact ⟨rfl, EX13.out.bel⟩

theorem law_back (bits t : Nat) (w : World) (hb : bits < 4294967296) (ht : t < Big) :
    Calls Try.prog 4 #[.int .u32 (bits : Int), .agg (wcs t)] w fun e w' => e = .returned (.bool true) ∧ Below w.heap.size w w' := by
  have hBB : 32768 < Big := by have := Big_gt; omega
  have s1 := cmpI_sgn t 32768
  have hxB := tv_big bits
  by_cases hc : 32768 ≤ t
  · have hC := cN_spec hc
    have hyB := tv_big (cN t)
    have s2 := cmpI_sgn (tv (cN t)) t
    by_cases hi : isC bits = true
    · have s3 := cmpI_sgn (tv bits) t
      have s4 := cmpI_sgn (tv bits) (tv (cN t))
      by_cases hg : t < tv bits
      · exact back_ttg bits t _ _ hb ht hxB hyB hBB rfl hi (cN t) (cN_lt t) rfl rfl hC.1 _ rfl (by omega) (cN_tv hi) _ rfl (by omega) _ rfl (by omega) w
      · have h9 := (tv_le_iff hi hC.1).1 (hC.2.2 bits hi (by omega))
        exact back_ttl bits t _ _ hb ht hxB hyB hBB rfl hi (cN t) (cN_lt t) rfl rfl hC.1 _ rfl (by omega) (cN_tv hi) _ rfl (by omega) _ rfl (by omega) _ rfl (by omega) w
    · have hi' : isC bits = false := by simpa using hi
      exact back_ftl bits t _ _ hb ht hxB hyB hBB rfl hi' (cN t) (cN_lt t) rfl rfl hC.1 _ rfl (by omega) _ rfl (by omega) w
  · have hz := cN_low (show t < 32768 by omega)
    have hyB := tv_big 0
    by_cases hi : isC bits = true
    · have s3 := cmpI_sgn (tv bits) t
      have h9 := tv_ge hi
      exact back_tfg bits t _ _ hb ht hxB hyB hBB rfl hi hz rfl isC_zero _ rfl (by omega) (cN_tv hi) _ rfl (by omega) w
    · have hi' : isC bits = false := by simpa using hi
      exact back_ffl bits t _ _ hb ht hxB hyB hBB rfl hi' hz rfl isC_zero _ rfl (by omega) w
end Go.Proofs.Ytdbkbaanppnabaa
