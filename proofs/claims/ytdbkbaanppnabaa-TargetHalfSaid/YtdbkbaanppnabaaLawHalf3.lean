/- The walk of the law TargetHalf. -/
import Derived.Test.YtdbkbaanppnabaaLawTells3
namespace Go.Proofs.Ytdbkbaanppnabaa
open Go.RowKit

set_option maxRecDepth 100000 in
set_option maxHeartbeats 8000000 in
theorem half_neg (t d : Nat) (f : Nat → Nat) (hf : Hid (∀ i, f i < 256)) (ht : Hid (t < Big)) (hdB : Hid (d < Big)) (hd : Hid (t / 2 ^ 1 = d)) (n k : Int) (n1 : k < 0) (n2 : n ≤ 0) (hn : Hid (lvI (numOf f) t = n)) (hk : Hid (lvI (numOf f) d = k)) (w : World) :
    Calls Try.prog 8 #[.agg (idF (fun i => (f i : Int))), .agg (wcs (t))] w fun e w' => e = .returned (.bool true) ∧ Below w.heap.size w w' := by
  have E1 : Hid (EnvX w ((w.alloc (.cells (idF (fun i => (f i : Int))) 27)).alloc (.cells (wcs (t)) 25)) [(w.heap.size + 1, (wo (t))), (w.heap.size, (io (fun i => (f i : Int))))]) := by
    have h := (((EnvX.start w).new (io (fun i => (f i : Int)))).new (wo (t)))
    try simp only [World.size_alloc] at h
    exact h
  go_enter Try.func8, Try.ntmps8
  go_upto_region 1 with (fail)
  generalize ((w.alloc (.cells (idF (fun i => (f i : Int))) 27)).alloc (.cells (wcs (t)) 25)) = w1 at *
  refine wp_region_Gx (w0 := w) [0, 1] [] [(w.heap.size + 1, (wo (t))), (w.heap.size, (io (fun i => (f i : Int))))] rfl E1.out ?_
  have hone := @EnvC.one _ _ _ (E1.out)
  (refine wpG_call (f := 9) (args := #[]) (v := .bool true) rfl rfl rfl Try.func9 rfl rfl (fun u _ => awake_any u) ?_ (E1.out); intro K hK; go_big_quiet_op; go_big_quiet_on)
  (refine wpG_op rfl rfl rfl ?_; intro K hK; go_big_quiet_op; go_big_quiet_on)
  clear hone
  refine wpG_nil ?_
  rintro u2 ⟨hl2, E2'⟩
  have EX1 := Lib.hid E2'
  clear hl2 E2' E1
  go_upto_region 2 with (fail)
  refine wp_region_Gx (w0 := w) [0, 1, 2, 3] [] [(w.heap.size + 1, (wo (t))), (w.heap.size, (io (fun i => (f i : Int))))] rfl EX1.out ?_
  have hone := @EnvC.one _ _ _ (EX1.out)
  (refine wpG_load rfl rfl (w.heap.size) rfl 27 _ _ (fun u hu => EnvC.box hu _ (io (fun i => (f i : Int))) (List.Mem.tail _ (List.Mem.head _))) Try.underlying27 rfl (infoId _ (idF_size _)) ?_ (EX1.out); intro K hK; go_big_quiet_op; go_big_quiet_on)
  (refine wpG_load rfl rfl (w.heap.size + 1) rfl 25 _ _ (fun u hu => EnvC.box hu _ (wo (t)) (List.Mem.head _)) Try.underlying25 rfl (wc_info _) ?_ (EX1.out); intro K hK; go_big_quiet_op; go_big_quiet_on)
  (refine wpG_call (f := 16) (args := #[.agg (idF (fun i => (f i : Int))), .agg (wcs (t))]) (v := .int .i64 n) rfl rfl rfl Try.func16 rfl rfl (fun u _ => (by have h := level_any f hf.out t u ht.out; rw [hn.out] at h; exact h)) ?_ (EX1.out); intro K hK; go_big_quiet_op; go_big_quiet_on)
  (refine wpG_op rfl rfl rfl ?_; intro K hK; go_big_quiet_op; go_big_quiet_on)
  clear hone
  refine wpG_nil ?_
  rintro u4 ⟨hl2, E2'⟩
  have EX3 := Lib.hid E2'
  clear hl2 E2' EX1
  go_upto_region 3 with (fail)
  refine wp_region_G (w0 := w) [0, 1, 2, 3, 4] [(w.heap.size + 1, (wo (t))), (w.heap.size, (io (fun i => (f i : Int))))] 0 (by kernel_rfl) (by kernel_rfl) rfl EX3.out ?_
  have hone := @EnvC.one _ _ _ (EX3.out.drew)
  (refine wpG_load rfl rfl (w.heap.size) rfl 27 _ _ (fun u hu => EnvC.box hu _ (io (fun i => (f i : Int))) (List.Mem.tail _ (List.Mem.head _))) Try.underlying27 rfl (infoId _ (idF_size _)) ?_ (EX3.out.drew); intro K hK; go_big_quiet_op; go_big_quiet_on)
  (refine wpG_load rfl rfl (w.heap.size + 1) rfl 25 _ _ (fun u hu => EnvC.box hu _ (wo (t)) (List.Mem.head _)) Try.underlying25 rfl (wc_info _) ?_ (EX3.out.drew); intro K hK; go_big_quiet_op; go_big_quiet_on)
  (refine wpG_call (f := 23) (args := #[.agg (wcs (t)), .int .i64 (1 : Nat)]) (v := .agg (wcs (d))) rfl rfl rfl Try.func23 rfl rfl (fun u _ => (by have h := down_any t 1 u ht.out (by decide); rw [hd.out] at h; exact h)) ?_ (EX3.out.drew); intro K hK; go_big_quiet_op; go_big_quiet_on)
  (refine wpG_call (f := 16) (args := #[.agg (idF (fun i => (f i : Int))), .agg (wcs (d))]) (v := .int .i64 k) rfl rfl rfl Try.func16 rfl rfl (fun u _ => (by have h := level_any f hf.out d u hdB.out; rw [hk.out] at h; exact h)) ?_ (EX3.out.drew); intro K hK; go_big_quiet_op; go_big_quiet_on)
  (refine wpG_op rfl rfl rfl ?_; intro K hK; go_big_quiet_op; go_big_quiet_on)
  clear hone
  refine wpG_nil ?_
  refine anyG_done (by kernel_rfl) ?_
  rintro u6 ⟨hl2, E2'⟩
  have EX5 := Lib.hid E2'
  clear hl2 E2' EX3
  go_upto_region 4 with (fail)
  refine wp_region_Gx (w0 := w) [0, 1, 2, 3, 4, 5, 6, 7] [] [(w.heap.size + 1, (wo (t))), (w.heap.size, (io (fun i => (f i : Int))))] rfl EX5.out ?_
  have hone := @EnvC.one _ _ _ (EX5.out)
  (refine wpG_op rfl rfl rfl ?_; intro K hK; go_big_quiet_op; go_big_quiet_on)
  (refine wpG_op rfl rfl rfl ?_; intro K hK; go_big_quiet_op; go_big_quiet_on)
  (refine wpG_op rfl rfl rfl ?_; intro K hK; go_big_quiet_op; go_big_quiet_on)
  (refine wpG_val (v := .agg (idF (fun i => (((fun _ => 0 : Nat → Nat) i : Nat) : Int)))) rfl rfl (fun u _ => build_id (fun _ => 0) _ [] rfl built_zero u) ?_ (EX5.out); intro K hK; go_big_quiet_op; go_big_quiet_on)
  (refine wpG_load rfl rfl (w.heap.size + 1) rfl 25 _ _ (fun u hu => EnvC.box hu _ (wo (t)) (List.Mem.head _)) Try.underlying25 rfl (wc_info _) ?_ (EX5.out); intro K hK; go_big_quiet_op; go_big_quiet_on)
  (refine wpG_call (f := 16) (args := #[.agg (idF (fun i => (((fun _ => 0 : Nat → Nat) i : Nat) : Int))), .agg (wcs (t))]) (v := .int .i64 31) rfl rfl rfl Try.func16 rfl rfl (fun u _ => level_zero t u ht.out) ?_ (EX5.out); intro K hK; go_big_quiet_op; go_big_quiet_on)
  (refine wpG_op rfl rfl rfl ?_; intro K hK; go_big_quiet_op; go_big_quiet_on)
  (refine wpG_op rfl rfl rfl ?_; intro K hK; go_big_quiet_op; go_big_quiet_on)
  clear hone
  refine wpG_nil ?_
  rintro u8 ⟨hl2, E2'⟩
  have EX7 := Lib.hid E2'
  clear hl2 E2' EX5
  go_upto_region 6 with (fail)
  refine wp_region_Gx (w0 := w) [0, 1] [] [(w.heap.size + 1, (wo (t))), (w.heap.size, (io (fun i => (f i : Int))))] rfl EX7.out ?_
  have hone := @EnvC.one _ _ _ (EX7.out)
  (refine wpG_op rfl rfl rfl ?_; intro K hK; go_big_quiet_op; go_big_quiet_on)
  (refine wpG_op rfl rfl rfl ?_; intro K hK; go_big_quiet_op; go_big_quiet_on)
  clear hone
  refine wpG_nil ?_
  rintro u10 ⟨hl2, E2'⟩
  have EX9 := Lib.hid E2'
  clear hl2 E2' EX7
  go_upto_region 7 with (fail)
  refine wp_region_Gx (w0 := w) [0, 1, 2] [] [(w.heap.size + 1, (wo (t))), (w.heap.size, (io (fun i => (f i : Int))))] rfl EX9.out ?_
  have hone := @EnvC.one _ _ _ (EX9.out)
  (refine wpG_op rfl rfl rfl ?_; intro K hK; go_big_quiet_op; go_big_quiet_on)
  (refine wpG_op rfl rfl rfl ?_; intro K hK; go_big_quiet_op; go_big_quiet_on)
  (refine wpG_op rfl rfl rfl ?_; intro K hK; go_big_quiet_op; go_big_quiet_on)
  clear hone
  refine wpG_nil ?_
  rintro u12 ⟨hl2, E2'⟩
  have EX11 := Lib.hid E2'
  clear hl2 E2' EX9
  go_wp2_with fail
  go_ret
  exact ⟨rfl, EX11.out.bel⟩
set_option maxRecDepth 100000 in
set_option maxHeartbeats 8000000 in
theorem half_one (t d : Nat) (f : Nat → Nat) (hf : Hid (∀ i, f i < 256)) (ht : Hid (t < Big)) (hdB : Hid (d < Big)) (hd : Hid (t / 2 ^ 1 = d)) (k : Int) (n1 : ¬ k < 0) (n2 : 0 ≤ k) (n3 : k ≤ 31) (hn : Hid (lvI (numOf f) t = (k + 1))) (hk : Hid (lvI (numOf f) d = k)) (w : World) :
    Calls Try.prog 8 #[.agg (idF (fun i => (f i : Int))), .agg (wcs (t))] w fun e w' => e = .returned (.bool true) ∧ Below w.heap.size w w' := by
  have E1 : Hid (EnvX w ((w.alloc (.cells (idF (fun i => (f i : Int))) 27)).alloc (.cells (wcs (t)) 25)) [(w.heap.size + 1, (wo (t))), (w.heap.size, (io (fun i => (f i : Int))))]) := by
    have h := (((EnvX.start w).new (io (fun i => (f i : Int)))).new (wo (t)))
    try simp only [World.size_alloc] at h
    exact h
  go_enter Try.func8, Try.ntmps8
  go_upto_region 1 with (fail)
  generalize ((w.alloc (.cells (idF (fun i => (f i : Int))) 27)).alloc (.cells (wcs (t)) 25)) = w1 at *
  refine wp_region_Gx (w0 := w) [0, 1] [] [(w.heap.size + 1, (wo (t))), (w.heap.size, (io (fun i => (f i : Int))))] rfl E1.out ?_
  have hone := @EnvC.one _ _ _ (E1.out)
  (refine wpG_call (f := 9) (args := #[]) (v := .bool true) rfl rfl rfl Try.func9 rfl rfl (fun u _ => awake_any u) ?_ (E1.out); intro K hK; go_big_quiet_op; go_big_quiet_on)
  (refine wpG_op rfl rfl rfl ?_; intro K hK; go_big_quiet_op; go_big_quiet_on)
  clear hone
  refine wpG_nil ?_
  rintro u2 ⟨hl2, E2'⟩
  have EX1 := Lib.hid E2'
  clear hl2 E2' E1
  go_upto_region 2 with (fail)
  refine wp_region_Gx (w0 := w) [0, 1, 2, 3] [] [(w.heap.size + 1, (wo (t))), (w.heap.size, (io (fun i => (f i : Int))))] rfl EX1.out ?_
  have hone := @EnvC.one _ _ _ (EX1.out)
  (refine wpG_load rfl rfl (w.heap.size) rfl 27 _ _ (fun u hu => EnvC.box hu _ (io (fun i => (f i : Int))) (List.Mem.tail _ (List.Mem.head _))) Try.underlying27 rfl (infoId _ (idF_size _)) ?_ (EX1.out); intro K hK; go_big_quiet_op; go_big_quiet_on)
  (refine wpG_load rfl rfl (w.heap.size + 1) rfl 25 _ _ (fun u hu => EnvC.box hu _ (wo (t)) (List.Mem.head _)) Try.underlying25 rfl (wc_info _) ?_ (EX1.out); intro K hK; go_big_quiet_op; go_big_quiet_on)
  (refine wpG_call (f := 16) (args := #[.agg (idF (fun i => (f i : Int))), .agg (wcs (t))]) (v := .int .i64 (k + 1)) rfl rfl rfl Try.func16 rfl rfl (fun u _ => (by have h := level_any f hf.out t u ht.out; rw [hn.out] at h; exact h)) ?_ (EX1.out); intro K hK; go_big_quiet_op; go_big_quiet_on)
  (refine wpG_op rfl rfl rfl ?_; intro K hK; go_big_quiet_op; go_big_quiet_on)
  clear hone
  refine wpG_nil ?_
  rintro u4 ⟨hl2, E2'⟩
  have EX3 := Lib.hid E2'
  clear hl2 E2' EX1
  go_upto_region 3 with (fail)
  refine wp_region_G (w0 := w) [0, 1, 2, 3, 4] [(w.heap.size + 1, (wo (t))), (w.heap.size, (io (fun i => (f i : Int))))] 0 (by kernel_rfl) (by kernel_rfl) rfl EX3.out ?_
  have hone := @EnvC.one _ _ _ (EX3.out.drew)
  (refine wpG_load rfl rfl (w.heap.size) rfl 27 _ _ (fun u hu => EnvC.box hu _ (io (fun i => (f i : Int))) (List.Mem.tail _ (List.Mem.head _))) Try.underlying27 rfl (infoId _ (idF_size _)) ?_ (EX3.out.drew); intro K hK; go_big_quiet_op; go_big_quiet_on)
  (refine wpG_load rfl rfl (w.heap.size + 1) rfl 25 _ _ (fun u hu => EnvC.box hu _ (wo (t)) (List.Mem.head _)) Try.underlying25 rfl (wc_info _) ?_ (EX3.out.drew); intro K hK; go_big_quiet_op; go_big_quiet_on)
  (refine wpG_call (f := 23) (args := #[.agg (wcs (t)), .int .i64 (1 : Nat)]) (v := .agg (wcs (d))) rfl rfl rfl Try.func23 rfl rfl (fun u _ => (by have h := down_any t 1 u ht.out (by decide); rw [hd.out] at h; exact h)) ?_ (EX3.out.drew); intro K hK; go_big_quiet_op; go_big_quiet_on)
  (refine wpG_call (f := 16) (args := #[.agg (idF (fun i => (f i : Int))), .agg (wcs (d))]) (v := .int .i64 k) rfl rfl rfl Try.func16 rfl rfl (fun u _ => (by have h := level_any f hf.out d u hdB.out; rw [hk.out] at h; exact h)) ?_ (EX3.out.drew); intro K hK; go_big_quiet_op; go_big_quiet_on)
  (refine wpG_op rfl rfl rfl ?_; intro K hK; go_big_quiet_op; go_big_quiet_on)
  clear hone
  refine wpG_nil ?_
  refine anyG_done (by kernel_rfl) ?_
  rintro u6 ⟨hl2, E2'⟩
  have EX5 := Lib.hid E2'
  clear hl2 E2' EX3
  go_upto_region 4 with (fail)
  refine wp_region_Gx (w0 := w) [0, 1, 2, 3, 4, 5, 6, 7] [] [(w.heap.size + 1, (wo (t))), (w.heap.size, (io (fun i => (f i : Int))))] rfl EX5.out ?_
  have hone := @EnvC.one _ _ _ (EX5.out)
  (refine wpG_op rfl rfl rfl ?_; intro K hK; go_big_quiet_op; go_big_quiet_on)
  (refine wpG_op rfl rfl rfl ?_; intro K hK; go_big_quiet_op; go_big_quiet_on)
  (refine wpG_op rfl rfl rfl ?_; intro K hK; go_big_quiet_op; go_big_quiet_on)
  (refine wpG_val (v := .agg (idF (fun i => (((fun _ => 0 : Nat → Nat) i : Nat) : Int)))) rfl rfl (fun u _ => build_id (fun _ => 0) _ [] rfl built_zero u) ?_ (EX5.out); intro K hK; go_big_quiet_op; go_big_quiet_on)
  (refine wpG_load rfl rfl (w.heap.size + 1) rfl 25 _ _ (fun u hu => EnvC.box hu _ (wo (t)) (List.Mem.head _)) Try.underlying25 rfl (wc_info _) ?_ (EX5.out); intro K hK; go_big_quiet_op; go_big_quiet_on)
  (refine wpG_call (f := 16) (args := #[.agg (idF (fun i => (((fun _ => 0 : Nat → Nat) i : Nat) : Int))), .agg (wcs (t))]) (v := .int .i64 31) rfl rfl rfl Try.func16 rfl rfl (fun u _ => level_zero t u ht.out) ?_ (EX5.out); intro K hK; go_big_quiet_op; go_big_quiet_on)
  (refine wpG_op rfl rfl rfl ?_; intro K hK; go_big_quiet_op; go_big_quiet_on)
  (refine wpG_op rfl rfl rfl ?_; intro K hK; go_big_quiet_op; go_big_quiet_on)
  clear hone
  refine wpG_nil ?_
  rintro u8 ⟨hl2, E2'⟩
  have EX7 := Lib.hid E2'
  clear hl2 E2' EX5
  go_upto_region 6 with (fail)
  refine wp_region_Gx (w0 := w) [0, 1] [] [(w.heap.size + 1, (wo (t))), (w.heap.size, (io (fun i => (f i : Int))))] rfl EX7.out ?_
  have hone := @EnvC.one _ _ _ (EX7.out)
  (refine wpG_op rfl rfl rfl ?_; intro K hK; go_big_quiet_op; go_big_quiet_on)
  (refine wpG_op rfl rfl rfl ?_; intro K hK; go_big_quiet_op; go_big_quiet_on)
  clear hone
  refine wpG_nil ?_
  rintro u10 ⟨hl2, E2'⟩
  have EX9 := Lib.hid E2'
  clear hl2 E2' EX7
  go_upto_region 8 with (fail)
  refine wp_region_Gx (w0 := w) [0, 1, 2, 3, 4, 5, 6, 7, 8, 9, 10, 11, 12, 13, 14, 15, 16, 17, 18, 19, 20] [] [(w.heap.size + 1, (wo (t))), (w.heap.size, (io (fun i => (f i : Int))))] rfl EX9.out ?_
  have hone := @EnvC.one _ _ _ (EX9.out)
  (refine wpG_op rfl rfl rfl ?_; intro K hK; go_big_quiet_op; go_big_quiet_on)
  (refine wpG_op rfl rfl rfl ?_; intro K hK; go_big_quiet_op; go_big_quiet_on)
  (refine wpG_op rfl rfl rfl ?_; intro K hK; go_big_quiet_op; go_big_quiet_on)
  (refine wpG_op rfl rfl rfl ?_; intro K hK; go_big_quiet_op; go_big_quiet_on)
  (refine wpG_op rfl rfl rfl ?_; intro K hK; go_big_quiet_op; go_big_quiet_on)
  (refine wpG_skip rfl rfl ?_ EX9.out; intro K hK; go_big_quiet_op; go_big_quiet_on)
  (refine wpG_skip rfl rfl ?_ EX9.out; intro K hK; go_big_quiet_op; go_big_quiet_on)
  (refine wpG_skip rfl rfl ?_ EX9.out; intro K hK; go_big_quiet_op; go_big_quiet_on)
  (refine wpG_skip rfl rfl ?_ EX9.out; intro K hK; go_big_quiet_op; go_big_quiet_on)
  (refine wpG_skip rfl rfl ?_ EX9.out; intro K hK; go_big_quiet_op; go_big_quiet_on)
  (refine wpG_skip rfl rfl ?_ EX9.out; intro K hK; go_big_quiet_op; go_big_quiet_on)
  (refine wpG_op rfl rfl rfl ?_; intro K hK; go_big_quiet_op; go_big_quiet_on)
  (refine wpG_op rfl rfl rfl ?_; intro K hK; go_big_quiet_op; go_big_quiet_on)
  (refine wpG_skip rfl rfl ?_ EX9.out; intro K hK; go_big_quiet_op; go_big_quiet_on)
  (refine wpG_skip rfl rfl ?_ EX9.out; intro K hK; go_big_quiet_op; go_big_quiet_on)
  (refine wpG_skip rfl rfl ?_ EX9.out; intro K hK; go_big_quiet_op; go_big_quiet_on)
  (refine wpG_skip rfl rfl ?_ EX9.out; intro K hK; go_big_quiet_op; go_big_quiet_on)
  (refine wpG_skip rfl rfl ?_ EX9.out; intro K hK; go_big_quiet_op; go_big_quiet_on)
  (refine wpG_skip rfl rfl ?_ EX9.out; intro K hK; go_big_quiet_op; go_big_quiet_on)
  (refine wpG_op rfl rfl rfl ?_; intro K hK; go_big_quiet_op; go_big_quiet_on)
  (refine wpG_op rfl rfl rfl ?_; intro K hK; go_big_quiet_op; go_big_quiet_on)
  clear hone
  refine wpG_nil ?_
  rintro u12 ⟨hl2, E2'⟩
  have EX11 := Lib.hid E2'
  clear hl2 E2' EX9
  go_wp2_with fail
  go_ret
  exact ⟨rfl, EX11.out.bel⟩
set_option maxRecDepth 100000 in
set_option maxHeartbeats 8000000 in
theorem half_top (t d : Nat) (f : Nat → Nat) (hf : Hid (∀ i, f i < 256)) (ht : Hid (t < Big)) (hdB : Hid (d < Big)) (hd : Hid (t / 2 ^ 1 = d)) (hn : Hid (lvI (numOf f) t = 31)) (hk : Hid (lvI (numOf f) d = 31)) (w : World) :
    Calls Try.prog 8 #[.agg (idF (fun i => (f i : Int))), .agg (wcs (t))] w fun e w' => e = .returned (.bool true) ∧ Below w.heap.size w w' := by
  have E1 : Hid (EnvX w ((w.alloc (.cells (idF (fun i => (f i : Int))) 27)).alloc (.cells (wcs (t)) 25)) [(w.heap.size + 1, (wo (t))), (w.heap.size, (io (fun i => (f i : Int))))]) := by
    have h := (((EnvX.start w).new (io (fun i => (f i : Int)))).new (wo (t)))
    try simp only [World.size_alloc] at h
    exact h
  go_enter Try.func8, Try.ntmps8
  go_upto_region 1 with (fail)
  generalize ((w.alloc (.cells (idF (fun i => (f i : Int))) 27)).alloc (.cells (wcs (t)) 25)) = w1 at *
  refine wp_region_Gx (w0 := w) [0, 1] [] [(w.heap.size + 1, (wo (t))), (w.heap.size, (io (fun i => (f i : Int))))] rfl E1.out ?_
  have hone := @EnvC.one _ _ _ (E1.out)
  (refine wpG_call (f := 9) (args := #[]) (v := .bool true) rfl rfl rfl Try.func9 rfl rfl (fun u _ => awake_any u) ?_ (E1.out); intro K hK; go_big_quiet_op; go_big_quiet_on)
  (refine wpG_op rfl rfl rfl ?_; intro K hK; go_big_quiet_op; go_big_quiet_on)
  clear hone
  refine wpG_nil ?_
  rintro u2 ⟨hl2, E2'⟩
  have EX1 := Lib.hid E2'
  clear hl2 E2' E1
  go_upto_region 2 with (fail)
  refine wp_region_Gx (w0 := w) [0, 1, 2, 3] [] [(w.heap.size + 1, (wo (t))), (w.heap.size, (io (fun i => (f i : Int))))] rfl EX1.out ?_
  have hone := @EnvC.one _ _ _ (EX1.out)
  (refine wpG_load rfl rfl (w.heap.size) rfl 27 _ _ (fun u hu => EnvC.box hu _ (io (fun i => (f i : Int))) (List.Mem.tail _ (List.Mem.head _))) Try.underlying27 rfl (infoId _ (idF_size _)) ?_ (EX1.out); intro K hK; go_big_quiet_op; go_big_quiet_on)
  (refine wpG_load rfl rfl (w.heap.size + 1) rfl 25 _ _ (fun u hu => EnvC.box hu _ (wo (t)) (List.Mem.head _)) Try.underlying25 rfl (wc_info _) ?_ (EX1.out); intro K hK; go_big_quiet_op; go_big_quiet_on)
  (refine wpG_call (f := 16) (args := #[.agg (idF (fun i => (f i : Int))), .agg (wcs (t))]) (v := .int .i64 31) rfl rfl rfl Try.func16 rfl rfl (fun u _ => (by have h := level_any f hf.out t u ht.out; rw [hn.out] at h; exact h)) ?_ (EX1.out); intro K hK; go_big_quiet_op; go_big_quiet_on)
  (refine wpG_op rfl rfl rfl ?_; intro K hK; go_big_quiet_op; go_big_quiet_on)
  clear hone
  refine wpG_nil ?_
  rintro u4 ⟨hl2, E2'⟩
  have EX3 := Lib.hid E2'
  clear hl2 E2' EX1
  go_upto_region 3 with (fail)
  refine wp_region_G (w0 := w) [0, 1, 2, 3, 4] [(w.heap.size + 1, (wo (t))), (w.heap.size, (io (fun i => (f i : Int))))] 0 (by kernel_rfl) (by kernel_rfl) rfl EX3.out ?_
  have hone := @EnvC.one _ _ _ (EX3.out.drew)
  (refine wpG_load rfl rfl (w.heap.size) rfl 27 _ _ (fun u hu => EnvC.box hu _ (io (fun i => (f i : Int))) (List.Mem.tail _ (List.Mem.head _))) Try.underlying27 rfl (infoId _ (idF_size _)) ?_ (EX3.out.drew); intro K hK; go_big_quiet_op; go_big_quiet_on)
  (refine wpG_load rfl rfl (w.heap.size + 1) rfl 25 _ _ (fun u hu => EnvC.box hu _ (wo (t)) (List.Mem.head _)) Try.underlying25 rfl (wc_info _) ?_ (EX3.out.drew); intro K hK; go_big_quiet_op; go_big_quiet_on)
  (refine wpG_call (f := 23) (args := #[.agg (wcs (t)), .int .i64 (1 : Nat)]) (v := .agg (wcs (d))) rfl rfl rfl Try.func23 rfl rfl (fun u _ => (by have h := down_any t 1 u ht.out (by decide); rw [hd.out] at h; exact h)) ?_ (EX3.out.drew); intro K hK; go_big_quiet_op; go_big_quiet_on)
  (refine wpG_call (f := 16) (args := #[.agg (idF (fun i => (f i : Int))), .agg (wcs (d))]) (v := .int .i64 31) rfl rfl rfl Try.func16 rfl rfl (fun u _ => (by have h := level_any f hf.out d u hdB.out; rw [hk.out] at h; exact h)) ?_ (EX3.out.drew); intro K hK; go_big_quiet_op; go_big_quiet_on)
  (refine wpG_op rfl rfl rfl ?_; intro K hK; go_big_quiet_op; go_big_quiet_on)
  clear hone
  refine wpG_nil ?_
  refine anyG_done (by kernel_rfl) ?_
  rintro u6 ⟨hl2, E2'⟩
  have EX5 := Lib.hid E2'
  clear hl2 E2' EX3
  go_upto_region 4 with (fail)
  refine wp_region_Gx (w0 := w) [0, 1, 2, 3, 4, 5, 6, 7] [] [(w.heap.size + 1, (wo (t))), (w.heap.size, (io (fun i => (f i : Int))))] rfl EX5.out ?_
  have hone := @EnvC.one _ _ _ (EX5.out)
  (refine wpG_op rfl rfl rfl ?_; intro K hK; go_big_quiet_op; go_big_quiet_on)
  (refine wpG_op rfl rfl rfl ?_; intro K hK; go_big_quiet_op; go_big_quiet_on)
  (refine wpG_op rfl rfl rfl ?_; intro K hK; go_big_quiet_op; go_big_quiet_on)
  (refine wpG_val (v := .agg (idF (fun i => (((fun _ => 0 : Nat → Nat) i : Nat) : Int)))) rfl rfl (fun u _ => build_id (fun _ => 0) _ [] rfl built_zero u) ?_ (EX5.out); intro K hK; go_big_quiet_op; go_big_quiet_on)
  (refine wpG_load rfl rfl (w.heap.size + 1) rfl 25 _ _ (fun u hu => EnvC.box hu _ (wo (t)) (List.Mem.head _)) Try.underlying25 rfl (wc_info _) ?_ (EX5.out); intro K hK; go_big_quiet_op; go_big_quiet_on)
  (refine wpG_call (f := 16) (args := #[.agg (idF (fun i => (((fun _ => 0 : Nat → Nat) i : Nat) : Int))), .agg (wcs (t))]) (v := .int .i64 31) rfl rfl rfl Try.func16 rfl rfl (fun u _ => level_zero t u ht.out) ?_ (EX5.out); intro K hK; go_big_quiet_op; go_big_quiet_on)
  (refine wpG_op rfl rfl rfl ?_; intro K hK; go_big_quiet_op; go_big_quiet_on)
  (refine wpG_op rfl rfl rfl ?_; intro K hK; go_big_quiet_op; go_big_quiet_on)
  clear hone
  refine wpG_nil ?_
  rintro u8 ⟨hl2, E2'⟩
  have EX7 := Lib.hid E2'
  clear hl2 E2' EX5
  go_upto_region 6 with (fail)
  refine wp_region_Gx (w0 := w) [0, 1] [] [(w.heap.size + 1, (wo (t))), (w.heap.size, (io (fun i => (f i : Int))))] rfl EX7.out ?_
  have hone := @EnvC.one _ _ _ (EX7.out)
  (refine wpG_op rfl rfl rfl ?_; intro K hK; go_big_quiet_op; go_big_quiet_on)
  (refine wpG_op rfl rfl rfl ?_; intro K hK; go_big_quiet_op; go_big_quiet_on)
  clear hone
  refine wpG_nil ?_
  rintro u10 ⟨hl2, E2'⟩
  have EX9 := Lib.hid E2'
  clear hl2 E2' EX7
  go_upto_region 8 with (fail)
  refine wp_region_Gx (w0 := w) [0, 1, 2, 3, 4, 5, 6, 7, 8, 9, 10, 11, 12, 13, 14, 15, 16, 17, 18, 19, 20] [] [(w.heap.size + 1, (wo (t))), (w.heap.size, (io (fun i => (f i : Int))))] rfl EX9.out ?_
  have hone := @EnvC.one _ _ _ (EX9.out)
  (refine wpG_op rfl rfl rfl ?_; intro K hK; go_big_quiet_op; go_big_quiet_on)
  (refine wpG_op rfl rfl rfl ?_; intro K hK; go_big_quiet_op; go_big_quiet_on)
  (refine wpG_op rfl rfl rfl ?_; intro K hK; go_big_quiet_op; go_big_quiet_on)
  (refine wpG_op rfl rfl rfl ?_; intro K hK; go_big_quiet_op; go_big_quiet_on)
  (refine wpG_op rfl rfl rfl ?_; intro K hK; go_big_quiet_op; go_big_quiet_on)
  (refine wpG_op rfl rfl rfl ?_; intro K hK; go_big_quiet_op; go_big_quiet_on)
  (refine wpG_op rfl rfl rfl ?_; intro K hK; go_big_quiet_op; go_big_quiet_on)
  (refine wpG_op rfl rfl rfl ?_; intro K hK; go_big_quiet_op; go_big_quiet_on)
  (refine wpG_op rfl rfl rfl ?_; intro K hK; go_big_quiet_op; go_big_quiet_on)
  (refine wpG_op rfl rfl rfl ?_; intro K hK; go_big_quiet_op; go_big_quiet_on)
  (refine wpG_op rfl rfl rfl ?_; intro K hK; go_big_quiet_op; go_big_quiet_on)
  (refine wpG_op rfl rfl rfl ?_; intro K hK; go_big_quiet_op; go_big_quiet_on)
  (refine wpG_op rfl rfl rfl ?_; intro K hK; go_big_quiet_op; go_big_quiet_on)
  (refine wpG_skip rfl rfl ?_ EX9.out; intro K hK; go_big_quiet_op; go_big_quiet_on)
  (refine wpG_skip rfl rfl ?_ EX9.out; intro K hK; go_big_quiet_op; go_big_quiet_on)
  (refine wpG_skip rfl rfl ?_ EX9.out; intro K hK; go_big_quiet_op; go_big_quiet_on)
  (refine wpG_skip rfl rfl ?_ EX9.out; intro K hK; go_big_quiet_op; go_big_quiet_on)
  (refine wpG_skip rfl rfl ?_ EX9.out; intro K hK; go_big_quiet_op; go_big_quiet_on)
  (refine wpG_skip rfl rfl ?_ EX9.out; intro K hK; go_big_quiet_op; go_big_quiet_on)
  (refine wpG_op rfl rfl rfl ?_; intro K hK; go_big_quiet_op; go_big_quiet_on)
  (refine wpG_op rfl rfl rfl ?_; intro K hK; go_big_quiet_op; go_big_quiet_on)
  clear hone
  refine wpG_nil ?_
  rintro u12 ⟨hl2, E2'⟩
  have EX11 := Lib.hid E2'
  clear hl2 E2' EX9
  go_wp2_with fail
  go_ret
  exact ⟨rfl, EX11.out.bel⟩

theorem law_half (f : Nat → Nat) (t : Nat) (w : World) (hf : ∀ i, f i < 256) (ht : t < Big) :
    Calls Try.prog 8 #[.agg (idF (fun i => (f i : Int))), .agg (wcs t)] w fun e w' => e = .returned (.bool true) ∧ Below w.heap.size w w' := by
  have hd : t / 2 ^ 1 = t / 2 := rfl
  have hdB : t / 2 < Big := Nat.lt_of_le_of_lt (Nat.div_le_self _ _) ht
  have h1 := lvI_half (numOf f) t
  have h2 := lvI_le (numOf f) (t / 2)
  by_cases hn : lvI (numOf f) (t / 2) < 0
  · exact half_neg t _ f hf ht hdB hd _ _ hn (h1.1 hn) rfl rfl w
  · rcases h1.2 (by omega) with h | ⟨h, h'⟩
    · exact half_one t _ f hf ht hdB hd _ hn (by omega) (by omega) h rfl w
    · exact half_top t _ f hf ht hdB hd h h' w
end Go.Proofs.Ytdbkbaanppnabaa
