/- The walk of the law TargetLevel, some cases. -/
import Derived.Test.YtdbkbaanppnabaaLawTells3
namespace Go.Proofs.Ytdbkbaanppnabaa
open Go.RowKit

set_option maxRecDepth 100000 in
set_option maxHeartbeats 8000000 in
theorem lev_ftt (t s a b : Nat) (f g : Nat → Nat) (x c2 c3 : Int) (k d : Nat) (c1 : Int) (hk : k ≤ 31) (hd : Hid (t / 2 ^ k = d)) (hdB : Hid (d < Big)) (h1 : Hid (cmpI a d = c1)) (m1 : ¬ c1 ≤ 0) (m2 : ¬ (k : Int) ≤ x) (m3 : (0 : Int) ≤ (k : Int)) (m4 : (k : Int) ≤ 31) (ht : Hid (t < Big)) (hs : Hid (s < Big)) (haB : Hid (a < Big)) (hbB : Hid (b < Big)) (hf : Hid (∀ i, f i < 256)) (hg : Hid (∀ i, g i < 256)) (hna : Hid (numOf f = a)) (hnb : Hid (numOf g = b)) (hx : Hid (lvI (numOf f) t = x)) (x1 : ¬ x < -1) (x2 : ¬ 31 < x) (h2 : Hid (cmpI b a = c2)) (n2 : c2 ≤ 0) (h3 : Hid (cmpI t s = c3)) (n3 : 0 < c3) (y : Int) (hy : Hid (lvI (numOf g) t = y)) (y1 : x ≤ y) (w : World) :
    Calls Try.prog 6 #[.agg (idF (fun i => (f i : Int))), .agg (idF (fun i => (g i : Int))), .agg (wcs (t)), .agg (wcs (s)), .int .i64 (k : Int)] w fun e w' => e = .returned (.bool true) ∧ Below w.heap.size w w' := by
  have E1 : Hid (EnvX w ((((w.alloc (.cells (idF (fun i => (f i : Int))) 27)).alloc (.cells (idF (fun i => (g i : Int))) 27)).alloc (.cells (wcs (t)) 25)).alloc (.cells (wcs (s)) 25)) [(w.heap.size + 1 + 1 + 1, (wo (s))), (w.heap.size + 1 + 1, (wo (t))), (w.heap.size + 1, (io (fun i => (g i : Int)))), (w.heap.size, (io (fun i => (f i : Int))))]) := by
    have h := (((((EnvX.start w).new (io (fun i => (f i : Int)))).new (io (fun i => (g i : Int)))).new (wo (t))).new (wo (s)))
    try simp only [World.size_alloc] at h
    exact h
  go_enter Try.func6, Try.ntmps6
  go_upto_region 1 with (fail)
  generalize ((((w.alloc (.cells (idF (fun i => (f i : Int))) 27)).alloc (.cells (idF (fun i => (g i : Int))) 27)).alloc (.cells (wcs (t)) 25)).alloc (.cells (wcs (s)) 25)) = w1 at *
  refine wp_region_Gx (w0 := w) [0, 1] [] [(w.heap.size + 1 + 1 + 1, (wo (s))), (w.heap.size + 1 + 1, (wo (t))), (w.heap.size + 1, (io (fun i => (g i : Int)))), (w.heap.size, (io (fun i => (f i : Int))))] rfl E1.out ?_
  have hone := @EnvC.one _ _ _ (E1.out)
  (refine wpG_call (f := 9) (args := #[]) (v := .bool true) rfl rfl rfl Try.func9 rfl rfl (fun u _ => awake_any u) ?_ (E1.out); intro K hK; go_big_quiet_op; go_big_quiet_on)
  (refine wpG_op rfl rfl rfl ?_; intro K hK; go_big_quiet_op; go_big_quiet_on)
  clear hone
  refine wpG_nil ?_
  rintro u2 ⟨hl2, E2'⟩
  have EX1 := Lib.hid E2'
  clear hl2 E2' E1
  go_upto_region 2 with (fail)
  refine wp_region_Gx (w0 := w) [0, 1, 2, 3] [] [(w.heap.size + 1 + 1 + 1, (wo (s))), (w.heap.size + 1 + 1, (wo (t))), (w.heap.size + 1, (io (fun i => (g i : Int)))), (w.heap.size, (io (fun i => (f i : Int))))] rfl EX1.out ?_
  have hone := @EnvC.one _ _ _ (EX1.out)
  (refine wpG_load rfl rfl (w.heap.size) rfl 27 _ _ (fun u hu => EnvC.box hu _ (io (fun i => (f i : Int))) (List.Mem.tail _ (List.Mem.tail _ (List.Mem.tail _ (List.Mem.head _))))) Try.underlying27 rfl (infoId _ (idF_size _)) ?_ (EX1.out); intro K hK; go_big_quiet_op; go_big_quiet_on)
  (refine wpG_load rfl rfl (w.heap.size + 1 + 1) rfl 25 _ _ (fun u hu => EnvC.box hu _ (wo (t)) (List.Mem.tail _ (List.Mem.head _))) Try.underlying25 rfl (wc_info _) ?_ (EX1.out); intro K hK; go_big_quiet_op; go_big_quiet_on)
  (refine wpG_call (f := 16) (args := #[.agg (idF (fun i => (f i : Int))), .agg (wcs (t))]) (v := .int .i64 x) rfl rfl rfl Try.func16 rfl rfl (fun u _ => (by have h := level_any f hf.out t u ht.out; rw [hx.out] at h; exact h)) ?_ (EX1.out); intro K hK; go_big_quiet_op; go_big_quiet_on)
  (refine wpG_op rfl rfl rfl ?_; intro K hK; go_big_quiet_op; go_big_quiet_on)
  clear hone
  refine wpG_nil ?_
  rintro u4 ⟨hl2, E2'⟩
  have EX3 := Lib.hid E2'
  clear hl2 E2' EX1
  go_upto_region 3 with (fail)
  refine wp_region_Gx (w0 := w) [0, 1, 2, 3, 4, 5, 6, 7, 8, 9] [] [(w.heap.size + 1 + 1 + 1, (wo (s))), (w.heap.size + 1 + 1, (wo (t))), (w.heap.size + 1, (io (fun i => (g i : Int)))), (w.heap.size, (io (fun i => (f i : Int))))] rfl EX3.out ?_
  have hone := @EnvC.one _ _ _ (EX3.out)
  (refine wpG_op rfl rfl rfl ?_; intro K hK; go_big_quiet_op; go_big_quiet_on)
  (refine wpG_op rfl rfl rfl ?_; intro K hK; go_big_quiet_op; go_big_quiet_on)
  (refine wpG_op rfl rfl rfl ?_; intro K hK; go_big_quiet_op; go_big_quiet_on)
  (refine wpG_op rfl rfl rfl ?_; intro K hK; go_big_quiet_op; go_big_quiet_on)
  (refine wpG_op rfl rfl rfl ?_; intro K hK; go_big_quiet_op; go_big_quiet_on)
  (refine wpG_op rfl rfl rfl ?_; intro K hK; go_big_quiet_op; go_big_quiet_on)
  (refine wpG_op rfl rfl rfl ?_; intro K hK; go_big_quiet_op; go_big_quiet_on)
  (refine wpG_op rfl rfl rfl ?_; intro K hK; go_big_quiet_op; go_big_quiet_on)
  (refine wpG_op rfl rfl rfl ?_; intro K hK; go_big_quiet_op; go_big_quiet_on)
  (refine wpG_op rfl rfl rfl ?_; intro K hK; go_big_quiet_op; go_big_quiet_on)
  clear hone
  refine wpG_nil ?_
  rintro u6 ⟨hl2, E2'⟩
  have EX5 := Lib.hid E2'
  clear hl2 E2' EX3
  go_upto_region 5 with (fail)
  refine wp_region_G (w0 := w) [0, 1, 2, 3, 4, 5, 6, 7, 8, 9, 10, 11, 12, 13, 14, 15, 16, 17, 18] [(w.heap.size + 1 + 1 + 1, (wo (s))), (w.heap.size + 1 + 1, (wo (t))), (w.heap.size + 1, (io (fun i => (g i : Int)))), (w.heap.size, (io (fun i => (f i : Int))))] 0 (by kernel_rfl) (by kernel_rfl) rfl EX5.out ?_
  have hone := @EnvC.one _ _ _ (EX5.out.drew)
  (refine wpG_op rfl rfl rfl ?_; intro K hK; go_big_quiet_op; go_big_quiet_on)
  (refine wpG_op rfl rfl rfl ?_; intro K hK; go_big_quiet_op; go_big_quiet_on)
  (refine wpG_op rfl rfl rfl ?_; intro K hK; go_big_quiet_op; go_big_quiet_on)
  (refine wpG_op rfl rfl rfl ?_; intro K hK; go_big_quiet_op; go_big_quiet_on)
  (refine wpG_op rfl rfl rfl ?_; intro K hK; go_big_quiet_op; go_big_quiet_on)
  (refine wpG_op rfl rfl rfl ?_; intro K hK; go_big_quiet_op; go_big_quiet_on)
  (refine wpG_op rfl rfl rfl ?_; intro K hK; go_big_quiet_op; go_big_quiet_on)
  (refine wpG_op rfl rfl rfl ?_; intro K hK; go_big_quiet_op; go_big_quiet_on)
  (refine wpG_op rfl rfl rfl ?_; intro K hK; go_big_quiet_op; go_big_quiet_on)
  (refine wpG_op rfl rfl rfl ?_; intro K hK; go_big_quiet_op; go_big_quiet_on)
  (refine wpG_load rfl rfl (w.heap.size) rfl 27 _ _ (fun u hu => EnvC.box hu _ (io (fun i => (f i : Int))) (List.Mem.tail _ (List.Mem.tail _ (List.Mem.tail _ (List.Mem.head _))))) Try.underlying27 rfl (infoId _ (idF_size _)) ?_ (EX5.out.drew); intro K hK; go_big_quiet_op; go_big_quiet_on)
  (refine wpG_call (f := 22) (args := #[.agg (idF (fun i => (f i : Int)))]) (v := .agg (wcs (a))) rfl rfl rfl Try.func22 rfl rfl (fun u _ => (by have h := of32_any f hf.out u; rw [hna.out] at h; exact h)) ?_ (EX5.out.drew); intro K hK; go_big_quiet_op; go_big_quiet_on)
  (refine wpG_load rfl rfl (w.heap.size + 1 + 1) rfl 25 _ _ (fun u hu => EnvC.box hu _ (wo (t)) (List.Mem.tail _ (List.Mem.head _))) Try.underlying25 rfl (wc_info _) ?_ (EX5.out.drew); intro K hK; go_big_quiet_op; go_big_quiet_on)
  (refine wpG_op rfl rfl rfl ?_; intro K hK; go_big_quiet_op; go_big_quiet_on)
  (refine wpG_call (f := 23) (args := #[.agg (wcs (t)), .int .i64 (k : Int)]) (v := .agg (wcs (d))) rfl rfl rfl Try.func23 rfl rfl (fun u _ => (by have h := down_any t k u ht.out (by omega); rw [hd.out] at h; exact h)) ?_ (EX5.out.drew); intro K hK; go_big_quiet_op; go_big_quiet_on)
  (refine wpG_call (f := 18) (args := #[.agg (wcs (a)), .agg (wcs (d))]) (v := .int .i64 c1) rfl rfl rfl Try.func18 rfl rfl (fun u _ => (by rw [← h1.out]; exact cmp_any (a) (d) u haB.out hdB.out)) ?_ (EX5.out.drew); intro K hK; go_big_quiet_op; go_big_quiet_on)
  (refine wpG_op rfl rfl rfl ?_; intro K hK; go_big_quiet_op; go_big_quiet_on)
  (refine wpG_op rfl rfl rfl ?_; intro K hK; go_big_quiet_op; go_big_quiet_on)
  (refine wpG_op rfl rfl rfl ?_; intro K hK; go_big_quiet_op; go_big_quiet_on)
  clear hone
  refine wpG_nil ?_
  refine anyG_done (by kernel_rfl) ?_
  rintro u8 ⟨hl2, E2'⟩
  have EX7 := Lib.hid E2'
  clear hl2 E2' EX5
  go_upto_region 7 with (fail)
  refine wp_region_G (w0 := w) [0, 1, 2, 3, 4, 5, 6] [(w.heap.size + 1 + 1 + 1, (wo (s))), (w.heap.size + 1 + 1, (wo (t))), (w.heap.size + 1, (io (fun i => (g i : Int)))), (w.heap.size, (io (fun i => (f i : Int))))] 0 (by kernel_rfl) (by kernel_rfl) rfl EX7.out ?_
  have hone := @EnvC.one _ _ _ (EX7.out.drew)
  (refine wpG_load rfl rfl (w.heap.size + 1) rfl 27 _ _ (fun u hu => EnvC.box hu _ (io (fun i => (g i : Int))) (List.Mem.tail _ (List.Mem.tail _ (List.Mem.head _)))) Try.underlying27 rfl (infoId _ (idF_size _)) ?_ (EX7.out.drew); intro K hK; go_big_quiet_op; go_big_quiet_on)
  (refine wpG_call (f := 22) (args := #[.agg (idF (fun i => (g i : Int)))]) (v := .agg (wcs (b))) rfl rfl rfl Try.func22 rfl rfl (fun u _ => (by have h := of32_any g hg.out u; rw [hnb.out] at h; exact h)) ?_ (EX7.out.drew); intro K hK; go_big_quiet_op; go_big_quiet_on)
  (refine wpG_load rfl rfl (w.heap.size) rfl 27 _ _ (fun u hu => EnvC.box hu _ (io (fun i => (f i : Int))) (List.Mem.tail _ (List.Mem.tail _ (List.Mem.tail _ (List.Mem.head _))))) Try.underlying27 rfl (infoId _ (idF_size _)) ?_ (EX7.out.drew); intro K hK; go_big_quiet_op; go_big_quiet_on)
  (refine wpG_call (f := 22) (args := #[.agg (idF (fun i => (f i : Int)))]) (v := .agg (wcs (a))) rfl rfl rfl Try.func22 rfl rfl (fun u _ => (by have h := of32_any f hf.out u; rw [hna.out] at h; exact h)) ?_ (EX7.out.drew); intro K hK; go_big_quiet_op; go_big_quiet_on)
  (refine wpG_call (f := 18) (args := #[.agg (wcs (b)), .agg (wcs (a))]) (v := .int .i64 c2) rfl rfl rfl Try.func18 rfl rfl (fun u _ => (by rw [← h2.out]; exact cmp_any (b) (a) u hbB.out haB.out)) ?_ (EX7.out.drew); intro K hK; go_big_quiet_op; go_big_quiet_on)
  (refine wpG_op rfl rfl rfl ?_; intro K hK; go_big_quiet_op; go_big_quiet_on)
  (refine wpG_op rfl rfl rfl ?_; intro K hK; go_big_quiet_op; go_big_quiet_on)
  clear hone
  refine wpG_nil ?_
  refine anyG_done (by kernel_rfl) ?_
  rintro u10 ⟨hl2, E2'⟩
  have EX9 := Lib.hid E2'
  clear hl2 E2' EX7
  go_upto_region 8 with (fail)
  refine wp_region_Gx (w0 := w) [0, 1, 2, 3, 4, 5, 6, 7, 8, 9, 10, 11, 12, 13, 14, 15, 16, 17, 18, 19, 20, 21, 22] [] [(w.heap.size + 1 + 1 + 1, (wo (s))), (w.heap.size + 1 + 1, (wo (t))), (w.heap.size + 1, (io (fun i => (g i : Int)))), (w.heap.size, (io (fun i => (f i : Int))))] rfl EX9.out ?_
  have hone := @EnvC.one _ _ _ (EX9.out)
  (refine wpG_op rfl rfl rfl ?_; intro K hK; go_big_quiet_op; go_big_quiet_on)
  (refine wpG_op rfl rfl rfl ?_; intro K hK; go_big_quiet_op; go_big_quiet_on)
  (refine wpG_op rfl rfl rfl ?_; intro K hK; go_big_quiet_op; go_big_quiet_on)
  (refine wpG_load rfl rfl (w.heap.size + 1) rfl 27 _ _ (fun u hu => EnvC.box hu _ (io (fun i => (g i : Int))) (List.Mem.tail _ (List.Mem.tail _ (List.Mem.head _)))) Try.underlying27 rfl (infoId _ (idF_size _)) ?_ (EX9.out); intro K hK; go_big_quiet_op; go_big_quiet_on)
  (refine wpG_load rfl rfl (w.heap.size + 1 + 1) rfl 25 _ _ (fun u hu => EnvC.box hu _ (wo (t)) (List.Mem.tail _ (List.Mem.head _))) Try.underlying25 rfl (wc_info _) ?_ (EX9.out); intro K hK; go_big_quiet_op; go_big_quiet_on)
  (refine wpG_call (f := 16) (args := #[.agg (idF (fun i => (g i : Int))), .agg (wcs (t))]) (v := .int .i64 y) rfl rfl rfl Try.func16 rfl rfl (fun u _ => (by have h := level_any g hg.out t u ht.out; rw [hy.out] at h; exact h)) ?_ (EX9.out); intro K hK; go_big_quiet_op; go_big_quiet_on)
  (refine wpG_op rfl rfl rfl ?_; intro K hK; go_big_quiet_op; go_big_quiet_on)
  (refine wpG_op rfl rfl rfl ?_; intro K hK; go_big_quiet_op; go_big_quiet_on)
  (refine wpG_op rfl rfl rfl ?_; intro K hK; go_big_quiet_op; go_big_quiet_on)
  (refine wpG_op rfl rfl rfl ?_; intro K hK; go_big_quiet_op; go_big_quiet_on)
  (refine wpG_load rfl rfl (w.heap.size + 1 + 1) rfl 25 _ _ (fun u hu => EnvC.box hu _ (wo (t)) (List.Mem.tail _ (List.Mem.head _))) Try.underlying25 rfl (wc_info _) ?_ (EX9.out); intro K hK; go_big_quiet_op; go_big_quiet_on)
  (refine wpG_load rfl rfl (w.heap.size + 1 + 1 + 1) rfl 25 _ _ (fun u hu => EnvC.box hu _ (wo (s)) (List.Mem.head _)) Try.underlying25 rfl (wc_info _) ?_ (EX9.out); intro K hK; go_big_quiet_op; go_big_quiet_on)
  (refine wpG_call (f := 18) (args := #[.agg (wcs (t)), .agg (wcs (s))]) (v := .int .i64 c3) rfl rfl rfl Try.func18 rfl rfl (fun u _ => (by rw [← h3.out]; exact cmp_any (t) (s) u ht.out hs.out)) ?_ (EX9.out); intro K hK; go_big_quiet_op; go_big_quiet_on)
  (refine wpG_op rfl rfl rfl ?_; intro K hK; go_big_quiet_op; go_big_quiet_on)
  (refine wpG_op rfl rfl rfl ?_; intro K hK; go_big_quiet_op; go_big_quiet_on)
  (refine wpG_skip rfl rfl ?_ EX9.out; intro K hK; go_big_quiet_op; go_big_quiet_on)
  (refine wpG_skip rfl rfl ?_ EX9.out; intro K hK; go_big_quiet_op; go_big_quiet_on)
  (refine wpG_skip rfl rfl ?_ EX9.out; intro K hK; go_big_quiet_op; go_big_quiet_on)
  (refine wpG_skip rfl rfl ?_ EX9.out; intro K hK; go_big_quiet_op; go_big_quiet_on)
  (refine wpG_skip rfl rfl ?_ EX9.out; intro K hK; go_big_quiet_op; go_big_quiet_on)
  (refine wpG_op rfl rfl rfl ?_; intro K hK; go_big_quiet_op; go_big_quiet_on)
  (refine wpG_op rfl rfl rfl ?_; intro K hK; go_big_quiet_op; go_big_quiet_on)
  (refine wpG_op rfl rfl rfl ?_; intro K hK; go_big_quiet_op; go_big_quiet_on)
  clear hone
  refine wpG_nil ?_
  rintro u12 ⟨hl2, E2'⟩
  have EX11 := Lib.hid E2'
  clear hl2 E2' EX9
  go_wp2_with fail
  go_ret
  exact ⟨rfl, EX11.out.bel⟩
set_option maxRecDepth 100000 in
set_option maxHeartbeats 8000000 in
theorem lev_ftf (t s a b : Nat) (f g : Nat → Nat) (x c2 c3 : Int) (k d : Nat) (c1 : Int) (hk : k ≤ 31) (hd : Hid (t / 2 ^ k = d)) (hdB : Hid (d < Big)) (h1 : Hid (cmpI a d = c1)) (m1 : ¬ c1 ≤ 0) (m2 : ¬ (k : Int) ≤ x) (m3 : (0 : Int) ≤ (k : Int)) (m4 : (k : Int) ≤ 31) (ht : Hid (t < Big)) (hs : Hid (s < Big)) (haB : Hid (a < Big)) (hbB : Hid (b < Big)) (hf : Hid (∀ i, f i < 256)) (hg : Hid (∀ i, g i < 256)) (hna : Hid (numOf f = a)) (hnb : Hid (numOf g = b)) (hx : Hid (lvI (numOf f) t = x)) (x1 : ¬ x < -1) (x2 : ¬ 31 < x) (h2 : Hid (cmpI b a = c2)) (n2 : c2 ≤ 0) (h3 : Hid (cmpI t s = c3)) (n3 : ¬ 0 < c3) (y : Int) (hy : Hid (lvI (numOf g) t = y)) (y1 : x ≤ y) (z : Int) (hz : Hid (lvI (numOf f) s = z)) (z1 : x ≤ z) (w : World) :
    Calls Try.prog 6 #[.agg (idF (fun i => (f i : Int))), .agg (idF (fun i => (g i : Int))), .agg (wcs (t)), .agg (wcs (s)), .int .i64 (k : Int)] w fun e w' => e = .returned (.bool true) ∧ Below w.heap.size w w' := by
  have E1 : Hid (EnvX w ((((w.alloc (.cells (idF (fun i => (f i : Int))) 27)).alloc (.cells (idF (fun i => (g i : Int))) 27)).alloc (.cells (wcs (t)) 25)).alloc (.cells (wcs (s)) 25)) [(w.heap.size + 1 + 1 + 1, (wo (s))), (w.heap.size + 1 + 1, (wo (t))), (w.heap.size + 1, (io (fun i => (g i : Int)))), (w.heap.size, (io (fun i => (f i : Int))))]) := by
    have h := (((((EnvX.start w).new (io (fun i => (f i : Int)))).new (io (fun i => (g i : Int)))).new (wo (t))).new (wo (s)))
    try simp only [World.size_alloc] at h
    exact h
  go_enter Try.func6, Try.ntmps6
  go_upto_region 1 with (fail)
  generalize ((((w.alloc (.cells (idF (fun i => (f i : Int))) 27)).alloc (.cells (idF (fun i => (g i : Int))) 27)).alloc (.cells (wcs (t)) 25)).alloc (.cells (wcs (s)) 25)) = w1 at *
  refine wp_region_Gx (w0 := w) [0, 1] [] [(w.heap.size + 1 + 1 + 1, (wo (s))), (w.heap.size + 1 + 1, (wo (t))), (w.heap.size + 1, (io (fun i => (g i : Int)))), (w.heap.size, (io (fun i => (f i : Int))))] rfl E1.out ?_
  have hone := @EnvC.one _ _ _ (E1.out)
  (refine wpG_call (f := 9) (args := #[]) (v := .bool true) rfl rfl rfl Try.func9 rfl rfl (fun u _ => awake_any u) ?_ (E1.out); intro K hK; go_big_quiet_op; go_big_quiet_on)
  (refine wpG_op rfl rfl rfl ?_; intro K hK; go_big_quiet_op; go_big_quiet_on)
  clear hone
  refine wpG_nil ?_
  rintro u2 ⟨hl2, E2'⟩
  have EX1 := Lib.hid E2'
  clear hl2 E2' E1
  go_upto_region 2 with (fail)
  refine wp_region_Gx (w0 := w) [0, 1, 2, 3] [] [(w.heap.size + 1 + 1 + 1, (wo (s))), (w.heap.size + 1 + 1, (wo (t))), (w.heap.size + 1, (io (fun i => (g i : Int)))), (w.heap.size, (io (fun i => (f i : Int))))] rfl EX1.out ?_
  have hone := @EnvC.one _ _ _ (EX1.out)
  (refine wpG_load rfl rfl (w.heap.size) rfl 27 _ _ (fun u hu => EnvC.box hu _ (io (fun i => (f i : Int))) (List.Mem.tail _ (List.Mem.tail _ (List.Mem.tail _ (List.Mem.head _))))) Try.underlying27 rfl (infoId _ (idF_size _)) ?_ (EX1.out); intro K hK; go_big_quiet_op; go_big_quiet_on)
  (refine wpG_load rfl rfl (w.heap.size + 1 + 1) rfl 25 _ _ (fun u hu => EnvC.box hu _ (wo (t)) (List.Mem.tail _ (List.Mem.head _))) Try.underlying25 rfl (wc_info _) ?_ (EX1.out); intro K hK; go_big_quiet_op; go_big_quiet_on)
  (refine wpG_call (f := 16) (args := #[.agg (idF (fun i => (f i : Int))), .agg (wcs (t))]) (v := .int .i64 x) rfl rfl rfl Try.func16 rfl rfl (fun u _ => (by have h := level_any f hf.out t u ht.out; rw [hx.out] at h; exact h)) ?_ (EX1.out); intro K hK; go_big_quiet_op; go_big_quiet_on)
  (refine wpG_op rfl rfl rfl ?_; intro K hK; go_big_quiet_op; go_big_quiet_on)
  clear hone
  refine wpG_nil ?_
  rintro u4 ⟨hl2, E2'⟩
  have EX3 := Lib.hid E2'
  clear hl2 E2' EX1
  go_upto_region 3 with (fail)
  refine wp_region_Gx (w0 := w) [0, 1, 2, 3, 4, 5, 6, 7, 8, 9] [] [(w.heap.size + 1 + 1 + 1, (wo (s))), (w.heap.size + 1 + 1, (wo (t))), (w.heap.size + 1, (io (fun i => (g i : Int)))), (w.heap.size, (io (fun i => (f i : Int))))] rfl EX3.out ?_
  have hone := @EnvC.one _ _ _ (EX3.out)
  (refine wpG_op rfl rfl rfl ?_; intro K hK; go_big_quiet_op; go_big_quiet_on)
  (refine wpG_op rfl rfl rfl ?_; intro K hK; go_big_quiet_op; go_big_quiet_on)
  (refine wpG_op rfl rfl rfl ?_; intro K hK; go_big_quiet_op; go_big_quiet_on)
  (refine wpG_op rfl rfl rfl ?_; intro K hK; go_big_quiet_op; go_big_quiet_on)
  (refine wpG_op rfl rfl rfl ?_; intro K hK; go_big_quiet_op; go_big_quiet_on)
  (refine wpG_op rfl rfl rfl ?_; intro K hK; go_big_quiet_op; go_big_quiet_on)
  (refine wpG_op rfl rfl rfl ?_; intro K hK; go_big_quiet_op; go_big_quiet_on)
  (refine wpG_op rfl rfl rfl ?_; intro K hK; go_big_quiet_op; go_big_quiet_on)
  (refine wpG_op rfl rfl rfl ?_; intro K hK; go_big_quiet_op; go_big_quiet_on)
  (refine wpG_op rfl rfl rfl ?_; intro K hK; go_big_quiet_op; go_big_quiet_on)
  clear hone
  refine wpG_nil ?_
  rintro u6 ⟨hl2, E2'⟩
  have EX5 := Lib.hid E2'
  clear hl2 E2' EX3
  go_upto_region 5 with (fail)
  refine wp_region_G (w0 := w) [0, 1, 2, 3, 4, 5, 6, 7, 8, 9, 10, 11, 12, 13, 14, 15, 16, 17, 18] [(w.heap.size + 1 + 1 + 1, (wo (s))), (w.heap.size + 1 + 1, (wo (t))), (w.heap.size + 1, (io (fun i => (g i : Int)))), (w.heap.size, (io (fun i => (f i : Int))))] 0 (by kernel_rfl) (by kernel_rfl) rfl EX5.out ?_
  have hone := @EnvC.one _ _ _ (EX5.out.drew)
  (refine wpG_op rfl rfl rfl ?_; intro K hK; go_big_quiet_op; go_big_quiet_on)
  (refine wpG_op rfl rfl rfl ?_; intro K hK; go_big_quiet_op; go_big_quiet_on)
  (refine wpG_op rfl rfl rfl ?_; intro K hK; go_big_quiet_op; go_big_quiet_on)
  (refine wpG_op rfl rfl rfl ?_; intro K hK; go_big_quiet_op; go_big_quiet_on)
  (refine wpG_op rfl rfl rfl ?_; intro K hK; go_big_quiet_op; go_big_quiet_on)
  (refine wpG_op rfl rfl rfl ?_; intro K hK; go_big_quiet_op; go_big_quiet_on)
  (refine wpG_op rfl rfl rfl ?_; intro K hK; go_big_quiet_op; go_big_quiet_on)
  (refine wpG_op rfl rfl rfl ?_; intro K hK; go_big_quiet_op; go_big_quiet_on)
  (refine wpG_op rfl rfl rfl ?_; intro K hK; go_big_quiet_op; go_big_quiet_on)
  (refine wpG_op rfl rfl rfl ?_; intro K hK; go_big_quiet_op; go_big_quiet_on)
  (refine wpG_load rfl rfl (w.heap.size) rfl 27 _ _ (fun u hu => EnvC.box hu _ (io (fun i => (f i : Int))) (List.Mem.tail _ (List.Mem.tail _ (List.Mem.tail _ (List.Mem.head _))))) Try.underlying27 rfl (infoId _ (idF_size _)) ?_ (EX5.out.drew); intro K hK; go_big_quiet_op; go_big_quiet_on)
  (refine wpG_call (f := 22) (args := #[.agg (idF (fun i => (f i : Int)))]) (v := .agg (wcs (a))) rfl rfl rfl Try.func22 rfl rfl (fun u _ => (by have h := of32_any f hf.out u; rw [hna.out] at h; exact h)) ?_ (EX5.out.drew); intro K hK; go_big_quiet_op; go_big_quiet_on)
  (refine wpG_load rfl rfl (w.heap.size + 1 + 1) rfl 25 _ _ (fun u hu => EnvC.box hu _ (wo (t)) (List.Mem.tail _ (List.Mem.head _))) Try.underlying25 rfl (wc_info _) ?_ (EX5.out.drew); intro K hK; go_big_quiet_op; go_big_quiet_on)
  (refine wpG_op rfl rfl rfl ?_; intro K hK; go_big_quiet_op; go_big_quiet_on)
  (refine wpG_call (f := 23) (args := #[.agg (wcs (t)), .int .i64 (k : Int)]) (v := .agg (wcs (d))) rfl rfl rfl Try.func23 rfl rfl (fun u _ => (by have h := down_any t k u ht.out (by omega); rw [hd.out] at h; exact h)) ?_ (EX5.out.drew); intro K hK; go_big_quiet_op; go_big_quiet_on)
  (refine wpG_call (f := 18) (args := #[.agg (wcs (a)), .agg (wcs (d))]) (v := .int .i64 c1) rfl rfl rfl Try.func18 rfl rfl (fun u _ => (by rw [← h1.out]; exact cmp_any (a) (d) u haB.out hdB.out)) ?_ (EX5.out.drew); intro K hK; go_big_quiet_op; go_big_quiet_on)
  (refine wpG_op rfl rfl rfl ?_; intro K hK; go_big_quiet_op; go_big_quiet_on)
  (refine wpG_op rfl rfl rfl ?_; intro K hK; go_big_quiet_op; go_big_quiet_on)
  (refine wpG_op rfl rfl rfl ?_; intro K hK; go_big_quiet_op; go_big_quiet_on)
  clear hone
  refine wpG_nil ?_
  refine anyG_done (by kernel_rfl) ?_
  rintro u8 ⟨hl2, E2'⟩
  have EX7 := Lib.hid E2'
  clear hl2 E2' EX5
  go_upto_region 7 with (fail)
  refine wp_region_G (w0 := w) [0, 1, 2, 3, 4, 5, 6] [(w.heap.size + 1 + 1 + 1, (wo (s))), (w.heap.size + 1 + 1, (wo (t))), (w.heap.size + 1, (io (fun i => (g i : Int)))), (w.heap.size, (io (fun i => (f i : Int))))] 0 (by kernel_rfl) (by kernel_rfl) rfl EX7.out ?_
  have hone := @EnvC.one _ _ _ (EX7.out.drew)
  (refine wpG_load rfl rfl (w.heap.size + 1) rfl 27 _ _ (fun u hu => EnvC.box hu _ (io (fun i => (g i : Int))) (List.Mem.tail _ (List.Mem.tail _ (List.Mem.head _)))) Try.underlying27 rfl (infoId _ (idF_size _)) ?_ (EX7.out.drew); intro K hK; go_big_quiet_op; go_big_quiet_on)
  (refine wpG_call (f := 22) (args := #[.agg (idF (fun i => (g i : Int)))]) (v := .agg (wcs (b))) rfl rfl rfl Try.func22 rfl rfl (fun u _ => (by have h := of32_any g hg.out u; rw [hnb.out] at h; exact h)) ?_ (EX7.out.drew); intro K hK; go_big_quiet_op; go_big_quiet_on)
  (refine wpG_load rfl rfl (w.heap.size) rfl 27 _ _ (fun u hu => EnvC.box hu _ (io (fun i => (f i : Int))) (List.Mem.tail _ (List.Mem.tail _ (List.Mem.tail _ (List.Mem.head _))))) Try.underlying27 rfl (infoId _ (idF_size _)) ?_ (EX7.out.drew); intro K hK; go_big_quiet_op; go_big_quiet_on)
  (refine wpG_call (f := 22) (args := #[.agg (idF (fun i => (f i : Int)))]) (v := .agg (wcs (a))) rfl rfl rfl Try.func22 rfl rfl (fun u _ => (by have h := of32_any f hf.out u; rw [hna.out] at h; exact h)) ?_ (EX7.out.drew); intro K hK; go_big_quiet_op; go_big_quiet_on)
  (refine wpG_call (f := 18) (args := #[.agg (wcs (b)), .agg (wcs (a))]) (v := .int .i64 c2) rfl rfl rfl Try.func18 rfl rfl (fun u _ => (by rw [← h2.out]; exact cmp_any (b) (a) u hbB.out haB.out)) ?_ (EX7.out.drew); intro K hK; go_big_quiet_op; go_big_quiet_on)
  (refine wpG_op rfl rfl rfl ?_; intro K hK; go_big_quiet_op; go_big_quiet_on)
  (refine wpG_op rfl rfl rfl ?_; intro K hK; go_big_quiet_op; go_big_quiet_on)
  clear hone
  refine wpG_nil ?_
  refine anyG_done (by kernel_rfl) ?_
  rintro u10 ⟨hl2, E2'⟩
  have EX9 := Lib.hid E2'
  clear hl2 E2' EX7
  go_upto_region 8 with (fail)
  refine wp_region_Gx (w0 := w) [0, 1, 2, 3, 4, 5, 6, 7, 8, 9, 10, 11, 12, 13, 14, 15, 16, 17, 18, 19, 20, 21, 22] [] [(w.heap.size + 1 + 1 + 1, (wo (s))), (w.heap.size + 1 + 1, (wo (t))), (w.heap.size + 1, (io (fun i => (g i : Int)))), (w.heap.size, (io (fun i => (f i : Int))))] rfl EX9.out ?_
  have hone := @EnvC.one _ _ _ (EX9.out)
  (refine wpG_op rfl rfl rfl ?_; intro K hK; go_big_quiet_op; go_big_quiet_on)
  (refine wpG_op rfl rfl rfl ?_; intro K hK; go_big_quiet_op; go_big_quiet_on)
  (refine wpG_op rfl rfl rfl ?_; intro K hK; go_big_quiet_op; go_big_quiet_on)
  (refine wpG_load rfl rfl (w.heap.size + 1) rfl 27 _ _ (fun u hu => EnvC.box hu _ (io (fun i => (g i : Int))) (List.Mem.tail _ (List.Mem.tail _ (List.Mem.head _)))) Try.underlying27 rfl (infoId _ (idF_size _)) ?_ (EX9.out); intro K hK; go_big_quiet_op; go_big_quiet_on)
  (refine wpG_load rfl rfl (w.heap.size + 1 + 1) rfl 25 _ _ (fun u hu => EnvC.box hu _ (wo (t)) (List.Mem.tail _ (List.Mem.head _))) Try.underlying25 rfl (wc_info _) ?_ (EX9.out); intro K hK; go_big_quiet_op; go_big_quiet_on)
  (refine wpG_call (f := 16) (args := #[.agg (idF (fun i => (g i : Int))), .agg (wcs (t))]) (v := .int .i64 y) rfl rfl rfl Try.func16 rfl rfl (fun u _ => (by have h := level_any g hg.out t u ht.out; rw [hy.out] at h; exact h)) ?_ (EX9.out); intro K hK; go_big_quiet_op; go_big_quiet_on)
  (refine wpG_op rfl rfl rfl ?_; intro K hK; go_big_quiet_op; go_big_quiet_on)
  (refine wpG_op rfl rfl rfl ?_; intro K hK; go_big_quiet_op; go_big_quiet_on)
  (refine wpG_op rfl rfl rfl ?_; intro K hK; go_big_quiet_op; go_big_quiet_on)
  (refine wpG_op rfl rfl rfl ?_; intro K hK; go_big_quiet_op; go_big_quiet_on)
  (refine wpG_load rfl rfl (w.heap.size + 1 + 1) rfl 25 _ _ (fun u hu => EnvC.box hu _ (wo (t)) (List.Mem.tail _ (List.Mem.head _))) Try.underlying25 rfl (wc_info _) ?_ (EX9.out); intro K hK; go_big_quiet_op; go_big_quiet_on)
  (refine wpG_load rfl rfl (w.heap.size + 1 + 1 + 1) rfl 25 _ _ (fun u hu => EnvC.box hu _ (wo (s)) (List.Mem.head _)) Try.underlying25 rfl (wc_info _) ?_ (EX9.out); intro K hK; go_big_quiet_op; go_big_quiet_on)
  (refine wpG_call (f := 18) (args := #[.agg (wcs (t)), .agg (wcs (s))]) (v := .int .i64 c3) rfl rfl rfl Try.func18 rfl rfl (fun u _ => (by rw [← h3.out]; exact cmp_any (t) (s) u ht.out hs.out)) ?_ (EX9.out); intro K hK; go_big_quiet_op; go_big_quiet_on)
  (refine wpG_op rfl rfl rfl ?_; intro K hK; go_big_quiet_op; go_big_quiet_on)
  (refine wpG_op rfl rfl rfl ?_; intro K hK; go_big_quiet_op; go_big_quiet_on)
  (refine wpG_load rfl rfl (w.heap.size) rfl 27 _ _ (fun u hu => EnvC.box hu _ (io (fun i => (f i : Int))) (List.Mem.tail _ (List.Mem.tail _ (List.Mem.tail _ (List.Mem.head _))))) Try.underlying27 rfl (infoId _ (idF_size _)) ?_ (EX9.out); intro K hK; go_big_quiet_op; go_big_quiet_on)
  (refine wpG_load rfl rfl (w.heap.size + 1 + 1 + 1) rfl 25 _ _ (fun u hu => EnvC.box hu _ (wo (s)) (List.Mem.head _)) Try.underlying25 rfl (wc_info _) ?_ (EX9.out); intro K hK; go_big_quiet_op; go_big_quiet_on)
  (refine wpG_call (f := 16) (args := #[.agg (idF (fun i => (f i : Int))), .agg (wcs (s))]) (v := .int .i64 z) rfl rfl rfl Try.func16 rfl rfl (fun u _ => (by have h := level_any f hf.out s u hs.out; rw [hz.out] at h; exact h)) ?_ (EX9.out); intro K hK; go_big_quiet_op; go_big_quiet_on)
  (refine wpG_op rfl rfl rfl ?_; intro K hK; go_big_quiet_op; go_big_quiet_on)
  (refine wpG_op rfl rfl rfl ?_; intro K hK; go_big_quiet_op; go_big_quiet_on)
  (refine wpG_op rfl rfl rfl ?_; intro K hK; go_big_quiet_op; go_big_quiet_on)
  (refine wpG_op rfl rfl rfl ?_; intro K hK; go_big_quiet_op; go_big_quiet_on)
  (refine wpG_op rfl rfl rfl ?_; intro K hK; go_big_quiet_op; go_big_quiet_on)
  clear hone
  refine wpG_nil ?_
  rintro u12 ⟨hl2, E2'⟩
  have EX11 := Lib.hid E2'
  clear hl2 E2' EX9
  go_wp2_with fail
  go_ret
  exact ⟨rfl, EX11.out.bel⟩
set_option maxRecDepth 100000 in
set_option maxHeartbeats 8000000 in
theorem lev_fft (t s a b : Nat) (f g : Nat → Nat) (x c2 c3 : Int) (k d : Nat) (c1 : Int) (hk : k ≤ 31) (hd : Hid (t / 2 ^ k = d)) (hdB : Hid (d < Big)) (h1 : Hid (cmpI a d = c1)) (m1 : ¬ c1 ≤ 0) (m2 : ¬ (k : Int) ≤ x) (m3 : (0 : Int) ≤ (k : Int)) (m4 : (k : Int) ≤ 31) (ht : Hid (t < Big)) (hs : Hid (s < Big)) (haB : Hid (a < Big)) (hbB : Hid (b < Big)) (hf : Hid (∀ i, f i < 256)) (hg : Hid (∀ i, g i < 256)) (hna : Hid (numOf f = a)) (hnb : Hid (numOf g = b)) (hx : Hid (lvI (numOf f) t = x)) (x1 : ¬ x < -1) (x2 : ¬ 31 < x) (h2 : Hid (cmpI b a = c2)) (n2 : ¬ c2 ≤ 0) (h3 : Hid (cmpI t s = c3)) (n3 : 0 < c3) (w : World) :
    Calls Try.prog 6 #[.agg (idF (fun i => (f i : Int))), .agg (idF (fun i => (g i : Int))), .agg (wcs (t)), .agg (wcs (s)), .int .i64 (k : Int)] w fun e w' => e = .returned (.bool true) ∧ Below w.heap.size w w' := by
  have E1 : Hid (EnvX w ((((w.alloc (.cells (idF (fun i => (f i : Int))) 27)).alloc (.cells (idF (fun i => (g i : Int))) 27)).alloc (.cells (wcs (t)) 25)).alloc (.cells (wcs (s)) 25)) [(w.heap.size + 1 + 1 + 1, (wo (s))), (w.heap.size + 1 + 1, (wo (t))), (w.heap.size + 1, (io (fun i => (g i : Int)))), (w.heap.size, (io (fun i => (f i : Int))))]) := by
    have h := (((((EnvX.start w).new (io (fun i => (f i : Int)))).new (io (fun i => (g i : Int)))).new (wo (t))).new (wo (s)))
    try simp only [World.size_alloc] at h
    exact h
  go_enter Try.func6, Try.ntmps6
  go_upto_region 1 with (fail)
  generalize ((((w.alloc (.cells (idF (fun i => (f i : Int))) 27)).alloc (.cells (idF (fun i => (g i : Int))) 27)).alloc (.cells (wcs (t)) 25)).alloc (.cells (wcs (s)) 25)) = w1 at *
  refine wp_region_Gx (w0 := w) [0, 1] [] [(w.heap.size + 1 + 1 + 1, (wo (s))), (w.heap.size + 1 + 1, (wo (t))), (w.heap.size + 1, (io (fun i => (g i : Int)))), (w.heap.size, (io (fun i => (f i : Int))))] rfl E1.out ?_
  have hone := @EnvC.one _ _ _ (E1.out)
  (refine wpG_call (f := 9) (args := #[]) (v := .bool true) rfl rfl rfl Try.func9 rfl rfl (fun u _ => awake_any u) ?_ (E1.out); intro K hK; go_big_quiet_op; go_big_quiet_on)
  (refine wpG_op rfl rfl rfl ?_; intro K hK; go_big_quiet_op; go_big_quiet_on)
  clear hone
  refine wpG_nil ?_
  rintro u2 ⟨hl2, E2'⟩
  have EX1 := Lib.hid E2'
  clear hl2 E2' E1
  go_upto_region 2 with (fail)
  refine wp_region_Gx (w0 := w) [0, 1, 2, 3] [] [(w.heap.size + 1 + 1 + 1, (wo (s))), (w.heap.size + 1 + 1, (wo (t))), (w.heap.size + 1, (io (fun i => (g i : Int)))), (w.heap.size, (io (fun i => (f i : Int))))] rfl EX1.out ?_
  have hone := @EnvC.one _ _ _ (EX1.out)
  (refine wpG_load rfl rfl (w.heap.size) rfl 27 _ _ (fun u hu => EnvC.box hu _ (io (fun i => (f i : Int))) (List.Mem.tail _ (List.Mem.tail _ (List.Mem.tail _ (List.Mem.head _))))) Try.underlying27 rfl (infoId _ (idF_size _)) ?_ (EX1.out); intro K hK; go_big_quiet_op; go_big_quiet_on)
  (refine wpG_load rfl rfl (w.heap.size + 1 + 1) rfl 25 _ _ (fun u hu => EnvC.box hu _ (wo (t)) (List.Mem.tail _ (List.Mem.head _))) Try.underlying25 rfl (wc_info _) ?_ (EX1.out); intro K hK; go_big_quiet_op; go_big_quiet_on)
  (refine wpG_call (f := 16) (args := #[.agg (idF (fun i => (f i : Int))), .agg (wcs (t))]) (v := .int .i64 x) rfl rfl rfl Try.func16 rfl rfl (fun u _ => (by have h := level_any f hf.out t u ht.out; rw [hx.out] at h; exact h)) ?_ (EX1.out); intro K hK; go_big_quiet_op; go_big_quiet_on)
  (refine wpG_op rfl rfl rfl ?_; intro K hK; go_big_quiet_op; go_big_quiet_on)
  clear hone
  refine wpG_nil ?_
  rintro u4 ⟨hl2, E2'⟩
  have EX3 := Lib.hid E2'
  clear hl2 E2' EX1
  go_upto_region 3 with (fail)
  refine wp_region_Gx (w0 := w) [0, 1, 2, 3, 4, 5, 6, 7, 8, 9] [] [(w.heap.size + 1 + 1 + 1, (wo (s))), (w.heap.size + 1 + 1, (wo (t))), (w.heap.size + 1, (io (fun i => (g i : Int)))), (w.heap.size, (io (fun i => (f i : Int))))] rfl EX3.out ?_
  have hone := @EnvC.one _ _ _ (EX3.out)
  (refine wpG_op rfl rfl rfl ?_; intro K hK; go_big_quiet_op; go_big_quiet_on)
  (refine wpG_op rfl rfl rfl ?_; intro K hK; go_big_quiet_op; go_big_quiet_on)
  (refine wpG_op rfl rfl rfl ?_; intro K hK; go_big_quiet_op; go_big_quiet_on)
  (refine wpG_op rfl rfl rfl ?_; intro K hK; go_big_quiet_op; go_big_quiet_on)
  (refine wpG_op rfl rfl rfl ?_; intro K hK; go_big_quiet_op; go_big_quiet_on)
  (refine wpG_op rfl rfl rfl ?_; intro K hK; go_big_quiet_op; go_big_quiet_on)
  (refine wpG_op rfl rfl rfl ?_; intro K hK; go_big_quiet_op; go_big_quiet_on)
  (refine wpG_op rfl rfl rfl ?_; intro K hK; go_big_quiet_op; go_big_quiet_on)
  (refine wpG_op rfl rfl rfl ?_; intro K hK; go_big_quiet_op; go_big_quiet_on)
  (refine wpG_op rfl rfl rfl ?_; intro K hK; go_big_quiet_op; go_big_quiet_on)
  clear hone
  refine wpG_nil ?_
  rintro u6 ⟨hl2, E2'⟩
  have EX5 := Lib.hid E2'
  clear hl2 E2' EX3
  go_upto_region 5 with (fail)
  refine wp_region_G (w0 := w) [0, 1, 2, 3, 4, 5, 6, 7, 8, 9, 10, 11, 12, 13, 14, 15, 16, 17, 18] [(w.heap.size + 1 + 1 + 1, (wo (s))), (w.heap.size + 1 + 1, (wo (t))), (w.heap.size + 1, (io (fun i => (g i : Int)))), (w.heap.size, (io (fun i => (f i : Int))))] 0 (by kernel_rfl) (by kernel_rfl) rfl EX5.out ?_
  have hone := @EnvC.one _ _ _ (EX5.out.drew)
  (refine wpG_op rfl rfl rfl ?_; intro K hK; go_big_quiet_op; go_big_quiet_on)
  (refine wpG_op rfl rfl rfl ?_; intro K hK; go_big_quiet_op; go_big_quiet_on)
  (refine wpG_op rfl rfl rfl ?_; intro K hK; go_big_quiet_op; go_big_quiet_on)
  (refine wpG_op rfl rfl rfl ?_; intro K hK; go_big_quiet_op; go_big_quiet_on)
  (refine wpG_op rfl rfl rfl ?_; intro K hK; go_big_quiet_op; go_big_quiet_on)
  (refine wpG_op rfl rfl rfl ?_; intro K hK; go_big_quiet_op; go_big_quiet_on)
  (refine wpG_op rfl rfl rfl ?_; intro K hK; go_big_quiet_op; go_big_quiet_on)
  (refine wpG_op rfl rfl rfl ?_; intro K hK; go_big_quiet_op; go_big_quiet_on)
  (refine wpG_op rfl rfl rfl ?_; intro K hK; go_big_quiet_op; go_big_quiet_on)
  (refine wpG_op rfl rfl rfl ?_; intro K hK; go_big_quiet_op; go_big_quiet_on)
  (refine wpG_load rfl rfl (w.heap.size) rfl 27 _ _ (fun u hu => EnvC.box hu _ (io (fun i => (f i : Int))) (List.Mem.tail _ (List.Mem.tail _ (List.Mem.tail _ (List.Mem.head _))))) Try.underlying27 rfl (infoId _ (idF_size _)) ?_ (EX5.out.drew); intro K hK; go_big_quiet_op; go_big_quiet_on)
  (refine wpG_call (f := 22) (args := #[.agg (idF (fun i => (f i : Int)))]) (v := .agg (wcs (a))) rfl rfl rfl Try.func22 rfl rfl (fun u _ => (by have h := of32_any f hf.out u; rw [hna.out] at h; exact h)) ?_ (EX5.out.drew); intro K hK; go_big_quiet_op; go_big_quiet_on)
  (refine wpG_load rfl rfl (w.heap.size + 1 + 1) rfl 25 _ _ (fun u hu => EnvC.box hu _ (wo (t)) (List.Mem.tail _ (List.Mem.head _))) Try.underlying25 rfl (wc_info _) ?_ (EX5.out.drew); intro K hK; go_big_quiet_op; go_big_quiet_on)
  (refine wpG_op rfl rfl rfl ?_; intro K hK; go_big_quiet_op; go_big_quiet_on)
  (refine wpG_call (f := 23) (args := #[.agg (wcs (t)), .int .i64 (k : Int)]) (v := .agg (wcs (d))) rfl rfl rfl Try.func23 rfl rfl (fun u _ => (by have h := down_any t k u ht.out (by omega); rw [hd.out] at h; exact h)) ?_ (EX5.out.drew); intro K hK; go_big_quiet_op; go_big_quiet_on)
  (refine wpG_call (f := 18) (args := #[.agg (wcs (a)), .agg (wcs (d))]) (v := .int .i64 c1) rfl rfl rfl Try.func18 rfl rfl (fun u _ => (by rw [← h1.out]; exact cmp_any (a) (d) u haB.out hdB.out)) ?_ (EX5.out.drew); intro K hK; go_big_quiet_op; go_big_quiet_on)
  (refine wpG_op rfl rfl rfl ?_; intro K hK; go_big_quiet_op; go_big_quiet_on)
  (refine wpG_op rfl rfl rfl ?_; intro K hK; go_big_quiet_op; go_big_quiet_on)
  (refine wpG_op rfl rfl rfl ?_; intro K hK; go_big_quiet_op; go_big_quiet_on)
  clear hone
  refine wpG_nil ?_
  refine anyG_done (by kernel_rfl) ?_
  rintro u8 ⟨hl2, E2'⟩
  have EX7 := Lib.hid E2'
  clear hl2 E2' EX5
  go_upto_region 7 with (fail)
  refine wp_region_G (w0 := w) [0, 1, 2, 3, 4, 5, 6] [(w.heap.size + 1 + 1 + 1, (wo (s))), (w.heap.size + 1 + 1, (wo (t))), (w.heap.size + 1, (io (fun i => (g i : Int)))), (w.heap.size, (io (fun i => (f i : Int))))] 0 (by kernel_rfl) (by kernel_rfl) rfl EX7.out ?_
  have hone := @EnvC.one _ _ _ (EX7.out.drew)
  (refine wpG_load rfl rfl (w.heap.size + 1) rfl 27 _ _ (fun u hu => EnvC.box hu _ (io (fun i => (g i : Int))) (List.Mem.tail _ (List.Mem.tail _ (List.Mem.head _)))) Try.underlying27 rfl (infoId _ (idF_size _)) ?_ (EX7.out.drew); intro K hK; go_big_quiet_op; go_big_quiet_on)
  (refine wpG_call (f := 22) (args := #[.agg (idF (fun i => (g i : Int)))]) (v := .agg (wcs (b))) rfl rfl rfl Try.func22 rfl rfl (fun u _ => (by have h := of32_any g hg.out u; rw [hnb.out] at h; exact h)) ?_ (EX7.out.drew); intro K hK; go_big_quiet_op; go_big_quiet_on)
  (refine wpG_load rfl rfl (w.heap.size) rfl 27 _ _ (fun u hu => EnvC.box hu _ (io (fun i => (f i : Int))) (List.Mem.tail _ (List.Mem.tail _ (List.Mem.tail _ (List.Mem.head _))))) Try.underlying27 rfl (infoId _ (idF_size _)) ?_ (EX7.out.drew); intro K hK; go_big_quiet_op; go_big_quiet_on)
  (refine wpG_call (f := 22) (args := #[.agg (idF (fun i => (f i : Int)))]) (v := .agg (wcs (a))) rfl rfl rfl Try.func22 rfl rfl (fun u _ => (by have h := of32_any f hf.out u; rw [hna.out] at h; exact h)) ?_ (EX7.out.drew); intro K hK; go_big_quiet_op; go_big_quiet_on)
  (refine wpG_call (f := 18) (args := #[.agg (wcs (b)), .agg (wcs (a))]) (v := .int .i64 c2) rfl rfl rfl Try.func18 rfl rfl (fun u _ => (by rw [← h2.out]; exact cmp_any (b) (a) u hbB.out haB.out)) ?_ (EX7.out.drew); intro K hK; go_big_quiet_op; go_big_quiet_on)
  (refine wpG_op rfl rfl rfl ?_; intro K hK; go_big_quiet_op; go_big_quiet_on)
  (refine wpG_op rfl rfl rfl ?_; intro K hK; go_big_quiet_op; go_big_quiet_on)
  clear hone
  refine wpG_nil ?_
  refine anyG_done (by kernel_rfl) ?_
  rintro u10 ⟨hl2, E2'⟩
  have EX9 := Lib.hid E2'
  clear hl2 E2' EX7
  go_upto_region 8 with (fail)
  refine wp_region_Gx (w0 := w) [0, 1, 2, 3, 4, 5, 6, 7, 8, 9, 10, 11, 12, 13, 14, 15, 16, 17, 18, 19, 20, 21, 22] [] [(w.heap.size + 1 + 1 + 1, (wo (s))), (w.heap.size + 1 + 1, (wo (t))), (w.heap.size + 1, (io (fun i => (g i : Int)))), (w.heap.size, (io (fun i => (f i : Int))))] rfl EX9.out ?_
  have hone := @EnvC.one _ _ _ (EX9.out)
  (refine wpG_op rfl rfl rfl ?_; intro K hK; go_big_quiet_op; go_big_quiet_on)
  (refine wpG_op rfl rfl rfl ?_; intro K hK; go_big_quiet_op; go_big_quiet_on)
  (refine wpG_op rfl rfl rfl ?_; intro K hK; go_big_quiet_op; go_big_quiet_on)
  (refine wpG_skip rfl rfl ?_ EX9.out; intro K hK; go_big_quiet_op; go_big_quiet_on)
  (refine wpG_skip rfl rfl ?_ EX9.out; intro K hK; go_big_quiet_op; go_big_quiet_on)
  (refine wpG_skip rfl rfl ?_ EX9.out; intro K hK; go_big_quiet_op; go_big_quiet_on)
  (refine wpG_skip rfl rfl ?_ EX9.out; intro K hK; go_big_quiet_op; go_big_quiet_on)
  (refine wpG_skip rfl rfl ?_ EX9.out; intro K hK; go_big_quiet_op; go_big_quiet_on)
  (refine wpG_op rfl rfl rfl ?_; intro K hK; go_big_quiet_op; go_big_quiet_on)
  (refine wpG_op rfl rfl rfl ?_; intro K hK; go_big_quiet_op; go_big_quiet_on)
  (refine wpG_load rfl rfl (w.heap.size + 1 + 1) rfl 25 _ _ (fun u hu => EnvC.box hu _ (wo (t)) (List.Mem.tail _ (List.Mem.head _))) Try.underlying25 rfl (wc_info _) ?_ (EX9.out); intro K hK; go_big_quiet_op; go_big_quiet_on)
  (refine wpG_load rfl rfl (w.heap.size + 1 + 1 + 1) rfl 25 _ _ (fun u hu => EnvC.box hu _ (wo (s)) (List.Mem.head _)) Try.underlying25 rfl (wc_info _) ?_ (EX9.out); intro K hK; go_big_quiet_op; go_big_quiet_on)
  (refine wpG_call (f := 18) (args := #[.agg (wcs (t)), .agg (wcs (s))]) (v := .int .i64 c3) rfl rfl rfl Try.func18 rfl rfl (fun u _ => (by rw [← h3.out]; exact cmp_any (t) (s) u ht.out hs.out)) ?_ (EX9.out); intro K hK; go_big_quiet_op; go_big_quiet_on)
  (refine wpG_op rfl rfl rfl ?_; intro K hK; go_big_quiet_op; go_big_quiet_on)
  (refine wpG_op rfl rfl rfl ?_; intro K hK; go_big_quiet_op; go_big_quiet_on)
  (refine wpG_skip rfl rfl ?_ EX9.out; intro K hK; go_big_quiet_op; go_big_quiet_on)
  (refine wpG_skip rfl rfl ?_ EX9.out; intro K hK; go_big_quiet_op; go_big_quiet_on)
  (refine wpG_skip rfl rfl ?_ EX9.out; intro K hK; go_big_quiet_op; go_big_quiet_on)
  (refine wpG_skip rfl rfl ?_ EX9.out; intro K hK; go_big_quiet_op; go_big_quiet_on)
  (refine wpG_skip rfl rfl ?_ EX9.out; intro K hK; go_big_quiet_op; go_big_quiet_on)
  (refine wpG_op rfl rfl rfl ?_; intro K hK; go_big_quiet_op; go_big_quiet_on)
  (refine wpG_op rfl rfl rfl ?_; intro K hK; go_big_quiet_op; go_big_quiet_on)
  (refine wpG_op rfl rfl rfl ?_; intro K hK; go_big_quiet_op; go_big_quiet_on)
  clear hone
  refine wpG_nil ?_
  rintro u12 ⟨hl2, E2'⟩
  have EX11 := Lib.hid E2'
  clear hl2 E2' EX9
  go_wp2_with fail
  go_ret
  exact ⟨rfl, EX11.out.bel⟩
set_option maxRecDepth 100000 in
set_option maxHeartbeats 8000000 in
theorem lev_fff (t s a b : Nat) (f g : Nat → Nat) (x c2 c3 : Int) (k d : Nat) (c1 : Int) (hk : k ≤ 31) (hd : Hid (t / 2 ^ k = d)) (hdB : Hid (d < Big)) (h1 : Hid (cmpI a d = c1)) (m1 : ¬ c1 ≤ 0) (m2 : ¬ (k : Int) ≤ x) (m3 : (0 : Int) ≤ (k : Int)) (m4 : (k : Int) ≤ 31) (ht : Hid (t < Big)) (hs : Hid (s < Big)) (haB : Hid (a < Big)) (hbB : Hid (b < Big)) (hf : Hid (∀ i, f i < 256)) (hg : Hid (∀ i, g i < 256)) (hna : Hid (numOf f = a)) (hnb : Hid (numOf g = b)) (hx : Hid (lvI (numOf f) t = x)) (x1 : ¬ x < -1) (x2 : ¬ 31 < x) (h2 : Hid (cmpI b a = c2)) (n2 : ¬ c2 ≤ 0) (h3 : Hid (cmpI t s = c3)) (n3 : ¬ 0 < c3) (z : Int) (hz : Hid (lvI (numOf f) s = z)) (z1 : x ≤ z) (w : World) :
    Calls Try.prog 6 #[.agg (idF (fun i => (f i : Int))), .agg (idF (fun i => (g i : Int))), .agg (wcs (t)), .agg (wcs (s)), .int .i64 (k : Int)] w fun e w' => e = .returned (.bool true) ∧ Below w.heap.size w w' := by
  have E1 : Hid (EnvX w ((((w.alloc (.cells (idF (fun i => (f i : Int))) 27)).alloc (.cells (idF (fun i => (g i : Int))) 27)).alloc (.cells (wcs (t)) 25)).alloc (.cells (wcs (s)) 25)) [(w.heap.size + 1 + 1 + 1, (wo (s))), (w.heap.size + 1 + 1, (wo (t))), (w.heap.size + 1, (io (fun i => (g i : Int)))), (w.heap.size, (io (fun i => (f i : Int))))]) := by
    have h := (((((EnvX.start w).new (io (fun i => (f i : Int)))).new (io (fun i => (g i : Int)))).new (wo (t))).new (wo (s)))
    try simp only [World.size_alloc] at h
    exact h
  go_enter Try.func6, Try.ntmps6
  go_upto_region 1 with (fail)
  generalize ((((w.alloc (.cells (idF (fun i => (f i : Int))) 27)).alloc (.cells (idF (fun i => (g i : Int))) 27)).alloc (.cells (wcs (t)) 25)).alloc (.cells (wcs (s)) 25)) = w1 at *
  refine wp_region_Gx (w0 := w) [0, 1] [] [(w.heap.size + 1 + 1 + 1, (wo (s))), (w.heap.size + 1 + 1, (wo (t))), (w.heap.size + 1, (io (fun i => (g i : Int)))), (w.heap.size, (io (fun i => (f i : Int))))] rfl E1.out ?_
  have hone := @EnvC.one _ _ _ (E1.out)
  (refine wpG_call (f := 9) (args := #[]) (v := .bool true) rfl rfl rfl Try.func9 rfl rfl (fun u _ => awake_any u) ?_ (E1.out); intro K hK; go_big_quiet_op; go_big_quiet_on)
  (refine wpG_op rfl rfl rfl ?_; intro K hK; go_big_quiet_op; go_big_quiet_on)
  clear hone
  refine wpG_nil ?_
  rintro u2 ⟨hl2, E2'⟩
  have EX1 := Lib.hid E2'
  clear hl2 E2' E1
  go_upto_region 2 with (fail)
  refine wp_region_Gx (w0 := w) [0, 1, 2, 3] [] [(w.heap.size + 1 + 1 + 1, (wo (s))), (w.heap.size + 1 + 1, (wo (t))), (w.heap.size + 1, (io (fun i => (g i : Int)))), (w.heap.size, (io (fun i => (f i : Int))))] rfl EX1.out ?_
  have hone := @EnvC.one _ _ _ (EX1.out)
  (refine wpG_load rfl rfl (w.heap.size) rfl 27 _ _ (fun u hu => EnvC.box hu _ (io (fun i => (f i : Int))) (List.Mem.tail _ (List.Mem.tail _ (List.Mem.tail _ (List.Mem.head _))))) Try.underlying27 rfl (infoId _ (idF_size _)) ?_ (EX1.out); intro K hK; go_big_quiet_op; go_big_quiet_on)
  (refine wpG_load rfl rfl (w.heap.size + 1 + 1) rfl 25 _ _ (fun u hu => EnvC.box hu _ (wo (t)) (List.Mem.tail _ (List.Mem.head _))) Try.underlying25 rfl (wc_info _) ?_ (EX1.out); intro K hK; go_big_quiet_op; go_big_quiet_on)
  (refine wpG_call (f := 16) (args := #[.agg (idF (fun i => (f i : Int))), .agg (wcs (t))]) (v := .int .i64 x) rfl rfl rfl Try.func16 rfl rfl (fun u _ => (by have h := level_any f hf.out t u ht.out; rw [hx.out] at h; exact h)) ?_ (EX1.out); intro K hK; go_big_quiet_op; go_big_quiet_on)
  (refine wpG_op rfl rfl rfl ?_; intro K hK; go_big_quiet_op; go_big_quiet_on)
  clear hone
  refine wpG_nil ?_
  rintro u4 ⟨hl2, E2'⟩
  have EX3 := Lib.hid E2'
  clear hl2 E2' EX1
  go_upto_region 3 with (fail)
  refine wp_region_Gx (w0 := w) [0, 1, 2, 3, 4, 5, 6, 7, 8, 9] [] [(w.heap.size + 1 + 1 + 1, (wo (s))), (w.heap.size + 1 + 1, (wo (t))), (w.heap.size + 1, (io (fun i => (g i : Int)))), (w.heap.size, (io (fun i => (f i : Int))))] rfl EX3.out ?_
  have hone := @EnvC.one _ _ _ (EX3.out)
  (refine wpG_op rfl rfl rfl ?_; intro K hK; go_big_quiet_op; go_big_quiet_on)
  (refine wpG_op rfl rfl rfl ?_; intro K hK; go_big_quiet_op; go_big_quiet_on)
  (refine wpG_op rfl rfl rfl ?_; intro K hK; go_big_quiet_op; go_big_quiet_on)
  (refine wpG_op rfl rfl rfl ?_; intro K hK; go_big_quiet_op; go_big_quiet_on)
  (refine wpG_op rfl rfl rfl ?_; intro K hK; go_big_quiet_op; go_big_quiet_on)
  (refine wpG_op rfl rfl rfl ?_; intro K hK; go_big_quiet_op; go_big_quiet_on)
  (refine wpG_op rfl rfl rfl ?_; intro K hK; go_big_quiet_op; go_big_quiet_on)
  (refine wpG_op rfl rfl rfl ?_; intro K hK; go_big_quiet_op; go_big_quiet_on)
  (refine wpG_op rfl rfl rfl ?_; intro K hK; go_big_quiet_op; go_big_quiet_on)
  (refine wpG_op rfl rfl rfl ?_; intro K hK; go_big_quiet_op; go_big_quiet_on)
  clear hone
  refine wpG_nil ?_
  rintro u6 ⟨hl2, E2'⟩
  have EX5 := Lib.hid E2'
  clear hl2 E2' EX3
  go_upto_region 5 with (fail)
  refine wp_region_G (w0 := w) [0, 1, 2, 3, 4, 5, 6, 7, 8, 9, 10, 11, 12, 13, 14, 15, 16, 17, 18] [(w.heap.size + 1 + 1 + 1, (wo (s))), (w.heap.size + 1 + 1, (wo (t))), (w.heap.size + 1, (io (fun i => (g i : Int)))), (w.heap.size, (io (fun i => (f i : Int))))] 0 (by kernel_rfl) (by kernel_rfl) rfl EX5.out ?_
  have hone := @EnvC.one _ _ _ (EX5.out.drew)
  (refine wpG_op rfl rfl rfl ?_; intro K hK; go_big_quiet_op; go_big_quiet_on)
  (refine wpG_op rfl rfl rfl ?_; intro K hK; go_big_quiet_op; go_big_quiet_on)
  (refine wpG_op rfl rfl rfl ?_; intro K hK; go_big_quiet_op; go_big_quiet_on)
  (refine wpG_op rfl rfl rfl ?_; intro K hK; go_big_quiet_op; go_big_quiet_on)
  (refine wpG_op rfl rfl rfl ?_; intro K hK; go_big_quiet_op; go_big_quiet_on)
  (refine wpG_op rfl rfl rfl ?_; intro K hK; go_big_quiet_op; go_big_quiet_on)
  (refine wpG_op rfl rfl rfl ?_; intro K hK; go_big_quiet_op; go_big_quiet_on)
  (refine wpG_op rfl rfl rfl ?_; intro K hK; go_big_quiet_op; go_big_quiet_on)
  (refine wpG_op rfl rfl rfl ?_; intro K hK; go_big_quiet_op; go_big_quiet_on)
  (refine wpG_op rfl rfl rfl ?_; intro K hK; go_big_quiet_op; go_big_quiet_on)
  (refine wpG_load rfl rfl (w.heap.size) rfl 27 _ _ (fun u hu => EnvC.box hu _ (io (fun i => (f i : Int))) (List.Mem.tail _ (List.Mem.tail _ (List.Mem.tail _ (List.Mem.head _))))) Try.underlying27 rfl (infoId _ (idF_size _)) ?_ (EX5.out.drew); intro K hK; go_big_quiet_op; go_big_quiet_on)
  (refine wpG_call (f := 22) (args := #[.agg (idF (fun i => (f i : Int)))]) (v := .agg (wcs (a))) rfl rfl rfl Try.func22 rfl rfl (fun u _ => (by have h := of32_any f hf.out u; rw [hna.out] at h; exact h)) ?_ (EX5.out.drew); intro K hK; go_big_quiet_op; go_big_quiet_on)
  (refine wpG_load rfl rfl (w.heap.size + 1 + 1) rfl 25 _ _ (fun u hu => EnvC.box hu _ (wo (t)) (List.Mem.tail _ (List.Mem.head _))) Try.underlying25 rfl (wc_info _) ?_ (EX5.out.drew); intro K hK; go_big_quiet_op; go_big_quiet_on)
  (refine wpG_op rfl rfl rfl ?_; intro K hK; go_big_quiet_op; go_big_quiet_on)
  (refine wpG_call (f := 23) (args := #[.agg (wcs (t)), .int .i64 (k : Int)]) (v := .agg (wcs (d))) rfl rfl rfl Try.func23 rfl rfl (fun u _ => (by have h := down_any t k u ht.out (by omega); rw [hd.out] at h; exact h)) ?_ (EX5.out.drew); intro K hK; go_big_quiet_op; go_big_quiet_on)
  (refine wpG_call (f := 18) (args := #[.agg (wcs (a)), .agg (wcs (d))]) (v := .int .i64 c1) rfl rfl rfl Try.func18 rfl rfl (fun u _ => (by rw [← h1.out]; exact cmp_any (a) (d) u haB.out hdB.out)) ?_ (EX5.out.drew); intro K hK; go_big_quiet_op; go_big_quiet_on)
  (refine wpG_op rfl rfl rfl ?_; intro K hK; go_big_quiet_op; go_big_quiet_on)
  (refine wpG_op rfl rfl rfl ?_; intro K hK; go_big_quiet_op; go_big_quiet_on)
  (refine wpG_op rfl rfl rfl ?_; intro K hK; go_big_quiet_op; go_big_quiet_on)
  clear hone
  refine wpG_nil ?_
  refine anyG_done (by kernel_rfl) ?_
  rintro u8 ⟨hl2, E2'⟩
  have EX7 := Lib.hid E2'
  clear hl2 E2' EX5
  go_upto_region 7 with (fail)
  refine wp_region_G (w0 := w) [0, 1, 2, 3, 4, 5, 6] [(w.heap.size + 1 + 1 + 1, (wo (s))), (w.heap.size + 1 + 1, (wo (t))), (w.heap.size + 1, (io (fun i => (g i : Int)))), (w.heap.size, (io (fun i => (f i : Int))))] 0 (by kernel_rfl) (by kernel_rfl) rfl EX7.out ?_
  have hone := @EnvC.one _ _ _ (EX7.out.drew)
  (refine wpG_load rfl rfl (w.heap.size + 1) rfl 27 _ _ (fun u hu => EnvC.box hu _ (io (fun i => (g i : Int))) (List.Mem.tail _ (List.Mem.tail _ (List.Mem.head _)))) Try.underlying27 rfl (infoId _ (idF_size _)) ?_ (EX7.out.drew); intro K hK; go_big_quiet_op; go_big_quiet_on)
  (refine wpG_call (f := 22) (args := #[.agg (idF (fun i => (g i : Int)))]) (v := .agg (wcs (b))) rfl rfl rfl Try.func22 rfl rfl (fun u _ => (by have h := of32_any g hg.out u; rw [hnb.out] at h; exact h)) ?_ (EX7.out.drew); intro K hK; go_big_quiet_op; go_big_quiet_on)
  (refine wpG_load rfl rfl (w.heap.size) rfl 27 _ _ (fun u hu => EnvC.box hu _ (io (fun i => (f i : Int))) (List.Mem.tail _ (List.Mem.tail _ (List.Mem.tail _ (List.Mem.head _))))) Try.underlying27 rfl (infoId _ (idF_size _)) ?_ (EX7.out.drew); intro K hK; go_big_quiet_op; go_big_quiet_on)
  (refine wpG_call (f := 22) (args := #[.agg (idF (fun i => (f i : Int)))]) (v := .agg (wcs (a))) rfl rfl rfl Try.func22 rfl rfl (fun u _ => (by have h := of32_any f hf.out u; rw [hna.out] at h; exact h)) ?_ (EX7.out.drew); intro K hK; go_big_quiet_op; go_big_quiet_on)
  (refine wpG_call (f := 18) (args := #[.agg (wcs (b)), .agg (wcs (a))]) (v := .int .i64 c2) rfl rfl rfl Try.func18 rfl rfl (fun u _ => (by rw [← h2.out]; exact cmp_any (b) (a) u hbB.out haB.out)) ?_ (EX7.out.drew); intro K hK; go_big_quiet_op; go_big_quiet_on)
  (refine wpG_op rfl rfl rfl ?_; intro K hK; go_big_quiet_op; go_big_quiet_on)
  (refine wpG_op rfl rfl rfl ?_; intro K hK; go_big_quiet_op; go_big_quiet_on)
  clear hone
  refine wpG_nil ?_
  refine anyG_done (by kernel_rfl) ?_
  rintro u10 ⟨hl2, E2'⟩
  have EX9 := Lib.hid E2'
  clear hl2 E2' EX7
  go_upto_region 8 with (fail)
  refine wp_region_Gx (w0 := w) [0, 1, 2, 3, 4, 5, 6, 7, 8, 9, 10, 11, 12, 13, 14, 15, 16, 17, 18, 19, 20, 21, 22] [] [(w.heap.size + 1 + 1 + 1, (wo (s))), (w.heap.size + 1 + 1, (wo (t))), (w.heap.size + 1, (io (fun i => (g i : Int)))), (w.heap.size, (io (fun i => (f i : Int))))] rfl EX9.out ?_
  have hone := @EnvC.one _ _ _ (EX9.out)
  (refine wpG_op rfl rfl rfl ?_; intro K hK; go_big_quiet_op; go_big_quiet_on)
  (refine wpG_op rfl rfl rfl ?_; intro K hK; go_big_quiet_op; go_big_quiet_on)
  (refine wpG_op rfl rfl rfl ?_; intro K hK; go_big_quiet_op; go_big_quiet_on)
  (refine wpG_skip rfl rfl ?_ EX9.out; intro K hK; go_big_quiet_op; go_big_quiet_on)
  (refine wpG_skip rfl rfl ?_ EX9.out; intro K hK; go_big_quiet_op; go_big_quiet_on)
  (refine wpG_skip rfl rfl ?_ EX9.out; intro K hK; go_big_quiet_op; go_big_quiet_on)
  (refine wpG_skip rfl rfl ?_ EX9.out; intro K hK; go_big_quiet_op; go_big_quiet_on)
  (refine wpG_skip rfl rfl ?_ EX9.out; intro K hK; go_big_quiet_op; go_big_quiet_on)
  (refine wpG_op rfl rfl rfl ?_; intro K hK; go_big_quiet_op; go_big_quiet_on)
  (refine wpG_op rfl rfl rfl ?_; intro K hK; go_big_quiet_op; go_big_quiet_on)
  (refine wpG_load rfl rfl (w.heap.size + 1 + 1) rfl 25 _ _ (fun u hu => EnvC.box hu _ (wo (t)) (List.Mem.tail _ (List.Mem.head _))) Try.underlying25 rfl (wc_info _) ?_ (EX9.out); intro K hK; go_big_quiet_op; go_big_quiet_on)
  (refine wpG_load rfl rfl (w.heap.size + 1 + 1 + 1) rfl 25 _ _ (fun u hu => EnvC.box hu _ (wo (s)) (List.Mem.head _)) Try.underlying25 rfl (wc_info _) ?_ (EX9.out); intro K hK; go_big_quiet_op; go_big_quiet_on)
  (refine wpG_call (f := 18) (args := #[.agg (wcs (t)), .agg (wcs (s))]) (v := .int .i64 c3) rfl rfl rfl Try.func18 rfl rfl (fun u _ => (by rw [← h3.out]; exact cmp_any (t) (s) u ht.out hs.out)) ?_ (EX9.out); intro K hK; go_big_quiet_op; go_big_quiet_on)
  (refine wpG_op rfl rfl rfl ?_; intro K hK; go_big_quiet_op; go_big_quiet_on)
  (refine wpG_op rfl rfl rfl ?_; intro K hK; go_big_quiet_op; go_big_quiet_on)
  (refine wpG_load rfl rfl (w.heap.size) rfl 27 _ _ (fun u hu => EnvC.box hu _ (io (fun i => (f i : Int))) (List.Mem.tail _ (List.Mem.tail _ (List.Mem.tail _ (List.Mem.head _))))) Try.underlying27 rfl (infoId _ (idF_size _)) ?_ (EX9.out); intro K hK; go_big_quiet_op; go_big_quiet_on)
  (refine wpG_load rfl rfl (w.heap.size + 1 + 1 + 1) rfl 25 _ _ (fun u hu => EnvC.box hu _ (wo (s)) (List.Mem.head _)) Try.underlying25 rfl (wc_info _) ?_ (EX9.out); intro K hK; go_big_quiet_op; go_big_quiet_on)
  (refine wpG_call (f := 16) (args := #[.agg (idF (fun i => (f i : Int))), .agg (wcs (s))]) (v := .int .i64 z) rfl rfl rfl Try.func16 rfl rfl (fun u _ => (by have h := level_any f hf.out s u hs.out; rw [hz.out] at h; exact h)) ?_ (EX9.out); intro K hK; go_big_quiet_op; go_big_quiet_on)
  (refine wpG_op rfl rfl rfl ?_; intro K hK; go_big_quiet_op; go_big_quiet_on)
  (refine wpG_op rfl rfl rfl ?_; intro K hK; go_big_quiet_op; go_big_quiet_on)
  (refine wpG_op rfl rfl rfl ?_; intro K hK; go_big_quiet_op; go_big_quiet_on)
  (refine wpG_op rfl rfl rfl ?_; intro K hK; go_big_quiet_op; go_big_quiet_on)
  (refine wpG_op rfl rfl rfl ?_; intro K hK; go_big_quiet_op; go_big_quiet_on)
  clear hone
  refine wpG_nil ?_
  rintro u12 ⟨hl2, E2'⟩
  have EX11 := Lib.hid E2'
  clear hl2 E2' EX9
  go_wp2_with fail
  go_ret
  exact ⟨rfl, EX11.out.bel⟩
end Go.Proofs.Ytdbkbaanppnabaa
