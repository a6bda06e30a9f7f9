/- The walks of Work, of the program and of the reference. -/
import Derived.Test.YtdbkbaanppnabaaT2
namespace Go.Proofs.Ytdbkbaanppnabaa
open Go.RowKit

theorem Big_gt : 1000000000000 < Big := by unfold Big; omega
theorem add_yes (m n s : Nat) (u : World) (hs : s = m + n) (h : s < Big) :
    Calls Try.prog 20 #[.agg (wcs m), .agg (wcs n)] u fun e w' => e = .returned (.tuple #[.agg (wcs s), .bool true]) ∧ Below u.heap.size u w' := by
  subst hs
  have h1 := add_any m n u (by omega) (by omega)
  have e1 : decide (m + n < Big) = true := by simp only [h, decide_true]
  rw [Nat.mod_eq_of_lt h, e1] at h1
  exact h1
theorem add_no (m n s : Nat) (u : World) (hm : m < Big) (hn : n < Big) (hs : s = m + n - Big) (h : Big ≤ m + n) :
    Calls Try.prog 20 #[.agg (wcs m), .agg (wcs n)] u fun e w' => e = .returned (.tuple #[.agg (wcs s), .bool false]) ∧ Below u.heap.size u w' := by
  rw [hs]
  have h1 := add_any m n u hm hn
  have e1 : decide (m + n < Big) = false := by simp only [show ¬ m + n < Big by omega, decide_false]
  rw [e1, show (m + n) % Big = m + n - Big by rw [Nat.mod_eq_sub_mod h]; exact Nat.mod_eq_of_lt (by omega)] at h1
  exact h1
theorem work_goal (t : Nat) (ht : t < Big) : ∃ wk, Hid (wk = wkV t) := ⟨_, rfl⟩

theorem sub_neg (n r : Nat) (u : World) (hn : 0 < n) (hB : n < Big) (hr : r = Big - n) :
    Calls Try.prog 29 #[.agg (wcs 0), .agg (wcs n)] u fun e w' => e = .returned (.tuple #[.agg (wcs r), .bool false]) ∧ Below u.heap.size u w' := by
  rw [hr]
  have h1 := sub_any 0 n u Big_pos hB
  have e1 : decide (n ≤ 0) = false := by simp only [show ¬ n ≤ 0 by omega, decide_false]
  have e2 : (0 + (Big - n)) % Big = Big - n := by rw [Nat.zero_add]; exact Nat.mod_eq_of_lt (by omega)
  rw [e1, e2] at h1
  exact h1

set_option maxRecDepth 100000 in
set_option maxHeartbeats 4000000 in
theorem work_no (t : Nat) (w : World) (ht : t + 1 = Big) :
    Calls Try.prog 14 #[.agg (wcs t)] w fun e w' => e = .returned (.agg (wcs 1)) ∧ Below w.heap.size w w' := by
  have H1 := Lib.hid Big_gt
  have E1 : Hid (EnvX w ((w.alloc (.cells (wcs t) 25)).alloc (.cells #[.int .u64 0, .int .u64 0, .int .u64 0, .int .u64 0] 25)) [(w.heap.size + 1, wo 0), (w.heap.size, wo t)]) := (EnvX.start w).two (wo t) (wo 0)
  have hb1 : w.heap.size ≤ w.heap.size := Nat.le_refl _
  have hb2 : w.heap.size ≤ w.heap.size + 1 := Nat.le_succ _
  have n21 : Hid (w.heap.size + 1 ≠ w.heap.size) := by show _ ≠ _; omega
  go_enter Try.func14, Try.ntmps14
  go_upto_region 1 with (fail)
  generalize (w.alloc (.cells (wcs t) 25)).alloc (.cells #[.int .u64 0, .int .u64 0, .int .u64 0, .int .u64 0] 25) = w1 at *
  refine wp_region_Gx (w0 := w) [0] [1, 2] [(w.heap.size + 1, (wo (0))), (w.heap.size, (wo (t)))] rfl E1.out ?_
  have hone := @EnvC.one _ _ _ (E1.out)
  (refine wpG_call (f := 19) (args := #[.int .u64 (1 : Nat)]) (v := .agg (wcs (1))) rfl rfl rfl Try.func19 rfl rfl (fun u _ => of_n 1 u (by decide)) ?_ (E1.out); intro K hK; go_big_quiet_op; go_big_quiet_on)
  clear hone
  refine wpG_nil ?_
  (refine (gOp_new (wo (0)) rfl (new_wide _) ?_); intro g1 hbg1 hfg1; intro K' hK'; go_big_quiet_op; go_big_quiet_on)
  have ng1x0 : Hid (w.heap.size + 1 ≠ g1) := hfg1 (w.heap.size + 1, _) (List.Mem.head _)
  have ng1x1 : Hid (w.heap.size ≠ g1) := hfg1 (w.heap.size, _) (List.Mem.tail _ (List.Mem.head _))
  clear hfg1
  refine (gOp_store rfl (g1) (wcs (1)) rfl rfl hbg1 25 (wcs (0)) (List.Mem.head _) (wc_info _) ((wc_size _).trans (wc_size _).symm) (wc_one _) [(g1, (wo (1))), (w.heap.size + 1, (wo (0))), (w.heap.size, (wo (t)))] (List.forall_mem_cons.2 ⟨.inl rfl, (List.forall_mem_cons.2 ⟨.inr ⟨(List.Mem.tail _ (List.Mem.head _)), ng1x0.out⟩, (List.forall_mem_cons.2 ⟨.inr ⟨(List.Mem.tail _ (List.Mem.tail _ (List.Mem.head _))), ng1x1.out⟩, (fun _ h => by cases h)⟩)⟩)⟩) ?_)
  rintro u3 ⟨hl2, E2'⟩
  have E2 := Lib.hid E2'
  clear hl2 E2' E1
  go_upto_region 2 with (fail)
  refine wp_region_Gx (w0 := w) [0, 1, 2, 3, 4, 5] [6, 7, 8] [(g1, (wo (1))), (w.heap.size + 1, (wo (0))), (w.heap.size, (wo (t)))] rfl E2.out ?_
  have hone := @EnvC.one _ _ _ (E2.out)
  (refine wpG_load rfl rfl (w.heap.size) rfl 25 _ _ (fun u hu => EnvC.box hu _ (wo (t)) (List.Mem.tail _ (List.Mem.tail _ (List.Mem.head _)))) Try.underlying25 rfl (wc_info _) ?_ (E2.out); intro K hK; go_big_quiet_op; go_big_quiet_on)
  (refine wpG_load rfl rfl (g1) rfl 25 _ _ (fun u hu => EnvC.box hu _ (wo (1)) (List.Mem.head _)) Try.underlying25 rfl (wc_info _) ?_ (E2.out); intro K hK; go_big_quiet_op; go_big_quiet_on)
  (refine wpG_call (f := 20) (args := #[.agg (wcs (t)), .agg (wcs (1))]) (v := .tuple #[.agg (wcs (0)), .bool (false)]) rfl rfl rfl Try.func20 rfl rfl (fun u _ => add_no t 1 0 u (by omega) (by have := H1.out; omega) (by omega) (by omega)) ?_ (E2.out); intro K hK; go_big_quiet_op; go_big_quiet_on)
  (refine wpG_op rfl rfl rfl ?_; intro K hK; go_big_quiet_op; go_big_quiet_on)
  (refine wpG_op rfl rfl rfl ?_; intro K hK; go_big_quiet_op; go_big_quiet_on)
  (refine wpG_op rfl rfl rfl ?_; intro K hK; go_big_quiet_op; go_big_quiet_on)
  clear hone
  refine wpG_nil ?_
  (refine (gOp_new (wo (0)) rfl (new_wide _) ?_); intro g4 hbg4 hfg4; intro K' hK'; go_big_quiet_op; go_big_quiet_on)
  have ng4x0 : Hid (g1 ≠ g4) := hfg4 (g1, _) (List.Mem.head _)
  have ng4x1 : Hid (w.heap.size + 1 ≠ g4) := hfg4 (w.heap.size + 1, _) (List.Mem.tail _ (List.Mem.head _))
  have ng4x2 : Hid (w.heap.size ≠ g4) := hfg4 (w.heap.size, _) (List.Mem.tail _ (List.Mem.tail _ (List.Mem.head _)))
  clear hfg4
  refine (gOp_store rfl (g4) (wcs (0)) rfl rfl hbg4 25 (wcs (0)) (List.Mem.head _) (wc_info _) ((wc_size _).trans (wc_size _).symm) (wc_one _) [(g4, (wo (0))), (g1, (wo (1))), (w.heap.size + 1, (wo (0))), (w.heap.size, (wo (t)))] (List.forall_mem_cons.2 ⟨.inl rfl, (List.forall_mem_cons.2 ⟨.inr ⟨(List.Mem.tail _ (List.Mem.head _)), ng4x0.out⟩, (List.forall_mem_cons.2 ⟨.inr ⟨(List.Mem.tail _ (List.Mem.tail _ (List.Mem.head _))), ng4x1.out⟩, (List.forall_mem_cons.2 ⟨.inr ⟨(List.Mem.tail _ (List.Mem.tail _ (List.Mem.tail _ (List.Mem.head _)))), ng4x2.out⟩, (fun _ h => by cases h)⟩)⟩)⟩)⟩) ?_)
  (refine (gOp_pure rfl rfl ?_); intro K' hK'; go_big_quiet_op; go_big_quiet_on)
  rintro u6 ⟨hl2, E2'⟩
  have E5 := Lib.hid E2'
  clear hl2 E2' E2
  go_upto_region 4 with (fail)
  refine wp_region_Gx (w0 := w) [0] [1] [(g4, (wo (0))), (g1, (wo (1))), (w.heap.size + 1, (wo (0))), (w.heap.size, (wo (t)))] rfl E5.out ?_
  have hone := @EnvC.one _ _ _ (E5.out)
  (refine wpG_load rfl rfl (g1) rfl 25 _ _ (fun u hu => EnvC.box hu _ (wo (1)) (List.Mem.tail _ (List.Mem.head _))) Try.underlying25 rfl (wc_info _) ?_ (E5.out); intro K hK; go_big_quiet_op; go_big_quiet_on)
  clear hone
  refine wpG_nil ?_
  refine (gOp_store rfl (w.heap.size + 1) (wcs (1)) rfl rfl hb2 25 (wcs (0)) (List.Mem.tail _ (List.Mem.tail _ (List.Mem.head _))) (wc_info _) ((wc_size _).trans (wc_size _).symm) (wc_one _) [(w.heap.size + 1, (wo (1))), (g4, (wo (0))), (g1, (wo (1))), (w.heap.size, (wo (t)))] (List.forall_mem_cons.2 ⟨.inl rfl, (List.forall_mem_cons.2 ⟨.inr ⟨(List.Mem.head _), (Ne.symm ng4x1.out)⟩, (List.forall_mem_cons.2 ⟨.inr ⟨(List.Mem.tail _ (List.Mem.head _)), (Ne.symm ng1x0.out)⟩, (List.forall_mem_cons.2 ⟨.inr ⟨(List.Mem.tail _ (List.Mem.tail _ (List.Mem.tail _ (List.Mem.head _)))), (Ne.symm n21.out)⟩, (fun _ h => by cases h)⟩)⟩)⟩)⟩) ?_)
  rintro u8 ⟨hl2, E2'⟩
  have E7 := Lib.hid E2'
  clear hl2 E2' E5
  go_wp2_with ((with_reducible refine bodyPost_ret (v := .agg (wcs (1))) ?_ ?_ ?_); (exact results_cell_row (p := 2) (ty := 25) Try.results14 _ _ (w.heap.size + 1) 25 (wcs (1)) (0, 0) _ rfl (E7.out.box _ (wo (1)) (List.Mem.head _)) Try.underlying25 rfl (wc_info _)); (rfl))
  exact E7.out.bel

set_option maxRecDepth 100000 in
set_option maxHeartbeats 4000000 in
theorem work_yes (t : Nat) (w : World) (n r k : Nat) (kb : Bool) (hn : Hid (n = t + 1)) (hnB : Hid (n < Big)) (hn0 : Hid (0 < n)) (hr : Hid (r = Big - n)) (hrB : Hid (r < Big)) (hqB : Hid (r / n < Big)) (hk : Hid ((r / n + 1) % Big = k)) (hkb : Hid (decide (r / n + 1 < Big) = kb)) :
    Calls Try.prog 14 #[.agg (wcs t)] w fun e w' => e = .returned (.agg (wcs k)) ∧ Below w.heap.size w w' := by
  have H1 := Lib.hid Big_gt
  have E1 : Hid (EnvX w ((w.alloc (.cells (wcs t) 25)).alloc (.cells #[.int .u64 0, .int .u64 0, .int .u64 0, .int .u64 0] 25)) [(w.heap.size + 1, wo 0), (w.heap.size, wo t)]) := (EnvX.start w).two (wo t) (wo 0)
  have hb1 : w.heap.size ≤ w.heap.size := Nat.le_refl _
  have hb2 : w.heap.size ≤ w.heap.size + 1 := Nat.le_succ _
  have n21 : Hid (w.heap.size + 1 ≠ w.heap.size) := by show _ ≠ _; omega
  go_enter Try.func14, Try.ntmps14
  go_upto_region 1 with (fail)
  generalize (w.alloc (.cells (wcs t) 25)).alloc (.cells #[.int .u64 0, .int .u64 0, .int .u64 0, .int .u64 0] 25) = w1 at *
  refine wp_region_Gx (w0 := w) [0] [1, 2] [(w.heap.size + 1, (wo (0))), (w.heap.size, (wo (t)))] rfl E1.out ?_
  have hone := @EnvC.one _ _ _ (E1.out)
  (refine wpG_call (f := 19) (args := #[.int .u64 (1 : Nat)]) (v := .agg (wcs (1))) rfl rfl rfl Try.func19 rfl rfl (fun u _ => of_n 1 u (by decide)) ?_ (E1.out); intro K hK; go_big_quiet_op; go_big_quiet_on)
  clear hone
  refine wpG_nil ?_
  (refine (gOp_new (wo (0)) rfl (new_wide _) ?_); intro g1 hbg1 hfg1; intro K' hK'; go_big_quiet_op; go_big_quiet_on)
  have ng1x0 : Hid (w.heap.size + 1 ≠ g1) := hfg1 (w.heap.size + 1, _) (List.Mem.head _)
  have ng1x1 : Hid (w.heap.size ≠ g1) := hfg1 (w.heap.size, _) (List.Mem.tail _ (List.Mem.head _))
  clear hfg1
  refine (gOp_store rfl (g1) (wcs (1)) rfl rfl hbg1 25 (wcs (0)) (List.Mem.head _) (wc_info _) ((wc_size _).trans (wc_size _).symm) (wc_one _) [(g1, (wo (1))), (w.heap.size + 1, (wo (0))), (w.heap.size, (wo (t)))] (List.forall_mem_cons.2 ⟨.inl rfl, (List.forall_mem_cons.2 ⟨.inr ⟨(List.Mem.tail _ (List.Mem.head _)), ng1x0.out⟩, (List.forall_mem_cons.2 ⟨.inr ⟨(List.Mem.tail _ (List.Mem.tail _ (List.Mem.head _))), ng1x1.out⟩, (fun _ h => by cases h)⟩)⟩)⟩) ?_)
  rintro u3 ⟨hl2, E2'⟩
  have E2 := Lib.hid E2'
  clear hl2 E2' E1
  go_upto_region 2 with (fail)
  refine wp_region_Gx (w0 := w) [0, 1, 2, 3, 4, 5] [6, 7, 8] [(g1, (wo (1))), (w.heap.size + 1, (wo (0))), (w.heap.size, (wo (t)))] rfl E2.out ?_
  have hone := @EnvC.one _ _ _ (E2.out)
  (refine wpG_load rfl rfl (w.heap.size) rfl 25 _ _ (fun u hu => EnvC.box hu _ (wo (t)) (List.Mem.tail _ (List.Mem.tail _ (List.Mem.head _)))) Try.underlying25 rfl (wc_info _) ?_ (E2.out); intro K hK; go_big_quiet_op; go_big_quiet_on)
  (refine wpG_load rfl rfl (g1) rfl 25 _ _ (fun u hu => EnvC.box hu _ (wo (1)) (List.Mem.head _)) Try.underlying25 rfl (wc_info _) ?_ (E2.out); intro K hK; go_big_quiet_op; go_big_quiet_on)
  (refine wpG_call (f := 20) (args := #[.agg (wcs (t)), .agg (wcs (1))]) (v := .tuple #[.agg (wcs (n)), .bool (true)]) rfl rfl rfl Try.func20 rfl rfl (fun u _ => add_yes t 1 n u hn.out (by have := hnB.out; omega)) ?_ (E2.out); intro K hK; go_big_quiet_op; go_big_quiet_on)
  (refine wpG_op rfl rfl rfl ?_; intro K hK; go_big_quiet_op; go_big_quiet_on)
  (refine wpG_op rfl rfl rfl ?_; intro K hK; go_big_quiet_op; go_big_quiet_on)
  (refine wpG_op rfl rfl rfl ?_; intro K hK; go_big_quiet_op; go_big_quiet_on)
  clear hone
  refine wpG_nil ?_
  (refine (gOp_new (wo (0)) rfl (new_wide _) ?_); intro g4 hbg4 hfg4; intro K' hK'; go_big_quiet_op; go_big_quiet_on)
  have ng4x0 : Hid (g1 ≠ g4) := hfg4 (g1, _) (List.Mem.head _)
  have ng4x1 : Hid (w.heap.size + 1 ≠ g4) := hfg4 (w.heap.size + 1, _) (List.Mem.tail _ (List.Mem.head _))
  have ng4x2 : Hid (w.heap.size ≠ g4) := hfg4 (w.heap.size, _) (List.Mem.tail _ (List.Mem.tail _ (List.Mem.head _)))
  clear hfg4
  refine (gOp_store rfl (g4) (wcs (n)) rfl rfl hbg4 25 (wcs (0)) (List.Mem.head _) (wc_info _) ((wc_size _).trans (wc_size _).symm) (wc_one _) [(g4, (wo (n))), (g1, (wo (1))), (w.heap.size + 1, (wo (0))), (w.heap.size, (wo (t)))] (List.forall_mem_cons.2 ⟨.inl rfl, (List.forall_mem_cons.2 ⟨.inr ⟨(List.Mem.tail _ (List.Mem.head _)), ng4x0.out⟩, (List.forall_mem_cons.2 ⟨.inr ⟨(List.Mem.tail _ (List.Mem.tail _ (List.Mem.head _))), ng4x1.out⟩, (List.forall_mem_cons.2 ⟨.inr ⟨(List.Mem.tail _ (List.Mem.tail _ (List.Mem.tail _ (List.Mem.head _)))), ng4x2.out⟩, (fun _ h => by cases h)⟩)⟩)⟩)⟩) ?_)
  (refine (gOp_pure rfl rfl ?_); intro K' hK'; go_big_quiet_op; go_big_quiet_on)
  rintro u6 ⟨hl2, E2'⟩
  have E5 := Lib.hid E2'
  clear hl2 E2' E2
  go_upto_region 5 with (fail)
  refine wp_region_Gx (w0 := w) [0, 1, 2, 3, 4, 5] [6, 7, 8] [(g4, (wo (n))), (g1, (wo (1))), (w.heap.size + 1, (wo (0))), (w.heap.size, (wo (t)))] rfl E5.out ?_
  have hone := @EnvC.one _ _ _ (E5.out)
  (refine wpG_op rfl rfl rfl ?_; intro K hK; go_big_quiet_op; go_big_quiet_on)
  (refine wpG_load rfl rfl (g4) rfl 25 _ _ (fun u hu => EnvC.box hu _ (wo (n)) (List.Mem.head _)) Try.underlying25 rfl (wc_info _) ?_ (E5.out); intro K hK; go_big_quiet_op; go_big_quiet_on)
  (refine wpG_call (f := 29) (args := #[.agg (wcs (0)), .agg (wcs (n))]) (v := .tuple #[.agg (wcs (r)), .bool (false)]) rfl rfl rfl Try.func29 rfl rfl (fun u _ => sub_neg n r u hn0.out hnB.out hr.out) ?_ (E5.out); intro K hK; go_big_quiet_op; go_big_quiet_on)
  (refine wpG_op rfl rfl rfl ?_; intro K hK; go_big_quiet_op; go_big_quiet_on)
  (refine wpG_op rfl rfl rfl ?_; intro K hK; go_big_quiet_op; go_big_quiet_on)
  (refine wpG_op rfl rfl rfl ?_; intro K hK; go_big_quiet_op; go_big_quiet_on)
  clear hone
  refine wpG_nil ?_
  (refine (gOp_new (wo (0)) rfl (new_wide _) ?_); intro g7 hbg7 hfg7; intro K' hK'; go_big_quiet_op; go_big_quiet_on)
  have ng7x0 : Hid (g4 ≠ g7) := hfg7 (g4, _) (List.Mem.head _)
  have ng7x1 : Hid (g1 ≠ g7) := hfg7 (g1, _) (List.Mem.tail _ (List.Mem.head _))
  have ng7x2 : Hid (w.heap.size + 1 ≠ g7) := hfg7 (w.heap.size + 1, _) (List.Mem.tail _ (List.Mem.tail _ (List.Mem.head _)))
  have ng7x3 : Hid (w.heap.size ≠ g7) := hfg7 (w.heap.size, _) (List.Mem.tail _ (List.Mem.tail _ (List.Mem.tail _ (List.Mem.head _))))
  clear hfg7
  refine (gOp_store rfl (g7) (wcs (r)) rfl rfl hbg7 25 (wcs (0)) (List.Mem.head _) (wc_info _) ((wc_size _).trans (wc_size _).symm) (wc_one _) [(g7, (wo (r))), (g4, (wo (n))), (g1, (wo (1))), (w.heap.size + 1, (wo (0))), (w.heap.size, (wo (t)))] (List.forall_mem_cons.2 ⟨.inl rfl, (List.forall_mem_cons.2 ⟨.inr ⟨(List.Mem.tail _ (List.Mem.head _)), ng7x0.out⟩, (List.forall_mem_cons.2 ⟨.inr ⟨(List.Mem.tail _ (List.Mem.tail _ (List.Mem.head _))), ng7x1.out⟩, (List.forall_mem_cons.2 ⟨.inr ⟨(List.Mem.tail _ (List.Mem.tail _ (List.Mem.tail _ (List.Mem.head _)))), ng7x2.out⟩, (List.forall_mem_cons.2 ⟨.inr ⟨(List.Mem.tail _ (List.Mem.tail _ (List.Mem.tail _ (List.Mem.tail _ (List.Mem.head _))))), ng7x3.out⟩, (fun _ h => by cases h)⟩)⟩)⟩)⟩)⟩) ?_)
  (refine (gOp_pure rfl rfl ?_); intro K' hK'; go_big_quiet_op; go_big_quiet_on)
  rintro u9 ⟨hl2, E2'⟩
  have E8 := Lib.hid E2'
  clear hl2 E2' E5
  go_upto_region 6 with (fail)
  refine wp_region_Gx (w0 := w) [0, 1, 2, 3, 4, 5, 6] [7, 8, 9, 10, 11] [(g7, (wo (r))), (g4, (wo (n))), (g1, (wo (1))), (w.heap.size + 1, (wo (0))), (w.heap.size, (wo (t)))] rfl E8.out ?_
  have hone := @EnvC.one _ _ _ (E8.out)
  (refine wpG_load rfl rfl (g7) rfl 25 _ _ (fun u hu => EnvC.box hu _ (wo (r)) (List.Mem.head _)) Try.underlying25 rfl (wc_info _) ?_ (E8.out); intro K hK; go_big_quiet_op; go_big_quiet_on)
  (refine wpG_load rfl rfl (g4) rfl 25 _ _ (fun u hu => EnvC.box hu _ (wo (n)) (List.Mem.tail _ (List.Mem.head _))) Try.underlying25 rfl (wc_info _) ?_ (E8.out); intro K hK; go_big_quiet_op; go_big_quiet_on)
  (refine wpG_call (f := 21) (args := #[.agg (wcs (r)), .agg (wcs (n))]) (v := .tuple #[.agg (wcs (r / n)), .agg (wcs (r % n)), .bool (true)]) rfl rfl rfl Try.func21 rfl rfl (fun u _ => div_yes r n u hrB.out hnB.out hn0.out) ?_ (E8.out); intro K hK; go_big_quiet_op; go_big_quiet_on)
  (refine wpG_op rfl rfl rfl ?_; intro K hK; go_big_quiet_op; go_big_quiet_on)
  (refine wpG_op rfl rfl rfl ?_; intro K hK; go_big_quiet_op; go_big_quiet_on)
  (refine wpG_op rfl rfl rfl ?_; intro K hK; go_big_quiet_op; go_big_quiet_on)
  (refine wpG_op rfl rfl rfl ?_; intro K hK; go_big_quiet_op; go_big_quiet_on)
  clear hone
  refine wpG_nil ?_
  (refine (gOp_new (wo (0)) rfl (new_wide _) ?_); intro g10 hbg10 hfg10; intro K' hK'; go_big_quiet_op; go_big_quiet_on)
  have ng10x0 : Hid (g7 ≠ g10) := hfg10 (g7, _) (List.Mem.head _)
  have ng10x1 : Hid (g4 ≠ g10) := hfg10 (g4, _) (List.Mem.tail _ (List.Mem.head _))
  have ng10x2 : Hid (g1 ≠ g10) := hfg10 (g1, _) (List.Mem.tail _ (List.Mem.tail _ (List.Mem.head _)))
  have ng10x3 : Hid (w.heap.size + 1 ≠ g10) := hfg10 (w.heap.size + 1, _) (List.Mem.tail _ (List.Mem.tail _ (List.Mem.tail _ (List.Mem.head _))))
  have ng10x4 : Hid (w.heap.size ≠ g10) := hfg10 (w.heap.size, _) (List.Mem.tail _ (List.Mem.tail _ (List.Mem.tail _ (List.Mem.tail _ (List.Mem.head _)))))
  clear hfg10
  (refine (gOp_new (wo (0)) rfl (new_wide _) ?_); intro g11 hbg11 hfg11; intro K' hK'; go_big_quiet_op; go_big_quiet_on)
  have ng11x5 : Hid (g10 ≠ g11) := hfg11 (g10, _) (List.Mem.head _)
  have ng11x6 : Hid (g7 ≠ g11) := hfg11 (g7, _) (List.Mem.tail _ (List.Mem.head _))
  have ng11x7 : Hid (g4 ≠ g11) := hfg11 (g4, _) (List.Mem.tail _ (List.Mem.tail _ (List.Mem.head _)))
  have ng11x8 : Hid (g1 ≠ g11) := hfg11 (g1, _) (List.Mem.tail _ (List.Mem.tail _ (List.Mem.tail _ (List.Mem.head _))))
  have ng11x9 : Hid (w.heap.size + 1 ≠ g11) := hfg11 (w.heap.size + 1, _) (List.Mem.tail _ (List.Mem.tail _ (List.Mem.tail _ (List.Mem.tail _ (List.Mem.head _)))))
  have ng11x10 : Hid (w.heap.size ≠ g11) := hfg11 (w.heap.size, _) (List.Mem.tail _ (List.Mem.tail _ (List.Mem.tail _ (List.Mem.tail _ (List.Mem.tail _ (List.Mem.head _))))))
  clear hfg11
  refine (gOp_store rfl (g10) (wcs (r / n)) rfl rfl hbg10 25 (wcs (0)) (List.Mem.tail _ (List.Mem.head _)) (wc_info _) ((wc_size _).trans (wc_size _).symm) (wc_one _) [(g10, (wo (r / n))), (g11, (wo (0))), (g7, (wo (r))), (g4, (wo (n))), (g1, (wo (1))), (w.heap.size + 1, (wo (0))), (w.heap.size, (wo (t)))] (List.forall_mem_cons.2 ⟨.inl rfl, (List.forall_mem_cons.2 ⟨.inr ⟨(List.Mem.head _), (Ne.symm ng11x5.out)⟩, (List.forall_mem_cons.2 ⟨.inr ⟨(List.Mem.tail _ (List.Mem.tail _ (List.Mem.head _))), ng10x0.out⟩, (List.forall_mem_cons.2 ⟨.inr ⟨(List.Mem.tail _ (List.Mem.tail _ (List.Mem.tail _ (List.Mem.head _)))), ng10x1.out⟩, (List.forall_mem_cons.2 ⟨.inr ⟨(List.Mem.tail _ (List.Mem.tail _ (List.Mem.tail _ (List.Mem.tail _ (List.Mem.head _))))), ng10x2.out⟩, (List.forall_mem_cons.2 ⟨.inr ⟨(List.Mem.tail _ (List.Mem.tail _ (List.Mem.tail _ (List.Mem.tail _ (List.Mem.tail _ (List.Mem.head _)))))), ng10x3.out⟩, (List.forall_mem_cons.2 ⟨.inr ⟨(List.Mem.tail _ (List.Mem.tail _ (List.Mem.tail _ (List.Mem.tail _ (List.Mem.tail _ (List.Mem.tail _ (List.Mem.head _))))))), ng10x4.out⟩, (fun _ h => by cases h)⟩)⟩)⟩)⟩)⟩)⟩)⟩) ?_)
  refine (gOp_store rfl (g11) (wcs (r % n)) rfl rfl hbg11 25 (wcs (0)) (List.Mem.tail _ (List.Mem.head _)) (wc_info _) ((wc_size _).trans (wc_size _).symm) (wc_one _) [(g11, (wo (r % n))), (g10, (wo (r / n))), (g7, (wo (r))), (g4, (wo (n))), (g1, (wo (1))), (w.heap.size + 1, (wo (0))), (w.heap.size, (wo (t)))] (List.forall_mem_cons.2 ⟨.inl rfl, (List.forall_mem_cons.2 ⟨.inr ⟨(List.Mem.head _), ng11x5.out⟩, (List.forall_mem_cons.2 ⟨.inr ⟨(List.Mem.tail _ (List.Mem.tail _ (List.Mem.head _))), ng11x6.out⟩, (List.forall_mem_cons.2 ⟨.inr ⟨(List.Mem.tail _ (List.Mem.tail _ (List.Mem.tail _ (List.Mem.head _)))), ng11x7.out⟩, (List.forall_mem_cons.2 ⟨.inr ⟨(List.Mem.tail _ (List.Mem.tail _ (List.Mem.tail _ (List.Mem.tail _ (List.Mem.head _))))), ng11x8.out⟩, (List.forall_mem_cons.2 ⟨.inr ⟨(List.Mem.tail _ (List.Mem.tail _ (List.Mem.tail _ (List.Mem.tail _ (List.Mem.tail _ (List.Mem.head _)))))), ng11x9.out⟩, (List.forall_mem_cons.2 ⟨.inr ⟨(List.Mem.tail _ (List.Mem.tail _ (List.Mem.tail _ (List.Mem.tail _ (List.Mem.tail _ (List.Mem.tail _ (List.Mem.head _))))))), ng11x10.out⟩, (fun _ h => by cases h)⟩)⟩)⟩)⟩)⟩)⟩)⟩) ?_)
  (refine (gOp_pure rfl rfl ?_); intro K' hK'; go_big_quiet_op; go_big_quiet_on)
  rintro u13 ⟨hl2, E2'⟩
  have E12 := Lib.hid E2'
  clear hl2 E2' E8
  go_upto_region 7 with (fail)
  refine wp_region_Gx (w0 := w) [0, 1, 2, 3, 4, 5] [6, 7, 8] [(g11, (wo (r % n))), (g10, (wo (r / n))), (g7, (wo (r))), (g4, (wo (n))), (g1, (wo (1))), (w.heap.size + 1, (wo (0))), (w.heap.size, (wo (t)))] rfl E12.out ?_
  have hone := @EnvC.one _ _ _ (E12.out)
  (refine wpG_load rfl rfl (g10) rfl 25 _ _ (fun u hu => EnvC.box hu _ (wo (r / n)) (List.Mem.tail _ (List.Mem.head _))) Try.underlying25 rfl (wc_info _) ?_ (E12.out); intro K hK; go_big_quiet_op; go_big_quiet_on)
  (refine wpG_load rfl rfl (g1) rfl 25 _ _ (fun u hu => EnvC.box hu _ (wo (1)) (List.Mem.tail _ (List.Mem.tail _ (List.Mem.tail _ (List.Mem.tail _ (List.Mem.head _)))))) Try.underlying25 rfl (wc_info _) ?_ (E12.out); intro K hK; go_big_quiet_op; go_big_quiet_on)
  (refine wpG_call (f := 20) (args := #[.agg (wcs (r / n)), .agg (wcs (1))]) (v := .tuple #[.agg (wcs (k)), .bool (kb)]) rfl rfl rfl Try.func20 rfl rfl (fun u _ => by have h := add_any (r / n) 1 u hqB.out (by have := H1.out; omega); rw [hk.out, hkb.out] at h; exact h) ?_ (E12.out); intro K hK; go_big_quiet_op; go_big_quiet_on)
  (refine wpG_op rfl rfl rfl ?_; intro K hK; go_big_quiet_op; go_big_quiet_on)
  (refine wpG_op rfl rfl rfl ?_; intro K hK; go_big_quiet_op; go_big_quiet_on)
  (refine wpG_op rfl rfl rfl ?_; intro K hK; go_big_quiet_op; go_big_quiet_on)
  clear hone
  refine wpG_nil ?_
  (refine (gOp_new (wo (0)) rfl (new_wide _) ?_); intro g14 hbg14 hfg14; intro K' hK'; go_big_quiet_op; go_big_quiet_on)
  have ng14x0 : Hid (g11 ≠ g14) := hfg14 (g11, _) (List.Mem.head _)
  have ng14x1 : Hid (g10 ≠ g14) := hfg14 (g10, _) (List.Mem.tail _ (List.Mem.head _))
  have ng14x2 : Hid (g7 ≠ g14) := hfg14 (g7, _) (List.Mem.tail _ (List.Mem.tail _ (List.Mem.head _)))
  have ng14x3 : Hid (g4 ≠ g14) := hfg14 (g4, _) (List.Mem.tail _ (List.Mem.tail _ (List.Mem.tail _ (List.Mem.head _))))
  have ng14x4 : Hid (g1 ≠ g14) := hfg14 (g1, _) (List.Mem.tail _ (List.Mem.tail _ (List.Mem.tail _ (List.Mem.tail _ (List.Mem.head _)))))
  have ng14x5 : Hid (w.heap.size + 1 ≠ g14) := hfg14 (w.heap.size + 1, _) (List.Mem.tail _ (List.Mem.tail _ (List.Mem.tail _ (List.Mem.tail _ (List.Mem.tail _ (List.Mem.head _))))))
  have ng14x6 : Hid (w.heap.size ≠ g14) := hfg14 (w.heap.size, _) (List.Mem.tail _ (List.Mem.tail _ (List.Mem.tail _ (List.Mem.tail _ (List.Mem.tail _ (List.Mem.tail _ (List.Mem.head _)))))))
  clear hfg14
  refine (gOp_store rfl (g14) (wcs (k)) rfl rfl hbg14 25 (wcs (0)) (List.Mem.head _) (wc_info _) ((wc_size _).trans (wc_size _).symm) (wc_one _) [(g14, (wo (k))), (g11, (wo (r % n))), (g10, (wo (r / n))), (g7, (wo (r))), (g4, (wo (n))), (g1, (wo (1))), (w.heap.size + 1, (wo (0))), (w.heap.size, (wo (t)))] (List.forall_mem_cons.2 ⟨.inl rfl, (List.forall_mem_cons.2 ⟨.inr ⟨(List.Mem.tail _ (List.Mem.head _)), ng14x0.out⟩, (List.forall_mem_cons.2 ⟨.inr ⟨(List.Mem.tail _ (List.Mem.tail _ (List.Mem.head _))), ng14x1.out⟩, (List.forall_mem_cons.2 ⟨.inr ⟨(List.Mem.tail _ (List.Mem.tail _ (List.Mem.tail _ (List.Mem.head _)))), ng14x2.out⟩, (List.forall_mem_cons.2 ⟨.inr ⟨(List.Mem.tail _ (List.Mem.tail _ (List.Mem.tail _ (List.Mem.tail _ (List.Mem.head _))))), ng14x3.out⟩, (List.forall_mem_cons.2 ⟨.inr ⟨(List.Mem.tail _ (List.Mem.tail _ (List.Mem.tail _ (List.Mem.tail _ (List.Mem.tail _ (List.Mem.head _)))))), ng14x4.out⟩, (List.forall_mem_cons.2 ⟨.inr ⟨(List.Mem.tail _ (List.Mem.tail _ (List.Mem.tail _ (List.Mem.tail _ (List.Mem.tail _ (List.Mem.tail _ (List.Mem.head _))))))), ng14x5.out⟩, (List.forall_mem_cons.2 ⟨.inr ⟨(List.Mem.tail _ (List.Mem.tail _ (List.Mem.tail _ (List.Mem.tail _ (List.Mem.tail _ (List.Mem.tail _ (List.Mem.tail _ (List.Mem.head _)))))))), ng14x6.out⟩, (fun _ h => by cases h)⟩)⟩)⟩)⟩)⟩)⟩)⟩)⟩) ?_)
  (refine (gOp_pure rfl rfl ?_); intro K' hK'; go_big_quiet_op; go_big_quiet_on)
  rintro u16 ⟨hl2, E2'⟩
  have E15 := Lib.hid E2'
  clear hl2 E2' E12
  go_upto_region 8 with (fail)
  refine wp_region_Gx (w0 := w) [0] [1] [(g14, (wo (k))), (g11, (wo (r % n))), (g10, (wo (r / n))), (g7, (wo (r))), (g4, (wo (n))), (g1, (wo (1))), (w.heap.size + 1, (wo (0))), (w.heap.size, (wo (t)))] rfl E15.out ?_
  have hone := @EnvC.one _ _ _ (E15.out)
  (refine wpG_load rfl rfl (g14) rfl 25 _ _ (fun u hu => EnvC.box hu _ (wo (k)) (List.Mem.head _)) Try.underlying25 rfl (wc_info _) ?_ (E15.out); intro K hK; go_big_quiet_op; go_big_quiet_on)
  clear hone
  refine wpG_nil ?_
  refine (gOp_store rfl (w.heap.size + 1) (wcs (k)) rfl rfl hb2 25 (wcs (0)) (List.Mem.tail _ (List.Mem.tail _ (List.Mem.tail _ (List.Mem.tail _ (List.Mem.tail _ (List.Mem.tail _ (List.Mem.head _))))))) (wc_info _) ((wc_size _).trans (wc_size _).symm) (wc_one _) [(w.heap.size + 1, (wo (k))), (g14, (wo (k))), (g11, (wo (r % n))), (g10, (wo (r / n))), (g7, (wo (r))), (g4, (wo (n))), (g1, (wo (1))), (w.heap.size, (wo (t)))] (List.forall_mem_cons.2 ⟨.inl rfl, (List.forall_mem_cons.2 ⟨.inr ⟨(List.Mem.head _), (Ne.symm ng14x5.out)⟩, (List.forall_mem_cons.2 ⟨.inr ⟨(List.Mem.tail _ (List.Mem.head _)), (Ne.symm ng11x9.out)⟩, (List.forall_mem_cons.2 ⟨.inr ⟨(List.Mem.tail _ (List.Mem.tail _ (List.Mem.head _))), (Ne.symm ng10x3.out)⟩, (List.forall_mem_cons.2 ⟨.inr ⟨(List.Mem.tail _ (List.Mem.tail _ (List.Mem.tail _ (List.Mem.head _)))), (Ne.symm ng7x2.out)⟩, (List.forall_mem_cons.2 ⟨.inr ⟨(List.Mem.tail _ (List.Mem.tail _ (List.Mem.tail _ (List.Mem.tail _ (List.Mem.head _))))), (Ne.symm ng4x1.out)⟩, (List.forall_mem_cons.2 ⟨.inr ⟨(List.Mem.tail _ (List.Mem.tail _ (List.Mem.tail _ (List.Mem.tail _ (List.Mem.tail _ (List.Mem.head _)))))), (Ne.symm ng1x0.out)⟩, (List.forall_mem_cons.2 ⟨.inr ⟨(List.Mem.tail _ (List.Mem.tail _ (List.Mem.tail _ (List.Mem.tail _ (List.Mem.tail _ (List.Mem.tail _ (List.Mem.tail _ (List.Mem.head _)))))))), (Ne.symm n21.out)⟩, (fun _ h => by cases h)⟩)⟩)⟩)⟩)⟩)⟩)⟩)⟩) ?_)
  rintro u18 ⟨hl2, E2'⟩
  have E17 := Lib.hid E2'
  clear hl2 E2' E15
  go_wp2_with ((with_reducible refine bodyPost_ret (v := .agg (wcs (k))) ?_ ?_ ?_); (exact results_cell_row (p := 2) (ty := 25) Try.results14 _ _ (w.heap.size + 1) 25 (wcs (k)) (0, 0) _ rfl (E17.out.box _ (wo (k)) (List.Mem.head _)) Try.underlying25 rfl (wc_info _)); (rfl))
  exact E17.out.bel

theorem work_any (t : Nat) (w : World) (ht : t < Big) :
    Calls Try.prog 14 #[.agg (wcs t)] w fun e w' => e = .returned (.agg (wcs (wkV t))) ∧ Below w.heap.size w w' := by
  by_cases h : t + 1 < Big
  · have h1 := wk_prog h
    refine work_yes t w (t + 1) (Big - (t + 1)) (wkV t) _ rfl h (by show _ < _; omega) rfl (by show _ < _; omega) ?_ h1 rfl
    show _ < _
    exact Nat.lt_of_le_of_lt (Nat.div_le_self _ _) (by omega)
  · have e : wkV t = 1 := by unfold wkV; rw [if_neg h]
    rw [e]
    exact work_no t w (by omega)

theorem radd_yes (m n s : Nat) (u : World) (hs : s = m + n) (h : s < Big) :
    Calls Try.prog 30 #[.agg (wcs m), .agg (wcs n)] u fun e w' => e = .returned (.tuple #[.agg (wcs s), .bool true]) ∧ Below u.heap.size u w' := by
  subst hs
  have h1 := radd_any m n u (by omega) (by omega)
  have e1 : decide (m + n < Big) = true := by simp only [h, decide_true]
  rw [Nat.mod_eq_of_lt h, e1] at h1
  exact h1
theorem radd_no (m n s : Nat) (u : World) (hm : m < Big) (hn : n < Big) (hs : s = m + n - Big) (h : Big ≤ m + n) :
    Calls Try.prog 30 #[.agg (wcs m), .agg (wcs n)] u fun e w' => e = .returned (.tuple #[.agg (wcs s), .bool false]) ∧ Below u.heap.size u w' := by
  rw [hs]
  have h1 := radd_any m n u hm hn
  have e1 : decide (m + n < Big) = false := by simp only [show ¬ m + n < Big by omega, decide_false]
  rw [e1, show (m + n) % Big = m + n - Big by rw [Nat.mod_eq_sub_mod h]; exact Nat.mod_eq_of_lt (by omega)] at h1
  exact h1
theorem wcs_all : wcs (Big - 1) = #[.int .u64 18446744073709551615, .int .u64 18446744073709551615, .int .u64 18446744073709551615, .int .u64 18446744073709551615] := by
  have h : ∀ i, i < 4 → W (Big - 1) i = 18446744073709551615 := by decide +kernel
  rw [wc_cells, h 0 (by decide), h 1 (by decide), h 2 (by decide), h 3 (by decide)]
  rfl
theorem build_all {dst : Option Tmp} {ty : TypeId} {pos : String} {after : Array Edge} {gd : Option (Nat × Bool)} {a : Act} (u : World) :
    (execOp a.eval ⟨dst, .build 25 #[(0, .const (.int .u64 18446744073709551615)), (1, .const (.int .u64 18446744073709551615)), (2, .const (.int .u64 18446744073709551615)), (3, .const (.int .u64 18446744073709551615))], ty, pos, after, gd⟩).run Try.prog u = .ok (.value (.agg (wcs (Big - 1)))) u := by
  rw [wcs_all]
  go_simp

set_option maxRecDepth 100000 in
set_option maxHeartbeats 4000000 in
theorem rwork_no (t : Nat) (w : World) (ht : t + 1 = Big) :
    Calls Try.prog 15 #[.agg (wcs t)] w fun e w' => e = .returned (.agg (wcs 1)) ∧ Below w.heap.size w w' := by
  have H1 := Lib.hid Big_gt
  have E1 : Hid (EnvX w ((w.alloc (.cells (wcs t) 25)).alloc (.cells #[.int .u64 0, .int .u64 0, .int .u64 0, .int .u64 0] 25)) [(w.heap.size + 1, wo 0), (w.heap.size, wo t)]) := (EnvX.start w).two (wo t) (wo 0)
  have hb1 : w.heap.size ≤ w.heap.size := Nat.le_refl _
  have hb2 : w.heap.size ≤ w.heap.size + 1 := Nat.le_succ _
  have n21 : Hid (w.heap.size + 1 ≠ w.heap.size) := by show _ ≠ _; omega
  go_enter Try.func15, Try.ntmps15
  go_upto_region 1 with (fail)
  generalize (w.alloc (.cells (wcs t) 25)).alloc (.cells #[.int .u64 0, .int .u64 0, .int .u64 0, .int .u64 0] 25) = w1 at *
  refine wp_region_Gx (w0 := w) [0] [1, 2] [(w.heap.size + 1, (wo (0))), (w.heap.size, (wo (t)))] rfl E1.out ?_
  have hone := @EnvC.one _ _ _ (E1.out)
  (refine wpG_val (v := .agg (wcs (Big - 1))) rfl rfl (fun u _ => build_all u) ?_ (E1.out); intro K hK; go_big_quiet_op; go_big_quiet_on)
  clear hone
  refine wpG_nil ?_
  (refine (gOp_new (wo (0)) rfl (new_wide _) ?_); intro g1 hbg1 hfg1; intro K' hK'; go_big_quiet_op; go_big_quiet_on)
  have ng1x0 : Hid (w.heap.size + 1 ≠ g1) := hfg1 (w.heap.size + 1, _) (List.Mem.head _)
  have ng1x1 : Hid (w.heap.size ≠ g1) := hfg1 (w.heap.size, _) (List.Mem.tail _ (List.Mem.head _))
  clear hfg1
  refine (gOp_store rfl (g1) (wcs (Big - 1)) rfl rfl hbg1 25 (wcs (0)) (List.Mem.head _) (wc_info _) ((wc_size _).trans (wc_size _).symm) (wc_one _) [(g1, (wo (Big - 1))), (w.heap.size + 1, (wo (0))), (w.heap.size, (wo (t)))] (List.forall_mem_cons.2 ⟨.inl rfl, (List.forall_mem_cons.2 ⟨.inr ⟨(List.Mem.tail _ (List.Mem.head _)), ng1x0.out⟩, (List.forall_mem_cons.2 ⟨.inr ⟨(List.Mem.tail _ (List.Mem.tail _ (List.Mem.head _))), ng1x1.out⟩, (fun _ h => by cases h)⟩)⟩)⟩) ?_)
  rintro u3 ⟨hl2, E2'⟩
  have E2 := Lib.hid E2'
  clear hl2 E2' E1
  go_upto_region 2 with (fail)
  refine wp_region_G (w0 := w) [0, 1, 2, 3, 4, 5] [(g1, (wo (Big - 1))), (w.heap.size + 1, (wo (0))), (w.heap.size, (wo (t)))] 3 (by kernel_rfl) (by kernel_rfl) rfl E2.out ?_
  have hone := @EnvC.one _ _ _ (E2.out.drew)
  (refine wpG_load rfl rfl (w.heap.size) rfl 25 _ _ (fun u hu => EnvC.box hu _ (wo (t)) (List.Mem.tail _ (List.Mem.tail _ (List.Mem.head _)))) Try.underlying25 rfl (wc_info _) ?_ (E2.out.drew); intro K hK; go_big_quiet_op; go_big_quiet_on)
  (refine wpG_call (f := 26) (args := #[.int .u64 (1 : Nat)]) (v := .agg (wcs (1))) rfl rfl rfl Try.func26 rfl rfl (fun u _ => rof_n 1 u (by decide)) ?_ (E2.out.drew); intro K hK; go_big_quiet_op; go_big_quiet_on)
  (refine wpG_call (f := 30) (args := #[.agg (wcs (t)), .agg (wcs (1))]) (v := .tuple #[.agg (wcs (0)), .bool (false)]) rfl rfl rfl Try.func30 rfl rfl (fun u _ => radd_no t 1 0 u (by omega) (by have := H1.out; omega) (by omega) (by omega)) ?_ (E2.out.drew); intro K hK; go_big_quiet_op; go_big_quiet_on)
  (refine wpG_op rfl rfl rfl ?_; intro K hK; go_big_quiet_op; go_big_quiet_on)
  (refine wpG_op rfl rfl rfl ?_; intro K hK; go_big_quiet_op; go_big_quiet_on)
  (refine wpG_op rfl rfl rfl ?_; intro K hK; go_big_quiet_op; go_big_quiet_on)
  clear hone
  refine wpG_nil ?_
  (refine anyG_one (i := 6) (by kernel_rfl) (gOp_new (wo (0)) rfl (new_wide _) ?_); intro g4 hbg4 hfg4; intro K' hK'; go_big_quiet_op; go_big_quiet_on)
  have ng4x0 : Hid (g1 ≠ g4) := hfg4 (g1, _) (List.Mem.head _)
  have ng4x1 : Hid (w.heap.size + 1 ≠ g4) := hfg4 (w.heap.size + 1, _) (List.Mem.tail _ (List.Mem.head _))
  have ng4x2 : Hid (w.heap.size ≠ g4) := hfg4 (w.heap.size, _) (List.Mem.tail _ (List.Mem.tail _ (List.Mem.head _)))
  clear hfg4
  refine anyG_one (i := 7) (by kernel_rfl) (gOp_store rfl (g4) (wcs (0)) rfl rfl hbg4 25 (wcs (0)) (List.Mem.head _) (wc_info _) ((wc_size _).trans (wc_size _).symm) (wc_one _) [(g4, (wo (0))), (g1, (wo (Big - 1))), (w.heap.size + 1, (wo (0))), (w.heap.size, (wo (t)))] (List.forall_mem_cons.2 ⟨.inl rfl, (List.forall_mem_cons.2 ⟨.inr ⟨(List.Mem.tail _ (List.Mem.head _)), ng4x0.out⟩, (List.forall_mem_cons.2 ⟨.inr ⟨(List.Mem.tail _ (List.Mem.tail _ (List.Mem.head _))), ng4x1.out⟩, (List.forall_mem_cons.2 ⟨.inr ⟨(List.Mem.tail _ (List.Mem.tail _ (List.Mem.tail _ (List.Mem.head _)))), ng4x2.out⟩, (fun _ h => by cases h)⟩)⟩)⟩)⟩) ?_)
  (refine anyG_one (i := 8) (by kernel_rfl) (gOp_pure rfl rfl ?_); intro K' hK'; go_big_quiet_op; go_big_quiet_on)
  refine anyG_done (by kernel_rfl) ?_
  rintro u6 ⟨hl2, E2'⟩
  have E5 := Lib.hid E2'
  clear hl2 E2' E2
  go_upto_region 4 with (fail)
  refine wp_region_Gx (w0 := w) [0] [1] [(g4, (wo (0))), (g1, (wo (Big - 1))), (w.heap.size + 1, (wo (0))), (w.heap.size, (wo (t)))] rfl E5.out ?_
  have hone := @EnvC.one _ _ _ (E5.out)
  (refine wpG_call (f := 26) (args := #[.int .u64 (1 : Nat)]) (v := .agg (wcs (1))) rfl rfl rfl Try.func26 rfl rfl (fun u _ => rof_n 1 u (by decide)) ?_ (E5.out); intro K hK; go_big_quiet_op; go_big_quiet_on)
  clear hone
  refine wpG_nil ?_
  refine (gOp_store rfl (w.heap.size + 1) (wcs (1)) rfl rfl hb2 25 (wcs (0)) (List.Mem.tail _ (List.Mem.tail _ (List.Mem.head _))) (wc_info _) ((wc_size _).trans (wc_size _).symm) (wc_one _) [(w.heap.size + 1, (wo (1))), (g4, (wo (0))), (g1, (wo (Big - 1))), (w.heap.size, (wo (t)))] (List.forall_mem_cons.2 ⟨.inl rfl, (List.forall_mem_cons.2 ⟨.inr ⟨(List.Mem.head _), (Ne.symm ng4x1.out)⟩, (List.forall_mem_cons.2 ⟨.inr ⟨(List.Mem.tail _ (List.Mem.head _)), (Ne.symm ng1x0.out)⟩, (List.forall_mem_cons.2 ⟨.inr ⟨(List.Mem.tail _ (List.Mem.tail _ (List.Mem.tail _ (List.Mem.head _)))), (Ne.symm n21.out)⟩, (fun _ h => by cases h)⟩)⟩)⟩)⟩) ?_)
  rintro u8 ⟨hl2, E2'⟩
  have E7 := Lib.hid E2'
  clear hl2 E2' E5
  go_wp2_with ((with_reducible refine bodyPost_ret (v := .agg (wcs (1))) ?_ ?_ ?_); (exact results_cell_row (p := 2) (ty := 25) Try.results15 _ _ (w.heap.size + 1) 25 (wcs (1)) (0, 0) _ rfl (E7.out.box _ (wo (1)) (List.Mem.head _)) Try.underlying25 rfl (wc_info _)); (rfl))
  exact E7.out.bel

set_option maxRecDepth 100000 in
set_option maxHeartbeats 4000000 in
theorem rwork_not (t : Nat) (w : World) (n q r m : Nat) (hn : Hid (n = t + 1)) (hnB : Hid (n < Big)) (hn0 : Hid (0 < n)) (hq : Hid ((Big - 1) / n = q)) (hr : Hid ((Big - 1) % n = r)) (hm : Hid (m = r + 1)) (hmB : Hid (m < Big)) (heq : Hid (eqN m n = false)) :
    Calls Try.prog 15 #[.agg (wcs t)] w fun e w' => e = .returned (.agg (wcs q)) ∧ Below w.heap.size w w' := by
  have H1 := Lib.hid Big_gt
  have E1 : Hid (EnvX w ((w.alloc (.cells (wcs t) 25)).alloc (.cells #[.int .u64 0, .int .u64 0, .int .u64 0, .int .u64 0] 25)) [(w.heap.size + 1, wo 0), (w.heap.size, wo t)]) := (EnvX.start w).two (wo t) (wo 0)
  have hb1 : w.heap.size ≤ w.heap.size := Nat.le_refl _
  have hb2 : w.heap.size ≤ w.heap.size + 1 := Nat.le_succ _
  have n21 : Hid (w.heap.size + 1 ≠ w.heap.size) := by show _ ≠ _; omega
  go_enter Try.func15, Try.ntmps15
  go_upto_region 1 with (fail)
  generalize (w.alloc (.cells (wcs t) 25)).alloc (.cells #[.int .u64 0, .int .u64 0, .int .u64 0, .int .u64 0] 25) = w1 at *
  refine wp_region_Gx (w0 := w) [0] [1, 2] [(w.heap.size + 1, (wo (0))), (w.heap.size, (wo (t)))] rfl E1.out ?_
  have hone := @EnvC.one _ _ _ (E1.out)
  (refine wpG_val (v := .agg (wcs (Big - 1))) rfl rfl (fun u _ => build_all u) ?_ (E1.out); intro K hK; go_big_quiet_op; go_big_quiet_on)
  clear hone
  refine wpG_nil ?_
  (refine (gOp_new (wo (0)) rfl (new_wide _) ?_); intro g1 hbg1 hfg1; intro K' hK'; go_big_quiet_op; go_big_quiet_on)
  have ng1x0 : Hid (w.heap.size + 1 ≠ g1) := hfg1 (w.heap.size + 1, _) (List.Mem.head _)
  have ng1x1 : Hid (w.heap.size ≠ g1) := hfg1 (w.heap.size, _) (List.Mem.tail _ (List.Mem.head _))
  clear hfg1
  refine (gOp_store rfl (g1) (wcs (Big - 1)) rfl rfl hbg1 25 (wcs (0)) (List.Mem.head _) (wc_info _) ((wc_size _).trans (wc_size _).symm) (wc_one _) [(g1, (wo (Big - 1))), (w.heap.size + 1, (wo (0))), (w.heap.size, (wo (t)))] (List.forall_mem_cons.2 ⟨.inl rfl, (List.forall_mem_cons.2 ⟨.inr ⟨(List.Mem.tail _ (List.Mem.head _)), ng1x0.out⟩, (List.forall_mem_cons.2 ⟨.inr ⟨(List.Mem.tail _ (List.Mem.tail _ (List.Mem.head _))), ng1x1.out⟩, (fun _ h => by cases h)⟩)⟩)⟩) ?_)
  rintro u3 ⟨hl2, E2'⟩
  have E2 := Lib.hid E2'
  clear hl2 E2' E1
  go_upto_region 2 with (fail)
  refine wp_region_G (w0 := w) [0, 1, 2, 3, 4, 5] [(g1, (wo (Big - 1))), (w.heap.size + 1, (wo (0))), (w.heap.size, (wo (t)))] 3 (by kernel_rfl) (by kernel_rfl) rfl E2.out ?_
  have hone := @EnvC.one _ _ _ (E2.out.drew)
  (refine wpG_load rfl rfl (w.heap.size) rfl 25 _ _ (fun u hu => EnvC.box hu _ (wo (t)) (List.Mem.tail _ (List.Mem.tail _ (List.Mem.head _)))) Try.underlying25 rfl (wc_info _) ?_ (E2.out.drew); intro K hK; go_big_quiet_op; go_big_quiet_on)
  (refine wpG_call (f := 26) (args := #[.int .u64 (1 : Nat)]) (v := .agg (wcs (1))) rfl rfl rfl Try.func26 rfl rfl (fun u _ => rof_n 1 u (by decide)) ?_ (E2.out.drew); intro K hK; go_big_quiet_op; go_big_quiet_on)
  (refine wpG_call (f := 30) (args := #[.agg (wcs (t)), .agg (wcs (1))]) (v := .tuple #[.agg (wcs (n)), .bool (true)]) rfl rfl rfl Try.func30 rfl rfl (fun u _ => radd_yes t 1 n u hn.out (by have := hnB.out; omega)) ?_ (E2.out.drew); intro K hK; go_big_quiet_op; go_big_quiet_on)
  (refine wpG_op rfl rfl rfl ?_; intro K hK; go_big_quiet_op; go_big_quiet_on)
  (refine wpG_op rfl rfl rfl ?_; intro K hK; go_big_quiet_op; go_big_quiet_on)
  (refine wpG_op rfl rfl rfl ?_; intro K hK; go_big_quiet_op; go_big_quiet_on)
  clear hone
  refine wpG_nil ?_
  (refine anyG_one (i := 6) (by kernel_rfl) (gOp_new (wo (0)) rfl (new_wide _) ?_); intro g4 hbg4 hfg4; intro K' hK'; go_big_quiet_op; go_big_quiet_on)
  have ng4x0 : Hid (g1 ≠ g4) := hfg4 (g1, _) (List.Mem.head _)
  have ng4x1 : Hid (w.heap.size + 1 ≠ g4) := hfg4 (w.heap.size + 1, _) (List.Mem.tail _ (List.Mem.head _))
  have ng4x2 : Hid (w.heap.size ≠ g4) := hfg4 (w.heap.size, _) (List.Mem.tail _ (List.Mem.tail _ (List.Mem.head _)))
  clear hfg4
  refine anyG_one (i := 7) (by kernel_rfl) (gOp_store rfl (g4) (wcs (n)) rfl rfl hbg4 25 (wcs (0)) (List.Mem.head _) (wc_info _) ((wc_size _).trans (wc_size _).symm) (wc_one _) [(g4, (wo (n))), (g1, (wo (Big - 1))), (w.heap.size + 1, (wo (0))), (w.heap.size, (wo (t)))] (List.forall_mem_cons.2 ⟨.inl rfl, (List.forall_mem_cons.2 ⟨.inr ⟨(List.Mem.tail _ (List.Mem.head _)), ng4x0.out⟩, (List.forall_mem_cons.2 ⟨.inr ⟨(List.Mem.tail _ (List.Mem.tail _ (List.Mem.head _))), ng4x1.out⟩, (List.forall_mem_cons.2 ⟨.inr ⟨(List.Mem.tail _ (List.Mem.tail _ (List.Mem.tail _ (List.Mem.head _)))), ng4x2.out⟩, (fun _ h => by cases h)⟩)⟩)⟩)⟩) ?_)
  (refine anyG_one (i := 8) (by kernel_rfl) (gOp_pure rfl rfl ?_); intro K' hK'; go_big_quiet_op; go_big_quiet_on)
  refine anyG_done (by kernel_rfl) ?_
  rintro u6 ⟨hl2, E2'⟩
  have E5 := Lib.hid E2'
  clear hl2 E2' E2
  go_upto_region 5 with (fail)
  refine wp_region_Gx (w0 := w) [0, 1, 2, 3, 4, 5, 6] [7, 8, 9, 10, 11] [(g4, (wo (n))), (g1, (wo (Big - 1))), (w.heap.size + 1, (wo (0))), (w.heap.size, (wo (t)))] rfl E5.out ?_
  have hone := @EnvC.one _ _ _ (E5.out)
  (refine wpG_load rfl rfl (g1) rfl 25 _ _ (fun u hu => EnvC.box hu _ (wo (Big - 1)) (List.Mem.tail _ (List.Mem.head _))) Try.underlying25 rfl (wc_info _) ?_ (E5.out); intro K hK; go_big_quiet_op; go_big_quiet_on)
  (refine wpG_load rfl rfl (g4) rfl 25 _ _ (fun u hu => EnvC.box hu _ (wo (n)) (List.Mem.head _)) Try.underlying25 rfl (wc_info _) ?_ (E5.out); intro K hK; go_big_quiet_op; go_big_quiet_on)
  (refine wpG_call (f := 31) (args := #[.agg (wcs (Big - 1)), .agg (wcs (n))]) (v := .tuple #[.agg (wcs (q)), .agg (wcs (r)), .bool (true)]) rfl rfl rfl Try.func31 rfl rfl (fun u _ => by have h := rdiv_yes (Big - 1) n u (Nat.sub_lt Big_pos Nat.one_pos) hnB.out hn0.out; rw [hq.out, hr.out] at h; exact h) ?_ (E5.out); intro K hK; go_big_quiet_op; go_big_quiet_on)
  (refine wpG_op rfl rfl rfl ?_; intro K hK; go_big_quiet_op; go_big_quiet_on)
  (refine wpG_op rfl rfl rfl ?_; intro K hK; go_big_quiet_op; go_big_quiet_on)
  (refine wpG_op rfl rfl rfl ?_; intro K hK; go_big_quiet_op; go_big_quiet_on)
  (refine wpG_op rfl rfl rfl ?_; intro K hK; go_big_quiet_op; go_big_quiet_on)
  clear hone
  refine wpG_nil ?_
  (refine (gOp_new (wo (0)) rfl (new_wide _) ?_); intro g7 hbg7 hfg7; intro K' hK'; go_big_quiet_op; go_big_quiet_on)
  have ng7x0 : Hid (g4 ≠ g7) := hfg7 (g4, _) (List.Mem.head _)
  have ng7x1 : Hid (g1 ≠ g7) := hfg7 (g1, _) (List.Mem.tail _ (List.Mem.head _))
  have ng7x2 : Hid (w.heap.size + 1 ≠ g7) := hfg7 (w.heap.size + 1, _) (List.Mem.tail _ (List.Mem.tail _ (List.Mem.head _)))
  have ng7x3 : Hid (w.heap.size ≠ g7) := hfg7 (w.heap.size, _) (List.Mem.tail _ (List.Mem.tail _ (List.Mem.tail _ (List.Mem.head _))))
  clear hfg7
  (refine (gOp_new (wo (0)) rfl (new_wide _) ?_); intro g8 hbg8 hfg8; intro K' hK'; go_big_quiet_op; go_big_quiet_on)
  have ng8x4 : Hid (g7 ≠ g8) := hfg8 (g7, _) (List.Mem.head _)
  have ng8x5 : Hid (g4 ≠ g8) := hfg8 (g4, _) (List.Mem.tail _ (List.Mem.head _))
  have ng8x6 : Hid (g1 ≠ g8) := hfg8 (g1, _) (List.Mem.tail _ (List.Mem.tail _ (List.Mem.head _)))
  have ng8x7 : Hid (w.heap.size + 1 ≠ g8) := hfg8 (w.heap.size + 1, _) (List.Mem.tail _ (List.Mem.tail _ (List.Mem.tail _ (List.Mem.head _))))
  have ng8x8 : Hid (w.heap.size ≠ g8) := hfg8 (w.heap.size, _) (List.Mem.tail _ (List.Mem.tail _ (List.Mem.tail _ (List.Mem.tail _ (List.Mem.head _)))))
  clear hfg8
  refine (gOp_store rfl (g7) (wcs (q)) rfl rfl hbg7 25 (wcs (0)) (List.Mem.tail _ (List.Mem.head _)) (wc_info _) ((wc_size _).trans (wc_size _).symm) (wc_one _) [(g7, (wo (q))), (g8, (wo (0))), (g4, (wo (n))), (g1, (wo (Big - 1))), (w.heap.size + 1, (wo (0))), (w.heap.size, (wo (t)))] (List.forall_mem_cons.2 ⟨.inl rfl, (List.forall_mem_cons.2 ⟨.inr ⟨(List.Mem.head _), (Ne.symm ng8x4.out)⟩, (List.forall_mem_cons.2 ⟨.inr ⟨(List.Mem.tail _ (List.Mem.tail _ (List.Mem.head _))), ng7x0.out⟩, (List.forall_mem_cons.2 ⟨.inr ⟨(List.Mem.tail _ (List.Mem.tail _ (List.Mem.tail _ (List.Mem.head _)))), ng7x1.out⟩, (List.forall_mem_cons.2 ⟨.inr ⟨(List.Mem.tail _ (List.Mem.tail _ (List.Mem.tail _ (List.Mem.tail _ (List.Mem.head _))))), ng7x2.out⟩, (List.forall_mem_cons.2 ⟨.inr ⟨(List.Mem.tail _ (List.Mem.tail _ (List.Mem.tail _ (List.Mem.tail _ (List.Mem.tail _ (List.Mem.head _)))))), ng7x3.out⟩, (fun _ h => by cases h)⟩)⟩)⟩)⟩)⟩)⟩) ?_)
  refine (gOp_store rfl (g8) (wcs (r)) rfl rfl hbg8 25 (wcs (0)) (List.Mem.tail _ (List.Mem.head _)) (wc_info _) ((wc_size _).trans (wc_size _).symm) (wc_one _) [(g8, (wo (r))), (g7, (wo (q))), (g4, (wo (n))), (g1, (wo (Big - 1))), (w.heap.size + 1, (wo (0))), (w.heap.size, (wo (t)))] (List.forall_mem_cons.2 ⟨.inl rfl, (List.forall_mem_cons.2 ⟨.inr ⟨(List.Mem.head _), ng8x4.out⟩, (List.forall_mem_cons.2 ⟨.inr ⟨(List.Mem.tail _ (List.Mem.tail _ (List.Mem.head _))), ng8x5.out⟩, (List.forall_mem_cons.2 ⟨.inr ⟨(List.Mem.tail _ (List.Mem.tail _ (List.Mem.tail _ (List.Mem.head _)))), ng8x6.out⟩, (List.forall_mem_cons.2 ⟨.inr ⟨(List.Mem.tail _ (List.Mem.tail _ (List.Mem.tail _ (List.Mem.tail _ (List.Mem.head _))))), ng8x7.out⟩, (List.forall_mem_cons.2 ⟨.inr ⟨(List.Mem.tail _ (List.Mem.tail _ (List.Mem.tail _ (List.Mem.tail _ (List.Mem.tail _ (List.Mem.head _)))))), ng8x8.out⟩, (fun _ h => by cases h)⟩)⟩)⟩)⟩)⟩)⟩) ?_)
  (refine (gOp_pure rfl rfl ?_); intro K' hK'; go_big_quiet_op; go_big_quiet_on)
  rintro u10 ⟨hl2, E2'⟩
  have E9 := Lib.hid E2'
  clear hl2 E2' E5
  go_upto_region 6 with (fail)
  refine wp_region_G (w0 := w) [0, 1, 2, 3, 4, 5] [(g8, (wo (r))), (g7, (wo (q))), (g4, (wo (n))), (g1, (wo (Big - 1))), (w.heap.size + 1, (wo (0))), (w.heap.size, (wo (t)))] 3 (by kernel_rfl) (by kernel_rfl) rfl E9.out ?_
  have hone := @EnvC.one _ _ _ (E9.out.drew)
  (refine wpG_load rfl rfl (g8) rfl 25 _ _ (fun u hu => EnvC.box hu _ (wo (r)) (List.Mem.head _)) Try.underlying25 rfl (wc_info _) ?_ (E9.out.drew); intro K hK; go_big_quiet_op; go_big_quiet_on)
  (refine wpG_call (f := 26) (args := #[.int .u64 (1 : Nat)]) (v := .agg (wcs (1))) rfl rfl rfl Try.func26 rfl rfl (fun u _ => rof_n 1 u (by decide)) ?_ (E9.out.drew); intro K hK; go_big_quiet_op; go_big_quiet_on)
  (refine wpG_call (f := 30) (args := #[.agg (wcs (r)), .agg (wcs (1))]) (v := .tuple #[.agg (wcs (m)), .bool (true)]) rfl rfl rfl Try.func30 rfl rfl (fun u _ => radd_yes r 1 m u hm.out hmB.out) ?_ (E9.out.drew); intro K hK; go_big_quiet_op; go_big_quiet_on)
  (refine wpG_op rfl rfl rfl ?_; intro K hK; go_big_quiet_op; go_big_quiet_on)
  (refine wpG_op rfl rfl rfl ?_; intro K hK; go_big_quiet_op; go_big_quiet_on)
  (refine wpG_op rfl rfl rfl ?_; intro K hK; go_big_quiet_op; go_big_quiet_on)
  clear hone
  refine wpG_nil ?_
  (refine anyG_one (i := 6) (by kernel_rfl) (gOp_new (wo (0)) rfl (new_wide _) ?_); intro g11 hbg11 hfg11; intro K' hK'; go_big_quiet_op; go_big_quiet_on)
  have ng11x0 : Hid (g8 ≠ g11) := hfg11 (g8, _) (List.Mem.head _)
  have ng11x1 : Hid (g7 ≠ g11) := hfg11 (g7, _) (List.Mem.tail _ (List.Mem.head _))
  have ng11x2 : Hid (g4 ≠ g11) := hfg11 (g4, _) (List.Mem.tail _ (List.Mem.tail _ (List.Mem.head _)))
  have ng11x3 : Hid (g1 ≠ g11) := hfg11 (g1, _) (List.Mem.tail _ (List.Mem.tail _ (List.Mem.tail _ (List.Mem.head _))))
  have ng11x4 : Hid (w.heap.size + 1 ≠ g11) := hfg11 (w.heap.size + 1, _) (List.Mem.tail _ (List.Mem.tail _ (List.Mem.tail _ (List.Mem.tail _ (List.Mem.head _)))))
  have ng11x5 : Hid (w.heap.size ≠ g11) := hfg11 (w.heap.size, _) (List.Mem.tail _ (List.Mem.tail _ (List.Mem.tail _ (List.Mem.tail _ (List.Mem.tail _ (List.Mem.head _))))))
  clear hfg11
  refine anyG_one (i := 7) (by kernel_rfl) (gOp_store rfl (g11) (wcs (m)) rfl rfl hbg11 25 (wcs (0)) (List.Mem.head _) (wc_info _) ((wc_size _).trans (wc_size _).symm) (wc_one _) [(g11, (wo (m))), (g8, (wo (r))), (g7, (wo (q))), (g4, (wo (n))), (g1, (wo (Big - 1))), (w.heap.size + 1, (wo (0))), (w.heap.size, (wo (t)))] (List.forall_mem_cons.2 ⟨.inl rfl, (List.forall_mem_cons.2 ⟨.inr ⟨(List.Mem.tail _ (List.Mem.head _)), ng11x0.out⟩, (List.forall_mem_cons.2 ⟨.inr ⟨(List.Mem.tail _ (List.Mem.tail _ (List.Mem.head _))), ng11x1.out⟩, (List.forall_mem_cons.2 ⟨.inr ⟨(List.Mem.tail _ (List.Mem.tail _ (List.Mem.tail _ (List.Mem.head _)))), ng11x2.out⟩, (List.forall_mem_cons.2 ⟨.inr ⟨(List.Mem.tail _ (List.Mem.tail _ (List.Mem.tail _ (List.Mem.tail _ (List.Mem.head _))))), ng11x3.out⟩, (List.forall_mem_cons.2 ⟨.inr ⟨(List.Mem.tail _ (List.Mem.tail _ (List.Mem.tail _ (List.Mem.tail _ (List.Mem.tail _ (List.Mem.head _)))))), ng11x4.out⟩, (List.forall_mem_cons.2 ⟨.inr ⟨(List.Mem.tail _ (List.Mem.tail _ (List.Mem.tail _ (List.Mem.tail _ (List.Mem.tail _ (List.Mem.tail _ (List.Mem.head _))))))), ng11x5.out⟩, (fun _ h => by cases h)⟩)⟩)⟩)⟩)⟩)⟩)⟩) ?_)
  (refine anyG_one (i := 8) (by kernel_rfl) (gOp_pure rfl rfl ?_); intro K' hK'; go_big_quiet_op; go_big_quiet_on)
  refine anyG_done (by kernel_rfl) ?_
  rintro u13 ⟨hl2, E2'⟩
  have E12 := Lib.hid E2'
  clear hl2 E2' E9
  go_upto_region 7 with (fail)
  refine wp_region_Gx (w0 := w) [0, 1, 2] [] [(g11, (wo (m))), (g8, (wo (r))), (g7, (wo (q))), (g4, (wo (n))), (g1, (wo (Big - 1))), (w.heap.size + 1, (wo (0))), (w.heap.size, (wo (t)))] rfl E12.out ?_
  have hone := @EnvC.one _ _ _ (E12.out)
  (refine wpG_load rfl rfl (g11) rfl 25 _ _ (fun u hu => EnvC.box hu _ (wo (m)) (List.Mem.head _)) Try.underlying25 rfl (wc_info _) ?_ (E12.out); intro K hK; go_big_quiet_op; go_big_quiet_on)
  (refine wpG_load rfl rfl (g4) rfl 25 _ _ (fun u hu => EnvC.box hu _ (wo (n)) (List.Mem.tail _ (List.Mem.tail _ (List.Mem.tail _ (List.Mem.head _))))) Try.underlying25 rfl (wc_info _) ?_ (E12.out); intro K hK; go_big_quiet_op; go_big_quiet_on)
  (refine wpG_val (v := .bool (false)) rfl rfl (fun u _ => eql_op (hmB.out) (hnB.out) (heq.out) rfl rfl u) ?_ (E12.out); intro K hK; go_big_quiet_op; go_big_quiet_on)
  clear hone
  refine wpG_nil ?_
  rintro u15 ⟨hl2, E2'⟩
  have E14 := Lib.hid E2'
  clear hl2 E2' E12
  go_upto_region 9 with (fail)
  refine wp_region_Gx (w0 := w) [0] [1] [(g11, (wo (m))), (g8, (wo (r))), (g7, (wo (q))), (g4, (wo (n))), (g1, (wo (Big - 1))), (w.heap.size + 1, (wo (0))), (w.heap.size, (wo (t)))] rfl E14.out ?_
  have hone := @EnvC.one _ _ _ (E14.out)
  (refine wpG_load rfl rfl (g7) rfl 25 _ _ (fun u hu => EnvC.box hu _ (wo (q)) (List.Mem.tail _ (List.Mem.tail _ (List.Mem.head _)))) Try.underlying25 rfl (wc_info _) ?_ (E14.out); intro K hK; go_big_quiet_op; go_big_quiet_on)
  clear hone
  refine wpG_nil ?_
  refine (gOp_store rfl (w.heap.size + 1) (wcs (q)) rfl rfl hb2 25 (wcs (0)) (List.Mem.tail _ (List.Mem.tail _ (List.Mem.tail _ (List.Mem.tail _ (List.Mem.tail _ (List.Mem.head _)))))) (wc_info _) ((wc_size _).trans (wc_size _).symm) (wc_one _) [(w.heap.size + 1, (wo (q))), (g11, (wo (m))), (g8, (wo (r))), (g7, (wo (q))), (g4, (wo (n))), (g1, (wo (Big - 1))), (w.heap.size, (wo (t)))] (List.forall_mem_cons.2 ⟨.inl rfl, (List.forall_mem_cons.2 ⟨.inr ⟨(List.Mem.head _), (Ne.symm ng11x4.out)⟩, (List.forall_mem_cons.2 ⟨.inr ⟨(List.Mem.tail _ (List.Mem.head _)), (Ne.symm ng8x7.out)⟩, (List.forall_mem_cons.2 ⟨.inr ⟨(List.Mem.tail _ (List.Mem.tail _ (List.Mem.head _))), (Ne.symm ng7x2.out)⟩, (List.forall_mem_cons.2 ⟨.inr ⟨(List.Mem.tail _ (List.Mem.tail _ (List.Mem.tail _ (List.Mem.head _)))), (Ne.symm ng4x1.out)⟩, (List.forall_mem_cons.2 ⟨.inr ⟨(List.Mem.tail _ (List.Mem.tail _ (List.Mem.tail _ (List.Mem.tail _ (List.Mem.head _))))), (Ne.symm ng1x0.out)⟩, (List.forall_mem_cons.2 ⟨.inr ⟨(List.Mem.tail _ (List.Mem.tail _ (List.Mem.tail _ (List.Mem.tail _ (List.Mem.tail _ (List.Mem.tail _ (List.Mem.head _))))))), (Ne.symm n21.out)⟩, (fun _ h => by cases h)⟩)⟩)⟩)⟩)⟩)⟩)⟩) ?_)
  rintro u17 ⟨hl2, E2'⟩
  have E16 := Lib.hid E2'
  clear hl2 E2' E14
  go_wp2_with ((with_reducible refine bodyPost_ret (v := .agg (wcs (q))) ?_ ?_ ?_); (exact results_cell_row (p := 2) (ty := 25) Try.results15 _ _ (w.heap.size + 1) 25 (wcs (q)) (0, 0) _ rfl (E16.out.box _ (wo (q)) (List.Mem.head _)) Try.underlying25 rfl (wc_info _)); (rfl))
  exact E16.out.bel

set_option maxRecDepth 100000 in
set_option maxHeartbeats 4000000 in
theorem rwork_yes (t : Nat) (w : World) (n q r m : Nat) (hn : Hid (n = t + 1)) (hnB : Hid (n < Big)) (hn0 : Hid (0 < n)) (hq : Hid ((Big - 1) / n = q)) (hr : Hid ((Big - 1) % n = r)) (hm : Hid (m = r + 1)) (hmB : Hid (m < Big)) (heq : Hid (eqN m n = true)) (k : Nat) (kb : Bool) (hqB : Hid (q < Big)) (hk : Hid ((q + 1) % Big = k)) (hkb : Hid (decide (q + 1 < Big) = kb)) :
    Calls Try.prog 15 #[.agg (wcs t)] w fun e w' => e = .returned (.agg (wcs k)) ∧ Below w.heap.size w w' := by
  have H1 := Lib.hid Big_gt
  have E1 : Hid (EnvX w ((w.alloc (.cells (wcs t) 25)).alloc (.cells #[.int .u64 0, .int .u64 0, .int .u64 0, .int .u64 0] 25)) [(w.heap.size + 1, wo 0), (w.heap.size, wo t)]) := (EnvX.start w).two (wo t) (wo 0)
  have hb1 : w.heap.size ≤ w.heap.size := Nat.le_refl _
  have hb2 : w.heap.size ≤ w.heap.size + 1 := Nat.le_succ _
  have n21 : Hid (w.heap.size + 1 ≠ w.heap.size) := by show _ ≠ _; omega
  go_enter Try.func15, Try.ntmps15
  go_upto_region 1 with (fail)
  generalize (w.alloc (.cells (wcs t) 25)).alloc (.cells #[.int .u64 0, .int .u64 0, .int .u64 0, .int .u64 0] 25) = w1 at *
  refine wp_region_Gx (w0 := w) [0] [1, 2] [(w.heap.size + 1, (wo (0))), (w.heap.size, (wo (t)))] rfl E1.out ?_
  have hone := @EnvC.one _ _ _ (E1.out)
  (refine wpG_val (v := .agg (wcs (Big - 1))) rfl rfl (fun u _ => build_all u) ?_ (E1.out); intro K hK; go_big_quiet_op; go_big_quiet_on)
  clear hone
  refine wpG_nil ?_
  (refine (gOp_new (wo (0)) rfl (new_wide _) ?_); intro g1 hbg1 hfg1; intro K' hK'; go_big_quiet_op; go_big_quiet_on)
  have ng1x0 : Hid (w.heap.size + 1 ≠ g1) := hfg1 (w.heap.size + 1, _) (List.Mem.head _)
  have ng1x1 : Hid (w.heap.size ≠ g1) := hfg1 (w.heap.size, _) (List.Mem.tail _ (List.Mem.head _))
  clear hfg1
  refine (gOp_store rfl (g1) (wcs (Big - 1)) rfl rfl hbg1 25 (wcs (0)) (List.Mem.head _) (wc_info _) ((wc_size _).trans (wc_size _).symm) (wc_one _) [(g1, (wo (Big - 1))), (w.heap.size + 1, (wo (0))), (w.heap.size, (wo (t)))] (List.forall_mem_cons.2 ⟨.inl rfl, (List.forall_mem_cons.2 ⟨.inr ⟨(List.Mem.tail _ (List.Mem.head _)), ng1x0.out⟩, (List.forall_mem_cons.2 ⟨.inr ⟨(List.Mem.tail _ (List.Mem.tail _ (List.Mem.head _))), ng1x1.out⟩, (fun _ h => by cases h)⟩)⟩)⟩) ?_)
  rintro u3 ⟨hl2, E2'⟩
  have E2 := Lib.hid E2'
  clear hl2 E2' E1
  go_upto_region 2 with (fail)
  refine wp_region_G (w0 := w) [0, 1, 2, 3, 4, 5] [(g1, (wo (Big - 1))), (w.heap.size + 1, (wo (0))), (w.heap.size, (wo (t)))] 3 (by kernel_rfl) (by kernel_rfl) rfl E2.out ?_
  have hone := @EnvC.one _ _ _ (E2.out.drew)
  (refine wpG_load rfl rfl (w.heap.size) rfl 25 _ _ (fun u hu => EnvC.box hu _ (wo (t)) (List.Mem.tail _ (List.Mem.tail _ (List.Mem.head _)))) Try.underlying25 rfl (wc_info _) ?_ (E2.out.drew); intro K hK; go_big_quiet_op; go_big_quiet_on)
  (refine wpG_call (f := 26) (args := #[.int .u64 (1 : Nat)]) (v := .agg (wcs (1))) rfl rfl rfl Try.func26 rfl rfl (fun u _ => rof_n 1 u (by decide)) ?_ (E2.out.drew); intro K hK; go_big_quiet_op; go_big_quiet_on)
  (refine wpG_call (f := 30) (args := #[.agg (wcs (t)), .agg (wcs (1))]) (v := .tuple #[.agg (wcs (n)), .bool (true)]) rfl rfl rfl Try.func30 rfl rfl (fun u _ => radd_yes t 1 n u hn.out (by have := hnB.out; omega)) ?_ (E2.out.drew); intro K hK; go_big_quiet_op; go_big_quiet_on)
  (refine wpG_op rfl rfl rfl ?_; intro K hK; go_big_quiet_op; go_big_quiet_on)
  (refine wpG_op rfl rfl rfl ?_; intro K hK; go_big_quiet_op; go_big_quiet_on)
  (refine wpG_op rfl rfl rfl ?_; intro K hK; go_big_quiet_op; go_big_quiet_on)
  clear hone
  refine wpG_nil ?_
  (refine anyG_one (i := 6) (by kernel_rfl) (gOp_new (wo (0)) rfl (new_wide _) ?_); intro g4 hbg4 hfg4; intro K' hK'; go_big_quiet_op; go_big_quiet_on)
  have ng4x0 : Hid (g1 ≠ g4) := hfg4 (g1, _) (List.Mem.head _)
  have ng4x1 : Hid (w.heap.size + 1 ≠ g4) := hfg4 (w.heap.size + 1, _) (List.Mem.tail _ (List.Mem.head _))
  have ng4x2 : Hid (w.heap.size ≠ g4) := hfg4 (w.heap.size, _) (List.Mem.tail _ (List.Mem.tail _ (List.Mem.head _)))
  clear hfg4
  refine anyG_one (i := 7) (by kernel_rfl) (gOp_store rfl (g4) (wcs (n)) rfl rfl hbg4 25 (wcs (0)) (List.Mem.head _) (wc_info _) ((wc_size _).trans (wc_size _).symm) (wc_one _) [(g4, (wo (n))), (g1, (wo (Big - 1))), (w.heap.size + 1, (wo (0))), (w.heap.size, (wo (t)))] (List.forall_mem_cons.2 ⟨.inl rfl, (List.forall_mem_cons.2 ⟨.inr ⟨(List.Mem.tail _ (List.Mem.head _)), ng4x0.out⟩, (List.forall_mem_cons.2 ⟨.inr ⟨(List.Mem.tail _ (List.Mem.tail _ (List.Mem.head _))), ng4x1.out⟩, (List.forall_mem_cons.2 ⟨.inr ⟨(List.Mem.tail _ (List.Mem.tail _ (List.Mem.tail _ (List.Mem.head _)))), ng4x2.out⟩, (fun _ h => by cases h)⟩)⟩)⟩)⟩) ?_)
  (refine anyG_one (i := 8) (by kernel_rfl) (gOp_pure rfl rfl ?_); intro K' hK'; go_big_quiet_op; go_big_quiet_on)
  refine anyG_done (by kernel_rfl) ?_
  rintro u6 ⟨hl2, E2'⟩
  have E5 := Lib.hid E2'
  clear hl2 E2' E2
  go_upto_region 5 with (fail)
  refine wp_region_Gx (w0 := w) [0, 1, 2, 3, 4, 5, 6] [7, 8, 9, 10, 11] [(g4, (wo (n))), (g1, (wo (Big - 1))), (w.heap.size + 1, (wo (0))), (w.heap.size, (wo (t)))] rfl E5.out ?_
  have hone := @EnvC.one _ _ _ (E5.out)
  (refine wpG_load rfl rfl (g1) rfl 25 _ _ (fun u hu => EnvC.box hu _ (wo (Big - 1)) (List.Mem.tail _ (List.Mem.head _))) Try.underlying25 rfl (wc_info _) ?_ (E5.out); intro K hK; go_big_quiet_op; go_big_quiet_on)
  (refine wpG_load rfl rfl (g4) rfl 25 _ _ (fun u hu => EnvC.box hu _ (wo (n)) (List.Mem.head _)) Try.underlying25 rfl (wc_info _) ?_ (E5.out); intro K hK; go_big_quiet_op; go_big_quiet_on)
  (refine wpG_call (f := 31) (args := #[.agg (wcs (Big - 1)), .agg (wcs (n))]) (v := .tuple #[.agg (wcs (q)), .agg (wcs (r)), .bool (true)]) rfl rfl rfl Try.func31 rfl rfl (fun u _ => by have h := rdiv_yes (Big - 1) n u (Nat.sub_lt Big_pos Nat.one_pos) hnB.out hn0.out; rw [hq.out, hr.out] at h; exact h) ?_ (E5.out); intro K hK; go_big_quiet_op; go_big_quiet_on)
  (refine wpG_op rfl rfl rfl ?_; intro K hK; go_big_quiet_op; go_big_quiet_on)
  (refine wpG_op rfl rfl rfl ?_; intro K hK; go_big_quiet_op; go_big_quiet_on)
  (refine wpG_op rfl rfl rfl ?_; intro K hK; go_big_quiet_op; go_big_quiet_on)
  (refine wpG_op rfl rfl rfl ?_; intro K hK; go_big_quiet_op; go_big_quiet_on)
  clear hone
  refine wpG_nil ?_
  (refine (gOp_new (wo (0)) rfl (new_wide _) ?_); intro g7 hbg7 hfg7; intro K' hK'; go_big_quiet_op; go_big_quiet_on)
  have ng7x0 : Hid (g4 ≠ g7) := hfg7 (g4, _) (List.Mem.head _)
  have ng7x1 : Hid (g1 ≠ g7) := hfg7 (g1, _) (List.Mem.tail _ (List.Mem.head _))
  have ng7x2 : Hid (w.heap.size + 1 ≠ g7) := hfg7 (w.heap.size + 1, _) (List.Mem.tail _ (List.Mem.tail _ (List.Mem.head _)))
  have ng7x3 : Hid (w.heap.size ≠ g7) := hfg7 (w.heap.size, _) (List.Mem.tail _ (List.Mem.tail _ (List.Mem.tail _ (List.Mem.head _))))
  clear hfg7
  (refine (gOp_new (wo (0)) rfl (new_wide _) ?_); intro g8 hbg8 hfg8; intro K' hK'; go_big_quiet_op; go_big_quiet_on)
  have ng8x4 : Hid (g7 ≠ g8) := hfg8 (g7, _) (List.Mem.head _)
  have ng8x5 : Hid (g4 ≠ g8) := hfg8 (g4, _) (List.Mem.tail _ (List.Mem.head _))
  have ng8x6 : Hid (g1 ≠ g8) := hfg8 (g1, _) (List.Mem.tail _ (List.Mem.tail _ (List.Mem.head _)))
  have ng8x7 : Hid (w.heap.size + 1 ≠ g8) := hfg8 (w.heap.size + 1, _) (List.Mem.tail _ (List.Mem.tail _ (List.Mem.tail _ (List.Mem.head _))))
  have ng8x8 : Hid (w.heap.size ≠ g8) := hfg8 (w.heap.size, _) (List.Mem.tail _ (List.Mem.tail _ (List.Mem.tail _ (List.Mem.tail _ (List.Mem.head _)))))
  clear hfg8
  refine (gOp_store rfl (g7) (wcs (q)) rfl rfl hbg7 25 (wcs (0)) (List.Mem.tail _ (List.Mem.head _)) (wc_info _) ((wc_size _).trans (wc_size _).symm) (wc_one _) [(g7, (wo (q))), (g8, (wo (0))), (g4, (wo (n))), (g1, (wo (Big - 1))), (w.heap.size + 1, (wo (0))), (w.heap.size, (wo (t)))] (List.forall_mem_cons.2 ⟨.inl rfl, (List.forall_mem_cons.2 ⟨.inr ⟨(List.Mem.head _), (Ne.symm ng8x4.out)⟩, (List.forall_mem_cons.2 ⟨.inr ⟨(List.Mem.tail _ (List.Mem.tail _ (List.Mem.head _))), ng7x0.out⟩, (List.forall_mem_cons.2 ⟨.inr ⟨(List.Mem.tail _ (List.Mem.tail _ (List.Mem.tail _ (List.Mem.head _)))), ng7x1.out⟩, (List.forall_mem_cons.2 ⟨.inr ⟨(List.Mem.tail _ (List.Mem.tail _ (List.Mem.tail _ (List.Mem.tail _ (List.Mem.head _))))), ng7x2.out⟩, (List.forall_mem_cons.2 ⟨.inr ⟨(List.Mem.tail _ (List.Mem.tail _ (List.Mem.tail _ (List.Mem.tail _ (List.Mem.tail _ (List.Mem.head _)))))), ng7x3.out⟩, (fun _ h => by cases h)⟩)⟩)⟩)⟩)⟩)⟩) ?_)
  refine (gOp_store rfl (g8) (wcs (r)) rfl rfl hbg8 25 (wcs (0)) (List.Mem.tail _ (List.Mem.head _)) (wc_info _) ((wc_size _).trans (wc_size _).symm) (wc_one _) [(g8, (wo (r))), (g7, (wo (q))), (g4, (wo (n))), (g1, (wo (Big - 1))), (w.heap.size + 1, (wo (0))), (w.heap.size, (wo (t)))] (List.forall_mem_cons.2 ⟨.inl rfl, (List.forall_mem_cons.2 ⟨.inr ⟨(List.Mem.head _), ng8x4.out⟩, (List.forall_mem_cons.2 ⟨.inr ⟨(List.Mem.tail _ (List.Mem.tail _ (List.Mem.head _))), ng8x5.out⟩, (List.forall_mem_cons.2 ⟨.inr ⟨(List.Mem.tail _ (List.Mem.tail _ (List.Mem.tail _ (List.Mem.head _)))), ng8x6.out⟩, (List.forall_mem_cons.2 ⟨.inr ⟨(List.Mem.tail _ (List.Mem.tail _ (List.Mem.tail _ (List.Mem.tail _ (List.Mem.head _))))), ng8x7.out⟩, (List.forall_mem_cons.2 ⟨.inr ⟨(List.Mem.tail _ (List.Mem.tail _ (List.Mem.tail _ (List.Mem.tail _ (List.Mem.tail _ (List.Mem.head _)))))), ng8x8.out⟩, (fun _ h => by cases h)⟩)⟩)⟩)⟩)⟩)⟩) ?_)
  (refine (gOp_pure rfl rfl ?_); intro K' hK'; go_big_quiet_op; go_big_quiet_on)
  rintro u10 ⟨hl2, E2'⟩
  have E9 := Lib.hid E2'
  clear hl2 E2' E5
  go_upto_region 6 with (fail)
  refine wp_region_G (w0 := w) [0, 1, 2, 3, 4, 5] [(g8, (wo (r))), (g7, (wo (q))), (g4, (wo (n))), (g1, (wo (Big - 1))), (w.heap.size + 1, (wo (0))), (w.heap.size, (wo (t)))] 3 (by kernel_rfl) (by kernel_rfl) rfl E9.out ?_
  have hone := @EnvC.one _ _ _ (E9.out.drew)
  (refine wpG_load rfl rfl (g8) rfl 25 _ _ (fun u hu => EnvC.box hu _ (wo (r)) (List.Mem.head _)) Try.underlying25 rfl (wc_info _) ?_ (E9.out.drew); intro K hK; go_big_quiet_op; go_big_quiet_on)
  (refine wpG_call (f := 26) (args := #[.int .u64 (1 : Nat)]) (v := .agg (wcs (1))) rfl rfl rfl Try.func26 rfl rfl (fun u _ => rof_n 1 u (by decide)) ?_ (E9.out.drew); intro K hK; go_big_quiet_op; go_big_quiet_on)
  (refine wpG_call (f := 30) (args := #[.agg (wcs (r)), .agg (wcs (1))]) (v := .tuple #[.agg (wcs (m)), .bool (true)]) rfl rfl rfl Try.func30 rfl rfl (fun u _ => radd_yes r 1 m u hm.out hmB.out) ?_ (E9.out.drew); intro K hK; go_big_quiet_op; go_big_quiet_on)
  (refine wpG_op rfl rfl rfl ?_; intro K hK; go_big_quiet_op; go_big_quiet_on)
  (refine wpG_op rfl rfl rfl ?_; intro K hK; go_big_quiet_op; go_big_quiet_on)
  (refine wpG_op rfl rfl rfl ?_; intro K hK; go_big_quiet_op; go_big_quiet_on)
  clear hone
  refine wpG_nil ?_
  (refine anyG_one (i := 6) (by kernel_rfl) (gOp_new (wo (0)) rfl (new_wide _) ?_); intro g11 hbg11 hfg11; intro K' hK'; go_big_quiet_op; go_big_quiet_on)
  have ng11x0 : Hid (g8 ≠ g11) := hfg11 (g8, _) (List.Mem.head _)
  have ng11x1 : Hid (g7 ≠ g11) := hfg11 (g7, _) (List.Mem.tail _ (List.Mem.head _))
  have ng11x2 : Hid (g4 ≠ g11) := hfg11 (g4, _) (List.Mem.tail _ (List.Mem.tail _ (List.Mem.head _)))
  have ng11x3 : Hid (g1 ≠ g11) := hfg11 (g1, _) (List.Mem.tail _ (List.Mem.tail _ (List.Mem.tail _ (List.Mem.head _))))
  have ng11x4 : Hid (w.heap.size + 1 ≠ g11) := hfg11 (w.heap.size + 1, _) (List.Mem.tail _ (List.Mem.tail _ (List.Mem.tail _ (List.Mem.tail _ (List.Mem.head _)))))
  have ng11x5 : Hid (w.heap.size ≠ g11) := hfg11 (w.heap.size, _) (List.Mem.tail _ (List.Mem.tail _ (List.Mem.tail _ (List.Mem.tail _ (List.Mem.tail _ (List.Mem.head _))))))
  clear hfg11
  refine anyG_one (i := 7) (by kernel_rfl) (gOp_store rfl (g11) (wcs (m)) rfl rfl hbg11 25 (wcs (0)) (List.Mem.head _) (wc_info _) ((wc_size _).trans (wc_size _).symm) (wc_one _) [(g11, (wo (m))), (g8, (wo (r))), (g7, (wo (q))), (g4, (wo (n))), (g1, (wo (Big - 1))), (w.heap.size + 1, (wo (0))), (w.heap.size, (wo (t)))] (List.forall_mem_cons.2 ⟨.inl rfl, (List.forall_mem_cons.2 ⟨.inr ⟨(List.Mem.tail _ (List.Mem.head _)), ng11x0.out⟩, (List.forall_mem_cons.2 ⟨.inr ⟨(List.Mem.tail _ (List.Mem.tail _ (List.Mem.head _))), ng11x1.out⟩, (List.forall_mem_cons.2 ⟨.inr ⟨(List.Mem.tail _ (List.Mem.tail _ (List.Mem.tail _ (List.Mem.head _)))), ng11x2.out⟩, (List.forall_mem_cons.2 ⟨.inr ⟨(List.Mem.tail _ (List.Mem.tail _ (List.Mem.tail _ (List.Mem.tail _ (List.Mem.head _))))), ng11x3.out⟩, (List.forall_mem_cons.2 ⟨.inr ⟨(List.Mem.tail _ (List.Mem.tail _ (List.Mem.tail _ (List.Mem.tail _ (List.Mem.tail _ (List.Mem.head _)))))), ng11x4.out⟩, (List.forall_mem_cons.2 ⟨.inr ⟨(List.Mem.tail _ (List.Mem.tail _ (List.Mem.tail _ (List.Mem.tail _ (List.Mem.tail _ (List.Mem.tail _ (List.Mem.head _))))))), ng11x5.out⟩, (fun _ h => by cases h)⟩)⟩)⟩)⟩)⟩)⟩)⟩) ?_)
  (refine anyG_one (i := 8) (by kernel_rfl) (gOp_pure rfl rfl ?_); intro K' hK'; go_big_quiet_op; go_big_quiet_on)
  refine anyG_done (by kernel_rfl) ?_
  rintro u13 ⟨hl2, E2'⟩
  have E12 := Lib.hid E2'
  clear hl2 E2' E9
  go_upto_region 7 with (fail)
  refine wp_region_Gx (w0 := w) [0, 1, 2] [] [(g11, (wo (m))), (g8, (wo (r))), (g7, (wo (q))), (g4, (wo (n))), (g1, (wo (Big - 1))), (w.heap.size + 1, (wo (0))), (w.heap.size, (wo (t)))] rfl E12.out ?_
  have hone := @EnvC.one _ _ _ (E12.out)
  (refine wpG_load rfl rfl (g11) rfl 25 _ _ (fun u hu => EnvC.box hu _ (wo (m)) (List.Mem.head _)) Try.underlying25 rfl (wc_info _) ?_ (E12.out); intro K hK; go_big_quiet_op; go_big_quiet_on)
  (refine wpG_load rfl rfl (g4) rfl 25 _ _ (fun u hu => EnvC.box hu _ (wo (n)) (List.Mem.tail _ (List.Mem.tail _ (List.Mem.tail _ (List.Mem.head _))))) Try.underlying25 rfl (wc_info _) ?_ (E12.out); intro K hK; go_big_quiet_op; go_big_quiet_on)
  (refine wpG_val (v := .bool (true)) rfl rfl (fun u _ => eql_op (hmB.out) (hnB.out) (heq.out) rfl rfl u) ?_ (E12.out); intro K hK; go_big_quiet_op; go_big_quiet_on)
  clear hone
  refine wpG_nil ?_
  rintro u15 ⟨hl2, E2'⟩
  have E14 := Lib.hid E2'
  clear hl2 E2' E12
  go_upto_region 8 with (fail)
  refine wp_region_G (w0 := w) [0, 1, 2, 3, 4, 5] [(g11, (wo (m))), (g8, (wo (r))), (g7, (wo (q))), (g4, (wo (n))), (g1, (wo (Big - 1))), (w.heap.size + 1, (wo (0))), (w.heap.size, (wo (t)))] 1 (by kernel_rfl) (by kernel_rfl) rfl E14.out ?_
  have hone := @EnvC.one _ _ _ (E14.out.drew)
  (refine wpG_load rfl rfl (g7) rfl 25 _ _ (fun u hu => EnvC.box hu _ (wo (q)) (List.Mem.tail _ (List.Mem.tail _ (List.Mem.head _)))) Try.underlying25 rfl (wc_info _) ?_ (E14.out.drew); intro K hK; go_big_quiet_op; go_big_quiet_on)
  (refine wpG_call (f := 26) (args := #[.int .u64 (1 : Nat)]) (v := .agg (wcs (1))) rfl rfl rfl Try.func26 rfl rfl (fun u _ => rof_n 1 u (by decide)) ?_ (E14.out.drew); intro K hK; go_big_quiet_op; go_big_quiet_on)
  (refine wpG_call (f := 30) (args := #[.agg (wcs (q)), .agg (wcs (1))]) (v := .tuple #[.agg (wcs (k)), .bool (kb)]) rfl rfl rfl Try.func30 rfl rfl (fun u _ => by have h := radd_any q 1 u hqB.out (by have := H1.out; omega); rw [hk.out, hkb.out] at h; exact h) ?_ (E14.out.drew); intro K hK; go_big_quiet_op; go_big_quiet_on)
  (refine wpG_op rfl rfl rfl ?_; intro K hK; go_big_quiet_op; go_big_quiet_on)
  (refine wpG_op rfl rfl rfl ?_; intro K hK; go_big_quiet_op; go_big_quiet_on)
  (refine wpG_op rfl rfl rfl ?_; intro K hK; go_big_quiet_op; go_big_quiet_on)
  clear hone
  refine wpG_nil ?_
  refine anyG_one (i := 6) (by kernel_rfl) (gOp_store rfl (g7) (wcs (k)) rfl rfl hbg7 25 (wcs (q)) (List.Mem.tail _ (List.Mem.tail _ (List.Mem.head _))) (wc_info _) ((wc_size _).trans (wc_size _).symm) (wc_one _) [(g7, (wo (k))), (g11, (wo (m))), (g8, (wo (r))), (g4, (wo (n))), (g1, (wo (Big - 1))), (w.heap.size + 1, (wo (0))), (w.heap.size, (wo (t)))] (List.forall_mem_cons.2 ⟨.inl rfl, (List.forall_mem_cons.2 ⟨.inr ⟨(List.Mem.head _), (Ne.symm ng11x1.out)⟩, (List.forall_mem_cons.2 ⟨.inr ⟨(List.Mem.tail _ (List.Mem.head _)), (Ne.symm ng8x4.out)⟩, (List.forall_mem_cons.2 ⟨.inr ⟨(List.Mem.tail _ (List.Mem.tail _ (List.Mem.tail _ (List.Mem.head _)))), ng7x0.out⟩, (List.forall_mem_cons.2 ⟨.inr ⟨(List.Mem.tail _ (List.Mem.tail _ (List.Mem.tail _ (List.Mem.tail _ (List.Mem.head _))))), ng7x1.out⟩, (List.forall_mem_cons.2 ⟨.inr ⟨(List.Mem.tail _ (List.Mem.tail _ (List.Mem.tail _ (List.Mem.tail _ (List.Mem.tail _ (List.Mem.head _)))))), ng7x2.out⟩, (List.forall_mem_cons.2 ⟨.inr ⟨(List.Mem.tail _ (List.Mem.tail _ (List.Mem.tail _ (List.Mem.tail _ (List.Mem.tail _ (List.Mem.tail _ (List.Mem.head _))))))), ng7x3.out⟩, (fun _ h => by cases h)⟩)⟩)⟩)⟩)⟩)⟩)⟩) ?_)
  refine anyG_done (by kernel_rfl) ?_
  rintro u17 ⟨hl2, E2'⟩
  have E16 := Lib.hid E2'
  clear hl2 E2' E14
  go_upto_region 9 with (fail)
  refine wp_region_Gx (w0 := w) [0] [1] [(g7, (wo (k))), (g11, (wo (m))), (g8, (wo (r))), (g4, (wo (n))), (g1, (wo (Big - 1))), (w.heap.size + 1, (wo (0))), (w.heap.size, (wo (t)))] rfl E16.out ?_
  have hone := @EnvC.one _ _ _ (E16.out)
  (refine wpG_load rfl rfl (g7) rfl 25 _ _ (fun u hu => EnvC.box hu _ (wo (k)) (List.Mem.head _)) Try.underlying25 rfl (wc_info _) ?_ (E16.out); intro K hK; go_big_quiet_op; go_big_quiet_on)
  clear hone
  refine wpG_nil ?_
  refine (gOp_store rfl (w.heap.size + 1) (wcs (k)) rfl rfl hb2 25 (wcs (0)) (List.Mem.tail _ (List.Mem.tail _ (List.Mem.tail _ (List.Mem.tail _ (List.Mem.tail _ (List.Mem.head _)))))) (wc_info _) ((wc_size _).trans (wc_size _).symm) (wc_one _) [(w.heap.size + 1, (wo (k))), (g7, (wo (k))), (g11, (wo (m))), (g8, (wo (r))), (g4, (wo (n))), (g1, (wo (Big - 1))), (w.heap.size, (wo (t)))] (List.forall_mem_cons.2 ⟨.inl rfl, (List.forall_mem_cons.2 ⟨.inr ⟨(List.Mem.head _), (Ne.symm ng7x2.out)⟩, (List.forall_mem_cons.2 ⟨.inr ⟨(List.Mem.tail _ (List.Mem.head _)), (Ne.symm ng11x4.out)⟩, (List.forall_mem_cons.2 ⟨.inr ⟨(List.Mem.tail _ (List.Mem.tail _ (List.Mem.head _))), (Ne.symm ng8x7.out)⟩, (List.forall_mem_cons.2 ⟨.inr ⟨(List.Mem.tail _ (List.Mem.tail _ (List.Mem.tail _ (List.Mem.head _)))), (Ne.symm ng4x1.out)⟩, (List.forall_mem_cons.2 ⟨.inr ⟨(List.Mem.tail _ (List.Mem.tail _ (List.Mem.tail _ (List.Mem.tail _ (List.Mem.head _))))), (Ne.symm ng1x0.out)⟩, (List.forall_mem_cons.2 ⟨.inr ⟨(List.Mem.tail _ (List.Mem.tail _ (List.Mem.tail _ (List.Mem.tail _ (List.Mem.tail _ (List.Mem.tail _ (List.Mem.head _))))))), (Ne.symm n21.out)⟩, (fun _ h => by cases h)⟩)⟩)⟩)⟩)⟩)⟩)⟩) ?_)
  rintro u19 ⟨hl2, E2'⟩
  have E18 := Lib.hid E2'
  clear hl2 E2' E16
  go_wp2_with ((with_reducible refine bodyPost_ret (v := .agg (wcs (k))) ?_ ?_ ?_); (exact results_cell_row (p := 2) (ty := 25) Try.results15 _ _ (w.heap.size + 1) 25 (wcs (k)) (0, 0) _ rfl (E18.out.box _ (wo (k)) (List.Mem.head _)) Try.underlying25 rfl (wc_info _)); (rfl))
  exact E18.out.bel

theorem rwork_any (t : Nat) (w : World) (ht : t < Big) :
    Calls Try.prog 15 #[.agg (wcs t)] w fun e w' => e = .returned (.agg (wcs (wkV t))) ∧ Below w.heap.size w w' := by
  by_cases h : t + 1 < Big
  · have h1 := wk_ref h
    have hml := Nat.mod_lt (Big - 1) (show 0 < t + 1 by omega)
    by_cases hx : (Big - 1) % (t + 1) + 1 = t + 1
    · rw [if_pos hx] at h1
      refine rwork_yes t w (t + 1) _ _ ((Big - 1) % (t + 1) + 1) rfl h (by show _ < _; omega) rfl rfl rfl (by show _ < _; omega) (by show _ = _; rw [hx]; simp [eqN]) (wkV t) _ ?_ h1 rfl
      show _ < _
      exact Nat.lt_of_le_of_lt (Nat.div_le_self _ _) (by omega)
    · rw [if_neg hx] at h1
      refine rwork_not t w (t + 1) (wkV t) _ ((Big - 1) % (t + 1) + 1) rfl h (by show _ < _; omega) h1 rfl rfl (by show _ < _; omega) (by show _ = _; simp only [eqN]; simpa using hx)
  · have e : wkV t = 1 := by unfold wkV; rw [if_neg h]
    rw [e]
    exact rwork_no t w (by omega)
end Go.Proofs.Ytdbkbaanppnabaa
