/- The walk of the law WideWhole. -/
import Derived.Test.YtcombekbeljflaaAwake
import Derived.Test.YtcombekbeljflaaG2
namespace Go.Proofs.Ytcombekbeljflaa
open Go.RowKit

theorem eqN_same (m : Nat) : eqN m m = true := by simp [eqN]
theorem neqN_same (m : Nat) : (!eqN m m) = false := by simp [eqN]
theorem div_one_of (a : Nat) (u : World) (ha : a < Big) (h1 : 1 < Big) :
    Calls Try.prog 27 #[.agg (wcs a), .agg (wcs 1)] u fun e w' => e = .returned (.tuple #[.agg (wcs a), .agg (wcs 0), .bool true]) ∧ Below u.heap.size u w' := by
  have h := div_yes a 1 u ha h1 (by decide)
  rw [Nat.div_one, Nat.mod_one] at h
  exact h
theorem div_self_of (a : Nat) (u : World) (ha : a < Big) (h0 : 0 < a) :
    Calls Try.prog 27 #[.agg (wcs a), .agg (wcs a)] u fun e w' => e = .returned (.tuple #[.agg (wcs 1), .agg (wcs 0), .bool true]) ∧ Below u.heap.size u w' := by
  have h := div_yes a a u ha ha h0
  rw [Nat.div_self h0, Nat.mod_self] at h
  exact h
set_option maxRecDepth 100000 in
set_option maxHeartbeats 8000000 in
theorem whole_zero (a b h r : Nat) (ha : Hid (a < Big)) (hb : Hid (b < Big)) (h1B : Hid (1 < Big)) (h2B : Hid (2 < Big)) (hhB : Hid (h < Big)) (hh : Hid (a / 2 = h)) (hr : Hid (a % 2 = r)) (hd : Hid (a / 2 ^ 1 = h)) (e0 : Hid (eqN a 0 = true)) (w : World) :
    Calls Try.prog 9 #[.agg (wcs (a)), .agg (wcs (b))] w fun e w' => e = .returned (.bool true) ∧ Below w.heap.size w w' := by
  have E1 : Hid (EnvX w ((w.alloc (.cells (wcs (a)) 24)).alloc (.cells (wcs (b)) 24)) [(w.heap.size + 1, (wo (b))), (w.heap.size, (wo (a)))]) := by
    have h := (((EnvX.start w).new (wo (a))).new (wo (b)))
    try simp only [World.size_alloc] at h
    exact h
  go_enter Try.func9, Try.ntmps9
  go_upto_region 1 with (fail)
  generalize ((w.alloc (.cells (wcs (a)) 24)).alloc (.cells (wcs (b)) 24)) = w1 at *
  refine wp_region_Gx (w0 := w) [0, 1] [] [(w.heap.size + 1, (wo (b))), (w.heap.size, (wo (a)))] rfl E1.out ?_
  have hone := @EnvC.one _ _ _ (E1.out)
  (refine wpG_call (f := 10) (args := #[]) (v := .bool true) rfl rfl rfl Try.func10 rfl rfl (fun u _ => awake_any u) ?_ (E1.out); intro K hK; go_big_quiet_op; go_big_quiet_on)
  (refine wpG_op rfl rfl rfl ?_; intro K hK; go_big_quiet_op; go_big_quiet_on)
  clear hone
  refine wpG_nil ?_
  rintro u2 ⟨hl2, E2'⟩
  have EX1 := Lib.hid E2'
  clear hl2 E2' E1
  go_upto_region 2 with (fail)
  refine wp_region_G (w0 := w) [0, 1, 2, 3, 4, 5, 6] [(w.heap.size + 1, (wo (b))), (w.heap.size, (wo (a)))] 5 (by kernel_rfl) (by kernel_rfl) rfl EX1.out ?_
  have hone := @EnvC.one _ _ _ (EX1.out.drew)
  (refine wpG_load rfl rfl (w.heap.size) rfl 24 _ _ (fun u hu => EnvC.box hu _ (wo (a)) (List.Mem.tail _ (List.Mem.head _))) Try.underlying24 rfl (wc_info _) ?_ (EX1.out.drew); intro K hK; go_big_quiet_op; go_big_quiet_on)
  (refine wpG_call (f := 25) (args := #[.int .u64 (1 : Nat)]) (v := .agg (wcs (1))) rfl rfl rfl Try.func25 rfl rfl (fun u _ => of_n 1 u (by decide)) ?_ (EX1.out.drew); intro K hK; go_big_quiet_op; go_big_quiet_on)
  (refine wpG_call (f := 27) (args := #[.agg (wcs (a)), .agg (wcs (1))]) (v := .tuple #[.agg (wcs (a)), .agg (wcs (0)), .bool true]) rfl rfl rfl Try.func27 rfl rfl (fun u _ => div_one_of a u ha.out h1B.out) ?_ (EX1.out.drew); intro K hK; go_big_quiet_op; go_big_quiet_on)
  (refine wpG_op rfl rfl rfl ?_; intro K hK; go_big_quiet_op; go_big_quiet_on)
  (refine wpG_op rfl rfl rfl ?_; intro K hK; go_big_quiet_op; go_big_quiet_on)
  (refine wpG_op rfl rfl rfl ?_; intro K hK; go_big_quiet_op; go_big_quiet_on)
  (refine wpG_op rfl rfl rfl ?_; intro K hK; go_big_quiet_op; go_big_quiet_on)
  clear hone
  refine wpG_nil ?_
  refine anyG_twoNew (i := 7) (j := 8) (wo (0)) (wo (0)) (fun _ _ _ _ hM hh => GT_perm _ _ _ _ hM hh) (by kernel_rfl) (by kernel_rfl) (by kernel_rfl) rfl rfl (by decide) (by decide) (fun _ => new_wide _) (fun _ => new_wide _) ?_
  intro g3 g4 hbg3 hbg4 hfg3 hfg4 ng4y K1 hK1; go_big_quiet_op; go_big_quiet_on; intro K' hK'; go_big_quiet_op; go_big_quiet_on
  have ng4z : Hid (g3 ≠ g4) := ng4y
  clear ng4y
  have ng3x0 : Hid (w.heap.size + 1 ≠ g3) := hfg3 (w.heap.size + 1, _) (List.Mem.head _)
  have ng3x1 : Hid (w.heap.size ≠ g3) := hfg3 (w.heap.size, _) (List.Mem.tail _ (List.Mem.head _))
  clear hfg3
  have ng4x2 : Hid (w.heap.size + 1 ≠ g4) := hfg4 (w.heap.size + 1, _) (List.Mem.head _)
  have ng4x3 : Hid (w.heap.size ≠ g4) := hfg4 (w.heap.size, _) (List.Mem.tail _ (List.Mem.head _))
  clear hfg4
  refine anyG_one (i := 9) (by kernel_rfl) (gOp_store rfl (g3) (wcs (a)) rfl rfl hbg3 24 (wcs (0)) (List.Mem.tail _ (List.Mem.head _)) (wc_info _) ((wc_size _).trans (wc_size _).symm) (wc_one _) [(g3, (wo (a))), (g4, (wo (0))), (w.heap.size + 1, (wo (b))), (w.heap.size, (wo (a)))] (List.forall_mem_cons.2 ⟨.inl rfl, (List.forall_mem_cons.2 ⟨.inr ⟨(List.Mem.head _), (Ne.symm ng4z.out)⟩, (List.forall_mem_cons.2 ⟨.inr ⟨(List.Mem.tail _ (List.Mem.tail _ (List.Mem.head _))), ng3x0.out⟩, (List.forall_mem_cons.2 ⟨.inr ⟨(List.Mem.tail _ (List.Mem.tail _ (List.Mem.tail _ (List.Mem.head _)))), ng3x1.out⟩, (fun _ h => by cases h)⟩)⟩)⟩)⟩) ?_)
  refine anyG_one (i := 10) (by kernel_rfl) (gOp_store rfl (g4) (wcs (0)) rfl rfl hbg4 24 (wcs (0)) (List.Mem.tail _ (List.Mem.head _)) (wc_info _) ((wc_size _).trans (wc_size _).symm) (wc_one _) [(g4, (wo (0))), (g3, (wo (a))), (w.heap.size + 1, (wo (b))), (w.heap.size, (wo (a)))] (List.forall_mem_cons.2 ⟨.inl rfl, (List.forall_mem_cons.2 ⟨.inr ⟨(List.Mem.head _), ng4z.out⟩, (List.forall_mem_cons.2 ⟨.inr ⟨(List.Mem.tail _ (List.Mem.tail _ (List.Mem.head _))), ng4x2.out⟩, (List.forall_mem_cons.2 ⟨.inr ⟨(List.Mem.tail _ (List.Mem.tail _ (List.Mem.tail _ (List.Mem.head _)))), ng4x3.out⟩, (fun _ h => by cases h)⟩)⟩)⟩)⟩) ?_)
  (refine anyG_one (i := 11) (by kernel_rfl) (gOp_pure rfl rfl ?_); intro K' hK'; go_big_quiet_op; go_big_quiet_on)
  refine anyG_done (by kernel_rfl) ?_
  rintro u6 ⟨hl2, E2'⟩
  have EX5 := Lib.hid E2'
  clear hl2 E2' EX1
  go_upto_region 3 with (fail)
  refine wp_region_G (w0 := w) [0, 1, 2, 3, 4, 5, 6] [(g4, (wo (0))), (g3, (wo (a))), (w.heap.size + 1, (wo (b))), (w.heap.size, (wo (a)))] 5 (by kernel_rfl) (by kernel_rfl) rfl EX5.out ?_
  have hone := @EnvC.one _ _ _ (EX5.out.drew)
  (refine wpG_load rfl rfl (w.heap.size) rfl 24 _ _ (fun u hu => EnvC.box hu _ (wo (a)) (List.Mem.tail _ (List.Mem.tail _ (List.Mem.tail _ (List.Mem.head _))))) Try.underlying24 rfl (wc_info _) ?_ (EX5.out.drew); intro K hK; go_big_quiet_op; go_big_quiet_on)
  (refine wpG_call (f := 25) (args := #[.int .u64 (2 : Nat)]) (v := .agg (wcs (2))) rfl rfl rfl Try.func25 rfl rfl (fun u _ => of_n 2 u (by decide)) ?_ (EX5.out.drew); intro K hK; go_big_quiet_op; go_big_quiet_on)
  (refine wpG_call (f := 27) (args := #[.agg (wcs (a)), .agg (wcs (2))]) (v := .tuple #[.agg (wcs (h)), .agg (wcs (r)), .bool true]) rfl rfl rfl Try.func27 rfl rfl (fun u _ => (by have k := div_yes a 2 u ha.out h2B.out (by decide); rw [hh.out, hr.out] at k; exact k)) ?_ (EX5.out.drew); intro K hK; go_big_quiet_op; go_big_quiet_on)
  (refine wpG_op rfl rfl rfl ?_; intro K hK; go_big_quiet_op; go_big_quiet_on)
  (refine wpG_op rfl rfl rfl ?_; intro K hK; go_big_quiet_op; go_big_quiet_on)
  (refine wpG_op rfl rfl rfl ?_; intro K hK; go_big_quiet_op; go_big_quiet_on)
  (refine wpG_op rfl rfl rfl ?_; intro K hK; go_big_quiet_op; go_big_quiet_on)
  clear hone
  refine wpG_nil ?_
  refine anyG_twoNew (i := 7) (j := 8) (wo (0)) (wo (0)) (fun _ _ _ _ hM hh => GT_perm _ _ _ _ hM hh) (by kernel_rfl) (by kernel_rfl) (by kernel_rfl) rfl rfl (by decide) (by decide) (fun _ => new_wide _) (fun _ => new_wide _) ?_
  intro g7 g8 hbg7 hbg8 hfg7 hfg8 ng8y K1 hK1; go_big_quiet_op; go_big_quiet_on; intro K' hK'; go_big_quiet_op; go_big_quiet_on
  have ng8z : Hid (g7 ≠ g8) := ng8y
  clear ng8y
  have ng7x0 : Hid (g4 ≠ g7) := hfg7 (g4, _) (List.Mem.head _)
  have ng7x1 : Hid (g3 ≠ g7) := hfg7 (g3, _) (List.Mem.tail _ (List.Mem.head _))
  have ng7x2 : Hid (w.heap.size + 1 ≠ g7) := hfg7 (w.heap.size + 1, _) (List.Mem.tail _ (List.Mem.tail _ (List.Mem.head _)))
  have ng7x3 : Hid (w.heap.size ≠ g7) := hfg7 (w.heap.size, _) (List.Mem.tail _ (List.Mem.tail _ (List.Mem.tail _ (List.Mem.head _))))
  clear hfg7
  have ng8x4 : Hid (g4 ≠ g8) := hfg8 (g4, _) (List.Mem.head _)
  have ng8x5 : Hid (g3 ≠ g8) := hfg8 (g3, _) (List.Mem.tail _ (List.Mem.head _))
  have ng8x6 : Hid (w.heap.size + 1 ≠ g8) := hfg8 (w.heap.size + 1, _) (List.Mem.tail _ (List.Mem.tail _ (List.Mem.head _)))
  have ng8x7 : Hid (w.heap.size ≠ g8) := hfg8 (w.heap.size, _) (List.Mem.tail _ (List.Mem.tail _ (List.Mem.tail _ (List.Mem.head _))))
  clear hfg8
  refine anyG_one (i := 9) (by kernel_rfl) (gOp_store rfl (g7) (wcs (h)) rfl rfl hbg7 24 (wcs (0)) (List.Mem.tail _ (List.Mem.head _)) (wc_info _) ((wc_size _).trans (wc_size _).symm) (wc_one _) [(g7, (wo (h))), (g8, (wo (0))), (g4, (wo (0))), (g3, (wo (a))), (w.heap.size + 1, (wo (b))), (w.heap.size, (wo (a)))] (List.forall_mem_cons.2 ⟨.inl rfl, (List.forall_mem_cons.2 ⟨.inr ⟨(List.Mem.head _), (Ne.symm ng8z.out)⟩, (List.forall_mem_cons.2 ⟨.inr ⟨(List.Mem.tail _ (List.Mem.tail _ (List.Mem.head _))), ng7x0.out⟩, (List.forall_mem_cons.2 ⟨.inr ⟨(List.Mem.tail _ (List.Mem.tail _ (List.Mem.tail _ (List.Mem.head _)))), ng7x1.out⟩, (List.forall_mem_cons.2 ⟨.inr ⟨(List.Mem.tail _ (List.Mem.tail _ (List.Mem.tail _ (List.Mem.tail _ (List.Mem.head _))))), ng7x2.out⟩, (List.forall_mem_cons.2 ⟨.inr ⟨(List.Mem.tail _ (List.Mem.tail _ (List.Mem.tail _ (List.Mem.tail _ (List.Mem.tail _ (List.Mem.head _)))))), ng7x3.out⟩, (fun _ h => by cases h)⟩)⟩)⟩)⟩)⟩)⟩) ?_)
  refine anyG_one (i := 10) (by kernel_rfl) (gOp_store rfl (g8) (wcs (r)) rfl rfl hbg8 24 (wcs (0)) (List.Mem.tail _ (List.Mem.head _)) (wc_info _) ((wc_size _).trans (wc_size _).symm) (wc_one _) [(g8, (wo (r))), (g7, (wo (h))), (g4, (wo (0))), (g3, (wo (a))), (w.heap.size + 1, (wo (b))), (w.heap.size, (wo (a)))] (List.forall_mem_cons.2 ⟨.inl rfl, (List.forall_mem_cons.2 ⟨.inr ⟨(List.Mem.head _), ng8z.out⟩, (List.forall_mem_cons.2 ⟨.inr ⟨(List.Mem.tail _ (List.Mem.tail _ (List.Mem.head _))), ng8x4.out⟩, (List.forall_mem_cons.2 ⟨.inr ⟨(List.Mem.tail _ (List.Mem.tail _ (List.Mem.tail _ (List.Mem.head _)))), ng8x5.out⟩, (List.forall_mem_cons.2 ⟨.inr ⟨(List.Mem.tail _ (List.Mem.tail _ (List.Mem.tail _ (List.Mem.tail _ (List.Mem.head _))))), ng8x6.out⟩, (List.forall_mem_cons.2 ⟨.inr ⟨(List.Mem.tail _ (List.Mem.tail _ (List.Mem.tail _ (List.Mem.tail _ (List.Mem.tail _ (List.Mem.head _)))))), ng8x7.out⟩, (fun _ h => by cases h)⟩)⟩)⟩)⟩)⟩)⟩) ?_)
  (refine anyG_one (i := 11) (by kernel_rfl) (gOp_pure rfl rfl ?_); intro K' hK'; go_big_quiet_op; go_big_quiet_on)
  refine anyG_done (by kernel_rfl) ?_
  rintro u10 ⟨hl2, E2'⟩
  have EX9 := Lib.hid E2'
  clear hl2 E2' EX5
  go_upto_region 4 with (fail)
  refine wp_region_G (w0 := w) [0, 1, 2, 3, 4, 5, 6, 7, 8, 9, 10, 11, 12, 13, 14, 15, 16, 17, 18, 19, 20, 21] [(g8, (wo (r))), (g7, (wo (h))), (g4, (wo (0))), (g3, (wo (a))), (w.heap.size + 1, (wo (b))), (w.heap.size, (wo (a)))] 0 (by kernel_rfl) (by kernel_rfl) rfl EX9.out ?_
  have hone := @EnvC.one _ _ _ (EX9.out.drew)
  (refine wpG_op rfl rfl rfl ?_; intro K hK; go_big_quiet_op; go_big_quiet_on)
  (refine wpG_op rfl rfl rfl ?_; intro K hK; go_big_quiet_op; go_big_quiet_on)
  (refine wpG_op rfl rfl rfl ?_; intro K hK; go_big_quiet_op; go_big_quiet_on)
  (refine wpG_op rfl rfl rfl ?_; intro K hK; go_big_quiet_op; go_big_quiet_on)
  (refine wpG_op rfl rfl rfl ?_; intro K hK; go_big_quiet_op; go_big_quiet_on)
  (refine wpG_op rfl rfl rfl ?_; intro K hK; go_big_quiet_op; go_big_quiet_on)
  (refine wpG_op rfl rfl rfl ?_; intro K hK; go_big_quiet_op; go_big_quiet_on)
  (refine wpG_load rfl rfl (g3) rfl 24 _ _ (fun u hu => EnvC.box hu _ (wo (a)) (List.Mem.tail _ (List.Mem.tail _ (List.Mem.tail _ (List.Mem.head _))))) Try.underlying24 rfl (wc_info _) ?_ (EX9.out.drew); intro K hK; go_big_quiet_op; go_big_quiet_on)
  (refine wpG_load rfl rfl (w.heap.size) rfl 24 _ _ (fun u hu => EnvC.box hu _ (wo (a)) (List.Mem.tail _ (List.Mem.tail _ (List.Mem.tail _ (List.Mem.tail _ (List.Mem.tail _ (List.Mem.head _))))))) Try.underlying24 rfl (wc_info _) ?_ (EX9.out.drew); intro K hK; go_big_quiet_op; go_big_quiet_on)
  (refine wpG_val (v := .bool (false)) rfl rfl (fun u _ => neq_op (ha.out) (ha.out) (neqN_same a) rfl rfl u) ?_ (EX9.out.drew); intro K hK; go_big_quiet_op; go_big_quiet_on)
  (refine wpG_op rfl rfl rfl ?_; intro K hK; go_big_quiet_op; go_big_quiet_on)
  (refine wpG_op rfl rfl rfl ?_; intro K hK; go_big_quiet_op; go_big_quiet_on)
  (refine wpG_load rfl rfl (g4) rfl 24 _ _ (fun u hu => EnvC.box hu _ (wo (0)) (List.Mem.tail _ (List.Mem.tail _ (List.Mem.head _)))) Try.underlying24 rfl (wc_info _) ?_ (EX9.out.drew); intro K hK; go_big_quiet_op; go_big_quiet_on)
  (refine wpG_op rfl rfl rfl ?_; intro K hK; go_big_quiet_op; go_big_quiet_on)
  (refine wpG_val (v := .bool (false)) rfl rfl (fun u _ => neq_op (Big_pos) (Big_pos) (neqN_same 0) rfl rfl u) ?_ (EX9.out.drew); intro K hK; go_big_quiet_op; go_big_quiet_on)
  (refine wpG_op rfl rfl rfl ?_; intro K hK; go_big_quiet_op; go_big_quiet_on)
  (refine wpG_op rfl rfl rfl ?_; intro K hK; go_big_quiet_op; go_big_quiet_on)
  (refine wpG_load rfl rfl (g7) rfl 24 _ _ (fun u hu => EnvC.box hu _ (wo (h)) (List.Mem.tail _ (List.Mem.head _))) Try.underlying24 rfl (wc_info _) ?_ (EX9.out.drew); intro K hK; go_big_quiet_op; go_big_quiet_on)
  (refine wpG_load rfl rfl (w.heap.size) rfl 24 _ _ (fun u hu => EnvC.box hu _ (wo (a)) (List.Mem.tail _ (List.Mem.tail _ (List.Mem.tail _ (List.Mem.tail _ (List.Mem.tail _ (List.Mem.head _))))))) Try.underlying24 rfl (wc_info _) ?_ (EX9.out.drew); intro K hK; go_big_quiet_op; go_big_quiet_on)
  (refine wpG_call (f := 17) (args := #[.agg (wcs (a)), .int .i64 (1 : Nat)]) (v := .agg (wcs (h))) rfl rfl rfl Try.func17 rfl rfl (fun u _ => (by have k := down_any a 1 u ha.out (by decide); rw [hd.out] at k; exact k)) ?_ (EX9.out.drew); intro K hK; go_big_quiet_op; go_big_quiet_on)
  (refine wpG_val (v := .bool (false)) rfl rfl (fun u _ => neq_op (hhB.out) (hhB.out) (neqN_same h) rfl rfl u) ?_ (EX9.out.drew); intro K hK; go_big_quiet_op; go_big_quiet_on)
  (refine wpG_op rfl rfl rfl ?_; intro K hK; go_big_quiet_op; go_big_quiet_on)
  clear hone
  refine wpG_nil ?_
  refine anyG_done (by kernel_rfl) ?_
  rintro u12 ⟨hl2, E2'⟩
  have EX11 := Lib.hid E2'
  clear hl2 E2' EX9
  go_upto_region 6 with (fail)
  refine wp_region_Gx (w0 := w) [0, 1, 2] [] [(g8, (wo (r))), (g7, (wo (h))), (g4, (wo (0))), (g3, (wo (a))), (w.heap.size + 1, (wo (b))), (w.heap.size, (wo (a)))] rfl EX11.out ?_
  have hone := @EnvC.one _ _ _ (EX11.out)
  (refine wpG_load rfl rfl (w.heap.size) rfl 24 _ _ (fun u hu => EnvC.box hu _ (wo (a)) (List.Mem.tail _ (List.Mem.tail _ (List.Mem.tail _ (List.Mem.tail _ (List.Mem.tail _ (List.Mem.head _))))))) Try.underlying24 rfl (wc_info _) ?_ (EX11.out); intro K hK; go_big_quiet_op; go_big_quiet_on)
  (refine wpG_op rfl rfl rfl ?_; intro K hK; go_big_quiet_op; go_big_quiet_on)
  (refine wpG_val (v := .bool (true)) rfl rfl (fun u _ => eql_op (ha.out) (Big_pos) (e0.out) rfl rfl u) ?_ (EX11.out); intro K hK; go_big_quiet_op; go_big_quiet_on)
  clear hone
  refine wpG_nil ?_
  rintro u14 ⟨hl2, E2'⟩
  have EX13 := Lib.hid E2'
  clear hl2 E2' EX11
  go_wp2_with fail
  go_ret
  exact ⟨rfl, EX13.out.bel⟩
set_option maxRecDepth 100000 in
set_option maxHeartbeats 8000000 in
theorem whole_ge (a b h r : Nat) (ha : Hid (a < Big)) (hb : Hid (b < Big)) (h1B : Hid (1 < Big)) (h2B : Hid (2 < Big)) (hhB : Hid (h < Big)) (hh : Hid (a / 2 = h)) (hr : Hid (a % 2 = r)) (hd : Hid (a / 2 ^ 1 = h)) (e0 : Hid (eqN a 0 = false)) (h0 : Hid (0 < a)) (c : Int) (hc : Hid (cmpI b a = c)) (n1 : 0 ≤ c) (x y : Nat) (hxB : Hid (x < Big)) (hyB : Hid (y < Big)) (hx : Hid (b / a = x)) (hy : Hid (b % a = y)) (w : World) :
    Calls Try.prog 9 #[.agg (wcs (a)), .agg (wcs (b))] w fun e w' => e = .returned (.bool true) ∧ Below w.heap.size w w' := by
  have E1 : Hid (EnvX w ((w.alloc (.cells (wcs (a)) 24)).alloc (.cells (wcs (b)) 24)) [(w.heap.size + 1, (wo (b))), (w.heap.size, (wo (a)))]) := by
    have h := (((EnvX.start w).new (wo (a))).new (wo (b)))
    try simp only [World.size_alloc] at h
    exact h
  go_enter Try.func9, Try.ntmps9
  go_upto_region 1 with (fail)
  generalize ((w.alloc (.cells (wcs (a)) 24)).alloc (.cells (wcs (b)) 24)) = w1 at *
  refine wp_region_Gx (w0 := w) [0, 1] [] [(w.heap.size + 1, (wo (b))), (w.heap.size, (wo (a)))] rfl E1.out ?_
  have hone := @EnvC.one _ _ _ (E1.out)
  (refine wpG_call (f := 10) (args := #[]) (v := .bool true) rfl rfl rfl Try.func10 rfl rfl (fun u _ => awake_any u) ?_ (E1.out); intro K hK; go_big_quiet_op; go_big_quiet_on)
  (refine wpG_op rfl rfl rfl ?_; intro K hK; go_big_quiet_op; go_big_quiet_on)
  clear hone
  refine wpG_nil ?_
  rintro u2 ⟨hl2, E2'⟩
  have EX1 := Lib.hid E2'
  clear hl2 E2' E1
  go_upto_region 2 with (fail)
  refine wp_region_G (w0 := w) [0, 1, 2, 3, 4, 5, 6] [(w.heap.size + 1, (wo (b))), (w.heap.size, (wo (a)))] 5 (by kernel_rfl) (by kernel_rfl) rfl EX1.out ?_
  have hone := @EnvC.one _ _ _ (EX1.out.drew)
  (refine wpG_load rfl rfl (w.heap.size) rfl 24 _ _ (fun u hu => EnvC.box hu _ (wo (a)) (List.Mem.tail _ (List.Mem.head _))) Try.underlying24 rfl (wc_info _) ?_ (EX1.out.drew); intro K hK; go_big_quiet_op; go_big_quiet_on)
  (refine wpG_call (f := 25) (args := #[.int .u64 (1 : Nat)]) (v := .agg (wcs (1))) rfl rfl rfl Try.func25 rfl rfl (fun u _ => of_n 1 u (by decide)) ?_ (EX1.out.drew); intro K hK; go_big_quiet_op; go_big_quiet_on)
  (refine wpG_call (f := 27) (args := #[.agg (wcs (a)), .agg (wcs (1))]) (v := .tuple #[.agg (wcs (a)), .agg (wcs (0)), .bool true]) rfl rfl rfl Try.func27 rfl rfl (fun u _ => div_one_of a u ha.out h1B.out) ?_ (EX1.out.drew); intro K hK; go_big_quiet_op; go_big_quiet_on)
  (refine wpG_op rfl rfl rfl ?_; intro K hK; go_big_quiet_op; go_big_quiet_on)
  (refine wpG_op rfl rfl rfl ?_; intro K hK; go_big_quiet_op; go_big_quiet_on)
  (refine wpG_op rfl rfl rfl ?_; intro K hK; go_big_quiet_op; go_big_quiet_on)
  (refine wpG_op rfl rfl rfl ?_; intro K hK; go_big_quiet_op; go_big_quiet_on)
  clear hone
  refine wpG_nil ?_
  refine anyG_twoNew (i := 7) (j := 8) (wo (0)) (wo (0)) (fun _ _ _ _ hM hh => GT_perm _ _ _ _ hM hh) (by kernel_rfl) (by kernel_rfl) (by kernel_rfl) rfl rfl (by decide) (by decide) (fun _ => new_wide _) (fun _ => new_wide _) ?_
  intro g3 g4 hbg3 hbg4 hfg3 hfg4 ng4y K1 hK1; go_big_quiet_op; go_big_quiet_on; intro K' hK'; go_big_quiet_op; go_big_quiet_on
  have ng4z : Hid (g3 ≠ g4) := ng4y
  clear ng4y
  have ng3x0 : Hid (w.heap.size + 1 ≠ g3) := hfg3 (w.heap.size + 1, _) (List.Mem.head _)
  have ng3x1 : Hid (w.heap.size ≠ g3) := hfg3 (w.heap.size, _) (List.Mem.tail _ (List.Mem.head _))
  clear hfg3
  have ng4x2 : Hid (w.heap.size + 1 ≠ g4) := hfg4 (w.heap.size + 1, _) (List.Mem.head _)
  have ng4x3 : Hid (w.heap.size ≠ g4) := hfg4 (w.heap.size, _) (List.Mem.tail _ (List.Mem.head _))
  clear hfg4
  refine anyG_one (i := 9) (by kernel_rfl) (gOp_store rfl (g3) (wcs (a)) rfl rfl hbg3 24 (wcs (0)) (List.Mem.tail _ (List.Mem.head _)) (wc_info _) ((wc_size _).trans (wc_size _).symm) (wc_one _) [(g3, (wo (a))), (g4, (wo (0))), (w.heap.size + 1, (wo (b))), (w.heap.size, (wo (a)))] (List.forall_mem_cons.2 ⟨.inl rfl, (List.forall_mem_cons.2 ⟨.inr ⟨(List.Mem.head _), (Ne.symm ng4z.out)⟩, (List.forall_mem_cons.2 ⟨.inr ⟨(List.Mem.tail _ (List.Mem.tail _ (List.Mem.head _))), ng3x0.out⟩, (List.forall_mem_cons.2 ⟨.inr ⟨(List.Mem.tail _ (List.Mem.tail _ (List.Mem.tail _ (List.Mem.head _)))), ng3x1.out⟩, (fun _ h => by cases h)⟩)⟩)⟩)⟩) ?_)
  refine anyG_one (i := 10) (by kernel_rfl) (gOp_store rfl (g4) (wcs (0)) rfl rfl hbg4 24 (wcs (0)) (List.Mem.tail _ (List.Mem.head _)) (wc_info _) ((wc_size _).trans (wc_size _).symm) (wc_one _) [(g4, (wo (0))), (g3, (wo (a))), (w.heap.size + 1, (wo (b))), (w.heap.size, (wo (a)))] (List.forall_mem_cons.2 ⟨.inl rfl, (List.forall_mem_cons.2 ⟨.inr ⟨(List.Mem.head _), ng4z.out⟩, (List.forall_mem_cons.2 ⟨.inr ⟨(List.Mem.tail _ (List.Mem.tail _ (List.Mem.head _))), ng4x2.out⟩, (List.forall_mem_cons.2 ⟨.inr ⟨(List.Mem.tail _ (List.Mem.tail _ (List.Mem.tail _ (List.Mem.head _)))), ng4x3.out⟩, (fun _ h => by cases h)⟩)⟩)⟩)⟩) ?_)
  (refine anyG_one (i := 11) (by kernel_rfl) (gOp_pure rfl rfl ?_); intro K' hK'; go_big_quiet_op; go_big_quiet_on)
  refine anyG_done (by kernel_rfl) ?_
  rintro u6 ⟨hl2, E2'⟩
  have EX5 := Lib.hid E2'
  clear hl2 E2' EX1
  go_upto_region 3 with (fail)
  refine wp_region_G (w0 := w) [0, 1, 2, 3, 4, 5, 6] [(g4, (wo (0))), (g3, (wo (a))), (w.heap.size + 1, (wo (b))), (w.heap.size, (wo (a)))] 5 (by kernel_rfl) (by kernel_rfl) rfl EX5.out ?_
  have hone := @EnvC.one _ _ _ (EX5.out.drew)
  (refine wpG_load rfl rfl (w.heap.size) rfl 24 _ _ (fun u hu => EnvC.box hu _ (wo (a)) (List.Mem.tail _ (List.Mem.tail _ (List.Mem.tail _ (List.Mem.head _))))) Try.underlying24 rfl (wc_info _) ?_ (EX5.out.drew); intro K hK; go_big_quiet_op; go_big_quiet_on)
  (refine wpG_call (f := 25) (args := #[.int .u64 (2 : Nat)]) (v := .agg (wcs (2))) rfl rfl rfl Try.func25 rfl rfl (fun u _ => of_n 2 u (by decide)) ?_ (EX5.out.drew); intro K hK; go_big_quiet_op; go_big_quiet_on)
  (refine wpG_call (f := 27) (args := #[.agg (wcs (a)), .agg (wcs (2))]) (v := .tuple #[.agg (wcs (h)), .agg (wcs (r)), .bool true]) rfl rfl rfl Try.func27 rfl rfl (fun u _ => (by have k := div_yes a 2 u ha.out h2B.out (by decide); rw [hh.out, hr.out] at k; exact k)) ?_ (EX5.out.drew); intro K hK; go_big_quiet_op; go_big_quiet_on)
  (refine wpG_op rfl rfl rfl ?_; intro K hK; go_big_quiet_op; go_big_quiet_on)
  (refine wpG_op rfl rfl rfl ?_; intro K hK; go_big_quiet_op; go_big_quiet_on)
  (refine wpG_op rfl rfl rfl ?_; intro K hK; go_big_quiet_op; go_big_quiet_on)
  (refine wpG_op rfl rfl rfl ?_; intro K hK; go_big_quiet_op; go_big_quiet_on)
  clear hone
  refine wpG_nil ?_
  refine anyG_twoNew (i := 7) (j := 8) (wo (0)) (wo (0)) (fun _ _ _ _ hM hh => GT_perm _ _ _ _ hM hh) (by kernel_rfl) (by kernel_rfl) (by kernel_rfl) rfl rfl (by decide) (by decide) (fun _ => new_wide _) (fun _ => new_wide _) ?_
  intro g7 g8 hbg7 hbg8 hfg7 hfg8 ng8y K1 hK1; go_big_quiet_op; go_big_quiet_on; intro K' hK'; go_big_quiet_op; go_big_quiet_on
  have ng8z : Hid (g7 ≠ g8) := ng8y
  clear ng8y
  have ng7x0 : Hid (g4 ≠ g7) := hfg7 (g4, _) (List.Mem.head _)
  have ng7x1 : Hid (g3 ≠ g7) := hfg7 (g3, _) (List.Mem.tail _ (List.Mem.head _))
  have ng7x2 : Hid (w.heap.size + 1 ≠ g7) := hfg7 (w.heap.size + 1, _) (List.Mem.tail _ (List.Mem.tail _ (List.Mem.head _)))
  have ng7x3 : Hid (w.heap.size ≠ g7) := hfg7 (w.heap.size, _) (List.Mem.tail _ (List.Mem.tail _ (List.Mem.tail _ (List.Mem.head _))))
  clear hfg7
  have ng8x4 : Hid (g4 ≠ g8) := hfg8 (g4, _) (List.Mem.head _)
  have ng8x5 : Hid (g3 ≠ g8) := hfg8 (g3, _) (List.Mem.tail _ (List.Mem.head _))
  have ng8x6 : Hid (w.heap.size + 1 ≠ g8) := hfg8 (w.heap.size + 1, _) (List.Mem.tail _ (List.Mem.tail _ (List.Mem.head _)))
  have ng8x7 : Hid (w.heap.size ≠ g8) := hfg8 (w.heap.size, _) (List.Mem.tail _ (List.Mem.tail _ (List.Mem.tail _ (List.Mem.head _))))
  clear hfg8
  refine anyG_one (i := 9) (by kernel_rfl) (gOp_store rfl (g7) (wcs (h)) rfl rfl hbg7 24 (wcs (0)) (List.Mem.tail _ (List.Mem.head _)) (wc_info _) ((wc_size _).trans (wc_size _).symm) (wc_one _) [(g7, (wo (h))), (g8, (wo (0))), (g4, (wo (0))), (g3, (wo (a))), (w.heap.size + 1, (wo (b))), (w.heap.size, (wo (a)))] (List.forall_mem_cons.2 ⟨.inl rfl, (List.forall_mem_cons.2 ⟨.inr ⟨(List.Mem.head _), (Ne.symm ng8z.out)⟩, (List.forall_mem_cons.2 ⟨.inr ⟨(List.Mem.tail _ (List.Mem.tail _ (List.Mem.head _))), ng7x0.out⟩, (List.forall_mem_cons.2 ⟨.inr ⟨(List.Mem.tail _ (List.Mem.tail _ (List.Mem.tail _ (List.Mem.head _)))), ng7x1.out⟩, (List.forall_mem_cons.2 ⟨.inr ⟨(List.Mem.tail _ (List.Mem.tail _ (List.Mem.tail _ (List.Mem.tail _ (List.Mem.head _))))), ng7x2.out⟩, (List.forall_mem_cons.2 ⟨.inr ⟨(List.Mem.tail _ (List.Mem.tail _ (List.Mem.tail _ (List.Mem.tail _ (List.Mem.tail _ (List.Mem.head _)))))), ng7x3.out⟩, (fun _ h => by cases h)⟩)⟩)⟩)⟩)⟩)⟩) ?_)
  refine anyG_one (i := 10) (by kernel_rfl) (gOp_store rfl (g8) (wcs (r)) rfl rfl hbg8 24 (wcs (0)) (List.Mem.tail _ (List.Mem.head _)) (wc_info _) ((wc_size _).trans (wc_size _).symm) (wc_one _) [(g8, (wo (r))), (g7, (wo (h))), (g4, (wo (0))), (g3, (wo (a))), (w.heap.size + 1, (wo (b))), (w.heap.size, (wo (a)))] (List.forall_mem_cons.2 ⟨.inl rfl, (List.forall_mem_cons.2 ⟨.inr ⟨(List.Mem.head _), ng8z.out⟩, (List.forall_mem_cons.2 ⟨.inr ⟨(List.Mem.tail _ (List.Mem.tail _ (List.Mem.head _))), ng8x4.out⟩, (List.forall_mem_cons.2 ⟨.inr ⟨(List.Mem.tail _ (List.Mem.tail _ (List.Mem.tail _ (List.Mem.head _)))), ng8x5.out⟩, (List.forall_mem_cons.2 ⟨.inr ⟨(List.Mem.tail _ (List.Mem.tail _ (List.Mem.tail _ (List.Mem.tail _ (List.Mem.head _))))), ng8x6.out⟩, (List.forall_mem_cons.2 ⟨.inr ⟨(List.Mem.tail _ (List.Mem.tail _ (List.Mem.tail _ (List.Mem.tail _ (List.Mem.tail _ (List.Mem.head _)))))), ng8x7.out⟩, (fun _ h => by cases h)⟩)⟩)⟩)⟩)⟩)⟩) ?_)
  (refine anyG_one (i := 11) (by kernel_rfl) (gOp_pure rfl rfl ?_); intro K' hK'; go_big_quiet_op; go_big_quiet_on)
  refine anyG_done (by kernel_rfl) ?_
  rintro u10 ⟨hl2, E2'⟩
  have EX9 := Lib.hid E2'
  clear hl2 E2' EX5
  go_upto_region 4 with (fail)
  refine wp_region_G (w0 := w) [0, 1, 2, 3, 4, 5, 6, 7, 8, 9, 10, 11, 12, 13, 14, 15, 16, 17, 18, 19, 20, 21] [(g8, (wo (r))), (g7, (wo (h))), (g4, (wo (0))), (g3, (wo (a))), (w.heap.size + 1, (wo (b))), (w.heap.size, (wo (a)))] 0 (by kernel_rfl) (by kernel_rfl) rfl EX9.out ?_
  have hone := @EnvC.one _ _ _ (EX9.out.drew)
  (refine wpG_op rfl rfl rfl ?_; intro K hK; go_big_quiet_op; go_big_quiet_on)
  (refine wpG_op rfl rfl rfl ?_; intro K hK; go_big_quiet_op; go_big_quiet_on)
  (refine wpG_op rfl rfl rfl ?_; intro K hK; go_big_quiet_op; go_big_quiet_on)
  (refine wpG_op rfl rfl rfl ?_; intro K hK; go_big_quiet_op; go_big_quiet_on)
  (refine wpG_op rfl rfl rfl ?_; intro K hK; go_big_quiet_op; go_big_quiet_on)
  (refine wpG_op rfl rfl rfl ?_; intro K hK; go_big_quiet_op; go_big_quiet_on)
  (refine wpG_op rfl rfl rfl ?_; intro K hK; go_big_quiet_op; go_big_quiet_on)
  (refine wpG_load rfl rfl (g3) rfl 24 _ _ (fun u hu => EnvC.box hu _ (wo (a)) (List.Mem.tail _ (List.Mem.tail _ (List.Mem.tail _ (List.Mem.head _))))) Try.underlying24 rfl (wc_info _) ?_ (EX9.out.drew); intro K hK; go_big_quiet_op; go_big_quiet_on)
  (refine wpG_load rfl rfl (w.heap.size) rfl 24 _ _ (fun u hu => EnvC.box hu _ (wo (a)) (List.Mem.tail _ (List.Mem.tail _ (List.Mem.tail _ (List.Mem.tail _ (List.Mem.tail _ (List.Mem.head _))))))) Try.underlying24 rfl (wc_info _) ?_ (EX9.out.drew); intro K hK; go_big_quiet_op; go_big_quiet_on)
  (refine wpG_val (v := .bool (false)) rfl rfl (fun u _ => neq_op (ha.out) (ha.out) (neqN_same a) rfl rfl u) ?_ (EX9.out.drew); intro K hK; go_big_quiet_op; go_big_quiet_on)
  (refine wpG_op rfl rfl rfl ?_; intro K hK; go_big_quiet_op; go_big_quiet_on)
  (refine wpG_op rfl rfl rfl ?_; intro K hK; go_big_quiet_op; go_big_quiet_on)
  (refine wpG_load rfl rfl (g4) rfl 24 _ _ (fun u hu => EnvC.box hu _ (wo (0)) (List.Mem.tail _ (List.Mem.tail _ (List.Mem.head _)))) Try.underlying24 rfl (wc_info _) ?_ (EX9.out.drew); intro K hK; go_big_quiet_op; go_big_quiet_on)
  (refine wpG_op rfl rfl rfl ?_; intro K hK; go_big_quiet_op; go_big_quiet_on)
  (refine wpG_val (v := .bool (false)) rfl rfl (fun u _ => neq_op (Big_pos) (Big_pos) (neqN_same 0) rfl rfl u) ?_ (EX9.out.drew); intro K hK; go_big_quiet_op; go_big_quiet_on)
  (refine wpG_op rfl rfl rfl ?_; intro K hK; go_big_quiet_op; go_big_quiet_on)
  (refine wpG_op rfl rfl rfl ?_; intro K hK; go_big_quiet_op; go_big_quiet_on)
  (refine wpG_load rfl rfl (g7) rfl 24 _ _ (fun u hu => EnvC.box hu _ (wo (h)) (List.Mem.tail _ (List.Mem.head _))) Try.underlying24 rfl (wc_info _) ?_ (EX9.out.drew); intro K hK; go_big_quiet_op; go_big_quiet_on)
  (refine wpG_load rfl rfl (w.heap.size) rfl 24 _ _ (fun u hu => EnvC.box hu _ (wo (a)) (List.Mem.tail _ (List.Mem.tail _ (List.Mem.tail _ (List.Mem.tail _ (List.Mem.tail _ (List.Mem.head _))))))) Try.underlying24 rfl (wc_info _) ?_ (EX9.out.drew); intro K hK; go_big_quiet_op; go_big_quiet_on)
  (refine wpG_call (f := 17) (args := #[.agg (wcs (a)), .int .i64 (1 : Nat)]) (v := .agg (wcs (h))) rfl rfl rfl Try.func17 rfl rfl (fun u _ => (by have k := down_any a 1 u ha.out (by decide); rw [hd.out] at k; exact k)) ?_ (EX9.out.drew); intro K hK; go_big_quiet_op; go_big_quiet_on)
  (refine wpG_val (v := .bool (false)) rfl rfl (fun u _ => neq_op (hhB.out) (hhB.out) (neqN_same h) rfl rfl u) ?_ (EX9.out.drew); intro K hK; go_big_quiet_op; go_big_quiet_on)
  (refine wpG_op rfl rfl rfl ?_; intro K hK; go_big_quiet_op; go_big_quiet_on)
  clear hone
  refine wpG_nil ?_
  refine anyG_done (by kernel_rfl) ?_
  rintro u12 ⟨hl2, E2'⟩
  have EX11 := Lib.hid E2'
  clear hl2 E2' EX9
  go_upto_region 6 with (fail)
  refine wp_region_Gx (w0 := w) [0, 1, 2] [] [(g8, (wo (r))), (g7, (wo (h))), (g4, (wo (0))), (g3, (wo (a))), (w.heap.size + 1, (wo (b))), (w.heap.size, (wo (a)))] rfl EX11.out ?_
  have hone := @EnvC.one _ _ _ (EX11.out)
  (refine wpG_load rfl rfl (w.heap.size) rfl 24 _ _ (fun u hu => EnvC.box hu _ (wo (a)) (List.Mem.tail _ (List.Mem.tail _ (List.Mem.tail _ (List.Mem.tail _ (List.Mem.tail _ (List.Mem.head _))))))) Try.underlying24 rfl (wc_info _) ?_ (EX11.out); intro K hK; go_big_quiet_op; go_big_quiet_on)
  (refine wpG_op rfl rfl rfl ?_; intro K hK; go_big_quiet_op; go_big_quiet_on)
  (refine wpG_val (v := .bool (false)) rfl rfl (fun u _ => eql_op (ha.out) (Big_pos) (e0.out) rfl rfl u) ?_ (EX11.out); intro K hK; go_big_quiet_op; go_big_quiet_on)
  clear hone
  refine wpG_nil ?_
  rintro u14 ⟨hl2, E2'⟩
  have EX13 := Lib.hid E2'
  clear hl2 E2' EX11
  go_upto_region 8 with (fail)
  refine wp_region_Gx (w0 := w) [0, 1, 2, 3, 4, 5, 6] [7, 8, 9, 10, 11] [(g8, (wo (r))), (g7, (wo (h))), (g4, (wo (0))), (g3, (wo (a))), (w.heap.size + 1, (wo (b))), (w.heap.size, (wo (a)))] rfl EX13.out ?_
  have hone := @EnvC.one _ _ _ (EX13.out)
  (refine wpG_load rfl rfl (w.heap.size) rfl 24 _ _ (fun u hu => EnvC.box hu _ (wo (a)) (List.Mem.tail _ (List.Mem.tail _ (List.Mem.tail _ (List.Mem.tail _ (List.Mem.tail _ (List.Mem.head _))))))) Try.underlying24 rfl (wc_info _) ?_ (EX13.out); intro K hK; go_big_quiet_op; go_big_quiet_on)
  (refine wpG_load rfl rfl (w.heap.size) rfl 24 _ _ (fun u hu => EnvC.box hu _ (wo (a)) (List.Mem.tail _ (List.Mem.tail _ (List.Mem.tail _ (List.Mem.tail _ (List.Mem.tail _ (List.Mem.head _))))))) Try.underlying24 rfl (wc_info _) ?_ (EX13.out); intro K hK; go_big_quiet_op; go_big_quiet_on)
  (refine wpG_call (f := 27) (args := #[.agg (wcs (a)), .agg (wcs (a))]) (v := .tuple #[.agg (wcs (1)), .agg (wcs (0)), .bool true]) rfl rfl rfl Try.func27 rfl rfl (fun u _ => div_self_of a u ha.out h0.out) ?_ (EX13.out); intro K hK; go_big_quiet_op; go_big_quiet_on)
  (refine wpG_op rfl rfl rfl ?_; intro K hK; go_big_quiet_op; go_big_quiet_on)
  (refine wpG_op rfl rfl rfl ?_; intro K hK; go_big_quiet_op; go_big_quiet_on)
  (refine wpG_op rfl rfl rfl ?_; intro K hK; go_big_quiet_op; go_big_quiet_on)
  (refine wpG_op rfl rfl rfl ?_; intro K hK; go_big_quiet_op; go_big_quiet_on)
  clear hone
  refine wpG_nil ?_
  (refine (gOp_new (wo (0)) rfl (new_wide _) ?_); intro g15 hbg15 hfg15; intro K' hK'; go_big_quiet_op; go_big_quiet_on)
  have ng15x0 : Hid (g8 ≠ g15) := hfg15 (g8, _) (List.Mem.head _)
  have ng15x1 : Hid (g7 ≠ g15) := hfg15 (g7, _) (List.Mem.tail _ (List.Mem.head _))
  have ng15x2 : Hid (g4 ≠ g15) := hfg15 (g4, _) (List.Mem.tail _ (List.Mem.tail _ (List.Mem.head _)))
  have ng15x3 : Hid (g3 ≠ g15) := hfg15 (g3, _) (List.Mem.tail _ (List.Mem.tail _ (List.Mem.tail _ (List.Mem.head _))))
  have ng15x4 : Hid (w.heap.size + 1 ≠ g15) := hfg15 (w.heap.size + 1, _) (List.Mem.tail _ (List.Mem.tail _ (List.Mem.tail _ (List.Mem.tail _ (List.Mem.head _)))))
  have ng15x5 : Hid (w.heap.size ≠ g15) := hfg15 (w.heap.size, _) (List.Mem.tail _ (List.Mem.tail _ (List.Mem.tail _ (List.Mem.tail _ (List.Mem.tail _ (List.Mem.head _))))))
  clear hfg15
  (refine (gOp_new (wo (0)) rfl (new_wide _) ?_); intro g16 hbg16 hfg16; intro K' hK'; go_big_quiet_op; go_big_quiet_on)
  have ng16x6 : Hid (g15 ≠ g16) := hfg16 (g15, _) (List.Mem.head _)
  have ng16x7 : Hid (g8 ≠ g16) := hfg16 (g8, _) (List.Mem.tail _ (List.Mem.head _))
  have ng16x8 : Hid (g7 ≠ g16) := hfg16 (g7, _) (List.Mem.tail _ (List.Mem.tail _ (List.Mem.head _)))
  have ng16x9 : Hid (g4 ≠ g16) := hfg16 (g4, _) (List.Mem.tail _ (List.Mem.tail _ (List.Mem.tail _ (List.Mem.head _))))
  have ng16x10 : Hid (g3 ≠ g16) := hfg16 (g3, _) (List.Mem.tail _ (List.Mem.tail _ (List.Mem.tail _ (List.Mem.tail _ (List.Mem.head _)))))
  have ng16x11 : Hid (w.heap.size + 1 ≠ g16) := hfg16 (w.heap.size + 1, _) (List.Mem.tail _ (List.Mem.tail _ (List.Mem.tail _ (List.Mem.tail _ (List.Mem.tail _ (List.Mem.head _))))))
  have ng16x12 : Hid (w.heap.size ≠ g16) := hfg16 (w.heap.size, _) (List.Mem.tail _ (List.Mem.tail _ (List.Mem.tail _ (List.Mem.tail _ (List.Mem.tail _ (List.Mem.tail _ (List.Mem.head _)))))))
  clear hfg16
  refine (gOp_store rfl (g15) (wcs (1)) rfl rfl hbg15 24 (wcs (0)) (List.Mem.tail _ (List.Mem.head _)) (wc_info _) ((wc_size _).trans (wc_size _).symm) (wc_one _) [(g15, (wo (1))), (g16, (wo (0))), (g8, (wo (r))), (g7, (wo (h))), (g4, (wo (0))), (g3, (wo (a))), (w.heap.size + 1, (wo (b))), (w.heap.size, (wo (a)))] (List.forall_mem_cons.2 ⟨.inl rfl, (List.forall_mem_cons.2 ⟨.inr ⟨(List.Mem.head _), (Ne.symm ng16x6.out)⟩, (List.forall_mem_cons.2 ⟨.inr ⟨(List.Mem.tail _ (List.Mem.tail _ (List.Mem.head _))), ng15x0.out⟩, (List.forall_mem_cons.2 ⟨.inr ⟨(List.Mem.tail _ (List.Mem.tail _ (List.Mem.tail _ (List.Mem.head _)))), ng15x1.out⟩, (List.forall_mem_cons.2 ⟨.inr ⟨(List.Mem.tail _ (List.Mem.tail _ (List.Mem.tail _ (List.Mem.tail _ (List.Mem.head _))))), ng15x2.out⟩, (List.forall_mem_cons.2 ⟨.inr ⟨(List.Mem.tail _ (List.Mem.tail _ (List.Mem.tail _ (List.Mem.tail _ (List.Mem.tail _ (List.Mem.head _)))))), ng15x3.out⟩, (List.forall_mem_cons.2 ⟨.inr ⟨(List.Mem.tail _ (List.Mem.tail _ (List.Mem.tail _ (List.Mem.tail _ (List.Mem.tail _ (List.Mem.tail _ (List.Mem.head _))))))), ng15x4.out⟩, (List.forall_mem_cons.2 ⟨.inr ⟨(List.Mem.tail _ (List.Mem.tail _ (List.Mem.tail _ (List.Mem.tail _ (List.Mem.tail _ (List.Mem.tail _ (List.Mem.tail _ (List.Mem.head _)))))))), ng15x5.out⟩, (fun _ h => by cases h)⟩)⟩)⟩)⟩)⟩)⟩)⟩)⟩) ?_)
  refine (gOp_store rfl (g16) (wcs (0)) rfl rfl hbg16 24 (wcs (0)) (List.Mem.tail _ (List.Mem.head _)) (wc_info _) ((wc_size _).trans (wc_size _).symm) (wc_one _) [(g16, (wo (0))), (g15, (wo (1))), (g8, (wo (r))), (g7, (wo (h))), (g4, (wo (0))), (g3, (wo (a))), (w.heap.size + 1, (wo (b))), (w.heap.size, (wo (a)))] (List.forall_mem_cons.2 ⟨.inl rfl, (List.forall_mem_cons.2 ⟨.inr ⟨(List.Mem.head _), ng16x6.out⟩, (List.forall_mem_cons.2 ⟨.inr ⟨(List.Mem.tail _ (List.Mem.tail _ (List.Mem.head _))), ng16x7.out⟩, (List.forall_mem_cons.2 ⟨.inr ⟨(List.Mem.tail _ (List.Mem.tail _ (List.Mem.tail _ (List.Mem.head _)))), ng16x8.out⟩, (List.forall_mem_cons.2 ⟨.inr ⟨(List.Mem.tail _ (List.Mem.tail _ (List.Mem.tail _ (List.Mem.tail _ (List.Mem.head _))))), ng16x9.out⟩, (List.forall_mem_cons.2 ⟨.inr ⟨(List.Mem.tail _ (List.Mem.tail _ (List.Mem.tail _ (List.Mem.tail _ (List.Mem.tail _ (List.Mem.head _)))))), ng16x10.out⟩, (List.forall_mem_cons.2 ⟨.inr ⟨(List.Mem.tail _ (List.Mem.tail _ (List.Mem.tail _ (List.Mem.tail _ (List.Mem.tail _ (List.Mem.tail _ (List.Mem.head _))))))), ng16x11.out⟩, (List.forall_mem_cons.2 ⟨.inr ⟨(List.Mem.tail _ (List.Mem.tail _ (List.Mem.tail _ (List.Mem.tail _ (List.Mem.tail _ (List.Mem.tail _ (List.Mem.tail _ (List.Mem.head _)))))))), ng16x12.out⟩, (fun _ h => by cases h)⟩)⟩)⟩)⟩)⟩)⟩)⟩)⟩) ?_)
  (refine (gOp_pure rfl rfl ?_); intro K' hK'; go_big_quiet_op; go_big_quiet_on)
  rintro u18 ⟨hl2, E2'⟩
  have EX17 := Lib.hid E2'
  clear hl2 E2' EX13
  go_upto_region 9 with (fail)
  refine wp_region_Gx (w0 := w) [0, 1, 2, 3, 4, 5, 6] [7, 8, 9, 10, 11] [(g16, (wo (0))), (g15, (wo (1))), (g8, (wo (r))), (g7, (wo (h))), (g4, (wo (0))), (g3, (wo (a))), (w.heap.size + 1, (wo (b))), (w.heap.size, (wo (a)))] rfl EX17.out ?_
  have hone := @EnvC.one _ _ _ (EX17.out)
  (refine wpG_load rfl rfl (w.heap.size + 1) rfl 24 _ _ (fun u hu => EnvC.box hu _ (wo (b)) (List.Mem.tail _ (List.Mem.tail _ (List.Mem.tail _ (List.Mem.tail _ (List.Mem.tail _ (List.Mem.tail _ (List.Mem.head _)))))))) Try.underlying24 rfl (wc_info _) ?_ (EX17.out); intro K hK; go_big_quiet_op; go_big_quiet_on)
  (refine wpG_load rfl rfl (w.heap.size) rfl 24 _ _ (fun u hu => EnvC.box hu _ (wo (a)) (List.Mem.tail _ (List.Mem.tail _ (List.Mem.tail _ (List.Mem.tail _ (List.Mem.tail _ (List.Mem.tail _ (List.Mem.tail _ (List.Mem.head _))))))))) Try.underlying24 rfl (wc_info _) ?_ (EX17.out); intro K hK; go_big_quiet_op; go_big_quiet_on)
  (refine wpG_call (f := 27) (args := #[.agg (wcs (b)), .agg (wcs (a))]) (v := .tuple #[.agg (wcs (x)), .agg (wcs (y)), .bool true]) rfl rfl rfl Try.func27 rfl rfl (fun u _ => (by have k := div_yes b a u hb.out ha.out h0.out; rw [hx.out, hy.out] at k; exact k)) ?_ (EX17.out); intro K hK; go_big_quiet_op; go_big_quiet_on)
  (refine wpG_op rfl rfl rfl ?_; intro K hK; go_big_quiet_op; go_big_quiet_on)
  (refine wpG_op rfl rfl rfl ?_; intro K hK; go_big_quiet_op; go_big_quiet_on)
  (refine wpG_op rfl rfl rfl ?_; intro K hK; go_big_quiet_op; go_big_quiet_on)
  (refine wpG_op rfl rfl rfl ?_; intro K hK; go_big_quiet_op; go_big_quiet_on)
  clear hone
  refine wpG_nil ?_
  (refine (gOp_new (wo (0)) rfl (new_wide _) ?_); intro g19 hbg19 hfg19; intro K' hK'; go_big_quiet_op; go_big_quiet_on)
  have ng19x0 : Hid (g16 ≠ g19) := hfg19 (g16, _) (List.Mem.head _)
  have ng19x1 : Hid (g15 ≠ g19) := hfg19 (g15, _) (List.Mem.tail _ (List.Mem.head _))
  have ng19x2 : Hid (g8 ≠ g19) := hfg19 (g8, _) (List.Mem.tail _ (List.Mem.tail _ (List.Mem.head _)))
  have ng19x3 : Hid (g7 ≠ g19) := hfg19 (g7, _) (List.Mem.tail _ (List.Mem.tail _ (List.Mem.tail _ (List.Mem.head _))))
  have ng19x4 : Hid (g4 ≠ g19) := hfg19 (g4, _) (List.Mem.tail _ (List.Mem.tail _ (List.Mem.tail _ (List.Mem.tail _ (List.Mem.head _)))))
  have ng19x5 : Hid (g3 ≠ g19) := hfg19 (g3, _) (List.Mem.tail _ (List.Mem.tail _ (List.Mem.tail _ (List.Mem.tail _ (List.Mem.tail _ (List.Mem.head _))))))
  have ng19x6 : Hid (w.heap.size + 1 ≠ g19) := hfg19 (w.heap.size + 1, _) (List.Mem.tail _ (List.Mem.tail _ (List.Mem.tail _ (List.Mem.tail _ (List.Mem.tail _ (List.Mem.tail _ (List.Mem.head _)))))))
  have ng19x7 : Hid (w.heap.size ≠ g19) := hfg19 (w.heap.size, _) (List.Mem.tail _ (List.Mem.tail _ (List.Mem.tail _ (List.Mem.tail _ (List.Mem.tail _ (List.Mem.tail _ (List.Mem.tail _ (List.Mem.head _))))))))
  clear hfg19
  (refine (gOp_new (wo (0)) rfl (new_wide _) ?_); intro g20 hbg20 hfg20; intro K' hK'; go_big_quiet_op; go_big_quiet_on)
  have ng20x8 : Hid (g19 ≠ g20) := hfg20 (g19, _) (List.Mem.head _)
  have ng20x9 : Hid (g16 ≠ g20) := hfg20 (g16, _) (List.Mem.tail _ (List.Mem.head _))
  have ng20x10 : Hid (g15 ≠ g20) := hfg20 (g15, _) (List.Mem.tail _ (List.Mem.tail _ (List.Mem.head _)))
  have ng20x11 : Hid (g8 ≠ g20) := hfg20 (g8, _) (List.Mem.tail _ (List.Mem.tail _ (List.Mem.tail _ (List.Mem.head _))))
  have ng20x12 : Hid (g7 ≠ g20) := hfg20 (g7, _) (List.Mem.tail _ (List.Mem.tail _ (List.Mem.tail _ (List.Mem.tail _ (List.Mem.head _)))))
  have ng20x13 : Hid (g4 ≠ g20) := hfg20 (g4, _) (List.Mem.tail _ (List.Mem.tail _ (List.Mem.tail _ (List.Mem.tail _ (List.Mem.tail _ (List.Mem.head _))))))
  have ng20x14 : Hid (g3 ≠ g20) := hfg20 (g3, _) (List.Mem.tail _ (List.Mem.tail _ (List.Mem.tail _ (List.Mem.tail _ (List.Mem.tail _ (List.Mem.tail _ (List.Mem.head _)))))))
  have ng20x15 : Hid (w.heap.size + 1 ≠ g20) := hfg20 (w.heap.size + 1, _) (List.Mem.tail _ (List.Mem.tail _ (List.Mem.tail _ (List.Mem.tail _ (List.Mem.tail _ (List.Mem.tail _ (List.Mem.tail _ (List.Mem.head _))))))))
  have ng20x16 : Hid (w.heap.size ≠ g20) := hfg20 (w.heap.size, _) (List.Mem.tail _ (List.Mem.tail _ (List.Mem.tail _ (List.Mem.tail _ (List.Mem.tail _ (List.Mem.tail _ (List.Mem.tail _ (List.Mem.tail _ (List.Mem.head _)))))))))
  clear hfg20
  refine (gOp_store rfl (g19) (wcs (x)) rfl rfl hbg19 24 (wcs (0)) (List.Mem.tail _ (List.Mem.head _)) (wc_info _) ((wc_size _).trans (wc_size _).symm) (wc_one _) [(g19, (wo (x))), (g20, (wo (0))), (g16, (wo (0))), (g15, (wo (1))), (g8, (wo (r))), (g7, (wo (h))), (g4, (wo (0))), (g3, (wo (a))), (w.heap.size + 1, (wo (b))), (w.heap.size, (wo (a)))] (List.forall_mem_cons.2 ⟨.inl rfl, (List.forall_mem_cons.2 ⟨.inr ⟨(List.Mem.head _), (Ne.symm ng20x8.out)⟩, (List.forall_mem_cons.2 ⟨.inr ⟨(List.Mem.tail _ (List.Mem.tail _ (List.Mem.head _))), ng19x0.out⟩, (List.forall_mem_cons.2 ⟨.inr ⟨(List.Mem.tail _ (List.Mem.tail _ (List.Mem.tail _ (List.Mem.head _)))), ng19x1.out⟩, (List.forall_mem_cons.2 ⟨.inr ⟨(List.Mem.tail _ (List.Mem.tail _ (List.Mem.tail _ (List.Mem.tail _ (List.Mem.head _))))), ng19x2.out⟩, (List.forall_mem_cons.2 ⟨.inr ⟨(List.Mem.tail _ (List.Mem.tail _ (List.Mem.tail _ (List.Mem.tail _ (List.Mem.tail _ (List.Mem.head _)))))), ng19x3.out⟩, (List.forall_mem_cons.2 ⟨.inr ⟨(List.Mem.tail _ (List.Mem.tail _ (List.Mem.tail _ (List.Mem.tail _ (List.Mem.tail _ (List.Mem.tail _ (List.Mem.head _))))))), ng19x4.out⟩, (List.forall_mem_cons.2 ⟨.inr ⟨(List.Mem.tail _ (List.Mem.tail _ (List.Mem.tail _ (List.Mem.tail _ (List.Mem.tail _ (List.Mem.tail _ (List.Mem.tail _ (List.Mem.head _)))))))), ng19x5.out⟩, (List.forall_mem_cons.2 ⟨.inr ⟨(List.Mem.tail _ (List.Mem.tail _ (List.Mem.tail _ (List.Mem.tail _ (List.Mem.tail _ (List.Mem.tail _ (List.Mem.tail _ (List.Mem.tail _ (List.Mem.head _))))))))), ng19x6.out⟩, (List.forall_mem_cons.2 ⟨.inr ⟨(List.Mem.tail _ (List.Mem.tail _ (List.Mem.tail _ (List.Mem.tail _ (List.Mem.tail _ (List.Mem.tail _ (List.Mem.tail _ (List.Mem.tail _ (List.Mem.tail _ (List.Mem.head _)))))))))), ng19x7.out⟩, (fun _ h => by cases h)⟩)⟩)⟩)⟩)⟩)⟩)⟩)⟩)⟩)⟩) ?_)
  refine (gOp_store rfl (g20) (wcs (y)) rfl rfl hbg20 24 (wcs (0)) (List.Mem.tail _ (List.Mem.head _)) (wc_info _) ((wc_size _).trans (wc_size _).symm) (wc_one _) [(g20, (wo (y))), (g19, (wo (x))), (g16, (wo (0))), (g15, (wo (1))), (g8, (wo (r))), (g7, (wo (h))), (g4, (wo (0))), (g3, (wo (a))), (w.heap.size + 1, (wo (b))), (w.heap.size, (wo (a)))] (List.forall_mem_cons.2 ⟨.inl rfl, (List.forall_mem_cons.2 ⟨.inr ⟨(List.Mem.head _), ng20x8.out⟩, (List.forall_mem_cons.2 ⟨.inr ⟨(List.Mem.tail _ (List.Mem.tail _ (List.Mem.head _))), ng20x9.out⟩, (List.forall_mem_cons.2 ⟨.inr ⟨(List.Mem.tail _ (List.Mem.tail _ (List.Mem.tail _ (List.Mem.head _)))), ng20x10.out⟩, (List.forall_mem_cons.2 ⟨.inr ⟨(List.Mem.tail _ (List.Mem.tail _ (List.Mem.tail _ (List.Mem.tail _ (List.Mem.head _))))), ng20x11.out⟩, (List.forall_mem_cons.2 ⟨.inr ⟨(List.Mem.tail _ (List.Mem.tail _ (List.Mem.tail _ (List.Mem.tail _ (List.Mem.tail _ (List.Mem.head _)))))), ng20x12.out⟩, (List.forall_mem_cons.2 ⟨.inr ⟨(List.Mem.tail _ (List.Mem.tail _ (List.Mem.tail _ (List.Mem.tail _ (List.Mem.tail _ (List.Mem.tail _ (List.Mem.head _))))))), ng20x13.out⟩, (List.forall_mem_cons.2 ⟨.inr ⟨(List.Mem.tail _ (List.Mem.tail _ (List.Mem.tail _ (List.Mem.tail _ (List.Mem.tail _ (List.Mem.tail _ (List.Mem.tail _ (List.Mem.head _)))))))), ng20x14.out⟩, (List.forall_mem_cons.2 ⟨.inr ⟨(List.Mem.tail _ (List.Mem.tail _ (List.Mem.tail _ (List.Mem.tail _ (List.Mem.tail _ (List.Mem.tail _ (List.Mem.tail _ (List.Mem.tail _ (List.Mem.head _))))))))), ng20x15.out⟩, (List.forall_mem_cons.2 ⟨.inr ⟨(List.Mem.tail _ (List.Mem.tail _ (List.Mem.tail _ (List.Mem.tail _ (List.Mem.tail _ (List.Mem.tail _ (List.Mem.tail _ (List.Mem.tail _ (List.Mem.tail _ (List.Mem.head _)))))))))), ng20x16.out⟩, (fun _ h => by cases h)⟩)⟩)⟩)⟩)⟩)⟩)⟩)⟩)⟩)⟩) ?_)
  (refine (gOp_pure rfl rfl ?_); intro K' hK'; go_big_quiet_op; go_big_quiet_on)
  rintro u22 ⟨hl2, E2'⟩
  have EX21 := Lib.hid E2'
  clear hl2 E2' EX17
  go_upto_region 10 with (fail)
  refine wp_region_G (w0 := w) [0, 1, 2, 3, 4, 5, 6, 7, 8, 9, 10, 11, 12, 13, 14, 15, 16, 17, 18, 19, 20, 21, 22, 23, 24] [(g20, (wo (y))), (g19, (wo (x))), (g16, (wo (0))), (g15, (wo (1))), (g8, (wo (r))), (g7, (wo (h))), (g4, (wo (0))), (g3, (wo (a))), (w.heap.size + 1, (wo (b))), (w.heap.size, (wo (a)))] 0 (by kernel_rfl) (by kernel_rfl) rfl EX21.out ?_
  have hone := @EnvC.one _ _ _ (EX21.out.drew)
  (refine wpG_load rfl rfl (g15) rfl 24 _ _ (fun u hu => EnvC.box hu _ (wo (1)) (List.Mem.tail _ (List.Mem.tail _ (List.Mem.tail _ (List.Mem.head _))))) Try.underlying24 rfl (wc_info _) ?_ (EX21.out.drew); intro K hK; go_big_quiet_op; go_big_quiet_on)
  (refine wpG_call (f := 25) (args := #[.int .u64 (1 : Nat)]) (v := .agg (wcs (1))) rfl rfl rfl Try.func25 rfl rfl (fun u _ => of_n 1 u (by decide)) ?_ (EX21.out.drew); intro K hK; go_big_quiet_op; go_big_quiet_on)
  (refine wpG_val (v := .bool (true)) rfl rfl (fun u _ => eql_op (h1B.out) (h1B.out) (eqN_same 1) rfl rfl u) ?_ (EX21.out.drew); intro K hK; go_big_quiet_op; go_big_quiet_on)
  (refine wpG_op rfl rfl rfl ?_; intro K hK; go_big_quiet_op; go_big_quiet_on)
  (refine wpG_load rfl rfl (g16) rfl 24 _ _ (fun u hu => EnvC.box hu _ (wo (0)) (List.Mem.tail _ (List.Mem.tail _ (List.Mem.head _)))) Try.underlying24 rfl (wc_info _) ?_ (EX21.out.drew); intro K hK; go_big_quiet_op; go_big_quiet_on)
  (refine wpG_op rfl rfl rfl ?_; intro K hK; go_big_quiet_op; go_big_quiet_on)
  (refine wpG_val (v := .bool (true)) rfl rfl (fun u _ => eql_op (Big_pos) (Big_pos) (eqN_same 0) rfl rfl u) ?_ (EX21.out.drew); intro K hK; go_big_quiet_op; go_big_quiet_on)
  (refine wpG_op rfl rfl rfl ?_; intro K hK; go_big_quiet_op; go_big_quiet_on)
  (refine wpG_op rfl rfl rfl ?_; intro K hK; go_big_quiet_op; go_big_quiet_on)
  (refine wpG_load rfl rfl (w.heap.size + 1) rfl 24 _ _ (fun u hu => EnvC.box hu _ (wo (b)) (List.Mem.tail _ (List.Mem.tail _ (List.Mem.tail _ (List.Mem.tail _ (List.Mem.tail _ (List.Mem.tail _ (List.Mem.tail _ (List.Mem.tail _ (List.Mem.head _)))))))))) Try.underlying24 rfl (wc_info _) ?_ (EX21.out.drew); intro K hK; go_big_quiet_op; go_big_quiet_on)
  (refine wpG_load rfl rfl (w.heap.size) rfl 24 _ _ (fun u hu => EnvC.box hu _ (wo (a)) (List.Mem.tail _ (List.Mem.tail _ (List.Mem.tail _ (List.Mem.tail _ (List.Mem.tail _ (List.Mem.tail _ (List.Mem.tail _ (List.Mem.tail _ (List.Mem.tail _ (List.Mem.head _))))))))))) Try.underlying24 rfl (wc_info _) ?_ (EX21.out.drew); intro K hK; go_big_quiet_op; go_big_quiet_on)
  (refine wpG_call (f := 23) (args := #[.agg (wcs (b)), .agg (wcs (a))]) (v := .int .i64 c) rfl rfl rfl Try.func23 rfl rfl (fun u _ => (by rw [← hc.out]; exact cmp_any (b) (a) u hb.out ha.out)) ?_ (EX21.out.drew); intro K hK; go_big_quiet_op; go_big_quiet_on)
  (refine wpG_op rfl rfl rfl ?_; intro K hK; go_big_quiet_op; go_big_quiet_on)
  (refine wpG_op rfl rfl rfl ?_; intro K hK; go_big_quiet_op; go_big_quiet_on)
  (refine wpG_skip rfl rfl ?_ EX21.out.drew; intro K hK; go_big_quiet_op; go_big_quiet_on)
  (refine wpG_skip rfl rfl ?_ EX21.out.drew; intro K hK; go_big_quiet_op; go_big_quiet_on)
  (refine wpG_skip rfl rfl ?_ EX21.out.drew; intro K hK; go_big_quiet_op; go_big_quiet_on)
  (refine wpG_skip rfl rfl ?_ EX21.out.drew; intro K hK; go_big_quiet_op; go_big_quiet_on)
  (refine wpG_skip rfl rfl ?_ EX21.out.drew; intro K hK; go_big_quiet_op; go_big_quiet_on)
  (refine wpG_skip rfl rfl ?_ EX21.out.drew; intro K hK; go_big_quiet_op; go_big_quiet_on)
  (refine wpG_skip rfl rfl ?_ EX21.out.drew; intro K hK; go_big_quiet_op; go_big_quiet_on)
  (refine wpG_skip rfl rfl ?_ EX21.out.drew; intro K hK; go_big_quiet_op; go_big_quiet_on)
  (refine wpG_op rfl rfl rfl ?_; intro K hK; go_big_quiet_op; go_big_quiet_on)
  (refine wpG_op rfl rfl rfl ?_; intro K hK; go_big_quiet_op; go_big_quiet_on)
  (refine wpG_op rfl rfl rfl ?_; intro K hK; go_big_quiet_op; go_big_quiet_on)
  clear hone
  refine wpG_nil ?_
  refine anyG_done (by kernel_rfl) ?_
  rintro u24 ⟨hl2, E2'⟩
  have EX23 := Lib.hid E2'
  clear hl2 E2' EX21
  go_wp2_with fail
  go_ret
  exact ⟨rfl, EX23.out.bel⟩
set_option maxRecDepth 100000 in
set_option maxHeartbeats 8000000 in
theorem whole_lt (a b h r : Nat) (ha : Hid (a < Big)) (hb : Hid (b < Big)) (h1B : Hid (1 < Big)) (h2B : Hid (2 < Big)) (hhB : Hid (h < Big)) (hh : Hid (a / 2 = h)) (hr : Hid (a % 2 = r)) (hd : Hid (a / 2 ^ 1 = h)) (e0 : Hid (eqN a 0 = false)) (h0 : Hid (0 < a)) (c : Int) (hc : Hid (cmpI b a = c)) (n1 : ¬ 0 ≤ c) (hx : Hid (b / a = 0)) (hy : Hid (b % a = b)) (w : World) :
    Calls Try.prog 9 #[.agg (wcs (a)), .agg (wcs (b))] w fun e w' => e = .returned (.bool true) ∧ Below w.heap.size w w' := by
  have E1 : Hid (EnvX w ((w.alloc (.cells (wcs (a)) 24)).alloc (.cells (wcs (b)) 24)) [(w.heap.size + 1, (wo (b))), (w.heap.size, (wo (a)))]) := by
    have h := (((EnvX.start w).new (wo (a))).new (wo (b)))
    try simp only [World.size_alloc] at h
    exact h
  go_enter Try.func9, Try.ntmps9
  go_upto_region 1 with (fail)
  generalize ((w.alloc (.cells (wcs (a)) 24)).alloc (.cells (wcs (b)) 24)) = w1 at *
  refine wp_region_Gx (w0 := w) [0, 1] [] [(w.heap.size + 1, (wo (b))), (w.heap.size, (wo (a)))] rfl E1.out ?_
  have hone := @EnvC.one _ _ _ (E1.out)
  (refine wpG_call (f := 10) (args := #[]) (v := .bool true) rfl rfl rfl Try.func10 rfl rfl (fun u _ => awake_any u) ?_ (E1.out); intro K hK; go_big_quiet_op; go_big_quiet_on)
  (refine wpG_op rfl rfl rfl ?_; intro K hK; go_big_quiet_op; go_big_quiet_on)
  clear hone
  refine wpG_nil ?_
  rintro u2 ⟨hl2, E2'⟩
  have EX1 := Lib.hid E2'
  clear hl2 E2' E1
  go_upto_region 2 with (fail)
  refine wp_region_G (w0 := w) [0, 1, 2, 3, 4, 5, 6] [(w.heap.size + 1, (wo (b))), (w.heap.size, (wo (a)))] 5 (by kernel_rfl) (by kernel_rfl) rfl EX1.out ?_
  have hone := @EnvC.one _ _ _ (EX1.out.drew)
  (refine wpG_load rfl rfl (w.heap.size) rfl 24 _ _ (fun u hu => EnvC.box hu _ (wo (a)) (List.Mem.tail _ (List.Mem.head _))) Try.underlying24 rfl (wc_info _) ?_ (EX1.out.drew); intro K hK; go_big_quiet_op; go_big_quiet_on)
  (refine wpG_call (f := 25) (args := #[.int .u64 (1 : Nat)]) (v := .agg (wcs (1))) rfl rfl rfl Try.func25 rfl rfl (fun u _ => of_n 1 u (by decide)) ?_ (EX1.out.drew); intro K hK; go_big_quiet_op; go_big_quiet_on)
  (refine wpG_call (f := 27) (args := #[.agg (wcs (a)), .agg (wcs (1))]) (v := .tuple #[.agg (wcs (a)), .agg (wcs (0)), .bool true]) rfl rfl rfl Try.func27 rfl rfl (fun u _ => div_one_of a u ha.out h1B.out) ?_ (EX1.out.drew); intro K hK; go_big_quiet_op; go_big_quiet_on)
  (refine wpG_op rfl rfl rfl ?_; intro K hK; go_big_quiet_op; go_big_quiet_on)
  (refine wpG_op rfl rfl rfl ?_; intro K hK; go_big_quiet_op; go_big_quiet_on)
  (refine wpG_op rfl rfl rfl ?_; intro K hK; go_big_quiet_op; go_big_quiet_on)
  (refine wpG_op rfl rfl rfl ?_; intro K hK; go_big_quiet_op; go_big_quiet_on)
  clear hone
  refine wpG_nil ?_
  refine anyG_twoNew (i := 7) (j := 8) (wo (0)) (wo (0)) (fun _ _ _ _ hM hh => GT_perm _ _ _ _ hM hh) (by kernel_rfl) (by kernel_rfl) (by kernel_rfl) rfl rfl (by decide) (by decide) (fun _ => new_wide _) (fun _ => new_wide _) ?_
  intro g3 g4 hbg3 hbg4 hfg3 hfg4 ng4y K1 hK1; go_big_quiet_op; go_big_quiet_on; intro K' hK'; go_big_quiet_op; go_big_quiet_on
  have ng4z : Hid (g3 ≠ g4) := ng4y
  clear ng4y
  have ng3x0 : Hid (w.heap.size + 1 ≠ g3) := hfg3 (w.heap.size + 1, _) (List.Mem.head _)
  have ng3x1 : Hid (w.heap.size ≠ g3) := hfg3 (w.heap.size, _) (List.Mem.tail _ (List.Mem.head _))
  clear hfg3
  have ng4x2 : Hid (w.heap.size + 1 ≠ g4) := hfg4 (w.heap.size + 1, _) (List.Mem.head _)
  have ng4x3 : Hid (w.heap.size ≠ g4) := hfg4 (w.heap.size, _) (List.Mem.tail _ (List.Mem.head _))
  clear hfg4
  refine anyG_one (i := 9) (by kernel_rfl) (gOp_store rfl (g3) (wcs (a)) rfl rfl hbg3 24 (wcs (0)) (List.Mem.tail _ (List.Mem.head _)) (wc_info _) ((wc_size _).trans (wc_size _).symm) (wc_one _) [(g3, (wo (a))), (g4, (wo (0))), (w.heap.size + 1, (wo (b))), (w.heap.size, (wo (a)))] (List.forall_mem_cons.2 ⟨.inl rfl, (List.forall_mem_cons.2 ⟨.inr ⟨(List.Mem.head _), (Ne.symm ng4z.out)⟩, (List.forall_mem_cons.2 ⟨.inr ⟨(List.Mem.tail _ (List.Mem.tail _ (List.Mem.head _))), ng3x0.out⟩, (List.forall_mem_cons.2 ⟨.inr ⟨(List.Mem.tail _ (List.Mem.tail _ (List.Mem.tail _ (List.Mem.head _)))), ng3x1.out⟩, (fun _ h => by cases h)⟩)⟩)⟩)⟩) ?_)
  refine anyG_one (i := 10) (by kernel_rfl) (gOp_store rfl (g4) (wcs (0)) rfl rfl hbg4 24 (wcs (0)) (List.Mem.tail _ (List.Mem.head _)) (wc_info _) ((wc_size _).trans (wc_size _).symm) (wc_one _) [(g4, (wo (0))), (g3, (wo (a))), (w.heap.size + 1, (wo (b))), (w.heap.size, (wo (a)))] (List.forall_mem_cons.2 ⟨.inl rfl, (List.forall_mem_cons.2 ⟨.inr ⟨(List.Mem.head _), ng4z.out⟩, (List.forall_mem_cons.2 ⟨.inr ⟨(List.Mem.tail _ (List.Mem.tail _ (List.Mem.head _))), ng4x2.out⟩, (List.forall_mem_cons.2 ⟨.inr ⟨(List.Mem.tail _ (List.Mem.tail _ (List.Mem.tail _ (List.Mem.head _)))), ng4x3.out⟩, (fun _ h => by cases h)⟩)⟩)⟩)⟩) ?_)
  (refine anyG_one (i := 11) (by kernel_rfl) (gOp_pure rfl rfl ?_); intro K' hK'; go_big_quiet_op; go_big_quiet_on)
  refine anyG_done (by kernel_rfl) ?_
  rintro u6 ⟨hl2, E2'⟩
  have EX5 := Lib.hid E2'
  clear hl2 E2' EX1
  go_upto_region 3 with (fail)
  refine wp_region_G (w0 := w) [0, 1, 2, 3, 4, 5, 6] [(g4, (wo (0))), (g3, (wo (a))), (w.heap.size + 1, (wo (b))), (w.heap.size, (wo (a)))] 5 (by kernel_rfl) (by kernel_rfl) rfl EX5.out ?_
  have hone := @EnvC.one _ _ _ (EX5.out.drew)
  (refine wpG_load rfl rfl (w.heap.size) rfl 24 _ _ (fun u hu => EnvC.box hu _ (wo (a)) (List.Mem.tail _ (List.Mem.tail _ (List.Mem.tail _ (List.Mem.head _))))) Try.underlying24 rfl (wc_info _) ?_ (EX5.out.drew); intro K hK; go_big_quiet_op; go_big_quiet_on)
  (refine wpG_call (f := 25) (args := #[.int .u64 (2 : Nat)]) (v := .agg (wcs (2))) rfl rfl rfl Try.func25 rfl rfl (fun u _ => of_n 2 u (by decide)) ?_ (EX5.out.drew); intro K hK; go_big_quiet_op; go_big_quiet_on)
  (refine wpG_call (f := 27) (args := #[.agg (wcs (a)), .agg (wcs (2))]) (v := .tuple #[.agg (wcs (h)), .agg (wcs (r)), .bool true]) rfl rfl rfl Try.func27 rfl rfl (fun u _ => (by have k := div_yes a 2 u ha.out h2B.out (by decide); rw [hh.out, hr.out] at k; exact k)) ?_ (EX5.out.drew); intro K hK; go_big_quiet_op; go_big_quiet_on)
  (refine wpG_op rfl rfl rfl ?_; intro K hK; go_big_quiet_op; go_big_quiet_on)
  (refine wpG_op rfl rfl rfl ?_; intro K hK; go_big_quiet_op; go_big_quiet_on)
  (refine wpG_op rfl rfl rfl ?_; intro K hK; go_big_quiet_op; go_big_quiet_on)
  (refine wpG_op rfl rfl rfl ?_; intro K hK; go_big_quiet_op; go_big_quiet_on)
  clear hone
  refine wpG_nil ?_
  refine anyG_twoNew (i := 7) (j := 8) (wo (0)) (wo (0)) (fun _ _ _ _ hM hh => GT_perm _ _ _ _ hM hh) (by kernel_rfl) (by kernel_rfl) (by kernel_rfl) rfl rfl (by decide) (by decide) (fun _ => new_wide _) (fun _ => new_wide _) ?_
  intro g7 g8 hbg7 hbg8 hfg7 hfg8 ng8y K1 hK1; go_big_quiet_op; go_big_quiet_on; intro K' hK'; go_big_quiet_op; go_big_quiet_on
  have ng8z : Hid (g7 ≠ g8) := ng8y
  clear ng8y
  have ng7x0 : Hid (g4 ≠ g7) := hfg7 (g4, _) (List.Mem.head _)
  have ng7x1 : Hid (g3 ≠ g7) := hfg7 (g3, _) (List.Mem.tail _ (List.Mem.head _))
  have ng7x2 : Hid (w.heap.size + 1 ≠ g7) := hfg7 (w.heap.size + 1, _) (List.Mem.tail _ (List.Mem.tail _ (List.Mem.head _)))
  have ng7x3 : Hid (w.heap.size ≠ g7) := hfg7 (w.heap.size, _) (List.Mem.tail _ (List.Mem.tail _ (List.Mem.tail _ (List.Mem.head _))))
  clear hfg7
  have ng8x4 : Hid (g4 ≠ g8) := hfg8 (g4, _) (List.Mem.head _)
  have ng8x5 : Hid (g3 ≠ g8) := hfg8 (g3, _) (List.Mem.tail _ (List.Mem.head _))
  have ng8x6 : Hid (w.heap.size + 1 ≠ g8) := hfg8 (w.heap.size + 1, _) (List.Mem.tail _ (List.Mem.tail _ (List.Mem.head _)))
  have ng8x7 : Hid (w.heap.size ≠ g8) := hfg8 (w.heap.size, _) (List.Mem.tail _ (List.Mem.tail _ (List.Mem.tail _ (List.Mem.head _))))
  clear hfg8
  refine anyG_one (i := 9) (by kernel_rfl) (gOp_store rfl (g7) (wcs (h)) rfl rfl hbg7 24 (wcs (0)) (List.Mem.tail _ (List.Mem.head _)) (wc_info _) ((wc_size _).trans (wc_size _).symm) (wc_one _) [(g7, (wo (h))), (g8, (wo (0))), (g4, (wo (0))), (g3, (wo (a))), (w.heap.size + 1, (wo (b))), (w.heap.size, (wo (a)))] (List.forall_mem_cons.2 ⟨.inl rfl, (List.forall_mem_cons.2 ⟨.inr ⟨(List.Mem.head _), (Ne.symm ng8z.out)⟩, (List.forall_mem_cons.2 ⟨.inr ⟨(List.Mem.tail _ (List.Mem.tail _ (List.Mem.head _))), ng7x0.out⟩, (List.forall_mem_cons.2 ⟨.inr ⟨(List.Mem.tail _ (List.Mem.tail _ (List.Mem.tail _ (List.Mem.head _)))), ng7x1.out⟩, (List.forall_mem_cons.2 ⟨.inr ⟨(List.Mem.tail _ (List.Mem.tail _ (List.Mem.tail _ (List.Mem.tail _ (List.Mem.head _))))), ng7x2.out⟩, (List.forall_mem_cons.2 ⟨.inr ⟨(List.Mem.tail _ (List.Mem.tail _ (List.Mem.tail _ (List.Mem.tail _ (List.Mem.tail _ (List.Mem.head _)))))), ng7x3.out⟩, (fun _ h => by cases h)⟩)⟩)⟩)⟩)⟩)⟩) ?_)
  refine anyG_one (i := 10) (by kernel_rfl) (gOp_store rfl (g8) (wcs (r)) rfl rfl hbg8 24 (wcs (0)) (List.Mem.tail _ (List.Mem.head _)) (wc_info _) ((wc_size _).trans (wc_size _).symm) (wc_one _) [(g8, (wo (r))), (g7, (wo (h))), (g4, (wo (0))), (g3, (wo (a))), (w.heap.size + 1, (wo (b))), (w.heap.size, (wo (a)))] (List.forall_mem_cons.2 ⟨.inl rfl, (List.forall_mem_cons.2 ⟨.inr ⟨(List.Mem.head _), ng8z.out⟩, (List.forall_mem_cons.2 ⟨.inr ⟨(List.Mem.tail _ (List.Mem.tail _ (List.Mem.head _))), ng8x4.out⟩, (List.forall_mem_cons.2 ⟨.inr ⟨(List.Mem.tail _ (List.Mem.tail _ (List.Mem.tail _ (List.Mem.head _)))), ng8x5.out⟩, (List.forall_mem_cons.2 ⟨.inr ⟨(List.Mem.tail _ (List.Mem.tail _ (List.Mem.tail _ (List.Mem.tail _ (List.Mem.head _))))), ng8x6.out⟩, (List.forall_mem_cons.2 ⟨.inr ⟨(List.Mem.tail _ (List.Mem.tail _ (List.Mem.tail _ (List.Mem.tail _ (List.Mem.tail _ (List.Mem.head _)))))), ng8x7.out⟩, (fun _ h => by cases h)⟩)⟩)⟩)⟩)⟩)⟩) ?_)
  (refine anyG_one (i := 11) (by kernel_rfl) (gOp_pure rfl rfl ?_); intro K' hK'; go_big_quiet_op; go_big_quiet_on)
  refine anyG_done (by kernel_rfl) ?_
  rintro u10 ⟨hl2, E2'⟩
  have EX9 := Lib.hid E2'
  clear hl2 E2' EX5
  go_upto_region 4 with (fail)
  refine wp_region_G (w0 := w) [0, 1, 2, 3, 4, 5, 6, 7, 8, 9, 10, 11, 12, 13, 14, 15, 16, 17, 18, 19, 20, 21] [(g8, (wo (r))), (g7, (wo (h))), (g4, (wo (0))), (g3, (wo (a))), (w.heap.size + 1, (wo (b))), (w.heap.size, (wo (a)))] 0 (by kernel_rfl) (by kernel_rfl) rfl EX9.out ?_
  have hone := @EnvC.one _ _ _ (EX9.out.drew)
  (refine wpG_op rfl rfl rfl ?_; intro K hK; go_big_quiet_op; go_big_quiet_on)
  (refine wpG_op rfl rfl rfl ?_; intro K hK; go_big_quiet_op; go_big_quiet_on)
  (refine wpG_op rfl rfl rfl ?_; intro K hK; go_big_quiet_op; go_big_quiet_on)
  (refine wpG_op rfl rfl rfl ?_; intro K hK; go_big_quiet_op; go_big_quiet_on)
  (refine wpG_op rfl rfl rfl ?_; intro K hK; go_big_quiet_op; go_big_quiet_on)
  (refine wpG_op rfl rfl rfl ?_; intro K hK; go_big_quiet_op; go_big_quiet_on)
  (refine wpG_op rfl rfl rfl ?_; intro K hK; go_big_quiet_op; go_big_quiet_on)
  (refine wpG_load rfl rfl (g3) rfl 24 _ _ (fun u hu => EnvC.box hu _ (wo (a)) (List.Mem.tail _ (List.Mem.tail _ (List.Mem.tail _ (List.Mem.head _))))) Try.underlying24 rfl (wc_info _) ?_ (EX9.out.drew); intro K hK; go_big_quiet_op; go_big_quiet_on)
  (refine wpG_load rfl rfl (w.heap.size) rfl 24 _ _ (fun u hu => EnvC.box hu _ (wo (a)) (List.Mem.tail _ (List.Mem.tail _ (List.Mem.tail _ (List.Mem.tail _ (List.Mem.tail _ (List.Mem.head _))))))) Try.underlying24 rfl (wc_info _) ?_ (EX9.out.drew); intro K hK; go_big_quiet_op; go_big_quiet_on)
  (refine wpG_val (v := .bool (false)) rfl rfl (fun u _ => neq_op (ha.out) (ha.out) (neqN_same a) rfl rfl u) ?_ (EX9.out.drew); intro K hK; go_big_quiet_op; go_big_quiet_on)
  (refine wpG_op rfl rfl rfl ?_; intro K hK; go_big_quiet_op; go_big_quiet_on)
  (refine wpG_op rfl rfl rfl ?_; intro K hK; go_big_quiet_op; go_big_quiet_on)
  (refine wpG_load rfl rfl (g4) rfl 24 _ _ (fun u hu => EnvC.box hu _ (wo (0)) (List.Mem.tail _ (List.Mem.tail _ (List.Mem.head _)))) Try.underlying24 rfl (wc_info _) ?_ (EX9.out.drew); intro K hK; go_big_quiet_op; go_big_quiet_on)
  (refine wpG_op rfl rfl rfl ?_; intro K hK; go_big_quiet_op; go_big_quiet_on)
  (refine wpG_val (v := .bool (false)) rfl rfl (fun u _ => neq_op (Big_pos) (Big_pos) (neqN_same 0) rfl rfl u) ?_ (EX9.out.drew); intro K hK; go_big_quiet_op; go_big_quiet_on)
  (refine wpG_op rfl rfl rfl ?_; intro K hK; go_big_quiet_op; go_big_quiet_on)
  (refine wpG_op rfl rfl rfl ?_; intro K hK; go_big_quiet_op; go_big_quiet_on)
  (refine wpG_load rfl rfl (g7) rfl 24 _ _ (fun u hu => EnvC.box hu _ (wo (h)) (List.Mem.tail _ (List.Mem.head _))) Try.underlying24 rfl (wc_info _) ?_ (EX9.out.drew); intro K hK; go_big_quiet_op; go_big_quiet_on)
  (refine wpG_load rfl rfl (w.heap.size) rfl 24 _ _ (fun u hu => EnvC.box hu _ (wo (a)) (List.Mem.tail _ (List.Mem.tail _ (List.Mem.tail _ (List.Mem.tail _ (List.Mem.tail _ (List.Mem.head _))))))) Try.underlying24 rfl (wc_info _) ?_ (EX9.out.drew); intro K hK; go_big_quiet_op; go_big_quiet_on)
  (refine wpG_call (f := 17) (args := #[.agg (wcs (a)), .int .i64 (1 : Nat)]) (v := .agg (wcs (h))) rfl rfl rfl Try.func17 rfl rfl (fun u _ => (by have k := down_any a 1 u ha.out (by decide); rw [hd.out] at k; exact k)) ?_ (EX9.out.drew); intro K hK; go_big_quiet_op; go_big_quiet_on)
  (refine wpG_val (v := .bool (false)) rfl rfl (fun u _ => neq_op (hhB.out) (hhB.out) (neqN_same h) rfl rfl u) ?_ (EX9.out.drew); intro K hK; go_big_quiet_op; go_big_quiet_on)
  (refine wpG_op rfl rfl rfl ?_; intro K hK; go_big_quiet_op; go_big_quiet_on)
  clear hone
  refine wpG_nil ?_
  refine anyG_done (by kernel_rfl) ?_
  rintro u12 ⟨hl2, E2'⟩
  have EX11 := Lib.hid E2'
  clear hl2 E2' EX9
  go_upto_region 6 with (fail)
  refine wp_region_Gx (w0 := w) [0, 1, 2] [] [(g8, (wo (r))), (g7, (wo (h))), (g4, (wo (0))), (g3, (wo (a))), (w.heap.size + 1, (wo (b))), (w.heap.size, (wo (a)))] rfl EX11.out ?_
  have hone := @EnvC.one _ _ _ (EX11.out)
  (refine wpG_load rfl rfl (w.heap.size) rfl 24 _ _ (fun u hu => EnvC.box hu _ (wo (a)) (List.Mem.tail _ (List.Mem.tail _ (List.Mem.tail _ (List.Mem.tail _ (List.Mem.tail _ (List.Mem.head _))))))) Try.underlying24 rfl (wc_info _) ?_ (EX11.out); intro K hK; go_big_quiet_op; go_big_quiet_on)
  (refine wpG_op rfl rfl rfl ?_; intro K hK; go_big_quiet_op; go_big_quiet_on)
  (refine wpG_val (v := .bool (false)) rfl rfl (fun u _ => eql_op (ha.out) (Big_pos) (e0.out) rfl rfl u) ?_ (EX11.out); intro K hK; go_big_quiet_op; go_big_quiet_on)
  clear hone
  refine wpG_nil ?_
  rintro u14 ⟨hl2, E2'⟩
  have EX13 := Lib.hid E2'
  clear hl2 E2' EX11
  go_upto_region 8 with (fail)
  refine wp_region_Gx (w0 := w) [0, 1, 2, 3, 4, 5, 6] [7, 8, 9, 10, 11] [(g8, (wo (r))), (g7, (wo (h))), (g4, (wo (0))), (g3, (wo (a))), (w.heap.size + 1, (wo (b))), (w.heap.size, (wo (a)))] rfl EX13.out ?_
  have hone := @EnvC.one _ _ _ (EX13.out)
  (refine wpG_load rfl rfl (w.heap.size) rfl 24 _ _ (fun u hu => EnvC.box hu _ (wo (a)) (List.Mem.tail _ (List.Mem.tail _ (List.Mem.tail _ (List.Mem.tail _ (List.Mem.tail _ (List.Mem.head _))))))) Try.underlying24 rfl (wc_info _) ?_ (EX13.out); intro K hK; go_big_quiet_op; go_big_quiet_on)
  (refine wpG_load rfl rfl (w.heap.size) rfl 24 _ _ (fun u hu => EnvC.box hu _ (wo (a)) (List.Mem.tail _ (List.Mem.tail _ (List.Mem.tail _ (List.Mem.tail _ (List.Mem.tail _ (List.Mem.head _))))))) Try.underlying24 rfl (wc_info _) ?_ (EX13.out); intro K hK; go_big_quiet_op; go_big_quiet_on)
  (refine wpG_call (f := 27) (args := #[.agg (wcs (a)), .agg (wcs (a))]) (v := .tuple #[.agg (wcs (1)), .agg (wcs (0)), .bool true]) rfl rfl rfl Try.func27 rfl rfl (fun u _ => div_self_of a u ha.out h0.out) ?_ (EX13.out); intro K hK; go_big_quiet_op; go_big_quiet_on)
  (refine wpG_op rfl rfl rfl ?_; intro K hK; go_big_quiet_op; go_big_quiet_on)
  (refine wpG_op rfl rfl rfl ?_; intro K hK; go_big_quiet_op; go_big_quiet_on)
  (refine wpG_op rfl rfl rfl ?_; intro K hK; go_big_quiet_op; go_big_quiet_on)
  (refine wpG_op rfl rfl rfl ?_; intro K hK; go_big_quiet_op; go_big_quiet_on)
  clear hone
  refine wpG_nil ?_
  (refine (gOp_new (wo (0)) rfl (new_wide _) ?_); intro g15 hbg15 hfg15; intro K' hK'; go_big_quiet_op; go_big_quiet_on)
  have ng15x0 : Hid (g8 ≠ g15) := hfg15 (g8, _) (List.Mem.head _)
  have ng15x1 : Hid (g7 ≠ g15) := hfg15 (g7, _) (List.Mem.tail _ (List.Mem.head _))
  have ng15x2 : Hid (g4 ≠ g15) := hfg15 (g4, _) (List.Mem.tail _ (List.Mem.tail _ (List.Mem.head _)))
  have ng15x3 : Hid (g3 ≠ g15) := hfg15 (g3, _) (List.Mem.tail _ (List.Mem.tail _ (List.Mem.tail _ (List.Mem.head _))))
  have ng15x4 : Hid (w.heap.size + 1 ≠ g15) := hfg15 (w.heap.size + 1, _) (List.Mem.tail _ (List.Mem.tail _ (List.Mem.tail _ (List.Mem.tail _ (List.Mem.head _)))))
  have ng15x5 : Hid (w.heap.size ≠ g15) := hfg15 (w.heap.size, _) (List.Mem.tail _ (List.Mem.tail _ (List.Mem.tail _ (List.Mem.tail _ (List.Mem.tail _ (List.Mem.head _))))))
  clear hfg15
  (refine (gOp_new (wo (0)) rfl (new_wide _) ?_); intro g16 hbg16 hfg16; intro K' hK'; go_big_quiet_op; go_big_quiet_on)
  have ng16x6 : Hid (g15 ≠ g16) := hfg16 (g15, _) (List.Mem.head _)
  have ng16x7 : Hid (g8 ≠ g16) := hfg16 (g8, _) (List.Mem.tail _ (List.Mem.head _))
  have ng16x8 : Hid (g7 ≠ g16) := hfg16 (g7, _) (List.Mem.tail _ (List.Mem.tail _ (List.Mem.head _)))
  have ng16x9 : Hid (g4 ≠ g16) := hfg16 (g4, _) (List.Mem.tail _ (List.Mem.tail _ (List.Mem.tail _ (List.Mem.head _))))
  have ng16x10 : Hid (g3 ≠ g16) := hfg16 (g3, _) (List.Mem.tail _ (List.Mem.tail _ (List.Mem.tail _ (List.Mem.tail _ (List.Mem.head _)))))
  have ng16x11 : Hid (w.heap.size + 1 ≠ g16) := hfg16 (w.heap.size + 1, _) (List.Mem.tail _ (List.Mem.tail _ (List.Mem.tail _ (List.Mem.tail _ (List.Mem.tail _ (List.Mem.head _))))))
  have ng16x12 : Hid (w.heap.size ≠ g16) := hfg16 (w.heap.size, _) (List.Mem.tail _ (List.Mem.tail _ (List.Mem.tail _ (List.Mem.tail _ (List.Mem.tail _ (List.Mem.tail _ (List.Mem.head _)))))))
  clear hfg16
  refine (gOp_store rfl (g15) (wcs (1)) rfl rfl hbg15 24 (wcs (0)) (List.Mem.tail _ (List.Mem.head _)) (wc_info _) ((wc_size _).trans (wc_size _).symm) (wc_one _) [(g15, (wo (1))), (g16, (wo (0))), (g8, (wo (r))), (g7, (wo (h))), (g4, (wo (0))), (g3, (wo (a))), (w.heap.size + 1, (wo (b))), (w.heap.size, (wo (a)))] (List.forall_mem_cons.2 ⟨.inl rfl, (List.forall_mem_cons.2 ⟨.inr ⟨(List.Mem.head _), (Ne.symm ng16x6.out)⟩, (List.forall_mem_cons.2 ⟨.inr ⟨(List.Mem.tail _ (List.Mem.tail _ (List.Mem.head _))), ng15x0.out⟩, (List.forall_mem_cons.2 ⟨.inr ⟨(List.Mem.tail _ (List.Mem.tail _ (List.Mem.tail _ (List.Mem.head _)))), ng15x1.out⟩, (List.forall_mem_cons.2 ⟨.inr ⟨(List.Mem.tail _ (List.Mem.tail _ (List.Mem.tail _ (List.Mem.tail _ (List.Mem.head _))))), ng15x2.out⟩, (List.forall_mem_cons.2 ⟨.inr ⟨(List.Mem.tail _ (List.Mem.tail _ (List.Mem.tail _ (List.Mem.tail _ (List.Mem.tail _ (List.Mem.head _)))))), ng15x3.out⟩, (List.forall_mem_cons.2 ⟨.inr ⟨(List.Mem.tail _ (List.Mem.tail _ (List.Mem.tail _ (List.Mem.tail _ (List.Mem.tail _ (List.Mem.tail _ (List.Mem.head _))))))), ng15x4.out⟩, (List.forall_mem_cons.2 ⟨.inr ⟨(List.Mem.tail _ (List.Mem.tail _ (List.Mem.tail _ (List.Mem.tail _ (List.Mem.tail _ (List.Mem.tail _ (List.Mem.tail _ (List.Mem.head _)))))))), ng15x5.out⟩, (fun _ h => by cases h)⟩)⟩)⟩)⟩)⟩)⟩)⟩)⟩) ?_)
  refine (gOp_store rfl (g16) (wcs (0)) rfl rfl hbg16 24 (wcs (0)) (List.Mem.tail _ (List.Mem.head _)) (wc_info _) ((wc_size _).trans (wc_size _).symm) (wc_one _) [(g16, (wo (0))), (g15, (wo (1))), (g8, (wo (r))), (g7, (wo (h))), (g4, (wo (0))), (g3, (wo (a))), (w.heap.size + 1, (wo (b))), (w.heap.size, (wo (a)))] (List.forall_mem_cons.2 ⟨.inl rfl, (List.forall_mem_cons.2 ⟨.inr ⟨(List.Mem.head _), ng16x6.out⟩, (List.forall_mem_cons.2 ⟨.inr ⟨(List.Mem.tail _ (List.Mem.tail _ (List.Mem.head _))), ng16x7.out⟩, (List.forall_mem_cons.2 ⟨.inr ⟨(List.Mem.tail _ (List.Mem.tail _ (List.Mem.tail _ (List.Mem.head _)))), ng16x8.out⟩, (List.forall_mem_cons.2 ⟨.inr ⟨(List.Mem.tail _ (List.Mem.tail _ (List.Mem.tail _ (List.Mem.tail _ (List.Mem.head _))))), ng16x9.out⟩, (List.forall_mem_cons.2 ⟨.inr ⟨(List.Mem.tail _ (List.Mem.tail _ (List.Mem.tail _ (List.Mem.tail _ (List.Mem.tail _ (List.Mem.head _)))))), ng16x10.out⟩, (List.forall_mem_cons.2 ⟨.inr ⟨(List.Mem.tail _ (List.Mem.tail _ (List.Mem.tail _ (List.Mem.tail _ (List.Mem.tail _ (List.Mem.tail _ (List.Mem.head _))))))), ng16x11.out⟩, (List.forall_mem_cons.2 ⟨.inr ⟨(List.Mem.tail _ (List.Mem.tail _ (List.Mem.tail _ (List.Mem.tail _ (List.Mem.tail _ (List.Mem.tail _ (List.Mem.tail _ (List.Mem.head _)))))))), ng16x12.out⟩, (fun _ h => by cases h)⟩)⟩)⟩)⟩)⟩)⟩)⟩)⟩) ?_)
  (refine (gOp_pure rfl rfl ?_); intro K' hK'; go_big_quiet_op; go_big_quiet_on)
  rintro u18 ⟨hl2, E2'⟩
  have EX17 := Lib.hid E2'
  clear hl2 E2' EX13
  go_upto_region 9 with (fail)
  refine wp_region_Gx (w0 := w) [0, 1, 2, 3, 4, 5, 6] [7, 8, 9, 10, 11] [(g16, (wo (0))), (g15, (wo (1))), (g8, (wo (r))), (g7, (wo (h))), (g4, (wo (0))), (g3, (wo (a))), (w.heap.size + 1, (wo (b))), (w.heap.size, (wo (a)))] rfl EX17.out ?_
  have hone := @EnvC.one _ _ _ (EX17.out)
  (refine wpG_load rfl rfl (w.heap.size + 1) rfl 24 _ _ (fun u hu => EnvC.box hu _ (wo (b)) (List.Mem.tail _ (List.Mem.tail _ (List.Mem.tail _ (List.Mem.tail _ (List.Mem.tail _ (List.Mem.tail _ (List.Mem.head _)))))))) Try.underlying24 rfl (wc_info _) ?_ (EX17.out); intro K hK; go_big_quiet_op; go_big_quiet_on)
  (refine wpG_load rfl rfl (w.heap.size) rfl 24 _ _ (fun u hu => EnvC.box hu _ (wo (a)) (List.Mem.tail _ (List.Mem.tail _ (List.Mem.tail _ (List.Mem.tail _ (List.Mem.tail _ (List.Mem.tail _ (List.Mem.tail _ (List.Mem.head _))))))))) Try.underlying24 rfl (wc_info _) ?_ (EX17.out); intro K hK; go_big_quiet_op; go_big_quiet_on)
  (refine wpG_call (f := 27) (args := #[.agg (wcs (b)), .agg (wcs (a))]) (v := .tuple #[.agg (wcs (0)), .agg (wcs (b)), .bool true]) rfl rfl rfl Try.func27 rfl rfl (fun u _ => (by have k := div_yes b a u hb.out ha.out h0.out; rw [hx.out, hy.out] at k; exact k)) ?_ (EX17.out); intro K hK; go_big_quiet_op; go_big_quiet_on)
  (refine wpG_op rfl rfl rfl ?_; intro K hK; go_big_quiet_op; go_big_quiet_on)
  (refine wpG_op rfl rfl rfl ?_; intro K hK; go_big_quiet_op; go_big_quiet_on)
  (refine wpG_op rfl rfl rfl ?_; intro K hK; go_big_quiet_op; go_big_quiet_on)
  (refine wpG_op rfl rfl rfl ?_; intro K hK; go_big_quiet_op; go_big_quiet_on)
  clear hone
  refine wpG_nil ?_
  (refine (gOp_new (wo (0)) rfl (new_wide _) ?_); intro g19 hbg19 hfg19; intro K' hK'; go_big_quiet_op; go_big_quiet_on)
  have ng19x0 : Hid (g16 ≠ g19) := hfg19 (g16, _) (List.Mem.head _)
  have ng19x1 : Hid (g15 ≠ g19) := hfg19 (g15, _) (List.Mem.tail _ (List.Mem.head _))
  have ng19x2 : Hid (g8 ≠ g19) := hfg19 (g8, _) (List.Mem.tail _ (List.Mem.tail _ (List.Mem.head _)))
  have ng19x3 : Hid (g7 ≠ g19) := hfg19 (g7, _) (List.Mem.tail _ (List.Mem.tail _ (List.Mem.tail _ (List.Mem.head _))))
  have ng19x4 : Hid (g4 ≠ g19) := hfg19 (g4, _) (List.Mem.tail _ (List.Mem.tail _ (List.Mem.tail _ (List.Mem.tail _ (List.Mem.head _)))))
  have ng19x5 : Hid (g3 ≠ g19) := hfg19 (g3, _) (List.Mem.tail _ (List.Mem.tail _ (List.Mem.tail _ (List.Mem.tail _ (List.Mem.tail _ (List.Mem.head _))))))
  have ng19x6 : Hid (w.heap.size + 1 ≠ g19) := hfg19 (w.heap.size + 1, _) (List.Mem.tail _ (List.Mem.tail _ (List.Mem.tail _ (List.Mem.tail _ (List.Mem.tail _ (List.Mem.tail _ (List.Mem.head _)))))))
  have ng19x7 : Hid (w.heap.size ≠ g19) := hfg19 (w.heap.size, _) (List.Mem.tail _ (List.Mem.tail _ (List.Mem.tail _ (List.Mem.tail _ (List.Mem.tail _ (List.Mem.tail _ (List.Mem.tail _ (List.Mem.head _))))))))
  clear hfg19
  (refine (gOp_new (wo (0)) rfl (new_wide _) ?_); intro g20 hbg20 hfg20; intro K' hK'; go_big_quiet_op; go_big_quiet_on)
  have ng20x8 : Hid (g19 ≠ g20) := hfg20 (g19, _) (List.Mem.head _)
  have ng20x9 : Hid (g16 ≠ g20) := hfg20 (g16, _) (List.Mem.tail _ (List.Mem.head _))
  have ng20x10 : Hid (g15 ≠ g20) := hfg20 (g15, _) (List.Mem.tail _ (List.Mem.tail _ (List.Mem.head _)))
  have ng20x11 : Hid (g8 ≠ g20) := hfg20 (g8, _) (List.Mem.tail _ (List.Mem.tail _ (List.Mem.tail _ (List.Mem.head _))))
  have ng20x12 : Hid (g7 ≠ g20) := hfg20 (g7, _) (List.Mem.tail _ (List.Mem.tail _ (List.Mem.tail _ (List.Mem.tail _ (List.Mem.head _)))))
  have ng20x13 : Hid (g4 ≠ g20) := hfg20 (g4, _) (List.Mem.tail _ (List.Mem.tail _ (List.Mem.tail _ (List.Mem.tail _ (List.Mem.tail _ (List.Mem.head _))))))
  have ng20x14 : Hid (g3 ≠ g20) := hfg20 (g3, _) (List.Mem.tail _ (List.Mem.tail _ (List.Mem.tail _ (List.Mem.tail _ (List.Mem.tail _ (List.Mem.tail _ (List.Mem.head _)))))))
  have ng20x15 : Hid (w.heap.size + 1 ≠ g20) := hfg20 (w.heap.size + 1, _) (List.Mem.tail _ (List.Mem.tail _ (List.Mem.tail _ (List.Mem.tail _ (List.Mem.tail _ (List.Mem.tail _ (List.Mem.tail _ (List.Mem.head _))))))))
  have ng20x16 : Hid (w.heap.size ≠ g20) := hfg20 (w.heap.size, _) (List.Mem.tail _ (List.Mem.tail _ (List.Mem.tail _ (List.Mem.tail _ (List.Mem.tail _ (List.Mem.tail _ (List.Mem.tail _ (List.Mem.tail _ (List.Mem.head _)))))))))
  clear hfg20
  refine (gOp_store rfl (g19) (wcs (0)) rfl rfl hbg19 24 (wcs (0)) (List.Mem.tail _ (List.Mem.head _)) (wc_info _) ((wc_size _).trans (wc_size _).symm) (wc_one _) [(g19, (wo (0))), (g20, (wo (0))), (g16, (wo (0))), (g15, (wo (1))), (g8, (wo (r))), (g7, (wo (h))), (g4, (wo (0))), (g3, (wo (a))), (w.heap.size + 1, (wo (b))), (w.heap.size, (wo (a)))] (List.forall_mem_cons.2 ⟨.inl rfl, (List.forall_mem_cons.2 ⟨.inr ⟨(List.Mem.head _), (Ne.symm ng20x8.out)⟩, (List.forall_mem_cons.2 ⟨.inr ⟨(List.Mem.tail _ (List.Mem.tail _ (List.Mem.head _))), ng19x0.out⟩, (List.forall_mem_cons.2 ⟨.inr ⟨(List.Mem.tail _ (List.Mem.tail _ (List.Mem.tail _ (List.Mem.head _)))), ng19x1.out⟩, (List.forall_mem_cons.2 ⟨.inr ⟨(List.Mem.tail _ (List.Mem.tail _ (List.Mem.tail _ (List.Mem.tail _ (List.Mem.head _))))), ng19x2.out⟩, (List.forall_mem_cons.2 ⟨.inr ⟨(List.Mem.tail _ (List.Mem.tail _ (List.Mem.tail _ (List.Mem.tail _ (List.Mem.tail _ (List.Mem.head _)))))), ng19x3.out⟩, (List.forall_mem_cons.2 ⟨.inr ⟨(List.Mem.tail _ (List.Mem.tail _ (List.Mem.tail _ (List.Mem.tail _ (List.Mem.tail _ (List.Mem.tail _ (List.Mem.head _))))))), ng19x4.out⟩, (List.forall_mem_cons.2 ⟨.inr ⟨(List.Mem.tail _ (List.Mem.tail _ (List.Mem.tail _ (List.Mem.tail _ (List.Mem.tail _ (List.Mem.tail _ (List.Mem.tail _ (List.Mem.head _)))))))), ng19x5.out⟩, (List.forall_mem_cons.2 ⟨.inr ⟨(List.Mem.tail _ (List.Mem.tail _ (List.Mem.tail _ (List.Mem.tail _ (List.Mem.tail _ (List.Mem.tail _ (List.Mem.tail _ (List.Mem.tail _ (List.Mem.head _))))))))), ng19x6.out⟩, (List.forall_mem_cons.2 ⟨.inr ⟨(List.Mem.tail _ (List.Mem.tail _ (List.Mem.tail _ (List.Mem.tail _ (List.Mem.tail _ (List.Mem.tail _ (List.Mem.tail _ (List.Mem.tail _ (List.Mem.tail _ (List.Mem.head _)))))))))), ng19x7.out⟩, (fun _ h => by cases h)⟩)⟩)⟩)⟩)⟩)⟩)⟩)⟩)⟩)⟩) ?_)
  refine (gOp_store rfl (g20) (wcs (b)) rfl rfl hbg20 24 (wcs (0)) (List.Mem.tail _ (List.Mem.head _)) (wc_info _) ((wc_size _).trans (wc_size _).symm) (wc_one _) [(g20, (wo (b))), (g19, (wo (0))), (g16, (wo (0))), (g15, (wo (1))), (g8, (wo (r))), (g7, (wo (h))), (g4, (wo (0))), (g3, (wo (a))), (w.heap.size + 1, (wo (b))), (w.heap.size, (wo (a)))] (List.forall_mem_cons.2 ⟨.inl rfl, (List.forall_mem_cons.2 ⟨.inr ⟨(List.Mem.head _), ng20x8.out⟩, (List.forall_mem_cons.2 ⟨.inr ⟨(List.Mem.tail _ (List.Mem.tail _ (List.Mem.head _))), ng20x9.out⟩, (List.forall_mem_cons.2 ⟨.inr ⟨(List.Mem.tail _ (List.Mem.tail _ (List.Mem.tail _ (List.Mem.head _)))), ng20x10.out⟩, (List.forall_mem_cons.2 ⟨.inr ⟨(List.Mem.tail _ (List.Mem.tail _ (List.Mem.tail _ (List.Mem.tail _ (List.Mem.head _))))), ng20x11.out⟩, (List.forall_mem_cons.2 ⟨.inr ⟨(List.Mem.tail _ (List.Mem.tail _ (List.Mem.tail _ (List.Mem.tail _ (List.Mem.tail _ (List.Mem.head _)))))), ng20x12.out⟩, (List.forall_mem_cons.2 ⟨.inr ⟨(List.Mem.tail _ (List.Mem.tail _ (List.Mem.tail _ (List.Mem.tail _ (List.Mem.tail _ (List.Mem.tail _ (List.Mem.head _))))))), ng20x13.out⟩, (List.forall_mem_cons.2 ⟨.inr ⟨(List.Mem.tail _ (List.Mem.tail _ (List.Mem.tail _ (List.Mem.tail _ (List.Mem.tail _ (List.Mem.tail _ (List.Mem.tail _ (List.Mem.head _)))))))), ng20x14.out⟩, (List.forall_mem_cons.2 ⟨.inr ⟨(List.Mem.tail _ (List.Mem.tail _ (List.Mem.tail _ (List.Mem.tail _ (List.Mem.tail _ (List.Mem.tail _ (List.Mem.tail _ (List.Mem.tail _ (List.Mem.head _))))))))), ng20x15.out⟩, (List.forall_mem_cons.2 ⟨.inr ⟨(List.Mem.tail _ (List.Mem.tail _ (List.Mem.tail _ (List.Mem.tail _ (List.Mem.tail _ (List.Mem.tail _ (List.Mem.tail _ (List.Mem.tail _ (List.Mem.tail _ (List.Mem.head _)))))))))), ng20x16.out⟩, (fun _ h => by cases h)⟩)⟩)⟩)⟩)⟩)⟩)⟩)⟩)⟩)⟩) ?_)
  (refine (gOp_pure rfl rfl ?_); intro K' hK'; go_big_quiet_op; go_big_quiet_on)
  rintro u22 ⟨hl2, E2'⟩
  have EX21 := Lib.hid E2'
  clear hl2 E2' EX17
  go_upto_region 10 with (fail)
  refine wp_region_G (w0 := w) [0, 1, 2, 3, 4, 5, 6, 7, 8, 9, 10, 11, 12, 13, 14, 15, 16, 17, 18, 19, 20, 21, 22, 23, 24] [(g20, (wo (b))), (g19, (wo (0))), (g16, (wo (0))), (g15, (wo (1))), (g8, (wo (r))), (g7, (wo (h))), (g4, (wo (0))), (g3, (wo (a))), (w.heap.size + 1, (wo (b))), (w.heap.size, (wo (a)))] 0 (by kernel_rfl) (by kernel_rfl) rfl EX21.out ?_
  have hone := @EnvC.one _ _ _ (EX21.out.drew)
  (refine wpG_load rfl rfl (g15) rfl 24 _ _ (fun u hu => EnvC.box hu _ (wo (1)) (List.Mem.tail _ (List.Mem.tail _ (List.Mem.tail _ (List.Mem.head _))))) Try.underlying24 rfl (wc_info _) ?_ (EX21.out.drew); intro K hK; go_big_quiet_op; go_big_quiet_on)
  (refine wpG_call (f := 25) (args := #[.int .u64 (1 : Nat)]) (v := .agg (wcs (1))) rfl rfl rfl Try.func25 rfl rfl (fun u _ => of_n 1 u (by decide)) ?_ (EX21.out.drew); intro K hK; go_big_quiet_op; go_big_quiet_on)
  (refine wpG_val (v := .bool (true)) rfl rfl (fun u _ => eql_op (h1B.out) (h1B.out) (eqN_same 1) rfl rfl u) ?_ (EX21.out.drew); intro K hK; go_big_quiet_op; go_big_quiet_on)
  (refine wpG_op rfl rfl rfl ?_; intro K hK; go_big_quiet_op; go_big_quiet_on)
  (refine wpG_load rfl rfl (g16) rfl 24 _ _ (fun u hu => EnvC.box hu _ (wo (0)) (List.Mem.tail _ (List.Mem.tail _ (List.Mem.head _)))) Try.underlying24 rfl (wc_info _) ?_ (EX21.out.drew); intro K hK; go_big_quiet_op; go_big_quiet_on)
  (refine wpG_op rfl rfl rfl ?_; intro K hK; go_big_quiet_op; go_big_quiet_on)
  (refine wpG_val (v := .bool (true)) rfl rfl (fun u _ => eql_op (Big_pos) (Big_pos) (eqN_same 0) rfl rfl u) ?_ (EX21.out.drew); intro K hK; go_big_quiet_op; go_big_quiet_on)
  (refine wpG_op rfl rfl rfl ?_; intro K hK; go_big_quiet_op; go_big_quiet_on)
  (refine wpG_op rfl rfl rfl ?_; intro K hK; go_big_quiet_op; go_big_quiet_on)
  (refine wpG_load rfl rfl (w.heap.size + 1) rfl 24 _ _ (fun u hu => EnvC.box hu _ (wo (b)) (List.Mem.tail _ (List.Mem.tail _ (List.Mem.tail _ (List.Mem.tail _ (List.Mem.tail _ (List.Mem.tail _ (List.Mem.tail _ (List.Mem.tail _ (List.Mem.head _)))))))))) Try.underlying24 rfl (wc_info _) ?_ (EX21.out.drew); intro K hK; go_big_quiet_op; go_big_quiet_on)
  (refine wpG_load rfl rfl (w.heap.size) rfl 24 _ _ (fun u hu => EnvC.box hu _ (wo (a)) (List.Mem.tail _ (List.Mem.tail _ (List.Mem.tail _ (List.Mem.tail _ (List.Mem.tail _ (List.Mem.tail _ (List.Mem.tail _ (List.Mem.tail _ (List.Mem.tail _ (List.Mem.head _))))))))))) Try.underlying24 rfl (wc_info _) ?_ (EX21.out.drew); intro K hK; go_big_quiet_op; go_big_quiet_on)
  (refine wpG_call (f := 23) (args := #[.agg (wcs (b)), .agg (wcs (a))]) (v := .int .i64 c) rfl rfl rfl Try.func23 rfl rfl (fun u _ => (by rw [← hc.out]; exact cmp_any (b) (a) u hb.out ha.out)) ?_ (EX21.out.drew); intro K hK; go_big_quiet_op; go_big_quiet_on)
  (refine wpG_op rfl rfl rfl ?_; intro K hK; go_big_quiet_op; go_big_quiet_on)
  (refine wpG_op rfl rfl rfl ?_; intro K hK; go_big_quiet_op; go_big_quiet_on)
  (refine wpG_load rfl rfl (g19) rfl 24 _ _ (fun u hu => EnvC.box hu _ (wo (0)) (List.Mem.tail _ (List.Mem.head _))) Try.underlying24 rfl (wc_info _) ?_ (EX21.out.drew); intro K hK; go_big_quiet_op; go_big_quiet_on)
  (refine wpG_op rfl rfl rfl ?_; intro K hK; go_big_quiet_op; go_big_quiet_on)
  (refine wpG_val (v := .bool (true)) rfl rfl (fun u _ => eql_op (Big_pos) (Big_pos) (eqN_same 0) rfl rfl u) ?_ (EX21.out.drew); intro K hK; go_big_quiet_op; go_big_quiet_on)
  (refine wpG_op rfl rfl rfl ?_; intro K hK; go_big_quiet_op; go_big_quiet_on)
  (refine wpG_load rfl rfl (g20) rfl 24 _ _ (fun u hu => EnvC.box hu _ (wo (b)) (List.Mem.head _)) Try.underlying24 rfl (wc_info _) ?_ (EX21.out.drew); intro K hK; go_big_quiet_op; go_big_quiet_on)
  (refine wpG_load rfl rfl (w.heap.size + 1) rfl 24 _ _ (fun u hu => EnvC.box hu _ (wo (b)) (List.Mem.tail _ (List.Mem.tail _ (List.Mem.tail _ (List.Mem.tail _ (List.Mem.tail _ (List.Mem.tail _ (List.Mem.tail _ (List.Mem.tail _ (List.Mem.head _)))))))))) Try.underlying24 rfl (wc_info _) ?_ (EX21.out.drew); intro K hK; go_big_quiet_op; go_big_quiet_on)
  (refine wpG_val (v := .bool (true)) rfl rfl (fun u _ => eql_op (hb.out) (hb.out) (eqN_same b) rfl rfl u) ?_ (EX21.out.drew); intro K hK; go_big_quiet_op; go_big_quiet_on)
  (refine wpG_op rfl rfl rfl ?_; intro K hK; go_big_quiet_op; go_big_quiet_on)
  (refine wpG_op rfl rfl rfl ?_; intro K hK; go_big_quiet_op; go_big_quiet_on)
  (refine wpG_op rfl rfl rfl ?_; intro K hK; go_big_quiet_op; go_big_quiet_on)
  (refine wpG_op rfl rfl rfl ?_; intro K hK; go_big_quiet_op; go_big_quiet_on)
  clear hone
  refine wpG_nil ?_
  refine anyG_done (by kernel_rfl) ?_
  rintro u24 ⟨hl2, E2'⟩
  have EX23 := Lib.hid E2'
  clear hl2 E2' EX21
  go_wp2_with fail
  go_ret
  exact ⟨rfl, EX23.out.bel⟩

theorem cmpI_ge (m n : Nat) : 0 ≤ cmpI m n ↔ n ≤ m := by
  unfold cmpI
  split
  · omega
  · split <;> omega
theorem law_whole (a b : Nat) (w : World) (ha : a < Big) (hb : b < Big) :
    Calls Try.prog 9 #[.agg (wcs a), .agg (wcs b)] w fun e w' => e = .returned (.bool true) ∧ Below w.heap.size w w' := by
  have h1B : 1 < Big := by unfold Big; omega
  have h2B : 2 < Big := by unfold Big; omega
  have hhB : a / 2 < Big := Nat.lt_of_le_of_lt (Nat.div_le_self _ _) ha
  by_cases h0 : a = 0
  · exact whole_zero a b _ _ ha hb h1B h2B hhB rfl rfl rfl (show eqN a 0 = true by rw [h0]; exact eqN_same 0) w
  · have e0 : eqN a 0 = false := by simp only [eqN]; simpa using h0
    have hc := cmpI_ge b a
    by_cases hg : a ≤ b
    · exact whole_ge a b _ _ ha hb h1B h2B hhB rfl rfl rfl e0 (show _ < _ by omega) _ rfl (by omega) _ _ (show _ < _ from Nat.lt_of_le_of_lt (Nat.div_le_self _ _) hb) (show _ < _ from Nat.lt_of_le_of_lt (Nat.mod_le _ _) hb) rfl rfl w
    · exact whole_lt a b _ _ ha hb h1B h2B hhB rfl rfl rfl e0 (show _ < _ by omega) _ rfl (by omega) (show _ = _ from Nat.div_eq_of_lt (by omega)) (show _ = _ from Nat.mod_eq_of_lt (by omega)) w
end Go.Proofs.Ytcombekbeljflaa
