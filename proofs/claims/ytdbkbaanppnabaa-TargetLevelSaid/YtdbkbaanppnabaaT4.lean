/- The walks of Level, of the program and of the reference. -/
import Derived.Test.YtdbkbaanppnabaaT3
namespace Go.Proofs.Ytdbkbaanppnabaa
open Go.RowKit

theorem reaches_any (n t k g5 g3 : Nat) (b : Bool) (w : World) (hn : Hid (n < Big)) (ht : Hid (t < Big)) (hk : k ≤ 31) (hb : Hid (decide (n ≤ t / 2 ^ k) = b)) (h5 : Hid (w.heap[g5]? = some (wo n))) (h3 : Hid (w.heap[g3]? = some (wo t))) :
    Calls Try.prog 32 #[.int .i64 (k : Int), .pointer (some ⟨g5, 0, none⟩), .pointer (some ⟨g3, 0, none⟩)] w fun e w' => e = .returned (.bool b) ∧ Below w.heap.size w w' := by
  have E1 : Hid (EnvX w w [(g5, wo n), (g3, wo t)]) := ⟨Below.refl _ _, fun g o hm => by
    rcases List.mem_cons.1 hm with e | hm
    · cases e; exact h5.out
    · cases List.mem_singleton.1 hm; exact h3.out⟩
  clear h5 h3
  have hdB := Lib.hid (Nat.lt_of_le_of_lt (Nat.div_le_self t (2 ^ k)) ht.out)
  have hS := Lib.hid (cmpI_sgn n (t / 2 ^ k)).2.1
  have hdn : Hid (∀ u, Calls Try.prog 23 #[.agg (wcs t), .int .i64 (k : Int)] u fun e w' => e = .returned (.agg (wcs (t / 2 ^ k))) ∧ Below u.heap.size u w') := fun u => down_any t k u ht.out (by omega)
  generalize t / 2 ^ k = d at *
  generalize hc : cmpI n d = c at *
  have HC := Lib.hid hc
  clear hc
  go_enter Try.func32, Try.ntmps32
  go_upto_region 1 with (fail)
  refine wp_region_G (w0 := w) [0, 1, 2, 3, 4, 5, 6] [(g5, (wo (n))), (g3, (wo (t)))] 0 (by kernel_rfl) (by kernel_rfl) rfl E1.out ?_
  have hone := @EnvC.one _ _ _ (E1.out.drew)
  (refine wpG_load rfl rfl (g5) rfl 25 _ _ (fun u hu => EnvC.box hu _ (wo (n)) (List.Mem.head _)) Try.underlying25 rfl (wc_info _) ?_ (E1.out.drew); intro K hK; go_big_quiet_op; go_big_quiet_on)
  (refine wpG_load rfl rfl (g3) rfl 25 _ _ (fun u hu => EnvC.box hu _ (wo (t)) (List.Mem.tail _ (List.Mem.head _))) Try.underlying25 rfl (wc_info _) ?_ (E1.out.drew); intro K hK; go_big_quiet_op; go_big_quiet_on)
  (refine wpG_op rfl rfl rfl ?_; intro K hK; go_big_quiet_op; go_big_quiet_on)
  (refine wpG_call (f := 23) (args := #[.agg (wcs (t)), .int .i64 (k : Int)]) (v := .agg (wcs (d))) rfl rfl rfl Try.func23 rfl rfl (fun u _ => hdn.out u) ?_ (E1.out.drew); intro K hK; go_big_quiet_op; go_big_quiet_on)
  (refine wpG_call (f := 18) (args := #[.agg (wcs (n)), .agg (wcs (d))]) (v := .int .i64 c) rfl rfl rfl Try.func18 rfl rfl (fun u _ => (by rw [← HC.out]; exact cmp_any n d u hn.out hdB.out)) ?_ (E1.out.drew); intro K hK; go_big_quiet_op; go_big_quiet_on)
  (refine wpG_op rfl rfl rfl ?_; intro K hK; go_big_quiet_op; go_big_quiet_on)
  (refine wpG_op rfl rfl rfl ?_; intro K hK; go_big_quiet_op; go_big_quiet_on)
  clear hone
  refine wpG_nil ?_
  refine anyG_done (by kernel_rfl) ?_
  rintro u2 ⟨hl2, E2'⟩
  have EX1 := Lib.hid E2'
  clear hl2 E2' E1
  go_wp2_with fail
  go_ret
  refine ⟨?_, EX1.out.bel⟩
  rw [← hb.out, show decide (n ≤ d) = decide (c ≤ 0) by simp only [hS.out]]
  rfl

set_option maxRecDepth 100000 in
set_option maxHeartbeats 4000000 in
theorem level_any (f : Nat → Nat) (hf : ∀ i, f i < 256) (t : Nat) (w : World) (ht : t < Big) :
    Calls Try.prog 16 #[.agg (idF (fun i => (f i : Int))), .agg (wcs t)] w fun e w' => e = .returned (.int .i64 (lvI (numOf f) t)) ∧ Below w.heap.size w w' := by
  have hN := Lib.hid (numOf_lt f hf)
  have ht' := Lib.hid ht
  have HO : Hid (∀ u, Calls Try.prog 22 #[.agg (idF (fun i => (f i : Int)))] u fun e w' => e = .returned (.agg (wcs (numOf f))) ∧ Below u.heap.size u w') := fun u => of32_any f hf u
  generalize numOf f = n at *
  have E1 : Hid (EnvX w ((w.alloc (.cells (idF (fun i => (f i : Int))) 27)).alloc (.cells (wcs t) 25)) [(w.heap.size + 1, wo t), (w.heap.size, io (fun i => (f i : Int)))]) := (EnvX.start w).two (io (fun i => (f i : Int))) (wo t)
  have hb1 : w.heap.size ≤ w.heap.size := Nat.le_refl _
  have hb2 : w.heap.size ≤ w.heap.size + 1 := Nat.le_succ _
  have n21 : Hid (w.heap.size + 1 ≠ w.heap.size) := by show _ ≠ _; omega
  have hmf : ∀ (fn : Fn) (first cap : Array Value) (w : World), (Instr.makeFunc fn first cap).run Try.prog w = .ok (.func fn first cap) w := fun _ _ _ _ => rfl
  go_enter Try.func16, Try.ntmps16
  go_upto_region 1 with (fail)
  generalize (w.alloc (.cells (idF (fun i => (f i : Int))) 27)).alloc (.cells (wcs t) 25) = w1 at *
  refine wp_region_Gx (w0 := w) [0, 1] [2, 3] [(w.heap.size + 1, (wo (t))), (w.heap.size, (io (fun i => (f i : Int))))] rfl E1.out ?_
  have hone := @EnvC.one _ _ _ (E1.out)
  (refine wpG_load rfl rfl (w.heap.size) rfl 27 _ _ (fun u hu => EnvC.box hu _ (io (fun i => (f i : Int))) (List.Mem.tail _ (List.Mem.head _))) Try.underlying27 rfl (infoId _ (idF_size _)) ?_ (E1.out); intro K hK; go_big_quiet_op; go_big_quiet_on)
  (refine wpG_call (f := 22) (args := #[.agg (idF (fun i => (f i : Int)))]) (v := .agg (wcs (n))) rfl rfl rfl Try.func22 rfl rfl (fun u _ => HO.out u) ?_ (E1.out); intro K hK; go_big_quiet_op; go_big_quiet_on)
  clear hone
  refine wpG_nil ?_
  (refine (gOp_new (wo (0)) rfl (new_wide _) ?_); intro g1 hbg1 hfg1; intro K' hK'; go_big_quiet_op; go_big_quiet_on)
  have ng1x0 : Hid (w.heap.size + 1 ≠ g1) := hfg1 (w.heap.size + 1, _) (List.Mem.head _)
  have ng1x1 : Hid (w.heap.size ≠ g1) := hfg1 (w.heap.size, _) (List.Mem.tail _ (List.Mem.head _))
  clear hfg1
  refine (gOp_store rfl (g1) (wcs (n)) rfl rfl hbg1 25 (wcs (0)) (List.Mem.head _) (wc_info _) ((wc_size _).trans (wc_size _).symm) (wc_one _) [(g1, (wo (n))), (w.heap.size + 1, (wo (t))), (w.heap.size, (io (fun i => (f i : Int))))] (List.forall_mem_cons.2 ⟨.inl rfl, (List.forall_mem_cons.2 ⟨.inr ⟨(List.Mem.tail _ (List.Mem.head _)), ng1x0.out⟩, (List.forall_mem_cons.2 ⟨.inr ⟨(List.Mem.tail _ (List.Mem.tail _ (List.Mem.head _))), ng1x1.out⟩, (fun _ h => by cases h)⟩)⟩)⟩) ?_)
  rintro u3 ⟨hl2, E2'⟩
  have EX2 := Lib.hid E2'
  clear hl2 E2' E1
  have z5 : Hid (EX2.out.box g1 _ (List.Mem.head _) = EX2.out.box g1 _ (List.Mem.head _)) := rfl
  clear z5
  go_wp2_with fail
  go_loopw [7] (fun l u => ∃ k : Nat, k ≤ 32 ∧ l = .int .i64 ((k : Int) - 1) ∧ Hid (EnvX w u [(g1, (wo (n))), (w.heap.size + 1, (wo (t))), (w.heap.size, (io (fun i => (f i : Int))))]) ∧ Hid (∀ j, j < k → n ≤ t / 2 ^ j)) (fun l _ => (31 - intOf l).toNat)
  case atStart => exact ⟨0, by omega, rfl, EX2, fun j hj => by omega⟩
  case round =>
    obtain ⟨k, hk, rfl, hE, hall⟩ := hrel
    clear EX2
    have hk0 : (-1 : Int) ≤ (k : Int) - 1 := by omega
    have hk1 : (k : Int) - 1 ≤ 31 := by omega
    by_cases h31 : k < 32
    · have h3 : (k : Int) - 1 < 31 := by omega
      by_cases hr : n ≤ t / 2 ^ k
      · go_wp2_with (go_at_call 32; refine (reaches_any n t k g1 (w.heap.size + 1) true _ hN ht' (by omega) (decide_eq_true hr) (hE.out.box g1 _ (List.Mem.head _)) (hE.out.box (w.heap.size + 1) _ (List.Mem.tail _ (List.Mem.head _)))).mono ?_; rintro e w' ⟨rfl, hb⟩; have hE2 := Lib.hid (hE.out.below hb); clear hb)
        go_roundw
        case rel =>
          refine ⟨k + 1, by omega, by go_num, by assumption, fun j hj => ?_⟩
          by_cases hjk : j = k
          · subst hjk; exact hr
          · exact hall.out j (by omega)
        case measure => simp [intOf]; omega
      · go_wp2_with (go_at_call 32; refine (reaches_any n t k g1 (w.heap.size + 1) false _ hN ht' (by omega) (decide_eq_false hr) (hE.out.box g1 _ (List.Mem.head _)) (hE.out.box (w.heap.size + 1) _ (List.Mem.tail _ (List.Mem.head _)))).mono ?_; rintro e w' ⟨rfl, hb⟩; have hE2 := Lib.hid (hE.out.below hb); clear hb)
        go_ret
        exact ⟨ret_num (by unfold lvI; rw [lvC_stop hk hall.out (.inr hr)]), by have h := hE2.out.bel; exact h⟩
    · have h3 : ¬ (k : Int) - 1 < 31 := by omega
      go_wp2
      go_ret
      exact ⟨ret_num (by unfold lvI; rw [lvC_stop hk hall.out (.inl (by omega))]), hE.out.bel⟩
end Go.Proofs.Ytdbkbaanppnabaa
