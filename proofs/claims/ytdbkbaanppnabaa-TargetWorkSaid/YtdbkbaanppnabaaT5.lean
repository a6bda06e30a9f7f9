/- The walks of Level and Compact, of the reference. -/
import Derived.Test.YtdbkbaanppnabaaT4
namespace Go.Proofs.Ytdbkbaanppnabaa
open Go.RowKit

theorem lvC_step (n t k : Nat) : lvC n t (k + 1) = if n ≤ t / 2 ^ k then k + 1 else lvC n t k := rfl
set_option maxRecDepth 100000 in
set_option maxHeartbeats 4000000 in
theorem rlevel_any (f : Nat → Nat) (hf : ∀ i, f i < 256) (t : Nat) (w : World) (ht : t < Big) :
    Calls Try.prog 17 #[.agg (idF (fun i => (f i : Int))), .agg (wcs t)] w fun e w' => e = .returned (.int .i64 (lvI (numOf f) t)) ∧ Below w.heap.size w w' := by
  have hN := Lib.hid (numOf_lt f hf)
  have ht' := Lib.hid ht
  have HO : Hid (∀ u, Calls Try.prog 34 #[.agg (idF (fun i => (f i : Int)))] u fun e w' => e = .returned (.agg (wcs (numOf f))) ∧ Below u.heap.size u w') := fun u => rof32_any f hf u
  generalize numOf f = n at *
  have E1 : Hid (EnvX w ((w.alloc (.cells (idF (fun i => (f i : Int))) 27)).alloc (.cells (wcs t) 25)) [(w.heap.size + 1, wo t), (w.heap.size, io (fun i => (f i : Int)))]) := (EnvX.start w).two (io (fun i => (f i : Int))) (wo t)
  go_enter Try.func17, Try.ntmps17
  go_wp2_with fail
  generalize (w.alloc (.cells (idF (fun i => (f i : Int))) 27)).alloc (.cells (wcs t) 25) = w1 at *
  go_loopw [5, 6] (fun o l u => ∃ k : Nat, k ≤ 32 ∧ o = .int .i64 ((lvC n t k : Int) - 1) ∧ l = .int .i64 (k : Int) ∧ Hid (EnvX w u [(w.heap.size + 1, wo t), (w.heap.size, io (fun i => (f i : Int)))])) (fun _ l _ => (32 - intOf l).toNat)
  case atStart => exact ⟨0, by omega, rfl, rfl, E1⟩
  case round =>
    obtain ⟨k, hk, rfl, rfl, hE⟩ := hrel
    clear E1
    have hk0 : (0 : Int) ≤ (k : Int) := by omega
    have hk1 : (k : Int) ≤ 32 := by omega
    have hs := Lib.hid (lvC_step n t k)
    have hle := Lib.hid (lvC_le n t k)
    by_cases h31 : k ≤ 31
    · have h3 : (k : Int) ≤ 31 := by omega
      have hdB := Lib.hid (Nat.lt_of_le_of_lt (Nat.div_le_self t (2 ^ k)) ht'.out)
      have hS := Lib.hid (cmpI_sgn n (t / 2 ^ k)).2.1
      have hdn : Hid (∀ u, Calls Try.prog 28 #[.agg (wcs t), .int .i64 (k : Int)] u fun e w' => e = .returned (.agg (wcs (t / 2 ^ k))) ∧ Below u.heap.size u w') := fun u => by
        have h := rdown_v t (k : Int) u ht'.out
        have e : downV t (k : Int) = t / 2 ^ k := by
          unfold downV aDown
          rw [if_neg (by omega)]
          rfl
        rw [e] at h
        exact h
      generalize t / 2 ^ k = d at *
      generalize hc : cmpI n d = c at *
      have HC := Lib.hid hc
      clear hc
      generalize hlk : lvC n t k = lk at *
      generalize hlk2 : lvC n t (k + 1) = lk2 at *
      have HL := Lib.hid hlk
      have HL2 := Lib.hid hlk2
      clear hlk hlk2
      by_cases hr : c ≤ 0
      · go_upto_region 5 with (fail)
        refine wp_region_G (w0 := w) [0, 1, 2, 3, 4, 5, 6] [(w.heap.size + 1, (wo (t))), (w.heap.size, (io (fun i => (f i : Int))))] 0 (by kernel_rfl) (by kernel_rfl) rfl hE.out ?_
        have hone := @EnvC.one _ _ _ (hE.out.drew)
        (refine wpG_load rfl rfl (w.heap.size) rfl 27 _ _ (fun u hu => EnvC.box hu _ (io (fun i => (f i : Int))) (List.Mem.tail _ (List.Mem.head _))) Try.underlying27 rfl (infoId _ (idF_size _)) ?_ (hE.out.drew); intro K hK; go_big_quiet_op; go_big_quiet_on)
        (refine wpG_call (f := 34) (args := #[.agg (idF (fun i => (f i : Int)))]) (v := .agg (wcs (n))) rfl rfl rfl Try.func34 rfl rfl (fun u _ => HO.out u) ?_ (hE.out.drew); intro K hK; go_big_quiet_op; go_big_quiet_on)
        (refine wpG_load rfl rfl (w.heap.size + 1) rfl 25 _ _ (fun u hu => EnvC.box hu _ (wo (t)) (List.Mem.head _)) Try.underlying25 rfl (wc_info _) ?_ (hE.out.drew); intro K hK; go_big_quiet_op; go_big_quiet_on)
        (refine wpG_op rfl rfl rfl ?_; intro K hK; go_big_quiet_op; go_big_quiet_on)
        (refine wpG_call (f := 28) (args := #[.agg (wcs (t)), .int .i64 (k : Int)]) (v := .agg (wcs (d))) rfl rfl rfl Try.func28 rfl rfl (fun u _ => hdn.out u) ?_ (hE.out.drew); intro K hK; go_big_quiet_op; go_big_quiet_on)
        (refine wpG_call (f := 33) (args := #[.agg (wcs (n)), .agg (wcs (d))]) (v := .int .i64 c) rfl rfl rfl Try.func33 rfl rfl (fun u _ => (by rw [← HC.out]; exact rcmp_any n d u hN.out hdB.out)) ?_ (hE.out.drew); intro K hK; go_big_quiet_op; go_big_quiet_on)
        (refine wpG_op rfl rfl rfl ?_; intro K hK; go_big_quiet_op; go_big_quiet_on)
        clear hone
        refine wpG_nil ?_
        refine anyG_done (by kernel_rfl) ?_
        rintro u2 ⟨hl2, E2'⟩
        have EX1 := Lib.hid E2'
        clear hl2 E2' hE
        go_wp2_with fail
        go_roundw
        case rel =>
          exact ⟨k + 1, by omega, by rw [HL2.out, hs.out, if_pos (hS.out.1 hr)]; go_num, by go_num, EX1⟩
        case measure => simp [intOf]; omega
      · go_upto_region 5 with (fail)
        refine wp_region_G (w0 := w) [0, 1, 2, 3, 4, 5, 6] [(w.heap.size + 1, (wo (t))), (w.heap.size, (io (fun i => (f i : Int))))] 0 (by kernel_rfl) (by kernel_rfl) rfl hE.out ?_
        have hone := @EnvC.one _ _ _ (hE.out.drew)
        (refine wpG_load rfl rfl (w.heap.size) rfl 27 _ _ (fun u hu => EnvC.box hu _ (io (fun i => (f i : Int))) (List.Mem.tail _ (List.Mem.head _))) Try.underlying27 rfl (infoId _ (idF_size _)) ?_ (hE.out.drew); intro K hK; go_big_quiet_op; go_big_quiet_on)
        (refine wpG_call (f := 34) (args := #[.agg (idF (fun i => (f i : Int)))]) (v := .agg (wcs (n))) rfl rfl rfl Try.func34 rfl rfl (fun u _ => HO.out u) ?_ (hE.out.drew); intro K hK; go_big_quiet_op; go_big_quiet_on)
        (refine wpG_load rfl rfl (w.heap.size + 1) rfl 25 _ _ (fun u hu => EnvC.box hu _ (wo (t)) (List.Mem.head _)) Try.underlying25 rfl (wc_info _) ?_ (hE.out.drew); intro K hK; go_big_quiet_op; go_big_quiet_on)
        (refine wpG_op rfl rfl rfl ?_; intro K hK; go_big_quiet_op; go_big_quiet_on)
        (refine wpG_call (f := 28) (args := #[.agg (wcs (t)), .int .i64 (k : Int)]) (v := .agg (wcs (d))) rfl rfl rfl Try.func28 rfl rfl (fun u _ => hdn.out u) ?_ (hE.out.drew); intro K hK; go_big_quiet_op; go_big_quiet_on)
        (refine wpG_call (f := 33) (args := #[.agg (wcs (n)), .agg (wcs (d))]) (v := .int .i64 c) rfl rfl rfl Try.func33 rfl rfl (fun u _ => (by rw [← HC.out]; exact rcmp_any n d u hN.out hdB.out)) ?_ (hE.out.drew); intro K hK; go_big_quiet_op; go_big_quiet_on)
        (refine wpG_op rfl rfl rfl ?_; intro K hK; go_big_quiet_op; go_big_quiet_on)
        clear hone
        refine wpG_nil ?_
        refine anyG_done (by kernel_rfl) ?_
        rintro u2 ⟨hl2, E2'⟩
        have EX1 := Lib.hid E2'
        clear hl2 E2' hE
        go_wp2_with fail
        go_roundw
        case rel =>
          exact ⟨k + 1, by omega, by rw [HL2.out, hs.out, if_neg (fun h => hr (hS.out.2 h))], by go_num, EX1⟩
        case measure => simp [intOf]; omega
    · have h3 : ¬ (k : Int) ≤ 31 := by omega
      obtain rfl : k = 32 := by omega
      go_wp2
      go_ret
      exact ⟨rfl, hE.out.bel⟩
end Go.Proofs.Ytdbkbaanppnabaa
