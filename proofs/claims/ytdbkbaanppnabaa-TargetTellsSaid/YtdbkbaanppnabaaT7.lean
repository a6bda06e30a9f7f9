/- The walk of awake, of stage 3. -/
import Derived.Test.YtdbkbaanppnabaaT6
import Derived.Laws.Tables
namespace Go.Proofs.Ytdbkbaanppnabaa
open Go.RowKit

theorem idF_built (f : Nat → Nat) (parts : List (Nat × Value)) (h : Try.prog.built 27 parts = some ((List.range 32).map (fun i => Value.int .u8 (f i : Int))).toArray) : Try.prog.built 27 parts = some (idF (fun i => (f i : Int))) := by
  rw [h]
  congr 1
theorem build_id {dst : Option Tmp} {ty : TypeId} {pos : String} {after : Array Edge} {gd : Option (Nat × Bool)} {a : Act} (f : Nat → Nat) (parts : Array (Nat × Operand)) (vs : List (Nat × Value)) (hv : parts.toList.map (fun (i, x) => (i, a.eval x)) = vs) (h : Try.prog.built 27 vs = some ((List.range 32).map (fun i => Value.int .u8 (f i : Int))).toArray) (u : World) :
    (execOp a.eval ⟨dst, .build 27 parts, ty, pos, after, gd⟩).run Try.prog u = .ok (.value (.agg (idF (fun i => (f i : Int))))) u := by
  have h1 := run_build (P := Try.prog) u 27 (parts.map fun (i, x) => (i, a.eval x)) _ (by rw [Array.toList_map, hv]; exact idF_built f _ h)
  unfold execOp
  simp only [Sem.run_bind, h1]
  rfl
theorem built_zero : Try.prog.built 27 [] = some ((List.range 32).map (fun i => Value.int .u8 (((fun _ => 0 : Nat → Nat) i : Nat) : Int))).toArray := by kernel_rfl
theorem built_255 : Try.prog.built 27 [(0, .int .u8 255)] = some ((List.range 32).map (fun i => Value.int .u8 (((fun i => if i = 0 then 255 else 0 : Nat → Nat) i : Nat) : Int))).toArray := by kernel_rfl
theorem level_zero (t : Nat) (u : World) (ht : t < Big) :
    Calls Try.prog 16 #[.agg (idF (fun i => (((fun _ => 0 : Nat → Nat) i : Nat) : Int))), .agg (wcs t)] u fun e w' => e = .returned (.int .i64 31) ∧ Below u.heap.size u w' := by
  have h := level_any (fun _ => 0) (by intro i; decide) t u ht
  have e : numOf (fun _ => 0) = 0 := by decide +kernel
  rw [e, lvI_zero] at h
  exact h

set_option maxRecDepth 100000 in
set_option maxHeartbeats 4000000 in
theorem awake_walk (t : Nat) (w : World) (hB : Hid (t < Big)) (HT : Hid (∀ u, Calls Try.prog 10 #[.int .u32 (545259519 : Nat)] u fun e w' => e = .returned (.tuple #[.agg (wcs t), .bool true]) ∧ Below u.heap.size u w'))
    (HW : Hid (∀ u, Calls Try.prog 14 #[.agg (wcs t)] u fun e w' => e = .returned (.agg (wcs 2)) ∧ Below u.heap.size u w'))
    (HC : Hid (∀ u, Calls Try.prog 12 #[.agg (wcs t)] u fun e w' => e = .returned (.int .u32 545259519) ∧ Below u.heap.size u w'))
    (HL : Hid (∀ u, Calls Try.prog 16 #[.agg (idF (fun i => (((fun i => if i = 0 then 255 else 0 : Nat → Nat) i : Nat) : Int))), .agg (wcs t)] u fun e w' => e = .returned (.int .i64 (-1)) ∧ Below u.heap.size u w'))
    (h3 : Hid ((W t 3 : Int) = 9223370937343148032)) (h0 : Hid ((W t 0 : Int) = 0)) :
    Calls Try.prog 9 #[] w fun e w' => e = .returned (.bool true) ∧ Below w.heap.size w w' := by
  have g0 : Hid ((W 2 0 : Int) = 2) := by show _ = _; decide +kernel
  have g3 : Hid ((W 2 3 : Int) = 0) := by show _ = _; decide +kernel
  have E1 := Lib.hid (EnvX.start w)
  go_enter Try.func9, Try.ntmps9
  go_upto_region 1 with (fail)
  refine wp_region_Gx (w0 := w) [0, 1, 2, 3] [4, 5, 6] [] rfl E1.out ?_
  have hone := @EnvC.one _ _ _ (E1.out)
  (refine wpG_call (f := 10) (args := #[.int .u32 (545259519 : Nat)]) (v := .tuple #[.agg (wcs (t)), .bool true]) rfl rfl rfl Try.func10 rfl rfl (fun u _ => HT.out u) ?_ (E1.out); intro K hK; go_big_quiet_op; go_big_quiet_on)
  (refine wpG_op rfl rfl rfl ?_; intro K hK; go_big_quiet_op; go_big_quiet_on)
  (refine wpG_op rfl rfl rfl ?_; intro K hK; go_big_quiet_op; go_big_quiet_on)
  (refine wpG_op rfl rfl rfl ?_; intro K hK; go_big_quiet_op; go_big_quiet_on)
  clear hone
  refine wpG_nil ?_
  (refine (gOp_new (wo (0)) rfl (new_wide _) ?_); intro g1 hbg1 hfg1; intro K' hK'; go_big_quiet_op; go_big_quiet_on)
  clear hfg1
  refine (gOp_store rfl (g1) (wcs (t)) rfl rfl hbg1 25 (wcs (0)) (List.Mem.head _) (wc_info _) ((wc_size _).trans (wc_size _).symm) (wc_one _) [(g1, (wo (t)))] (List.forall_mem_cons.2 ⟨.inl rfl, (fun _ h => by cases h)⟩) ?_)
  (refine (gOp_pure rfl rfl ?_); intro K' hK'; go_big_quiet_op; go_big_quiet_on)
  rintro u3 ⟨hl2, E2'⟩
  have EX2 := Lib.hid E2'
  clear hl2 E2' E1
  go_upto_region 2 with (fail)
  refine wp_region_Gx (w0 := w) [0, 1] [2, 3] [(g1, (wo (t)))] rfl EX2.out ?_
  have hone := @EnvC.one _ _ _ (EX2.out)
  (refine wpG_load rfl rfl (g1) rfl 25 _ _ (fun u hu => EnvC.box hu _ (wo (t)) (List.Mem.head _)) Try.underlying25 rfl (wc_info _) ?_ (EX2.out); intro K hK; go_big_quiet_op; go_big_quiet_on)
  (refine wpG_call (f := 14) (args := #[.agg (wcs (t))]) (v := .agg (wcs (2))) rfl rfl rfl Try.func14 rfl rfl (fun u _ => HW.out u) ?_ (EX2.out); intro K hK; go_big_quiet_op; go_big_quiet_on)
  clear hone
  refine wpG_nil ?_
  (refine (gOp_new (wo (0)) rfl (new_wide _) ?_); intro g4 hbg4 hfg4; intro K' hK'; go_big_quiet_op; go_big_quiet_on)
  have ng4x0 : Hid (g1 ≠ g4) := hfg4 (g1, _) (List.Mem.head _)
  clear hfg4
  refine (gOp_store rfl (g4) (wcs (2)) rfl rfl hbg4 25 (wcs (0)) (List.Mem.head _) (wc_info _) ((wc_size _).trans (wc_size _).symm) (wc_one _) [(g4, (wo (2))), (g1, (wo (t)))] (List.forall_mem_cons.2 ⟨.inl rfl, (List.forall_mem_cons.2 ⟨.inr ⟨(List.Mem.tail _ (List.Mem.head _)), ng4x0.out⟩, (fun _ h => by cases h)⟩)⟩) ?_)
  rintro u6 ⟨hl2, E2'⟩
  have EX5 := Lib.hid E2'
  clear hl2 E2' EX2
  go_upto_region 3 with (fail)
  refine wp_region_Gx (w0 := w) [0, 1, 2, 3, 4, 5, 6, 7, 8, 9, 10, 11, 12, 13, 14, 15, 16, 17, 18, 19, 20, 21, 22, 23, 24, 25, 26, 27, 28, 29, 30, 31, 32, 33, 34, 35, 36, 37, 38] [] [(g4, (wo (2))), (g1, (wo (t)))] rfl EX5.out ?_
  have hone := @EnvC.one _ _ _ (EX5.out)
  (refine wpG_op rfl rfl rfl ?_; intro K hK; go_big_quiet_op; go_big_quiet_on)
  (refine wpG_op rfl rfl rfl ?_; intro K hK; go_big_quiet_op; go_big_quiet_on)
  (refine wpG_op rfl rfl rfl ?_; intro K hK; go_big_quiet_op; go_big_quiet_on)
  (refine wpG_val (v := .int .u64 (9223370937343148032)) rfl rfl (fun u hu => load_word u ((EnvX.cell hu (List.Mem.tail _ (List.Mem.head _)) 3 (by decide)).trans (by rw [h3.out]))  rfl) ?_ (EX5.out); intro K hK; go_big_quiet_op; go_big_quiet_on)
  (refine wpG_op rfl rfl rfl ?_; intro K hK; go_big_quiet_op; go_big_quiet_on)
  (refine wpG_op rfl rfl rfl ?_; intro K hK; go_big_quiet_op; go_big_quiet_on)
  (refine wpG_op rfl rfl rfl ?_; intro K hK; go_big_quiet_op; go_big_quiet_on)
  (refine wpG_op rfl rfl rfl ?_; intro K hK; go_big_quiet_op; go_big_quiet_on)
  (refine wpG_val (v := .int .u64 (0)) rfl rfl (fun u hu => load_word u ((EnvX.cell hu (List.Mem.tail _ (List.Mem.head _)) 0 (by decide)).trans (by rw [h0.out]))  rfl) ?_ (EX5.out); intro K hK; go_big_quiet_op; go_big_quiet_on)
  (refine wpG_op rfl rfl rfl ?_; intro K hK; go_big_quiet_op; go_big_quiet_on)
  (refine wpG_op rfl rfl rfl ?_; intro K hK; go_big_quiet_op; go_big_quiet_on)
  (refine wpG_op rfl rfl rfl ?_; intro K hK; go_big_quiet_op; go_big_quiet_on)
  (refine wpG_op rfl rfl rfl ?_; intro K hK; go_big_quiet_op; go_big_quiet_on)
  (refine wpG_val (v := .int .u64 (2)) rfl rfl (fun u hu => load_word u ((EnvX.cell hu (List.Mem.head _) 0 (by decide)).trans (by rw [g0.out]))  rfl) ?_ (EX5.out); intro K hK; go_big_quiet_op; go_big_quiet_on)
  (refine wpG_op rfl rfl rfl ?_; intro K hK; go_big_quiet_op; go_big_quiet_on)
  (refine wpG_op rfl rfl rfl ?_; intro K hK; go_big_quiet_op; go_big_quiet_on)
  (refine wpG_op rfl rfl rfl ?_; intro K hK; go_big_quiet_op; go_big_quiet_on)
  (refine wpG_op rfl rfl rfl ?_; intro K hK; go_big_quiet_op; go_big_quiet_on)
  (refine wpG_val (v := .int .u64 (0)) rfl rfl (fun u hu => load_word u ((EnvX.cell hu (List.Mem.head _) 3 (by decide)).trans (by rw [g3.out]))  rfl) ?_ (EX5.out); intro K hK; go_big_quiet_op; go_big_quiet_on)
  (refine wpG_op rfl rfl rfl ?_; intro K hK; go_big_quiet_op; go_big_quiet_on)
  (refine wpG_op rfl rfl rfl ?_; intro K hK; go_big_quiet_op; go_big_quiet_on)
  (refine wpG_op rfl rfl rfl ?_; intro K hK; go_big_quiet_op; go_big_quiet_on)
  (refine wpG_load rfl rfl (g1) rfl 25 _ _ (fun u hu => EnvC.box hu _ (wo (t)) (List.Mem.tail _ (List.Mem.head _))) Try.underlying25 rfl (wc_info _) ?_ (EX5.out); intro K hK; go_big_quiet_op; go_big_quiet_on)
  (refine wpG_call (f := 12) (args := #[.agg (wcs (t))]) (v := .int .u32 545259519) rfl rfl rfl Try.func12 rfl rfl (fun u _ => HC.out u) ?_ (EX5.out); intro K hK; go_big_quiet_op; go_big_quiet_on)
  (refine wpG_op rfl rfl rfl ?_; intro K hK; go_big_quiet_op; go_big_quiet_on)
  (refine wpG_op rfl rfl rfl ?_; intro K hK; go_big_quiet_op; go_big_quiet_on)
  (refine wpG_op rfl rfl rfl ?_; intro K hK; go_big_quiet_op; go_big_quiet_on)
  (refine wpG_val (v := .agg (idF (fun i => (((fun _ => 0 : Nat → Nat) i : Nat) : Int)))) rfl rfl (fun u _ => build_id (fun _ => 0) _ [] rfl built_zero u) ?_ (EX5.out); intro K hK; go_big_quiet_op; go_big_quiet_on)
  (refine wpG_load rfl rfl (g1) rfl 25 _ _ (fun u hu => EnvC.box hu _ (wo (t)) (List.Mem.tail _ (List.Mem.head _))) Try.underlying25 rfl (wc_info _) ?_ (EX5.out); intro K hK; go_big_quiet_op; go_big_quiet_on)
  (refine wpG_call (f := 16) (args := #[.agg (idF (fun i => (((fun _ => 0 : Nat → Nat) i : Nat) : Int))), .agg (wcs (t))]) (v := .int .i64 31) rfl rfl rfl Try.func16 rfl rfl (fun u _ => level_zero t u hB.out) ?_ (EX5.out); intro K hK; go_big_quiet_op; go_big_quiet_on)
  (refine wpG_op rfl rfl rfl ?_; intro K hK; go_big_quiet_op; go_big_quiet_on)
  (refine wpG_op rfl rfl rfl ?_; intro K hK; go_big_quiet_op; go_big_quiet_on)
  (refine wpG_op rfl rfl rfl ?_; intro K hK; go_big_quiet_op; go_big_quiet_on)
  (refine wpG_val (v := .agg (idF (fun i => (((fun i => if i = 0 then 255 else 0 : Nat → Nat) i : Nat) : Int)))) rfl rfl (fun u _ => build_id (fun i => if i = 0 then 255 else 0) _ [(0, .int .u8 255)] rfl built_255 u) ?_ (EX5.out); intro K hK; go_big_quiet_op; go_big_quiet_on)
  (refine wpG_load rfl rfl (g1) rfl 25 _ _ (fun u hu => EnvC.box hu _ (wo (t)) (List.Mem.tail _ (List.Mem.head _))) Try.underlying25 rfl (wc_info _) ?_ (EX5.out); intro K hK; go_big_quiet_op; go_big_quiet_on)
  (refine wpG_call (f := 16) (args := #[.agg (idF (fun i => (((fun i => if i = 0 then 255 else 0 : Nat → Nat) i : Nat) : Int))), .agg (wcs (t))]) (v := .int .i64 (-1)) rfl rfl rfl Try.func16 rfl rfl (fun u _ => HL.out u) ?_ (EX5.out); intro K hK; go_big_quiet_op; go_big_quiet_on)
  (refine wpG_op rfl rfl rfl ?_; intro K hK; go_big_quiet_op; go_big_quiet_on)
  (refine wpG_op rfl rfl rfl ?_; intro K hK; go_big_quiet_op; go_big_quiet_on)
  (refine wpG_op rfl rfl rfl ?_; intro K hK; go_big_quiet_op; go_big_quiet_on)
  clear hone
  refine wpG_nil ?_
  rintro u8 ⟨hl2, E2'⟩
  have EX7 := Lib.hid E2'
  clear hl2 E2' EX5
  go_wp2_with fail
  go_ret
  exact ⟨rfl, EX7.out.bel⟩

theorem awake_any (w : World) :
    Calls Try.prog 9 #[] w fun e w' => e = .returned (.bool true) ∧ Below w.heap.size w w' := by
  have hB := tv_big 545259519
  have hI : isC 545259519 = true := by decide
  refine awake_walk (tv 545259519) w hB (fun u => ?_) (fun u => ?_) (fun u => ?_) (fun u => ?_) ?_ ?_
  · have h := target_any 545259519 u (by omega)
    rw [hI] at h
    exact h
  · have h := work_any (tv 545259519) u hB
    have e : wkV (tv 545259519) = 2 := by decide +kernel
    rw [e] at h
    exact h
  · have h := compact_any (tv 545259519) u hB
    rw [cN_tv hI] at h
    exact h
  · have h := level_any (fun i => if i = 0 then 255 else 0) (by intro i; split <;> decide) (tv 545259519) u hB
    have e : lvI (numOf (fun i => if i = 0 then 255 else 0)) (tv 545259519) = -1 := by
      have h1 := lvI_le (numOf (fun i => if i = 0 then 255 else 0)) (tv 545259519)
      have h2 := (lvI_iff (numOf (fun i => if i = 0 then 255 else 0)) (tv 545259519) 0 (by omega)).1
      have h3 : ¬ numOf (fun i => if i = 0 then 255 else 0) ≤ tv 545259519 / 2 ^ 0 := by decide +kernel
      have h4 : ¬ (((0 : Nat) : Int) ≤ lvI (numOf (fun i => if i = 0 then 255 else 0)) (tv 545259519)) := fun h => h3 (h2 h)
      omega
    rw [e] at h
    exact h
  · show _ = _
    decide +kernel
  · show _ = _
    decide +kernel
end Go.Proofs.Ytdbkbaanppnabaa
