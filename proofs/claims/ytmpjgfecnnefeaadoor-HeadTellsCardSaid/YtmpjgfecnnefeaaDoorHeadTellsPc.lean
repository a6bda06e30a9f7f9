/- Part of a proof. -/
import Derived.Test.YtmpjgfecnnefeaaDoorHeadTellsPb
namespace Go.Proofs.YtmpjgfecnnefeaaDoor
set_option maxRecDepth 8000
open Go.RowKit

section
variable {a : Act} {dst : Option Tmp} {x : Operand} {ty : TypeId} {pos : String} {after : Array Edge} {gd : Option (Nat × Bool)}
end
set_option maxRecDepth 20000 in
set_option maxHeartbeats 8000000 in
theorem rhput_neg (h : Hd) (w : World) (hh : okHd h) (k : h.height < 0) :
    Calls Tryd.prog 11 #[hdV h] w fun e w' => (∃ v, e = .returned (.tuple #[v, .bool (putH h).2]) ∧ OwnB w' w.heap.size v (putH h).1) ∧ Below w.heap.size w w' := by
  have hp : putH h = ([], false) := by unfold putH mayPut; rw [if_neg (by rw [decide_eq_true_eq]; omega)]
  rw [hp]
  have C2 : Hid (decide (h.height < 0) = true) := decide_eq_true k
  clear k hp
  have E1 : Hid (EnvX w (w.alloc (.cells (hdA h) 29)) [(w.heap.size, Obj.cells (hdA h) 29 (0, 0))]) := (EnvX.start w).new _
  clear hh
  unfold hdV
  go_enter Tryd.func11, Tryd.ntmps11
  go_upto_region 1 with (fail)
  generalize w.alloc (.cells (hdA h) 29) = W at *
  refine wp_region_Hx (w0 := w) [0, 1, 2, 3, 4, 5, 6, 7] [(w.heap.size, Obj.cells (hdA h) 29 (0, 0))] rfl E1.out ?_
  refine lexH_phase [0, 1, 2, 3, 4, 5, 6, 7] [] ?_
  have hw1 : EnvX w _ [(w.heap.size, Obj.cells (hdA h) 29 (0, 0))] := E1.out
  have hone := @EnvC.one _ _ _ hw1
  (refine wpG_op rfl rfl rfl ?_; intro K hK; go_big_quiet_op; go_big_quiet_on)
  (refine wpG_val (v := .int .i64 h.height) rfl rfl (fun u hu => load_any_op u (box_hd_height hu (List.Mem.head _)) rfl) ?_ hw1; intro K hK; go_big_quiet_op; go_big_quiet_on)
  (refine wpG_val (v := .bool true) rfl rfl (fun u hu => ltZ_op u C2.out rfl rfl) ?_ hw1; intro K hK; go_big_quiet_op; go_big_quiet_on)
  (refine wpG_op rfl rfl rfl ?_; intro K hK; go_big_quiet_op; go_big_quiet_on)
  (refine wpG_skip rfl rfl ?_ hw1; intro K hK; go_big_quiet_op; go_big_quiet_on)
  (refine wpG_skip rfl rfl ?_ hw1; intro K hK; go_big_quiet_op; go_big_quiet_on)
  (refine wpG_skip rfl rfl ?_ hw1; intro K hK; go_big_quiet_op; go_big_quiet_on)
  (refine wpG_op rfl rfl rfl ?_; intro K hK; go_big_quiet_op; go_big_quiet_on)
  clear hone hw1
  refine wpG_nil ?_
  intro u3 E2'
  have EX2 := Lib.hid E2'
  clear E2'
  have HBE := Lib.hid (EnvX.bel EX2.out)
  go_wp2
  go_returns
  exact ⟨⟨_, rfl, OwnB.nil _ _⟩, HBE.out⟩
set_option maxRecDepth 20000 in
set_option maxHeartbeats 8000000 in
theorem rhput_over (h : Hd) (w : World) (hh : okHd h) (k : 1048576 < h.height) :
    Calls Tryd.prog 11 #[hdV h] w fun e w' => (∃ v, e = .returned (.tuple #[v, .bool (putH h).2]) ∧ OwnB w' w.heap.size v (putH h).1) ∧ Below w.heap.size w w' := by
  have hp : putH h = ([], false) := by unfold putH mayPut; rw [if_neg (by rw [decide_eq_true_eq]; omega)]
  rw [hp]
  have C2 : Hid (decide (h.height < 0) = false) := decide_eq_false (by omega)
  have C6 : Hid (decide (1048576 < h.height) = true) := decide_eq_true k
  clear k hp
  have E1 : Hid (EnvX w (w.alloc (.cells (hdA h) 29)) [(w.heap.size, Obj.cells (hdA h) 29 (0, 0))]) := (EnvX.start w).new _
  clear hh
  unfold hdV
  go_enter Tryd.func11, Tryd.ntmps11
  go_upto_region 1 with (fail)
  generalize w.alloc (.cells (hdA h) 29) = W at *
  refine wp_region_Hx (w0 := w) [0, 1, 2, 3, 4, 5, 6, 7] [(w.heap.size, Obj.cells (hdA h) 29 (0, 0))] rfl E1.out ?_
  refine lexH_phase [0, 1, 2, 3, 4, 5, 6, 7] [] ?_
  have hw1 : EnvX w _ [(w.heap.size, Obj.cells (hdA h) 29 (0, 0))] := E1.out
  have hone := @EnvC.one _ _ _ hw1
  (refine wpG_op rfl rfl rfl ?_; intro K hK; go_big_quiet_op; go_big_quiet_on)
  (refine wpG_val (v := .int .i64 h.height) rfl rfl (fun u hu => load_any_op u (box_hd_height hu (List.Mem.head _)) rfl) ?_ hw1; intro K hK; go_big_quiet_op; go_big_quiet_on)
  (refine wpG_val (v := .bool false) rfl rfl (fun u hu => ltZ_op u C2.out rfl rfl) ?_ hw1; intro K hK; go_big_quiet_op; go_big_quiet_on)
  (refine wpG_op rfl rfl rfl ?_; intro K hK; go_big_quiet_op; go_big_quiet_on)
  (refine wpG_op rfl rfl rfl ?_; intro K hK; go_big_quiet_op; go_big_quiet_on)
  (refine wpG_val (v := .int .i64 h.height) rfl rfl (fun u hu => load_any_op u (box_hd_height hu (List.Mem.head _)) rfl) ?_ hw1; intro K hK; go_big_quiet_op; go_big_quiet_on)
  (refine wpG_val (v := .bool true) rfl rfl (fun u hu => gtZ_op u C6.out rfl rfl) ?_ hw1; intro K hK; go_big_quiet_op; go_big_quiet_on)
  (refine wpG_op rfl rfl rfl ?_; intro K hK; go_big_quiet_op; go_big_quiet_on)
  clear hone hw1
  refine wpG_nil ?_
  intro u3 E2'
  have EX2 := Lib.hid E2'
  clear E2'
  have HBE := Lib.hid (EnvX.bel EX2.out)
  go_wp2
  go_returns
  exact ⟨⟨_, rfl, OwnB.nil _ _⟩, HBE.out⟩
set_option maxRecDepth 20000 in
set_option maxHeartbeats 8000000 in
theorem rhput_main (h : Hd) (w : World) (hh : okHd h) (k0 : 0 ≤ h.height) (k1 : h.height ≤ 1048576) :
    Calls Tryd.prog 11 #[hdV h] w fun e w' => (∃ v, e = .returned (.tuple #[v, .bool (putH h).2]) ∧ OwnB w' w.heap.size v (putH h).1) ∧ Below w.heap.size w w' := by
  have hp : putH h = (bodyH h, true) := by unfold putH mayPut; rw [if_pos (by rw [decide_eq_true_eq]; omega)]
  rw [hp]
  have C2 : Hid (decide (h.height < 0) = false) := decide_eq_false (by omega)
  have C6 : Hid (decide (1048576 < h.height) = false) := decide_eq_false (by omega)
  have HL := Lib.hid hh.len
  have HBL := Lib.hid (body_len hh)
  have HU : Hid (h.height.toNat < 18446744073709551616 ∧ IntKind.u64.wrap h.height = ((h.height.toNat : Nat) : Int)) := by
    rw [IntKind.wrap_u64]
    exact ⟨by omega, by omega⟩
  have HN32 : Hid (h.bits < 18446744073709551616 ∧ IntKind.u64.wrap (h.bits : Int) = ((h.bits : Nat) : Int)) := by
    have := hh.2.2.2.2.2.2.1
    rw [IntKind.wrap_u64]
    exact ⟨by omega, by omega⟩
  have HN64 : Hid (h.nonce < 18446744073709551616) := hh.2.2.2.2.2.2.2
  have HBY : Hid (∀ u, EnvX w u [] → Calls Tryd.prog 33 #[.agg (wcs h.work)] u fun e w' => e = .returned (.agg (arrB 32 (bytesW h.work))) ∧ Below u.heap.size u w') := fun u _ => rbytes_any h.work u
  have HPT : Hid (∀ (n k : Nat), n < 18446744073709551616 → k ≤ 8 → ∀ u, Calls Tryd.prog 34 #[.int .u64 (n : Int), .int .i64 k] u fun e w' => (∃ v, e = .returned v ∧ OwnB w' u.heap.size v (putL n k)) ∧ Below u.heap.size u w') := fun n k hn hk u => rput_any n k u hn hk
  have HZ : Hid ((arrB 32 (bytesW h.work)).size = 32) := arrB_size _ _ (by rw [bytesW_len]; omega)
  have HSW : Hid (((arrB 32 (bytesW h.work)).toList.drop 0).take ((bytesW h.work).map u8v).length = (bytesW h.work).map u8v) := by
    show _ = _
    rw [arrId_map (bytesW_len _), List.drop_zero, List.take_length]
  clear k0 k1 hp
  have E1 : Hid (EnvX w (w.alloc (.cells (hdA h) 29)) [(w.heap.size, Obj.cells (hdA h) 29 (0, 0))]) := (EnvX.start w).new _
  clear hh
  unfold hdV
  go_enter Tryd.func11, Tryd.ntmps11
  go_upto_region 1 with (fail)
  generalize w.alloc (.cells (hdA h) 29) = W at *
  refine wp_region_Hx (w0 := w) [0, 1, 2, 3, 4, 5, 6, 7] [(w.heap.size, Obj.cells (hdA h) 29 (0, 0))] rfl E1.out ?_
  refine lexH_phase [0, 1, 2, 3, 4, 5, 6, 7] [] ?_
  have hw1 : EnvX w _ [(w.heap.size, Obj.cells (hdA h) 29 (0, 0))] := E1.out
  have hone := @EnvC.one _ _ _ hw1
  (refine wpG_op rfl rfl rfl ?_; intro K hK; go_big_quiet_op; go_big_quiet_on)
  (refine wpG_val (v := .int .i64 h.height) rfl rfl (fun u hu => load_any_op u (box_hd_height hu (List.Mem.head _)) rfl) ?_ hw1; intro K hK; go_big_quiet_op; go_big_quiet_on)
  (refine wpG_val (v := .bool false) rfl rfl (fun u hu => ltZ_op u C2.out rfl rfl) ?_ hw1; intro K hK; go_big_quiet_op; go_big_quiet_on)
  (refine wpG_op rfl rfl rfl ?_; intro K hK; go_big_quiet_op; go_big_quiet_on)
  (refine wpG_op rfl rfl rfl ?_; intro K hK; go_big_quiet_op; go_big_quiet_on)
  (refine wpG_val (v := .int .i64 h.height) rfl rfl (fun u hu => load_any_op u (box_hd_height hu (List.Mem.head _)) rfl) ?_ hw1; intro K hK; go_big_quiet_op; go_big_quiet_on)
  (refine wpG_val (v := .bool false) rfl rfl (fun u hu => gtZ_op u C6.out rfl rfl) ?_ hw1; intro K hK; go_big_quiet_op; go_big_quiet_on)
  (refine wpG_op rfl rfl rfl ?_; intro K hK; go_big_quiet_op; go_big_quiet_on)
  clear hone hw1
  refine wpG_nil ?_
  intro u3 E2'
  have EX2 := Lib.hid E2'
  clear E2'
  go_upto_region 3 with (fail)
  refine wp_region_Hx (w0 := w) [0, 1, 2, 3, 4] [(w.heap.size, Obj.cells (hdA h) 29 (0, 0))] rfl EX2.out ?_
  refine lexH_phase [0, 1, 2] [3, 4] ?_
  have hw4 : EnvX w _ [(w.heap.size, Obj.cells (hdA h) 29 (0, 0))] := EX2.out
  have hone := @EnvC.one _ _ _ hw4
  (refine wpG_op rfl rfl rfl ?_; intro K hK; go_big_quiet_op; go_big_quiet_on)
  (refine wpG_val (v := .agg (wcs h.work)) rfl rfl (fun u hu => load_any_op u (box_hd_work hu (List.Mem.head _) HL.out) rfl) ?_ hw4; intro K hK; go_big_quiet_op; go_big_quiet_on)
  (refine wpG_call (f := 33) (args := #[.agg (wcs h.work)]) (v := .agg (arrB 32 (bytesW h.work))) rfl rfl rfl Tryd.func33 rfl rfl (fun u hu => HBY.out u (EnvX.sub hu (fun _ h => by cases h))) ?_ hw4; intro K hK; go_big_quiet_op; go_big_quiet_on)
  clear hone hw4
  refine wpG_nil ?_
  refine (hOp_fresh (R := fun x N => ∃ g, x = .pointer (some ⟨g, 0, none⟩) ∧ N = [(g, Obj.cells (arrB 32 []) 23 (0, 0))]) (M0 := [(w.heap.size, Obj.cells (hdA h) 29 (0, 0))]) rfl rfl (fun _ h => h) (fun u hu => FAt_new (new_id _) u) ?_)
  rintro _ _ ⟨gw, rfl, rfl⟩ hf he5; intro K' hK'; go_big_quiet_op; go_big_quiet_on
  have HGW := Lib.hid (hf _ (List.mem_singleton.2 rfl))
  clear hf
  change lexH _ _ _ _ _ _ [(gw, Obj.cells (arrB 32 []) 23 (0, 0)), (w.heap.size, Obj.cells (hdA h) 29 (0, 0))]
  refine (hOp_store rfl (gw) (arrB 32 (bytesW h.work)) rfl rfl HGW.out.1 23 ((arrB 32 [])) (List.Mem.head _) (info26 _ HZ.out) ((arrB_size _ _ (by simp)).trans HZ.out.symm) (arrB_one _ _) [(gw, Obj.cells (arrB 32 (bytesW h.work)) 23 (0, 0)), (w.heap.size, Obj.cells (hdA h) 29 (0, 0))] (List.forall_mem_cons.2 ⟨.inl rfl, fun y hy => .inr ⟨List.mem_cons_of_mem _ hy, HGW.out.2 y hy⟩⟩) ?_)
  intro he6
  intro u8 E2'
  have EX7 := Lib.hid E2'
  clear E2'
  go_upto_region 4 with (fail)
  refine wp_region_Hx (w0 := w) [0, 1, 2, 3, 4] [(gw, Obj.cells (arrB 32 (bytesW h.work)) 23 (0, 0)), (w.heap.size, Obj.cells (hdA h) 29 (0, 0))] rfl EX7.out ?_
  refine lexH_phase [0, 1, 2] [3, 4] ?_
  have hw9 : EnvX w _ [(gw, Obj.cells (arrB 32 (bytesW h.work)) 23 (0, 0)), (w.heap.size, Obj.cells (hdA h) 29 (0, 0))] := EX7.out
  have hone := @EnvC.one _ _ _ hw9
  (refine wpG_op rfl rfl rfl ?_; intro K hK; go_big_quiet_op; go_big_quiet_on)
  (refine wpG_val (v := .int .i64 h.height) rfl rfl (fun u hu => load_any_op u (box_hd_height hu (List.Mem.tail _ (List.Mem.head _))) rfl) ?_ hw9; intro K hK; go_big_quiet_op; go_big_quiet_on)
  (refine wpG_val (v := .int .u64 ((h.height.toNat : Nat) : Int)) rfl rfl (fun u hu => conv_u64_op u HU.out.2 rfl) ?_ hw9; intro K hK; go_big_quiet_op; go_big_quiet_on)
  clear hone hw9
  refine wpG_nil ?_
  refine (hOp_fresh (R := FreshR 5 1 4 ((putL h.height.toNat 4).map u8v)) (M0 := [(gw, Obj.cells (arrB 32 (bytesW h.work)) 23 (0, 0)), (w.heap.size, Obj.cells (hdA h) 29 (0, 0))]) rfl rfl (fun _ h => h) (fun u hu => FAt_call (fid := 34) (xs := #[.tmp 19, .const (Value.int IntKind.i64 4)]) (args := #[.int .u64 ((h.height.toNat : Nat) : Int), .int .i64 4]) rfl Tryd.func34 rfl rfl u (by have h := callsR_fresh (HPT.out h.height.toNat 4 HU.out.1 (by omega) u); rw [putL_len] at h; exact h)) ?_)
  rintro x N hF hf he10; intro K' hK'; go_big_quiet_op; go_big_quiet_on
  obtain ⟨g0, capg0, curg0, rfl, rfl, hcg0⟩ | ⟨_, _, h0, _⟩ := hF
  case inr => cases h0
  have HCg0 := Lib.hid hcg0
  have HGg0 := Lib.hid (hf _ (List.mem_singleton.2 rfl))
  clear hcg0
  clear hf
  change lexH _ _ _ _ _ _ [(g0, Obj.cells curg0 5 (0, 0)), (gw, Obj.cells (arrB 32 (bytesW h.work)) 23 (0, 0)), (w.heap.size, Obj.cells (hdA h) 29 (0, 0))]
  refine lexH_phase [4] [] ?_
  have hw11 : EnvX w _ [(g0, Obj.cells curg0 5 (0, 0)), (gw, Obj.cells (arrB 32 (bytesW h.work)) 23 (0, 0)), (w.heap.size, Obj.cells (hdA h) 29 (0, 0))] := he10.choose_spec
  have hone := @EnvC.one _ _ _ hw11
  (refine wpG_op rfl rfl rfl ?_; intro K hK; go_big_quiet_op; go_big_quiet_on)
  clear hone hw11
  refine wpG_nil ?_
  intro u13 E2'
  have EX12 := Lib.hid E2'
  clear E2'
  have HP_g0 : Hid ((putL h.height.toNat 4).length = 4) := putL_len _ _
  go_upto_region 5 with (fail)
  refine wp_region_Hx (w0 := w) [0, 1, 2, 3, 4] [(g0, Obj.cells curg0 5 (0, 0)), (gw, Obj.cells (arrB 32 (bytesW h.work)) 23 (0, 0)), (w.heap.size, Obj.cells (hdA h) 29 (0, 0))] rfl EX12.out ?_
  refine lexH_phase [0, 1, 2] [3, 4] ?_
  have hw14 : EnvX w _ [(g0, Obj.cells curg0 5 (0, 0)), (gw, Obj.cells (arrB 32 (bytesW h.work)) 23 (0, 0)), (w.heap.size, Obj.cells (hdA h) 29 (0, 0))] := EX12.out
  have hone := @EnvC.one _ _ _ hw14
  (refine wpG_op rfl rfl rfl ?_; intro K hK; go_big_quiet_op; go_big_quiet_on)
  (refine wpG_op rfl rfl rfl ?_; intro K hK; go_big_quiet_op; go_big_quiet_on)
  (refine wpG_val (v := .slice (some ⟨w.heap.size, 1, none⟩) 32 32) rfl rfl (fun u hu => sliceArr_op u rfl) ?_ hw14; intro K hK; go_big_quiet_op; go_big_quiet_on)
  clear hone hw14
  refine wpG_nil ?_
  refine (hOp_own (gd := none) (R := GrownR w 5 1 (4 + 32) ((putL h.height.toNat 4).map u8v ++ (h.prev).map u8v) [(gw, Obj.cells (arrB 32 (bytesW h.work)) 23 (0, 0)), (w.heap.size, Obj.cells (hdA h) 29 (0, 0))]) rfl rfl rfl rfl (fun u hu => appX_op elB [(gw, Obj.cells (arrB 32 (bytesW h.work)) 23 (0, 0)), (w.heap.size, Obj.cells (hdA h) 29 (0, 0))] hu (by rw [List.length_map, HP_g0.out]) (by rw [List.length_map, HL.out.1]) u8_one (.inl ⟨g0, capg0, curg0, rfl, rfl, HCg0.out⟩) (List.forall_mem_cons.2 ⟨⟨(List.Mem.head _), HGg0.out.1⟩, (fun _ h => by cases h)⟩) (src_box hu (List.Mem.tail _ (List.Mem.tail _ (List.Mem.head _))) (src_hd_prev HL.out)) (List.forall_mem_cons.2 ⟨⟨(List.Mem.tail _ (List.Mem.head _)), fun y hy => by cases List.mem_singleton.1 hy; exact HGg0.out.2 _ (List.Mem.head _)⟩, (List.forall_mem_cons.2 ⟨⟨(List.Mem.tail _ (List.Mem.tail _ (List.Mem.head _))), fun y hy => by cases List.mem_singleton.1 hy; exact HGg0.out.2 _ (List.Mem.tail _ (List.Mem.head _))⟩, (fun _ h => by cases h)⟩)⟩) (by omega) rfl rfl) ?_)
  rintro x M' ⟨N, rfl, hF, hn⟩ he15; intro K' hK'; go_big_quiet_op; go_big_quiet_on
  obtain ⟨g1, capg1, curg1, rfl, rfl, hcg1⟩ | ⟨_, _, h0, _⟩ := hF
  case inr => omega
  rw [← List.map_append] at hcg1
  have HCg1 := Lib.hid hcg1
  have HGg1 := Lib.hid (hn _ (List.mem_singleton.2 rfl))
  clear hcg1 hn
  change lexH _ _ _ _ _ _ [(g1, Obj.cells curg1 5 (0, 0)), (gw, Obj.cells (arrB 32 (bytesW h.work)) 23 (0, 0)), (w.heap.size, Obj.cells (hdA h) 29 (0, 0))]
  refine lexH_phase [4] [] ?_
  have hw16 : EnvX w _ [(g1, Obj.cells curg1 5 (0, 0)), (gw, Obj.cells (arrB 32 (bytesW h.work)) 23 (0, 0)), (w.heap.size, Obj.cells (hdA h) 29 (0, 0))] := he15.choose_spec
  have hone := @EnvC.one _ _ _ hw16
  (refine wpG_op rfl rfl rfl ?_; intro K hK; go_big_quiet_op; go_big_quiet_on)
  clear hone hw16
  refine wpG_nil ?_
  intro u18 E2'
  have EX17 := Lib.hid E2'
  clear E2'
  have HP_g1 : Hid (((putL h.height.toNat 4) ++ (h.prev)).length = 36) := by show _ = _; rw [List.length_append, HP_g0.out, HL.out.1]
  go_upto_region 6 with (fail)
  refine wp_region_Hx (w0 := w) [0, 1, 2, 3, 4] [(g1, Obj.cells curg1 5 (0, 0)), (gw, Obj.cells (arrB 32 (bytesW h.work)) 23 (0, 0)), (w.heap.size, Obj.cells (hdA h) 29 (0, 0))] rfl EX17.out ?_
  refine lexH_phase [0, 1, 2] [3, 4] ?_
  have hw19 : EnvX w _ [(g1, Obj.cells curg1 5 (0, 0)), (gw, Obj.cells (arrB 32 (bytesW h.work)) 23 (0, 0)), (w.heap.size, Obj.cells (hdA h) 29 (0, 0))] := EX17.out
  have hone := @EnvC.one _ _ _ hw19
  (refine wpG_op rfl rfl rfl ?_; intro K hK; go_big_quiet_op; go_big_quiet_on)
  (refine wpG_op rfl rfl rfl ?_; intro K hK; go_big_quiet_op; go_big_quiet_on)
  (refine wpG_val (v := .slice (some ⟨w.heap.size, 33, none⟩) 32 32) rfl rfl (fun u hu => sliceArr_op u rfl) ?_ hw19; intro K hK; go_big_quiet_op; go_big_quiet_on)
  clear hone hw19
  refine wpG_nil ?_
  refine (hOp_own (gd := none) (R := GrownR w 5 1 (36 + 32) (((putL h.height.toNat 4 ++ h.prev)).map u8v ++ (h.links).map u8v) [(gw, Obj.cells (arrB 32 (bytesW h.work)) 23 (0, 0)), (w.heap.size, Obj.cells (hdA h) 29 (0, 0))]) rfl rfl rfl rfl (fun u hu => appX_op elB [(gw, Obj.cells (arrB 32 (bytesW h.work)) 23 (0, 0)), (w.heap.size, Obj.cells (hdA h) 29 (0, 0))] hu (by rw [List.length_map, HP_g1.out]) (by rw [List.length_map, HL.out.2.1]) u8_one (.inl ⟨g1, capg1, curg1, rfl, rfl, HCg1.out⟩) (List.forall_mem_cons.2 ⟨⟨(List.Mem.head _), HGg1.out.1⟩, (fun _ h => by cases h)⟩) (src_box hu (List.Mem.tail _ (List.Mem.tail _ (List.Mem.head _))) (src_hd_links HL.out)) (List.forall_mem_cons.2 ⟨⟨(List.Mem.tail _ (List.Mem.head _)), fun y hy => by cases List.mem_singleton.1 hy; exact HGg1.out.2 _ (List.Mem.head _)⟩, (List.forall_mem_cons.2 ⟨⟨(List.Mem.tail _ (List.Mem.tail _ (List.Mem.head _))), fun y hy => by cases List.mem_singleton.1 hy; exact HGg1.out.2 _ (List.Mem.tail _ (List.Mem.head _))⟩, (fun _ h => by cases h)⟩)⟩) (by omega) rfl rfl) ?_)
  rintro x M' ⟨N, rfl, hF, hn⟩ he20; intro K' hK'; go_big_quiet_op; go_big_quiet_on
  obtain ⟨g2, capg2, curg2, rfl, rfl, hcg2⟩ | ⟨_, _, h0, _⟩ := hF
  case inr => omega
  rw [← List.map_append] at hcg2
  have HCg2 := Lib.hid hcg2
  have HGg2 := Lib.hid (hn _ (List.mem_singleton.2 rfl))
  clear hcg2 hn
  change lexH _ _ _ _ _ _ [(g2, Obj.cells curg2 5 (0, 0)), (gw, Obj.cells (arrB 32 (bytesW h.work)) 23 (0, 0)), (w.heap.size, Obj.cells (hdA h) 29 (0, 0))]
  refine lexH_phase [4] [] ?_
  have hw21 : EnvX w _ [(g2, Obj.cells curg2 5 (0, 0)), (gw, Obj.cells (arrB 32 (bytesW h.work)) 23 (0, 0)), (w.heap.size, Obj.cells (hdA h) 29 (0, 0))] := he20.choose_spec
  have hone := @EnvC.one _ _ _ hw21
  (refine wpG_op rfl rfl rfl ?_; intro K hK; go_big_quiet_op; go_big_quiet_on)
  clear hone hw21
  refine wpG_nil ?_
  intro u23 E2'
  have EX22 := Lib.hid E2'
  clear E2'
  have HP_g2 : Hid ((((putL h.height.toNat 4 ++ h.prev)) ++ (h.links)).length = 68) := by show _ = _; rw [List.length_append, HP_g1.out, HL.out.2.1]
  go_upto_region 7 with (fail)
  refine wp_region_Hx (w0 := w) [0, 1, 2, 3, 4] [(g2, Obj.cells curg2 5 (0, 0)), (gw, Obj.cells (arrB 32 (bytesW h.work)) 23 (0, 0)), (w.heap.size, Obj.cells (hdA h) 29 (0, 0))] rfl EX22.out ?_
  refine lexH_phase [0, 1, 2] [3, 4] ?_
  have hw24 : EnvX w _ [(g2, Obj.cells curg2 5 (0, 0)), (gw, Obj.cells (arrB 32 (bytesW h.work)) 23 (0, 0)), (w.heap.size, Obj.cells (hdA h) 29 (0, 0))] := EX22.out
  have hone := @EnvC.one _ _ _ hw24
  (refine wpG_op rfl rfl rfl ?_; intro K hK; go_big_quiet_op; go_big_quiet_on)
  (refine wpG_op rfl rfl rfl ?_; intro K hK; go_big_quiet_op; go_big_quiet_on)
  (refine wpG_val (v := .slice (some ⟨w.heap.size, 65, none⟩) 32 32) rfl rfl (fun u hu => sliceArr_op u rfl) ?_ hw24; intro K hK; go_big_quiet_op; go_big_quiet_on)
  clear hone hw24
  refine wpG_nil ?_
  refine (hOp_own (gd := none) (R := GrownR w 5 1 (68 + 32) ((((putL h.height.toNat 4 ++ h.prev) ++ h.links)).map u8v ++ (h.txs).map u8v) [(gw, Obj.cells (arrB 32 (bytesW h.work)) 23 (0, 0)), (w.heap.size, Obj.cells (hdA h) 29 (0, 0))]) rfl rfl rfl rfl (fun u hu => appX_op elB [(gw, Obj.cells (arrB 32 (bytesW h.work)) 23 (0, 0)), (w.heap.size, Obj.cells (hdA h) 29 (0, 0))] hu (by rw [List.length_map, HP_g2.out]) (by rw [List.length_map, HL.out.2.2.1]) u8_one (.inl ⟨g2, capg2, curg2, rfl, rfl, HCg2.out⟩) (List.forall_mem_cons.2 ⟨⟨(List.Mem.head _), HGg2.out.1⟩, (fun _ h => by cases h)⟩) (src_box hu (List.Mem.tail _ (List.Mem.tail _ (List.Mem.head _))) (src_hd_txs HL.out)) (List.forall_mem_cons.2 ⟨⟨(List.Mem.tail _ (List.Mem.head _)), fun y hy => by cases List.mem_singleton.1 hy; exact HGg2.out.2 _ (List.Mem.head _)⟩, (List.forall_mem_cons.2 ⟨⟨(List.Mem.tail _ (List.Mem.tail _ (List.Mem.head _))), fun y hy => by cases List.mem_singleton.1 hy; exact HGg2.out.2 _ (List.Mem.tail _ (List.Mem.head _))⟩, (fun _ h => by cases h)⟩)⟩) (by omega) rfl rfl) ?_)
  rintro x M' ⟨N, rfl, hF, hn⟩ he25; intro K' hK'; go_big_quiet_op; go_big_quiet_on
  obtain ⟨g3, capg3, curg3, rfl, rfl, hcg3⟩ | ⟨_, _, h0, _⟩ := hF
  case inr => omega
  rw [← List.map_append] at hcg3
  have HCg3 := Lib.hid hcg3
  have HGg3 := Lib.hid (hn _ (List.mem_singleton.2 rfl))
  clear hcg3 hn
  change lexH _ _ _ _ _ _ [(g3, Obj.cells curg3 5 (0, 0)), (gw, Obj.cells (arrB 32 (bytesW h.work)) 23 (0, 0)), (w.heap.size, Obj.cells (hdA h) 29 (0, 0))]
  refine lexH_phase [4] [] ?_
  have hw26 : EnvX w _ [(g3, Obj.cells curg3 5 (0, 0)), (gw, Obj.cells (arrB 32 (bytesW h.work)) 23 (0, 0)), (w.heap.size, Obj.cells (hdA h) 29 (0, 0))] := he25.choose_spec
  have hone := @EnvC.one _ _ _ hw26
  (refine wpG_op rfl rfl rfl ?_; intro K hK; go_big_quiet_op; go_big_quiet_on)
  clear hone hw26
  refine wpG_nil ?_
  intro u28 E2'
  have EX27 := Lib.hid E2'
  clear E2'
  have HP_g3 : Hid (((((putL h.height.toNat 4 ++ h.prev) ++ h.links)) ++ (h.txs)).length = 100) := by show _ = _; rw [List.length_append, HP_g2.out, HL.out.2.2.1]
  go_upto_region 8 with (fail)
  refine wp_region_Hx (w0 := w) [0, 1, 2, 3, 4] [(g3, Obj.cells curg3 5 (0, 0)), (gw, Obj.cells (arrB 32 (bytesW h.work)) 23 (0, 0)), (w.heap.size, Obj.cells (hdA h) 29 (0, 0))] rfl EX27.out ?_
  refine lexH_phase [0, 1, 2] [3, 4] ?_
  have hw29 : EnvX w _ [(g3, Obj.cells curg3 5 (0, 0)), (gw, Obj.cells (arrB 32 (bytesW h.work)) 23 (0, 0)), (w.heap.size, Obj.cells (hdA h) 29 (0, 0))] := EX27.out
  have hone := @EnvC.one _ _ _ hw29
  (refine wpG_op rfl rfl rfl ?_; intro K hK; go_big_quiet_op; go_big_quiet_on)
  (refine wpG_op rfl rfl rfl ?_; intro K hK; go_big_quiet_op; go_big_quiet_on)
  (refine wpG_val (v := .slice (some ⟨w.heap.size, 97, none⟩) 32 32) rfl rfl (fun u hu => sliceArr_op u rfl) ?_ hw29; intro K hK; go_big_quiet_op; go_big_quiet_on)
  clear hone hw29
  refine wpG_nil ?_
  refine (hOp_own (gd := none) (R := GrownR w 5 1 (100 + 32) (((((putL h.height.toNat 4 ++ h.prev) ++ h.links) ++ h.txs)).map u8v ++ (h.past).map u8v) [(gw, Obj.cells (arrB 32 (bytesW h.work)) 23 (0, 0)), (w.heap.size, Obj.cells (hdA h) 29 (0, 0))]) rfl rfl rfl rfl (fun u hu => appX_op elB [(gw, Obj.cells (arrB 32 (bytesW h.work)) 23 (0, 0)), (w.heap.size, Obj.cells (hdA h) 29 (0, 0))] hu (by rw [List.length_map, HP_g3.out]) (by rw [List.length_map, HL.out.2.2.2]) u8_one (.inl ⟨g3, capg3, curg3, rfl, rfl, HCg3.out⟩) (List.forall_mem_cons.2 ⟨⟨(List.Mem.head _), HGg3.out.1⟩, (fun _ h => by cases h)⟩) (src_box hu (List.Mem.tail _ (List.Mem.tail _ (List.Mem.head _))) (src_hd_past HL.out)) (List.forall_mem_cons.2 ⟨⟨(List.Mem.tail _ (List.Mem.head _)), fun y hy => by cases List.mem_singleton.1 hy; exact HGg3.out.2 _ (List.Mem.head _)⟩, (List.forall_mem_cons.2 ⟨⟨(List.Mem.tail _ (List.Mem.tail _ (List.Mem.head _))), fun y hy => by cases List.mem_singleton.1 hy; exact HGg3.out.2 _ (List.Mem.tail _ (List.Mem.head _))⟩, (fun _ h => by cases h)⟩)⟩) (by omega) rfl rfl) ?_)
  rintro x M' ⟨N, rfl, hF, hn⟩ he30; intro K' hK'; go_big_quiet_op; go_big_quiet_on
  obtain ⟨g4, capg4, curg4, rfl, rfl, hcg4⟩ | ⟨_, _, h0, _⟩ := hF
  case inr => omega
  rw [← List.map_append] at hcg4
  have HCg4 := Lib.hid hcg4
  have HGg4 := Lib.hid (hn _ (List.mem_singleton.2 rfl))
  clear hcg4 hn
  change lexH _ _ _ _ _ _ [(g4, Obj.cells curg4 5 (0, 0)), (gw, Obj.cells (arrB 32 (bytesW h.work)) 23 (0, 0)), (w.heap.size, Obj.cells (hdA h) 29 (0, 0))]
  refine lexH_phase [4] [] ?_
  have hw31 : EnvX w _ [(g4, Obj.cells curg4 5 (0, 0)), (gw, Obj.cells (arrB 32 (bytesW h.work)) 23 (0, 0)), (w.heap.size, Obj.cells (hdA h) 29 (0, 0))] := he30.choose_spec
  have hone := @EnvC.one _ _ _ hw31
  (refine wpG_op rfl rfl rfl ?_; intro K hK; go_big_quiet_op; go_big_quiet_on)
  clear hone hw31
  refine wpG_nil ?_
  intro u33 E2'
  have EX32 := Lib.hid E2'
  clear E2'
  have HP_g4 : Hid ((((((putL h.height.toNat 4 ++ h.prev) ++ h.links) ++ h.txs)) ++ (h.past)).length = 132) := by show _ = _; rw [List.length_append, HP_g3.out, HL.out.2.2.2]
  go_upto_region 9 with (fail)
  refine wp_region_Hx (w0 := w) [0, 1, 2, 3] [(g4, Obj.cells curg4 5 (0, 0)), (gw, Obj.cells (arrB 32 (bytesW h.work)) 23 (0, 0)), (w.heap.size, Obj.cells (hdA h) 29 (0, 0))] rfl EX32.out ?_
  refine lexH_phase [0, 1] [2, 3] ?_
  have hw34 : EnvX w _ [(g4, Obj.cells curg4 5 (0, 0)), (gw, Obj.cells (arrB 32 (bytesW h.work)) 23 (0, 0)), (w.heap.size, Obj.cells (hdA h) 29 (0, 0))] := EX32.out
  have hone := @EnvC.one _ _ _ hw34
  (refine wpG_op rfl rfl rfl ?_; intro K hK; go_big_quiet_op; go_big_quiet_on)
  (refine wpG_val (v := .slice (some ⟨gw, 0, none⟩) 32 32) rfl rfl (fun u hu => sliceArr_op u rfl) ?_ hw34; intro K hK; go_big_quiet_op; go_big_quiet_on)
  clear hone hw34
  refine wpG_nil ?_
  refine (hOp_own (gd := none) (R := GrownR w 5 1 (132 + 32) ((((((putL h.height.toNat 4 ++ h.prev) ++ h.links) ++ h.txs) ++ h.past)).map u8v ++ (bytesW h.work).map u8v) [(w.heap.size, Obj.cells (hdA h) 29 (0, 0))]) rfl rfl rfl rfl (fun u hu => appX_op elB [(w.heap.size, Obj.cells (hdA h) 29 (0, 0))] hu (by rw [List.length_map, HP_g4.out]) (by rw [List.length_map, bytesW_len]) u8_one (.inl ⟨g4, capg4, curg4, rfl, rfl, HCg4.out⟩) (List.forall_mem_cons.2 ⟨⟨(List.Mem.head _), HGg4.out.1⟩, (fun _ h => by cases h)⟩) (src_box hu (List.Mem.tail _ (List.Mem.head _)) HSW.out) (List.forall_mem_cons.2 ⟨⟨(List.Mem.tail _ (List.Mem.tail _ (List.Mem.head _))), fun y hy => by cases List.mem_singleton.1 hy; exact HGg4.out.2 _ (List.Mem.tail _ (List.Mem.head _))⟩, (fun _ h => by cases h)⟩) (by omega) rfl rfl) ?_)
  rintro x M' ⟨N, rfl, hF, hn⟩ he35; intro K' hK'; go_big_quiet_op; go_big_quiet_on
  obtain ⟨g5, capg5, curg5, rfl, rfl, hcg5⟩ | ⟨_, _, h0, _⟩ := hF
  case inr => omega
  rw [← List.map_append] at hcg5
  have HCg5 := Lib.hid hcg5
  have HGg5 := Lib.hid (hn _ (List.mem_singleton.2 rfl))
  clear hcg5 hn
  change lexH _ _ _ _ _ _ [(g5, Obj.cells curg5 5 (0, 0)), (w.heap.size, Obj.cells (hdA h) 29 (0, 0))]
  refine lexH_phase [3] [] ?_
  have hw36 : EnvX w _ [(g5, Obj.cells curg5 5 (0, 0)), (w.heap.size, Obj.cells (hdA h) 29 (0, 0))] := he35.choose_spec
  have hone := @EnvC.one _ _ _ hw36
  (refine wpG_op rfl rfl rfl ?_; intro K hK; go_big_quiet_op; go_big_quiet_on)
  clear hone hw36
  refine wpG_nil ?_
  intro u38 E2'
  have EX37 := Lib.hid E2'
  clear E2'
  have HP_g5 : Hid (((((((putL h.height.toNat 4 ++ h.prev) ++ h.links) ++ h.txs) ++ h.past)) ++ (bytesW h.work)).length = 164) := by show _ = _; rw [List.length_append, HP_g4.out, bytesW_len]
  go_upto_region 10 with (fail)
  refine wp_region_Hx (w0 := w) [0, 1, 2, 3, 4, 5, 6] [(g5, Obj.cells curg5 5 (0, 0)), (w.heap.size, Obj.cells (hdA h) 29 (0, 0))] rfl EX37.out ?_
  refine lexH_phase [0, 1, 2, 3] [4, 5, 6] ?_
  have hw39 : EnvX w _ [(g5, Obj.cells curg5 5 (0, 0)), (w.heap.size, Obj.cells (hdA h) 29 (0, 0))] := EX37.out
  have hone := @EnvC.one _ _ _ hw39
  (refine wpG_op rfl rfl rfl ?_; intro K hK; go_big_quiet_op; go_big_quiet_on)
  (refine wpG_op rfl rfl rfl ?_; intro K hK; go_big_quiet_op; go_big_quiet_on)
  (refine wpG_val (v := .int .u32 (h.bits : Int)) rfl rfl (fun u hu => load_any_op u (box_hd_bits hu (List.Mem.tail _ (List.Mem.head _)) HL.out) rfl) ?_ hw39; intro K hK; go_big_quiet_op; go_big_quiet_on)
  (refine wpG_val (v := .int .u64 ((h.bits : Nat) : Int)) rfl rfl (fun u hu => conv32_op u HN32.out.2 rfl) ?_ hw39; intro K hK; go_big_quiet_op; go_big_quiet_on)
  clear hone hw39
  refine wpG_nil ?_
  refine (hOp_fresh (R := FreshR 5 1 4 ((putL h.bits 4).map u8v)) (M0 := [(g5, Obj.cells curg5 5 (0, 0)), (w.heap.size, Obj.cells (hdA h) 29 (0, 0))]) rfl rfl (fun _ h => h) (fun u hu => FAt_call (fid := 34) (xs := #[.tmp 43, .const (Value.int IntKind.i64 4)]) (args := #[.int .u64 ((h.bits : Nat) : Int), .int .i64 4]) rfl Tryd.func34 rfl rfl u (by have h := callsR_fresh (HPT.out h.bits 4 HN32.out.1 (by omega) u); rw [putL_len] at h; exact h)) ?_)
  rintro x N hF hf he40; intro K' hK'; go_big_quiet_op; go_big_quiet_on
  obtain ⟨gp, capgp, curgp, rfl, rfl, hcgp⟩ | ⟨_, _, h0, _⟩ := hF
  case inr => cases h0
  have HCgp := Lib.hid hcgp
  have HGgp := Lib.hid (hf _ (List.mem_singleton.2 rfl))
  clear hcgp
  clear hf
  change lexH _ _ _ _ _ _ [(gp, Obj.cells curgp 5 (0, 0)), (g5, Obj.cells curg5 5 (0, 0)), (w.heap.size, Obj.cells (hdA h) 29 (0, 0))]
  refine (hOp_own (gd := none) (R := GrownR w 5 1 (164 + 4) (((((((putL h.height.toNat 4 ++ h.prev) ++ h.links) ++ h.txs) ++ h.past) ++ bytesW h.work)).map u8v ++ (putL h.bits 4).map u8v) [(w.heap.size, Obj.cells (hdA h) 29 (0, 0))]) rfl rfl rfl rfl (fun u hu => appX_op elB [(w.heap.size, Obj.cells (hdA h) 29 (0, 0))] hu (by rw [List.length_map, HP_g5.out]) (by rw [List.length_map, putL_len]) u8_one (.inl ⟨g5, capg5, curg5, rfl, rfl, HCg5.out⟩) (List.forall_mem_cons.2 ⟨⟨(List.Mem.tail _ (List.Mem.head _)), HGg5.out.1⟩, (fun _ h => by cases h)⟩) (src_box hu (List.Mem.head _) (by rw [List.drop_zero, List.length_map, putL_len]; exact HCgp.out.2.2.2)) (List.forall_mem_cons.2 ⟨⟨(List.Mem.tail _ (List.Mem.tail _ (List.Mem.head _))), fun y hy => by cases List.mem_singleton.1 hy; exact HGg5.out.2 _ (List.Mem.head _)⟩, (fun _ h => by cases h)⟩) (by omega) rfl rfl) ?_)
  rintro x M' ⟨N, rfl, hF, hn⟩ he41; intro K' hK'; go_big_quiet_op; go_big_quiet_on
  obtain ⟨g6, capg6, curg6, rfl, rfl, hcg6⟩ | ⟨_, _, h0, _⟩ := hF
  case inr => omega
  rw [← List.map_append] at hcg6
  have HCg6 := Lib.hid hcg6
  have HGg6 := Lib.hid (hn _ (List.mem_singleton.2 rfl))
  clear hcg6 hn
  change lexH _ _ _ _ _ _ [(g6, Obj.cells curg6 5 (0, 0)), (w.heap.size, Obj.cells (hdA h) 29 (0, 0))]
  refine lexH_phase [6] [] ?_
  have hw42 : EnvX w _ [(g6, Obj.cells curg6 5 (0, 0)), (w.heap.size, Obj.cells (hdA h) 29 (0, 0))] := he41.choose_spec
  have hone := @EnvC.one _ _ _ hw42
  (refine wpG_op rfl rfl rfl ?_; intro K hK; go_big_quiet_op; go_big_quiet_on)
  clear hone hw42
  refine wpG_nil ?_
  intro u44 E2'
  have EX43 := Lib.hid E2'
  clear E2'
  have HP_g6 : Hid ((((((((putL h.height.toNat 4 ++ h.prev) ++ h.links) ++ h.txs) ++ h.past) ++ bytesW h.work)) ++ (putL h.bits 4)).length = 168) := by show _ = _; rw [List.length_append, HP_g5.out, putL_len]
  go_upto_region 11 with (fail)
  refine wp_region_Hx (w0 := w) [0, 1, 2, 3, 4, 5, 6] [(g6, Obj.cells curg6 5 (0, 0)), (w.heap.size, Obj.cells (hdA h) 29 (0, 0))] rfl EX43.out ?_
  refine lexH_phase [0, 1, 2] [3, 4, 5, 6] ?_
  have hw45 : EnvX w _ [(g6, Obj.cells curg6 5 (0, 0)), (w.heap.size, Obj.cells (hdA h) 29 (0, 0))] := EX43.out
  have hone := @EnvC.one _ _ _ hw45
  (refine wpG_op rfl rfl rfl ?_; intro K hK; go_big_quiet_op; go_big_quiet_on)
  (refine wpG_op rfl rfl rfl ?_; intro K hK; go_big_quiet_op; go_big_quiet_on)
  (refine wpG_val (v := .int .u64 (h.nonce : Int)) rfl rfl (fun u hu => load_any_op u (box_hd_nonce hu (List.Mem.tail _ (List.Mem.head _)) HL.out) rfl) ?_ hw45; intro K hK; go_big_quiet_op; go_big_quiet_on)
  clear hone hw45
  refine wpG_nil ?_
  refine (hOp_fresh (R := FreshR 5 1 8 ((putL h.nonce 8).map u8v)) (M0 := [(g6, Obj.cells curg6 5 (0, 0)), (w.heap.size, Obj.cells (hdA h) 29 (0, 0))]) rfl rfl (fun _ h => h) (fun u hu => FAt_call (fid := 34) (xs := #[.tmp 48, .const (Value.int IntKind.i64 8)]) (args := #[.int .u64 ((h.nonce : Nat) : Int), .int .i64 8]) rfl Tryd.func34 rfl rfl u (by have h := callsR_fresh (HPT.out h.nonce 8 HN64.out (by omega) u); rw [putL_len] at h; exact h)) ?_)
  rintro x N hF hf he46; intro K' hK'; go_big_quiet_op; go_big_quiet_on
  obtain ⟨gq, capgq, curgq, rfl, rfl, hcgq⟩ | ⟨_, _, h0, _⟩ := hF
  case inr => cases h0
  have HCgq := Lib.hid hcgq
  have HGgq := Lib.hid (hf _ (List.mem_singleton.2 rfl))
  clear hcgq
  clear hf
  change lexH _ _ _ _ _ _ [(gq, Obj.cells curgq 5 (0, 0)), (g6, Obj.cells curg6 5 (0, 0)), (w.heap.size, Obj.cells (hdA h) 29 (0, 0))]
  refine (hOp_own (gd := none) (R := GrownR w 5 1 (168 + 8) ((((((((putL h.height.toNat 4 ++ h.prev) ++ h.links) ++ h.txs) ++ h.past) ++ bytesW h.work) ++ putL h.bits 4)).map u8v ++ (putL h.nonce 8).map u8v) []) rfl rfl rfl rfl (fun u hu => appX_op elB [] hu (by rw [List.length_map, HP_g6.out]) (by rw [List.length_map, putL_len]) u8_one (.inl ⟨g6, capg6, curg6, rfl, rfl, HCg6.out⟩) (List.forall_mem_cons.2 ⟨⟨(List.Mem.tail _ (List.Mem.head _)), HGg6.out.1⟩, (fun _ h => by cases h)⟩) (src_box hu (List.Mem.head _) (by rw [List.drop_zero, List.length_map, putL_len]; exact HCgq.out.2.2.2)) (fun _ h => by cases h) (by omega) rfl rfl) ?_)
  rintro x M' ⟨N, rfl, hF, hn⟩ he47; intro K' hK'; go_big_quiet_op; go_big_quiet_on
  obtain ⟨g7, capg7, curg7, rfl, rfl, hcg7⟩ | ⟨_, _, h0, _⟩ := hF
  case inr => omega
  rw [← List.map_append] at hcg7
  have HCg7 := Lib.hid hcg7
  have HGg7 := Lib.hid (hn _ (List.mem_singleton.2 rfl))
  clear hcg7 hn
  change lexH _ _ _ _ _ _ [(g7, Obj.cells curg7 5 (0, 0))]
  refine lexH_phase [5, 6] [] ?_
  have hw48 : EnvX w _ [(g7, Obj.cells curg7 5 (0, 0))] := he47.choose_spec
  have hone := @EnvC.one _ _ _ hw48
  (refine wpG_op rfl rfl rfl ?_; intro K hK; go_big_quiet_op; go_big_quiet_on)
  (refine wpG_op rfl rfl rfl ?_; intro K hK; go_big_quiet_op; go_big_quiet_on)
  clear hone hw48
  refine wpG_nil ?_
  intro u50 E2'
  have EX49 := Lib.hid E2'
  clear E2'
  have HP_g7 : Hid (((((((((putL h.height.toNat 4 ++ h.prev) ++ h.links) ++ h.txs) ++ h.past) ++ bytesW h.work) ++ putL h.bits 4)) ++ (putL h.nonce 8)).length = 176) := by show _ = _; rw [List.length_append, HP_g6.out, putL_len]
  go_wp2
  go_returns
  refine ⟨⟨_, rfl, ?_⟩, EnvX.bel EX49.out⟩
  unfold OwnB
  rw [HBL.out]
  refine ⟨by rw [List.length_map, HBL.out], .inr ⟨g7, capg7, curg7, rfl, HGg7.out.1, EnvX.box EX49.out _ _ (List.Mem.head _), HCg7.out.1, HCg7.out.2.1, HCg7.out.2.2.1, ?_⟩⟩
  rw [HCg7.out.2.2.2]
  unfold bodyH
  simp only [List.map_append, List.append_assoc]
theorem rhput_any (h : Hd) (w : World) (hh : okHd h) :
    Calls Tryd.prog 11 #[hdV h] w fun e w' => (∃ v, e = .returned (.tuple #[v, .bool (putH h).2]) ∧ OwnB w' w.heap.size v (putH h).1) ∧ Below w.heap.size w w' := by
  by_cases k0 : h.height < 0
  · exact rhput_neg h w hh k0
  · by_cases k1 : 1048576 < h.height
    · exact rhput_over h w hh k1
    · exact rhput_main h w hh (by omega) (by omega)
end Go.Proofs.YtmpjgfecnnefeaaDoor

namespace Go.Proofs.YtmpjgfecnnefeaaDoor
set_option maxRecDepth 8000
open Go.RowKit

section
variable {a : Act} {dst : Option Tmp} {x y : Operand} {ty : TypeId} {pos : String} {after : Array Edge} {gd : Option (Nat × Bool)}
theorem gtU_op {m k : Int} {b : Bool} (u : World) (hb : decide (k < m) = b) (hx : a.eval x = .int .u64 m) (hy : a.eval y = .int .u64 k) :
    (execOp a.eval ⟨dst, .binOp .gtr 24 x y 24, ty, pos, after, gd⟩).run Tryd.prog u = .ok (.value (.bool b)) u := by
  subst hb
  unfold execOp
  simp only [hx, hy]
  go_simp
end
set_option maxRecDepth 20000 in
set_option maxHeartbeats 8000000 in
theorem rread_size (A : Option Addr) (n c : Nat) (xs : List Int) (w : World) (hl : xs.length = n) (hc : n ≤ c) (hn : c ≤ maxLen) (hB : isB xs) (hx : Bytes w w.heap.size A xs) (k : n ≠ 176) :
    Calls Tryd.prog 13 #[.slice A n c] w fun e w' => e = .returned (.tuple #[hdV (readH xs).1, .bool (readH xs).2]) ∧ Below w.heap.size w w' := by
  have hp : readH xs = (noHd, false) := by unfold readH mayRead; rw [if_neg (by rw [decide_eq_true_eq]; omega)]
  rw [hp]
  have C1 : Hid (decide ((n : Int) ≠ 176) = true) := decide_eq_true (by omega)
  clear k hp
  have HX := Lib.hid (And.intro hx hB)
  have HL := Lib.hid (And.intro hl (And.intro hc hn))
  have HN9 : Hid (n < 9223372036854775808) := by unfold maxLen at hn; show n < _; omega
  have HLE : Hid (w.heap.size ≤ w.heap.size) := Nat.le_refl _
  have HZN : Hid (lenH noHd) := ⟨rfl, rfl, rfl, rfl⟩
  have E1 : Hid (EnvX w (w.alloc (.cells (hdA noHd) 29)) [(w.heap.size, Obj.cells (hdA noHd) 29 (0, 0))]) := (EnvX.start w).new _
  clear hl hc hB hx
  unfold maxLen at hn
  unfold hdV
  go_enter Tryd.func13, Tryd.ntmps13
  go_upto_region 1 with (fail)
  rw [← zero_hdA]
  generalize w.alloc (.cells (hdA noHd) 29) = W at *
  refine wp_region_Hx (w0 := w) [0, 1, 2] [(w.heap.size, Obj.cells (hdA noHd) 29 (0, 0))] rfl E1.out ?_
  refine lexH_phase [0, 1, 2] [] ?_
  have hw1 : EnvX w _ [(w.heap.size, Obj.cells (hdA noHd) 29 (0, 0))] := E1.out
  have hone := @EnvC.one _ _ _ hw1
  (refine wpG_op rfl rfl rfl ?_; intro K hK; go_big_quiet_op; go_big_quiet_on)
  (refine wpG_val (v := .int .i64 (n : Int)) rfl rfl (fun u hu => len_op Tryd.underlying30 HN9.out u rfl) ?_ hw1; intro K hK; go_big_quiet_op; go_big_quiet_on)
  (refine wpG_val (v := .bool true) rfl rfl (fun u hu => neZ_op u C1.out rfl rfl) ?_ hw1; intro K hK; go_big_quiet_op; go_big_quiet_on)
  clear hone hw1
  refine wpG_nil ?_
  intro u3 E2'
  have EX2 := Lib.hid E2'
  clear E2'
  go_upto_region 2 with (fail)
  refine wp_region_Hx (w0 := w) [0, 1, 2] [(w.heap.size, Obj.cells (hdA noHd) 29 (0, 0))] rfl EX2.out ?_
  refine lexH_phase [0] [1, 2] ?_
  have hw4 : EnvX w _ [(w.heap.size, Obj.cells (hdA noHd) 29 (0, 0))] := EX2.out
  have hone := @EnvC.one _ _ _ hw4
  (refine wpG_val (v := .agg (hdA noHd)) rfl rfl (fun u hu => buildA_op u built_no) ?_ hw4; intro K hK; go_big_quiet_op; go_big_quiet_on)
  clear hone hw4
  refine wpG_nil ?_
  refine (hOp_store rfl (w.heap.size) (hdA noHd) rfl rfl HLE.out 29 ((hdA noHd)) (List.Mem.head _) (infoHd _ (hdA_size HZN.out)) ((hdA_size HZN.out).trans (hdA_size HZN.out).symm) (hdA_one _) [(w.heap.size, Obj.cells (hdA noHd) 29 (0, 0))] (List.forall_mem_cons.2 ⟨.inl rfl, (fun _ h => by cases h)⟩) ?_)
  intro he5
  refine lexH_phase [2] [] ?_
  have hw6 : EnvX w _ [(w.heap.size, Obj.cells (hdA noHd) 29 (0, 0))] := he5.choose_spec
  have hone := @EnvC.one _ _ _ hw6
  (refine wpG_op rfl rfl rfl ?_; intro K hK; go_big_quiet_op; go_big_quiet_on)
  clear hone hw6
  refine wpG_nil ?_
  intro u8 E2'
  have EX7 := Lib.hid E2'
  clear E2'
  have Q0 := Lib.hid (EnvX.box EX7.out _ _ (List.Mem.head _))
  have HBEL := Lib.hid EX7.out.bel
  clear EX7
  go_wp2_with ((with_reducible refine bodyPost_ret (v := .tuple #[.agg (hdA noHd), .bool false]) ?_ ?_ ?_); (exact results_row_slot (p := 2) (q := 3) (ty := 29) Tryd.results13 _ _ w.heap.size 29 (hdA noHd) (0, 0) _ rfl _ rfl Q0.out Tryd.underlying29 rfl (infoHd _ (hdA_size HZN.out))); (rfl))
  exact HBEL.out
set_option maxRecDepth 20000 in
set_option maxHeartbeats 8000000 in
theorem rread_over (A : Option Addr) (n c : Nat) (xs : List Int) (w : World) (hl : xs.length = n) (hc : n ≤ c) (hn : c ≤ maxLen) (hB : isB xs) (hx : Bytes w w.heap.size A xs) (k : n = 176) (k2 : 1048576 < getL (cutP xs 0 4)) :
    Calls Tryd.prog 13 #[.slice A n c] w fun e w' => e = .returned (.tuple #[hdV (readH xs).1, .bool (readH xs).2]) ∧ Below w.heap.size w w' := by
  have hp : readH xs = (noHd, false) := by unfold readH mayRead; rw [if_neg (by rw [decide_eq_true_eq]; omega)]
  rw [hp]
  have C4 : Hid (decide (1048576 < ((getL (cutP xs 0 4) : Nat) : Int)) = true) := decide_eq_true (by omega)
  have HGT : Hid (∀ (i s : Nat), s ≤ 8 → i + s ≤ n → ∀ u, EnvX w u [] → Calls Tryd.prog 38 #[.slice A n c, .int .i64 i, .int .i64 s] u fun e w' => e = .returned (.tuple #[.int .u64 (getL (cutP xs i s)), .bool true]) ∧ u = w') := fun i s h8 h u hu => rget_some A n c i s xs u hl hc hn hB (hx.up (EnvX.bel hu)) h8 h
  have C1 : Hid (decide ((n : Int) ≠ 176) = false) := decide_eq_false (by omega)
  have HN := Lib.hid k
  clear k k2 hp
  have HX := Lib.hid (And.intro hx hB)
  have HL := Lib.hid (And.intro hl (And.intro hc hn))
  have HN9 : Hid (n < 9223372036854775808) := by unfold maxLen at hn; show n < _; omega
  have HLE : Hid (w.heap.size ≤ w.heap.size) := Nat.le_refl _
  have HZN : Hid (lenH noHd) := ⟨rfl, rfl, rfl, rfl⟩
  have E1 : Hid (EnvX w (w.alloc (.cells (hdA noHd) 29)) [(w.heap.size, Obj.cells (hdA noHd) 29 (0, 0))]) := (EnvX.start w).new _
  clear hl hc hB hx
  unfold maxLen at hn
  unfold hdV
  go_enter Tryd.func13, Tryd.ntmps13
  go_upto_region 1 with (fail)
  rw [← zero_hdA]
  generalize w.alloc (.cells (hdA noHd) 29) = W at *
  refine wp_region_Hx (w0 := w) [0, 1, 2] [(w.heap.size, Obj.cells (hdA noHd) 29 (0, 0))] rfl E1.out ?_
  refine lexH_phase [0, 1, 2] [] ?_
  have hw1 : EnvX w _ [(w.heap.size, Obj.cells (hdA noHd) 29 (0, 0))] := E1.out
  have hone := @EnvC.one _ _ _ hw1
  (refine wpG_op rfl rfl rfl ?_; intro K hK; go_big_quiet_op; go_big_quiet_on)
  (refine wpG_val (v := .int .i64 (n : Int)) rfl rfl (fun u hu => len_op Tryd.underlying30 HN9.out u rfl) ?_ hw1; intro K hK; go_big_quiet_op; go_big_quiet_on)
  (refine wpG_val (v := .bool false) rfl rfl (fun u hu => neZ_op u C1.out rfl rfl) ?_ hw1; intro K hK; go_big_quiet_op; go_big_quiet_on)
  clear hone hw1
  refine wpG_nil ?_
  intro u3 E2'
  have EX2 := Lib.hid E2'
  clear E2'
  go_upto_region 3 with (fail)
  go_wp2_with fail
  refine (HGT.out 0 4 (by omega) (by have := HN.out; omega) _ (EnvX.sub EX2.out (fun _ h => by cases h))).mono ?_
  rintro e w9 ⟨rfl, rfl⟩
  go_upto_region 4 with (fail)
  refine wp_region_Hx (w0 := w) [0, 1] [(w.heap.size, Obj.cells (hdA noHd) 29 (0, 0))] rfl EX2.out ?_
  refine lexH_phase [0, 1] [] ?_
  have hw4 : EnvX w _ [(w.heap.size, Obj.cells (hdA noHd) 29 (0, 0))] := EX2.out
  have hone := @EnvC.one _ _ _ hw4
  (refine wpG_op rfl rfl rfl ?_; intro K hK; go_big_quiet_op; go_big_quiet_on)
  (refine wpG_val (v := .bool true) rfl rfl (fun u hu => gtU_op u C4.out rfl rfl) ?_ hw4; intro K hK; go_big_quiet_op; go_big_quiet_on)
  clear hone hw4
  refine wpG_nil ?_
  intro u6 E2'
  have EX5 := Lib.hid E2'
  clear E2'
  go_upto_region 5 with (fail)
  refine wp_region_Hx (w0 := w) [0, 1, 2] [(w.heap.size, Obj.cells (hdA noHd) 29 (0, 0))] rfl EX5.out ?_
  refine lexH_phase [0] [1, 2] ?_
  have hw7 : EnvX w _ [(w.heap.size, Obj.cells (hdA noHd) 29 (0, 0))] := EX5.out
  have hone := @EnvC.one _ _ _ hw7
  (refine wpG_val (v := .agg (hdA noHd)) rfl rfl (fun u hu => buildA_op u built_no) ?_ hw7; intro K hK; go_big_quiet_op; go_big_quiet_on)
  clear hone hw7
  refine wpG_nil ?_
  refine (hOp_store rfl (w.heap.size) (hdA noHd) rfl rfl HLE.out 29 ((hdA noHd)) (List.Mem.head _) (infoHd _ (hdA_size HZN.out)) ((hdA_size HZN.out).trans (hdA_size HZN.out).symm) (hdA_one _) [(w.heap.size, Obj.cells (hdA noHd) 29 (0, 0))] (List.forall_mem_cons.2 ⟨.inl rfl, (fun _ h => by cases h)⟩) ?_)
  intro he8
  refine lexH_phase [2] [] ?_
  have hw9 : EnvX w _ [(w.heap.size, Obj.cells (hdA noHd) 29 (0, 0))] := he8.choose_spec
  have hone := @EnvC.one _ _ _ hw9
  (refine wpG_op rfl rfl rfl ?_; intro K hK; go_big_quiet_op; go_big_quiet_on)
  clear hone hw9
  refine wpG_nil ?_
  intro u11 E2'
  have EX10 := Lib.hid E2'
  clear E2'
  have Q0 := Lib.hid (EnvX.box EX10.out _ _ (List.Mem.head _))
  have HBEL := Lib.hid EX10.out.bel
  clear EX10
  go_wp2_with ((with_reducible refine bodyPost_ret (v := .tuple #[.agg (hdA noHd), .bool false]) ?_ ?_ ?_); (exact results_row_slot (p := 2) (q := 3) (ty := 29) Tryd.results13 _ _ w.heap.size 29 (hdA noHd) (0, 0) _ rfl _ rfl Q0.out Tryd.underlying29 rfl (infoHd _ (hdA_size HZN.out))); (rfl))
  exact HBEL.out
set_option maxRecDepth 20000 in
set_option maxHeartbeats 8000000 in
theorem rread_main (A : Option Addr) (n c : Nat) (xs : List Int) (w : World) (hl : xs.length = n) (hc : n ≤ c) (hn : c ≤ maxLen) (hB : isB xs) (hx : Bytes w w.heap.size A xs) (k : n = 176) (k2 : getL (cutP xs 0 4) ≤ 1048576) :
    Calls Tryd.prog 13 #[.slice A n c] w fun e w' => e = .returned (.tuple #[hdV (readH xs).1, .bool (readH xs).2]) ∧ Below w.heap.size w w' := by
  have hm : mayRead xs = true := by unfold mayRead; rw [decide_eq_true_eq]; omega
  have hp : readH xs = (headOf xs, true) := by unfold readH; rw [if_pos hm]
  rw [hp]
  have hok := (read_ok hB hm).1
  have HOK := Lib.hid hok.len
  have HBT := Lib.hid (And.intro k2 (And.intro hok.2.2.2.2.2.2.1 hok.2.2.2.2.2.2.2))
  have C4 : Hid (decide (1048576 < ((getL (cutP xs 0 4) : Nat) : Int)) = false) := decide_eq_false (by omega)
  have HID : Hid (∀ (i : Nat), i + 32 ≤ n → ∀ u, EnvX w u [] → Calls Tryd.prog 39 #[.slice A n c, .int .i64 i] u fun e w' => e = .returned (idv (cutP xs i 32)) ∧ Below u.heap.size u w') := fun i h u hu => rid_any A n c i xs u hl hc hn hB (hx.up (EnvX.bel hu)) h
  have HOF : Hid (∀ u, Calls Tryd.prog 40 #[idv (cutP xs 132 32)] u fun e w' => e = .returned (.agg (wcs (numB (cutP xs 132 32)))) ∧ Below u.heap.size u w') := fun u => by
    have hb := cutP_byte hB 132 32
    unfold idv
    rw [arr_idF (cutP_len (by omega)) hb]
    exact rof32_any (fun i => ((cutP xs 132 32).getD i 0).toNat) (byte_toNat hb) u
  have HGT : Hid (∀ (i s : Nat), s ≤ 8 → i + s ≤ n → ∀ u, EnvX w u [] → Calls Tryd.prog 38 #[.slice A n c, .int .i64 i, .int .i64 s] u fun e w' => e = .returned (.tuple #[.int .u64 (getL (cutP xs i s)), .bool true]) ∧ u = w') := fun i s h8 h u hu => rget_some A n c i s xs u hl hc hn hB (hx.up (EnvX.bel hu)) h8 h
  have C1 : Hid (decide ((n : Int) ≠ 176) = false) := decide_eq_false (by omega)
  have HN := Lib.hid k
  clear k k2 hp hm hok
  have HX := Lib.hid (And.intro hx hB)
  have HL := Lib.hid (And.intro hl (And.intro hc hn))
  have HN9 : Hid (n < 9223372036854775808) := by unfold maxLen at hn; show n < _; omega
  have HLE : Hid (w.heap.size ≤ w.heap.size) := Nat.le_refl _
  have HZN : Hid (lenH noHd) := ⟨rfl, rfl, rfl, rfl⟩
  have E1 : Hid (EnvX w (w.alloc (.cells (hdA noHd) 29)) [(w.heap.size, Obj.cells (hdA noHd) 29 (0, 0))]) := (EnvX.start w).new _
  clear hl hc hB hx
  unfold maxLen at hn
  unfold hdV
  go_enter Tryd.func13, Tryd.ntmps13
  go_upto_region 1 with (fail)
  rw [← zero_hdA]
  generalize w.alloc (.cells (hdA noHd) 29) = W at *
  refine wp_region_Hx (w0 := w) [0, 1, 2] [(w.heap.size, Obj.cells (hdA noHd) 29 (0, 0))] rfl E1.out ?_
  refine lexH_phase [0, 1, 2] [] ?_
  have hw1 : EnvX w _ [(w.heap.size, Obj.cells (hdA noHd) 29 (0, 0))] := E1.out
  have hone := @EnvC.one _ _ _ hw1
  (refine wpG_op rfl rfl rfl ?_; intro K hK; go_big_quiet_op; go_big_quiet_on)
  (refine wpG_val (v := .int .i64 (n : Int)) rfl rfl (fun u hu => len_op Tryd.underlying30 HN9.out u rfl) ?_ hw1; intro K hK; go_big_quiet_op; go_big_quiet_on)
  (refine wpG_val (v := .bool false) rfl rfl (fun u hu => neZ_op u C1.out rfl rfl) ?_ hw1; intro K hK; go_big_quiet_op; go_big_quiet_on)
  clear hone hw1
  refine wpG_nil ?_
  intro u3 E2'
  have EX2 := Lib.hid E2'
  clear E2'
  go_upto_region 3 with (fail)
  go_wp2_with fail
  refine (HGT.out 0 4 (by omega) (by have := HN.out; omega) _ (EnvX.sub EX2.out (fun _ h => by cases h))).mono ?_
  rintro e w9 ⟨rfl, rfl⟩
  go_upto_region 4 with (fail)
  refine wp_region_Hx (w0 := w) [0, 1] [(w.heap.size, Obj.cells (hdA noHd) 29 (0, 0))] rfl EX2.out ?_
  refine lexH_phase [0, 1] [] ?_
  have hw4 : EnvX w _ [(w.heap.size, Obj.cells (hdA noHd) 29 (0, 0))] := EX2.out
  have hone := @EnvC.one _ _ _ hw4
  (refine wpG_op rfl rfl rfl ?_; intro K hK; go_big_quiet_op; go_big_quiet_on)
  (refine wpG_val (v := .bool false) rfl rfl (fun u hu => gtU_op u C4.out rfl rfl) ?_ hw4; intro K hK; go_big_quiet_op; go_big_quiet_on)
  clear hone hw4
  refine wpG_nil ?_
  intro u6 E2'
  have EX5 := Lib.hid E2'
  clear E2'
  go_upto_region 6 with (fail)
  go_wp2_with fail
  refine (HGT.out 164 4 (by omega) (by have := HN.out; omega) _ (EnvX.sub EX5.out (fun _ h => by cases h))).mono ?_
  rintro e w9 ⟨rfl, rfl⟩
  go_upto_region 7 with (fail)
  go_wp2_with fail
  refine (HGT.out 168 8 (by omega) (by have := HN.out; omega) _ (EnvX.sub EX5.out (fun _ h => by cases h))).mono ?_
  rintro e w9 ⟨rfl, rfl⟩
  go_upto_region 8 with (fail)
  refine wp_region_Hx (w0 := w) [0, 1, 2, 3, 4, 5, 6, 7, 8, 9, 10, 11, 12, 13, 14, 15, 16, 17, 18] [(w.heap.size, Obj.cells (hdA noHd) 29 (0, 0))] rfl EX5.out ?_
  refine lexH_phase [0, 1, 2, 3, 4, 5, 6, 7, 8, 9, 10, 11, 12, 13, 14, 15, 16] [17, 18] ?_
  have hw7 : EnvX w _ [(w.heap.size, Obj.cells (hdA noHd) 29 (0, 0))] := EX5.out
  have hone := @EnvC.one _ _ _ hw7
  (refine wpG_op rfl rfl rfl ?_; intro K hK; go_big_quiet_op; go_big_quiet_on)
  (refine wpG_val (v := .int .i64 ((getL (cutP xs 0 4) : Nat) : Int)) rfl rfl (fun u hu => conv_int_op u (by have := HBT.out.1; omega) rfl) ?_ hw7; intro K hK; go_big_quiet_op; go_big_quiet_on)
  (refine wpG_op rfl rfl rfl ?_; intro K hK; go_big_quiet_op; go_big_quiet_on)
  (refine wpG_call (f := 39) (args := #[.slice A n c, .int .i64 4]) (v := idv (cutP xs 4 32)) rfl rfl rfl Tryd.func39 rfl rfl (fun u hu => HID.out 4 (by have := HN.out; omega) u (EnvX.sub hu (fun _ h => by cases h))) ?_ hw7; intro K hK; go_big_quiet_op; go_big_quiet_on)
  (refine wpG_op rfl rfl rfl ?_; intro K hK; go_big_quiet_op; go_big_quiet_on)
  (refine wpG_call (f := 39) (args := #[.slice A n c, .int .i64 36]) (v := idv (cutP xs 36 32)) rfl rfl rfl Tryd.func39 rfl rfl (fun u hu => HID.out 36 (by have := HN.out; omega) u (EnvX.sub hu (fun _ h => by cases h))) ?_ hw7; intro K hK; go_big_quiet_op; go_big_quiet_on)
  (refine wpG_op rfl rfl rfl ?_; intro K hK; go_big_quiet_op; go_big_quiet_on)
  (refine wpG_call (f := 39) (args := #[.slice A n c, .int .i64 68]) (v := idv (cutP xs 68 32)) rfl rfl rfl Tryd.func39 rfl rfl (fun u hu => HID.out 68 (by have := HN.out; omega) u (EnvX.sub hu (fun _ h => by cases h))) ?_ hw7; intro K hK; go_big_quiet_op; go_big_quiet_on)
  (refine wpG_op rfl rfl rfl ?_; intro K hK; go_big_quiet_op; go_big_quiet_on)
  (refine wpG_call (f := 39) (args := #[.slice A n c, .int .i64 100]) (v := idv (cutP xs 100 32)) rfl rfl rfl Tryd.func39 rfl rfl (fun u hu => HID.out 100 (by have := HN.out; omega) u (EnvX.sub hu (fun _ h => by cases h))) ?_ hw7; intro K hK; go_big_quiet_op; go_big_quiet_on)
  (refine wpG_op rfl rfl rfl ?_; intro K hK; go_big_quiet_op; go_big_quiet_on)
  (refine wpG_call (f := 39) (args := #[.slice A n c, .int .i64 132]) (v := idv (cutP xs 132 32)) rfl rfl rfl Tryd.func39 rfl rfl (fun u hu => HID.out 132 (by have := HN.out; omega) u (EnvX.sub hu (fun _ h => by cases h))) ?_ hw7; intro K hK; go_big_quiet_op; go_big_quiet_on)
  (refine wpG_call (f := 40) (args := #[idv (cutP xs 132 32)]) (v := .agg (wcs (numB (cutP xs 132 32)))) rfl rfl rfl Tryd.func40 rfl rfl (fun u hu => HOF.out u) ?_ hw7; intro K hK; go_big_quiet_op; go_big_quiet_on)
  (refine wpG_op rfl rfl rfl ?_; intro K hK; go_big_quiet_op; go_big_quiet_on)
  (refine wpG_val (v := .int .u32 ((getL (cutP xs 164 4) : Nat) : Int)) rfl rfl (fun u hu => conv_u32_op u HBT.out.2.1 rfl) ?_ hw7; intro K hK; go_big_quiet_op; go_big_quiet_on)
  (refine wpG_op rfl rfl rfl ?_; intro K hK; go_big_quiet_op; go_big_quiet_on)
  (refine wpG_val (v := .agg (hdA (headOf xs))) rfl rfl (fun u hu => buildA_op u (built_hd (headOf xs) HOK.out)) ?_ hw7; intro K hK; go_big_quiet_op; go_big_quiet_on)
  clear hone hw7
  refine wpG_nil ?_
  refine (hOp_store rfl (w.heap.size) (hdA (headOf xs)) rfl rfl HLE.out 29 ((hdA noHd)) (List.Mem.head _) (infoHd _ (hdA_size HOK.out)) ((hdA_size HZN.out).trans (hdA_size HOK.out).symm) (hdA_one _) [(w.heap.size, Obj.cells (hdA (headOf xs)) 29 (0, 0))] (List.forall_mem_cons.2 ⟨.inl rfl, (fun _ h => by cases h)⟩) ?_)
  intro he8
  refine lexH_phase [18] [] ?_
  have hw9 : EnvX w _ [(w.heap.size, Obj.cells (hdA (headOf xs)) 29 (0, 0))] := he8.choose_spec
  have hone := @EnvC.one _ _ _ hw9
  (refine wpG_op rfl rfl rfl ?_; intro K hK; go_big_quiet_op; go_big_quiet_on)
  clear hone hw9
  refine wpG_nil ?_
  intro u11 E2'
  have EX10 := Lib.hid E2'
  clear E2'
  have Q0 := Lib.hid (EnvX.box EX10.out _ _ (List.Mem.head _))
  have HBEL := Lib.hid EX10.out.bel
  clear EX10
  go_wp2_with ((with_reducible refine bodyPost_ret (v := .tuple #[.agg (hdA (headOf xs)), .bool true]) ?_ ?_ ?_); (exact results_row_slot (p := 2) (q := 3) (ty := 29) Tryd.results13 _ _ w.heap.size 29 (hdA (headOf xs)) (0, 0) _ rfl _ rfl Q0.out Tryd.underlying29 rfl (infoHd _ (hdA_size HOK.out))); (rfl))
  exact HBEL.out
theorem rread_any (A : Option Addr) (n c : Nat) (xs : List Int) (w : World) (hl : xs.length = n) (hc : n ≤ c) (hn : c ≤ maxLen) (hB : isB xs) (hx : Bytes w w.heap.size A xs) :
    Calls Tryd.prog 13 #[.slice A n c] w fun e w' => e = .returned (.tuple #[hdV (readH xs).1, .bool (readH xs).2]) ∧ Below w.heap.size w w' := by
  by_cases k : n = 176
  · by_cases k2 : getL (cutP xs 0 4) ≤ 1048576
    · exact rread_main A n c xs w hl hc hn hB hx k k2
    · exact rread_over A n c xs w hl hc hn hB hx k (by omega)
  · exact rread_size A n c xs w hl hc hn hB hx k
end Go.Proofs.YtmpjgfecnnefeaaDoor

namespace Go.Proofs.YtmpjgfecnnefeaaDoor
set_option maxRecDepth 8000
open Go.RowKit

set_option maxRecDepth 20000 in
set_option maxHeartbeats 8000000 in
theorem rhid_no (h : Hd) (w : World) (hh : okHd h) (k : mayPut h = false) :
    Calls Tryd.prog 18 #[hdV h] w fun e w' => e = .returned (idv (idH h)) ∧ Below w.heap.size w w' := by
  have hp : putH h = ([], false) := by unfold putH; rw [if_neg (by rw [k]; exact Bool.noConfusion)]
  have hi : idH h = z32 := by unfold idH; rw [if_neg (by rw [k]; exact Bool.noConfusion)]
  rw [hi]
  have HZ : Hid ((arrB 32 z32).size = 32) := arrB_size _ _ (by decide)
  clear k hi
  have HL := Lib.hid hh.len
  have HLE : Hid (w.heap.size ≤ w.heap.size + 1) := by show _ ≤ _; omega
  have E1 : Hid (EnvX w ((w.alloc (.cells (hdA h) 29)).alloc (.cells (arrB 32 []) 23)) [(w.heap.size + 1, Obj.cells (arrB 32 []) 23 (0, 0)), (w.heap.size, Obj.cells (hdA h) 29 (0, 0))]) := (EnvX.start w).two _ _
  have HPT : Hid (∀ u, Calls Tryd.prog 11 #[hdV h] u fun e w' => (∃ v, e = .returned (.tuple #[v, .bool (putH h).2]) ∧ OwnB w' u.heap.size v (putH h).1) ∧ Below u.heap.size u w') := fun u => rhput_any h u hh
  rw [hp] at HPT
  clear hp hh
  unfold hdV
  go_enter Tryd.func18, Tryd.ntmps18
  go_upto_region 1 with (fail)
  rw [zero_cells]
  generalize (w.alloc (.cells (hdA h) 29)).alloc (.cells (arrB 32 []) 23) = W at *
  have HLD : Hid ((loadVar 29 ⟨w.heap.size, 0, none⟩).run Tryd.prog W = .ok (.agg (hdA h)) W) := box_hd E1.out (List.Mem.tail _ (List.Mem.head _)) HL.out
  go_wp2_with ((with_reducible refine wpList_load_run (o := ⟨some 6, _, _, _, _, _⟩) ?_ 29 (.tmp 1) ?_ ⟨w.heap.size, 0, none⟩ ?_ HLD.out ?_); (rfl); (rfl); (rfl))
  refine (HPT.out W).mono ?_
  rintro e w1 ⟨⟨v, rfl, hv⟩, hb⟩
  have E2 : Hid (EnvX w w1 [(w.heap.size + 1, Obj.cells (arrB 32 []) 23 (0, 0)), (w.heap.size, Obj.cells (hdA h) 29 (0, 0))]) := EnvX.below E1.out hb
  clear hv hb E1 HLD
  go_upto_region 3 with (fail)
  refine wp_region_Hx (w0 := w) [0, 1] [(w.heap.size + 1, Obj.cells (arrB 32 []) 23 (0, 0)), (w.heap.size, Obj.cells (hdA h) 29 (0, 0))] rfl E2.out ?_
  refine lexH_phase [0] [1] ?_
  have hw1 : EnvX w _ [(w.heap.size + 1, Obj.cells (arrB 32 []) 23 (0, 0)), (w.heap.size, Obj.cells (hdA h) 29 (0, 0))] := E2.out
  have hone := @EnvC.one _ _ _ hw1
  (refine wpG_val (v := .agg (arrB 32 z32)) rfl rfl (fun u hu => buildA_op u hbuilt0) ?_ hw1; intro K hK; go_big_quiet_op; go_big_quiet_on)
  clear hone hw1
  refine wpG_nil ?_
  refine (hOp_store rfl (w.heap.size + 1) (arrB 32 z32) rfl rfl HLE.out 23 ((arrB 32 [])) (List.Mem.head _) (info26 _ HZ.out) ((arrB_size _ _ (by simp)).trans HZ.out.symm) (arrB_one _ _) [(w.heap.size + 1, Obj.cells (arrB 32 z32) 23 (0, 0))] (List.forall_mem_cons.2 ⟨.inl rfl, (fun _ h => by cases h)⟩) ?_)
  intro he2
  intro u4 E2'
  have EX3 := Lib.hid E2'
  clear E2'
  have Q0 := Lib.hid (EnvX.box EX3.out _ _ (List.Mem.head _))
  have HBEL := Lib.hid EX3.out.bel
  clear EX3
  go_wp2_with ((with_reducible refine bodyPost_ret (v := .agg (arrB 32 z32)) ?_ ?_ ?_); (exact results_cell_row (p := 2) (ty := 23) Tryd.results18 _ _ (w.heap.size + 1) 23 (arrB 32 z32) (0, 0) _ rfl Q0.out Tryd.underlying23 rfl (info26 _ HZ.out)); (rfl))
  exact ⟨rfl, HBEL.out⟩
set_option maxRecDepth 20000 in
set_option maxHeartbeats 8000000 in
theorem rhid_yes (h : Hd) (w : World) (hh : okHd h) (k : mayPut h = true) :
    Calls Tryd.prog 18 #[hdV h] w fun e w' => e = .returned (idv (idH h)) ∧ Below w.heap.size w w' := by
  have hp : putH h = (bodyH h, true) := by unfold putH; rw [if_pos k]
  have hi : idH h = sumL (5 :: bodyH h) := by unfold idH; rw [if_pos k]
  rw [hi]
  obtain ⟨su, hsu⟩ : ∃ su, sumL (5 :: bodyH h) = su := ⟨_, rfl⟩
  have HZ : Hid ((arrB 32 su).size = 32) := arrB_size _ _ (by rw [← hsu, sumL_len]; omega)
  have HSU := Lib.hid hsu
  rw [hsu]
  clear hsu
  have HBO := Lib.hid (And.intro (body_len hh) (body_byte hh))
  clear k hi
  have HL := Lib.hid hh.len
  have HLE : Hid (w.heap.size ≤ w.heap.size + 1) := by show _ ≤ _; omega
  have E1 : Hid (EnvX w ((w.alloc (.cells (hdA h) 29)).alloc (.cells (arrB 32 []) 23)) [(w.heap.size + 1, Obj.cells (arrB 32 []) 23 (0, 0)), (w.heap.size, Obj.cells (hdA h) 29 (0, 0))]) := (EnvX.start w).two _ _
  have HPT : Hid (∀ u, Calls Tryd.prog 11 #[hdV h] u fun e w' => (∃ v, e = .returned (.tuple #[v, .bool (putH h).2]) ∧ OwnB w' u.heap.size v (putH h).1) ∧ Below u.heap.size u w') := fun u => rhput_any h u hh
  rw [hp] at HPT
  clear hp hh
  unfold hdV
  go_enter Tryd.func18, Tryd.ntmps18
  go_upto_region 1 with (fail)
  rw [zero_cells]
  generalize (w.alloc (.cells (hdA h) 29)).alloc (.cells (arrB 32 []) 23) = W at *
  have HLD : Hid ((loadVar 29 ⟨w.heap.size, 0, none⟩).run Tryd.prog W = .ok (.agg (hdA h)) W) := box_hd E1.out (List.Mem.tail _ (List.Mem.head _)) HL.out
  go_wp2_with ((with_reducible refine wpList_load_run (o := ⟨some 6, _, _, _, _, _⟩) ?_ 29 (.tmp 1) ?_ ⟨w.heap.size, 0, none⟩ ?_ HLD.out ?_); (rfl); (rfl); (rfl))
  refine (HPT.out W).mono ?_
  rintro e w1 ⟨⟨v, rfl, hv⟩, hb⟩
  obtain ⟨hv1, ⟨_, h0⟩ | ⟨gv, capv, curv, rfl, hg1, hg2, hg3⟩⟩ := hv
  · have := HBO.out.1
    omega
  have E2 : Hid (EnvX w w1 [(gv, Obj.cells curv 5 (0, 0)), (w.heap.size + 1, Obj.cells (arrB 32 []) 23 (0, 0)), (w.heap.size, Obj.cells (hdA h) 29 (0, 0))]) := ⟨(EnvX.below E1.out hb).bel, fun g o hm => by
    rcases List.mem_cons.1 hm with e | e
    · cases e
      exact hg2
    · exact (EnvX.below E1.out hb).box g o e⟩
  rw [HBO.out.1] at hg3 ⊢
  have HGV := Lib.hid hg3
  have HOF : Hid (∀ (u : World) (gr : Nat), Parts u u.heap.size (some ⟨gr, 0, none⟩) [[5], bodyH h] → Calls Tryd.prog 43 #[.slice (some ⟨gr, 0, none⟩) 2 2] u fun e w' => e = .returned (.agg (arrB 32 su)) ∧ Below u.heap.size u w') := fun u gr hp => by
    have e : [[5], bodyH h].flatten = 5 :: bodyH h := by simp
    have h1 := rsof_any (some ⟨gr, 0, none⟩) 2 2 [[5], bodyH h] u rfl hp (by omega) (by rw [e, List.length_cons, HBO.out.1]; decide)
    rwa [e, HSU.out] at h1
  clear hv1 hb E1 HLD hg1 hg2 hg3
  go_upto_region 4 with (fail)
  refine wp_region_Hx (w0 := w) [0, 1, 2, 3, 4] [(gv, Obj.cells curv 5 (0, 0)), (w.heap.size + 1, Obj.cells (arrB 32 []) 23 (0, 0)), (w.heap.size, Obj.cells (hdA h) 29 (0, 0))] rfl E2.out ?_
  refine (hOp_fresh (R := fun v N => ∃ g, v = .slice (some ⟨g, 0, none⟩) 1 1 ∧ N = [(g, Obj.cells #[.int .u8 5] 5 (0, 0))]) (M0 := [(gv, Obj.cells curv 5 (0, 0)), (w.heap.size + 1, Obj.cells (arrB 32 []) 23 (0, 0)), (w.heap.size, Obj.cells (hdA h) 29 (0, 0))]) rfl rfl (fun _ h => h) (fun u hu => FAt_byte1 5 u) ?_)
  rintro _ _ ⟨g5, rfl, rfl⟩ hf he1; intro K' hK'; go_big_quiet_op; go_big_quiet_on
  clear hf
  change lexH _ _ _ _ _ _ [(g5, Obj.cells #[.int .u8 5] 5 (0, 0)), (gv, Obj.cells curv 5 (0, 0)), (w.heap.size + 1, Obj.cells (arrB 32 []) 23 (0, 0)), (w.heap.size, Obj.cells (hdA h) 29 (0, 0))]
  refine lexH_phase [1] [2, 3, 4] ?_
  have hw2 : EnvX w _ [(g5, Obj.cells #[.int .u8 5] 5 (0, 0)), (gv, Obj.cells curv 5 (0, 0)), (w.heap.size + 1, Obj.cells (arrB 32 []) 23 (0, 0)), (w.heap.size, Obj.cells (hdA h) 29 (0, 0))] := he1.choose_spec
  have hone := @EnvC.one _ _ _ hw2
  (refine wpG_op rfl rfl rfl ?_; intro K hK; go_big_quiet_op; go_big_quiet_on)
  clear hone hw2
  refine wpG_nil ?_
  refine (hOp_fresh (R := fun v N => ∃ g, v = .slice (some ⟨g, 0, none⟩) 2 2 ∧ N = [(g, Obj.cells #[.slice (some ⟨g5, 0, none⟩) 1 1, .slice (some ⟨gv, 0, none⟩) 176 capv] 30 (0, 0))]) (M0 := [(g5, Obj.cells #[.int .u8 5] 5 (0, 0)), (gv, Obj.cells curv 5 (0, 0)), (w.heap.size + 1, Obj.cells (arrB 32 []) 23 (0, 0)), (w.heap.size, Obj.cells (hdA h) 29 (0, 0))]) rfl rfl (fun _ h => h) (fun u hu => FAt_rows2 rfl rfl u) ?_)
  rintro _ _ ⟨gr, rfl, rfl⟩ hf he3; intro K' hK'; go_big_quiet_op; go_big_quiet_on
  clear hf
  change lexH _ _ _ _ _ _ [(gr, Obj.cells #[.slice (some ⟨g5, 0, none⟩) 1 1, .slice (some ⟨gv, 0, none⟩) 176 capv] 30 (0, 0)), (g5, Obj.cells #[.int .u8 5] 5 (0, 0)), (gv, Obj.cells curv 5 (0, 0)), (w.heap.size + 1, Obj.cells (arrB 32 []) 23 (0, 0)), (w.heap.size, Obj.cells (hdA h) 29 (0, 0))]
  refine lexH_phase [3] [4] ?_
  have hw4 : EnvX w _ [(gr, Obj.cells #[.slice (some ⟨g5, 0, none⟩) 1 1, .slice (some ⟨gv, 0, none⟩) 176 capv] 30 (0, 0)), (g5, Obj.cells #[.int .u8 5] 5 (0, 0)), (gv, Obj.cells curv 5 (0, 0)), (w.heap.size + 1, Obj.cells (arrB 32 []) 23 (0, 0)), (w.heap.size, Obj.cells (hdA h) 29 (0, 0))] := he3.choose_spec
  have hone := @EnvC.one _ _ _ hw4
  (refine wpG_call (f := 43) (args := #[.slice (some ⟨gr, 0, none⟩) 2 2]) (v := .agg (arrB 32 su)) rfl rfl rfl Tryd.func43 rfl rfl (fun u hu => HOF.out u gr (parts_two (EnvX.lt hu (List.Mem.head _)) (by have h := box_cell (k := 0) hu (List.Mem.head _) rfl; exact h) (boxR_bytes (cap := 1) hu (List.Mem.tail _ (List.Mem.head _)) rfl ⟨by decide, by decide, rfl, rfl⟩) (by intro x hx; cases List.mem_singleton.1 hx; omega) (by have h := box_cell (k := 1) hu (List.Mem.head _) rfl; rw [HBO.out.1]; exact h) (boxR_bytes hu (List.Mem.tail _ (List.Mem.tail _ (List.Mem.head _))) HBO.out.1 HGV.out) HBO.out.2)) ?_ hw4; intro K hK; go_big_quiet_op; go_big_quiet_on)
  clear hone hw4
  refine wpG_nil ?_
  refine (hOp_store rfl (w.heap.size + 1) (arrB 32 su) rfl rfl HLE.out 23 ((arrB 32 [])) (List.Mem.tail _ (List.Mem.tail _ (List.Mem.tail _ (List.Mem.head _)))) (info26 _ HZ.out) ((arrB_size _ _ (by simp)).trans HZ.out.symm) (arrB_one _ _) [(w.heap.size + 1, Obj.cells (arrB 32 su) 23 (0, 0))] (List.forall_mem_cons.2 ⟨.inl rfl, (fun _ h => by cases h)⟩) ?_)
  intro he5
  intro u7 E2'
  have EX6 := Lib.hid E2'
  clear E2'
  have Q0 := Lib.hid (EnvX.box EX6.out _ _ (List.Mem.head _))
  have HBEL := Lib.hid EX6.out.bel
  clear EX6
  go_wp2_with ((with_reducible refine bodyPost_ret (v := .agg (arrB 32 su)) ?_ ?_ ?_); (exact results_cell_row (p := 2) (ty := 23) Tryd.results18 _ _ (w.heap.size + 1) 23 (arrB 32 su) (0, 0) _ rfl Q0.out Tryd.underlying23 rfl (info26 _ HZ.out)); (rfl))
  exact ⟨rfl, HBEL.out⟩
theorem rhid_any (h : Hd) (w : World) (hh : okHd h) :
    Calls Tryd.prog 18 #[hdV h] w fun e w' => e = .returned (idv (idH h)) ∧ Below w.heap.size w w' := by
  cases k : mayPut h with
  | true => exact rhid_yes h w hh k
  | false => exact rhid_no h w hh k
end Go.Proofs.YtmpjgfecnnefeaaDoor

namespace Go.Proofs.YtmpjgfecnnefeaaDoor
set_option maxRecDepth 8000
open Go.RowKit

set_option maxRecDepth 20000 in
set_option maxHeartbeats 8000000 in
theorem rhlevel_a (h : Hd) (w : World) (hh : okHd h) (k : mayPut h = false) :
    Calls Tryd.prog 20 #[hdV h] w fun e w' => e = .returned (.int .i64 (levelH h)) ∧ Below w.heap.size w w' := by
  have hp : putH h = ([], false) := by unfold putH; rw [if_neg (by rw [k]; exact Bool.noConfusion)]
  have hv : levelH h = -1 := by unfold levelH; rw [k]; rfl
  rw [hv]
  clear hv k
  have HL := Lib.hid hh.len
  have E1 : Hid (EnvX w (w.alloc (.cells (hdA h) 29)) [(w.heap.size, Obj.cells (hdA h) 29 (0, 0))]) := (EnvX.start w).new _
  have HPT : Hid (∀ u, Calls Tryd.prog 11 #[hdV h] u fun e w' => (∃ v, e = .returned (.tuple #[v, .bool (putH h).2]) ∧ OwnB w' u.heap.size v (putH h).1) ∧ Below u.heap.size u w') := fun u => rhput_any h u hh
  rw [hp] at HPT
  have HTG : Hid (∀ u, Calls Tryd.prog 44 #[.int .u32 (h.bits : Int)] u fun e w' => e = .returned (.tuple #[.agg (wcs (tv h.bits)), .bool (isC h.bits)]) ∧ Below u.heap.size u w') := fun u => rtarget_any h.bits u hh.2.2.2.2.2.2.1
  clear hp hh
  unfold hdV
  go_enter Tryd.func20, Tryd.ntmps20
  go_upto_region 1 with (fail)
  generalize w.alloc (.cells (hdA h) 29) = W at *
  have HLD : Hid ((loadVar 29 ⟨w.heap.size, 0, none⟩).run Tryd.prog W = .ok (.agg (hdA h)) W) := box_hd E1.out (List.Mem.head _) HL.out
  go_wp2_with ((with_reducible refine wpList_load_run (o := ⟨some 8, _, _, _, _, _⟩) ?_ 29 (.tmp 1) ?_ ⟨w.heap.size, 0, none⟩ ?_ HLD.out ?_); (rfl); (rfl); (rfl))
  refine (HPT.out W).mono ?_
  rintro e w1 ⟨⟨v, rfl, hv⟩, hb⟩
  have E2 : Hid (EnvX w w1 [(w.heap.size, Obj.cells (hdA h) 29 (0, 0))]) := EnvX.below E1.out hb
  clear hv hb E1 HLD
  go_upto_region 2 with (fail)
  refine wp_region_Hx (w0 := w) [0, 1, 2, 3, 4, 5, 6, 7, 8] [(w.heap.size, Obj.cells (hdA h) 29 (0, 0))] rfl E2.out ?_
  refine lexH_phase [0, 1, 2, 3, 4, 5] [6, 7, 8] ?_
  have hw1 : EnvX w _ [(w.heap.size, Obj.cells (hdA h) 29 (0, 0))] := E2.out
  have hone := @EnvC.one _ _ _ hw1
  (refine wpG_op rfl rfl rfl ?_; intro K hK; go_big_quiet_op; go_big_quiet_on)
  (refine wpG_val (v := .int .u32 (h.bits : Int)) rfl rfl (fun u hu => load_any_op u (box_hd_bits hu (List.Mem.head _) HL.out) rfl) ?_ hw1; intro K hK; go_big_quiet_op; go_big_quiet_on)
  (refine wpG_call (f := 44) (args := #[.int .u32 (h.bits : Int)]) (v := .tuple #[.agg (wcs (tv h.bits)), .bool (isC h.bits)]) rfl rfl rfl Tryd.func44 rfl rfl (fun u hu => HTG.out u) ?_ hw1; intro K hK; go_big_quiet_op; go_big_quiet_on)
  (refine wpG_op rfl rfl rfl ?_; intro K hK; go_big_quiet_op; go_big_quiet_on)
  (refine wpG_op rfl rfl rfl ?_; intro K hK; go_big_quiet_op; go_big_quiet_on)
  (refine wpG_op rfl rfl rfl ?_; intro K hK; go_big_quiet_op; go_big_quiet_on)
  clear hone hw1
  refine wpG_nil ?_
  refine (hOp_fresh (R := fun x N => ∃ g, x = .pointer (some ⟨g, 0, none⟩) ∧ N = [(g, Obj.cells (wcs 0) 26 (0, 0))]) (M0 := [(w.heap.size, Obj.cells (hdA h) 29 (0, 0))]) rfl rfl (fun _ h => h) (fun u hu => FAt_new (new_wd _) u) ?_)
  rintro _ _ ⟨gt, rfl, rfl⟩ hf he2; intro K' hK'; go_big_quiet_op; go_big_quiet_on
  have HGT := Lib.hid (hf _ (List.mem_singleton.2 rfl))
  clear hf
  change lexH _ _ _ _ _ _ [(gt, Obj.cells (wcs 0) 26 (0, 0)), (w.heap.size, Obj.cells (hdA h) 29 (0, 0))]
  refine (hOp_store rfl (gt) (wcs (tv h.bits)) rfl rfl HGT.out.1 26 ((wcs 0)) (List.Mem.head _) (wc_info _) ((wc_size _).trans (wc_size _).symm) (wc_one _) [(gt, Obj.cells (wcs (tv h.bits)) 26 (0, 0)), (w.heap.size, Obj.cells (hdA h) 29 (0, 0))] (List.forall_mem_cons.2 ⟨.inl rfl, fun y hy => .inr ⟨List.mem_cons_of_mem _ hy, HGT.out.2 y hy⟩⟩) ?_)
  intro he3
  refine lexH_phase [8] [] ?_
  have hw4 : EnvX w _ [(gt, Obj.cells (wcs (tv h.bits)) 26 (0, 0)), (w.heap.size, Obj.cells (hdA h) 29 (0, 0))] := he3.choose_spec
  have hone := @EnvC.one _ _ _ hw4
  (refine wpG_op rfl rfl rfl ?_; intro K hK; go_big_quiet_op; go_big_quiet_on)
  clear hone hw4
  refine wpG_nil ?_
  intro u6 E2'
  have EX5 := Lib.hid E2'
  clear E2'
  go_upto_region 3 with (fail)
  refine wp_region_Hx (w0 := w) [0, 1, 2, 3, 4, 5] [(gt, Obj.cells (wcs (tv h.bits)) 26 (0, 0)), (w.heap.size, Obj.cells (hdA h) 29 (0, 0))] rfl EX5.out ?_
  refine lexH_phase [0, 1, 2, 3, 4, 5] [] ?_
  have hw7 : EnvX w _ [(gt, Obj.cells (wcs (tv h.bits)) 26 (0, 0)), (w.heap.size, Obj.cells (hdA h) 29 (0, 0))] := EX5.out
  have hone := @EnvC.one _ _ _ hw7
  (refine wpG_op rfl rfl rfl ?_; intro K hK; go_big_quiet_op; go_big_quiet_on)
  (refine wpG_op rfl rfl rfl ?_; intro K hK; go_big_quiet_op; go_big_quiet_on)
  (refine wpG_op rfl rfl rfl ?_; intro K hK; go_big_quiet_op; go_big_quiet_on)
  (refine wpG_skip rfl rfl ?_ hw7; intro K hK; go_big_quiet_op; go_big_quiet_on)
  (refine wpG_skip rfl rfl ?_ hw7; intro K hK; go_big_quiet_op; go_big_quiet_on)
  (refine wpG_op rfl rfl rfl ?_; intro K hK; go_big_quiet_op; go_big_quiet_on)
  clear hone hw7
  refine wpG_nil ?_
  intro u9 E2'
  have EX8 := Lib.hid E2'
  clear E2'
  have HBE := Lib.hid (EnvX.bel EX8.out)
  go_wp2
  go_ret
  exact ⟨rfl, HBE.out⟩
set_option maxRecDepth 20000 in
set_option maxHeartbeats 8000000 in
theorem rhlevel_b (h : Hd) (w : World) (hh : okHd h) (k : mayPut h = true) (hc : isC h.bits = false) :
    Calls Tryd.prog 20 #[hdV h] w fun e w' => e = .returned (.int .i64 (levelH h)) ∧ Below w.heap.size w w' := by
  have hp : putH h = (bodyH h, true) := by unfold putH; rw [if_pos k]
  have hv : levelH h = -1 := by unfold levelH; rw [k, hc]; rfl
  rw [hv]
  clear hv k
  have HL := Lib.hid hh.len
  have E1 : Hid (EnvX w (w.alloc (.cells (hdA h) 29)) [(w.heap.size, Obj.cells (hdA h) 29 (0, 0))]) := (EnvX.start w).new _
  have HPT : Hid (∀ u, Calls Tryd.prog 11 #[hdV h] u fun e w' => (∃ v, e = .returned (.tuple #[v, .bool (putH h).2]) ∧ OwnB w' u.heap.size v (putH h).1) ∧ Below u.heap.size u w') := fun u => rhput_any h u hh
  rw [hp] at HPT
  have HTG : Hid (∀ u, Calls Tryd.prog 44 #[.int .u32 (h.bits : Int)] u fun e w' => e = .returned (.tuple #[.agg (wcs (tv h.bits)), .bool (isC h.bits)]) ∧ Below u.heap.size u w') := fun u => rtarget_any h.bits u hh.2.2.2.2.2.2.1
  rw [hc] at HTG
  clear hp hh hc
  unfold hdV
  go_enter Tryd.func20, Tryd.ntmps20
  go_upto_region 1 with (fail)
  generalize w.alloc (.cells (hdA h) 29) = W at *
  have HLD : Hid ((loadVar 29 ⟨w.heap.size, 0, none⟩).run Tryd.prog W = .ok (.agg (hdA h)) W) := box_hd E1.out (List.Mem.head _) HL.out
  go_wp2_with ((with_reducible refine wpList_load_run (o := ⟨some 8, _, _, _, _, _⟩) ?_ 29 (.tmp 1) ?_ ⟨w.heap.size, 0, none⟩ ?_ HLD.out ?_); (rfl); (rfl); (rfl))
  refine (HPT.out W).mono ?_
  rintro e w1 ⟨⟨v, rfl, hv⟩, hb⟩
  have E2 : Hid (EnvX w w1 [(w.heap.size, Obj.cells (hdA h) 29 (0, 0))]) := EnvX.below E1.out hb
  clear hv hb E1 HLD
  go_upto_region 2 with (fail)
  refine wp_region_Hx (w0 := w) [0, 1, 2, 3, 4, 5, 6, 7, 8] [(w.heap.size, Obj.cells (hdA h) 29 (0, 0))] rfl E2.out ?_
  refine lexH_phase [0, 1, 2, 3, 4, 5] [6, 7, 8] ?_
  have hw1 : EnvX w _ [(w.heap.size, Obj.cells (hdA h) 29 (0, 0))] := E2.out
  have hone := @EnvC.one _ _ _ hw1
  (refine wpG_op rfl rfl rfl ?_; intro K hK; go_big_quiet_op; go_big_quiet_on)
  (refine wpG_val (v := .int .u32 (h.bits : Int)) rfl rfl (fun u hu => load_any_op u (box_hd_bits hu (List.Mem.head _) HL.out) rfl) ?_ hw1; intro K hK; go_big_quiet_op; go_big_quiet_on)
  (refine wpG_call (f := 44) (args := #[.int .u32 (h.bits : Int)]) (v := .tuple #[.agg (wcs (tv h.bits)), .bool false]) rfl rfl rfl Tryd.func44 rfl rfl (fun u hu => HTG.out u) ?_ hw1; intro K hK; go_big_quiet_op; go_big_quiet_on)
  (refine wpG_op rfl rfl rfl ?_; intro K hK; go_big_quiet_op; go_big_quiet_on)
  (refine wpG_op rfl rfl rfl ?_; intro K hK; go_big_quiet_op; go_big_quiet_on)
  (refine wpG_op rfl rfl rfl ?_; intro K hK; go_big_quiet_op; go_big_quiet_on)
  clear hone hw1
  refine wpG_nil ?_
  refine (hOp_fresh (R := fun x N => ∃ g, x = .pointer (some ⟨g, 0, none⟩) ∧ N = [(g, Obj.cells (wcs 0) 26 (0, 0))]) (M0 := [(w.heap.size, Obj.cells (hdA h) 29 (0, 0))]) rfl rfl (fun _ h => h) (fun u hu => FAt_new (new_wd _) u) ?_)
  rintro _ _ ⟨gt, rfl, rfl⟩ hf he2; intro K' hK'; go_big_quiet_op; go_big_quiet_on
  have HGT := Lib.hid (hf _ (List.mem_singleton.2 rfl))
  clear hf
  change lexH _ _ _ _ _ _ [(gt, Obj.cells (wcs 0) 26 (0, 0)), (w.heap.size, Obj.cells (hdA h) 29 (0, 0))]
  refine (hOp_store rfl (gt) (wcs (tv h.bits)) rfl rfl HGT.out.1 26 ((wcs 0)) (List.Mem.head _) (wc_info _) ((wc_size _).trans (wc_size _).symm) (wc_one _) [(gt, Obj.cells (wcs (tv h.bits)) 26 (0, 0)), (w.heap.size, Obj.cells (hdA h) 29 (0, 0))] (List.forall_mem_cons.2 ⟨.inl rfl, fun y hy => .inr ⟨List.mem_cons_of_mem _ hy, HGT.out.2 y hy⟩⟩) ?_)
  intro he3
  refine lexH_phase [8] [] ?_
  have hw4 : EnvX w _ [(gt, Obj.cells (wcs (tv h.bits)) 26 (0, 0)), (w.heap.size, Obj.cells (hdA h) 29 (0, 0))] := he3.choose_spec
  have hone := @EnvC.one _ _ _ hw4
  (refine wpG_op rfl rfl rfl ?_; intro K hK; go_big_quiet_op; go_big_quiet_on)
  clear hone hw4
  refine wpG_nil ?_
  intro u6 E2'
  have EX5 := Lib.hid E2'
  clear E2'
  go_upto_region 3 with (fail)
  refine wp_region_Hx (w0 := w) [0, 1, 2, 3, 4, 5] [(gt, Obj.cells (wcs (tv h.bits)) 26 (0, 0)), (w.heap.size, Obj.cells (hdA h) 29 (0, 0))] rfl EX5.out ?_
  refine lexH_phase [0, 1, 2, 3, 4, 5] [] ?_
  have hw7 : EnvX w _ [(gt, Obj.cells (wcs (tv h.bits)) 26 (0, 0)), (w.heap.size, Obj.cells (hdA h) 29 (0, 0))] := EX5.out
  have hone := @EnvC.one _ _ _ hw7
  (refine wpG_op rfl rfl rfl ?_; intro K hK; go_big_quiet_op; go_big_quiet_on)
  (refine wpG_op rfl rfl rfl ?_; intro K hK; go_big_quiet_op; go_big_quiet_on)
  (refine wpG_op rfl rfl rfl ?_; intro K hK; go_big_quiet_op; go_big_quiet_on)
  (refine wpG_op rfl rfl rfl ?_; intro K hK; go_big_quiet_op; go_big_quiet_on)
  (refine wpG_op rfl rfl rfl ?_; intro K hK; go_big_quiet_op; go_big_quiet_on)
  (refine wpG_op rfl rfl rfl ?_; intro K hK; go_big_quiet_op; go_big_quiet_on)
  clear hone hw7
  refine wpG_nil ?_
  intro u9 E2'
  have EX8 := Lib.hid E2'
  clear E2'
  have HBE := Lib.hid (EnvX.bel EX8.out)
  go_wp2
  go_ret
  exact ⟨rfl, HBE.out⟩
set_option maxRecDepth 20000 in
set_option maxHeartbeats 8000000 in
theorem rhlevel_c (h : Hd) (w : World) (hh : okHd h) (k : mayPut h = true) (hc : isC h.bits = true) (h0 : h.height = 0) :
    Calls Tryd.prog 20 #[hdV h] w fun e w' => e = .returned (.int .i64 (levelH h)) ∧ Below w.heap.size w w' := by
  have hp : putH h = (bodyH h, true) := by unfold putH; rw [if_pos k]
  have hv : levelH h = 31 := by unfold levelH; rw [k, hc]; exact if_pos h0
  rw [hv]
  have C0 : Hid (decide (h.height = 0) = true) := decide_eq_true h0
  clear hv k h0
  have HL := Lib.hid hh.len
  have E1 : Hid (EnvX w (w.alloc (.cells (hdA h) 29)) [(w.heap.size, Obj.cells (hdA h) 29 (0, 0))]) := (EnvX.start w).new _
  have HPT : Hid (∀ u, Calls Tryd.prog 11 #[hdV h] u fun e w' => (∃ v, e = .returned (.tuple #[v, .bool (putH h).2]) ∧ OwnB w' u.heap.size v (putH h).1) ∧ Below u.heap.size u w') := fun u => rhput_any h u hh
  rw [hp] at HPT
  have HTG : Hid (∀ u, Calls Tryd.prog 44 #[.int .u32 (h.bits : Int)] u fun e w' => e = .returned (.tuple #[.agg (wcs (tv h.bits)), .bool (isC h.bits)]) ∧ Below u.heap.size u w') := fun u => rtarget_any h.bits u hh.2.2.2.2.2.2.1
  rw [hc] at HTG
  clear hp hh hc
  unfold hdV
  go_enter Tryd.func20, Tryd.ntmps20
  go_upto_region 1 with (fail)
  generalize w.alloc (.cells (hdA h) 29) = W at *
  have HLD : Hid ((loadVar 29 ⟨w.heap.size, 0, none⟩).run Tryd.prog W = .ok (.agg (hdA h)) W) := box_hd E1.out (List.Mem.head _) HL.out
  go_wp2_with ((with_reducible refine wpList_load_run (o := ⟨some 8, _, _, _, _, _⟩) ?_ 29 (.tmp 1) ?_ ⟨w.heap.size, 0, none⟩ ?_ HLD.out ?_); (rfl); (rfl); (rfl))
  refine (HPT.out W).mono ?_
  rintro e w1 ⟨⟨v, rfl, hv⟩, hb⟩
  have E2 : Hid (EnvX w w1 [(w.heap.size, Obj.cells (hdA h) 29 (0, 0))]) := EnvX.below E1.out hb
  clear hv hb E1 HLD
  go_upto_region 2 with (fail)
  refine wp_region_Hx (w0 := w) [0, 1, 2, 3, 4, 5, 6, 7, 8] [(w.heap.size, Obj.cells (hdA h) 29 (0, 0))] rfl E2.out ?_
  refine lexH_phase [0, 1, 2, 3, 4, 5] [6, 7, 8] ?_
  have hw1 : EnvX w _ [(w.heap.size, Obj.cells (hdA h) 29 (0, 0))] := E2.out
  have hone := @EnvC.one _ _ _ hw1
  (refine wpG_op rfl rfl rfl ?_; intro K hK; go_big_quiet_op; go_big_quiet_on)
  (refine wpG_val (v := .int .u32 (h.bits : Int)) rfl rfl (fun u hu => load_any_op u (box_hd_bits hu (List.Mem.head _) HL.out) rfl) ?_ hw1; intro K hK; go_big_quiet_op; go_big_quiet_on)
  (refine wpG_call (f := 44) (args := #[.int .u32 (h.bits : Int)]) (v := .tuple #[.agg (wcs (tv h.bits)), .bool true]) rfl rfl rfl Tryd.func44 rfl rfl (fun u hu => HTG.out u) ?_ hw1; intro K hK; go_big_quiet_op; go_big_quiet_on)
  (refine wpG_op rfl rfl rfl ?_; intro K hK; go_big_quiet_op; go_big_quiet_on)
  (refine wpG_op rfl rfl rfl ?_; intro K hK; go_big_quiet_op; go_big_quiet_on)
  (refine wpG_op rfl rfl rfl ?_; intro K hK; go_big_quiet_op; go_big_quiet_on)
  clear hone hw1
  refine wpG_nil ?_
  refine (hOp_fresh (R := fun x N => ∃ g, x = .pointer (some ⟨g, 0, none⟩) ∧ N = [(g, Obj.cells (wcs 0) 26 (0, 0))]) (M0 := [(w.heap.size, Obj.cells (hdA h) 29 (0, 0))]) rfl rfl (fun _ h => h) (fun u hu => FAt_new (new_wd _) u) ?_)
  rintro _ _ ⟨gt, rfl, rfl⟩ hf he2; intro K' hK'; go_big_quiet_op; go_big_quiet_on
  have HGT := Lib.hid (hf _ (List.mem_singleton.2 rfl))
  clear hf
  change lexH _ _ _ _ _ _ [(gt, Obj.cells (wcs 0) 26 (0, 0)), (w.heap.size, Obj.cells (hdA h) 29 (0, 0))]
  refine (hOp_store rfl (gt) (wcs (tv h.bits)) rfl rfl HGT.out.1 26 ((wcs 0)) (List.Mem.head _) (wc_info _) ((wc_size _).trans (wc_size _).symm) (wc_one _) [(gt, Obj.cells (wcs (tv h.bits)) 26 (0, 0)), (w.heap.size, Obj.cells (hdA h) 29 (0, 0))] (List.forall_mem_cons.2 ⟨.inl rfl, fun y hy => .inr ⟨List.mem_cons_of_mem _ hy, HGT.out.2 y hy⟩⟩) ?_)
  intro he3
  refine lexH_phase [8] [] ?_
  have hw4 : EnvX w _ [(gt, Obj.cells (wcs (tv h.bits)) 26 (0, 0)), (w.heap.size, Obj.cells (hdA h) 29 (0, 0))] := he3.choose_spec
  have hone := @EnvC.one _ _ _ hw4
  (refine wpG_op rfl rfl rfl ?_; intro K hK; go_big_quiet_op; go_big_quiet_on)
  clear hone hw4
  refine wpG_nil ?_
  intro u6 E2'
  have EX5 := Lib.hid E2'
  clear E2'
  go_upto_region 3 with (fail)
  refine wp_region_Hx (w0 := w) [0, 1, 2, 3, 4, 5] [(gt, Obj.cells (wcs (tv h.bits)) 26 (0, 0)), (w.heap.size, Obj.cells (hdA h) 29 (0, 0))] rfl EX5.out ?_
  refine lexH_phase [0, 1, 2, 3, 4, 5] [] ?_
  have hw7 : EnvX w _ [(gt, Obj.cells (wcs (tv h.bits)) 26 (0, 0)), (w.heap.size, Obj.cells (hdA h) 29 (0, 0))] := EX5.out
  have hone := @EnvC.one _ _ _ hw7
  (refine wpG_op rfl rfl rfl ?_; intro K hK; go_big_quiet_op; go_big_quiet_on)
  (refine wpG_op rfl rfl rfl ?_; intro K hK; go_big_quiet_op; go_big_quiet_on)
  (refine wpG_op rfl rfl rfl ?_; intro K hK; go_big_quiet_op; go_big_quiet_on)
  (refine wpG_op rfl rfl rfl ?_; intro K hK; go_big_quiet_op; go_big_quiet_on)
  (refine wpG_op rfl rfl rfl ?_; intro K hK; go_big_quiet_op; go_big_quiet_on)
  (refine wpG_op rfl rfl rfl ?_; intro K hK; go_big_quiet_op; go_big_quiet_on)
  clear hone hw7
  refine wpG_nil ?_
  intro u9 E2'
  have EX8 := Lib.hid E2'
  clear E2'
  go_upto_region 5 with (fail)
  refine wp_region_Hx (w0 := w) [0, 1, 2] [(gt, Obj.cells (wcs (tv h.bits)) 26 (0, 0)), (w.heap.size, Obj.cells (hdA h) 29 (0, 0))] rfl EX8.out ?_
  refine lexH_phase [0, 1, 2] [] ?_
  have hw10 : EnvX w _ [(gt, Obj.cells (wcs (tv h.bits)) 26 (0, 0)), (w.heap.size, Obj.cells (hdA h) 29 (0, 0))] := EX8.out
  have hone := @EnvC.one _ _ _ hw10
  (refine wpG_op rfl rfl rfl ?_; intro K hK; go_big_quiet_op; go_big_quiet_on)
  (refine wpG_val (v := .int .i64 h.height) rfl rfl (fun u hu => load_any_op u (box_hd_height hu (List.Mem.tail _ (List.Mem.head _))) rfl) ?_ hw10; intro K hK; go_big_quiet_op; go_big_quiet_on)
  (refine wpG_val (v := .bool true) rfl rfl (fun u hu => eqlI_op u C0.out rfl rfl) ?_ hw10; intro K hK; go_big_quiet_op; go_big_quiet_on)
  clear hone hw10
  refine wpG_nil ?_
  intro u12 E2'
  have EX11 := Lib.hid E2'
  clear E2'
  have HBE := Lib.hid (EnvX.bel EX11.out)
  go_wp2
  go_ret
  exact ⟨rfl, HBE.out⟩
set_option maxRecDepth 20000 in
set_option maxHeartbeats 8000000 in
theorem rhlevel_d (h : Hd) (w : World) (hh : okHd h) (k : mayPut h = true) (hc : isC h.bits = true) (h0 : h.height ≠ 0) :
    Calls Tryd.prog 20 #[hdV h] w fun e w' => e = .returned (.int .i64 (levelH h)) ∧ Below w.heap.size w w' := by
  have hp : putH h = (bodyH h, true) := by unfold putH; rw [if_pos k]
  have hv : levelH h = lvI (numB (idH h)) (tv h.bits) := by unfold levelH; rw [k, hc]; exact if_neg h0
  rw [hv]
  have C0 : Hid (decide (h.height = 0) = false) := decide_eq_false h0
  clear hv k h0
  have HL := Lib.hid hh.len
  have E1 : Hid (EnvX w (w.alloc (.cells (hdA h) 29)) [(w.heap.size, Obj.cells (hdA h) 29 (0, 0))]) := (EnvX.start w).new _
  have HPT : Hid (∀ u, Calls Tryd.prog 11 #[hdV h] u fun e w' => (∃ v, e = .returned (.tuple #[v, .bool (putH h).2]) ∧ OwnB w' u.heap.size v (putH h).1) ∧ Below u.heap.size u w') := fun u => rhput_any h u hh
  rw [hp] at HPT
  have HTG : Hid (∀ u, Calls Tryd.prog 44 #[.int .u32 (h.bits : Int)] u fun e w' => e = .returned (.tuple #[.agg (wcs (tv h.bits)), .bool (isC h.bits)]) ∧ Below u.heap.size u w') := fun u => rtarget_any h.bits u hh.2.2.2.2.2.2.1
  rw [hc] at HTG
  have HID : Hid (∀ u, Calls Tryd.prog 18 #[hdV h] u fun e w' => e = .returned (idv (idH h)) ∧ Below u.heap.size u w') := fun u => rhid_any h u hh
  have HLV : Hid (∀ u, Calls Tryd.prog 45 #[idv (idH h), .agg (wcs (tv h.bits))] u fun e w' => e = .returned (.int .i64 (lvI (numB (idH h)) (tv h.bits))) ∧ Below u.heap.size u w') := fun u => by
    unfold idv
    rw [arr_idF (id_len h) (id_byte h)]
    exact rlevel_any (fun i => ((idH h).getD i 0).toNat) (byte_toNat (id_byte h)) (tv h.bits) u (tv_big h.bits)
  clear hp hh hc
  unfold hdV
  go_enter Tryd.func20, Tryd.ntmps20
  go_upto_region 1 with (fail)
  generalize w.alloc (.cells (hdA h) 29) = W at *
  have HLD : Hid ((loadVar 29 ⟨w.heap.size, 0, none⟩).run Tryd.prog W = .ok (.agg (hdA h)) W) := box_hd E1.out (List.Mem.head _) HL.out
  go_wp2_with ((with_reducible refine wpList_load_run (o := ⟨some 8, _, _, _, _, _⟩) ?_ 29 (.tmp 1) ?_ ⟨w.heap.size, 0, none⟩ ?_ HLD.out ?_); (rfl); (rfl); (rfl))
  refine (HPT.out W).mono ?_
  rintro e w1 ⟨⟨v, rfl, hv⟩, hb⟩
  have E2 : Hid (EnvX w w1 [(w.heap.size, Obj.cells (hdA h) 29 (0, 0))]) := EnvX.below E1.out hb
  clear hv hb E1 HLD
  go_upto_region 2 with (fail)
  refine wp_region_Hx (w0 := w) [0, 1, 2, 3, 4, 5, 6, 7, 8] [(w.heap.size, Obj.cells (hdA h) 29 (0, 0))] rfl E2.out ?_
  refine lexH_phase [0, 1, 2, 3, 4, 5] [6, 7, 8] ?_
  have hw1 : EnvX w _ [(w.heap.size, Obj.cells (hdA h) 29 (0, 0))] := E2.out
  have hone := @EnvC.one _ _ _ hw1
  (refine wpG_op rfl rfl rfl ?_; intro K hK; go_big_quiet_op; go_big_quiet_on)
  (refine wpG_val (v := .int .u32 (h.bits : Int)) rfl rfl (fun u hu => load_any_op u (box_hd_bits hu (List.Mem.head _) HL.out) rfl) ?_ hw1; intro K hK; go_big_quiet_op; go_big_quiet_on)
  (refine wpG_call (f := 44) (args := #[.int .u32 (h.bits : Int)]) (v := .tuple #[.agg (wcs (tv h.bits)), .bool true]) rfl rfl rfl Tryd.func44 rfl rfl (fun u hu => HTG.out u) ?_ hw1; intro K hK; go_big_quiet_op; go_big_quiet_on)
  (refine wpG_op rfl rfl rfl ?_; intro K hK; go_big_quiet_op; go_big_quiet_on)
  (refine wpG_op rfl rfl rfl ?_; intro K hK; go_big_quiet_op; go_big_quiet_on)
  (refine wpG_op rfl rfl rfl ?_; intro K hK; go_big_quiet_op; go_big_quiet_on)
  clear hone hw1
  refine wpG_nil ?_
  refine (hOp_fresh (R := fun x N => ∃ g, x = .pointer (some ⟨g, 0, none⟩) ∧ N = [(g, Obj.cells (wcs 0) 26 (0, 0))]) (M0 := [(w.heap.size, Obj.cells (hdA h) 29 (0, 0))]) rfl rfl (fun _ h => h) (fun u hu => FAt_new (new_wd _) u) ?_)
  rintro _ _ ⟨gt, rfl, rfl⟩ hf he2; intro K' hK'; go_big_quiet_op; go_big_quiet_on
  have HGT := Lib.hid (hf _ (List.mem_singleton.2 rfl))
  clear hf
  change lexH _ _ _ _ _ _ [(gt, Obj.cells (wcs 0) 26 (0, 0)), (w.heap.size, Obj.cells (hdA h) 29 (0, 0))]
  refine (hOp_store rfl (gt) (wcs (tv h.bits)) rfl rfl HGT.out.1 26 ((wcs 0)) (List.Mem.head _) (wc_info _) ((wc_size _).trans (wc_size _).symm) (wc_one _) [(gt, Obj.cells (wcs (tv h.bits)) 26 (0, 0)), (w.heap.size, Obj.cells (hdA h) 29 (0, 0))] (List.forall_mem_cons.2 ⟨.inl rfl, fun y hy => .inr ⟨List.mem_cons_of_mem _ hy, HGT.out.2 y hy⟩⟩) ?_)
  intro he3
  refine lexH_phase [8] [] ?_
  have hw4 : EnvX w _ [(gt, Obj.cells (wcs (tv h.bits)) 26 (0, 0)), (w.heap.size, Obj.cells (hdA h) 29 (0, 0))] := he3.choose_spec
  have hone := @EnvC.one _ _ _ hw4
  (refine wpG_op rfl rfl rfl ?_; intro K hK; go_big_quiet_op; go_big_quiet_on)
  clear hone hw4
  refine wpG_nil ?_
  intro u6 E2'
  have EX5 := Lib.hid E2'
  clear E2'
  go_upto_region 3 with (fail)
  refine wp_region_Hx (w0 := w) [0, 1, 2, 3, 4, 5] [(gt, Obj.cells (wcs (tv h.bits)) 26 (0, 0)), (w.heap.size, Obj.cells (hdA h) 29 (0, 0))] rfl EX5.out ?_
  refine lexH_phase [0, 1, 2, 3, 4, 5] [] ?_
  have hw7 : EnvX w _ [(gt, Obj.cells (wcs (tv h.bits)) 26 (0, 0)), (w.heap.size, Obj.cells (hdA h) 29 (0, 0))] := EX5.out
  have hone := @EnvC.one _ _ _ hw7
  (refine wpG_op rfl rfl rfl ?_; intro K hK; go_big_quiet_op; go_big_quiet_on)
  (refine wpG_op rfl rfl rfl ?_; intro K hK; go_big_quiet_op; go_big_quiet_on)
  (refine wpG_op rfl rfl rfl ?_; intro K hK; go_big_quiet_op; go_big_quiet_on)
  (refine wpG_op rfl rfl rfl ?_; intro K hK; go_big_quiet_op; go_big_quiet_on)
  (refine wpG_op rfl rfl rfl ?_; intro K hK; go_big_quiet_op; go_big_quiet_on)
  (refine wpG_op rfl rfl rfl ?_; intro K hK; go_big_quiet_op; go_big_quiet_on)
  clear hone hw7
  refine wpG_nil ?_
  intro u9 E2'
  have EX8 := Lib.hid E2'
  clear E2'
  go_upto_region 5 with (fail)
  refine wp_region_Hx (w0 := w) [0, 1, 2] [(gt, Obj.cells (wcs (tv h.bits)) 26 (0, 0)), (w.heap.size, Obj.cells (hdA h) 29 (0, 0))] rfl EX8.out ?_
  refine lexH_phase [0, 1, 2] [] ?_
  have hw10 : EnvX w _ [(gt, Obj.cells (wcs (tv h.bits)) 26 (0, 0)), (w.heap.size, Obj.cells (hdA h) 29 (0, 0))] := EX8.out
  have hone := @EnvC.one _ _ _ hw10
  (refine wpG_op rfl rfl rfl ?_; intro K hK; go_big_quiet_op; go_big_quiet_on)
  (refine wpG_val (v := .int .i64 h.height) rfl rfl (fun u hu => load_any_op u (box_hd_height hu (List.Mem.tail _ (List.Mem.head _))) rfl) ?_ hw10; intro K hK; go_big_quiet_op; go_big_quiet_on)
  (refine wpG_val (v := .bool false) rfl rfl (fun u hu => eqlI_op u C0.out rfl rfl) ?_ hw10; intro K hK; go_big_quiet_op; go_big_quiet_on)
  clear hone hw10
  refine wpG_nil ?_
  intro u12 E2'
  have EX11 := Lib.hid E2'
  clear E2'
  go_upto_region 7 with (fail)
  refine wp_region_H (w0 := w) [(gt, Obj.cells (wcs (tv h.bits)) 26 (0, 0)), (w.heap.size, Obj.cells (hdA h) 29 (0, 0))] (by kernel_rfl) EX11.out ?_
  refine anyH_phase [0, 1, 2, 3, 4] 0 rfl ⟨_, (EnvX.drew EX11.out)⟩ (by kernel_rfl) ?_
  have hw13 : EnvX w _ [(gt, Obj.cells (wcs (tv h.bits)) 26 (0, 0)), (w.heap.size, Obj.cells (hdA h) 29 (0, 0))] := (EnvX.drew EX11.out)
  have hone := @EnvC.one _ _ _ hw13
  (refine wpG_val (v := hdV h) rfl rfl (fun u hu => load_any_op u (box_hd hu (List.Mem.tail _ (List.Mem.head _)) HL.out) rfl) ?_ hw13; intro K hK; go_big_quiet_op; go_big_quiet_on)
  (refine wpG_call (f := 18) (args := #[hdV h]) (v := idv (idH h)) rfl rfl rfl Tryd.func18 rfl rfl (fun u hu => HID.out u) ?_ hw13; intro K hK; go_big_quiet_op; go_big_quiet_on)
  (refine wpG_val (v := .agg (wcs (tv h.bits))) rfl rfl (fun u hu => load_any_op u (box_wide hu (List.Mem.head _)) rfl) ?_ hw13; intro K hK; go_big_quiet_op; go_big_quiet_on)
  (refine wpG_call (f := 45) (args := #[idv (idH h), .agg (wcs (tv h.bits))]) (v := .int .i64 (lvI (numB (idH h)) (tv h.bits))) rfl rfl rfl Tryd.func45 rfl rfl (fun u hu => HLV.out u) ?_ hw13; intro K hK; go_big_quiet_op; go_big_quiet_on)
  (refine wpG_op rfl rfl rfl ?_; intro K hK; go_big_quiet_op; go_big_quiet_on)
  clear hone hw13
  refine wpG_nil ?_
  refine anyH_done (by kernel_rfl) ?_
  intro u15 E2'
  have EX14 := Lib.hid E2'
  clear E2'
  have HBE := Lib.hid (EnvX.bel EX14.out)
  go_wp2
  go_ret
  exact ⟨rfl, HBE.out⟩
theorem rhlevel_any (h : Hd) (w : World) (hh : okHd h) :
    Calls Tryd.prog 20 #[hdV h] w fun e w' => e = .returned (.int .i64 (levelH h)) ∧ Below w.heap.size w w' := by
  cases k : mayPut h with
  | false => exact rhlevel_a h w hh k
  | true =>
    cases hc : isC h.bits with
    | false => exact rhlevel_b h w hh k hc
    | true =>
      by_cases h0 : h.height = 0
      · exact rhlevel_c h w hh k hc h0
      · exact rhlevel_d h w hh k hc h0
set_option maxRecDepth 20000 in
set_option maxHeartbeats 8000000 in
theorem rhmay_any (h : Hd) (w : World) (hh : okHd h) :
    Calls Tryd.prog 16 #[hdV h] w fun e w' => e = .returned (.bool (mayH h)) ∧ Below w.heap.size w w' := by
  have HL := Lib.hid hh.len
  have E1 : Hid (EnvX w (w.alloc (.cells (hdA h) 29)) [(w.heap.size, Obj.cells (hdA h) 29 (0, 0))]) := (EnvX.start w).new _
  have HLV : Hid (∀ u, Calls Tryd.prog 20 #[hdV h] u fun e w' => e = .returned (.int .i64 (levelH h)) ∧ Below u.heap.size u w') := fun u => rhlevel_any h u hh
  have HM : Hid (decide (0 ≤ levelH h) = mayH h) := rfl
  clear hh
  unfold hdV
  go_enter Tryd.func16, Tryd.ntmps16
  go_upto_region 1 with (fail)
  generalize w.alloc (.cells (hdA h) 29) = W at *
  refine wp_region_Hx (w0 := w) [0, 1, 2, 3] [(w.heap.size, Obj.cells (hdA h) 29 (0, 0))] rfl E1.out ?_
  refine lexH_phase [0, 1, 2, 3] [] ?_
  have hw1 : EnvX w _ [(w.heap.size, Obj.cells (hdA h) 29 (0, 0))] := E1.out
  have hone := @EnvC.one _ _ _ hw1
  (refine wpG_val (v := hdV h) rfl rfl (fun u hu => load_any_op u (box_hd hu (List.Mem.head _) HL.out) rfl) ?_ hw1; intro K hK; go_big_quiet_op; go_big_quiet_on)
  (refine wpG_call (f := 20) (args := #[hdV h]) (v := .int .i64 (levelH h)) rfl rfl rfl Tryd.func20 rfl rfl (fun u hu => HLV.out u) ?_ hw1; intro K hK; go_big_quiet_op; go_big_quiet_on)
  (refine wpG_val (v := .bool (mayH h)) rfl rfl (fun u hu => geq_op u HM.out rfl rfl) ?_ hw1; intro K hK; go_big_quiet_op; go_big_quiet_on)
  (refine wpG_op rfl rfl rfl ?_; intro K hK; go_big_quiet_op; go_big_quiet_on)
  clear hone hw1
  refine wpG_nil ?_
  intro u3 E2'
  have EX2 := Lib.hid E2'
  clear E2'
  have HBE := Lib.hid (EnvX.bel EX2.out)
  go_wp2
  go_ret
  exact ⟨rfl, HBE.out⟩
set_option maxRecDepth 20000 in
set_option maxHeartbeats 8000000 in
theorem rhwork_no (h : Hd) (w : World) (hh : okHd h) (hc : isC h.bits = false) :
    Calls Tryd.prog 22 #[hdV h] w fun e w' => e = .returned (.agg (wcs (workH h))) ∧ Below w.heap.size w w' := by
  have hw : workH h = 0 := by unfold workH; rw [hc]; rfl
  rw [hw]
  have HL := Lib.hid hh.len
  have HLE : Hid (w.heap.size ≤ w.heap.size + 1) := by show _ ≤ _; omega
  have E1 : Hid (EnvX w ((w.alloc (.cells (hdA h) 29)).alloc (.cells (wcs 0) 26)) [(w.heap.size + 1, Obj.cells (wcs 0) 26 (0, 0)), (w.heap.size, Obj.cells (hdA h) 29 (0, 0))]) := (EnvX.start w).two _ _
  have HTG : Hid (∀ u, Calls Tryd.prog 44 #[.int .u32 (h.bits : Int)] u fun e w' => e = .returned (.tuple #[.agg (wcs (tv h.bits)), .bool (isC h.bits)]) ∧ Below u.heap.size u w') := fun u => rtarget_any h.bits u hh.2.2.2.2.2.2.1
  rw [hc] at HTG
  have HWK : Hid (∀ u, Calls Tryd.prog 46 #[.agg (wcs (tv h.bits))] u fun e w' => e = .returned (.agg (wcs (wkV (tv h.bits)))) ∧ Below u.heap.size u w') := fun u => rwork_any (tv h.bits) u (tv_big h.bits)
  clear hh hc hw
  unfold hdV
  go_enter Tryd.func22, Tryd.ntmps22
  go_upto_region 1 with (fail)
  rw [zero_wcs]
  generalize (w.alloc (.cells (hdA h) 29)).alloc (.cells (wcs 0) 26) = W at *
  refine wp_region_Hx (w0 := w) [0, 1, 2, 3, 4, 5, 6, 7, 8] [(w.heap.size + 1, Obj.cells (wcs 0) 26 (0, 0)), (w.heap.size, Obj.cells (hdA h) 29 (0, 0))] rfl E1.out ?_
  refine lexH_phase [0, 1, 2, 3, 4, 5] [6, 7, 8] ?_
  have hw1 : EnvX w _ [(w.heap.size + 1, Obj.cells (wcs 0) 26 (0, 0)), (w.heap.size, Obj.cells (hdA h) 29 (0, 0))] := E1.out
  have hone := @EnvC.one _ _ _ hw1
  (refine wpG_op rfl rfl rfl ?_; intro K hK; go_big_quiet_op; go_big_quiet_on)
  (refine wpG_val (v := .int .u32 (h.bits : Int)) rfl rfl (fun u hu => load_any_op u (box_hd_bits hu (List.Mem.tail _ (List.Mem.head _)) HL.out) rfl) ?_ hw1; intro K hK; go_big_quiet_op; go_big_quiet_on)
  (refine wpG_call (f := 44) (args := #[.int .u32 (h.bits : Int)]) (v := .tuple #[.agg (wcs (tv h.bits)), .bool false]) rfl rfl rfl Tryd.func44 rfl rfl (fun u hu => HTG.out u) ?_ hw1; intro K hK; go_big_quiet_op; go_big_quiet_on)
  (refine wpG_op rfl rfl rfl ?_; intro K hK; go_big_quiet_op; go_big_quiet_on)
  (refine wpG_op rfl rfl rfl ?_; intro K hK; go_big_quiet_op; go_big_quiet_on)
  (refine wpG_op rfl rfl rfl ?_; intro K hK; go_big_quiet_op; go_big_quiet_on)
  clear hone hw1
  refine wpG_nil ?_
  refine (hOp_fresh (R := fun x N => ∃ g, x = .pointer (some ⟨g, 0, none⟩) ∧ N = [(g, Obj.cells (wcs 0) 26 (0, 0))]) (M0 := [(w.heap.size + 1, Obj.cells (wcs 0) 26 (0, 0)), (w.heap.size, Obj.cells (hdA h) 29 (0, 0))]) rfl rfl (fun _ h => h) (fun u hu => FAt_new (new_wd _) u) ?_)
  rintro _ _ ⟨gt, rfl, rfl⟩ hf he2; intro K' hK'; go_big_quiet_op; go_big_quiet_on
  have HGT := Lib.hid (hf _ (List.mem_singleton.2 rfl))
  clear hf
  change lexH _ _ _ _ _ _ [(gt, Obj.cells (wcs 0) 26 (0, 0)), (w.heap.size + 1, Obj.cells (wcs 0) 26 (0, 0)), (w.heap.size, Obj.cells (hdA h) 29 (0, 0))]
  refine (hOp_store rfl (gt) (wcs (tv h.bits)) rfl rfl HGT.out.1 26 ((wcs 0)) (List.Mem.head _) (wc_info _) ((wc_size _).trans (wc_size _).symm) (wc_one _) [(gt, Obj.cells (wcs (tv h.bits)) 26 (0, 0)), (w.heap.size + 1, Obj.cells (wcs 0) 26 (0, 0)), (w.heap.size, Obj.cells (hdA h) 29 (0, 0))] (List.forall_mem_cons.2 ⟨.inl rfl, fun y hy => .inr ⟨List.mem_cons_of_mem _ hy, HGT.out.2 y hy⟩⟩) ?_)
  intro he3
  refine lexH_phase [8] [] ?_
  have hw4 : EnvX w _ [(gt, Obj.cells (wcs (tv h.bits)) 26 (0, 0)), (w.heap.size + 1, Obj.cells (wcs 0) 26 (0, 0)), (w.heap.size, Obj.cells (hdA h) 29 (0, 0))] := he3.choose_spec
  have hone := @EnvC.one _ _ _ hw4
  (refine wpG_op rfl rfl rfl ?_; intro K hK; go_big_quiet_op; go_big_quiet_on)
  clear hone hw4
  refine wpG_nil ?_
  intro u6 E2'
  have EX5 := Lib.hid E2'
  clear E2'
  go_upto_region 3 with (fail)
  refine wp_region_Hx (w0 := w) [0, 1] [(gt, Obj.cells (wcs (tv h.bits)) 26 (0, 0)), (w.heap.size + 1, Obj.cells (wcs 0) 26 (0, 0)), (w.heap.size, Obj.cells (hdA h) 29 (0, 0))] rfl EX5.out ?_
  refine lexH_phase [0] [1] ?_
  have hw7 : EnvX w _ [(gt, Obj.cells (wcs (tv h.bits)) 26 (0, 0)), (w.heap.size + 1, Obj.cells (wcs 0) 26 (0, 0)), (w.heap.size, Obj.cells (hdA h) 29 (0, 0))] := EX5.out
  have hone := @EnvC.one _ _ _ hw7
  (refine wpG_val (v := .agg (wcs 0)) rfl rfl (fun u hu => buildA_op u hbuilt_w0) ?_ hw7; intro K hK; go_big_quiet_op; go_big_quiet_on)
  clear hone hw7
  refine wpG_nil ?_
  refine (hOp_store rfl (w.heap.size + 1) (wcs 0) rfl rfl HLE.out 26 ((wcs 0)) (List.Mem.tail _ (List.Mem.head _)) (wc_info _) ((wc_size _).trans (wc_size _).symm) (wc_one _) [(w.heap.size + 1, Obj.cells (wcs 0) 26 (0, 0))] (List.forall_mem_cons.2 ⟨.inl rfl, (fun _ h => by cases h)⟩) ?_)
  intro he8
  intro u10 E2'
  have EX9 := Lib.hid E2'
  clear E2'
  have Q0 := Lib.hid (EnvX.box EX9.out _ _ (List.Mem.head _))
  have HBEL := Lib.hid EX9.out.bel
  clear EX9
  go_wp2_with ((with_reducible refine bodyPost_ret (v := .agg (wcs 0)) ?_ ?_ ?_); (exact results_cell_row (p := 2) (ty := 26) Tryd.results22 _ _ (w.heap.size + 1) 26 (wcs 0) (0, 0) _ rfl Q0.out Tryd.underlying26 rfl (wc_info _)); (rfl))
  first | exact HBEL.out | exact ⟨rfl, HBEL.out⟩
set_option maxRecDepth 20000 in
set_option maxHeartbeats 8000000 in
theorem rhwork_yes (h : Hd) (w : World) (hh : okHd h) (hc : isC h.bits = true) :
    Calls Tryd.prog 22 #[hdV h] w fun e w' => e = .returned (.agg (wcs (workH h))) ∧ Below w.heap.size w w' := by
  have hw : workH h = wkV (tv h.bits) := by unfold workH; rw [hc]; rfl
  rw [hw]
  have HL := Lib.hid hh.len
  have HLE : Hid (w.heap.size ≤ w.heap.size + 1) := by show _ ≤ _; omega
  have E1 : Hid (EnvX w ((w.alloc (.cells (hdA h) 29)).alloc (.cells (wcs 0) 26)) [(w.heap.size + 1, Obj.cells (wcs 0) 26 (0, 0)), (w.heap.size, Obj.cells (hdA h) 29 (0, 0))]) := (EnvX.start w).two _ _
  have HTG : Hid (∀ u, Calls Tryd.prog 44 #[.int .u32 (h.bits : Int)] u fun e w' => e = .returned (.tuple #[.agg (wcs (tv h.bits)), .bool (isC h.bits)]) ∧ Below u.heap.size u w') := fun u => rtarget_any h.bits u hh.2.2.2.2.2.2.1
  rw [hc] at HTG
  have HWK : Hid (∀ u, Calls Tryd.prog 46 #[.agg (wcs (tv h.bits))] u fun e w' => e = .returned (.agg (wcs (wkV (tv h.bits)))) ∧ Below u.heap.size u w') := fun u => rwork_any (tv h.bits) u (tv_big h.bits)
  clear hh hc hw
  unfold hdV
  go_enter Tryd.func22, Tryd.ntmps22
  go_upto_region 1 with (fail)
  rw [zero_wcs]
  generalize (w.alloc (.cells (hdA h) 29)).alloc (.cells (wcs 0) 26) = W at *
  refine wp_region_Hx (w0 := w) [0, 1, 2, 3, 4, 5, 6, 7, 8] [(w.heap.size + 1, Obj.cells (wcs 0) 26 (0, 0)), (w.heap.size, Obj.cells (hdA h) 29 (0, 0))] rfl E1.out ?_
  refine lexH_phase [0, 1, 2, 3, 4, 5] [6, 7, 8] ?_
  have hw1 : EnvX w _ [(w.heap.size + 1, Obj.cells (wcs 0) 26 (0, 0)), (w.heap.size, Obj.cells (hdA h) 29 (0, 0))] := E1.out
  have hone := @EnvC.one _ _ _ hw1
  (refine wpG_op rfl rfl rfl ?_; intro K hK; go_big_quiet_op; go_big_quiet_on)
  (refine wpG_val (v := .int .u32 (h.bits : Int)) rfl rfl (fun u hu => load_any_op u (box_hd_bits hu (List.Mem.tail _ (List.Mem.head _)) HL.out) rfl) ?_ hw1; intro K hK; go_big_quiet_op; go_big_quiet_on)
  (refine wpG_call (f := 44) (args := #[.int .u32 (h.bits : Int)]) (v := .tuple #[.agg (wcs (tv h.bits)), .bool true]) rfl rfl rfl Tryd.func44 rfl rfl (fun u hu => HTG.out u) ?_ hw1; intro K hK; go_big_quiet_op; go_big_quiet_on)
  (refine wpG_op rfl rfl rfl ?_; intro K hK; go_big_quiet_op; go_big_quiet_on)
  (refine wpG_op rfl rfl rfl ?_; intro K hK; go_big_quiet_op; go_big_quiet_on)
  (refine wpG_op rfl rfl rfl ?_; intro K hK; go_big_quiet_op; go_big_quiet_on)
  clear hone hw1
  refine wpG_nil ?_
  refine (hOp_fresh (R := fun x N => ∃ g, x = .pointer (some ⟨g, 0, none⟩) ∧ N = [(g, Obj.cells (wcs 0) 26 (0, 0))]) (M0 := [(w.heap.size + 1, Obj.cells (wcs 0) 26 (0, 0)), (w.heap.size, Obj.cells (hdA h) 29 (0, 0))]) rfl rfl (fun _ h => h) (fun u hu => FAt_new (new_wd _) u) ?_)
  rintro _ _ ⟨gt, rfl, rfl⟩ hf he2; intro K' hK'; go_big_quiet_op; go_big_quiet_on
  have HGT := Lib.hid (hf _ (List.mem_singleton.2 rfl))
  clear hf
  change lexH _ _ _ _ _ _ [(gt, Obj.cells (wcs 0) 26 (0, 0)), (w.heap.size + 1, Obj.cells (wcs 0) 26 (0, 0)), (w.heap.size, Obj.cells (hdA h) 29 (0, 0))]
  refine (hOp_store rfl (gt) (wcs (tv h.bits)) rfl rfl HGT.out.1 26 ((wcs 0)) (List.Mem.head _) (wc_info _) ((wc_size _).trans (wc_size _).symm) (wc_one _) [(gt, Obj.cells (wcs (tv h.bits)) 26 (0, 0)), (w.heap.size + 1, Obj.cells (wcs 0) 26 (0, 0)), (w.heap.size, Obj.cells (hdA h) 29 (0, 0))] (List.forall_mem_cons.2 ⟨.inl rfl, fun y hy => .inr ⟨List.mem_cons_of_mem _ hy, HGT.out.2 y hy⟩⟩) ?_)
  intro he3
  refine lexH_phase [8] [] ?_
  have hw4 : EnvX w _ [(gt, Obj.cells (wcs (tv h.bits)) 26 (0, 0)), (w.heap.size + 1, Obj.cells (wcs 0) 26 (0, 0)), (w.heap.size, Obj.cells (hdA h) 29 (0, 0))] := he3.choose_spec
  have hone := @EnvC.one _ _ _ hw4
  (refine wpG_op rfl rfl rfl ?_; intro K hK; go_big_quiet_op; go_big_quiet_on)
  clear hone hw4
  refine wpG_nil ?_
  intro u6 E2'
  have EX5 := Lib.hid E2'
  clear E2'
  go_upto_region 4 with (fail)
  refine wp_region_Hx (w0 := w) [0, 1, 2] [(gt, Obj.cells (wcs (tv h.bits)) 26 (0, 0)), (w.heap.size + 1, Obj.cells (wcs 0) 26 (0, 0)), (w.heap.size, Obj.cells (hdA h) 29 (0, 0))] rfl EX5.out ?_
  refine lexH_phase [0, 1] [2] ?_
  have hw7 : EnvX w _ [(gt, Obj.cells (wcs (tv h.bits)) 26 (0, 0)), (w.heap.size + 1, Obj.cells (wcs 0) 26 (0, 0)), (w.heap.size, Obj.cells (hdA h) 29 (0, 0))] := EX5.out
  have hone := @EnvC.one _ _ _ hw7
  (refine wpG_val (v := .agg (wcs (tv h.bits))) rfl rfl (fun u hu => load_any_op u (box_wide hu (List.Mem.head _)) rfl) ?_ hw7; intro K hK; go_big_quiet_op; go_big_quiet_on)
  (refine wpG_call (f := 46) (args := #[.agg (wcs (tv h.bits))]) (v := .agg (wcs (wkV (tv h.bits)))) rfl rfl rfl Tryd.func46 rfl rfl (fun u hu => HWK.out u) ?_ hw7; intro K hK; go_big_quiet_op; go_big_quiet_on)
  clear hone hw7
  refine wpG_nil ?_
  refine (hOp_store rfl (w.heap.size + 1) (wcs (wkV (tv h.bits))) rfl rfl HLE.out 26 ((wcs 0)) (List.Mem.tail _ (List.Mem.head _)) (wc_info _) ((wc_size _).trans (wc_size _).symm) (wc_one _) [(w.heap.size + 1, Obj.cells (wcs (wkV (tv h.bits))) 26 (0, 0))] (List.forall_mem_cons.2 ⟨.inl rfl, (fun _ h => by cases h)⟩) ?_)
  intro he8
  intro u10 E2'
  have EX9 := Lib.hid E2'
  clear E2'
  have Q0 := Lib.hid (EnvX.box EX9.out _ _ (List.Mem.head _))
  have HBEL := Lib.hid EX9.out.bel
  clear EX9
  go_wp2_with ((with_reducible refine bodyPost_ret (v := .agg (wcs (wkV (tv h.bits)))) ?_ ?_ ?_); (exact results_cell_row (p := 2) (ty := 26) Tryd.results22 _ _ (w.heap.size + 1) 26 (wcs (wkV (tv h.bits))) (0, 0) _ rfl Q0.out Tryd.underlying26 rfl (wc_info _)); (rfl))
  first | exact HBEL.out | exact ⟨rfl, HBEL.out⟩
theorem rhwork_any (h : Hd) (w : World) (hh : okHd h) :
    Calls Tryd.prog 22 #[hdV h] w fun e w' => e = .returned (.agg (wcs (workH h))) ∧ Below w.heap.size w w' := by
  cases hc : isC h.bits with
  | false => exact rhwork_no h w hh hc
  | true => exact rhwork_yes h w hh hc
end Go.Proofs.YtmpjgfecnnefeaaDoor

namespace Go.Proofs.YtmpjgfecnnefeaaDoor
set_option maxRecDepth 8000
open Go.RowKit

section
variable {a : Act} {dst : Option Tmp} {x y : Operand} {ty : TypeId} {pos : String} {after : Array Edge} {gd : Option (Nat × Bool)}
end
set_option maxRecDepth 20000 in
set_option maxHeartbeats 8000000 in
theorem rhmine_any (h : Hd) (tries : Int) (w : World) (hh : okHd h) (ht : I64 tries) :
    Calls Tryd.prog 15 #[hdV h, .int .i64 tries] w fun e w' => e = .returned (.tuple #[hdV (mineH h tries).1, .bool (mineH h tries).2]) ∧ Below w.heap.size w w' := by
  have HL := Lib.hid hh.len
  have HOK := Lib.hid hh
  have HLE : Hid (w.heap.size ≤ w.heap.size + 1) := by show _ ≤ _; omega
  have HZN : Hid (lenH noHd) := ⟨rfl, rfl, rfl, rfl⟩
  obtain ⟨K, hK⟩ : ∃ K, (min tries 200).toNat = K := ⟨_, rfl⟩
  have hK200 : K ≤ 200 := by omega
  have HK := Lib.hid hK
  have HMY : Hid (∀ (k : Nat) (u : World), Calls Tryd.prog 16 #[hdV (nonceAt h k)] u fun e w' => e = .returned (.bool (mayH (nonceAt h k))) ∧ Below u.heap.size u w') := fun k u => rhmay_any (nonceAt h k) u (okHd_nonce hh k)
  have HN0 := Lib.hid (nonce_zero hh)
  have E1 : Hid (EnvX w ((w.alloc (.cells (hdA h) 29)).alloc (.cells (hdA noHd) 29)) [(w.heap.size + 1, Obj.cells (hdA noHd) 29 (0, 0)), (w.heap.size, Obj.cells (hdA h) 29 (0, 0))]) := (EnvX.start w).two _ _
  unfold I64 at ht
  clear hh
  unfold hdV
  go_enter Tryd.func15, Tryd.ntmps15
  go_upto_region 1 with (fail)
  rw [← zero_hdA]
  generalize (w.alloc (.cells (hdA h) 29)).alloc (.cells (hdA noHd) 29) = W at *
  refine wp_region_Hx (w0 := w) [0, 1, 2] [(w.heap.size + 1, Obj.cells (hdA noHd) 29 (0, 0)), (w.heap.size, Obj.cells (hdA h) 29 (0, 0))] rfl E1.out ?_
  refine lexH_phase [0] [1, 2] ?_
  have hw1 : EnvX w _ [(w.heap.size + 1, Obj.cells (hdA noHd) 29 (0, 0)), (w.heap.size, Obj.cells (hdA h) 29 (0, 0))] := E1.out
  have hone := @EnvC.one _ _ _ hw1
  (refine wpG_val (v := hdV h) rfl rfl (fun u hu => load_any_op u (box_hd hu (List.Mem.tail _ (List.Mem.head _)) HL.out) rfl) ?_ hw1; intro K hK; go_big_quiet_op; go_big_quiet_on)
  clear hone hw1
  refine wpG_nil ?_
  refine (hOp_fresh (R := fun x N => ∃ g, x = .pointer (some ⟨g, 0, none⟩) ∧ N = [(g, Obj.cells (hdA noHd) 29 (0, 0))]) (M0 := [(w.heap.size + 1, Obj.cells (hdA noHd) 29 (0, 0)), (w.heap.size, Obj.cells (hdA h) 29 (0, 0))]) rfl rfl (fun _ h => h) (fun u hu => FAt_new (new_hd _) u) ?_)
  rintro _ _ ⟨gx, rfl, rfl⟩ hf he2; intro K' hK'; go_big_quiet_op; go_big_quiet_on
  have HGX := Lib.hid (hf _ (List.mem_singleton.2 rfl))
  clear hf
  change lexH _ _ _ _ _ _ [(gx, Obj.cells (hdA noHd) 29 (0, 0)), (w.heap.size + 1, Obj.cells (hdA noHd) 29 (0, 0)), (w.heap.size, Obj.cells (hdA h) 29 (0, 0))]
  refine (hOp_store rfl (gx) (hdA h) rfl rfl HGX.out.1 29 ((hdA noHd)) (List.Mem.head _) (infoHd _ (hdA_size HL.out)) ((hdA_size HZN.out).trans (hdA_size HL.out).symm) (hdA_one _) [(gx, Obj.cells (hdA h) 29 (0, 0)), (w.heap.size + 1, Obj.cells (hdA noHd) 29 (0, 0)), (w.heap.size, Obj.cells (hdA h) 29 (0, 0))] (List.forall_mem_cons.2 ⟨.inl rfl, fun y hy => .inr ⟨List.mem_cons_of_mem _ hy, HGX.out.2 y hy⟩⟩) ?_)
  intro he3
  intro u5 E2'
  have EX4 := Lib.hid E2'
  clear E2'
  have EI : Hid (EnvX w u5 [(gx, Obj.cells (hdA (nonceAt h 0)) 29 (0, 0)), (w.heap.size + 1, Obj.cells (hdA noHd) 29 (0, 0)), (w.heap.size, Obj.cells (hdA h) 29 (0, 0))]) := by rw [HN0.out]; exact EX4.out
  clear EX4 E1
  generalize u5 = U at *
  go_upto_region 3 with (fail)
  go_loopw [7] (fun iv u => ∃ k : Nat, k ≤ K ∧ iv = .int .i64 (k : Int) ∧ Hid ((∀ j, j < k → mayH (nonceAt h j) = false) ∧ EnvX w u [(gx, Obj.cells (hdA (nonceAt h k)) 29 (0, 0)), (w.heap.size + 1, Obj.cells (hdA noHd) 29 (0, 0)), (w.heap.size, Obj.cells (hdA h) 29 (0, 0))])) (fun iv _ => K - (intOf iv).toNat)
  case atStart => exact ⟨0, by omega, rfl, fun j hj => by omega, EI.out⟩
  case round =>
    obtain ⟨k, hk, rfl, hinv⟩ := hrel
    have HNO := Lib.hid hinv.out.1
    have EK := Lib.hid hinv.out.2
    clear hinv EI
    have HLK : lenH (nonceAt h k) := HL.out
    by_cases hlt : k < K
    · have C2 : Hid (decide ((k : Int) < tries) = true) := decide_eq_true (by omega)
      have C5 : Hid (decide ((k : Int) < 200) = true) := decide_eq_true (by omega)
      go_upto_region 3 with (fail)
      refine wp_region_Hx (w0 := w) [0, 1, 2, 3, 4, 5, 6] [(gx, Obj.cells (hdA (nonceAt h k)) 29 (0, 0)), (w.heap.size + 1, Obj.cells (hdA noHd) 29 (0, 0)), (w.heap.size, Obj.cells (hdA h) 29 (0, 0))] rfl EK.out ?_
      refine lexH_phase [0, 1, 2, 3, 4, 5, 6] [] ?_
      have hw101 : EnvX w _ [(gx, Obj.cells (hdA (nonceAt h k)) 29 (0, 0)), (w.heap.size + 1, Obj.cells (hdA noHd) 29 (0, 0)), (w.heap.size, Obj.cells (hdA h) 29 (0, 0))] := EK.out
      have hone := @EnvC.one _ _ _ hw101
      (refine wpG_op rfl rfl rfl ?_; intro K hK; go_big_quiet_op; go_big_quiet_on)
      (refine wpG_op rfl rfl rfl ?_; intro K hK; go_big_quiet_op; go_big_quiet_on)
      (refine wpG_val (v := .bool true) rfl rfl (fun u hu => ltZ_op u C2.out rfl rfl) ?_ hw101; intro K hK; go_big_quiet_op; go_big_quiet_on)
      (refine wpG_op rfl rfl rfl ?_; intro K hK; go_big_quiet_op; go_big_quiet_on)
      (refine wpG_op rfl rfl rfl ?_; intro K hK; go_big_quiet_op; go_big_quiet_on)
      (refine wpG_val (v := .bool true) rfl rfl (fun u hu => ltZ_op u C5.out rfl rfl) ?_ hw101; intro K hK; go_big_quiet_op; go_big_quiet_on)
      (refine wpG_op rfl rfl rfl ?_; intro K hK; go_big_quiet_op; go_big_quiet_on)
      clear hone hw101
      refine wpG_nil ?_
      intro u103 E2'
      have EX102 := Lib.hid E2'
      clear E2'
      go_upto_region 5 with (fail)
      refine wp_region_Hx (w0 := w) [0, 1, 2] [(gx, Obj.cells (hdA (nonceAt h k)) 29 (0, 0)), (w.heap.size + 1, Obj.cells (hdA noHd) 29 (0, 0)), (w.heap.size, Obj.cells (hdA h) 29 (0, 0))] rfl EX102.out ?_
      refine lexH_phase [0, 1, 2] [] ?_
      have hw104 : EnvX w _ [(gx, Obj.cells (hdA (nonceAt h k)) 29 (0, 0)), (w.heap.size + 1, Obj.cells (hdA noHd) 29 (0, 0)), (w.heap.size, Obj.cells (hdA h) 29 (0, 0))] := EX102.out
      have hone := @EnvC.one _ _ _ hw104
      (refine wpG_val (v := hdV (nonceAt h k)) rfl rfl (fun u hu => load_any_op u (box_hd hu (List.Mem.head _) HLK) rfl) ?_ hw104; intro K hK; go_big_quiet_op; go_big_quiet_on)
      (refine wpG_call (f := 16) (args := #[hdV (nonceAt h k)]) (v := .bool (mayH (nonceAt h k))) rfl rfl rfl Tryd.func16 rfl rfl (fun u hu => HMY.out k u) ?_ hw104; intro K hK; go_big_quiet_op; go_big_quiet_on)
      (refine wpG_op rfl rfl rfl ?_; intro K hK; go_big_quiet_op; go_big_quiet_on)
      clear hone hw104
      refine wpG_nil ?_
      intro u106 E2'
      have EX105 := Lib.hid E2'
      clear E2'
      cases hm : mayH (nonceAt h k) with
      | true =>
        have HMI := mine_some (h := h) (tries := tries) (k := k) (by rw [HK.out]; exact hlt) HNO.out hm
        clear hm
        go_upto_region 7 with (fail)
        refine wp_region_Hx (w0 := w) [0, 1, 2] [(gx, Obj.cells (hdA (nonceAt h k)) 29 (0, 0)), (w.heap.size + 1, Obj.cells (hdA noHd) 29 (0, 0)), (w.heap.size, Obj.cells (hdA h) 29 (0, 0))] rfl EX105.out ?_
        refine lexH_phase [0] [1, 2] ?_
        have hw107 : EnvX w _ [(gx, Obj.cells (hdA (nonceAt h k)) 29 (0, 0)), (w.heap.size + 1, Obj.cells (hdA noHd) 29 (0, 0)), (w.heap.size, Obj.cells (hdA h) 29 (0, 0))] := EX105.out
        have hone := @EnvC.one _ _ _ hw107
        (refine wpG_val (v := hdV (nonceAt h k)) rfl rfl (fun u hu => load_any_op u (box_hd hu (List.Mem.head _) HLK) rfl) ?_ hw107; intro K hK; go_big_quiet_op; go_big_quiet_on)
        clear hone hw107
        refine wpG_nil ?_
        refine (hOp_store rfl (w.heap.size + 1) (hdA (nonceAt h k)) rfl rfl HLE.out 29 ((hdA noHd)) (List.Mem.tail _ (List.Mem.head _)) (infoHd _ (hdA_size HLK)) ((hdA_size HZN.out).trans (hdA_size HLK).symm) (hdA_one _) [(w.heap.size + 1, Obj.cells (hdA (nonceAt h k)) 29 (0, 0))] (List.forall_mem_cons.2 ⟨.inl rfl, (fun _ h => by cases h)⟩) ?_)
        intro he108
        refine lexH_phase [2] [] ?_
        have hw109 : EnvX w _ [(w.heap.size + 1, Obj.cells (hdA (nonceAt h k)) 29 (0, 0))] := he108.choose_spec
        have hone := @EnvC.one _ _ _ hw109
        (refine wpG_op rfl rfl rfl ?_; intro K hK; go_big_quiet_op; go_big_quiet_on)
        clear hone hw109
        refine wpG_nil ?_
        intro u111 E2'
        have EX110 := Lib.hid E2'
        clear E2'
        have Q0 := Lib.hid (EnvX.box EX110.out _ _ (List.Mem.head _))
        have HBEL := Lib.hid EX110.out.bel
        clear EX110
        go_wp2_with ((with_reducible refine bodyPost_ret (v := .tuple #[.agg (hdA (nonceAt h k)), .bool true]) ?_ ?_ ?_); (exact results_row_slot (p := 4) (q := 5) (ty := 29) Tryd.results15 _ _ (w.heap.size + 1) 29 (hdA (nonceAt h k)) (0, 0) _ rfl _ rfl Q0.out Tryd.underlying29 rfl (infoHd _ (hdA_size HLK))); (rfl))
        first | exact HBEL.out | (rw [HMI]; exact ⟨rfl, HBEL.out⟩)
      | false =>
        have HNX : Hid (IntKind.u64.wrap (((nonceAt h k).nonce : Int) + 1) = (((nonceAt h (k + 1)).nonce : Nat) : Int)) := by
          show _ = (((h.nonce + (k + 1)) % 18446744073709551616 : Nat) : Int)
          rw [IntKind.wrap_u64]
          have e : (nonceAt h k).nonce = (h.nonce + k) % 18446744073709551616 := rfl
          rw [e]
          omega
        have HGE := Lib.hid HGX.out.1
        go_upto_region 8 with (fail)
        refine wp_region_Hx (w0 := w) [0, 1, 2, 3, 4] [(gx, Obj.cells (hdA (nonceAt h k)) 29 (0, 0)), (w.heap.size + 1, Obj.cells (hdA noHd) 29 (0, 0)), (w.heap.size, Obj.cells (hdA h) 29 (0, 0))] rfl EX105.out ?_
        refine lexH_phase [0, 1, 2, 3] [4] ?_
        have hw107 : EnvX w _ [(gx, Obj.cells (hdA (nonceAt h k)) 29 (0, 0)), (w.heap.size + 1, Obj.cells (hdA noHd) 29 (0, 0)), (w.heap.size, Obj.cells (hdA h) 29 (0, 0))] := EX105.out
        have hone := @EnvC.one _ _ _ hw107
        (refine wpG_op rfl rfl rfl ?_; intro K hK; go_big_quiet_op; go_big_quiet_on)
        (refine wpG_val (v := .int .u64 ((nonceAt h k).nonce : Int)) rfl rfl (fun u hu => load_any_op u (box_hd_nonce hu (List.Mem.head _) HLK) rfl) ?_ hw107; intro K hK; go_big_quiet_op; go_big_quiet_on)
        (refine wpG_val (v := .int .u64 ((nonceAt h (k + 1)).nonce : Int)) rfl rfl (fun u hu => addU_op u HNX.out rfl rfl) ?_ hw107; intro K hK; go_big_quiet_op; go_big_quiet_on)
        (refine wpG_op rfl rfl rfl ?_; intro K hK; go_big_quiet_op; go_big_quiet_on)
        clear hone hw107
        refine wpG_nil ?_
        refine (hOp_putAt rfl (gx) (134) (.int .u64 ((nonceAt h (k + 1)).nonce : Int)) rfl rfl HGE.out 29 ((hdA (nonceAt h k))) (hdA (nonceAt h (k + 1))) (List.Mem.head _) infoU64 (by rw [hdA_size HLK]; exact Nat.le_refl _) (by simp [Value.cells]; rfl) (put_nonce HLK rfl) [(gx, Obj.cells (hdA (nonceAt h (k + 1))) 29 (0, 0)), (w.heap.size + 1, Obj.cells (hdA noHd) 29 (0, 0)), (w.heap.size, Obj.cells (hdA h) 29 (0, 0))] (List.forall_mem_cons.2 ⟨.inl rfl, fun y hy => .inr ⟨List.mem_cons_of_mem _ hy, HGX.out.2 y hy⟩⟩) ?_)
        intro he108
        intro u110 E2'
        have EX109 := Lib.hid E2'
        clear E2'
        have HNO2 : Hid (∀ j, j < k + 1 → mayH (nonceAt h j) = false) := fun j hj => by
          by_cases e : j = k
          · rw [e]; exact hm
          · exact HNO.out j (by omega)
        go_wp2
        go_roundw
        case rel => exact ⟨k + 1, by omega, by go_num, HNO2.out, EX109.out⟩
        case measure => simp [intOf]; omega
    · obtain rfl : k = K := by omega
      have HMI := mine_none (h := h) (tries := tries) (by rw [HK.out]; exact HNO.out)
      have HLK : lenH h := HL.out
      by_cases hc : (k : Int) < tries
      · have C2 : Hid (decide ((k : Int) < tries) = true) := decide_eq_true hc
        have C5 : Hid (decide ((k : Int) < 200) = false) := decide_eq_false (by omega)
        go_upto_region 3 with (fail)
        refine wp_region_Hx (w0 := w) [0, 1, 2, 3, 4, 5, 6] [(gx, Obj.cells (hdA (nonceAt h k)) 29 (0, 0)), (w.heap.size + 1, Obj.cells (hdA noHd) 29 (0, 0)), (w.heap.size, Obj.cells (hdA h) 29 (0, 0))] rfl EK.out ?_
        refine lexH_phase [0, 1, 2, 3, 4, 5, 6] [] ?_
        have hw301 : EnvX w _ [(gx, Obj.cells (hdA (nonceAt h k)) 29 (0, 0)), (w.heap.size + 1, Obj.cells (hdA noHd) 29 (0, 0)), (w.heap.size, Obj.cells (hdA h) 29 (0, 0))] := EK.out
        have hone := @EnvC.one _ _ _ hw301
        (refine wpG_op rfl rfl rfl ?_; intro K hK; go_big_quiet_op; go_big_quiet_on)
        (refine wpG_op rfl rfl rfl ?_; intro K hK; go_big_quiet_op; go_big_quiet_on)
        (refine wpG_val (v := .bool true) rfl rfl (fun u hu => ltZ_op u C2.out rfl rfl) ?_ hw301; intro K hK; go_big_quiet_op; go_big_quiet_on)
        (refine wpG_op rfl rfl rfl ?_; intro K hK; go_big_quiet_op; go_big_quiet_on)
        (refine wpG_op rfl rfl rfl ?_; intro K hK; go_big_quiet_op; go_big_quiet_on)
        (refine wpG_val (v := .bool false) rfl rfl (fun u hu => ltZ_op u C5.out rfl rfl) ?_ hw301; intro K hK; go_big_quiet_op; go_big_quiet_on)
        (refine wpG_op rfl rfl rfl ?_; intro K hK; go_big_quiet_op; go_big_quiet_on)
        clear hone hw301
        refine wpG_nil ?_
        intro u303 E2'
        have EX302 := Lib.hid E2'
        clear E2'
        go_upto_region 9 with (fail)
        refine wp_region_Hx (w0 := w) [0, 1, 2] [(gx, Obj.cells (hdA (nonceAt h k)) 29 (0, 0)), (w.heap.size + 1, Obj.cells (hdA noHd) 29 (0, 0)), (w.heap.size, Obj.cells (hdA h) 29 (0, 0))] rfl EX302.out ?_
        refine lexH_phase [0] [1, 2] ?_
        have hw304 : EnvX w _ [(gx, Obj.cells (hdA (nonceAt h k)) 29 (0, 0)), (w.heap.size + 1, Obj.cells (hdA noHd) 29 (0, 0)), (w.heap.size, Obj.cells (hdA h) 29 (0, 0))] := EX302.out
        have hone := @EnvC.one _ _ _ hw304
        (refine wpG_val (v := hdV h) rfl rfl (fun u hu => load_any_op u (box_hd hu (List.Mem.tail _ (List.Mem.tail _ (List.Mem.head _))) HL.out) rfl) ?_ hw304; intro K hK; go_big_quiet_op; go_big_quiet_on)
        clear hone hw304
        refine wpG_nil ?_
        refine (hOp_store rfl (w.heap.size + 1) (hdA h) rfl rfl HLE.out 29 ((hdA noHd)) (List.Mem.tail _ (List.Mem.head _)) (infoHd _ (hdA_size HL.out)) ((hdA_size HZN.out).trans (hdA_size HL.out).symm) (hdA_one _) [(w.heap.size + 1, Obj.cells (hdA h) 29 (0, 0))] (List.forall_mem_cons.2 ⟨.inl rfl, (fun _ h => by cases h)⟩) ?_)
        intro he305
        refine lexH_phase [2] [] ?_
        have hw306 : EnvX w _ [(w.heap.size + 1, Obj.cells (hdA h) 29 (0, 0))] := he305.choose_spec
        have hone := @EnvC.one _ _ _ hw306
        (refine wpG_op rfl rfl rfl ?_; intro K hK; go_big_quiet_op; go_big_quiet_on)
        clear hone hw306
        refine wpG_nil ?_
        intro u308 E2'
        have EX307 := Lib.hid E2'
        clear E2'
        have Q0 := Lib.hid (EnvX.box EX307.out _ _ (List.Mem.head _))
        have HBEL := Lib.hid EX307.out.bel
        clear EX307
        go_wp2_with ((with_reducible refine bodyPost_ret (v := .tuple #[.agg (hdA h), .bool false]) ?_ ?_ ?_); (exact results_row_slot (p := 4) (q := 5) (ty := 29) Tryd.results15 _ _ (w.heap.size + 1) 29 (hdA h) (0, 0) _ rfl _ rfl Q0.out Tryd.underlying29 rfl (infoHd _ (hdA_size HLK))); (rfl))
        first | exact HBEL.out | (rw [HMI]; exact ⟨rfl, HBEL.out⟩)
      · have C2 : Hid (decide ((k : Int) < tries) = false) := decide_eq_false hc
        go_upto_region 3 with (fail)
        refine wp_region_Hx (w0 := w) [0, 1, 2, 3, 4, 5, 6] [(gx, Obj.cells (hdA (nonceAt h k)) 29 (0, 0)), (w.heap.size + 1, Obj.cells (hdA noHd) 29 (0, 0)), (w.heap.size, Obj.cells (hdA h) 29 (0, 0))] rfl EK.out ?_
        refine lexH_phase [0, 1, 2, 3, 4, 5, 6] [] ?_
        have hw301 : EnvX w _ [(gx, Obj.cells (hdA (nonceAt h k)) 29 (0, 0)), (w.heap.size + 1, Obj.cells (hdA noHd) 29 (0, 0)), (w.heap.size, Obj.cells (hdA h) 29 (0, 0))] := EK.out
        have hone := @EnvC.one _ _ _ hw301
        (refine wpG_op rfl rfl rfl ?_; intro K hK; go_big_quiet_op; go_big_quiet_on)
        (refine wpG_op rfl rfl rfl ?_; intro K hK; go_big_quiet_op; go_big_quiet_on)
        (refine wpG_val (v := .bool false) rfl rfl (fun u hu => ltZ_op u C2.out rfl rfl) ?_ hw301; intro K hK; go_big_quiet_op; go_big_quiet_on)
        (refine wpG_op rfl rfl rfl ?_; intro K hK; go_big_quiet_op; go_big_quiet_on)
        (refine wpG_skip rfl rfl ?_ hw301; intro K hK; go_big_quiet_op; go_big_quiet_on)
        (refine wpG_skip rfl rfl ?_ hw301; intro K hK; go_big_quiet_op; go_big_quiet_on)
        (refine wpG_op rfl rfl rfl ?_; intro K hK; go_big_quiet_op; go_big_quiet_on)
        clear hone hw301
        refine wpG_nil ?_
        intro u303 E2'
        have EX302 := Lib.hid E2'
        clear E2'
        go_upto_region 9 with (fail)
        refine wp_region_Hx (w0 := w) [0, 1, 2] [(gx, Obj.cells (hdA (nonceAt h k)) 29 (0, 0)), (w.heap.size + 1, Obj.cells (hdA noHd) 29 (0, 0)), (w.heap.size, Obj.cells (hdA h) 29 (0, 0))] rfl EX302.out ?_
        refine lexH_phase [0] [1, 2] ?_
        have hw304 : EnvX w _ [(gx, Obj.cells (hdA (nonceAt h k)) 29 (0, 0)), (w.heap.size + 1, Obj.cells (hdA noHd) 29 (0, 0)), (w.heap.size, Obj.cells (hdA h) 29 (0, 0))] := EX302.out
        have hone := @EnvC.one _ _ _ hw304
        (refine wpG_val (v := hdV h) rfl rfl (fun u hu => load_any_op u (box_hd hu (List.Mem.tail _ (List.Mem.tail _ (List.Mem.head _))) HL.out) rfl) ?_ hw304; intro K hK; go_big_quiet_op; go_big_quiet_on)
        clear hone hw304
        refine wpG_nil ?_
        refine (hOp_store rfl (w.heap.size + 1) (hdA h) rfl rfl HLE.out 29 ((hdA noHd)) (List.Mem.tail _ (List.Mem.head _)) (infoHd _ (hdA_size HL.out)) ((hdA_size HZN.out).trans (hdA_size HL.out).symm) (hdA_one _) [(w.heap.size + 1, Obj.cells (hdA h) 29 (0, 0))] (List.forall_mem_cons.2 ⟨.inl rfl, (fun _ h => by cases h)⟩) ?_)
        intro he305
        refine lexH_phase [2] [] ?_
        have hw306 : EnvX w _ [(w.heap.size + 1, Obj.cells (hdA h) 29 (0, 0))] := he305.choose_spec
        have hone := @EnvC.one _ _ _ hw306
        (refine wpG_op rfl rfl rfl ?_; intro K hK; go_big_quiet_op; go_big_quiet_on)
        clear hone hw306
        refine wpG_nil ?_
        intro u308 E2'
        have EX307 := Lib.hid E2'
        clear E2'
        have Q0 := Lib.hid (EnvX.box EX307.out _ _ (List.Mem.head _))
        have HBEL := Lib.hid EX307.out.bel
        clear EX307
        go_wp2_with ((with_reducible refine bodyPost_ret (v := .tuple #[.agg (hdA h), .bool false]) ?_ ?_ ?_); (exact results_row_slot (p := 4) (q := 5) (ty := 29) Tryd.results15 _ _ (w.heap.size + 1) 29 (hdA h) (0, 0) _ rfl _ rfl Q0.out Tryd.underlying29 rfl (infoHd _ (hdA_size HLK))); (rfl))
        first | exact HBEL.out | (rw [HMI]; exact ⟨rfl, HBEL.out⟩)
end Go.Proofs.YtmpjgfecnnefeaaDoor
