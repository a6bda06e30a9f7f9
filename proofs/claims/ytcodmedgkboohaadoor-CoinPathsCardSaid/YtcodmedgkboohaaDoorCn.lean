/- Part of a proof. -/
import Derived.Test.YtcodmedgkboohaaDoorCm
namespace Go.Proofs.YtcodmedgkboohaaDoor
set_option maxRecDepth 8000
open Go.RowKit

set_option maxRecDepth 20000 in
set_option maxHeartbeats 8000000 in
theorem pidX_no (t : TxM) (w : World) (ht : TxOk w t) (htt : Tables w) (k : mayX t.r = false) :
    Calls Tryd.prog 20 #[txV t] w fun e w' => e = .returned (idv (idX t.r)) ∧ Below w.heap.size w w' := by
  have hp : putX t.r = ([], false) := by unfold putX; rw [k]; rfl
  have hi : idX t.r = z32 := by unfold idX; rw [k]; rfl
  rw [hi]
  have HZ : Hid ((arrB 32 z32).size = 32) := arrB_size _ _ (by decide)
  clear k hi
  have HLE : Hid (w.heap.size ≤ w.heap.size + 1) := by show _ ≤ _; omega
  have E1 : Hid (EnvX w ((w.alloc (.cells (txA t) 25)).alloc (.cells (arrB 32 []) 37)) [(w.heap.size + 1, Obj.cells (arrB 32 []) 37 (0, 0)), (w.heap.size, Obj.cells (txA t) 25 (0, 0))]) := (EnvX.start w).two _ _
  have HPT : Hid (∀ u, Below w.heap.size w u → Calls Tryd.prog 12 #[txV t] u fun e w' => (∃ v, e = .returned (.tuple #[v, .bool (putX t.r).2]) ∧ OwnB w' u.heap.size v (putX t.r).1) ∧ Below u.heap.size u w') := fun u hu => putP_any t u (ht.up hu)
  rw [hp] at HPT
  clear hp ht
  unfold txV at *
  go_enter Tryd.func20, Tryd.ntmps20
  go_upto_region 1 with (fail)
  rw [zero_cells]
  generalize (w.alloc (.cells (txA t) 25)).alloc (.cells (arrB 32 []) 37) = W at *
  have HLD : Hid ((loadVar 25 ⟨w.heap.size, 0, none⟩).run Tryd.prog W = .ok (.agg (txA t)) W) := box_tx E1.out (List.Mem.tail _ (List.Mem.head _))
  go_wp2_with ((with_reducible refine wpList_load_run (o := ⟨some 6, _, _, _, _, _⟩) ?_ 25 (.tmp 1) ?_ ⟨w.heap.size, 0, none⟩ ?_ HLD.out ?_); (rfl); (rfl); (rfl))
  refine (HPT.out W (EnvX.bel E1.out)).mono ?_
  rintro e w1 ⟨⟨v, rfl, hv⟩, hb⟩
  have E2 : Hid (EnvX w w1 [(w.heap.size + 1, Obj.cells (arrB 32 []) 37 (0, 0)), (w.heap.size, Obj.cells (txA t) 25 (0, 0))]) := EnvX.below E1.out hb
  clear hv hb E1 HLD htt
  go_upto_region 3 with (fail)
  refine wp_region_Hx (w0 := w) [0, 1] [(w.heap.size + 1, Obj.cells (arrB 32 []) 37 (0, 0)), (w.heap.size, Obj.cells (txA t) 25 (0, 0))] rfl E2.out ?_
  refine lexH_phase [0] [1] ?_
  have hw1 : EnvX w _ [(w.heap.size + 1, Obj.cells (arrB 32 []) 37 (0, 0)), (w.heap.size, Obj.cells (txA t) 25 (0, 0))] := E2.out
  have hone := @EnvC.one _ _ _ hw1
  (refine wpG_val (v := .agg (arrB 32 z32)) rfl rfl (fun u hu => buildA_op u hbuilt0) ?_ hw1; intro K hK; go_big_quiet_op; go_big_quiet_on)
  clear hone hw1
  refine wpG_nil ?_
  refine (hOp_store rfl (w.heap.size + 1) (arrB 32 z32) rfl rfl HLE.out 37 ((arrB 32 [])) (List.Mem.head _) (info26 _ HZ.out) ((arrB_size _ _ (by simp)).trans HZ.out.symm) (arrB_one _ _) [(w.heap.size + 1, Obj.cells (arrB 32 z32) 37 (0, 0))] (List.forall_mem_cons.2 ⟨.inl rfl, (fun _ h => by cases h)⟩) ?_)
  intro he2
  intro u4 E2'
  have EX3 := Lib.hid E2'
  clear E2'
  have Q0 := Lib.hid (EnvX.box EX3.out _ _ (List.Mem.head _))
  have HBEL := Lib.hid EX3.out.bel
  clear EX3
  go_wp2_with ((with_reducible refine bodyPost_ret (v := .agg (arrB 32 z32)) ?_ ?_ ?_); (exact results_cell_row (p := 2) (ty := 37) Tryd.results20 _ _ (w.heap.size + 1) 37 (arrB 32 z32) (0, 0) _ rfl Q0.out Tryd.underlying37 rfl (info26 _ HZ.out)); (rfl))
  exact ⟨rfl, HBEL.out⟩
set_option maxRecDepth 20000 in
set_option maxHeartbeats 8000000 in
theorem pidX_yes (t : TxM) (w : World) (ht : TxOk w t) (htt : Tables w) (k : mayX t.r = true) :
    Calls Tryd.prog 20 #[txV t] w fun e w' => e = .returned (idv (idX t.r)) ∧ Below w.heap.size w w' := by
  have hp : putX t.r = (bodyX t.r, true) := by unfold putX; rw [k]; rfl
  have hi : idX t.r = sumL (6 :: bodyX t.r) := by unfold idX; rw [k]; rfl
  rw [hi]
  obtain ⟨su, hsu⟩ : ∃ su, sumL (6 :: bodyX t.r) = su := ⟨_, rfl⟩
  have HZ : Hid ((arrB 32 su).size = 32) := arrB_size _ _ (by rw [← hsu, sumL_len]; omega)
  have HSU := Lib.hid hsu
  rw [hsu]
  clear hsu
  obtain ⟨m, hm⟩ : ∃ m, (bodyX t.r).length = m := ⟨_, rfl⟩
  have hml : 2 ≤ m ∧ m ≤ 200 := by
    have h1 := bodyX_len ht.ok
    have h2 := mayX_iff.1 k
    omega
  have HBO : Hid ((bodyX t.r).length = m ∧ isB (bodyX t.r)) := ⟨hm, bodyX_byte ht.ok k⟩
  have HML := Lib.hid hml
  clear k hi hm hml
  have HLE : Hid (w.heap.size ≤ w.heap.size + 1) := by show _ ≤ _; omega
  have E1 : Hid (EnvX w ((w.alloc (.cells (txA t) 25)).alloc (.cells (arrB 32 []) 37)) [(w.heap.size + 1, Obj.cells (arrB 32 []) 37 (0, 0)), (w.heap.size, Obj.cells (txA t) 25 (0, 0))]) := (EnvX.start w).two _ _
  have HPT : Hid (∀ u, Below w.heap.size w u → Calls Tryd.prog 12 #[txV t] u fun e w' => (∃ v, e = .returned (.tuple #[v, .bool (putX t.r).2]) ∧ OwnB w' u.heap.size v (putX t.r).1) ∧ Below u.heap.size u w') := fun u hu => putP_any t u (ht.up hu)
  rw [hp] at HPT
  clear hp ht
  unfold txV at *
  go_enter Tryd.func20, Tryd.ntmps20
  go_upto_region 1 with (fail)
  rw [zero_cells]
  generalize (w.alloc (.cells (txA t) 25)).alloc (.cells (arrB 32 []) 37) = W at *
  have HLD : Hid ((loadVar 25 ⟨w.heap.size, 0, none⟩).run Tryd.prog W = .ok (.agg (txA t)) W) := box_tx E1.out (List.Mem.tail _ (List.Mem.head _))
  go_wp2_with ((with_reducible refine wpList_load_run (o := ⟨some 6, _, _, _, _, _⟩) ?_ 25 (.tmp 1) ?_ ⟨w.heap.size, 0, none⟩ ?_ HLD.out ?_); (rfl); (rfl); (rfl))
  refine (HPT.out W (EnvX.bel E1.out)).mono ?_
  rintro e w1 ⟨⟨v, rfl, hv⟩, hb⟩
  obtain ⟨hv1, ⟨_, h0⟩ | ⟨gv, capv, curv, rfl, hg1, hg2, hg3⟩⟩ := hv
  · have := HBO.out.1
    have := HML.out
    have h1 : (bodyX t.r).length = 0 := h0
    omega
  have E2 : Hid (EnvX w w1 [(gv, Obj.cells curv 5 (0, 0)), (w.heap.size + 1, Obj.cells (arrB 32 []) 37 (0, 0)), (w.heap.size, Obj.cells (txA t) 25 (0, 0))]) := ⟨(EnvX.below E1.out hb).bel, fun g o hm => by
    rcases List.mem_cons.1 hm with e | e
    · cases e
      exact hg2
    · exact (EnvX.below E1.out hb).box g o e⟩
  rw [HBO.out.1] at hg3 ⊢
  have HGV := Lib.hid hg3
  have HOF : Hid (∀ (u : World) (gr : Nat), EnvX w u [] → Parts u u.heap.size (some ⟨gr, 0, none⟩) [[6], bodyX t.r] → Calls Tryd.prog 39 #[.slice (some ⟨gr, 0, none⟩) 2 2] u fun e w' => e = .returned (.agg (arrB 32 su)) ∧ Below u.heap.size u w') := fun u gr hE hp => by
    have e : [[6], bodyX t.r].flatten = 6 :: bodyX t.r := by simp
    have h1 := shaof_any (some ⟨gr, 0, none⟩) 2 2 [[6], bodyX t.r] u rfl hp (by omega) (by rw [e, List.length_cons, HBO.out.1]; have := HML.out; omega) (htt.below hE.bel)
    rwa [e, HSU.out] at h1
  clear hv1 hb E1 HLD hg1 hg2 hg3 htt
  go_upto_region 4 with (fail)
  refine wp_region_Hx (w0 := w) [0, 1, 2, 3, 4] [(gv, Obj.cells curv 5 (0, 0)), (w.heap.size + 1, Obj.cells (arrB 32 []) 37 (0, 0)), (w.heap.size, Obj.cells (txA t) 25 (0, 0))] rfl E2.out ?_
  refine (hOp_fresh (R := fun v N => ∃ g, v = .slice (some ⟨g, 0, none⟩) 1 1 ∧ N = [(g, Obj.cells #[.int .u8 6] 5 (0, 0))]) (M0 := [(gv, Obj.cells curv 5 (0, 0)), (w.heap.size + 1, Obj.cells (arrB 32 []) 37 (0, 0)), (w.heap.size, Obj.cells (txA t) 25 (0, 0))]) rfl rfl (fun _ h => h) (fun u hu => FAt_byte1 6 u) ?_)
  rintro _ _ ⟨g5, rfl, rfl⟩ hf he1; intro K' hK'; go_big_quiet_op; go_big_quiet_on
  clear hf
  change lexH _ _ _ _ _ _ [(g5, Obj.cells #[.int .u8 6] 5 (0, 0)), (gv, Obj.cells curv 5 (0, 0)), (w.heap.size + 1, Obj.cells (arrB 32 []) 37 (0, 0)), (w.heap.size, Obj.cells (txA t) 25 (0, 0))]
  refine lexH_phase [1] [2, 3, 4] ?_
  have hw2 : EnvX w _ [(g5, Obj.cells #[.int .u8 6] 5 (0, 0)), (gv, Obj.cells curv 5 (0, 0)), (w.heap.size + 1, Obj.cells (arrB 32 []) 37 (0, 0)), (w.heap.size, Obj.cells (txA t) 25 (0, 0))] := he1.choose_spec
  have hone := @EnvC.one _ _ _ hw2
  (refine wpG_op rfl rfl rfl ?_; intro K hK; go_big_quiet_op; go_big_quiet_on)
  clear hone hw2
  refine wpG_nil ?_
  refine (hOp_fresh (R := fun v N => ∃ g, v = .slice (some ⟨g, 0, none⟩) 2 2 ∧ N = [(g, Obj.cells #[.slice (some ⟨g5, 0, none⟩) 1 1, .slice (some ⟨gv, 0, none⟩) m capv] 26 (0, 0))]) (M0 := [(g5, Obj.cells #[.int .u8 6] 5 (0, 0)), (gv, Obj.cells curv 5 (0, 0)), (w.heap.size + 1, Obj.cells (arrB 32 []) 37 (0, 0)), (w.heap.size, Obj.cells (txA t) 25 (0, 0))]) rfl rfl (fun _ h => h) (fun u hu => FAt_rows2 rfl rfl u) ?_)
  rintro _ _ ⟨gr, rfl, rfl⟩ hf he3; intro K' hK'; go_big_quiet_op; go_big_quiet_on
  clear hf
  change lexH _ _ _ _ _ _ [(gr, Obj.cells #[.slice (some ⟨g5, 0, none⟩) 1 1, .slice (some ⟨gv, 0, none⟩) m capv] 26 (0, 0)), (g5, Obj.cells #[.int .u8 6] 5 (0, 0)), (gv, Obj.cells curv 5 (0, 0)), (w.heap.size + 1, Obj.cells (arrB 32 []) 37 (0, 0)), (w.heap.size, Obj.cells (txA t) 25 (0, 0))]
  refine lexH_phase [3] [4] ?_
  have hw4 : EnvX w _ [(gr, Obj.cells #[.slice (some ⟨g5, 0, none⟩) 1 1, .slice (some ⟨gv, 0, none⟩) m capv] 26 (0, 0)), (g5, Obj.cells #[.int .u8 6] 5 (0, 0)), (gv, Obj.cells curv 5 (0, 0)), (w.heap.size + 1, Obj.cells (arrB 32 []) 37 (0, 0)), (w.heap.size, Obj.cells (txA t) 25 (0, 0))] := he3.choose_spec
  have hone := @EnvC.one _ _ _ hw4
  (refine wpG_call (f := 39) (args := #[.slice (some ⟨gr, 0, none⟩) 2 2]) (v := .agg (arrB 32 su)) rfl rfl rfl Tryd.func39 rfl rfl (fun u hu => HOF.out u gr (EnvX.sub hu (fun _ h => by cases h)) (parts_two (EnvX.lt hu (List.Mem.head _)) (by have h := box_cell (k := 0) hu (List.Mem.head _) rfl; exact h) (boxR_bytes (cap := 1) hu (List.Mem.tail _ (List.Mem.head _)) rfl ⟨by decide, by decide, rfl, rfl⟩) (by intro x hx; cases List.mem_singleton.1 hx; omega) (by have h := box_cell (k := 1) hu (List.Mem.head _) rfl; rw [HBO.out.1]; exact h) (boxR_bytes hu (List.Mem.tail _ (List.Mem.tail _ (List.Mem.head _))) HBO.out.1 HGV.out) HBO.out.2)) ?_ hw4; intro K hK; go_big_quiet_op; go_big_quiet_on)
  clear hone hw4
  refine wpG_nil ?_
  refine (hOp_store rfl (w.heap.size + 1) (arrB 32 su) rfl rfl HLE.out 37 ((arrB 32 [])) (List.Mem.tail _ (List.Mem.tail _ (List.Mem.tail _ (List.Mem.head _)))) (info26 _ HZ.out) ((arrB_size _ _ (by simp)).trans HZ.out.symm) (arrB_one _ _) [(w.heap.size + 1, Obj.cells (arrB 32 su) 37 (0, 0))] (List.forall_mem_cons.2 ⟨.inl rfl, (fun _ h => by cases h)⟩) ?_)
  intro he5
  intro u7 E2'
  have EX6 := Lib.hid E2'
  clear E2'
  have Q0 := Lib.hid (EnvX.box EX6.out _ _ (List.Mem.head _))
  have HBEL := Lib.hid EX6.out.bel
  clear EX6
  go_wp2_with ((with_reducible refine bodyPost_ret (v := .agg (arrB 32 su)) ?_ ?_ ?_); (exact results_cell_row (p := 2) (ty := 37) Tryd.results20 _ _ (w.heap.size + 1) 37 (arrB 32 su) (0, 0) _ rfl Q0.out Tryd.underlying37 rfl (info26 _ HZ.out)); (rfl))
  exact ⟨rfl, HBEL.out⟩
theorem pidX_any (t : TxM) (w : World) (ht : TxOk w t) (htt : Tables w) :
    Calls Tryd.prog 20 #[txV t] w fun e w' => e = .returned (idv (idX t.r)) ∧ Below w.heap.size w w' := by
  cases k : mayX t.r with
  | true => exact pidX_yes t w ht htt k
  | false => exact pidX_no t w ht htt k
set_option maxRecDepth 20000 in
set_option maxHeartbeats 8000000 in
theorem prootX_any (l : List TxM) (A : Option Addr) (n c : Nat) (w : World) (hl : l.length = n) (hn : n ≤ 1000000) (hnc : n ≤ c) (hcm : c ≤ maxLen) (hA : TxsIn w A l) (ht : Tables w) :
    Calls Tryd.prog 22 #[.slice A n c] w fun e w' => e = .returned (idv (rootT (idsX (rsT l)))) ∧ Below w.heap.size w w' := by
  have HL := Lib.hid hl
  have HIA := Lib.hid hA
  have HTT := Lib.hid ht
  have HN6 : Hid (n ≤ 1000000) := hn
  have HN63 : Hid (n < 9223372036854775808) := by show _ < _; omega
  have HNM : Hid (n ≤ maxLen) := Nat.le_trans hnc hcm
  have hri := root_id (idsX_ids (rsT l))
  have HRT : Hid (∀ (u : World) (A1 : Option Addr) (c1 : Nat), Below w.heap.size w u → (idsX (rsT l)).length ≤ c1 → c1 ≤ maxLen → IdsIn u u.heap.size A1 (idsX (rsT l)) → Calls Tryd.prog 41 #[.slice A1 (idsX (rsT l)).length c1] u fun e w' => e = .returned (idv (rootT (idsX (rsT l)))) ∧ Below u.heap.size u w') := fun u A1 c1 hb h1 h2 h3 => root_any (idsX (rsT l)) A1 _ c1 u rfl (by rw [idsX_len, hl]; exact hn) (idsX_ids _) h3 (ht.below hb)
  have E1 : Hid (EnvX w (w.alloc (.cells (arrB 32 []) 37)) [(w.heap.size, Obj.cells (arrB 32 []) 37 (0, 0))]) := (EnvX.start w).new _
  generalize rootT (idsX (rsT l)) = rt at *
  have HZ : Hid ((arrB 32 rt).size = 32) := arrB_size _ _ (by rw [hri.1]; omega)
  clear hl hA ht hnc hcm hri
  unfold idv
  go_enter Tryd.func22, Tryd.ntmps22
  go_upto_region 1 with (fail)
  rw [zero_cells]
  generalize w.alloc (.cells (arrB 32 []) 37) = W at *
  refine wp_region_Hx (w0 := w) [0, 1, 2, 3] [(w.heap.size, Obj.cells (arrB 32 []) 37 (0, 0))] rfl E1.out ?_
  refine lexH_phase [0, 1] [2, 3] ?_
  have hw1 : EnvX w _ [(w.heap.size, Obj.cells (arrB 32 []) 37 (0, 0))] := E1.out
  have hone := @EnvC.one _ _ _ hw1
  (refine wpG_op rfl rfl rfl ?_; intro K hK; go_big_quiet_op; go_big_quiet_on)
  (refine wpG_val (v := .int .i64 (n : Int)) rfl rfl (fun u hu => len_op Tryd.underlying27 HN63.out u rfl) ?_ hw1; intro K hK; go_big_quiet_op; go_big_quiet_on)
  clear hone hw1
  refine wpG_nil ?_
  refine (hOp_fresh (R := fun v N => ∃ g cur, v = .slice (some ⟨g, 0, none⟩) 0 n ∧ N = [(g, Obj.cells cur 37 (0, 0))] ∧ cur.size = n * 32) (M0 := [(w.heap.size, Obj.cells (arrB 32 []) 37 (0, 0))]) rfl rfl (fun _ h => h) (fun u hu => FAt_makeI HN6.out rfl u) ?_)
  rintro _ _ ⟨gm, cm, rfl, rfl, hcm⟩ hf he2; intro K' hK'; go_big_quiet_op; go_big_quiet_on
  have HCM := Lib.hid hcm
  have HGM := Lib.hid (hf _ (List.mem_singleton.2 rfl))
  clear hcm
  clear hf
  change lexH _ _ _ _ _ _ [(gm, Obj.cells cm 37 (0, 0)), (w.heap.size, Obj.cells (arrB 32 []) 37 (0, 0))]
  refine lexH_phase [3] [] ?_
  have hw3 : EnvX w _ [(gm, Obj.cells cm 37 (0, 0)), (w.heap.size, Obj.cells (arrB 32 []) 37 (0, 0))] := he2.choose_spec
  have hone := @EnvC.one _ _ _ hw3
  (refine wpG_op rfl rfl rfl ?_; intro K hK; go_big_quiet_op; go_big_quiet_on)
  clear hone hw3
  refine wpG_nil ?_
  intro u5 E2'
  have EX4 := Lib.hid E2'
  clear E2'
  go_upto_region 2 with (fail)
  refine wp_region_Hx (w0 := w) [0, 1, 2] [(gm, Obj.cells cm 37 (0, 0)), (w.heap.size, Obj.cells (arrB 32 []) 37 (0, 0))] rfl EX4.out ?_
  refine lexH_phase [0, 1, 2] [] ?_
  have hw6 : EnvX w _ [(gm, Obj.cells cm 37 (0, 0)), (w.heap.size, Obj.cells (arrB 32 []) 37 (0, 0))] := EX4.out
  have hone := @EnvC.one _ _ _ hw6
  (refine wpG_op rfl rfl rfl ?_; intro K hK; go_big_quiet_op; go_big_quiet_on)
  (refine wpG_val (v := .int .i64 (n : Int)) rfl rfl (fun u hu => len_op Tryd.underlying27 HN63.out u rfl) ?_ hw6; intro K hK; go_big_quiet_op; go_big_quiet_on)
  (refine wpG_op rfl rfl rfl ?_; intro K hK; go_big_quiet_op; go_big_quiet_on)
  clear hone hw6
  refine wpG_nil ?_
  intro u8 E2'
  have EX7 := Lib.hid E2'
  clear E2'
  have HINV : Hid (∃ N, FreshI (idsX (rsT (l.take 0))) (.slice (some ⟨gm, 0, none⟩) 0 n) N ∧ freshN w N [(w.heap.size, Obj.cells (arrB 32 []) 37 (0, 0))] ∧ EnvX w u8 (N ++ [(w.heap.size, Obj.cells (arrB 32 []) 37 (0, 0))])) := ⟨[(gm, Obj.cells cm 37 (0, 0))], .inl ⟨gm, n, cm, rfl, rfl, Nat.zero_le _, HNM.out, HCM.out, rfl⟩, (fun y hy => by cases List.mem_singleton.1 hy; exact HGM.out), EX7.out⟩
  clear EX7 E1 HCM HGM HNM
  go_upto_region 3 with (fail)
  go_loopw [3, 11] (fun v iv u => ∃ k : Nat, k ≤ n ∧ iv = .int .i64 (k : Int) ∧ Hid (∃ N, FreshI (idsX (rsT (l.take k))) v N ∧ freshN w N [(w.heap.size, Obj.cells (arrB 32 []) 37 (0, 0))] ∧ EnvX w u (N ++ [(w.heap.size, Obj.cells (arrB 32 []) 37 (0, 0))]))) (fun _ iv _ => n - (intOf iv).toNat)
  case atStart => exact ⟨0, by omega, rfl, HINV⟩
  case round =>
    obtain ⟨k, hk, rfl, hinv⟩ := hrel
    obtain ⟨N, hF, hN, hE⟩ := hinv.out
    have HF := Lib.hid hF
    have HN := Lib.hid hN
    have EK := Lib.hid hE
    clear hinv HINV hF hN hE
    by_cases hlt : k < n
    · have C3 : Hid (decide ((k : Int) < (n : Int)) = true) := decide_eq_true (by omega)
      have hkl : k < l.length := by rw [HL.out]; exact hlt
      obtain ⟨ad, rfl, -, hld⟩ := HIA.out.loads hkl
      have HLD : Hid (∀ u, EnvX w u [] → (loadVar 25 (ad.add (k * 2))).run Tryd.prog u = .ok (txV (l.getD k noTxM)) u) := fun u hu => (hld u hu).1
      have hst := idsX_step hkl
      have hQl : (idsX (rsT (l.take k))).length = k := by rw [idsX_len, List.length_take]; omega
      have HID : Hid (∀ u, Below w.heap.size w u → Calls Tryd.prog 20 #[txV (l.getD k noTxM)] u fun e w' => e = .returned (idv (idX (l.getD k noTxM).r)) ∧ Below u.heap.size u w') := fun u hu => pidX_any _ u ((HIA.out.get hkl).up hu) (HTT.out.below hu)
      have HQ : Hid (isIds (idsX (rsT (l.take k))) ∧ (idsX (rsT (l.take k))).length ≤ 1000000) := ⟨idsX_ids _, by omega⟩
      have HKN := Lib.hid hlt
      have HST := Lib.hid hst
      clear hst hQl hkl hlt hld
      generalize idsX (rsT (l.take k)) = Q at *
      generalize l.getD k noTxM = t at *
      have HLX : Hid ((idX t.r).length = 32) := (idX_id t.r).1
      go_upto_region 3 with (fail)
      refine wp_region_Hx (w0 := w) [0] (N ++ ((w.heap.size, Obj.cells (arrB 32 []) 37 (0, 0)) :: [])) rfl EK.out ?_
      refine lexH_phase [0] [] ?_
      have hw9 : EnvX w _ (N ++ ((w.heap.size, Obj.cells (arrB 32 []) 37 (0, 0)) :: [])) := EK.out
      have hone := @EnvC.one _ _ _ hw9
      (refine wpG_val (v := .bool true) rfl rfl (fun u hu => ltZ_op u C3.out rfl rfl) ?_ hw9; intro K hK; go_big_quiet_op; go_big_quiet_on)
      clear hone hw9
      refine wpG_nil ?_
      intro u11 E2'
      have EX10 := Lib.hid E2'
      clear E2'
      go_upto_region 4 with (fail)
      refine wp_region_Hx (w0 := w) [0, 1, 2, 3] (N ++ ((w.heap.size, Obj.cells (arrB 32 []) 37 (0, 0)) :: [])) rfl EX10.out ?_
      refine lexH_phase [0, 1] [2, 3] ?_
      have hw12 : EnvX w _ (N ++ ((w.heap.size, Obj.cells (arrB 32 []) 37 (0, 0)) :: [])) := EX10.out
      have hone := @EnvC.one _ _ _ hw12
      (refine wpG_val (v := .pointer (some (ad.add (k * 2)))) rfl rfl (fun u hu => idxSl_op (i := k) Tryd.underlying27 aggTx.size HKN.out u rfl rfl) ?_ hw12; intro K hK; go_big_quiet_op; go_big_quiet_on)
      (refine wpG_val (v := txV t) rfl rfl (fun u hu => load_any_op u (HLD.out u (EnvX.sub hu (fun _ h => by cases h))) rfl) ?_ hw12; intro K hK; go_big_quiet_op; go_big_quiet_on)
      clear hone hw12
      refine wpG_nil ?_
      refine (hOp_fresh (R := fun x N => ∃ g, x = .pointer (some ⟨g, 0, none⟩) ∧ N = [(g, Obj.cells (txA noTxM) 25 (0, 0))]) (M0 := (N ++ ((w.heap.size, Obj.cells (arrB 32 []) 37 (0, 0)) :: []))) rfl rfl (fun _ h => h) (fun u hu => FAt_new (new_tx _) u) ?_)
      rintro _ _ ⟨gt, rfl, rfl⟩ hf he13; intro K' hK'; go_big_quiet_op; go_big_quiet_on
      have HGT := Lib.hid (hf _ (List.mem_singleton.2 rfl))
      clear hf
      change lexH _ _ _ _ _ _ ((gt, Obj.cells (txA noTxM) 25 (0, 0)) :: (N ++ ((w.heap.size, Obj.cells (arrB 32 []) 37 (0, 0)) :: [])))
      refine (hOp_store rfl (gt) (txA t) rfl rfl HGT.out.1 25 ((txA noTxM)) (List.Mem.head _) (infoTx _ (txA_size _)) ((txA_size _).trans (txA_size _).symm) (txA_one _) ((gt, Obj.cells (txA t) 25 (0, 0)) :: (N ++ ((w.heap.size, Obj.cells (arrB 32 []) 37 (0, 0)) :: []))) (List.forall_mem_cons.2 ⟨.inl rfl, fun y hy => .inr ⟨List.mem_cons_of_mem _ hy, HGT.out.2 y hy⟩⟩) ?_)
      intro he14
      intro u16 E2'
      have EX15 := Lib.hid E2'
      clear E2'
      go_upto_region 5 with (fail)
      refine wp_region_Hx (w0 := w) [0, 1, 2, 3, 4, 5] ((gt, Obj.cells (txA t) 25 (0, 0)) :: (N ++ ((w.heap.size, Obj.cells (arrB 32 []) 37 (0, 0)) :: []))) rfl EX15.out ?_
      refine lexH_phase [0, 1, 2] [3, 4, 5] ?_
      have hw17 : EnvX w _ ((gt, Obj.cells (txA t) 25 (0, 0)) :: (N ++ ((w.heap.size, Obj.cells (arrB 32 []) 37 (0, 0)) :: []))) := EX15.out
      have hone := @EnvC.one _ _ _ hw17
      (refine wpG_op rfl rfl rfl ?_; intro K hK; go_big_quiet_op; go_big_quiet_on)
      (refine wpG_val (v := txV t) rfl rfl (fun u hu => load_any_op u (box_tx hu (List.Mem.head _)) rfl) ?_ hw17; intro K hK; go_big_quiet_op; go_big_quiet_on)
      (refine wpG_call (f := 20) (args := #[txV t]) (v := idv (idX t.r)) rfl rfl rfl Tryd.func20 rfl rfl (fun u hu => HID.out u (EnvX.bel hu)) ?_ hw17; intro K hK; go_big_quiet_op; go_big_quiet_on)
      clear hone hw17
      refine wpG_nil ?_
      refine (hOp_fresh (R := BuiltI (idX t.r)) (M0 := ((gt, Obj.cells (txA t) 25 (0, 0)) :: (N ++ ((w.heap.size, Obj.cells (arrB 32 []) 37 (0, 0)) :: [])))) rfl rfl (fun _ h => h) (fun u hu => FAt_buildI HLX.out rfl u) ?_)
      rintro _ _ ⟨gq, rfl, rfl⟩ hf he18; intro K' hK'; go_big_quiet_op; go_big_quiet_on
      clear hf
      change lexH _ _ _ _ _ _ ((gq, Obj.cells (arrB 32 (idX t.r)) 37 (0, 0)) :: ((gt, Obj.cells (txA t) 25 (0, 0)) :: (N ++ ((w.heap.size, Obj.cells (arrB 32 []) 37 (0, 0)) :: []))))
      refine (hOp_own (gd := none) (R := GrownI w (Q ++ [idX t.r]) [(w.heap.size, Obj.cells (arrB 32 []) 37 (0, 0))]) rfl rfl rfl rfl (fun u hu => appI_op [(w.heap.size, Obj.cells (arrB 32 []) 37 (0, 0))] hu HQ.out.1 HLX.out HF.out (fun y hy => ⟨List.mem_cons_of_mem _ (List.mem_cons_of_mem _ (List.mem_append_left _ hy)), (HN.out y hy).1⟩) (List.Mem.head _) (fun z hz => ⟨List.mem_cons_of_mem _ (List.mem_cons_of_mem _ (List.mem_append_right _ hz)), fun y hy => (HN.out y hy).2 z hz⟩) HQ.out.2 rfl rfl) ?_)
      rintro x9 M' ⟨N9, rfl, hF9, hn9⟩ he19; intro K' hK'; go_big_quiet_op; go_big_quiet_on
      have HF9 := Lib.hid hF9
      have HN9 := Lib.hid hn9
      clear hF9 hn9
      change lexH _ _ _ _ _ _ (N9 ++ ((w.heap.size, Obj.cells (arrB 32 []) 37 (0, 0)) :: []))
      refine lexH_phase [5] [] ?_
      have hw20 : EnvX w _ (N9 ++ ((w.heap.size, Obj.cells (arrB 32 []) 37 (0, 0)) :: [])) := he19.choose_spec
      have hone := @EnvC.one _ _ _ hw20
      (refine wpG_op rfl rfl rfl ?_; intro K hK; go_big_quiet_op; go_big_quiet_on)
      clear hone hw20
      refine wpG_nil ?_
      intro u22 E2'
      have EX21 := Lib.hid E2'
      clear E2'
      have HNX : Hid (∃ N, FreshI (idsX (rsT (l.take (k + 1)))) x9 N ∧ freshN w N [(w.heap.size, Obj.cells (arrB 32 []) 37 (0, 0))] ∧ EnvX w u22 (N ++ [(w.heap.size, Obj.cells (arrB 32 []) 37 (0, 0))])) := ⟨N9, by rw [HST.out]; exact HF9.out, HN9.out, EX21.out⟩
      have hkn := HKN.out
      have hn6 := HN6.out
      go_wp2
      go_roundw
      case rel => exact ⟨k + 1, by omega, by go_num, HNX⟩
      case measure => simp [intOf]; omega
    · obtain rfl : k = n := by omega
      have C3 : Hid (decide ((k : Int) < (k : Int)) = false) := decide_eq_false (by omega)
      rw [List.take_of_length_le (by rw [HL.out]; exact Nat.le_refl _)] at HF
      go_upto_region 3 with (fail)
      refine wp_region_Hx (w0 := w) [0] (N ++ ((w.heap.size, Obj.cells (arrB 32 []) 37 (0, 0)) :: [])) rfl EK.out ?_
      refine lexH_phase [0] [] ?_
      have hw201 : EnvX w _ (N ++ ((w.heap.size, Obj.cells (arrB 32 []) 37 (0, 0)) :: [])) := EK.out
      have hone := @EnvC.one _ _ _ hw201
      (refine wpG_val (v := .bool false) rfl rfl (fun u hu => ltZ_op u C3.out rfl rfl) ?_ hw201; intro K hK; go_big_quiet_op; go_big_quiet_on)
      clear hone hw201
      refine wpG_nil ?_
      intro u203 E2'
      have EX202 := Lib.hid E2'
      clear E2'
      obtain ⟨A1, c1, rfl, hc1, hc2⟩ := FreshI.form HF.out
      have HFO := Lib.hid (And.intro hc1 hc2)
      clear hc1 hc2
      go_upto_region 7 with (fail)
      refine wp_region_Hx (w0 := w) [0, 1, 2] (N ++ ((w.heap.size, Obj.cells (arrB 32 []) 37 (0, 0)) :: [])) rfl EX202.out ?_
      refine lexH_phase [0, 1] [2] ?_
      have hw204 : EnvX w _ (N ++ ((w.heap.size, Obj.cells (arrB 32 []) 37 (0, 0)) :: [])) := EX202.out
      have hone := @EnvC.one _ _ _ hw204
      (refine wpG_op rfl rfl rfl ?_; intro K hK; go_big_quiet_op; go_big_quiet_on)
      (refine wpG_call (f := 41) (args := #[.slice A1 (idsX (rsT l)).length c1]) (v := idv rt) rfl rfl rfl Tryd.func41 rfl rfl (fun u hu => HRT.out u A1 c1 (EnvX.bel hu) HFO.out.1 HFO.out.2 (HF.out.ids (idsX_ids _) hu (fun y hy => List.mem_append_left _ hy))) ?_ hw204; intro K hK; go_big_quiet_op; go_big_quiet_on)
      clear hone hw204
      refine wpG_nil ?_
      refine (hOp_store rfl (w.heap.size) (arrB 32 rt) rfl rfl (Nat.le_refl _) 37 ((arrB 32 [])) (List.mem_append_right _ (List.Mem.head _)) (info26 _ HZ.out) ((arrB_size _ _ (by simp)).trans HZ.out.symm) (arrB_one _ _) [(w.heap.size, Obj.cells (arrB 32 rt) 37 (0, 0))] (List.forall_mem_cons.2 ⟨.inl rfl, (fun _ h => by cases h)⟩) ?_)
      intro he205
      intro u207 E2'
      have EX206 := Lib.hid E2'
      clear E2'
      have Q0 := Lib.hid (EnvX.box EX206.out _ _ (List.Mem.head _))
      have HBEL := Lib.hid EX206.out.bel
      clear EX206
      go_wp2_with ((with_reducible refine bodyPost_ret (v := .agg (arrB 32 rt)) ?_ ?_ ?_); (exact results_cell_row (p := 2) (ty := 37) Tryd.results22 _ _ (w.heap.size) 37 (arrB 32 rt) (0, 0) _ rfl Q0.out Tryd.underlying37 rfl (info26 _ HZ.out)); (rfl))
      first | exact HBEL.out | exact ⟨rfl, HBEL.out⟩
/-- package coin, as it landed -/
theorem coinC : CoinC where
  may := fun t w ht _ => mayP_any t w ht
  same := fun s t w hs ht _ => sameP_any s t w hs ht
  put := fun t w ht _ => putP_any t w ht
  read := fun A n c b w hl hn hnc hcm hB hx _ => readX_by mayP_any A n c b w hl hn hnc hcm hB hx
  id := fun t w ht htt => pidX_any t w ht htt
  root := fun l A n c w hl hn hnc hcm hA ht => prootX_any l A n c w hl hn hnc hcm hA ht
end Go.Proofs.YtcodmedgkboohaaDoor

namespace Go.Proofs.YtcodmedgkboohaaDoor
set_option maxRecDepth 8000
open Go.RowKit

def fewAll (l : List TxM) (m : Int) : Bool := l.all (fun t => fewX t.r) && decide ((l.length : Int) ≤ m)
theorem fewAll_no {l : List TxM} {m : Int} {k : Nat} (hk : k < l.length) (h : fewX (l.getD k noTxM).r = false) : fewAll l m = false := by
  unfold fewAll
  have e : l.all (fun t => fewX t.r) = false := by
    rw [List.all_eq_false]
    refine ⟨l.getD k noTxM, ?_, by rw [h]; decide⟩
    rw [List.getD_eq_getElem?_getD, List.getElem?_eq_getElem hk]
    exact List.getElem_mem hk
  rw [e]
  rfl
theorem fewAll_all {l : List TxM} {m : Int} (h : ∀ k, k < l.length → fewX (l.getD k noTxM).r = true) : fewAll l m = decide ((l.length : Int) ≤ m) := by
  unfold fewAll
  have e : l.all (fun t => fewX t.r) = true := by
    rw [List.all_eq_true]
    intro t ht
    obtain ⟨k, hk, rfl⟩ := List.getElem_of_mem ht
    have := h k hk
    rwa [List.getD_eq_getElem?_getD, List.getElem?_eq_getElem hk] at this
  rw [e]
  rfl
theorem fewAll_len {l : List TxM} {m : Int} (h : fewAll l m = true) : (l.length : Int) ≤ m := by
  unfold fewAll at h
  rw [Bool.and_eq_true, decide_eq_true_eq] at h
  exact h.2
set_option maxRecDepth 20000 in
set_option maxHeartbeats 8000000 in
theorem fewall_any (l : List TxM) (m : Int) (A : Option Addr) (n c : Nat) (w : World) (hl : l.length = n) (hn : n < 9223372036854775808) (hA : TxsIn w A l) :
    Calls Tryd.prog 11 #[.slice A n c, .int .i64 m] w fun e w' => e = .returned (.bool (fewAll l m)) ∧ Below w.heap.size w w' := by
  have HL := Lib.hid hl
  have HIA := Lib.hid hA
  have HN63 := Lib.hid hn
  clear hl hA
  go_enter Tryd.func11, Tryd.ntmps11
  go_upto_region 2 with (fail)
  go_loopw [5] (fun iv u => ∃ k : Nat, k ≤ n ∧ iv = .int .i64 (k : Int) ∧ Hid ((∀ j, j < k → fewX (l.getD j noTxM).r = true) ∧ Below w.heap.size w u)) (fun iv _ => n - (intOf iv).toNat)
  case atStart => exact ⟨0, by omega, rfl, fun j hj => by omega, Below.refl _ _⟩
  case round =>
    obtain ⟨k, hk, rfl, hinv⟩ := hrel
    obtain ⟨hA, hB⟩ := hinv.out
    clear hinv
    have HF := Lib.hid hA
    have EK : Hid (EnvX w wr []) := ⟨hB, fun _ _ h => by cases h⟩
    clear hA hB
    by_cases hlt : k < n
    · have hkl : k < l.length := by rw [HL.out]; exact hlt
      obtain ⟨ad, rfl, -, hld⟩ := HIA.out.loads hkl
      have HLD : Hid (∀ u, EnvX w u [] → (loadVar 25 (ad.add (k * 2))).run Tryd.prog u = .ok (txV (l.getD k noTxM)) u) := fun u hu => (hld u hu).1
      have HFW : Hid (∀ u, Below w.heap.size w u → Calls Tryd.prog 10 #[txV (l.getD k noTxM)] u fun e w' => e = .returned (.bool (fewX (l.getD k noTxM).r)) ∧ Below u.heap.size u w') := fun u hu => few_any _ u ((HIA.out.get hkl).up hu)
      have HKN := Lib.hid hlt
      have HKL := Lib.hid hkl
      have C2 : Hid (decide ((k : Int) < (n : Int)) = true) := decide_eq_true (by omega)
      clear hld
      have hno : fewX (l.getD k noTxM).r = false → fewAll l m = false := fun e => fewAll_no hkl e
      have HNO := Lib.hid hno
      clear hno hkl
      cases hf : fewX (l.getD k noTxM).r with
      | false =>
        rw [hf] at HFW
        go_upto_region 2 with (fail)
        refine wp_region_Hx (w0 := w) [0, 1, 2, 3] [] rfl EK.out ?_
        refine lexH_phase [0, 1, 2, 3] [] ?_
        have hw1 : EnvX w _ [] := EK.out
        have hone := @EnvC.one _ _ _ hw1
        (refine wpG_op rfl rfl rfl ?_; intro K hK; go_big_quiet_op; go_big_quiet_on)
        (refine wpG_op rfl rfl rfl ?_; intro K hK; go_big_quiet_op; go_big_quiet_on)
        (refine wpG_val (v := .int .i64 (n : Int)) rfl rfl (fun u hu => len_op Tryd.underlying27 HN63.out u rfl) ?_ hw1; intro K hK; go_big_quiet_op; go_big_quiet_on)
        (refine wpG_val (v := .bool true) rfl rfl (fun u hu => ltZ_op u C2.out rfl rfl) ?_ hw1; intro K hK; go_big_quiet_op; go_big_quiet_on)
        clear hone hw1
        refine wpG_nil ?_
        intro u3 E2'
        have EX2 := Lib.hid E2'
        clear E2'
        go_upto_region 4 with (fail)
        refine wp_region_Hx (w0 := w) [0, 1, 2, 3, 4, 5] [] rfl EX2.out ?_
        refine lexH_phase [0, 1, 2, 3, 4, 5] [] ?_
        have hw4 : EnvX w _ [] := EX2.out
        have hone := @EnvC.one _ _ _ hw4
        (refine wpG_op rfl rfl rfl ?_; intro K hK; go_big_quiet_op; go_big_quiet_on)
        (refine wpG_op rfl rfl rfl ?_; intro K hK; go_big_quiet_op; go_big_quiet_on)
        (refine wpG_val (v := .pointer (some (ad.add (k * 2)))) rfl rfl (fun u hu => idxSl_op (i := k) Tryd.underlying27 aggTx.size HKN.out u rfl rfl) ?_ hw4; intro K hK; go_big_quiet_op; go_big_quiet_on)
        (refine wpG_val (v := txV (l.getD k noTxM)) rfl rfl (fun u hu => load_any_op u (HLD.out u hu) rfl) ?_ hw4; intro K hK; go_big_quiet_op; go_big_quiet_on)
        (refine wpG_call (f := 10) (args := #[txV (l.getD k noTxM)]) (v := .bool false) rfl rfl rfl Tryd.func10 rfl rfl (fun u hu => HFW.out u (EnvX.bel hu)) ?_ hw4; intro K hK; go_big_quiet_op; go_big_quiet_on)
        (refine wpG_op rfl rfl rfl ?_; intro K hK; go_big_quiet_op; go_big_quiet_on)
        clear hone hw4
        refine wpG_nil ?_
        intro u6 E2'
        have EX5 := Lib.hid E2'
        clear E2'
        have HBE := Lib.hid (EnvX.bel EX5.out)
        have HRS : Hid (fewAll l m = false) := HNO.out hf
        clear hf
        go_wp2
        go_ret
        exact ⟨by rw [HRS.out]; rfl, HBE.out⟩
      | true =>
        rw [hf] at HFW
        go_upto_region 2 with (fail)
        refine wp_region_Hx (w0 := w) [0, 1, 2, 3] [] rfl EK.out ?_
        refine lexH_phase [0, 1, 2, 3] [] ?_
        have hw1 : EnvX w _ [] := EK.out
        have hone := @EnvC.one _ _ _ hw1
        (refine wpG_op rfl rfl rfl ?_; intro K hK; go_big_quiet_op; go_big_quiet_on)
        (refine wpG_op rfl rfl rfl ?_; intro K hK; go_big_quiet_op; go_big_quiet_on)
        (refine wpG_val (v := .int .i64 (n : Int)) rfl rfl (fun u hu => len_op Tryd.underlying27 HN63.out u rfl) ?_ hw1; intro K hK; go_big_quiet_op; go_big_quiet_on)
        (refine wpG_val (v := .bool true) rfl rfl (fun u hu => ltZ_op u C2.out rfl rfl) ?_ hw1; intro K hK; go_big_quiet_op; go_big_quiet_on)
        clear hone hw1
        refine wpG_nil ?_
        intro u3 E2'
        have EX2 := Lib.hid E2'
        clear E2'
        go_upto_region 4 with (fail)
        refine wp_region_Hx (w0 := w) [0, 1, 2, 3, 4, 5] [] rfl EX2.out ?_
        refine lexH_phase [0, 1, 2, 3, 4, 5] [] ?_
        have hw4 : EnvX w _ [] := EX2.out
        have hone := @EnvC.one _ _ _ hw4
        (refine wpG_op rfl rfl rfl ?_; intro K hK; go_big_quiet_op; go_big_quiet_on)
        (refine wpG_op rfl rfl rfl ?_; intro K hK; go_big_quiet_op; go_big_quiet_on)
        (refine wpG_val (v := .pointer (some (ad.add (k * 2)))) rfl rfl (fun u hu => idxSl_op (i := k) Tryd.underlying27 aggTx.size HKN.out u rfl rfl) ?_ hw4; intro K hK; go_big_quiet_op; go_big_quiet_on)
        (refine wpG_val (v := txV (l.getD k noTxM)) rfl rfl (fun u hu => load_any_op u (HLD.out u hu) rfl) ?_ hw4; intro K hK; go_big_quiet_op; go_big_quiet_on)
        (refine wpG_call (f := 10) (args := #[txV (l.getD k noTxM)]) (v := .bool true) rfl rfl rfl Tryd.func10 rfl rfl (fun u hu => HFW.out u (EnvX.bel hu)) ?_ hw4; intro K hK; go_big_quiet_op; go_big_quiet_on)
        (refine wpG_op rfl rfl rfl ?_; intro K hK; go_big_quiet_op; go_big_quiet_on)
        clear hone hw4
        refine wpG_nil ?_
        intro u6 E2'
        have EX5 := Lib.hid E2'
        clear E2'
        have HBE := Lib.hid (EnvX.bel EX5.out)
        have HF2 : Hid (∀ j, j < k + 1 → fewX (l.getD j noTxM).r = true) := fun j hj => by
          by_cases e : j = k
          · rw [e]; exact hf
          · exact HF.out j (by omega)
        clear hf
        go_wp2
        go_roundw
        case rel => exact ⟨k + 1, by omega, by go_num, HF2.out, HBE.out⟩
        case measure => simp [intOf]; omega
    · obtain rfl : k = n := by omega
      have HRS : Hid (fewAll l m = decide ((k : Int) ≤ m)) := by rw [fewAll_all (by rw [HL.out]; exact HF.out), HL.out]; rfl
      have C2 : Hid (decide ((k : Int) < (k : Int)) = false) := decide_eq_false (by omega)
      go_upto_region 2 with (fail)
      refine wp_region_Hx (w0 := w) [0, 1, 2, 3] [] rfl EK.out ?_
      refine lexH_phase [0, 1, 2, 3] [] ?_
      have hw1 : EnvX w _ [] := EK.out
      have hone := @EnvC.one _ _ _ hw1
      (refine wpG_op rfl rfl rfl ?_; intro K hK; go_big_quiet_op; go_big_quiet_on)
      (refine wpG_op rfl rfl rfl ?_; intro K hK; go_big_quiet_op; go_big_quiet_on)
      (refine wpG_val (v := .int .i64 (k : Int)) rfl rfl (fun u hu => len_op Tryd.underlying27 HN63.out u rfl) ?_ hw1; intro K hK; go_big_quiet_op; go_big_quiet_on)
      (refine wpG_val (v := .bool false) rfl rfl (fun u hu => ltZ_op u C2.out rfl rfl) ?_ hw1; intro K hK; go_big_quiet_op; go_big_quiet_on)
      clear hone hw1
      refine wpG_nil ?_
      intro u3 E2'
      have EX2 := Lib.hid E2'
      clear E2'
      go_upto_region 7 with (fail)
      refine wp_region_Hx (w0 := w) [0, 1, 2, 3, 4] [] rfl EX2.out ?_
      refine lexH_phase [0, 1, 2, 3, 4] [] ?_
      have hw4 : EnvX w _ [] := EX2.out
      have hone := @EnvC.one _ _ _ hw4
      (refine wpG_op rfl rfl rfl ?_; intro K hK; go_big_quiet_op; go_big_quiet_on)
      (refine wpG_val (v := .int .i64 (k : Int)) rfl rfl (fun u hu => len_op Tryd.underlying27 HN63.out u rfl) ?_ hw4; intro K hK; go_big_quiet_op; go_big_quiet_on)
      (refine wpG_op rfl rfl rfl ?_; intro K hK; go_big_quiet_op; go_big_quiet_on)
      (refine wpG_val (v := .bool (fewAll l m)) rfl rfl (fun u hu => leZ_op u HRS.out.symm rfl rfl) ?_ hw4; intro K hK; go_big_quiet_op; go_big_quiet_on)
      (refine wpG_op rfl rfl rfl ?_; intro K hK; go_big_quiet_op; go_big_quiet_on)
      clear hone hw4
      refine wpG_nil ?_
      intro u6 E2'
      have EX5 := Lib.hid E2'
      clear E2'
      have HBE := Lib.hid (EnvX.bel EX5.out)
      go_wp2
      go_ret
      exact ⟨rfl, HBE.out⟩
end Go.Proofs.YtcodmedgkboohaaDoor
