/- Part of a proof. -/
import Derived.Test.YtcodmedgkboohaaDoorCoinTellsPb
namespace Go.Proofs.YtcodmedgkboohaaDoor
set_option maxRecDepth 8000
open Go.RowKit

set_option maxRecDepth 20000 in
set_option maxHeartbeats 8000000 in
theorem ridX_no (t : TxM) (w : World) (ht : TxOk w t) (k : mayX t.r = false) :
    Calls Tryd.prog 21 #[txV t] w fun e w' => e = .returned (idv (idX t.r)) ∧ Below w.heap.size w w' := by
  have hp : putX t.r = ([], false) := by unfold putX; rw [k]; rfl
  have hi : idX t.r = z32 := by unfold idX; rw [k]; rfl
  rw [hi]
  have HZ : Hid ((arrB 32 z32).size = 32) := arrB_size _ _ (by decide)
  clear k hi
  have HLE : Hid (w.heap.size ≤ w.heap.size + 1) := by show _ ≤ _; omega
  have E1 : Hid (EnvX w ((w.alloc (.cells (txA t) 25)).alloc (.cells (arrB 32 []) 37)) [(w.heap.size + 1, Obj.cells (arrB 32 []) 37 (0, 0)), (w.heap.size, Obj.cells (txA t) 25 (0, 0))]) := (EnvX.start w).two _ _
  have HPT : Hid (∀ u, Below w.heap.size w u → Calls Tryd.prog 13 #[txV t] u fun e w' => (∃ v, e = .returned (.tuple #[v, .bool (putX t.r).2]) ∧ OwnB w' u.heap.size v (putX t.r).1) ∧ Below u.heap.size u w') := fun u hu => rputX_any t u (ht.up hu)
  rw [hp] at HPT
  clear hp ht
  unfold txV at *
  go_enter Tryd.func21, Tryd.ntmps21
  go_upto_region 1 with (fail)
  rw [zero_cells]
  generalize (w.alloc (.cells (txA t) 25)).alloc (.cells (arrB 32 []) 37) = W at *
  have HLD : Hid ((loadVar 25 ⟨w.heap.size, 0, none⟩).run Tryd.prog W = .ok (.agg (txA t)) W) := box_tx E1.out (List.Mem.tail _ (List.Mem.head _))
  go_wp2_with ((with_reducible refine wpList_load_run (o := ⟨some 6, _, _, _, _, _⟩) ?_ 25 (.tmp 1) ?_ ⟨w.heap.size, 0, none⟩ ?_ HLD.out ?_); (rfl); (rfl); (rfl))
  refine (HPT.out W (EnvX.bel E1.out)).mono ?_
  rintro e w1 ⟨⟨v, rfl, hv⟩, hb⟩
  have E2 : Hid (EnvX w w1 [(w.heap.size + 1, Obj.cells (arrB 32 []) 37 (0, 0)), (w.heap.size, Obj.cells (txA t) 25 (0, 0))]) := EnvX.below E1.out hb
  clear hv hb E1 HLD
  go_upto_region 3 with (fail)
  refine wp_region_Hx (w0 := w) [0, 1] [(w.heap.size + 1, Obj.cells (arrB 32 []) 37 (0, 0)), (w.heap.size, Obj.cells (txA t) 25 (0, 0))] rfl E2.out ?_
  refine lexH_phase [0] [1] ?_
  have hw1 : EnvX w _ [(w.heap.size + 1, Obj.cells (arrB 32 []) 37 (0, 0)), (w.heap.size, Obj.cells (txA t) 25 (0, 0))] := E2.out
  have hone := @EnvC.one _ _ _ hw1
  (refine wpG_val (v := .agg (arrB 32 z32)) rfl rfl (fun u hu => buildA_op u hbuilt0) ?_ hw1; intro K hK; go_big_quiet_op; go_big_quiet_on)
  clear hone hw1
  refine wpG_nil ?_
  refine (hOp_store rfl (w.heap.size + 1) (arrB 32 z32) rfl rfl HLE.out 37 ((arrB 32 [])) (List.Mem.head _) (info26 _ HZ.out) ((arrB_size _ _ (by simp)).trans HZ.out.symm) (arrB_one _ _) [(w.heap.size + 1, Obj.cells (arrB 32 z32) 37 (0, 0))] (List.forall_mem_cons.2 ⟨.inl rfl, (fun _ h => by cases h)⟩) ?_)
  intro he2
  intro u4 E2'
  have EX3 := Lib.hid E2'
  clear E2'
  have Q0 := Lib.hid (EnvX.box EX3.out _ _ (List.Mem.head _))
  have HBEL := Lib.hid EX3.out.bel
  clear EX3
  go_wp2_with ((with_reducible refine bodyPost_ret (v := .agg (arrB 32 z32)) ?_ ?_ ?_); (exact results_cell_row (p := 2) (ty := 37) Tryd.results21 _ _ (w.heap.size + 1) 37 (arrB 32 z32) (0, 0) _ rfl Q0.out Tryd.underlying37 rfl (info26 _ HZ.out)); (rfl))
  exact ⟨rfl, HBEL.out⟩
set_option maxRecDepth 20000 in
set_option maxHeartbeats 8000000 in
theorem ridX_yes (t : TxM) (w : World) (ht : TxOk w t) (k : mayX t.r = true) :
    Calls Tryd.prog 21 #[txV t] w fun e w' => e = .returned (idv (idX t.r)) ∧ Below w.heap.size w w' := by
  have hp : putX t.r = (bodyX t.r, true) := by unfold putX; rw [k]; rfl
  have hi : idX t.r = sumL (6 :: bodyX t.r) := by unfold idX; rw [k]; rfl
  rw [hi]
  obtain ⟨su, hsu⟩ : ∃ su, sumL (6 :: bodyX t.r) = su := ⟨_, rfl⟩
  have HZ : Hid ((arrB 32 su).size = 32) := arrB_size _ _ (by rw [← hsu, sumL_len]; omega)
  have HSU := Lib.hid hsu
  rw [hsu]
  clear hsu
  obtain ⟨m, hm⟩ : ∃ m, (bodyX t.r).length = m := ⟨_, rfl⟩
  have hml : 2 ≤ m ∧ m ≤ 200 := by
    have h1 := bodyX_len ht.ok
    have h2 := mayX_iff.1 k
    omega
  have HBO : Hid ((bodyX t.r).length = m ∧ isB (bodyX t.r)) := ⟨hm, bodyX_byte ht.ok k⟩
  have HML := Lib.hid hml
  clear k hi hm hml
  have HLE : Hid (w.heap.size ≤ w.heap.size + 1) := by show _ ≤ _; omega
  have E1 : Hid (EnvX w ((w.alloc (.cells (txA t) 25)).alloc (.cells (arrB 32 []) 37)) [(w.heap.size + 1, Obj.cells (arrB 32 []) 37 (0, 0)), (w.heap.size, Obj.cells (txA t) 25 (0, 0))]) := (EnvX.start w).two _ _
  have HPT : Hid (∀ u, Below w.heap.size w u → Calls Tryd.prog 13 #[txV t] u fun e w' => (∃ v, e = .returned (.tuple #[v, .bool (putX t.r).2]) ∧ OwnB w' u.heap.size v (putX t.r).1) ∧ Below u.heap.size u w') := fun u hu => rputX_any t u (ht.up hu)
  rw [hp] at HPT
  clear hp ht
  unfold txV at *
  go_enter Tryd.func21, Tryd.ntmps21
  go_upto_region 1 with (fail)
  rw [zero_cells]
  generalize (w.alloc (.cells (txA t) 25)).alloc (.cells (arrB 32 []) 37) = W at *
  have HLD : Hid ((loadVar 25 ⟨w.heap.size, 0, none⟩).run Tryd.prog W = .ok (.agg (txA t)) W) := box_tx E1.out (List.Mem.tail _ (List.Mem.head _))
  go_wp2_with ((with_reducible refine wpList_load_run (o := ⟨some 6, _, _, _, _, _⟩) ?_ 25 (.tmp 1) ?_ ⟨w.heap.size, 0, none⟩ ?_ HLD.out ?_); (rfl); (rfl); (rfl))
  refine (HPT.out W (EnvX.bel E1.out)).mono ?_
  rintro e w1 ⟨⟨v, rfl, hv⟩, hb⟩
  obtain ⟨hv1, ⟨_, h0⟩ | ⟨gv, capv, curv, rfl, hg1, hg2, hg3⟩⟩ := hv
  · have := HBO.out.1
    have := HML.out
    have h1 : (bodyX t.r).length = 0 := h0
    omega
  have E2 : Hid (EnvX w w1 [(gv, Obj.cells curv 5 (0, 0)), (w.heap.size + 1, Obj.cells (arrB 32 []) 37 (0, 0)), (w.heap.size, Obj.cells (txA t) 25 (0, 0))]) := ⟨(EnvX.below E1.out hb).bel, fun g o hm => by
    rcases List.mem_cons.1 hm with e | e
    · cases e
      exact hg2
    · exact (EnvX.below E1.out hb).box g o e⟩
  rw [HBO.out.1] at hg3 ⊢
  have HGV := Lib.hid hg3
  have HOF : Hid (∀ (u : World) (gr : Nat), Parts u u.heap.size (some ⟨gr, 0, none⟩) [[6], bodyX t.r] → Calls Tryd.prog 40 #[.slice (some ⟨gr, 0, none⟩) 2 2] u fun e w' => e = .returned (.agg (arrB 32 su)) ∧ Below u.heap.size u w') := fun u gr hp => by
    have e : [[6], bodyX t.r].flatten = 6 :: bodyX t.r := by simp
    have h1 := rsof_any (some ⟨gr, 0, none⟩) 2 2 [[6], bodyX t.r] u rfl hp (by omega) (by rw [e, List.length_cons, HBO.out.1]; have := HML.out; omega)
    rwa [e, HSU.out] at h1
  clear hv1 hb E1 HLD hg1 hg2 hg3
  go_upto_region 4 with (fail)
  refine wp_region_Hx (w0 := w) [0, 1, 2, 3, 4] [(gv, Obj.cells curv 5 (0, 0)), (w.heap.size + 1, Obj.cells (arrB 32 []) 37 (0, 0)), (w.heap.size, Obj.cells (txA t) 25 (0, 0))] rfl E2.out ?_
  refine (hOp_fresh (R := fun v N => ∃ g, v = .slice (some ⟨g, 0, none⟩) 1 1 ∧ N = [(g, Obj.cells #[.int .u8 6] 5 (0, 0))]) (M0 := [(gv, Obj.cells curv 5 (0, 0)), (w.heap.size + 1, Obj.cells (arrB 32 []) 37 (0, 0)), (w.heap.size, Obj.cells (txA t) 25 (0, 0))]) rfl rfl (fun _ h => h) (fun u hu => FAt_byte1 6 u) ?_)
  rintro _ _ ⟨g5, rfl, rfl⟩ hf he1; intro K' hK'; go_big_quiet_op; go_big_quiet_on
  clear hf
  change lexH _ _ _ _ _ _ [(g5, Obj.cells #[.int .u8 6] 5 (0, 0)), (gv, Obj.cells curv 5 (0, 0)), (w.heap.size + 1, Obj.cells (arrB 32 []) 37 (0, 0)), (w.heap.size, Obj.cells (txA t) 25 (0, 0))]
  refine lexH_phase [1] [2, 3, 4] ?_
  have hw2 : EnvX w _ [(g5, Obj.cells #[.int .u8 6] 5 (0, 0)), (gv, Obj.cells curv 5 (0, 0)), (w.heap.size + 1, Obj.cells (arrB 32 []) 37 (0, 0)), (w.heap.size, Obj.cells (txA t) 25 (0, 0))] := he1.choose_spec
  have hone := @EnvC.one _ _ _ hw2
  (refine wpG_op rfl rfl rfl ?_; intro K hK; go_big_quiet_op; go_big_quiet_on)
  clear hone hw2
  refine wpG_nil ?_
  refine (hOp_fresh (R := fun v N => ∃ g, v = .slice (some ⟨g, 0, none⟩) 2 2 ∧ N = [(g, Obj.cells #[.slice (some ⟨g5, 0, none⟩) 1 1, .slice (some ⟨gv, 0, none⟩) m capv] 26 (0, 0))]) (M0 := [(g5, Obj.cells #[.int .u8 6] 5 (0, 0)), (gv, Obj.cells curv 5 (0, 0)), (w.heap.size + 1, Obj.cells (arrB 32 []) 37 (0, 0)), (w.heap.size, Obj.cells (txA t) 25 (0, 0))]) rfl rfl (fun _ h => h) (fun u hu => FAt_rows2 rfl rfl u) ?_)
  rintro _ _ ⟨gr, rfl, rfl⟩ hf he3; intro K' hK'; go_big_quiet_op; go_big_quiet_on
  clear hf
  change lexH _ _ _ _ _ _ [(gr, Obj.cells #[.slice (some ⟨g5, 0, none⟩) 1 1, .slice (some ⟨gv, 0, none⟩) m capv] 26 (0, 0)), (g5, Obj.cells #[.int .u8 6] 5 (0, 0)), (gv, Obj.cells curv 5 (0, 0)), (w.heap.size + 1, Obj.cells (arrB 32 []) 37 (0, 0)), (w.heap.size, Obj.cells (txA t) 25 (0, 0))]
  refine lexH_phase [3] [4] ?_
  have hw4 : EnvX w _ [(gr, Obj.cells #[.slice (some ⟨g5, 0, none⟩) 1 1, .slice (some ⟨gv, 0, none⟩) m capv] 26 (0, 0)), (g5, Obj.cells #[.int .u8 6] 5 (0, 0)), (gv, Obj.cells curv 5 (0, 0)), (w.heap.size + 1, Obj.cells (arrB 32 []) 37 (0, 0)), (w.heap.size, Obj.cells (txA t) 25 (0, 0))] := he3.choose_spec
  have hone := @EnvC.one _ _ _ hw4
  (refine wpG_call (f := 40) (args := #[.slice (some ⟨gr, 0, none⟩) 2 2]) (v := .agg (arrB 32 su)) rfl rfl rfl Tryd.func40 rfl rfl (fun u hu => HOF.out u gr (parts_two (EnvX.lt hu (List.Mem.head _)) (by have h := box_cell (k := 0) hu (List.Mem.head _) rfl; exact h) (boxR_bytes (cap := 1) hu (List.Mem.tail _ (List.Mem.head _)) rfl ⟨by decide, by decide, rfl, rfl⟩) (by intro x hx; cases List.mem_singleton.1 hx; omega) (by have h := box_cell (k := 1) hu (List.Mem.head _) rfl; rw [HBO.out.1]; exact h) (boxR_bytes hu (List.Mem.tail _ (List.Mem.tail _ (List.Mem.head _))) HBO.out.1 HGV.out) HBO.out.2)) ?_ hw4; intro K hK; go_big_quiet_op; go_big_quiet_on)
  clear hone hw4
  refine wpG_nil ?_
  refine (hOp_store rfl (w.heap.size + 1) (arrB 32 su) rfl rfl HLE.out 37 ((arrB 32 [])) (List.Mem.tail _ (List.Mem.tail _ (List.Mem.tail _ (List.Mem.head _)))) (info26 _ HZ.out) ((arrB_size _ _ (by simp)).trans HZ.out.symm) (arrB_one _ _) [(w.heap.size + 1, Obj.cells (arrB 32 su) 37 (0, 0))] (List.forall_mem_cons.2 ⟨.inl rfl, (fun _ h => by cases h)⟩) ?_)
  intro he5
  intro u7 E2'
  have EX6 := Lib.hid E2'
  clear E2'
  have Q0 := Lib.hid (EnvX.box EX6.out _ _ (List.Mem.head _))
  have HBEL := Lib.hid EX6.out.bel
  clear EX6
  go_wp2_with ((with_reducible refine bodyPost_ret (v := .agg (arrB 32 su)) ?_ ?_ ?_); (exact results_cell_row (p := 2) (ty := 37) Tryd.results21 _ _ (w.heap.size + 1) 37 (arrB 32 su) (0, 0) _ rfl Q0.out Tryd.underlying37 rfl (info26 _ HZ.out)); (rfl))
  exact ⟨rfl, HBEL.out⟩
theorem ridX_any (t : TxM) (w : World) (ht : TxOk w t) :
    Calls Tryd.prog 21 #[txV t] w fun e w' => e = .returned (idv (idX t.r)) ∧ Below w.heap.size w w' := by
  cases k : mayX t.r with
  | true => exact ridX_yes t w ht k
  | false => exact ridX_no t w ht k
set_option maxRecDepth 20000 in
set_option maxHeartbeats 8000000 in
theorem ridsX_any (l : List TxM) (A : Option Addr) (n c : Nat) (w : World) (hl : l.length = n) (hn : n ≤ 1000000) (hA : TxsIn w A l) :
    Calls Tryd.prog 43 #[.slice A n c] w fun e w' => (∃ v, e = .returned v ∧ OwnI w' w.heap.size v (idsX (rsT l))) ∧ Below w.heap.size w w' := by
  have HL := Lib.hid hl
  have HIA := Lib.hid hA
  clear hl hA
  go_enter Tryd.func43, Tryd.ntmps43
  go_upto_region 3 with (fail)
  go_loopw [3, 4] (fun v iv u => ∃ k : Nat, k ≤ n ∧ iv = .int .i64 (k : Int) ∧ Hid (OwnI u w.heap.size v (idsX (rsT (l.take k))) ∧ Below w.heap.size w u)) (fun _ iv _ => n - (intOf iv).toNat)
  case atStart => exact ⟨0, by omega, rfl, OwnI.nil _ _, Below.refl _ _⟩
  case round =>
    obtain ⟨k, hk, rfl, hinv⟩ := hrel
    obtain ⟨hO, hB⟩ := hinv.out
    clear hinv
    by_cases hlt : k < n
    · have hlt2 : (k : Int) < (n : Int) := by omega
      have hkl : k < l.length := by rw [HL.out]; exact hlt
      obtain ⟨N, hF, hN⟩ := hO.fresh
      have HF := Lib.hid hF
      have HNB : Hid (∀ y ∈ N, w.heap.size ≤ y.1) := fun y hy => (hN y hy).1
      have EK : Hid (EnvX w wr (N ++ [])) := ⟨hB, fun g o hm => (hN (g, o) (by rwa [List.append_nil] at hm)).2.1⟩
      obtain ⟨ad, rfl, -, hld⟩ := HIA.out.loads hkl
      have HLD : Hid (∀ u, EnvX w u [] → (loadVar 25 (ad.add (k * 2))).run Tryd.prog u = .ok (txV (l.getD k noTxM)) u) := fun u hu => (hld u hu).1
      have hst := idsX_step hkl
      have hQl : (idsX (rsT (l.take k))).length = k := by rw [idsX_len, List.length_take]; omega
      have HID : Hid (∀ u, Below w.heap.size w u → Calls Tryd.prog 21 #[txV (l.getD k noTxM)] u fun e w' => e = .returned (idv (idX (l.getD k noTxM).r)) ∧ Below u.heap.size u w') := fun u hu => ridX_any _ u ((HIA.out.get hkl).up hu)
      have HQ : Hid (isIds (idsX (rsT (l.take k))) ∧ (idsX (rsT (l.take k))).length ≤ 1000000) := ⟨idsX_ids _, by omega⟩
      have HKN := Lib.hid hlt
      have HST := Lib.hid hst
      clear hO hB hF hN hst hQl hkl hlt hld
      generalize idsX (rsT (l.take k)) = Q at *
      generalize l.getD k noTxM = t at *
      have HLX : Hid ((idX t.r).length = 32) := (idX_id t.r).1
      go_upto_region 5 with (fail)
      refine wp_region_Hx (w0 := w) [0, 1, 2, 3, 4, 5, 6, 7, 8] (N ++ []) rfl EK.out ?_
      refine lexH_phase [0, 1, 2, 3, 4, 5] [6, 7, 8] ?_
      have hw1 : EnvX w _ (N ++ []) := EK.out
      have hone := @EnvC.one _ _ _ hw1
      (refine wpG_op rfl rfl rfl ?_; intro K hK; go_big_quiet_op; go_big_quiet_on)
      (refine wpG_op rfl rfl rfl ?_; intro K hK; go_big_quiet_op; go_big_quiet_on)
      (refine wpG_op rfl rfl rfl ?_; intro K hK; go_big_quiet_op; go_big_quiet_on)
      (refine wpG_val (v := .pointer (some (ad.add (k * 2)))) rfl rfl (fun u hu => idxSl_op (i := k) Tryd.underlying27 aggTx.size HKN.out u rfl rfl) ?_ hw1; intro K hK; go_big_quiet_op; go_big_quiet_on)
      (refine wpG_val (v := txV t) rfl rfl (fun u hu => load_any_op u (HLD.out u (EnvX.sub hu (fun _ h => by cases h))) rfl) ?_ hw1; intro K hK; go_big_quiet_op; go_big_quiet_on)
      (refine wpG_call (f := 21) (args := #[txV t]) (v := idv (idX t.r)) rfl rfl rfl Tryd.func21 rfl rfl (fun u hu => HID.out u (EnvX.bel hu)) ?_ hw1; intro K hK; go_big_quiet_op; go_big_quiet_on)
      clear hone hw1
      refine wpG_nil ?_
      refine (hOp_fresh (R := BuiltI (idX t.r)) (M0 := (N ++ [])) rfl rfl (fun _ h => h) (fun u hu => FAt_buildI HLX.out rfl u) ?_)
      rintro _ _ ⟨gq, rfl, rfl⟩ hf he2; intro K' hK'; go_big_quiet_op; go_big_quiet_on
      clear hf
      change lexH _ _ _ _ _ _ ((gq, Obj.cells (arrB 32 (idX t.r)) 37 (0, 0)) :: (N ++ []))
      refine (hOp_own (gd := none) (R := GrownI w (Q ++ [idX t.r]) []) rfl rfl rfl rfl (fun u hu => appI_op [] hu HQ.out.1 HLX.out HF.out (fun y hy => ⟨List.mem_cons_of_mem _ (List.mem_append_left _ hy), HNB.out y hy⟩) (List.Mem.head _) (fun _ h => by cases h) HQ.out.2 rfl rfl) ?_)
      rintro x9 M' ⟨N9, rfl, hF9, hn9⟩ he3; intro K' hK'; go_big_quiet_op; go_big_quiet_on
      have HF9 := Lib.hid (And.intro hF9 hn9)
      clear hF9 hn9
      change lexH _ _ _ _ _ _ (N9 ++ [])
      refine lexH_phase [8] [] ?_
      have hw4 : EnvX w _ (N9 ++ []) := he3.choose_spec
      have hone := @EnvC.one _ _ _ hw4
      (refine wpG_op rfl rfl rfl ?_; intro K hK; go_big_quiet_op; go_big_quiet_on)
      clear hone hw4
      refine wpG_nil ?_
      intro u6 E2'
      have EX5 := Lib.hid E2'
      clear E2'
      have HNX : Hid (OwnI u6 w.heap.size x9 (idsX (rsT (l.take (k + 1)))) ∧ Below w.heap.size w u6) := by
        refine ⟨?_, EnvX.bel EX5.out⟩
        rw [HST.out]
        refine HF9.out.1.own (fun y hy => ?_) (fun y hy => ⟨(HF9.out.2 y hy).1, EnvX.box EX5.out _ _ (List.mem_append_left _ hy)⟩)
        rcases List.mem_append.1 hy with h | h
        · exact HQ.out.1 y h
        · cases List.mem_singleton.1 h; exact idX_id _
      go_wp2
      go_roundw
      case rel => exact ⟨k + 1, by omega, by go_num, HNX⟩
      case measure => simp [intOf]; omega
    · obtain rfl : k = n := by omega
      have hge : ¬ (k : Int) < (k : Int) := by omega
      rw [List.take_of_length_le (by rw [HL.out]; exact Nat.le_refl _)] at hO
      have HO := Lib.hid hO
      have HB := Lib.hid hB
      clear hO hB
      go_wp2
      go_ret
      exact ⟨⟨_, rfl, HO.out⟩, HB.out⟩
set_option maxRecDepth 20000 in
set_option maxHeartbeats 8000000 in
theorem rrootX_any (l : List TxM) (A : Option Addr) (n c : Nat) (w : World) (hl : l.length = n) (hn : n ≤ 1000000) (hA : TxsIn w A l) :
    Calls Tryd.prog 23 #[.slice A n c] w fun e w' => e = .returned (idv (rootT (idsX (rsT l)))) ∧ Below w.heap.size w w' := by
  have HLV : Hid (∀ u, Below w.heap.size w u → Calls Tryd.prog 43 #[.slice A n c] u fun e w' => (∃ v, e = .returned v ∧ OwnI w' u.heap.size v (idsX (rsT l))) ∧ Below u.heap.size u w') := fun u hu => ridsX_any l A n c u hl hn (hA.up hu)
  have hri := root_id (idsX_ids (rsT l))
  have HRT : Hid (∀ (u : World) (A1 : Option Addr) (c1 : Nat), (idsX (rsT l)).length ≤ c1 → c1 ≤ maxLen → IdsIn u u.heap.size A1 (idsX (rsT l)) → Calls Tryd.prog 42 #[.slice A1 (idsX (rsT l)).length c1] u fun e w' => e = .returned (idv (rootT (idsX (rsT l)))) ∧ Below u.heap.size u w') := fun u A1 c1 h1 h2 h3 => rroot_any _ (idsX (rsT l)) A1 c1 u rfl (by rw [idsX_len, hl]; exact hn) h1 h2 (idsX_ids _) h3
  have E1 : Hid (EnvX w (w.alloc (.cells (arrB 32 []) 37)) [(w.heap.size, Obj.cells (arrB 32 []) 37 (0, 0))]) := (EnvX.start w).new _
  generalize rootT (idsX (rsT l)) = rt at *
  have HZ : Hid ((arrB 32 rt).size = 32) := arrB_size _ _ (by rw [hri.1]; omega)
  clear hl hA hri
  unfold idv
  go_enter Tryd.func23, Tryd.ntmps23
  go_upto_region 1 with (fail)
  rw [zero_cells]
  generalize w.alloc (.cells (arrB 32 []) 37) = W at *
  refine wp_region_Hx (w0 := w) [0, 1, 2, 3] [(w.heap.size, Obj.cells (arrB 32 []) 37 (0, 0))] rfl E1.out ?_
  refine lexH_phase [0] [1, 2, 3] ?_
  have hw1 : EnvX w _ [(w.heap.size, Obj.cells (arrB 32 []) 37 (0, 0))] := E1.out
  have hone := @EnvC.one _ _ _ hw1
  (refine wpG_op rfl rfl rfl ?_; intro K hK; go_big_quiet_op; go_big_quiet_on)
  clear hone hw1
  refine wpG_nil ?_
  refine (hOp_fresh (R := FreshI (idsX (rsT l))) (M0 := [(w.heap.size, Obj.cells (arrB 32 []) 37 (0, 0))]) rfl rfl (fun _ h => h) (fun u hu => FAt_call (fid := 43) (xs := #[.tmp 3]) (args := #[.slice A n c]) rfl Tryd.func43 rfl rfl u (callsI_fresh (HLV.out u (EnvX.bel hu)))) ?_)
  rintro x N1 hF hf he2; intro K' hK'; go_big_quiet_op; go_big_quiet_on
  obtain ⟨A1, c1, rfl, hc1, hc2⟩ := FreshI.form hF
  have HF := Lib.hid (And.intro hF (And.intro hc1 hc2))
  clear hF hc1 hc2
  clear hf
  change lexH _ _ _ _ _ _ (N1 ++ ((w.heap.size, Obj.cells (arrB 32 []) 37 (0, 0)) :: []))
  refine lexH_phase [2] [3] ?_
  have hw3 : EnvX w _ (N1 ++ ((w.heap.size, Obj.cells (arrB 32 []) 37 (0, 0)) :: [])) := he2.choose_spec
  have hone := @EnvC.one _ _ _ hw3
  (refine wpG_call (f := 42) (args := #[.slice A1 (idsX (rsT l)).length c1]) (v := idv rt) rfl rfl rfl Tryd.func42 rfl rfl (fun u hu => HRT.out u A1 c1 HF.out.2.1 HF.out.2.2 (HF.out.1.ids (idsX_ids _) hu (fun y hy => List.mem_append_left _ hy))) ?_ hw3; intro K hK; go_big_quiet_op; go_big_quiet_on)
  clear hone hw3
  refine wpG_nil ?_
  refine (hOp_store rfl (w.heap.size) (arrB 32 rt) rfl rfl (Nat.le_refl _) 37 ((arrB 32 [])) (List.mem_append_right _ (List.Mem.head _)) (info26 _ HZ.out) ((arrB_size _ _ (by simp)).trans HZ.out.symm) (arrB_one _ _) [(w.heap.size, Obj.cells (arrB 32 rt) 37 (0, 0))] (List.forall_mem_cons.2 ⟨.inl rfl, (fun _ h => by cases h)⟩) ?_)
  intro he4
  intro u6 E2'
  have EX5 := Lib.hid E2'
  clear E2'
  have Q0 := Lib.hid (EnvX.box EX5.out _ _ (List.Mem.head _))
  have HBEL := Lib.hid EX5.out.bel
  clear EX5
  go_wp2_with ((with_reducible refine bodyPost_ret (v := .agg (arrB 32 rt)) ?_ ?_ ?_); (exact results_cell_row (p := 2) (ty := 37) Tryd.results23 _ _ (w.heap.size) 37 (arrB 32 rt) (0, 0) _ rfl Q0.out Tryd.underlying37 rfl (info26 _ HZ.out)); (rfl))
  first | exact HBEL.out | exact ⟨rfl, HBEL.out⟩
end Go.Proofs.YtcodmedgkboohaaDoor

namespace Go.Proofs.YtcodmedgkboohaaDoor
set_option maxRecDepth 8000
open Go.RowKit

def insR (b : List Int) : List InR × Nat := if b.length = 0 ∨ b.length < atO b then ([], 0) else ((rowsAt 33 b 1 (nIn b)).map inOf, atO b)
theorem sizeU8c : (Tryd.prog.info? 5).map (·.size) = some 1 := by kernel_rfl
theorem built_inI (v : Int) : Tryd.prog.built 51 [(1, .int .i64 v)] = some (inA ⟨[], v⟩) := by kernel_rfl
/-- one byte more of an id that is laid byte by byte -/
theorem putIn_byte {ys : List Int} {v : Int} {k : Nat} (hy : ys.length = 32) (hk : k < 32) :
    (inA ⟨ys.take k, v⟩).toList.take (0 + k * 1) ++ (Value.int .u8 (ys.getD k 0)).cells.toList ++ (inA ⟨ys.take k, v⟩).toList.drop (0 + k * 1 + (Value.int .u8 (ys.getD k 0)).cells.size) = (inA ⟨ys.take (k + 1), v⟩).toList := by
  have hl : (ys.take k).length = k := by rw [List.length_take]; omega
  have e0 : ys.take (k + 1) = ys.take k ++ [ys.getD k 0] := by
    rw [List.take_succ_eq_append_getElem (by omega), List.getD_eq_getElem?_getD, List.getElem?_eq_getElem (by omega)]
    rfl
  have e1 := arrB_put_at 32 (ys.take k) (ys.getD k 0) k hl hk
  rw [← e0] at e1
  have hs : (arrB 32 (ys.take k)).size = 32 := arrB_size _ _ (by omega)
  show (inC ⟨ys.take k, v⟩).take (0 + k * 1) ++ [Value.int .u8 (ys.getD k 0)] ++ (inC ⟨ys.take k, v⟩).drop (0 + k * 1 + 1) = inC ⟨ys.take (k + 1), v⟩
  unfold inC
  simp only
  rw [← e1, Array.toList_setIfInBounds, Nat.zero_add, Nat.mul_one, List.take_append_of_le_length (by rw [Array.length_toList, hs]; omega), List.drop_append_of_le_length (by rw [Array.length_toList, hs]; omega)]
  rw [List.set_eq_take_append_cons_drop, if_pos (by rw [Array.length_toList, hs]; exact hk)]
  simp only [List.append_assoc, List.cons_append, List.nil_append, List.singleton_append]
/-- a byte of bytes that came in, as it is loaded -/
theorem byte_loads {w : World} {A : Option Addr} {b : List Int} {n : Nat} (hx : Bytes w w.heap.size A b) (hl : b.length = n) (hp : 0 < n) : ∃ ad, A = some ad ∧ ∀ u, EnvX w u [] → ∀ j, j < n → (loadVar 5 (ad.add (j * 1))).run Tryd.prog u = .ok (.int .u8 (b.getD j 0)) u := by
  obtain ⟨ad, e, _, _⟩ := hx (by omega)
  refine ⟨ad, e, fun u hu j hj => ?_⟩
  obtain ⟨ad2, e2, hc⟩ := (hx.up (EnvX.bel hu)).cell j (by omega)
  rw [e] at e2
  cases e2
  rw [Nat.mul_one]
  exact run_load_one oneU8c u hc
set_option maxRecDepth 20000 in
set_option maxHeartbeats 8000000 in
theorem rinsX_none (A : Option Addr) (c : Nat) (w : World) :
    Calls Tryd.prog 33 #[.slice A 0 c] w fun e w' => (∃ v, e = .returned (.tuple #[v, .int .i64 ((insR []).2 : Int)]) ∧ w'.ownsRow w.heap.size 51 33 v (insR []).1.length (((insR []).1.map inC).flatten)) ∧ Below w.heap.size w w' := by
  have hi : insR [] = ([], 0) := by unfold insR; rw [if_pos (.inl rfl)]
  rw [hi]
  clear hi
  have E1 : Hid (EnvX w w []) := EnvX.start w
  go_enter Tryd.func33, Tryd.ntmps33
  go_upto_region 1 with (fail)
  refine wp_region_Hx (w0 := w) [0, 1, 2, 3, 4, 5, 6, 7, 8, 9, 10, 11, 12, 13] [] rfl E1.out ?_
  refine lexH_phase [0, 1, 2, 3, 4, 5, 6, 7, 8, 9, 10, 11, 12, 13] [] ?_
  have hw1 : EnvX w _ [] := E1.out
  have hone := @EnvC.one _ _ _ hw1
  (refine wpG_op rfl rfl rfl ?_; intro K hK; go_big_quiet_op; go_big_quiet_on)
  (refine wpG_val (v := .int .i64 ((0 : Nat) : Int)) rfl rfl (fun u hu => len_op Tryd.underlying26 (by decide) u rfl) ?_ hw1; intro K hK; go_big_quiet_op; go_big_quiet_on)
  (refine wpG_val (v := .bool true) rfl rfl (fun u hu => eqlI_op u (by decide) rfl rfl) ?_ hw1; intro K hK; go_big_quiet_op; go_big_quiet_on)
  (refine wpG_op rfl rfl rfl ?_; intro K hK; go_big_quiet_op; go_big_quiet_on)
  (refine wpG_skip rfl rfl ?_ hw1; intro K hK; go_big_quiet_op; go_big_quiet_on)
  (refine wpG_skip rfl rfl ?_ hw1; intro K hK; go_big_quiet_op; go_big_quiet_on)
  (refine wpG_skip rfl rfl ?_ hw1; intro K hK; go_big_quiet_op; go_big_quiet_on)
  (refine wpG_skip rfl rfl ?_ hw1; intro K hK; go_big_quiet_op; go_big_quiet_on)
  (refine wpG_skip rfl rfl ?_ hw1; intro K hK; go_big_quiet_op; go_big_quiet_on)
  (refine wpG_skip rfl rfl ?_ hw1; intro K hK; go_big_quiet_op; go_big_quiet_on)
  (refine wpG_skip rfl rfl ?_ hw1; intro K hK; go_big_quiet_op; go_big_quiet_on)
  (refine wpG_skip rfl rfl ?_ hw1; intro K hK; go_big_quiet_op; go_big_quiet_on)
  (refine wpG_skip rfl rfl ?_ hw1; intro K hK; go_big_quiet_op; go_big_quiet_on)
  (refine wpG_op rfl rfl rfl ?_; intro K hK; go_big_quiet_op; go_big_quiet_on)
  clear hone hw1
  refine wpG_nil ?_
  intro u3 E2'
  have EX2 := Lib.hid E2'
  clear E2'
  have HBE := Lib.hid (EnvX.bel EX2.out)
  go_wp2
  go_returns
  exact ⟨⟨_, rfl, World.ownsRow_nil _ _ _ _⟩, HBE.out⟩
set_option maxRecDepth 20000 in
set_option maxHeartbeats 8000000 in
theorem rinsX_short (A : Option Addr) (n c : Nat) (b : List Int) (w : World) (hl : b.length = n) (hn : n ≤ 1000000) (hB : isB b) (hx : Bytes w w.heap.size A b) (hp : 0 < n) (k : n < atO b) :
    Calls Tryd.prog 33 #[.slice A n c] w fun e w' => (∃ v, e = .returned (.tuple #[v, .int .i64 ((insR b).2 : Int)]) ∧ w'.ownsRow w.heap.size 51 33 v (insR b).1.length (((insR b).1.map inC).flatten)) ∧ Below w.heap.size w w' := by
  have hi : insR b = ([], 0) := by unfold insR; rw [if_pos (.inr (by rw [hl]; exact k))]
  rw [hi]
  clear hi
  have HN63 : Hid (n < 9223372036854775808) := by show _ < _; omega
  have E1 : Hid (EnvX w w []) := EnvX.start w
  obtain ⟨ad, rfl, hld⟩ := byte_loads hx hl (by omega)
  have HLD := Lib.hid hld
  have HP : Hid (0 < n) := by show _ < _; omega
  obtain ⟨k0, hk0⟩ : ∃ k0, nIn b = k0 := ⟨_, rfl⟩
  have hg0 : b.getD 0 0 = (k0 : Int) ∧ k0 ≤ 255 := by
    have h1 : b.getD 0 0 = b[0] := by rw [List.getD_eq_getElem?_getD, List.getElem?_eq_getElem (by omega)]; rfl
    have h2 := hB b[0] (List.getElem_mem _)
    unfold nIn at hk0
    rw [h1] at hk0 ⊢
    omega
  have HB0 := Lib.hid hg0.1
  have hk255 := hg0.2
  have HK8 : Hid (0 ≤ (k0 : Int) ∧ (k0 : Int) ≤ 255) := by show _ ∧ _; omega
  obtain ⟨z0, hz0⟩ : ∃ z0 : Int, ((33 * k0 : Nat) : Int) = z0 := ⟨_, rfl⟩
  obtain ⟨a0, ha0⟩ : ∃ a0 : Int, ((1 + 33 * k0 : Nat) : Int) = a0 := ⟨_, rfl⟩
  have HM0 : Hid (IntKind.i64.wrap (33 * (k0 : Int)) = z0) := by show _ = _; rw [wrapS (by omega)]; omega
  have HA0 : Hid (IntKind.i64.wrap (1 + z0) = a0) := by show _ = _; rw [wrapS (by omega)]; omega
  have D2 : Hid (decide ((n : Int) = 0) = false) := decide_eq_false (by omega)
  have hat : atO b = 1 + 33 * k0 := by unfold atO; rw [hk0]
  have D12 : Hid (decide ((n : Int) < a0) = true) := decide_eq_true (by omega)
  clear ha0 hz0 k hat hld hx hB hl hk0 hg0
  go_enter Tryd.func33, Tryd.ntmps33
  go_upto_region 1 with (fail)
  refine wp_region_Hx (w0 := w) [0, 1, 2, 3, 4, 5, 6, 7, 8, 9, 10, 11, 12, 13] [] rfl E1.out ?_
  refine lexH_phase [0, 1, 2, 3, 4, 5, 6, 7, 8, 9, 10, 11, 12, 13] [] ?_
  have hw1 : EnvX w _ [] := E1.out
  have hone := @EnvC.one _ _ _ hw1
  (refine wpG_op rfl rfl rfl ?_; intro K hK; go_big_quiet_op; go_big_quiet_on)
  (refine wpG_val (v := .int .i64 (n : Int)) rfl rfl (fun u hu => len_op Tryd.underlying26 HN63.out u rfl) ?_ hw1; intro K hK; go_big_quiet_op; go_big_quiet_on)
  (refine wpG_val (v := .bool false) rfl rfl (fun u hu => eqlI_op u D2.out rfl rfl) ?_ hw1; intro K hK; go_big_quiet_op; go_big_quiet_on)
  (refine wpG_op rfl rfl rfl ?_; intro K hK; go_big_quiet_op; go_big_quiet_on)
  (refine wpG_op rfl rfl rfl ?_; intro K hK; go_big_quiet_op; go_big_quiet_on)
  (refine wpG_val (v := .int .i64 (n : Int)) rfl rfl (fun u hu => len_op Tryd.underlying26 HN63.out u rfl) ?_ hw1; intro K hK; go_big_quiet_op; go_big_quiet_on)
  (refine wpG_op rfl rfl rfl ?_; intro K hK; go_big_quiet_op; go_big_quiet_on)
  (refine wpG_val (v := .pointer (some ad)) rfl rfl (fun u hu => idxSl_op (i := 0) Tryd.underlying26 sizeU8c HP.out u rfl rfl) ?_ hw1; intro K hK; go_big_quiet_op; go_big_quiet_on)
  (refine wpG_val (v := .int .u8 (k0 : Int)) rfl rfl (fun u hu => load_any_op u (by have h := HLD.out u (EnvX.sub hu (fun _ h => by cases h)) 0 HP.out; rwa [HB0.out] at h) rfl) ?_ hw1; intro K hK; go_big_quiet_op; go_big_quiet_on)
  (refine wpG_val (v := .int .i64 (k0 : Int)) rfl rfl (fun u hu => convU8I_op u HK8.out rfl) ?_ hw1; intro K hK; go_big_quiet_op; go_big_quiet_on)
  (refine wpG_val (v := .int .i64 z0) rfl rfl (fun u hu => mulZ_op u HM0.out rfl rfl) ?_ hw1; intro K hK; go_big_quiet_op; go_big_quiet_on)
  (refine wpG_val (v := .int .i64 a0) rfl rfl (fun u hu => addZ_op u HA0.out rfl rfl) ?_ hw1; intro K hK; go_big_quiet_op; go_big_quiet_on)
  (refine wpG_val (v := .bool true) rfl rfl (fun u hu => ltZ_op u D12.out rfl rfl) ?_ hw1; intro K hK; go_big_quiet_op; go_big_quiet_on)
  (refine wpG_op rfl rfl rfl ?_; intro K hK; go_big_quiet_op; go_big_quiet_on)
  clear hone hw1
  refine wpG_nil ?_
  intro u3 E2'
  have EX2 := Lib.hid E2'
  clear E2'
  have HBE := Lib.hid (EnvX.bel EX2.out)
  go_wp2
  go_returns
  exact ⟨⟨_, rfl, World.ownsRow_nil _ _ _ _⟩, HBE.out⟩
set_option maxRecDepth 20000 in
set_option maxHeartbeats 8000000 in
theorem rinsX_main (A : Option Addr) (n c : Nat) (b : List Int) (w : World) (hl : b.length = n) (hn : n ≤ 1000000) (hB : isB b) (hx : Bytes w w.heap.size A b) (hp : 0 < n) (k : ¬ n < atO b) :
    Calls Tryd.prog 33 #[.slice A n c] w fun e w' => (∃ v, e = .returned (.tuple #[v, .int .i64 ((insR b).2 : Int)]) ∧ w'.ownsRow w.heap.size 51 33 v (insR b).1.length (((insR b).1.map inC).flatten)) ∧ Below w.heap.size w w' := by
  have hi : insR b = ((rowsAt 33 b 1 (nIn b)).map inOf, atO b) := by unfold insR; rw [if_neg (by rw [hl]; omega)]
  rw [hi]
  clear hi
  have HN63 : Hid (n < 9223372036854775808) := by show _ < _; omega
  have E1 : Hid (EnvX w w []) := EnvX.start w
  obtain ⟨ad, rfl, hld⟩ := byte_loads hx hl (by omega)
  have HLD := Lib.hid hld
  have HP : Hid (0 < n) := by show _ < _; omega
  obtain ⟨k0, hk0⟩ : ∃ k0, nIn b = k0 := ⟨_, rfl⟩
  have hg0 : b.getD 0 0 = (k0 : Int) ∧ k0 ≤ 255 := by
    have h1 : b.getD 0 0 = b[0] := by rw [List.getD_eq_getElem?_getD, List.getElem?_eq_getElem (by omega)]; rfl
    have h2 := hB b[0] (List.getElem_mem _)
    unfold nIn at hk0
    rw [h1] at hk0 ⊢
    omega
  have HB0 := Lib.hid hg0.1
  have hk255 := hg0.2
  have HK8 : Hid (0 ≤ (k0 : Int) ∧ (k0 : Int) ≤ 255) := by show _ ∧ _; omega
  obtain ⟨z0, hz0⟩ : ∃ z0 : Int, ((33 * k0 : Nat) : Int) = z0 := ⟨_, rfl⟩
  obtain ⟨a0, ha0⟩ : ∃ a0 : Int, ((1 + 33 * k0 : Nat) : Int) = a0 := ⟨_, rfl⟩
  have HM0 : Hid (IntKind.i64.wrap (33 * (k0 : Int)) = z0) := by show _ = _; rw [wrapS (by omega)]; omega
  have HA0 : Hid (IntKind.i64.wrap (1 + z0) = a0) := by show _ = _; rw [wrapS (by omega)]; omega
  have D2 : Hid (decide ((n : Int) = 0) = false) := decide_eq_false (by omega)
  have hat : atO b = 1 + 33 * k0 := by unfold atO; rw [hk0]
  have hall : 1 + 33 * k0 ≤ n := by omega
  have HALL := Lib.hid hall
  have D12 : Hid (decide ((n : Int) < a0) = false) := decide_eq_false (by omega)
  have HLB := Lib.hid hl
  rw [hk0, hat, ha0]
  clear ha0 hz0 k hat hld hx hl hk0 hg0
  have HBB := Lib.hid hB
  clear hB
  go_enter Tryd.func33, Tryd.ntmps33
  go_upto_region 1 with (fail)
  refine wp_region_Hx (w0 := w) [0, 1, 2, 3, 4, 5, 6, 7, 8, 9, 10, 11, 12, 13] [] rfl E1.out ?_
  refine lexH_phase [0, 1, 2, 3, 4, 5, 6, 7, 8, 9, 10, 11, 12, 13] [] ?_
  have hw1 : EnvX w _ [] := E1.out
  have hone := @EnvC.one _ _ _ hw1
  (refine wpG_op rfl rfl rfl ?_; intro K hK; go_big_quiet_op; go_big_quiet_on)
  (refine wpG_val (v := .int .i64 (n : Int)) rfl rfl (fun u hu => len_op Tryd.underlying26 HN63.out u rfl) ?_ hw1; intro K hK; go_big_quiet_op; go_big_quiet_on)
  (refine wpG_val (v := .bool false) rfl rfl (fun u hu => eqlI_op u D2.out rfl rfl) ?_ hw1; intro K hK; go_big_quiet_op; go_big_quiet_on)
  (refine wpG_op rfl rfl rfl ?_; intro K hK; go_big_quiet_op; go_big_quiet_on)
  (refine wpG_op rfl rfl rfl ?_; intro K hK; go_big_quiet_op; go_big_quiet_on)
  (refine wpG_val (v := .int .i64 (n : Int)) rfl rfl (fun u hu => len_op Tryd.underlying26 HN63.out u rfl) ?_ hw1; intro K hK; go_big_quiet_op; go_big_quiet_on)
  (refine wpG_op rfl rfl rfl ?_; intro K hK; go_big_quiet_op; go_big_quiet_on)
  (refine wpG_val (v := .pointer (some ad)) rfl rfl (fun u hu => idxSl_op (i := 0) Tryd.underlying26 sizeU8c HP.out u rfl rfl) ?_ hw1; intro K hK; go_big_quiet_op; go_big_quiet_on)
  (refine wpG_val (v := .int .u8 (k0 : Int)) rfl rfl (fun u hu => load_any_op u (by have h := HLD.out u (EnvX.sub hu (fun _ h => by cases h)) 0 HP.out; rwa [HB0.out] at h) rfl) ?_ hw1; intro K hK; go_big_quiet_op; go_big_quiet_on)
  (refine wpG_val (v := .int .i64 (k0 : Int)) rfl rfl (fun u hu => convU8I_op u HK8.out rfl) ?_ hw1; intro K hK; go_big_quiet_op; go_big_quiet_on)
  (refine wpG_val (v := .int .i64 z0) rfl rfl (fun u hu => mulZ_op u HM0.out rfl rfl) ?_ hw1; intro K hK; go_big_quiet_op; go_big_quiet_on)
  (refine wpG_val (v := .int .i64 a0) rfl rfl (fun u hu => addZ_op u HA0.out rfl rfl) ?_ hw1; intro K hK; go_big_quiet_op; go_big_quiet_on)
  (refine wpG_val (v := .bool false) rfl rfl (fun u hu => ltZ_op u D12.out rfl rfl) ?_ hw1; intro K hK; go_big_quiet_op; go_big_quiet_on)
  (refine wpG_op rfl rfl rfl ?_; intro K hK; go_big_quiet_op; go_big_quiet_on)
  clear hone hw1
  refine wpG_nil ?_
  intro u3 E2'
  have EX2 := Lib.hid E2'
  clear E2'
  have HIN : Hid (∃ N, FreshR 51 33 0 (((rowsAt 33 b 1 0).map inOf).map inC).flatten (.slice none 0 0) N ∧ freshN w N [] ∧ EnvX w u3 (N ++ [])) := ⟨[], .inr ⟨rfl, rfl, rfl, rfl⟩, (fun y hy => by cases hy), EX2.out⟩
  clear EX2 E1
  go_upto_region 5 with (fail)
  go_loopw [4, 5] (fun v iv u => ∃ i : Nat, i ≤ k0 ∧ iv = .int .i64 (i : Int) ∧ Hid (∃ N, FreshR 51 33 i (((rowsAt 33 b 1 i).map inOf).map inC).flatten v N ∧ freshN w N [] ∧ EnvX w u (N ++ []))) (fun _ iv _ => k0 - (intOf iv).toNat)
  case atStart => exact ⟨0, by omega, rfl, HIN⟩
  case round =>
    obtain ⟨i, hi, rfl, hinv⟩ := hrel
    obtain ⟨N, hF, hN, hE⟩ := hinv.out
    have HF := Lib.hid hF
    have HN := Lib.hid hN
    have EK := Lib.hid hE
    clear hinv HIN hF hN hE
    by_cases hlt : i < k0
    · have C5 : Hid (decide ((i : Int) < (k0 : Int)) = true) := decide_eq_true (by omega)
      have HI := Lib.hid hlt
      have hrow : 1 + 33 * i + 33 ≤ n := by omega
      have HJ32 : Hid (1 + 33 * i + 32 < n) := by show _ < _; omega
      have HM1 : Hid (IntKind.i64.wrap (33 * (i : Int)) = ((33 * i : Nat) : Int)) := by show _ = _; rw [wrapS (by omega)]; omega
      have HA1 : Hid (IntKind.i64.wrap (1 + ((33 * i : Nat) : Int)) = ((1 + 33 * i : Nat) : Int)) := by show _ = _; rw [wrapS (by omega)]; omega
      have HA2 : Hid (IntKind.i64.wrap (((1 + 33 * i : Nat) : Int) + 32) = ((1 + 33 * i + 32 : Nat) : Int)) := by show _ = _; rw [wrapS (by omega)]; omega
      obtain ⟨ys, hys⟩ : ∃ ys, (b.drop (1 + 33 * i)).take 32 = ys := ⟨_, rfl⟩
      obtain ⟨v, hv⟩ : ∃ v, b.getD (1 + 33 * i + 32) 0 = v := ⟨_, rfl⟩
      have HYL : Hid (ys.length = 32) := by show _ = _; rw [← hys, List.length_take, List.length_drop, HLB.out]; omega
      have hv8 : 0 ≤ v ∧ v ≤ 255 := by
        rw [← hv, List.getD_eq_getElem?_getD, List.getElem?_eq_getElem (by rw [HLB.out]; omega)]
        exact HBB.out _ (List.getElem_mem _)
      have HV8 := Lib.hid hv8
      have HVV : Hid (∀ u, EnvX w u [] → (loadVar 5 (ad.add ((1 + 33 * i + 32) * 1))).run Tryd.prog u = .ok (.int .u8 v) u) := fun u hu => by
        have h := HLD.out u hu (1 + 33 * i + 32) HJ32.out
        rwa [hv] at h
      have HVY : Hid (∀ u, EnvX w u [] → ∀ k, k < 32 → (loadVar 5 (ad.add ((1 + 33 * i + k) * 1))).run Tryd.prog u = .ok (.int .u8 (ys.getD k 0)) u) := fun u hu k hk => by
        have h := HLD.out u hu (1 + 33 * i + k) (by have := HJ32.out; omega)
        have e : b.getD (1 + 33 * i + k) 0 = ys.getD k 0 := by
          rw [← hys, List.getD_eq_getElem?_getD, List.getD_eq_getElem?_getD, List.getElem?_take_of_lt hk, List.getElem?_drop]
        rwa [e] at h
      have HST : Hid ((((rowsAt 33 b 1 (i + 1)).map inOf).map inC).flatten = (((rowsAt 33 b 1 i).map inOf).map inC).flatten ++ inC ⟨ys, v⟩) := by
        show _ = _
        have e : inOf ((b.drop (1 + 33 * i)).take 33) = ⟨ys, v⟩ := by
          unfold inOf
          rw [List.take_take, show min 32 33 = 32 by decide, hys, List.getD_eq_getElem?_getD, List.getElem?_take_of_lt (by decide), List.getElem?_drop, ← List.getD_eq_getElem?_getD, hv]
        rw [rowsAt_step, List.map_append, List.map_append, List.flatten_append, List.map_singleton, e]
        simp
      have HSL : Hid ((((rowsAt 33 b 1 i).map inOf).map inC).flatten.length = i * 33) := by
        show _ = _
        have hR : isRows 33 (((rowsAt 33 b 1 i).map inOf).map inC) := fun x hx => by
          obtain ⟨y, hy, rfl⟩ := List.mem_map.1 hx
          obtain ⟨z, hz, rfl⟩ := List.mem_map.1 hy
          have h1 := rows_row (z := 33) (b := b) (o := 1) (n := i) (by rw [HLB.out]; omega) z hz
          exact inC_len (show (z.take 32).length = 32 by rw [List.length_take]; omega)
        rw [hR.flat_len, List.length_map, List.length_map, rows_len]
      clear hys hv hv8 hrow hlt
      generalize (((rowsAt 33 b 1 i).map inOf).map inC).flatten = xs at *
      go_upto_region 5 with (fail)
      refine wp_region_Hx (w0 := w) [0, 1, 2, 3, 4, 5] (N ++ []) rfl EK.out ?_
      refine lexH_phase [0, 1, 2, 3, 4, 5] [] ?_
      have hw41 : EnvX w _ (N ++ []) := EK.out
      have hone := @EnvC.one _ _ _ hw41
      (refine wpG_op rfl rfl rfl ?_; intro K hK; go_big_quiet_op; go_big_quiet_on)
      (refine wpG_op rfl rfl rfl ?_; intro K hK; go_big_quiet_op; go_big_quiet_on)
      (refine wpG_val (v := .pointer (some ad)) rfl rfl (fun u hu => idxSl_op (i := 0) Tryd.underlying26 sizeU8c HP.out u rfl rfl) ?_ hw41; intro K hK; go_big_quiet_op; go_big_quiet_on)
      (refine wpG_val (v := .int .u8 (k0 : Int)) rfl rfl (fun u hu => load_any_op u (by have h := HLD.out u (EnvX.sub hu (fun _ h => by cases h)) 0 HP.out; rwa [HB0.out] at h) rfl) ?_ hw41; intro K hK; go_big_quiet_op; go_big_quiet_on)
      (refine wpG_val (v := .int .i64 (k0 : Int)) rfl rfl (fun u hu => convU8I_op u HK8.out rfl) ?_ hw41; intro K hK; go_big_quiet_op; go_big_quiet_on)
      (refine wpG_val (v := .bool true) rfl rfl (fun u hu => ltZ_op u C5.out rfl rfl) ?_ hw41; intro K hK; go_big_quiet_op; go_big_quiet_on)
      clear hone hw41
      refine wpG_nil ?_
      intro u43 E2'
      have EX42 := Lib.hid E2'
      clear E2'
      go_upto_region 7 with (fail)
      refine wp_region_Hx (w0 := w) [0, 1, 2, 3, 4, 5, 6, 7, 8, 9, 10] (N ++ []) rfl EX42.out ?_
      refine lexH_phase [0, 1, 2, 3, 4, 5, 6, 7, 8] [9, 10] ?_
      have hw44 : EnvX w _ (N ++ []) := EX42.out
      have hone := @EnvC.one _ _ _ hw44
      (refine wpG_op rfl rfl rfl ?_; intro K hK; go_big_quiet_op; go_big_quiet_on)
      (refine wpG_op rfl rfl rfl ?_; intro K hK; go_big_quiet_op; go_big_quiet_on)
      (refine wpG_val (v := .int .i64 ((33 * i : Nat) : Int)) rfl rfl (fun u hu => mulZ_op u HM1.out rfl rfl) ?_ hw44; intro K hK; go_big_quiet_op; go_big_quiet_on)
      (refine wpG_val (v := .int .i64 ((1 + 33 * i : Nat) : Int)) rfl rfl (fun u hu => addZ_op u HA1.out rfl rfl) ?_ hw44; intro K hK; go_big_quiet_op; go_big_quiet_on)
      (refine wpG_val (v := .int .i64 ((1 + 33 * i + 32 : Nat) : Int)) rfl rfl (fun u hu => addZ_op u HA2.out rfl rfl) ?_ hw44; intro K hK; go_big_quiet_op; go_big_quiet_on)
      (refine wpG_val (v := .pointer (some (ad.add ((1 + 33 * i + 32) * 1)))) rfl rfl (fun u hu => idxSl_op (i := 1 + 33 * i + 32) Tryd.underlying26 sizeU8c HJ32.out u rfl rfl) ?_ hw44; intro K hK; go_big_quiet_op; go_big_quiet_on)
      (refine wpG_val (v := .int .u8 v) rfl rfl (fun u hu => load_any_op u (HVV.out u (EnvX.sub hu (fun _ h => by cases h))) rfl) ?_ hw44; intro K hK; go_big_quiet_op; go_big_quiet_on)
      (refine wpG_val (v := .int .i64 v) rfl rfl (fun u hu => convU8I_op u HV8.out rfl) ?_ hw44; intro K hK; go_big_quiet_op; go_big_quiet_on)
      (refine wpG_val (v := .agg (inA ⟨[], v⟩)) rfl rfl (fun u hu => buildA_op u (built_inI v)) ?_ hw44; intro K hK; go_big_quiet_op; go_big_quiet_on)
      clear hone hw44
      refine wpG_nil ?_
      refine (hOp_fresh (R := fun x N => ∃ g, x = .pointer (some ⟨g, 0, none⟩) ∧ N = [(g, Obj.cells (inA noIn) 51 (0, 0))]) (M0 := (N ++ [])) rfl rfl (fun _ h => h) (fun u hu => FAt_new (new_in _) u) ?_)
      rintro _ _ ⟨g6, rfl, rfl⟩ hf he45; intro K' hK'; go_big_quiet_op; go_big_quiet_on
      have HG6 := Lib.hid (hf _ (List.mem_singleton.2 rfl))
      clear hf
      change lexH _ _ _ _ _ _ ((g6, Obj.cells (inA noIn) 51 (0, 0)) :: (N ++ []))
      refine (hOp_store rfl (g6) (inA ⟨[], v⟩) rfl rfl HG6.out.1 51 ((inA noIn)) (List.Mem.head _) (infoIn _ (inA_size' (Nat.zero_le _))) ((inA_size' (Nat.zero_le _)).trans (inA_size' (Nat.zero_le _)).symm) (inA_one _) ((g6, Obj.cells (inA ⟨[], v⟩) 51 (0, 0)) :: (N ++ [])) (List.forall_mem_cons.2 ⟨.inl rfl, fun y hy => .inr ⟨List.mem_cons_of_mem _ hy, HG6.out.2 y hy⟩⟩) ?_)
      intro he46
      intro u48 E2'
      have EX47 := Lib.hid E2'
      clear E2'
      have EJ : Hid (EnvX w u48 ((g6, Obj.cells (inA ⟨ys.take 0, v⟩) 51 (0, 0)) :: (N ++ []))) := EX47.out
      clear EX47 EK
      go_upto_region 9 with (fail)
      go_loopw [7] (fun iv u => ∃ k : Nat, k ≤ 32 ∧ iv = .int .i64 (k : Int) ∧ Hid (EnvX w u ((g6, Obj.cells (inA ⟨ys.take k, v⟩) 51 (0, 0)) :: (N ++ [])))) (fun iv _ => 32 - (intOf iv).toNat)
      case atStart => exact ⟨0, by omega, rfl, EJ.out⟩
      case round =>
        obtain ⟨k, hk, rfl, hinv2⟩ := hrel
        have EL := Lib.hid hinv2.out
        clear hinv2 EJ
        by_cases hlk : k < 32
        · have C9 : Hid (decide ((k : Int) < 32) = true) := decide_eq_true (by omega)
          have HK := Lib.hid hlk
          have HJK : Hid (1 + 33 * i + k < n) := by have := HJ32.out; show _ < _; omega
          have HA3 : Hid (IntKind.i64.wrap (((1 + 33 * i : Nat) : Int) + (k : Int)) = ((1 + 33 * i + k : Nat) : Int)) := by show _ = _; have := HJK.out; rw [wrapS (by omega)]; omega
          have HPUT := Lib.hid (putIn_byte (v := v) HYL.out hlk)
          have HLY : Hid (∀ u, EnvX w u [] → (loadVar 5 (ad.add ((1 + 33 * i + k) * 1))).run Tryd.prog u = .ok (.int .u8 (ys.getD k 0)) u) := fun u hu => HVY.out u hu k hlk
          have HTK : Hid ((ys.take k).length ≤ 32) := by show _ ≤ _; rw [List.length_take]; omega
          generalize ys.getD k 0 = y at *
          obtain ⟨xa, hxa⟩ : ∃ xa, ys.take k = xa := ⟨_, rfl⟩
          obtain ⟨xb, hxb⟩ : ∃ xb, ys.take (k + 1) = xb := ⟨_, rfl⟩
          have HXB := Lib.hid hxb
          rw [hxa, hxb] at HPUT
          rw [hxa] at EL HTK
          clear hxa hxb hlk
          go_upto_region 9 with (fail)
          refine wp_region_Hx (w0 := w) [0, 1] ((g6, Obj.cells (inA ⟨xa, v⟩) 51 (0, 0)) :: (N ++ [])) rfl EL.out ?_
          refine lexH_phase [0, 1] [] ?_
          have hw101 : EnvX w _ ((g6, Obj.cells (inA ⟨xa, v⟩) 51 (0, 0)) :: (N ++ [])) := EL.out
          have hone := @EnvC.one _ _ _ hw101
          (refine wpG_op rfl rfl rfl ?_; intro K hK; go_big_quiet_op; go_big_quiet_on)
          (refine wpG_val (v := .bool true) rfl rfl (fun u hu => ltZ_op u C9.out rfl rfl) ?_ hw101; intro K hK; go_big_quiet_op; go_big_quiet_on)
          clear hone hw101
          refine wpG_nil ?_
          intro u103 E2'
          have EX102 := Lib.hid E2'
          clear E2'
          go_upto_region 11 with (fail)
          refine wp_region_Hx (w0 := w) [0, 1, 2, 3, 4, 5, 6, 7, 8, 9, 10, 11] ((g6, Obj.cells (inA ⟨xa, v⟩) 51 (0, 0)) :: (N ++ [])) rfl EX102.out ?_
          refine lexH_phase [0, 1, 2, 3, 4, 5, 6, 7, 8, 9, 10] [11] ?_
          have hw104 : EnvX w _ ((g6, Obj.cells (inA ⟨xa, v⟩) 51 (0, 0)) :: (N ++ [])) := EX102.out
          have hone := @EnvC.one _ _ _ hw104
          (refine wpG_op rfl rfl rfl ?_; intro K hK; go_big_quiet_op; go_big_quiet_on)
          (refine wpG_op rfl rfl rfl ?_; intro K hK; go_big_quiet_op; go_big_quiet_on)
          (refine wpG_op rfl rfl rfl ?_; intro K hK; go_big_quiet_op; go_big_quiet_on)
          (refine wpG_val (v := .int .i64 ((33 * i : Nat) : Int)) rfl rfl (fun u hu => mulZ_op u HM1.out rfl rfl) ?_ hw104; intro K hK; go_big_quiet_op; go_big_quiet_on)
          (refine wpG_val (v := .int .i64 ((1 + 33 * i : Nat) : Int)) rfl rfl (fun u hu => addZ_op u HA1.out rfl rfl) ?_ hw104; intro K hK; go_big_quiet_op; go_big_quiet_on)
          (refine wpG_op rfl rfl rfl ?_; intro K hK; go_big_quiet_op; go_big_quiet_on)
          (refine wpG_val (v := .int .i64 ((1 + 33 * i + k : Nat) : Int)) rfl rfl (fun u hu => addZ_op u HA3.out rfl rfl) ?_ hw104; intro K hK; go_big_quiet_op; go_big_quiet_on)
          (refine wpG_val (v := .pointer (some (ad.add ((1 + 33 * i + k) * 1)))) rfl rfl (fun u hu => idxSl_op (i := 1 + 33 * i + k) Tryd.underlying26 sizeU8c HJK.out u rfl rfl) ?_ hw104; intro K hK; go_big_quiet_op; go_big_quiet_on)
          (refine wpG_val (v := .int .u8 y) rfl rfl (fun u hu => load_any_op u (HLY.out u (EnvX.sub hu (fun _ h => by cases h))) rfl) ?_ hw104; intro K hK; go_big_quiet_op; go_big_quiet_on)
          (refine wpG_val (v := .pointer (some ⟨g6, 0, none⟩)) rfl rfl (fun u hu => fieldIn_op (k := 0) (off := 0) rfl u rfl) ?_ hw104; intro K hK; go_big_quiet_op; go_big_quiet_on)
          (refine wpG_val (v := .pointer (some ⟨g6, 0 + k * 1, none⟩)) rfl rfl (fun u hu => idxArr_op (i := k) Tryd.underlying37 sizeU8c HK.out u rfl rfl) ?_ hw104; intro K hK; go_big_quiet_op; go_big_quiet_on)
          clear hone hw104
          refine wpG_nil ?_
          refine (hOp_putAt rfl (g6) (0 + k * 1) (.int .u8 y) rfl rfl HG6.out.1 51 ((inA ⟨xa, v⟩)) (inA ⟨xb, v⟩) (List.Mem.head _) sizeU8c (by rw [inA_size' HTK.out]; have := HK.out; show 0 + k * 1 + 1 ≤ 33; omega) (by simp [Value.cells]; rfl) HPUT.out ((g6, Obj.cells (inA ⟨xb, v⟩) 51 (0, 0)) :: (N ++ [])) (List.forall_mem_cons.2 ⟨.inl rfl, fun y hy => .inr ⟨List.mem_cons_of_mem _ hy, HG6.out.2 y hy⟩⟩) ?_)
          intro he105
          intro u107 E2'
          have EX106 := Lib.hid E2'
          clear E2'
          have hk32 := HK.out
          rw [← HXB.out] at EX106
          go_wp2
          go_roundw
          case rel => exact ⟨k + 1, by omega, by go_num, EX106.out⟩
          case measure => simp [intOf]; omega
        · obtain rfl : k = 32 := by omega
          have C9 : Hid (decide (((32 : Nat) : Int) < 32) = false) := decide_eq_false (by omega)
          rw [List.take_of_length_le (by rw [HYL.out]; exact Nat.le_refl _)] at EL
          have HLI : Hid (lenI ⟨ys, v⟩) := HYL.out
          go_upto_region 9 with (fail)
          refine wp_region_Hx (w0 := w) [0, 1] ((g6, Obj.cells (inA ⟨ys, v⟩) 51 (0, 0)) :: (N ++ [])) rfl EL.out ?_
          refine lexH_phase [0, 1] [] ?_
          have hw201 : EnvX w _ ((g6, Obj.cells (inA ⟨ys, v⟩) 51 (0, 0)) :: (N ++ [])) := EL.out
          have hone := @EnvC.one _ _ _ hw201
          (refine wpG_op rfl rfl rfl ?_; intro K hK; go_big_quiet_op; go_big_quiet_on)
          (refine wpG_val (v := .bool false) rfl rfl (fun u hu => ltZ_op u C9.out rfl rfl) ?_ hw201; intro K hK; go_big_quiet_op; go_big_quiet_on)
          clear hone hw201
          refine wpG_nil ?_
          intro u203 E2'
          have EX202 := Lib.hid E2'
          clear E2'
          go_upto_region 12 with (fail)
          refine wp_region_Hx (w0 := w) [0, 1, 2, 3, 4] ((g6, Obj.cells (inA ⟨ys, v⟩) 51 (0, 0)) :: (N ++ [])) rfl EX202.out ?_
          refine lexH_phase [0, 1] [2, 3, 4] ?_
          have hw204 : EnvX w _ ((g6, Obj.cells (inA ⟨ys, v⟩) 51 (0, 0)) :: (N ++ [])) := EX202.out
          have hone := @EnvC.one _ _ _ hw204
          (refine wpG_op rfl rfl rfl ?_; intro K hK; go_big_quiet_op; go_big_quiet_on)
          (refine wpG_val (v := .agg (inC ⟨ys, v⟩).toArray) rfl rfl (fun u hu => load_any_op u (box_in hu (List.Mem.head _) HLI.out) rfl) ?_ hw204; intro K hK; go_big_quiet_op; go_big_quiet_on)
          clear hone hw204
          refine wpG_nil ?_
          refine (hOp_fresh (R := BuiltR 51 (inC ⟨ys, v⟩)) (M0 := ((g6, Obj.cells (inA ⟨ys, v⟩) 51 (0, 0)) :: (N ++ []))) rfl rfl (fun _ h => h) (fun u hu => FAt_buildR elIn (inC_len HLI.out) (inC_one _) rfl u) ?_)
          rintro _ _ ⟨gb, rfl, rfl⟩ hf he205; intro K' hK'; go_big_quiet_op; go_big_quiet_on
          clear hf
          change lexH _ _ _ _ _ _ ((gb, Obj.cells (inC ⟨ys, v⟩).toArray 51 (0, 0)) :: ((g6, Obj.cells (inA ⟨ys, v⟩) 51 (0, 0)) :: (N ++ [])))
          refine (hOp_own (gd := none) (R := GrownR w 51 33 (i + 1) (xs ++ inC ⟨ys, v⟩) []) rfl rfl rfl rfl (fun u hu => appR_op elIn (m := 1) (c := 1) [] hu HSL.out (by rw [Nat.one_mul]; exact inC_len HLI.out) (inC_one _) HF.out (fun y hy => ⟨List.mem_cons_of_mem _ (List.mem_cons_of_mem _ (List.mem_append_left _ hy)), (HN.out y hy).1⟩) (List.Mem.head _) (fun _ h => by cases h) (by have := HI.out; omega) rfl rfl) ?_)
          rintro x9 M' ⟨N9, rfl, hF9, hn9⟩ he206; intro K' hK'; go_big_quiet_op; go_big_quiet_on
          have HF9 := Lib.hid hF9
          have HN9 := Lib.hid hn9
          clear hF9 hn9
          change lexH _ _ _ _ _ _ (N9 ++ [])
          refine lexH_phase [4] [] ?_
          have hw207 : EnvX w _ (N9 ++ []) := he206.choose_spec
          have hone := @EnvC.one _ _ _ hw207
          (refine wpG_op rfl rfl rfl ?_; intro K hK; go_big_quiet_op; go_big_quiet_on)
          clear hone hw207
          refine wpG_nil ?_
          intro u209 E2'
          have EX208 := Lib.hid E2'
          clear E2'
          have hik := HI.out
          have HNX : Hid (∃ N, FreshR 51 33 (i + 1) (((rowsAt 33 b 1 (i + 1)).map inOf).map inC).flatten x9 N ∧ freshN w N [] ∧ EnvX w u209 (N ++ [])) := ⟨N9, by rw [HST.out]; exact HF9.out, HN9.out, EX208.out⟩
          go_wp2
          go_roundw
          case rel => exact ⟨i + 1, by omega, by go_num, HNX⟩
          case measure => simp [intOf]; omega
    · obtain rfl : i = k0 := by omega
      have C5 : Hid (decide ((i : Int) < (i : Int)) = false) := decide_eq_false (by omega)
      have hlen : ((rowsAt 33 b 1 i).map inOf).length = i := by rw [List.length_map, rows_len]
      have HSL : Hid ((((rowsAt 33 b 1 i).map inOf).map inC).flatten.length = i * 33) := by
        show _ = _
        have hR : isRows 33 (((rowsAt 33 b 1 i).map inOf).map inC) := fun x hx => by
          obtain ⟨y, hy, rfl⟩ := List.mem_map.1 hx
          obtain ⟨z, hz, rfl⟩ := List.mem_map.1 hy
          have h1 := rows_row (z := 33) (b := b) (o := 1) (n := i) (by rw [HLB.out]; have := HALL.out; omega) z hz
          exact inC_len (show (z.take 32).length = 32 by rw [List.length_take]; omega)
        rw [hR.flat_len, List.length_map, hlen]
      have HLEN := Lib.hid hlen
      clear hlen
      go_upto_region 5 with (fail)
      refine wp_region_Hx (w0 := w) [0, 1, 2, 3, 4, 5] (N ++ []) rfl EK.out ?_
      refine lexH_phase [0, 1, 2, 3, 4, 5] [] ?_
      have hw341 : EnvX w _ (N ++ []) := EK.out
      have hone := @EnvC.one _ _ _ hw341
      (refine wpG_op rfl rfl rfl ?_; intro K hK; go_big_quiet_op; go_big_quiet_on)
      (refine wpG_op rfl rfl rfl ?_; intro K hK; go_big_quiet_op; go_big_quiet_on)
      (refine wpG_val (v := .pointer (some ad)) rfl rfl (fun u hu => idxSl_op (i := 0) Tryd.underlying26 sizeU8c HP.out u rfl rfl) ?_ hw341; intro K hK; go_big_quiet_op; go_big_quiet_on)
      (refine wpG_val (v := .int .u8 (i : Int)) rfl rfl (fun u hu => load_any_op u (by have h := HLD.out u (EnvX.sub hu (fun _ h => by cases h)) 0 HP.out; rwa [HB0.out] at h) rfl) ?_ hw341; intro K hK; go_big_quiet_op; go_big_quiet_on)
      (refine wpG_val (v := .int .i64 (i : Int)) rfl rfl (fun u hu => convU8I_op u HK8.out rfl) ?_ hw341; intro K hK; go_big_quiet_op; go_big_quiet_on)
      (refine wpG_val (v := .bool false) rfl rfl (fun u hu => ltZ_op u C5.out rfl rfl) ?_ hw341; intro K hK; go_big_quiet_op; go_big_quiet_on)
      clear hone hw341
      refine wpG_nil ?_
      intro u343 E2'
      have EX342 := Lib.hid E2'
      clear E2'
      go_upto_region 13 with (fail)
      refine wp_region_H (w0 := w) (N ++ []) (by kernel_rfl) EX342.out ?_
      refine anyH_phase [0, 1, 2, 3, 4, 5, 6, 7, 8] 0 rfl ⟨_, (EnvX.drew EX342.out)⟩ (by kernel_rfl) ?_
      have hw344 : EnvX w _ (N ++ []) := (EnvX.drew EX342.out)
      have hone := @EnvC.one _ _ _ hw344
      (refine wpG_op rfl rfl rfl ?_; intro K hK; go_big_quiet_op; go_big_quiet_on)
      (refine wpG_op rfl rfl rfl ?_; intro K hK; go_big_quiet_op; go_big_quiet_on)
      (refine wpG_val (v := .pointer (some ad)) rfl rfl (fun u hu => idxSl_op (i := 0) Tryd.underlying26 sizeU8c HP.out u rfl rfl) ?_ hw344; intro K hK; go_big_quiet_op; go_big_quiet_on)
      (refine wpG_val (v := .int .u8 (i : Int)) rfl rfl (fun u hu => load_any_op u (by have h := HLD.out u (EnvX.sub hu (fun _ h => by cases h)) 0 HP.out; rwa [HB0.out] at h) rfl) ?_ hw344; intro K hK; go_big_quiet_op; go_big_quiet_on)
      (refine wpG_val (v := .int .i64 (i : Int)) rfl rfl (fun u hu => convU8I_op u HK8.out rfl) ?_ hw344; intro K hK; go_big_quiet_op; go_big_quiet_on)
      (refine wpG_val (v := .int .i64 z0) rfl rfl (fun u hu => mulZ_op u HM0.out rfl rfl) ?_ hw344; intro K hK; go_big_quiet_op; go_big_quiet_on)
      (refine wpG_val (v := .int .i64 a0) rfl rfl (fun u hu => addZ_op u HA0.out rfl rfl) ?_ hw344; intro K hK; go_big_quiet_op; go_big_quiet_on)
      (refine wpG_op rfl rfl rfl ?_; intro K hK; go_big_quiet_op; go_big_quiet_on)
      (refine wpG_op rfl rfl rfl ?_; intro K hK; go_big_quiet_op; go_big_quiet_on)
      clear hone hw344
      refine wpG_nil ?_
      refine anyH_done (by kernel_rfl) ?_
      intro u346 E2'
      have EX345 := Lib.hid E2'
      clear E2'
      have HO := Lib.hid (FreshR.own (w := u346) (B := w.heap.size) HF.out HSL.out (fun y hy => ⟨(HN.out y hy).1, EnvX.box EX345.out _ _ (List.mem_append_left _ hy)⟩))
      have HBE := Lib.hid (EnvX.bel EX345.out)
      go_wp2
      go_returns
      refine ⟨⟨_, rfl, ?_⟩, HBE.out⟩
      rw [HLEN.out]
      exact HO.out
theorem rinsX_any (A : Option Addr) (n c : Nat) (b : List Int) (w : World) (hl : b.length = n) (hn : n ≤ 1000000) (hB : isB b) (hx : Bytes w w.heap.size A b) :
    Calls Tryd.prog 33 #[.slice A n c] w fun e w' => (∃ v, e = .returned (.tuple #[v, .int .i64 ((insR b).2 : Int)]) ∧ w'.ownsRow w.heap.size 51 33 v (insR b).1.length (((insR b).1.map inC).flatten)) ∧ Below w.heap.size w w' := by
  rcases Nat.eq_zero_or_pos n with h0 | hp
  · subst h0
    rw [List.eq_nil_of_length_eq_zero hl]
    exact rinsX_none A c w
  · by_cases k : n < atO b
    · exact rinsX_short A n c b w hl hn hB hx hp k
    · exact rinsX_main A n c b w hl hn hB hx hp k
end Go.Proofs.YtcodmedgkboohaaDoor

namespace Go.Proofs.YtcodmedgkboohaaDoor
set_option maxRecDepth 8000

def cutP (b : List Int) (i n : Nat) : List Int := (b.drop i).take n
theorem cutP_len {b : List Int} {i n : Nat} (h : i + n ≤ b.length) : (cutP b i n).length = n := by
  unfold cutP
  rw [List.length_take, List.length_drop]
  omega
theorem cutP_byte {b : List Int} (h : isB b) (i n : Nat) : isB (cutP b i n) := fun x hx => h x (List.mem_of_mem_drop (List.mem_of_mem_take hx))
end Go.Proofs.YtcodmedgkboohaaDoor

namespace Go.Proofs.YtcodmedgkboohaaDoor
set_option maxRecDepth 8000
open Go.RowKit

set_option maxHeartbeats 1000000 in
theorem rget_some (A : Option Addr) (n c i s : Nat) (xs : List Int) (w : World) (hl : xs.length = n) (hc : n ≤ c) (hn : c ≤ maxLen) (hB : isB xs) (hx : Bytes w w.heap.size A xs) (s8 : s ≤ 8) (his : i + s ≤ n) :
    Calls Tryd.prog 34 #[.slice A n c, .int .i64 i, .int .i64 s] w fun e w' => e = .returned (.tuple #[.int .u64 (getL (cutP xs i s)), .bool true]) ∧ w = w' := by
  unfold maxLen at hn
  have k0 : ¬ ((s : Int) < 0) := by omega
  have k8 : ¬ (8 < (s : Int)) := by omega
  have i0 : ¬ ((i : Int) < 0) := by omega
  have i1 : ¬ ((n : Int) < (i : Int)) := by omega
  have i2 : ¬ ((n : Int) - (i : Int) < (s : Int)) := by omega
  have HX := Lib.hid hx
  have HBB := Lib.hid hB
  have HL := Lib.hid hl
  have HB := Lib.hid (cutP_byte hB i s)
  have hyl : (cutP xs i s).length = s := cutP_len (by omega)
  have HYL := Lib.hid hyl
  have HG : Hid (∀ j, j < s → (cutP xs i s).getD j 0 = xs.getD (i + j) 0) := fun j hj => by
    unfold cutP
    rw [List.getD_eq_getElem?_getD, List.getD_eq_getElem?_getD, List.getElem?_take_of_lt hj, List.getElem?_drop]
  generalize cutP xs i s = ys at *
  clear hl hx hB hyl
  go_enter Tryd.func34, Tryd.ntmps34
  go_upto_region 5 with (fail)
  go_loopw [8, 9] (fun v iv u => ∃ j : Nat, j ≤ s ∧ iv = .int .i64 j ∧ v = .int .u64 (getL (ys.take j)) ∧ u = w) (fun _ iv _ => s - (intOf iv).toNat)
  case atStart => exact ⟨0, by omega, rfl, rfl, rfl⟩
  case round =>
    obtain ⟨j, hj, rfl, rfl, rfl⟩ := hrel
    by_cases hlt : j < s
    · have hlt2 : (j : Int) < (s : Int) := by omega
      obtain ⟨t, ht0⟩ : ∃ t, i + j = t := ⟨_, rfl⟩
      have ht2 : (i : Int) + (j : Int) = (t : Int) := by omega
      have ht3 : (t : Int) < (n : Int) := by omega
      have ht4 : t < n := by omega
      obtain ⟨ad, rfl, hcell⟩ := HX.out.cell t (by rw [HL.out]; exact ht4)
      have hg := HG.out j hlt
      rw [ht0] at hg
      have hx := HB.out _ (List.getElem_mem (by rw [HYL.out]; exact hlt : j < ys.length))
      have hg2 : ys.getD j 0 = ys[j]'(by rw [HYL.out]; exact hlt) := by rw [List.getD_eq_getElem?_getD, List.getElem?_eq_getElem (by rw [HYL.out]; exact hlt)]; rfl
      have ht : Hid (getL (ys.take (j + 1)) = 256 * getL (ys.take j) + (ys.getD j 0).toNat) := by
        show _ = _
        rw [List.take_add_one, List.getElem?_eq_getElem (by rw [HYL.out]; exact hlt), hg2]
        exact getL_snoc _ _
      have hm : getL (ys.take j) < 72057594037927936 := by
        have h1 := getL_lt (ys.take j) (isB_take HB.out j)
        rw [List.length_take, HYL.out] at h1
        have h2 : 256 ^ (min j s) ≤ 256 ^ 7 := Nat.pow_le_pow_right (by omega) (by omega)
        omega
      rw [← hg2, hg] at hx
      obtain ⟨x, hx2⟩ := Int.eq_ofNat_of_zero_le hx.1
      rw [hg] at ht
      rw [hx2] at hx hcell ht
      clear hg2 hg hx2
      generalize getL (ys.take j) = m at *
      go_wp2
      go_roundw
      case rel =>
        refine ⟨j + 1, by omega, by go_num, ?_, trivial⟩
        rw [ht.out, Int.toNat_natCast]
        congr 1
      case measure => simp [intOf]; omega
    · obtain rfl : j = s := by omega
      have hT : ys.take j = ys := List.take_of_length_le (by rw [HYL.out]; exact Nat.le_refl _)
      rw [hT]
      go_wp2
      go_returns
      exact ⟨rfl, rfl⟩
end Go.Proofs.YtcodmedgkboohaaDoor

namespace Go.Proofs.YtcodmedgkboohaaDoor
set_option maxRecDepth 8000
open Go.RowKit

/-- a call that hands back a new row, and a second thing -/
theorem callsRT_fresh {f : FuncId} {args : Array Value} {u : World} {e : TypeId} {z n : Nat} {xs : List Value} {y : Value} (h : Calls Tryd.prog f args u fun en w' => (∃ v, en = .returned (.tuple #[v, y]) ∧ w'.ownsRow u.heap.size e z v n xs) ∧ Below u.heap.size u w') :
    Calls Tryd.prog f args u fun en w'' => ∃ x N, en = .returned x ∧ (∃ v, x = .tuple #[v, y] ∧ FreshR e z n xs v N) ∧ Below u.heap.size u w'' ∧ ∀ y ∈ N, u.heap.size ≤ y.1 ∧ w''.heap[y.1]? = some y.2 :=
  h.mono fun en w' ⟨⟨v, he, hv⟩, hb⟩ => by
    obtain ⟨N, hF, hN⟩ := fresh_of_own hv
    exact ⟨_, N, he, ⟨v, rfl, hF⟩, hb, fun y hy => ⟨(hN y hy).1, (hN y hy).2.1⟩⟩
section
variable {a : Act} {dst : Option Tmp} {x y : Operand} {ty : TypeId} {pos : String} {after : Array Edge} {gd : Option (Nat × Bool)}
theorem idxSlE_op {t e : TypeId} {z : Nat} (hu : Tryd.prog.underlying t = some (.slice e)) (hz : (Tryd.prog.info? e).map (·.size) = some z) {ad p : Addr} {n c i : Nat} (hi : i < n) (he : ad.add (i * z) = p) (u : World)
    (hx : a.eval x = .slice (some ad) n c) (hy : a.eval y = .int .i64 (i : Int)) :
    (execOp a.eval ⟨dst, .indexAddr t x y, ty, pos, after, gd⟩).run Tryd.prog u = .ok (.value (.pointer (some p))) u := by
  rw [← he]
  exact idxSl_op hu hz hi u hx hy
end
theorem lenOK_no {b : List Int} (h : lenOK b = false) : readX b = (noTx, false) := readX_no (by unfold mayReadX; rw [h]; rfl)
theorem insR_no {b : List Int} (h : b.length = 0 ∨ b.length < atO b) : insR b = ([], 0) := by unfold insR; rw [if_pos h]
theorem insR_yes {b : List Int} (h : ¬ (b.length = 0 ∨ b.length < atO b)) : insR b = ((rowsAt 33 b 1 (nIn b)).map inOf, atO b) := by unfold insR; rw [if_neg h]
theorem insR_ok {b : List Int} (hB : isB b) : okIns (insR b).1 := by
  unfold insR
  split
  · intro x hx; cases hx
  · rename_i h
    intro x hx
    obtain ⟨r, hr, rfl⟩ := List.mem_map.1 hx
    have hr1 : 1 + 33 * nIn b ≤ b.length := by unfold atO at h; omega
    have hl := rows_row hr1 r hr
    have hBr := rows_byte hB r hr
    refine ⟨⟨by unfold inOf; rw [List.length_take]; omega, fun y hy => hBr y (List.mem_of_mem_take hy)⟩, ?_⟩
    show I64 (r.getD 32 0)
    rw [List.getD_eq_getElem?_getD, List.getElem?_eq_getElem (by omega)]
    have := hBr r[32] (List.getElem_mem _)
    unfold I64
    simp only [Option.getD_some]
    omega
set_option maxRecDepth 20000 in
set_option maxHeartbeats 8000000 in
theorem rreadX_a (A : Option Addr) (n c : Nat) (b : List Int) (w : World) (hl : b.length = n) (hn : n ≤ 1000000) (hnc : n ≤ c) (hcm : c ≤ maxLen) (hB : isB b) (hx : Bytes w w.heap.size A b) (k : b.length = 0 ∨ b.length < atO b) :
    Calls Tryd.prog 15 #[.slice A n c] w fun e w' => (∃ t : TxM, e = .returned (.tuple #[txV t, .bool (readX b).2]) ∧ t.r = (readX b).1 ∧ TxOk w' t) ∧ Below w.heap.size w w' := by
  have HRD : Hid (readX b = (noTx, false)) := lenOK_no (by rw [← Bool.not_eq_true, lenOK_iff]; omega)
  obtain ⟨⟨L, at0⟩, hins⟩ : ∃ p, insR b = p := ⟨_, rfl⟩
  have hat0 : at0 = 0 := by
    have h := congrArg Prod.snd hins
    rw [insR_no k] at h
    exact h.symm
  have D1 : Hid (decide ((at0 : Int) = 0) = true) := decide_eq_true (by omega)
  have HN63 : Hid (n < 9223372036854775808) := by show _ < _; omega
  have HIN : Hid (∀ u, Below w.heap.size w u → Calls Tryd.prog 33 #[.slice A n c] u fun e w' => (∃ v, e = .returned (.tuple #[v, .int .i64 (at0 : Int)]) ∧ w'.ownsRow u.heap.size 51 33 v L.length ((L.map inC).flatten)) ∧ Below u.heap.size u w') := fun u hu => by
    have h := rinsX_any A n c b u hl hn hB (hx.up hu)
    rwa [hins] at h
  have HLF : Hid ((L.map inC).flatten.length = L.length * 33) := by
    have h := insR_ok hB
    rw [hins] at h
    have h2 := (rowsIn h).flat_len
    rwa [List.length_map] at h2
  have E1 : Hid (EnvX w (w.alloc (.cells (txA noTxM) 25)) [(w.heap.size, Obj.cells (txA noTxM) 25 (0, 0))]) := (EnvX.start w).new _
  clear k hat0 hins hl hB hx hcm hnc
  go_enter Tryd.func15, Tryd.ntmps15
  go_upto_region 1 with (fail)
  rw [show (#[Value.slice none 0 0, Value.slice none 0 0] : Array Value) = txA noTxM from rfl]
  generalize w.alloc (.cells (txA noTxM) 25) = W at *
  obtain ⟨k, hk⟩ : ∃ k, L.length = k := ⟨_, rfl⟩
  have HKL := Lib.hid hk
  rw [hk] at HIN HLF
  clear hk
  refine wp_region_Hx (w0 := w) [0, 1, 2, 3, 4, 5, 6] [(w.heap.size, Obj.cells (txA noTxM) 25 (0, 0))] rfl E1.out ?_
  refine lexH_phase [0] [1, 2, 3, 4, 5, 6] ?_
  have hw1 : EnvX w _ [(w.heap.size, Obj.cells (txA noTxM) 25 (0, 0))] := E1.out
  have hone := @EnvC.one _ _ _ hw1
  (refine wpG_op rfl rfl rfl ?_; intro K hK; go_big_quiet_op; go_big_quiet_on)
  clear hone hw1
  refine wpG_nil ?_
  refine (hOp_fresh (R := fun x N => ∃ v, x = .tuple #[v, .int .i64 (at0 : Int)] ∧ FreshR 51 33 k ((L.map inC).flatten) v N) (M0 := [(w.heap.size, Obj.cells (txA noTxM) 25 (0, 0))]) rfl rfl (fun _ h => h) (fun u hu => FAt_call (fid := 33) (xs := #[.tmp 13]) (args := #[.slice A n c]) rfl Tryd.func33 rfl rfl u (callsRT_fresh (HIN.out u (EnvX.bel hu)))) ?_)
  rintro _ N1 ⟨v1, rfl, hF⟩ hf he2; intro K' hK'; go_big_quiet_op; go_big_quiet_on
  obtain ⟨A1, c1, rfl, hc1, hc2⟩ := FreshR.form hF
  have HF1 := Lib.hid hF
  have HC1 := Lib.hid (And.intro hc1 hc2)
  have HN1 := Lib.hid hf
  clear hF hc1 hc2
  clear hf
  change lexH _ _ _ _ _ _ (N1 ++ ((w.heap.size, Obj.cells (txA noTxM) 25 (0, 0)) :: []))
  refine lexH_phase [2, 3, 4, 5, 6] [] ?_
  have hw3 : EnvX w _ (N1 ++ ((w.heap.size, Obj.cells (txA noTxM) 25 (0, 0)) :: [])) := he2.choose_spec
  have hone := @EnvC.one _ _ _ hw3
  (refine wpG_op rfl rfl rfl ?_; intro K hK; go_big_quiet_op; go_big_quiet_on)
  (refine wpG_op rfl rfl rfl ?_; intro K hK; go_big_quiet_op; go_big_quiet_on)
  (refine wpG_op rfl rfl rfl ?_; intro K hK; go_big_quiet_op; go_big_quiet_on)
  (refine wpG_op rfl rfl rfl ?_; intro K hK; go_big_quiet_op; go_big_quiet_on)
  (refine wpG_op rfl rfl rfl ?_; intro K hK; go_big_quiet_op; go_big_quiet_on)
  clear hone hw3
  refine wpG_nil ?_
  intro u5 E2'
  have EX4 := Lib.hid E2'
  clear E2'
  go_upto_region 2 with (fail)
  refine wp_region_Hx (w0 := w) [0, 1, 2, 3, 4, 5, 6, 7, 8, 9, 10, 11, 12, 13, 14, 15, 16, 17, 18, 19, 20, 21] (N1 ++ ((w.heap.size, Obj.cells (txA noTxM) 25 (0, 0)) :: [])) rfl EX4.out ?_
  refine lexH_phase [0, 1, 2, 3, 4, 5, 6, 7, 8, 9, 10, 11, 12, 13, 14, 15, 16, 17, 18, 19, 20, 21] [] ?_
  have hw6 : EnvX w _ (N1 ++ ((w.heap.size, Obj.cells (txA noTxM) 25 (0, 0)) :: [])) := EX4.out
  have hone := @EnvC.one _ _ _ hw6
  (refine wpG_op rfl rfl rfl ?_; intro K hK; go_big_quiet_op; go_big_quiet_on)
  (refine wpG_val (v := .bool true) rfl rfl (fun u hu => eqlI_op u D1.out rfl rfl) ?_ hw6; intro K hK; go_big_quiet_op; go_big_quiet_on)
  (refine wpG_op rfl rfl rfl ?_; intro K hK; go_big_quiet_op; go_big_quiet_on)
  (refine wpG_skip rfl rfl ?_ hw6; intro K hK; go_big_quiet_op; go_big_quiet_on)
  (refine wpG_skip rfl rfl ?_ hw6; intro K hK; go_big_quiet_op; go_big_quiet_on)
  (refine wpG_skip rfl rfl ?_ hw6; intro K hK; go_big_quiet_op; go_big_quiet_on)
  (refine wpG_skip rfl rfl ?_ hw6; intro K hK; go_big_quiet_op; go_big_quiet_on)
  (refine wpG_op rfl rfl rfl ?_; intro K hK; go_big_quiet_op; go_big_quiet_on)
  (refine wpG_op rfl rfl rfl ?_; intro K hK; go_big_quiet_op; go_big_quiet_on)
  (refine wpG_skip rfl rfl ?_ hw6; intro K hK; go_big_quiet_op; go_big_quiet_on)
  (refine wpG_skip rfl rfl ?_ hw6; intro K hK; go_big_quiet_op; go_big_quiet_on)
  (refine wpG_skip rfl rfl ?_ hw6; intro K hK; go_big_quiet_op; go_big_quiet_on)
  (refine wpG_skip rfl rfl ?_ hw6; intro K hK; go_big_quiet_op; go_big_quiet_on)
  (refine wpG_skip rfl rfl ?_ hw6; intro K hK; go_big_quiet_op; go_big_quiet_on)
  (refine wpG_skip rfl rfl ?_ hw6; intro K hK; go_big_quiet_op; go_big_quiet_on)
  (refine wpG_skip rfl rfl ?_ hw6; intro K hK; go_big_quiet_op; go_big_quiet_on)
  (refine wpG_skip rfl rfl ?_ hw6; intro K hK; go_big_quiet_op; go_big_quiet_on)
  (refine wpG_skip rfl rfl ?_ hw6; intro K hK; go_big_quiet_op; go_big_quiet_on)
  (refine wpG_skip rfl rfl ?_ hw6; intro K hK; go_big_quiet_op; go_big_quiet_on)
  (refine wpG_skip rfl rfl ?_ hw6; intro K hK; go_big_quiet_op; go_big_quiet_on)
  (refine wpG_skip rfl rfl ?_ hw6; intro K hK; go_big_quiet_op; go_big_quiet_on)
  (refine wpG_op rfl rfl rfl ?_; intro K hK; go_big_quiet_op; go_big_quiet_on)
  clear hone hw6
  refine wpG_nil ?_
  intro u8 E2'
  have EX7 := Lib.hid E2'
  clear E2'
  go_upto_region 3 with (fail)
  refine wp_region_Hx (w0 := w) [0, 1, 2] (N1 ++ ((w.heap.size, Obj.cells (txA noTxM) 25 (0, 0)) :: [])) rfl EX7.out ?_
  refine lexH_phase [0] [1, 2] ?_
  have hw9 : EnvX w _ (N1 ++ ((w.heap.size, Obj.cells (txA noTxM) 25 (0, 0)) :: [])) := EX7.out
  have hone := @EnvC.one _ _ _ hw9
  (refine wpG_val (v := .agg (txA noTxM)) rfl rfl (fun u hu => buildA_op u built_notx) ?_ hw9; intro K hK; go_big_quiet_op; go_big_quiet_on)
  clear hone hw9
  refine wpG_nil ?_
  refine (hOp_store rfl (w.heap.size) (txA noTxM) rfl rfl (Nat.le_refl _) 25 ((txA noTxM)) (List.mem_append_right _ (List.Mem.head _)) (infoTx _ (txA_size _)) ((txA_size _).trans (txA_size _).symm) (txA_one _) [(w.heap.size, Obj.cells (txA noTxM) 25 (0, 0))] (List.forall_mem_cons.2 ⟨.inl rfl, (fun _ h => by cases h)⟩) ?_)
  intro he10
  refine lexH_phase [2] [] ?_
  have hw11 : EnvX w _ [(w.heap.size, Obj.cells (txA noTxM) 25 (0, 0))] := he10.choose_spec
  have hone := @EnvC.one _ _ _ hw11
  (refine wpG_op rfl rfl rfl ?_; intro K hK; go_big_quiet_op; go_big_quiet_on)
  clear hone hw11
  refine wpG_nil ?_
  intro u13 E2'
  have EX12 := Lib.hid E2'
  clear E2'
  have Q0 := Lib.hid (EnvX.box EX12.out _ _ (List.Mem.head _))
  have HBEL := Lib.hid EX12.out.bel
  go_wp2_with ((with_reducible refine bodyPost_ret (v := .tuple #[.agg (txA noTxM), .bool false]) ?_ ?_ ?_); (exact results_row_slot (p := 2) (q := 3) (ty := 25) Tryd.results15 _ _ (w.heap.size) 25 (txA noTxM) (0, 0) _ rfl _ rfl Q0.out Tryd.underlying25 rfl (infoTx _ (txA_size _))); (rfl))
  rw [HRD.out]
  exact ⟨⟨noTxM, rfl, rfl, TxOk.no _⟩, HBEL.out⟩
set_option maxRecDepth 20000 in
set_option maxHeartbeats 8000000 in
theorem rreadX_b (A : Option Addr) (n c : Nat) (b : List Int) (w : World) (hl : b.length = n) (hn : n ≤ 1000000) (hnc : n ≤ c) (hcm : c ≤ maxLen) (hB : isB b) (hx : Bytes w w.heap.size A b) (k : ¬ (b.length = 0 ∨ b.length < atO b)) (k2 : b.length ≤ atO b) :
    Calls Tryd.prog 15 #[.slice A n c] w fun e w' => (∃ t : TxM, e = .returned (.tuple #[txV t, .bool (readX b).2]) ∧ t.r = (readX b).1 ∧ TxOk w' t) ∧ Below w.heap.size w w' := by
  have HRD : Hid (readX b = (noTx, false)) := lenOK_no (by rw [← Bool.not_eq_true, lenOK_iff]; omega)
  obtain ⟨⟨L, at0⟩, hins⟩ : ∃ p, insR b = p := ⟨_, rfl⟩
  have hat0 : at0 = atO b := by
    have h := congrArg Prod.snd hins
    rw [insR_yes k] at h
    exact h.symm
  have D1 : Hid (decide ((at0 : Int) = 0) = false) := decide_eq_false (by unfold atO at hat0; omega)
  have D6 : Hid (decide ((n : Int) ≤ (at0 : Int)) = true) := decide_eq_true (by omega)
  have HN63 : Hid (n < 9223372036854775808) := by show _ < _; omega
  have HIN : Hid (∀ u, Below w.heap.size w u → Calls Tryd.prog 33 #[.slice A n c] u fun e w' => (∃ v, e = .returned (.tuple #[v, .int .i64 (at0 : Int)]) ∧ w'.ownsRow u.heap.size 51 33 v L.length ((L.map inC).flatten)) ∧ Below u.heap.size u w') := fun u hu => by
    have h := rinsX_any A n c b u hl hn hB (hx.up hu)
    rwa [hins] at h
  have HLF : Hid ((L.map inC).flatten.length = L.length * 33) := by
    have h := insR_ok hB
    rw [hins] at h
    have h2 := (rowsIn h).flat_len
    rwa [List.length_map] at h2
  have E1 : Hid (EnvX w (w.alloc (.cells (txA noTxM) 25)) [(w.heap.size, Obj.cells (txA noTxM) 25 (0, 0))]) := (EnvX.start w).new _
  clear k k2 hat0 hins hl hB hx hcm hnc
  go_enter Tryd.func15, Tryd.ntmps15
  go_upto_region 1 with (fail)
  rw [show (#[Value.slice none 0 0, Value.slice none 0 0] : Array Value) = txA noTxM from rfl]
  generalize w.alloc (.cells (txA noTxM) 25) = W at *
  obtain ⟨k, hk⟩ : ∃ k, L.length = k := ⟨_, rfl⟩
  have HKL := Lib.hid hk
  rw [hk] at HIN HLF
  clear hk
  refine wp_region_Hx (w0 := w) [0, 1, 2, 3, 4, 5, 6] [(w.heap.size, Obj.cells (txA noTxM) 25 (0, 0))] rfl E1.out ?_
  refine lexH_phase [0] [1, 2, 3, 4, 5, 6] ?_
  have hw1 : EnvX w _ [(w.heap.size, Obj.cells (txA noTxM) 25 (0, 0))] := E1.out
  have hone := @EnvC.one _ _ _ hw1
  (refine wpG_op rfl rfl rfl ?_; intro K hK; go_big_quiet_op; go_big_quiet_on)
  clear hone hw1
  refine wpG_nil ?_
  refine (hOp_fresh (R := fun x N => ∃ v, x = .tuple #[v, .int .i64 (at0 : Int)] ∧ FreshR 51 33 k ((L.map inC).flatten) v N) (M0 := [(w.heap.size, Obj.cells (txA noTxM) 25 (0, 0))]) rfl rfl (fun _ h => h) (fun u hu => FAt_call (fid := 33) (xs := #[.tmp 13]) (args := #[.slice A n c]) rfl Tryd.func33 rfl rfl u (callsRT_fresh (HIN.out u (EnvX.bel hu)))) ?_)
  rintro _ N1 ⟨v1, rfl, hF⟩ hf he2; intro K' hK'; go_big_quiet_op; go_big_quiet_on
  obtain ⟨A1, c1, rfl, hc1, hc2⟩ := FreshR.form hF
  have HF1 := Lib.hid hF
  have HC1 := Lib.hid (And.intro hc1 hc2)
  have HN1 := Lib.hid hf
  clear hF hc1 hc2
  clear hf
  change lexH _ _ _ _ _ _ (N1 ++ ((w.heap.size, Obj.cells (txA noTxM) 25 (0, 0)) :: []))
  refine lexH_phase [2, 3, 4, 5, 6] [] ?_
  have hw3 : EnvX w _ (N1 ++ ((w.heap.size, Obj.cells (txA noTxM) 25 (0, 0)) :: [])) := he2.choose_spec
  have hone := @EnvC.one _ _ _ hw3
  (refine wpG_op rfl rfl rfl ?_; intro K hK; go_big_quiet_op; go_big_quiet_on)
  (refine wpG_op rfl rfl rfl ?_; intro K hK; go_big_quiet_op; go_big_quiet_on)
  (refine wpG_op rfl rfl rfl ?_; intro K hK; go_big_quiet_op; go_big_quiet_on)
  (refine wpG_op rfl rfl rfl ?_; intro K hK; go_big_quiet_op; go_big_quiet_on)
  (refine wpG_op rfl rfl rfl ?_; intro K hK; go_big_quiet_op; go_big_quiet_on)
  clear hone hw3
  refine wpG_nil ?_
  intro u5 E2'
  have EX4 := Lib.hid E2'
  clear E2'
  go_upto_region 2 with (fail)
  refine wp_region_Hx (w0 := w) [0, 1, 2, 3, 4, 5, 6, 7, 8, 9, 10, 11, 12, 13, 14, 15, 16, 17, 18, 19, 20, 21] (N1 ++ ((w.heap.size, Obj.cells (txA noTxM) 25 (0, 0)) :: [])) rfl EX4.out ?_
  refine lexH_phase [0, 1, 2, 3, 4, 5, 6, 7, 8, 9, 10, 11, 12, 13, 14, 15, 16, 17, 18, 19, 20, 21] [] ?_
  have hw6 : EnvX w _ (N1 ++ ((w.heap.size, Obj.cells (txA noTxM) 25 (0, 0)) :: [])) := EX4.out
  have hone := @EnvC.one _ _ _ hw6
  (refine wpG_op rfl rfl rfl ?_; intro K hK; go_big_quiet_op; go_big_quiet_on)
  (refine wpG_val (v := .bool false) rfl rfl (fun u hu => eqlI_op u D1.out rfl rfl) ?_ hw6; intro K hK; go_big_quiet_op; go_big_quiet_on)
  (refine wpG_op rfl rfl rfl ?_; intro K hK; go_big_quiet_op; go_big_quiet_on)
  (refine wpG_op rfl rfl rfl ?_; intro K hK; go_big_quiet_op; go_big_quiet_on)
  (refine wpG_op rfl rfl rfl ?_; intro K hK; go_big_quiet_op; go_big_quiet_on)
  (refine wpG_val (v := .int .i64 (n : Int)) rfl rfl (fun u hu => len_op Tryd.underlying26 HN63.out u rfl) ?_ hw6; intro K hK; go_big_quiet_op; go_big_quiet_on)
  (refine wpG_val (v := .bool true) rfl rfl (fun u hu => geZ_op u D6.out rfl rfl) ?_ hw6; intro K hK; go_big_quiet_op; go_big_quiet_on)
  (refine wpG_op rfl rfl rfl ?_; intro K hK; go_big_quiet_op; go_big_quiet_on)
  (refine wpG_op rfl rfl rfl ?_; intro K hK; go_big_quiet_op; go_big_quiet_on)
  (refine wpG_skip rfl rfl ?_ hw6; intro K hK; go_big_quiet_op; go_big_quiet_on)
  (refine wpG_skip rfl rfl ?_ hw6; intro K hK; go_big_quiet_op; go_big_quiet_on)
  (refine wpG_skip rfl rfl ?_ hw6; intro K hK; go_big_quiet_op; go_big_quiet_on)
  (refine wpG_skip rfl rfl ?_ hw6; intro K hK; go_big_quiet_op; go_big_quiet_on)
  (refine wpG_skip rfl rfl ?_ hw6; intro K hK; go_big_quiet_op; go_big_quiet_on)
  (refine wpG_skip rfl rfl ?_ hw6; intro K hK; go_big_quiet_op; go_big_quiet_on)
  (refine wpG_skip rfl rfl ?_ hw6; intro K hK; go_big_quiet_op; go_big_quiet_on)
  (refine wpG_skip rfl rfl ?_ hw6; intro K hK; go_big_quiet_op; go_big_quiet_on)
  (refine wpG_skip rfl rfl ?_ hw6; intro K hK; go_big_quiet_op; go_big_quiet_on)
  (refine wpG_skip rfl rfl ?_ hw6; intro K hK; go_big_quiet_op; go_big_quiet_on)
  (refine wpG_skip rfl rfl ?_ hw6; intro K hK; go_big_quiet_op; go_big_quiet_on)
  (refine wpG_skip rfl rfl ?_ hw6; intro K hK; go_big_quiet_op; go_big_quiet_on)
  (refine wpG_op rfl rfl rfl ?_; intro K hK; go_big_quiet_op; go_big_quiet_on)
  clear hone hw6
  refine wpG_nil ?_
  intro u8 E2'
  have EX7 := Lib.hid E2'
  clear E2'
  go_upto_region 3 with (fail)
  refine wp_region_Hx (w0 := w) [0, 1, 2] (N1 ++ ((w.heap.size, Obj.cells (txA noTxM) 25 (0, 0)) :: [])) rfl EX7.out ?_
  refine lexH_phase [0] [1, 2] ?_
  have hw9 : EnvX w _ (N1 ++ ((w.heap.size, Obj.cells (txA noTxM) 25 (0, 0)) :: [])) := EX7.out
  have hone := @EnvC.one _ _ _ hw9
  (refine wpG_val (v := .agg (txA noTxM)) rfl rfl (fun u hu => buildA_op u built_notx) ?_ hw9; intro K hK; go_big_quiet_op; go_big_quiet_on)
  clear hone hw9
  refine wpG_nil ?_
  refine (hOp_store rfl (w.heap.size) (txA noTxM) rfl rfl (Nat.le_refl _) 25 ((txA noTxM)) (List.mem_append_right _ (List.Mem.head _)) (infoTx _ (txA_size _)) ((txA_size _).trans (txA_size _).symm) (txA_one _) [(w.heap.size, Obj.cells (txA noTxM) 25 (0, 0))] (List.forall_mem_cons.2 ⟨.inl rfl, (fun _ h => by cases h)⟩) ?_)
  intro he10
  refine lexH_phase [2] [] ?_
  have hw11 : EnvX w _ [(w.heap.size, Obj.cells (txA noTxM) 25 (0, 0))] := he10.choose_spec
  have hone := @EnvC.one _ _ _ hw11
  (refine wpG_op rfl rfl rfl ?_; intro K hK; go_big_quiet_op; go_big_quiet_on)
  clear hone hw11
  refine wpG_nil ?_
  intro u13 E2'
  have EX12 := Lib.hid E2'
  clear E2'
  have Q0 := Lib.hid (EnvX.box EX12.out _ _ (List.Mem.head _))
  have HBEL := Lib.hid EX12.out.bel
  go_wp2_with ((with_reducible refine bodyPost_ret (v := .tuple #[.agg (txA noTxM), .bool false]) ?_ ?_ ?_); (exact results_row_slot (p := 2) (q := 3) (ty := 25) Tryd.results15 _ _ (w.heap.size) 25 (txA noTxM) (0, 0) _ rfl _ rfl Q0.out Tryd.underlying25 rfl (infoTx _ (txA_size _))); (rfl))
  rw [HRD.out]
  exact ⟨⟨noTxM, rfl, rfl, TxOk.no _⟩, HBEL.out⟩
set_option maxRecDepth 20000 in
set_option maxHeartbeats 8000000 in
theorem rreadX_c (A : Option Addr) (n c : Nat) (b : List Int) (w : World) (hl : b.length = n) (hn : n ≤ 1000000) (hnc : n ≤ c) (hcm : c ≤ maxLen) (hB : isB b) (hx : Bytes w w.heap.size A b) (k : ¬ (b.length = 0 ∨ b.length < atO b)) (k2 : ¬ b.length ≤ atO b) (k3 : b.length ≠ atO b + (1 + 7 * nOut b)) :
    Calls Tryd.prog 15 #[.slice A n c] w fun e w' => (∃ t : TxM, e = .returned (.tuple #[txV t, .bool (readX b).2]) ∧ t.r = (readX b).1 ∧ TxOk w' t) ∧ Below w.heap.size w w' := by
  have HRD : Hid (readX b = (noTx, false)) := lenOK_no (by rw [← Bool.not_eq_true, lenOK_iff]; omega)
  obtain ⟨⟨L, at0⟩, hins⟩ : ∃ p, insR b = p := ⟨_, rfl⟩
  have hat0 : at0 = atO b ∧ L = (rowsAt 33 b 1 (nIn b)).map inOf := by
    rw [insR_yes k] at hins
    exact ⟨(congrArg Prod.snd hins).symm, (congrArg Prod.fst hins).symm⟩
  have hatn : at0 < n := by omega
  have hat1 : 1 ≤ at0 := by have := hat0.1; unfold atO at this; omega
  have HAT := Lib.hid hatn
  have D1 : Hid (decide ((at0 : Int) = 0) = false) := decide_eq_false (by omega)
  have D6 : Hid (decide ((n : Int) ≤ (at0 : Int)) = false) := decide_eq_false (by omega)
  obtain ⟨ad, rfl, hld⟩ := byte_loads hx hl (by omega)
  have HLD := Lib.hid hld
  obtain ⟨m0, hm0⟩ : ∃ m0, nOut b = m0 := ⟨_, rfl⟩
  have hg0 : b.getD at0 0 = (m0 : Int) ∧ m0 ≤ 255 := by
    have h1 : b.getD at0 0 = b[at0]'(by omega) := by rw [List.getD_eq_getElem?_getD, List.getElem?_eq_getElem (by omega)]; rfl
    have h2 := hB (b[at0]'(by omega)) (List.getElem_mem _)
    unfold nOut at hm0
    rw [← hat0.1, h1] at hm0
    rw [h1]
    omega
  obtain ⟨pA, hpA⟩ : ∃ pA, ad.add (at0 * 1) = pA := ⟨_, rfl⟩
  have HPA := Lib.hid hpA
  have HLA : Hid (∀ u, EnvX w u [] → (loadVar 5 pA).run Tryd.prog u = .ok (.int .u8 (m0 : Int)) u) := fun u hu => by
    have h := HLD.out u hu at0 HAT.out
    rwa [hpA, hg0.1] at h
  have hm255 := hg0.2
  have HM8 : Hid (0 ≤ (m0 : Int) ∧ (m0 : Int) ≤ 255) := by show _ ∧ _; omega
  obtain ⟨dd, hdd⟩ : ∃ dd : Int, (n : Int) - (at0 : Int) = dd := ⟨_, rfl⟩
  obtain ⟨z7, hz7⟩ : ∃ z7 : Int, 7 * (m0 : Int) = z7 := ⟨_, rfl⟩
  obtain ⟨y7, hy7⟩ : ∃ y7 : Int, 1 + z7 = y7 := ⟨_, rfl⟩
  have HDD : Hid (IntKind.i64.wrap ((n : Int) - (at0 : Int)) = dd) := by show _ = _; rw [wrapS (by omega)]; exact hdd
  have HZ7 : Hid (IntKind.i64.wrap (7 * (m0 : Int)) = z7) := by show _ = _; rw [wrapS (by omega)]; exact hz7
  have HY7 : Hid (IntKind.i64.wrap (1 + z7) = y7) := by show _ = _; rw [wrapS (by omega)]; exact hy7
  have D20 : Hid (decide (dd ≠ y7) = true) := decide_eq_true (by omega)
  have HN63 : Hid (n < 9223372036854775808) := by show _ < _; omega
  have HIN : Hid (∀ u, Below w.heap.size w u → Calls Tryd.prog 33 #[.slice (some ad) n c] u fun e w' => (∃ v, e = .returned (.tuple #[v, .int .i64 (at0 : Int)]) ∧ w'.ownsRow u.heap.size 51 33 v L.length ((L.map inC).flatten)) ∧ Below u.heap.size u w') := fun u hu => by
    have h := rinsX_any (some ad) n c b u hl hn hB (hx.up hu)
    rwa [hins] at h
  have HLF : Hid ((L.map inC).flatten.length = L.length * 33) := by
    have h := insR_ok hB
    rw [hins] at h
    have h2 := (rowsIn h).flat_len
    rwa [List.length_map] at h2
  have E1 : Hid (EnvX w (w.alloc (.cells (txA noTxM) 25)) [(w.heap.size, Obj.cells (txA noTxM) 25 (0, 0))]) := (EnvX.start w).new _
  clear k k2 k3 hat0 hatn hat1 hld hm0 hg0 hpA hdd hz7 hy7 hins hl hB hx hcm hnc
  go_enter Tryd.func15, Tryd.ntmps15
  go_upto_region 1 with (fail)
  rw [show (#[Value.slice none 0 0, Value.slice none 0 0] : Array Value) = txA noTxM from rfl]
  generalize w.alloc (.cells (txA noTxM) 25) = W at *
  obtain ⟨k, hk⟩ : ∃ k, L.length = k := ⟨_, rfl⟩
  have HKL := Lib.hid hk
  rw [hk] at HIN HLF
  clear hk
  refine wp_region_Hx (w0 := w) [0, 1, 2, 3, 4, 5, 6] [(w.heap.size, Obj.cells (txA noTxM) 25 (0, 0))] rfl E1.out ?_
  refine lexH_phase [0] [1, 2, 3, 4, 5, 6] ?_
  have hw1 : EnvX w _ [(w.heap.size, Obj.cells (txA noTxM) 25 (0, 0))] := E1.out
  have hone := @EnvC.one _ _ _ hw1
  (refine wpG_op rfl rfl rfl ?_; intro K hK; go_big_quiet_op; go_big_quiet_on)
  clear hone hw1
  refine wpG_nil ?_
  refine (hOp_fresh (R := fun x N => ∃ v, x = .tuple #[v, .int .i64 (at0 : Int)] ∧ FreshR 51 33 k ((L.map inC).flatten) v N) (M0 := [(w.heap.size, Obj.cells (txA noTxM) 25 (0, 0))]) rfl rfl (fun _ h => h) (fun u hu => FAt_call (fid := 33) (xs := #[.tmp 13]) (args := #[.slice (some ad) n c]) rfl Tryd.func33 rfl rfl u (callsRT_fresh (HIN.out u (EnvX.bel hu)))) ?_)
  rintro _ N1 ⟨v1, rfl, hF⟩ hf he2; intro K' hK'; go_big_quiet_op; go_big_quiet_on
  obtain ⟨A1, c1, rfl, hc1, hc2⟩ := FreshR.form hF
  have HF1 := Lib.hid hF
  have HC1 := Lib.hid (And.intro hc1 hc2)
  have HN1 := Lib.hid hf
  clear hF hc1 hc2
  clear hf
  change lexH _ _ _ _ _ _ (N1 ++ ((w.heap.size, Obj.cells (txA noTxM) 25 (0, 0)) :: []))
  refine lexH_phase [2, 3, 4, 5, 6] [] ?_
  have hw3 : EnvX w _ (N1 ++ ((w.heap.size, Obj.cells (txA noTxM) 25 (0, 0)) :: [])) := he2.choose_spec
  have hone := @EnvC.one _ _ _ hw3
  (refine wpG_op rfl rfl rfl ?_; intro K hK; go_big_quiet_op; go_big_quiet_on)
  (refine wpG_op rfl rfl rfl ?_; intro K hK; go_big_quiet_op; go_big_quiet_on)
  (refine wpG_op rfl rfl rfl ?_; intro K hK; go_big_quiet_op; go_big_quiet_on)
  (refine wpG_op rfl rfl rfl ?_; intro K hK; go_big_quiet_op; go_big_quiet_on)
  (refine wpG_op rfl rfl rfl ?_; intro K hK; go_big_quiet_op; go_big_quiet_on)
  clear hone hw3
  refine wpG_nil ?_
  intro u5 E2'
  have EX4 := Lib.hid E2'
  clear E2'
  go_upto_region 2 with (fail)
  refine wp_region_Hx (w0 := w) [0, 1, 2, 3, 4, 5, 6, 7, 8, 9, 10, 11, 12, 13, 14, 15, 16, 17, 18, 19, 20, 21] (N1 ++ ((w.heap.size, Obj.cells (txA noTxM) 25 (0, 0)) :: [])) rfl EX4.out ?_
  refine lexH_phase [0, 1, 2, 3, 4, 5, 6, 7, 8, 9, 10, 11, 12, 13, 14, 15, 16, 17, 18, 19, 20, 21] [] ?_
  have hw6 : EnvX w _ (N1 ++ ((w.heap.size, Obj.cells (txA noTxM) 25 (0, 0)) :: [])) := EX4.out
  have hone := @EnvC.one _ _ _ hw6
  (refine wpG_op rfl rfl rfl ?_; intro K hK; go_big_quiet_op; go_big_quiet_on)
  (refine wpG_val (v := .bool false) rfl rfl (fun u hu => eqlI_op u D1.out rfl rfl) ?_ hw6; intro K hK; go_big_quiet_op; go_big_quiet_on)
  (refine wpG_op rfl rfl rfl ?_; intro K hK; go_big_quiet_op; go_big_quiet_on)
  (refine wpG_op rfl rfl rfl ?_; intro K hK; go_big_quiet_op; go_big_quiet_on)
  (refine wpG_op rfl rfl rfl ?_; intro K hK; go_big_quiet_op; go_big_quiet_on)
  (refine wpG_val (v := .int .i64 (n : Int)) rfl rfl (fun u hu => len_op Tryd.underlying26 HN63.out u rfl) ?_ hw6; intro K hK; go_big_quiet_op; go_big_quiet_on)
  (refine wpG_val (v := .bool false) rfl rfl (fun u hu => geZ_op u D6.out rfl rfl) ?_ hw6; intro K hK; go_big_quiet_op; go_big_quiet_on)
  (refine wpG_op rfl rfl rfl ?_; intro K hK; go_big_quiet_op; go_big_quiet_on)
  (refine wpG_op rfl rfl rfl ?_; intro K hK; go_big_quiet_op; go_big_quiet_on)
  (refine wpG_op rfl rfl rfl ?_; intro K hK; go_big_quiet_op; go_big_quiet_on)
  (refine wpG_val (v := .int .i64 (n : Int)) rfl rfl (fun u hu => len_op Tryd.underlying26 HN63.out u rfl) ?_ hw6; intro K hK; go_big_quiet_op; go_big_quiet_on)
  (refine wpG_op rfl rfl rfl ?_; intro K hK; go_big_quiet_op; go_big_quiet_on)
  (refine wpG_val (v := .int .i64 dd) rfl rfl (fun u hu => subZ_op u HDD.out rfl rfl) ?_ hw6; intro K hK; go_big_quiet_op; go_big_quiet_on)
  (refine wpG_op rfl rfl rfl ?_; intro K hK; go_big_quiet_op; go_big_quiet_on)
  (refine wpG_op rfl rfl rfl ?_; intro K hK; go_big_quiet_op; go_big_quiet_on)
  (refine wpG_val (v := .pointer (some pA)) rfl rfl (fun u hu => idxSlE_op (i := at0) Tryd.underlying26 sizeU8c HAT.out HPA.out u rfl rfl) ?_ hw6; intro K hK; go_big_quiet_op; go_big_quiet_on)
  (refine wpG_val (v := .int .u8 (m0 : Int)) rfl rfl (fun u hu => load_any_op u (HLA.out u (EnvX.sub hu (fun _ h => by cases h))) rfl) ?_ hw6; intro K hK; go_big_quiet_op; go_big_quiet_on)
  (refine wpG_val (v := .int .i64 (m0 : Int)) rfl rfl (fun u hu => convU8I_op u HM8.out rfl) ?_ hw6; intro K hK; go_big_quiet_op; go_big_quiet_on)
  (refine wpG_val (v := .int .i64 z7) rfl rfl (fun u hu => mulZ_op u HZ7.out rfl rfl) ?_ hw6; intro K hK; go_big_quiet_op; go_big_quiet_on)
  (refine wpG_val (v := .int .i64 y7) rfl rfl (fun u hu => addZ_op u HY7.out rfl rfl) ?_ hw6; intro K hK; go_big_quiet_op; go_big_quiet_on)
  (refine wpG_val (v := .bool true) rfl rfl (fun u hu => neZ_op u D20.out rfl rfl) ?_ hw6; intro K hK; go_big_quiet_op; go_big_quiet_on)
  (refine wpG_op rfl rfl rfl ?_; intro K hK; go_big_quiet_op; go_big_quiet_on)
  clear hone hw6
  refine wpG_nil ?_
  intro u8 E2'
  have EX7 := Lib.hid E2'
  clear E2'
  go_upto_region 3 with (fail)
  refine wp_region_Hx (w0 := w) [0, 1, 2] (N1 ++ ((w.heap.size, Obj.cells (txA noTxM) 25 (0, 0)) :: [])) rfl EX7.out ?_
  refine lexH_phase [0] [1, 2] ?_
  have hw9 : EnvX w _ (N1 ++ ((w.heap.size, Obj.cells (txA noTxM) 25 (0, 0)) :: [])) := EX7.out
  have hone := @EnvC.one _ _ _ hw9
  (refine wpG_val (v := .agg (txA noTxM)) rfl rfl (fun u hu => buildA_op u built_notx) ?_ hw9; intro K hK; go_big_quiet_op; go_big_quiet_on)
  clear hone hw9
  refine wpG_nil ?_
  refine (hOp_store rfl (w.heap.size) (txA noTxM) rfl rfl (Nat.le_refl _) 25 ((txA noTxM)) (List.mem_append_right _ (List.Mem.head _)) (infoTx _ (txA_size _)) ((txA_size _).trans (txA_size _).symm) (txA_one _) [(w.heap.size, Obj.cells (txA noTxM) 25 (0, 0))] (List.forall_mem_cons.2 ⟨.inl rfl, (fun _ h => by cases h)⟩) ?_)
  intro he10
  refine lexH_phase [2] [] ?_
  have hw11 : EnvX w _ [(w.heap.size, Obj.cells (txA noTxM) 25 (0, 0))] := he10.choose_spec
  have hone := @EnvC.one _ _ _ hw11
  (refine wpG_op rfl rfl rfl ?_; intro K hK; go_big_quiet_op; go_big_quiet_on)
  clear hone hw11
  refine wpG_nil ?_
  intro u13 E2'
  have EX12 := Lib.hid E2'
  clear E2'
  have Q0 := Lib.hid (EnvX.box EX12.out _ _ (List.Mem.head _))
  have HBEL := Lib.hid EX12.out.bel
  go_wp2_with ((with_reducible refine bodyPost_ret (v := .tuple #[.agg (txA noTxM), .bool false]) ?_ ?_ ?_); (exact results_row_slot (p := 2) (q := 3) (ty := 25) Tryd.results15 _ _ (w.heap.size) 25 (txA noTxM) (0, 0) _ rfl _ rfl Q0.out Tryd.underlying25 rfl (infoTx _ (txA_size _))); (rfl))
  rw [HRD.out]
  exact ⟨⟨noTxM, rfl, rfl, TxOk.no _⟩, HBEL.out⟩
theorem outs_flat (l : List OutR) : (l.map outC).flatten.length = l.length * 2 := by
  have := (rowsOut l).flat_len
  rwa [List.length_map] at this
set_option maxRecDepth 20000 in
set_option maxHeartbeats 8000000 in
theorem rreadX_d (A : Option Addr) (n c : Nat) (b : List Int) (w : World) (hl : b.length = n) (hn : n ≤ 1000000) (hnc : n ≤ c) (hcm : c ≤ maxLen) (hB : isB b) (hx : Bytes w w.heap.size A b) (k : ¬ (b.length = 0 ∨ b.length < atO b)) (k2 : ¬ b.length ≤ atO b) (k3 : b.length = atO b + (1 + 7 * nOut b)) :
    Calls Tryd.prog 15 #[.slice A n c] w fun e w' => (∃ t : TxM, e = .returned (.tuple #[txV t, .bool (readX b).2]) ∧ t.r = (readX b).1 ∧ TxOk w' t) ∧ Below w.heap.size w w' := by
  obtain ⟨⟨L, at0⟩, hins⟩ : ∃ p, insR b = p := ⟨_, rfl⟩
  have hat0 : at0 = atO b ∧ L = (rowsAt 33 b 1 (nIn b)).map inOf := by
    rw [insR_yes k] at hins
    exact ⟨(congrArg Prod.snd hins).symm, (congrArg Prod.fst hins).symm⟩
  have hatn : at0 < n := by omega
  have hat1 : 1 ≤ at0 := by have := hat0.1; unfold atO at this; omega
  have HAT := Lib.hid hatn
  have D1 : Hid (decide ((at0 : Int) = 0) = false) := decide_eq_false (by omega)
  have D6 : Hid (decide ((n : Int) ≤ (at0 : Int)) = false) := decide_eq_false (by omega)
  obtain ⟨ad, rfl, hld⟩ := byte_loads hx hl (by omega)
  have HLD := Lib.hid hld
  obtain ⟨m0, hm0⟩ : ∃ m0, nOut b = m0 := ⟨_, rfl⟩
  have hg0 : b.getD at0 0 = (m0 : Int) ∧ m0 ≤ 255 := by
    have h1 : b.getD at0 0 = b[at0]'(by omega) := by rw [List.getD_eq_getElem?_getD, List.getElem?_eq_getElem (by omega)]; rfl
    have h2 := hB (b[at0]'(by omega)) (List.getElem_mem _)
    unfold nOut at hm0
    rw [← hat0.1, h1] at hm0
    rw [h1]
    omega
  obtain ⟨pA, hpA⟩ : ∃ pA, ad.add (at0 * 1) = pA := ⟨_, rfl⟩
  have HPA := Lib.hid hpA
  have HLA : Hid (∀ u, EnvX w u [] → (loadVar 5 pA).run Tryd.prog u = .ok (.int .u8 (m0 : Int)) u) := fun u hu => by
    have h := HLD.out u hu at0 HAT.out
    rwa [hpA, hg0.1] at h
  have hm255 := hg0.2
  have HM8 : Hid (0 ≤ (m0 : Int) ∧ (m0 : Int) ≤ 255) := by show _ ∧ _; omega
  obtain ⟨dd, hdd⟩ : ∃ dd : Int, (n : Int) - (at0 : Int) = dd := ⟨_, rfl⟩
  obtain ⟨z7, hz7⟩ : ∃ z7 : Int, 7 * (m0 : Int) = z7 := ⟨_, rfl⟩
  obtain ⟨y7, hy7⟩ : ∃ y7 : Int, 1 + z7 = y7 := ⟨_, rfl⟩
  have HDD : Hid (IntKind.i64.wrap ((n : Int) - (at0 : Int)) = dd) := by show _ = _; rw [wrapS (by omega)]; exact hdd
  have HZ7 : Hid (IntKind.i64.wrap (7 * (m0 : Int)) = z7) := by show _ = _; rw [wrapS (by omega)]; exact hz7
  have HY7 : Hid (IntKind.i64.wrap (1 + z7) = y7) := by show _ = _; rw [wrapS (by omega)]; exact hy7
  have D20 : Hid (decide (dd ≠ y7) = false) := decide_eq_false (by omega)
  have hlk : lenOK b = true := lenOK_iff.2 (by omega)
  have HBP := Lib.hid (body_parse hB hlk)
  have HRX : Hid (readX b = if mayX (parseX b) then (parseX b, true) else (noTx, false)) := by show _ = _; unfold readX mayReadX; rw [hlk, Bool.true_and]
  have HPX : Hid (parseX b = ⟨L, outsAt b (at0 + 1) m0⟩) := by show _ = _; unfold parseX outsAt; rw [← hat0.1, ← hat0.2, hm0]
  have hn7 : n = at0 + (1 + 7 * m0) := by omega
  have HN7 := Lib.hid hn7
  have HBB := Lib.hid (And.intro hl hB)
  have HBX := Lib.hid hx
  have HCC := Lib.hid (And.intro hnc hcm)
  have hm000 : m0 ≤ 255 := hm255
  have HN63 : Hid (n < 9223372036854775808) := by show _ < _; omega
  have HIN : Hid (∀ u, Below w.heap.size w u → Calls Tryd.prog 33 #[.slice (some ad) n c] u fun e w' => (∃ v, e = .returned (.tuple #[v, .int .i64 (at0 : Int)]) ∧ w'.ownsRow u.heap.size 51 33 v L.length ((L.map inC).flatten)) ∧ Below u.heap.size u w') := fun u hu => by
    have h := rinsX_any (some ad) n c b u hl hn hB (hx.up hu)
    rwa [hins] at h
  have HLF : Hid ((L.map inC).flatten.length = L.length * 33) := by
    have h := insR_ok hB
    rw [hins] at h
    have h2 := (rowsIn h).flat_len
    rwa [List.length_map] at h2
  have E1 : Hid (EnvX w (w.alloc (.cells (txA noTxM) 25)) [(w.heap.size, Obj.cells (txA noTxM) 25 (0, 0))]) := (EnvX.start w).new _
  clear k k2 k3 hat0 hatn hat1 hlk hld hm0 hg0 hpA hdd hz7 hy7 hn7 hins hl hB hx hcm hnc hm255
  go_enter Tryd.func15, Tryd.ntmps15
  go_upto_region 1 with (fail)
  rw [show (#[Value.slice none 0 0, Value.slice none 0 0] : Array Value) = txA noTxM from rfl]
  generalize w.alloc (.cells (txA noTxM) 25) = W at *
  obtain ⟨k, hk⟩ : ∃ k, L.length = k := ⟨_, rfl⟩
  have HKL := Lib.hid hk
  rw [hk] at HIN HLF
  clear hk
  refine wp_region_Hx (w0 := w) [0, 1, 2, 3, 4, 5, 6] [(w.heap.size, Obj.cells (txA noTxM) 25 (0, 0))] rfl E1.out ?_
  refine lexH_phase [0] [1, 2, 3, 4, 5, 6] ?_
  have hw1 : EnvX w _ [(w.heap.size, Obj.cells (txA noTxM) 25 (0, 0))] := E1.out
  have hone := @EnvC.one _ _ _ hw1
  (refine wpG_op rfl rfl rfl ?_; intro K hK; go_big_quiet_op; go_big_quiet_on)
  clear hone hw1
  refine wpG_nil ?_
  refine (hOp_fresh (R := fun x N => ∃ v, x = .tuple #[v, .int .i64 (at0 : Int)] ∧ FreshR 51 33 k ((L.map inC).flatten) v N) (M0 := [(w.heap.size, Obj.cells (txA noTxM) 25 (0, 0))]) rfl rfl (fun _ h => h) (fun u hu => FAt_call (fid := 33) (xs := #[.tmp 13]) (args := #[.slice (some ad) n c]) rfl Tryd.func33 rfl rfl u (callsRT_fresh (HIN.out u (EnvX.bel hu)))) ?_)
  rintro _ N1 ⟨v1, rfl, hF⟩ hf he2; intro K' hK'; go_big_quiet_op; go_big_quiet_on
  obtain ⟨A1, c1, rfl, hc1, hc2⟩ := FreshR.form hF
  have HF1 := Lib.hid hF
  have HC1 := Lib.hid (And.intro hc1 hc2)
  have HN1 := Lib.hid hf
  clear hF hc1 hc2
  clear hf
  change lexH _ _ _ _ _ _ (N1 ++ ((w.heap.size, Obj.cells (txA noTxM) 25 (0, 0)) :: []))
  refine lexH_phase [2, 3, 4, 5, 6] [] ?_
  have hw3 : EnvX w _ (N1 ++ ((w.heap.size, Obj.cells (txA noTxM) 25 (0, 0)) :: [])) := he2.choose_spec
  have hone := @EnvC.one _ _ _ hw3
  (refine wpG_op rfl rfl rfl ?_; intro K hK; go_big_quiet_op; go_big_quiet_on)
  (refine wpG_op rfl rfl rfl ?_; intro K hK; go_big_quiet_op; go_big_quiet_on)
  (refine wpG_op rfl rfl rfl ?_; intro K hK; go_big_quiet_op; go_big_quiet_on)
  (refine wpG_op rfl rfl rfl ?_; intro K hK; go_big_quiet_op; go_big_quiet_on)
  (refine wpG_op rfl rfl rfl ?_; intro K hK; go_big_quiet_op; go_big_quiet_on)
  clear hone hw3
  refine wpG_nil ?_
  intro u5 E2'
  have EX4 := Lib.hid E2'
  clear E2'
  go_upto_region 2 with (fail)
  refine wp_region_Hx (w0 := w) [0, 1, 2, 3, 4, 5, 6, 7, 8, 9, 10, 11, 12, 13, 14, 15, 16, 17, 18, 19, 20, 21] (N1 ++ ((w.heap.size, Obj.cells (txA noTxM) 25 (0, 0)) :: [])) rfl EX4.out ?_
  refine lexH_phase [0, 1, 2, 3, 4, 5, 6, 7, 8, 9, 10, 11, 12, 13, 14, 15, 16, 17, 18, 19, 20, 21] [] ?_
  have hw6 : EnvX w _ (N1 ++ ((w.heap.size, Obj.cells (txA noTxM) 25 (0, 0)) :: [])) := EX4.out
  have hone := @EnvC.one _ _ _ hw6
  (refine wpG_op rfl rfl rfl ?_; intro K hK; go_big_quiet_op; go_big_quiet_on)
  (refine wpG_val (v := .bool false) rfl rfl (fun u hu => eqlI_op u D1.out rfl rfl) ?_ hw6; intro K hK; go_big_quiet_op; go_big_quiet_on)
  (refine wpG_op rfl rfl rfl ?_; intro K hK; go_big_quiet_op; go_big_quiet_on)
  (refine wpG_op rfl rfl rfl ?_; intro K hK; go_big_quiet_op; go_big_quiet_on)
  (refine wpG_op rfl rfl rfl ?_; intro K hK; go_big_quiet_op; go_big_quiet_on)
  (refine wpG_val (v := .int .i64 (n : Int)) rfl rfl (fun u hu => len_op Tryd.underlying26 HN63.out u rfl) ?_ hw6; intro K hK; go_big_quiet_op; go_big_quiet_on)
  (refine wpG_val (v := .bool false) rfl rfl (fun u hu => geZ_op u D6.out rfl rfl) ?_ hw6; intro K hK; go_big_quiet_op; go_big_quiet_on)
  (refine wpG_op rfl rfl rfl ?_; intro K hK; go_big_quiet_op; go_big_quiet_on)
  (refine wpG_op rfl rfl rfl ?_; intro K hK; go_big_quiet_op; go_big_quiet_on)
  (refine wpG_op rfl rfl rfl ?_; intro K hK; go_big_quiet_op; go_big_quiet_on)
  (refine wpG_val (v := .int .i64 (n : Int)) rfl rfl (fun u hu => len_op Tryd.underlying26 HN63.out u rfl) ?_ hw6; intro K hK; go_big_quiet_op; go_big_quiet_on)
  (refine wpG_op rfl rfl rfl ?_; intro K hK; go_big_quiet_op; go_big_quiet_on)
  (refine wpG_val (v := .int .i64 dd) rfl rfl (fun u hu => subZ_op u HDD.out rfl rfl) ?_ hw6; intro K hK; go_big_quiet_op; go_big_quiet_on)
  (refine wpG_op rfl rfl rfl ?_; intro K hK; go_big_quiet_op; go_big_quiet_on)
  (refine wpG_op rfl rfl rfl ?_; intro K hK; go_big_quiet_op; go_big_quiet_on)
  (refine wpG_val (v := .pointer (some pA)) rfl rfl (fun u hu => idxSlE_op (i := at0) Tryd.underlying26 sizeU8c HAT.out HPA.out u rfl rfl) ?_ hw6; intro K hK; go_big_quiet_op; go_big_quiet_on)
  (refine wpG_val (v := .int .u8 (m0 : Int)) rfl rfl (fun u hu => load_any_op u (HLA.out u (EnvX.sub hu (fun _ h => by cases h))) rfl) ?_ hw6; intro K hK; go_big_quiet_op; go_big_quiet_on)
  (refine wpG_val (v := .int .i64 (m0 : Int)) rfl rfl (fun u hu => convU8I_op u HM8.out rfl) ?_ hw6; intro K hK; go_big_quiet_op; go_big_quiet_on)
  (refine wpG_val (v := .int .i64 z7) rfl rfl (fun u hu => mulZ_op u HZ7.out rfl rfl) ?_ hw6; intro K hK; go_big_quiet_op; go_big_quiet_on)
  (refine wpG_val (v := .int .i64 y7) rfl rfl (fun u hu => addZ_op u HY7.out rfl rfl) ?_ hw6; intro K hK; go_big_quiet_op; go_big_quiet_on)
  (refine wpG_val (v := .bool false) rfl rfl (fun u hu => neZ_op u D20.out rfl rfl) ?_ hw6; intro K hK; go_big_quiet_op; go_big_quiet_on)
  (refine wpG_op rfl rfl rfl ?_; intro K hK; go_big_quiet_op; go_big_quiet_on)
  clear hone hw6
  refine wpG_nil ?_
  intro u8 E2'
  have EX7 := Lib.hid E2'
  clear E2'
  go_upto_region 4 with (fail)
  refine wp_region_Hx (w0 := w) [0, 1, 2, 3] (N1 ++ ((w.heap.size, Obj.cells (txA noTxM) 25 (0, 0)) :: [])) rfl EX7.out ?_
  refine lexH_phase [0, 1] [2, 3] ?_
  have hw9 : EnvX w _ (N1 ++ ((w.heap.size, Obj.cells (txA noTxM) 25 (0, 0)) :: [])) := EX7.out
  have hone := @EnvC.one _ _ _ hw9
  (refine wpG_op rfl rfl rfl ?_; intro K hK; go_big_quiet_op; go_big_quiet_on)
  (refine wpG_val (v := .agg #[.slice A1 k c1, .slice none 0 0]) rfl rfl (fun u hu => buildA_op u (built_txins A1 k c1)) ?_ hw9; intro K hK; go_big_quiet_op; go_big_quiet_on)
  clear hone hw9
  refine wpG_nil ?_
  refine (hOp_fresh (R := fun x N => ∃ g, x = .pointer (some ⟨g, 0, none⟩) ∧ N = [(g, Obj.cells (txA noTxM) 25 (0, 0))]) (M0 := (N1 ++ ((w.heap.size, Obj.cells (txA noTxM) 25 (0, 0)) :: []))) rfl rfl (fun _ h => h) (fun u hu => FAt_new (new_tx _) u) ?_)
  rintro _ _ ⟨g6, rfl, rfl⟩ hf he10; intro K' hK'; go_big_quiet_op; go_big_quiet_on
  have HG6 := Lib.hid (hf _ (List.mem_singleton.2 rfl))
  clear hf
  change lexH _ _ _ _ _ _ ((g6, Obj.cells (txA noTxM) 25 (0, 0)) :: (N1 ++ ((w.heap.size, Obj.cells (txA noTxM) 25 (0, 0)) :: [])))
  refine (hOp_store rfl (g6) (txA ⟨⟨L, outsAt b (at0 + 1) 0⟩, A1, k, c1, none, 0, 0⟩) rfl rfl HG6.out.1 25 ((txA noTxM)) (List.Mem.head _) (infoTx _ (txA_size _)) ((txA_size _).trans (txA_size _).symm) (txA_one _) ((g6, Obj.cells (txA ⟨⟨L, outsAt b (at0 + 1) 0⟩, A1, k, c1, none, 0, 0⟩) 25 (0, 0)) :: (N1 ++ ((w.heap.size, Obj.cells (txA noTxM) 25 (0, 0)) :: []))) (List.forall_mem_cons.2 ⟨.inl rfl, fun y hy => .inr ⟨List.mem_cons_of_mem _ hy, HG6.out.2 y hy⟩⟩) ?_)
  intro he11
  intro u13 E2'
  have EX12 := Lib.hid E2'
  clear E2'
  have HINV : Hid (∃ A2 c2 N2, FreshR 49 2 0 ((outsAt b (at0 + 1) 0).map outC).flatten (.slice A2 0 c2) N2 ∧ (∀ y ∈ N2, w.heap.size ≤ y.1 ∧ y.1 ≠ g6 ∧ ∀ z ∈ (N1 ++ ((w.heap.size, Obj.cells (txA noTxM) 25 (0, 0)) :: [])), z.1 ≠ y.1) ∧ EnvX w u13 ((g6, Obj.cells (txA ⟨⟨L, outsAt b (at0 + 1) 0⟩, A1, k, c1, A2, 0, c2⟩) 25 (0, 0)) :: (N2 ++ (N1 ++ ((w.heap.size, Obj.cells (txA noTxM) 25 (0, 0)) :: []))))) := ⟨none, 0, [], .inr ⟨rfl, rfl, rfl, rfl⟩, (fun y hy => by cases hy), EX12.out⟩
  clear EX12 E1
  go_upto_region 6 with (fail)
  go_loopw [7] (fun iv u => ∃ j : Nat, j ≤ m0 ∧ iv = .int .i64 (j : Int) ∧ Hid (∃ A2 c2 N2, FreshR 49 2 j ((outsAt b (at0 + 1) j).map outC).flatten (.slice A2 j c2) N2 ∧ (∀ y ∈ N2, w.heap.size ≤ y.1 ∧ y.1 ≠ g6 ∧ ∀ z ∈ (N1 ++ ((w.heap.size, Obj.cells (txA noTxM) 25 (0, 0)) :: [])), z.1 ≠ y.1) ∧ EnvX w u ((g6, Obj.cells (txA ⟨⟨L, outsAt b (at0 + 1) j⟩, A1, k, c1, A2, j, c2⟩) 25 (0, 0)) :: (N2 ++ (N1 ++ ((w.heap.size, Obj.cells (txA noTxM) 25 (0, 0)) :: [])))))) (fun iv _ => m0 - (intOf iv).toNat)
  case atStart => exact ⟨0, by omega, rfl, HINV⟩
  case round =>
    obtain ⟨j, hj, rfl, hinv⟩ := hrel
    obtain ⟨A2, c2, N2, hF, hN, hE⟩ := hinv.out
    have HF := Lib.hid hF
    have HN := Lib.hid hN
    have EK := Lib.hid hE
    clear hinv HINV hF hN hE
    by_cases hlt : j < m0
    · have C6 : Hid (decide ((j : Int) < (m0 : Int)) = true) := decide_eq_true (by omega)
      have HJ := Lib.hid hlt
      have hrow : at0 + 1 + 7 * j + 7 ≤ n := by have := HN7.out; omega
      have HI7 : Hid (at0 + 7 * j + 7 < n) := by show _ < _; omega
      have HB1 : Hid (IntKind.i64.wrap ((at0 : Int) + 1) = ((at0 + 1 : Nat) : Int)) := by show _ = _; rw [wrapS (by omega)]; omega
      have HB2 : Hid (IntKind.i64.wrap (7 * (j : Int)) = ((7 * j : Nat) : Int)) := by show _ = _; rw [wrapS (by omega)]; omega
      have HB3 : Hid (IntKind.i64.wrap (((at0 + 1 : Nat) : Int) + ((7 * j : Nat) : Int)) = ((at0 + 1 + 7 * j : Nat) : Int)) := by show _ = _; rw [wrapS (by omega)]; omega
      have HB4 : Hid (IntKind.i64.wrap ((at0 : Int) + ((7 * j : Nat) : Int)) = ((at0 + 7 * j : Nat) : Int)) := by show _ = _; rw [wrapS (by omega)]; omega
      have HB5 : Hid (IntKind.i64.wrap (((at0 + 7 * j : Nat) : Int) + 7) = ((at0 + 7 * j + 7 : Nat) : Int)) := by show _ = _; rw [wrapS (by omega)]; omega
      obtain ⟨gv, hgv⟩ : ∃ gv, getL (cutP b (at0 + 1 + 7 * j) 6) = gv := ⟨_, rfl⟩
      have hgl : gv < 281474976710656 := by
        have h := getL_lt _ (cutP_byte HBB.out.2 (at0 + 1 + 7 * j) 6)
        rw [cutP_len (by rw [HBB.out.1]; omega), hgv] at h
        exact h
      have HGL : Hid (gv < 9223372036854775808) := by show _ < _; omega
      have HGT : Hid (∀ u, Below w.heap.size w u → Calls Tryd.prog 34 #[.slice (some ad) n c, .int .i64 ((at0 + 1 + 7 * j : Nat) : Int), .int .i64 6] u fun e w' => e = .returned (.tuple #[.int .u64 (gv : Int), .bool true]) ∧ Below u.heap.size u w') := fun u hu => by
        have h := rget_some (some ad) n c (at0 + 1 + 7 * j) 6 b u HBB.out.1 HCC.out.1 HCC.out.2 HBB.out.2 (HBX.out.up hu) (by omega) (by omega)
        rw [hgv] at h
        exact h.mono fun e w' hh => ⟨hh.1, by rw [← hh.2]; exact Below.refl _ _⟩
      obtain ⟨to, hto⟩ : ∃ to, b.getD (at0 + 7 * j + 7) 0 = to := ⟨_, rfl⟩
      have ht8 : 0 ≤ to ∧ to ≤ 255 := by
        rw [← hto, List.getD_eq_getElem?_getD, List.getElem?_eq_getElem (by rw [HBB.out.1]; omega)]
        exact HBB.out.2 _ (List.getElem_mem _)
      have HT8 := Lib.hid ht8
      have HLT : Hid (∀ u, EnvX w u [] → (loadVar 5 (ad.add ((at0 + 7 * j + 7) * 1))).run Tryd.prog u = .ok (.int .u8 to) u) := fun u hu => by
        have h := HLD.out u hu (at0 + 7 * j + 7) HI7.out
        rwa [hto] at h
      have HST : Hid (outsAt b (at0 + 1) (j + 1) = outsAt b (at0 + 1) j ++ [⟨(gv : Int), to⟩]) := by
        show _ = _
        have e : outOf ((b.drop (at0 + 1 + 7 * j)).take 7) = ⟨(gv : Int), to⟩ := by
          unfold outOf
          rw [List.take_take, show min 6 7 = 6 by decide, List.getD_eq_getElem?_getD, List.getElem?_take_of_lt (by decide), List.getElem?_drop, ← List.getD_eq_getElem?_getD, show at0 + 1 + 7 * j + 6 = at0 + 7 * j + 7 by omega, hto]
          unfold cutP at hgv
          rw [hgv]
        rw [outsAt_step, e]
      have HSF : Hid (((outsAt b (at0 + 1) (j + 1)).map outC).flatten = ((outsAt b (at0 + 1) j).map outC).flatten ++ outC ⟨(gv : Int), to⟩) := by
        show _ = _
        rw [HST.out, List.map_append, List.flatten_append, List.map_singleton, List.flatten_singleton]
      have HSL : Hid (((outsAt b (at0 + 1) j).map outC).flatten.length = j * 2) := by show _ = _; rw [outs_flat, outsAt_len]
      obtain ⟨O, hO⟩ : ∃ O, outsAt b (at0 + 1) j = O := ⟨_, rfl⟩
      obtain ⟨O1, hO1⟩ : ∃ O1, outsAt b (at0 + 1) (j + 1) = O1 := ⟨_, rfl⟩
      have HO1 := Lib.hid hO1
      rw [hO] at EK HF HSF HSL
      rw [hO1] at HSF
      clear hrow hlt hgv hgl hto ht8 hO hO1 HST
      generalize (O.map outC).flatten = xs at *
      go_upto_region 6 with (fail)
      refine wp_region_Hx (w0 := w) [0, 1, 2, 3, 4, 5, 6] ((g6, Obj.cells (txA ⟨⟨L, O⟩, A1, k, c1, A2, j, c2⟩) 25 (0, 0)) :: (N2 ++ (N1 ++ ((w.heap.size, Obj.cells (txA noTxM) 25 (0, 0)) :: [])))) rfl EK.out ?_
      refine lexH_phase [0, 1, 2, 3, 4, 5, 6] [] ?_
      have hw61 : EnvX w _ ((g6, Obj.cells (txA ⟨⟨L, O⟩, A1, k, c1, A2, j, c2⟩) 25 (0, 0)) :: (N2 ++ (N1 ++ ((w.heap.size, Obj.cells (txA noTxM) 25 (0, 0)) :: [])))) := EK.out
      have hone := @EnvC.one _ _ _ hw61
      (refine wpG_op rfl rfl rfl ?_; intro K hK; go_big_quiet_op; go_big_quiet_on)
      (refine wpG_op rfl rfl rfl ?_; intro K hK; go_big_quiet_op; go_big_quiet_on)
      (refine wpG_op rfl rfl rfl ?_; intro K hK; go_big_quiet_op; go_big_quiet_on)
      (refine wpG_val (v := .pointer (some pA)) rfl rfl (fun u hu => idxSlE_op (i := at0) Tryd.underlying26 sizeU8c HAT.out HPA.out u rfl rfl) ?_ hw61; intro K hK; go_big_quiet_op; go_big_quiet_on)
      (refine wpG_val (v := .int .u8 (m0 : Int)) rfl rfl (fun u hu => load_any_op u (HLA.out u (EnvX.sub hu (fun _ h => by cases h))) rfl) ?_ hw61; intro K hK; go_big_quiet_op; go_big_quiet_on)
      (refine wpG_val (v := .int .i64 (m0 : Int)) rfl rfl (fun u hu => convU8I_op u HM8.out rfl) ?_ hw61; intro K hK; go_big_quiet_op; go_big_quiet_on)
      (refine wpG_val (v := .bool true) rfl rfl (fun u hu => ltZ_op u C6.out rfl rfl) ?_ hw61; intro K hK; go_big_quiet_op; go_big_quiet_on)
      clear hone hw61
      refine wpG_nil ?_
      intro u63 E2'
      have EX62 := Lib.hid E2'
      clear E2'
      go_upto_region 8 with (fail)
      refine wp_region_Hx (w0 := w) [0, 1, 2, 3, 4, 5, 6, 7, 8, 9, 10, 11] ((g6, Obj.cells (txA ⟨⟨L, O⟩, A1, k, c1, A2, j, c2⟩) 25 (0, 0)) :: (N2 ++ (N1 ++ ((w.heap.size, Obj.cells (txA noTxM) 25 (0, 0)) :: [])))) rfl EX62.out ?_
      refine lexH_phase [0, 1, 2, 3, 4, 5, 6, 7, 8, 9, 10, 11] [] ?_
      have hw64 : EnvX w _ ((g6, Obj.cells (txA ⟨⟨L, O⟩, A1, k, c1, A2, j, c2⟩) 25 (0, 0)) :: (N2 ++ (N1 ++ ((w.heap.size, Obj.cells (txA noTxM) 25 (0, 0)) :: [])))) := EX62.out
      have hone := @EnvC.one _ _ _ hw64
      (refine wpG_op rfl rfl rfl ?_; intro K hK; go_big_quiet_op; go_big_quiet_on)
      (refine wpG_op rfl rfl rfl ?_; intro K hK; go_big_quiet_op; go_big_quiet_on)
      (refine wpG_val (v := .int .i64 ((at0 + 1 : Nat) : Int)) rfl rfl (fun u hu => addZ_op u HB1.out rfl rfl) ?_ hw64; intro K hK; go_big_quiet_op; go_big_quiet_on)
      (refine wpG_op rfl rfl rfl ?_; intro K hK; go_big_quiet_op; go_big_quiet_on)
      (refine wpG_val (v := .int .i64 ((7 * j : Nat) : Int)) rfl rfl (fun u hu => mulZ_op u HB2.out rfl rfl) ?_ hw64; intro K hK; go_big_quiet_op; go_big_quiet_on)
      (refine wpG_val (v := .int .i64 ((at0 + 1 + 7 * j : Nat) : Int)) rfl rfl (fun u hu => addZ_op u HB3.out rfl rfl) ?_ hw64; intro K hK; go_big_quiet_op; go_big_quiet_on)
      (refine wpG_call (f := 34) (args := #[.slice (some ad) n c, .int .i64 ((at0 + 1 + 7 * j : Nat) : Int), .int .i64 6]) (v := .tuple #[.int .u64 (gv : Int), .bool true]) rfl rfl rfl Tryd.func34 rfl rfl (fun u hu => HGT.out u (EnvX.bel hu)) ?_ hw64; intro K hK; go_big_quiet_op; go_big_quiet_on)
      (refine wpG_op rfl rfl rfl ?_; intro K hK; go_big_quiet_op; go_big_quiet_on)
      (refine wpG_op rfl rfl rfl ?_; intro K hK; go_big_quiet_op; go_big_quiet_on)
      (refine wpG_op rfl rfl rfl ?_; intro K hK; go_big_quiet_op; go_big_quiet_on)
      (refine wpG_op rfl rfl rfl ?_; intro K hK; go_big_quiet_op; go_big_quiet_on)
      (refine wpG_op rfl rfl rfl ?_; intro K hK; go_big_quiet_op; go_big_quiet_on)
      clear hone hw64
      refine wpG_nil ?_
      intro u66 E2'
      have EX65 := Lib.hid E2'
      clear E2'
      go_upto_region 9 with (fail)
      refine wp_region_H (w0 := w) ((g6, Obj.cells (txA ⟨⟨L, O⟩, A1, k, c1, A2, j, c2⟩) 25 (0, 0)) :: (N2 ++ (N1 ++ ((w.heap.size, Obj.cells (txA noTxM) 25 (0, 0)) :: [])))) (by kernel_rfl) EX65.out ?_
      refine anyH_phase [0, 1, 2, 3, 4, 5, 6, 7, 8, 9, 10, 11, 12, 13] 4 rfl ⟨_, (EnvX.drew EX65.out)⟩ (by kernel_rfl) ?_
      have hw67 : EnvX w _ ((g6, Obj.cells (txA ⟨⟨L, O⟩, A1, k, c1, A2, j, c2⟩) 25 (0, 0)) :: (N2 ++ (N1 ++ ((w.heap.size, Obj.cells (txA noTxM) 25 (0, 0)) :: [])))) := (EnvX.drew EX65.out)
      have hone := @EnvC.one _ _ _ hw67
      (refine wpG_val (v := .pointer (some ⟨g6, 1, none⟩)) rfl rfl (fun u hu => fieldTx_op (k := 1) (off := 1) (ad := ⟨g6, 0, none⟩) rfl u rfl) ?_ hw67; intro K hK; go_big_quiet_op; go_big_quiet_on)
      (refine wpG_val (v := .slice A2 j c2) rfl rfl (fun u hu => load_any_op u (box_tx_outs hu (List.Mem.head _)) rfl) ?_ hw67; intro K hK; go_big_quiet_op; go_big_quiet_on)
      (refine wpG_op rfl rfl rfl ?_; intro K hK; go_big_quiet_op; go_big_quiet_on)
      (refine wpG_val (v := .int .i64 (gv : Int)) rfl rfl (fun u hu => convUIc_op u HGL.out rfl) ?_ hw67; intro K hK; go_big_quiet_op; go_big_quiet_on)
      (refine wpG_op rfl rfl rfl ?_; intro K hK; go_big_quiet_op; go_big_quiet_on)
      (refine wpG_op rfl rfl rfl ?_; intro K hK; go_big_quiet_op; go_big_quiet_on)
      (refine wpG_op rfl rfl rfl ?_; intro K hK; go_big_quiet_op; go_big_quiet_on)
      (refine wpG_val (v := .int .i64 ((7 * j : Nat) : Int)) rfl rfl (fun u hu => mulZ_op u HB2.out rfl rfl) ?_ hw67; intro K hK; go_big_quiet_op; go_big_quiet_on)
      (refine wpG_val (v := .int .i64 ((at0 + 7 * j : Nat) : Int)) rfl rfl (fun u hu => addZ_op u HB4.out rfl rfl) ?_ hw67; intro K hK; go_big_quiet_op; go_big_quiet_on)
      (refine wpG_val (v := .int .i64 ((at0 + 7 * j + 7 : Nat) : Int)) rfl rfl (fun u hu => addZ_op u HB5.out rfl rfl) ?_ hw67; intro K hK; go_big_quiet_op; go_big_quiet_on)
      (refine wpG_val (v := .pointer (some (ad.add ((at0 + 7 * j + 7) * 1)))) rfl rfl (fun u hu => idxSl_op (i := at0 + 7 * j + 7) Tryd.underlying26 sizeU8c HI7.out u rfl rfl) ?_ hw67; intro K hK; go_big_quiet_op; go_big_quiet_on)
      (refine wpG_val (v := .int .u8 to) rfl rfl (fun u hu => load_any_op u (HLT.out u (EnvX.sub hu (fun _ h => by cases h))) rfl) ?_ hw67; intro K hK; go_big_quiet_op; go_big_quiet_on)
      (refine wpG_val (v := .int .i64 to) rfl rfl (fun u hu => convU8I_op u HT8.out rfl) ?_ hw67; intro K hK; go_big_quiet_op; go_big_quiet_on)
      (refine wpG_val (v := .agg (outC ⟨(gv : Int), to⟩).toArray) rfl rfl (fun u hu => buildA_op u built_out) ?_ hw67; intro K hK; go_big_quiet_op; go_big_quiet_on)
      clear hone hw67
      refine wpG_nil ?_
      refine anyH_one (i := 14) (by kernel_rfl) (hOp_fresh (R := BuiltR 49 (outC ⟨(gv : Int), to⟩)) (M0 := ((g6, Obj.cells (txA ⟨⟨L, O⟩, A1, k, c1, A2, j, c2⟩) 25 (0, 0)) :: (N2 ++ (N1 ++ ((w.heap.size, Obj.cells (txA noTxM) 25 (0, 0)) :: []))))) rfl rfl (fun _ h => h) (fun u hu => FAt_buildR elOut rfl (outC_one _) rfl u) ?_)
      rintro _ _ ⟨gq, rfl, rfl⟩ hf he68; intro K' hK'; go_big_quiet_op; go_big_quiet_on
      clear hf
      change anyH _ _ _ _ _ _ _ _ ((gq, Obj.cells (outC ⟨(gv : Int), to⟩).toArray 49 (0, 0)) :: ((g6, Obj.cells (txA ⟨⟨L, O⟩, A1, k, c1, A2, j, c2⟩) 25 (0, 0)) :: (N2 ++ (N1 ++ ((w.heap.size, Obj.cells (txA noTxM) 25 (0, 0)) :: [])))))
      refine anyH_one (i := 15) (by kernel_rfl) (hOp_own (gd := none) (R := GrownR w 49 2 (j + 1) (xs ++ outC ⟨(gv : Int), to⟩) ((g6, Obj.cells (txA ⟨⟨L, O⟩, A1, k, c1, A2, j, c2⟩) 25 (0, 0)) :: (N1 ++ ((w.heap.size, Obj.cells (txA noTxM) 25 (0, 0)) :: [])))) rfl rfl rfl rfl (fun u hu => appR_op elOut (m := 1) (c := 1) ((g6, Obj.cells (txA ⟨⟨L, O⟩, A1, k, c1, A2, j, c2⟩) 25 (0, 0)) :: (N1 ++ ((w.heap.size, Obj.cells (txA noTxM) 25 (0, 0)) :: []))) hu HSL.out rfl (outC_one _) HF.out (fun y hy => ⟨List.mem_cons_of_mem _ (List.mem_cons_of_mem _ (List.mem_append_left _ hy)), (HN.out y hy).1⟩) (List.Mem.head _) (List.forall_mem_cons.2 ⟨⟨List.mem_cons_of_mem _ (List.Mem.head _), fun y hy e => (HN.out y hy).2.1 e.symm⟩, fun z hz => ⟨List.mem_cons_of_mem _ (List.mem_cons_of_mem _ (List.mem_append_right _ hz)), fun y hy => (HN.out y hy).2.2 z hz⟩⟩) (by have := HJ.out; omega) rfl rfl) ?_)
      rintro x9 M' ⟨N9, rfl, hF9, hn9⟩ he69; intro K' hK'; go_big_quiet_op; go_big_quiet_on
      obtain ⟨A3, c3, rfl, hc3, hc4⟩ := FreshR.form hF9
      have HF9 := Lib.hid hF9
      have HN9 := Lib.hid hn9
      clear hF9 hn9 hc3 hc4
      change anyH _ _ _ _ _ _ _ _ (N9 ++ ((g6, Obj.cells (txA ⟨⟨L, O⟩, A1, k, c1, A2, j, c2⟩) 25 (0, 0)) :: (N1 ++ ((w.heap.size, Obj.cells (txA noTxM) 25 (0, 0)) :: []))))
      refine anyH_phase [16] 1 rfl ⟨_, he69.choose_spec⟩ (by kernel_rfl) ?_
      have hw70 : EnvX w _ (N9 ++ ((g6, Obj.cells (txA ⟨⟨L, O⟩, A1, k, c1, A2, j, c2⟩) 25 (0, 0)) :: (N1 ++ ((w.heap.size, Obj.cells (txA noTxM) 25 (0, 0)) :: [])))) := he69.choose_spec
      have hone := @EnvC.one _ _ _ hw70
      (refine wpG_val (v := .pointer (some ⟨g6, 1, none⟩)) rfl rfl (fun u hu => fieldTx_op (k := 1) (off := 1) (ad := ⟨g6, 0, none⟩) rfl u rfl) ?_ hw70; intro K hK; go_big_quiet_op; go_big_quiet_on)
      clear hone hw70
      refine wpG_nil ?_
      refine anyH_one (i := 17) (by kernel_rfl) (hOp_putAt rfl (g6) (1) (.slice A3 (j + 1) c3) rfl rfl HG6.out.1 25 ((txA ⟨⟨L, O⟩, A1, k, c1, A2, j, c2⟩)) (txA ⟨⟨L, O1⟩, A1, k, c1, A3, j + 1, c3⟩) (List.mem_append_right _ (List.Mem.head _)) infoOuts (Nat.le_refl 2) (by simp [Value.cells]; rfl) rfl ((g6, Obj.cells (txA ⟨⟨L, O1⟩, A1, k, c1, A3, j + 1, c3⟩) 25 (0, 0)) :: (N9 ++ (N1 ++ ((w.heap.size, Obj.cells (txA noTxM) 25 (0, 0)) :: [])))) (List.forall_mem_cons.2 ⟨.inl rfl, fun y hy => .inr ((List.mem_append.1 hy).elim (fun h => ⟨List.mem_append_left _ h, fun e => (HN9.out y h).2 _ (List.Mem.head _) e.symm⟩) (fun h => ⟨List.mem_append_right _ (List.mem_cons_of_mem _ h), HG6.out.2 y h⟩))⟩) ?_)
      intro he71
      refine anyH_done (by kernel_rfl) ?_
      intro u73 E2'
      have EX72 := Lib.hid E2'
      clear E2'
      have HNX : Hid (∃ A2 c2 N2, FreshR 49 2 (j + 1) ((outsAt b (at0 + 1) (j + 1)).map outC).flatten (.slice A2 (j + 1) c2) N2 ∧ (∀ y ∈ N2, w.heap.size ≤ y.1 ∧ y.1 ≠ g6 ∧ ∀ z ∈ (N1 ++ ((w.heap.size, Obj.cells (txA noTxM) 25 (0, 0)) :: [])), z.1 ≠ y.1) ∧ EnvX w u73 ((g6, Obj.cells (txA ⟨⟨L, outsAt b (at0 + 1) (j + 1)⟩, A1, k, c1, A2, (j + 1), c2⟩) 25 (0, 0)) :: (N2 ++ (N1 ++ ((w.heap.size, Obj.cells (txA noTxM) 25 (0, 0)) :: []))))) := ⟨A3, c3, N9, by rw [HO1.out, HSF.out]; exact HF9.out, fun y hy => ⟨(HN9.out y hy).1, fun e => (HN9.out y hy).2 _ (List.Mem.head _) e.symm, fun z hz => (HN9.out y hy).2 z (List.mem_cons_of_mem _ hz)⟩, by rw [HO1.out]; exact EX72.out⟩
      have hjm := HJ.out
      go_wp2
      go_roundw
      case rel => exact ⟨j + 1, by omega, by go_num, HNX⟩
      case measure => simp [intOf]; omega
    · obtain rfl : j = m0 := by omega
      have C6 : Hid (decide ((j : Int) < (j : Int)) = false) := decide_eq_false (by omega)
      have HSL : Hid (((outsAt b (at0 + 1) j).map outC).flatten.length = j * 2) := by show _ = _; rw [outs_flat, outsAt_len]
      have HOL : Hid ((outsAt b (at0 + 1) j).length = j) := outsAt_len _ _ _
      obtain ⟨O, hO⟩ : ∃ O, outsAt b (at0 + 1) j = O := ⟨_, rfl⟩
      rw [hO] at EK HF HSL HOL HPX
      clear hO
      go_upto_region 6 with (fail)
      refine wp_region_Hx (w0 := w) [0, 1, 2, 3, 4, 5, 6] ((g6, Obj.cells (txA ⟨⟨L, O⟩, A1, k, c1, A2, j, c2⟩) 25 (0, 0)) :: (N2 ++ (N1 ++ ((w.heap.size, Obj.cells (txA noTxM) 25 (0, 0)) :: [])))) rfl EK.out ?_
      refine lexH_phase [0, 1, 2, 3, 4, 5, 6] [] ?_
      have hw161 : EnvX w _ ((g6, Obj.cells (txA ⟨⟨L, O⟩, A1, k, c1, A2, j, c2⟩) 25 (0, 0)) :: (N2 ++ (N1 ++ ((w.heap.size, Obj.cells (txA noTxM) 25 (0, 0)) :: [])))) := EK.out
      have hone := @EnvC.one _ _ _ hw161
      (refine wpG_op rfl rfl rfl ?_; intro K hK; go_big_quiet_op; go_big_quiet_on)
      (refine wpG_op rfl rfl rfl ?_; intro K hK; go_big_quiet_op; go_big_quiet_on)
      (refine wpG_op rfl rfl rfl ?_; intro K hK; go_big_quiet_op; go_big_quiet_on)
      (refine wpG_val (v := .pointer (some pA)) rfl rfl (fun u hu => idxSlE_op (i := at0) Tryd.underlying26 sizeU8c HAT.out HPA.out u rfl rfl) ?_ hw161; intro K hK; go_big_quiet_op; go_big_quiet_on)
      (refine wpG_val (v := .int .u8 (j : Int)) rfl rfl (fun u hu => load_any_op u (HLA.out u (EnvX.sub hu (fun _ h => by cases h))) rfl) ?_ hw161; intro K hK; go_big_quiet_op; go_big_quiet_on)
      (refine wpG_val (v := .int .i64 (j : Int)) rfl rfl (fun u hu => convU8I_op u HM8.out rfl) ?_ hw161; intro K hK; go_big_quiet_op; go_big_quiet_on)
      (refine wpG_val (v := .bool false) rfl rfl (fun u hu => ltZ_op u C6.out rfl rfl) ?_ hw161; intro K hK; go_big_quiet_op; go_big_quiet_on)
      clear hone hw161
      refine wpG_nil ?_
      intro u163 E2'
      have EX162 := Lib.hid E2'
      clear E2'
      have HTX : Hid (∀ u, EnvX w u ((g6, Obj.cells (txA ⟨⟨L, O⟩, A1, k, c1, A2, j, c2⟩) 25 (0, 0)) :: (N2 ++ (N1 ++ ((w.heap.size, Obj.cells (txA noTxM) 25 (0, 0)) :: [])))) → TxOk u ⟨⟨L, O⟩, A1, k, c1, A2, j, c2⟩) := fun u hu => by
        have hok := HBP.out.1
        rw [HPX.out] at hok
        exact ⟨HKL.out, HC1.out, hok.1, HF1.out.cells HLF.out hu (fun y hy => List.mem_cons_of_mem _ (List.mem_append_right _ (List.mem_append_left _ hy))), HOL.out, (by
          obtain ⟨A4, c4, e, h1, h2⟩ := HF.out.form
          cases e
          exact ⟨h1, h2⟩), hok.2, HF.out.cells HSL.out hu (fun y hy => List.mem_cons_of_mem _ (List.mem_append_left _ hy))⟩
      have HLX : Hid ((loadVar 25 ⟨g6, 0, none⟩).run Tryd.prog u163 = .ok (.agg (txA ⟨⟨L, O⟩, A1, k, c1, A2, j, c2⟩)) u163) := box_tx EX162.out (List.Mem.head _)
      obtain ⟨mp, hmp⟩ : ∃ mp, mayX (parseX b) = mp := ⟨_, rfl⟩
      have HPT : Hid (Calls Tryd.prog 13 #[.agg (txA ⟨⟨L, O⟩, A1, k, c1, A2, j, c2⟩)] u163 fun e w' => (∃ v, e = .returned (.tuple #[v, .bool mp]) ∧ OwnB w' u163.heap.size v (putX (parseX b)).1) ∧ Below u163.heap.size u163 w') := by
        have h := rputX_any ⟨⟨L, O⟩, A1, k, c1, A2, j, c2⟩ u163 (HTX.out _ EX162.out)
        have e : (putX (⟨L, O⟩ : TxR)).2 = mp := by
          rw [← HPX.out]
          unfold putX
          rw [hmp]
          cases mp <;> rfl
        rw [HPX.out]
        rw [← e]
        exact h
      have HMP := Lib.hid hmp
      clear hmp
      go_upto_region 10 with (fail)
      go_wp2_with ((with_reducible refine wpList_load_run (o := ⟨some 79, _, _, _, _, _⟩) ?_ 25 (.tmp 6) ?_ ⟨g6, 0, none⟩ ?_ HLX.out ?_); (rfl); (rfl); (rfl))
      refine HPT.out.mono ?_
      rintro e w1 ⟨⟨v10, rfl, hv⟩, hb⟩
      obtain ⟨A5, c5, rfl⟩ := hv.form
      have HB5 := Lib.hid hv.bytes.2
      have HBW := Lib.hid (EnvX.below EX162.out hb).bel
      have EW : Hid (EnvX w1 w1 ((g6, Obj.cells (txA ⟨⟨L, O⟩, A1, k, c1, A2, j, c2⟩) 25 (0, 0)) :: (N2 ++ (N1 ++ ((w.heap.size, Obj.cells (txA noTxM) 25 (0, 0)) :: []))))) := ⟨Below.refl _ _, (EnvX.below EX162.out hb).box⟩
      clear hv hb HLX HPT EX162 EK
      cases mp with
      | false =>
        have HRD : Hid (readX b = (noTx, false)) := by show _ = _; rw [HRX.out, HMP.out]; rfl
        clear HB5
        go_upto_region 11 with (fail)
        refine wp_region_Hx (w0 := w1) [0, 1, 2, 3, 4, 5, 6, 7, 8] ((g6, Obj.cells (txA ⟨⟨L, O⟩, A1, k, c1, A2, j, c2⟩) 25 (0, 0)) :: (N2 ++ (N1 ++ ((w.heap.size, Obj.cells (txA noTxM) 25 (0, 0)) :: [])))) rfl EW.out ?_
        refine lexH_phase [0, 1, 2, 3, 4, 5, 6, 7, 8] [] ?_
        have hw181 : EnvX w1 _ ((g6, Obj.cells (txA ⟨⟨L, O⟩, A1, k, c1, A2, j, c2⟩) 25 (0, 0)) :: (N2 ++ (N1 ++ ((w.heap.size, Obj.cells (txA noTxM) 25 (0, 0)) :: [])))) := EW.out
        have hone := @EnvC.one _ _ _ hw181
        (refine wpG_op rfl rfl rfl ?_; intro K hK; go_big_quiet_op; go_big_quiet_on)
        (refine wpG_op rfl rfl rfl ?_; intro K hK; go_big_quiet_op; go_big_quiet_on)
        (refine wpG_op rfl rfl rfl ?_; intro K hK; go_big_quiet_op; go_big_quiet_on)
        (refine wpG_skip rfl rfl ?_ hw181; intro K hK; go_big_quiet_op; go_big_quiet_on)
        (refine wpG_skip rfl rfl ?_ hw181; intro K hK; go_big_quiet_op; go_big_quiet_on)
        (refine wpG_skip rfl rfl ?_ hw181; intro K hK; go_big_quiet_op; go_big_quiet_on)
        (refine wpG_skip rfl rfl ?_ hw181; intro K hK; go_big_quiet_op; go_big_quiet_on)
        (refine wpG_skip rfl rfl ?_ hw181; intro K hK; go_big_quiet_op; go_big_quiet_on)
        (refine wpG_op rfl rfl rfl ?_; intro K hK; go_big_quiet_op; go_big_quiet_on)
        clear hone hw181
        refine wpG_nil ?_
        intro u183 E2'
        have EX182 := Lib.hid E2'
        clear E2'
        have EV : Hid (EnvX w u183 ((g6, Obj.cells (txA ⟨⟨L, O⟩, A1, k, c1, A2, j, c2⟩) 25 (0, 0)) :: (N2 ++ (N1 ++ ((w.heap.size, Obj.cells (txA noTxM) 25 (0, 0)) :: []))))) := ⟨HBW.out.trans ((EnvX.bel EX182.out).mono HBW.out.size), EX182.out.box⟩
        go_upto_region 12 with (fail)
        refine wp_region_Hx (w0 := w) [0, 1, 2] ((g6, Obj.cells (txA ⟨⟨L, O⟩, A1, k, c1, A2, j, c2⟩) 25 (0, 0)) :: (N2 ++ (N1 ++ ((w.heap.size, Obj.cells (txA noTxM) 25 (0, 0)) :: [])))) rfl EV.out ?_
        refine lexH_phase [0] [1, 2] ?_
        have hw184 : EnvX w _ ((g6, Obj.cells (txA ⟨⟨L, O⟩, A1, k, c1, A2, j, c2⟩) 25 (0, 0)) :: (N2 ++ (N1 ++ ((w.heap.size, Obj.cells (txA noTxM) 25 (0, 0)) :: [])))) := EV.out
        have hone := @EnvC.one _ _ _ hw184
        (refine wpG_val (v := .agg (txA noTxM)) rfl rfl (fun u hu => buildA_op u built_notx) ?_ hw184; intro K hK; go_big_quiet_op; go_big_quiet_on)
        clear hone hw184
        refine wpG_nil ?_
        refine (hOp_store rfl (w.heap.size) (txA noTxM) rfl rfl (Nat.le_refl _) 25 ((txA noTxM)) (List.Mem.tail _ (List.mem_append_right _ (List.mem_append_right _ (List.Mem.head _)))) (infoTx _ (txA_size _)) ((txA_size _).trans (txA_size _).symm) (txA_one _) [(w.heap.size, Obj.cells (txA noTxM) 25 (0, 0))] (List.forall_mem_cons.2 ⟨.inl rfl, (fun _ h => by cases h)⟩) ?_)
        intro he185
        refine lexH_phase [2] [] ?_
        have hw186 : EnvX w _ [(w.heap.size, Obj.cells (txA noTxM) 25 (0, 0))] := he185.choose_spec
        have hone := @EnvC.one _ _ _ hw186
        (refine wpG_op rfl rfl rfl ?_; intro K hK; go_big_quiet_op; go_big_quiet_on)
        clear hone hw186
        refine wpG_nil ?_
        intro u188 E2'
        have EX187 := Lib.hid E2'
        clear E2'
        have Q0 := Lib.hid (EnvX.box EX187.out _ _ (List.Mem.head _))
        have HBEL := Lib.hid EX187.out.bel
        go_wp2_with ((with_reducible refine bodyPost_ret (v := .tuple #[.agg (txA noTxM), .bool false]) ?_ ?_ ?_); (exact results_row_slot (p := 2) (q := 3) (ty := 25) Tryd.results15 _ _ (w.heap.size) 25 (txA noTxM) (0, 0) _ rfl _ rfl Q0.out Tryd.underlying25 rfl (infoTx _ (txA_size _))); (rfl))
        rw [HRD.out]
        exact ⟨⟨noTxM, rfl, rfl, TxOk.no _⟩, HBEL.out⟩
      | true =>
        have HRD : Hid (readX b = (⟨L, O⟩, true)) := by show _ = _; rw [HRX.out, HMP.out, HPX.out]; rfl
        have hbd : (putX (parseX b)).1 = b := by
          unfold putX
          rw [HMP.out]
          exact HBP.out.2
        rw [hbd] at HB5
        obtain ⟨s0, hs0⟩ : ∃ s, strOfNums b = s := ⟨_, rfl⟩
        have HS0 := Lib.hid hs0
        have HES : Hid ((!(s0.toList == s0.toList)) = false) := by show _ = _; rw [beq_self_eq_true]; rfl
        rw [hbd, HBB.out.1]
        clear hs0 hbd
        go_upto_region 11 with (fail)
        refine wp_region_Hx (w0 := w1) [0, 1, 2, 3, 4, 5, 6, 7, 8] ((g6, Obj.cells (txA ⟨⟨L, O⟩, A1, k, c1, A2, j, c2⟩) 25 (0, 0)) :: (N2 ++ (N1 ++ ((w.heap.size, Obj.cells (txA noTxM) 25 (0, 0)) :: [])))) rfl EW.out ?_
        refine lexH_phase [0, 1, 2, 3, 4, 5, 6, 7, 8] [] ?_
        have hw181 : EnvX w1 _ ((g6, Obj.cells (txA ⟨⟨L, O⟩, A1, k, c1, A2, j, c2⟩) 25 (0, 0)) :: (N2 ++ (N1 ++ ((w.heap.size, Obj.cells (txA noTxM) 25 (0, 0)) :: [])))) := EW.out
        have hone := @EnvC.one _ _ _ hw181
        (refine wpG_op rfl rfl rfl ?_; intro K hK; go_big_quiet_op; go_big_quiet_on)
        (refine wpG_op rfl rfl rfl ?_; intro K hK; go_big_quiet_op; go_big_quiet_on)
        (refine wpG_op rfl rfl rfl ?_; intro K hK; go_big_quiet_op; go_big_quiet_on)
        (refine wpG_op rfl rfl rfl ?_; intro K hK; go_big_quiet_op; go_big_quiet_on)
        (refine wpG_val (v := .string s0) rfl rfl (fun u hu => conv_op u HBB.out.1 (HB5.out.up (EnvX.bel hu)) HS0.out rfl) ?_ hw181; intro K hK; go_big_quiet_op; go_big_quiet_on)
        (refine wpG_op rfl rfl rfl ?_; intro K hK; go_big_quiet_op; go_big_quiet_on)
        (refine wpG_val (v := .string s0) rfl rfl (fun u hu => conv_op u HBB.out.1 (HBX.out.up (HBW.out.trans ((EnvX.bel hu).mono HBW.out.size))) HS0.out rfl) ?_ hw181; intro K hK; go_big_quiet_op; go_big_quiet_on)
        (refine wpG_val (v := .bool false) rfl rfl (fun u hu => nes_op u HES.out rfl rfl) ?_ hw181; intro K hK; go_big_quiet_op; go_big_quiet_on)
        (refine wpG_op rfl rfl rfl ?_; intro K hK; go_big_quiet_op; go_big_quiet_on)
        clear hone hw181
        refine wpG_nil ?_
        intro u183 E2'
        have EX182 := Lib.hid E2'
        clear E2'
        have EV : Hid (EnvX w u183 ((g6, Obj.cells (txA ⟨⟨L, O⟩, A1, k, c1, A2, j, c2⟩) 25 (0, 0)) :: (N2 ++ (N1 ++ ((w.heap.size, Obj.cells (txA noTxM) 25 (0, 0)) :: []))))) := ⟨HBW.out.trans ((EnvX.bel EX182.out).mono HBW.out.size), EX182.out.box⟩
        go_upto_region 13 with (fail)
        refine wp_region_Hx (w0 := w) [0, 1, 2] ((g6, Obj.cells (txA ⟨⟨L, O⟩, A1, k, c1, A2, j, c2⟩) 25 (0, 0)) :: (N2 ++ (N1 ++ ((w.heap.size, Obj.cells (txA noTxM) 25 (0, 0)) :: [])))) rfl EV.out ?_
        refine lexH_phase [0] [1, 2] ?_
        have hw184 : EnvX w _ ((g6, Obj.cells (txA ⟨⟨L, O⟩, A1, k, c1, A2, j, c2⟩) 25 (0, 0)) :: (N2 ++ (N1 ++ ((w.heap.size, Obj.cells (txA noTxM) 25 (0, 0)) :: [])))) := EV.out
        have hone := @EnvC.one _ _ _ hw184
        (refine wpG_val (v := .agg (txA ⟨⟨L, O⟩, A1, k, c1, A2, j, c2⟩)) rfl rfl (fun u hu => load_any_op u (box_tx hu (List.Mem.head _)) rfl) ?_ hw184; intro K hK; go_big_quiet_op; go_big_quiet_on)
        clear hone hw184
        refine wpG_nil ?_
        refine (hOp_store rfl (w.heap.size) (txA ⟨⟨L, O⟩, A1, k, c1, A2, j, c2⟩) rfl rfl (Nat.le_refl _) 25 ((txA noTxM)) (List.Mem.tail _ (List.mem_append_right _ (List.mem_append_right _ (List.Mem.head _)))) (infoTx _ (txA_size _)) ((txA_size _).trans (txA_size _).symm) (txA_one _) ((w.heap.size, Obj.cells (txA ⟨⟨L, O⟩, A1, k, c1, A2, j, c2⟩) 25 (0, 0)) :: ((g6, Obj.cells (txA ⟨⟨L, O⟩, A1, k, c1, A2, j, c2⟩) 25 (0, 0)) :: (N2 ++ (N1 ++ [])))) (List.forall_mem_cons.2 ⟨.inl rfl, List.forall_mem_cons.2 ⟨.inr ⟨List.Mem.head _, fun e => HG6.out.2 _ (List.mem_append_right _ (List.Mem.head _)) e.symm⟩, fun y hy => (List.mem_append.1 hy).elim (fun h => .inr ⟨List.mem_cons_of_mem _ (List.mem_append_left _ h), fun e => (HN.out y h).2.2 _ (List.mem_append_right _ (List.Mem.head _)) e.symm⟩) (fun h => (List.mem_append.1 h).elim (fun h => .inr ⟨List.mem_cons_of_mem _ (List.mem_append_right _ (List.mem_append_left _ h)), fun e => (HN1.out y h).2 _ (List.Mem.head _) e.symm⟩) (fun h => by cases h))⟩⟩) ?_)
        intro he185
        refine lexH_phase [2] [] ?_
        have hw186 : EnvX w _ ((w.heap.size, Obj.cells (txA ⟨⟨L, O⟩, A1, k, c1, A2, j, c2⟩) 25 (0, 0)) :: ((g6, Obj.cells (txA ⟨⟨L, O⟩, A1, k, c1, A2, j, c2⟩) 25 (0, 0)) :: (N2 ++ (N1 ++ [])))) := he185.choose_spec
        have hone := @EnvC.one _ _ _ hw186
        (refine wpG_op rfl rfl rfl ?_; intro K hK; go_big_quiet_op; go_big_quiet_on)
        clear hone hw186
        refine wpG_nil ?_
        intro u188 E2'
        have EX187 := Lib.hid E2'
        clear E2'
        have HTF : Hid (TxOk u188 ⟨⟨L, O⟩, A1, k, c1, A2, j, c2⟩) := by
          have hok := HBP.out.1
          rw [HPX.out] at hok
          exact ⟨HKL.out, HC1.out, hok.1, HF1.out.cells HLF.out EX187.out (fun y hy => List.mem_cons_of_mem _ (List.mem_cons_of_mem _ (List.mem_append_right _ (List.mem_append_left _ hy)))), HOL.out, (by
            obtain ⟨A4, c4, e, h1, h2⟩ := HF.out.form
            cases e
            exact ⟨h1, h2⟩), hok.2, HF.out.cells HSL.out EX187.out (fun y hy => List.mem_cons_of_mem _ (List.mem_cons_of_mem _ (List.mem_append_left _ hy)))⟩
        have Q0 := Lib.hid (EnvX.box EX187.out _ _ (List.Mem.head _))
        have HBEL := Lib.hid EX187.out.bel
        go_wp2_with ((with_reducible refine bodyPost_ret (v := .tuple #[.agg (txA ⟨⟨L, O⟩, A1, k, c1, A2, j, c2⟩), .bool true]) ?_ ?_ ?_); (exact results_row_slot (p := 2) (q := 3) (ty := 25) Tryd.results15 _ _ (w.heap.size) 25 (txA ⟨⟨L, O⟩, A1, k, c1, A2, j, c2⟩) (0, 0) _ rfl _ rfl Q0.out Tryd.underlying25 rfl (infoTx _ (txA_size _))); (rfl))
        rw [HRD.out]
        exact ⟨⟨⟨⟨L, O⟩, A1, k, c1, A2, j, c2⟩, rfl, rfl, HTF.out⟩, HBEL.out⟩
theorem rreadX_any (A : Option Addr) (n c : Nat) (b : List Int) (w : World) (hl : b.length = n) (hn : n ≤ 1000000) (hnc : n ≤ c) (hcm : c ≤ maxLen) (hB : isB b) (hx : Bytes w w.heap.size A b) :
    Calls Tryd.prog 15 #[.slice A n c] w fun e w' => (∃ t : TxM, e = .returned (.tuple #[txV t, .bool (readX b).2]) ∧ t.r = (readX b).1 ∧ TxOk w' t) ∧ Below w.heap.size w w' := by
  by_cases k : b.length = 0 ∨ b.length < atO b
  · exact rreadX_a A n c b w hl hn hnc hcm hB hx k
  · by_cases k2 : b.length ≤ atO b
    · exact rreadX_b A n c b w hl hn hnc hcm hB hx k k2
    · by_cases k3 : b.length = atO b + (1 + 7 * nOut b)
      · exact rreadX_d A n c b w hl hn hnc hcm hB hx k k2 k3
      · exact rreadX_c A n c b w hl hn hnc hcm hB hx k k2 k3
end Go.Proofs.YtcodmedgkboohaaDoor
