/- Part of a proof. -/
import Derived.Test.YtcodmedgkboohaaDoorCoinMorePb
namespace Go.Proofs.YtcodmedgkboohaaDoor
set_option maxRecDepth 8000
open Go.RowKit

set_option maxRecDepth 20000 in
set_option maxHeartbeats 8000000 in
theorem law_moreX_2t (H : CoinC) (t : TxM) (o : OutR) (q : Int) (w : World) (kt : TxOk w t) (ko : okOut o) (hq : I64 q) (ht : Tables w) (k1 : fewX t.r = true) (k2 : mayX t.r = true) (k3 : t.n2 < 3) (f0 : 1 ≤ o.v) (f1 : o.v ≤ 1099511627776) (f2 : ¬ (0 ≤ o.to)) :
    Calls Tryd.prog 8 #[txV t, outV o, .int .i64 q] w fun e w' => e = .returned (.bool true) ∧ Below w.heap.size w w' := by
  have HF_t : Hid (fewX t.r = true) := k1
  have HM_t : Hid (mayX t.r = true) := k2
  have V0 : Hid (decide (1 ≤ o.v) = true) := decide_eq_true f0
  have V1 : Hid (decide (o.v ≤ 1099511627776) = true) := decide_eq_true f1
  have V2 : Hid (decide (0 ≤ o.to) = false) := decide_eq_false f2
  have hmo : mayOut o = false := by unfold mayOut; rw [decide_eq_false_iff_not]; omega
  have hmx := mayX_iff.1 k2
  have hn2 : 1 ≤ t.n2 ∧ t.n2 ≤ 3 := by rw [← kt.l2]; omega
  have HN2 := Lib.hid hn2
  have HN63 := Lib.hid kt.n63
  have C3 : Hid (decide ((t.n2 : Int) < 3) = true) := decide_eq_true (by omega)
  obtain ⟨d1, hd1⟩ : ∃ d1, decide (1 < (t.n2 : Int)) = d1 := ⟨_, rfl⟩
  have HD1 := Lib.hid hd1
  have HMM : Hid (∀ g cap, mayX (moreX t o g cap).r = false) := fun g cap => by
    show mayX ⟨t.r.ins, t.r.outs ++ [o]⟩ = _
    rw [mayX_more k2, hmo, kt.l2, show decide (t.n2 < 3) = true from decide_eq_true k3]
    rfl
  have HML : Hid (mayX (lessX t).r = d1) := by
    show mayX ⟨t.r.ins, t.r.outs.take (t.n2 - 1)⟩ = _
    rw [← kt.l2, mayX_less k2, ← hd1, kt.l2, decide_eq_decide]
    omega
  have HMT : Hid (∀ x g cap, x ∈ t.r.ins → mayX (twiceX t x g cap).r = false) := fun x g cap hx => mayX_twice hx
  have HKO := Lib.hid ko
  have HLO := Lib.hid (outsX_len kt)
  have HLI := Lib.hid (insX_len kt)
  have HKI := Lib.hid kt.o1
  have HL1 := Lib.hid kt.l1
  have HS1 : Hid ((t.n2 : Int) - 1 = ((t.n2 - 1 : Nat) : Int) ∧ InI ((t.n2 - 1 : Nat) : Int)) := ⟨by omega, by unfold InI; omega⟩
  have HC1 : Hid (t.n2 - 1 ≤ t.c2) := by show _ ≤ _; have := kt.b2.1; omega
  have HNI : Hid (t.n1 ≤ 3) := by show _ ≤ _; rw [← kt.l1]; exact hmx.1
  have HNB : Hid (∀ b : Bool, (b != b) = false) := fun b => by cases b <;> rfl
  have HQ := Lib.hid hq
  clear k1 k2 k3 hmo hmx hn2 hd1 f0 f1 f2
  have E0 : Hid (EnvX w ((w.alloc (.cells (txA t) 25)).alloc (.cells (outA o) 49)) [(w.heap.size + 1, Obj.cells (outA o) 49 (0, 0)), (w.heap.size, Obj.cells (txA t) 25 (0, 0))]) := (EnvX.start w).two _ _
  have HAW := Lib.hid (cawake_any H ((w.alloc (.cells (txA t) 25)).alloc (.cells (outA o) 49)) (ht.below (EnvX.bel E0.out)))
  have HT := Lib.hid ht
  have HH := Lib.hid H
  have J_kt := Lib.hid kt
  clear ht H kt ko hq
  unfold txV outV
  go_enter Tryd.func8, Tryd.ntmps8
  go_upto_region 1 with (fail)
  generalize ((w.alloc (.cells (txA t) 25)).alloc (.cells (outA o) 49)) = W at *
  go_wp2_with fail
  refine HAW.out.mono ?_
  rintro e w1 ⟨rfl, hb1⟩
  have HB1 := Lib.hid (EnvX.below E0.out hb1).bel
  have E1 : Hid (EnvX w1 w1 [(w.heap.size + 1, Obj.cells (outA o) 49 (0, 0)), (w.heap.size, Obj.cells (txA t) 25 (0, 0))]) := ⟨Below.refl _ _, (EnvX.below E0.out hb1).box⟩
  have HT1 := Lib.hid (HT.out.below HB1.out)
  have K_kt := Lib.hid (J_kt.out.up HB1.out)
  clear hb1 E0 HAW HT J_kt
  go_upto_region 2 with (fail)
  refine wp_region_Hx (w0 := w1) [0, 1, 2] [(w.heap.size + 1, Obj.cells (outA o) 49 (0, 0)), (w.heap.size, Obj.cells (txA t) 25 (0, 0))] rfl E1.out ?_
  refine lexH_phase [0, 1, 2] [] ?_
  have hw1 : EnvX w1 _ [(w.heap.size + 1, Obj.cells (outA o) 49 (0, 0)), (w.heap.size, Obj.cells (txA t) 25 (0, 0))] := E1.out
  have hone := @EnvC.one _ _ _ hw1
  (refine wpG_val (v := txV t) rfl rfl (fun u hu => load_any_op u (box_tx hu (List.Mem.tail _ (List.Mem.head _))) rfl) ?_ hw1; intro K hK; go_big_quiet_op; go_big_quiet_on)
  (refine wpG_call (f := 10) (args := #[txV t]) (v := .bool true) rfl rfl rfl Tryd.func10 rfl rfl (fun u hu => by have h1 := few_any t u (K_kt.out.up (EnvX.bel hu)); rwa [HF_t.out] at h1) ?_ hw1; intro K hK; go_big_quiet_op; go_big_quiet_on)
  (refine wpG_op rfl rfl rfl ?_; intro K hK; go_big_quiet_op; go_big_quiet_on)
  clear hone hw1
  refine wpG_nil ?_
  intro u3 E2'
  have EX2 := Lib.hid E2'
  clear E2'
  go_upto_region 3 with (fail)
  refine wp_region_Hx (w0 := w1) [0, 1, 2, 3, 4, 5, 6, 7, 8, 9, 10] [(w.heap.size + 1, Obj.cells (outA o) 49 (0, 0)), (w.heap.size, Obj.cells (txA t) 25 (0, 0))] rfl EX2.out ?_
  refine lexH_phase [0, 1, 2, 3, 4, 5, 6, 7, 8, 9, 10] [] ?_
  have hw4 : EnvX w1 _ [(w.heap.size + 1, Obj.cells (outA o) 49 (0, 0)), (w.heap.size, Obj.cells (txA t) 25 (0, 0))] := EX2.out
  have hone := @EnvC.one _ _ _ hw4
  (refine wpG_op rfl rfl rfl ?_; intro K hK; go_big_quiet_op; go_big_quiet_on)
  (refine wpG_op rfl rfl rfl ?_; intro K hK; go_big_quiet_op; go_big_quiet_on)
  (refine wpG_op rfl rfl rfl ?_; intro K hK; go_big_quiet_op; go_big_quiet_on)
  (refine wpG_op rfl rfl rfl ?_; intro K hK; go_big_quiet_op; go_big_quiet_on)
  (refine wpG_op rfl rfl rfl ?_; intro K hK; go_big_quiet_op; go_big_quiet_on)
  (refine wpG_op rfl rfl rfl ?_; intro K hK; go_big_quiet_op; go_big_quiet_on)
  (refine wpG_op rfl rfl rfl ?_; intro K hK; go_big_quiet_op; go_big_quiet_on)
  (refine wpG_val (v := txV t) rfl rfl (fun u hu => load_any_op u (box_tx hu (List.Mem.tail _ (List.Mem.head _))) rfl) ?_ hw4; intro K hK; go_big_quiet_op; go_big_quiet_on)
  (refine wpG_call (f := 18) (args := #[txV t]) (v := .bool true) rfl rfl rfl Tryd.func18 rfl rfl (fun u hu => by have h1 := HH.out.may t u (K_kt.out.up (EnvX.bel hu)) (HT1.out.below (EnvX.bel hu)); rwa [HM_t.out] at h1) ?_ hw4; intro K hK; go_big_quiet_op; go_big_quiet_on)
  (refine wpG_op rfl rfl rfl ?_; intro K hK; go_big_quiet_op; go_big_quiet_on)
  (refine wpG_op rfl rfl rfl ?_; intro K hK; go_big_quiet_op; go_big_quiet_on)
  clear hone hw4
  refine wpG_nil ?_
  intro u6 E2'
  have EX5 := Lib.hid E2'
  clear E2'
  go_upto_region 5 with (fail)
  refine wp_region_Hx (w0 := w1) [0, 1, 2] [(w.heap.size + 1, Obj.cells (outA o) 49 (0, 0)), (w.heap.size, Obj.cells (txA t) 25 (0, 0))] rfl EX5.out ?_
  refine lexH_phase [0] [1, 2] ?_
  have hw7 : EnvX w1 _ [(w.heap.size + 1, Obj.cells (outA o) 49 (0, 0)), (w.heap.size, Obj.cells (txA t) 25 (0, 0))] := EX5.out
  have hone := @EnvC.one _ _ _ hw7
  (refine wpG_val (v := txV t) rfl rfl (fun u hu => load_any_op u (box_tx hu (List.Mem.tail _ (List.Mem.head _))) rfl) ?_ hw7; intro K hK; go_big_quiet_op; go_big_quiet_on)
  clear hone hw7
  refine wpG_nil ?_
  refine (hOp_fresh (R := fun x N => ∃ g, x = .pointer (some ⟨g, 0, none⟩) ∧ N = [(g, Obj.cells (txA noTxM) 25 (0, 0))]) (M0 := [(w.heap.size + 1, Obj.cells (outA o) 49 (0, 0)), (w.heap.size, Obj.cells (txA t) 25 (0, 0))]) rfl rfl (fun _ h => h) (fun u hu => FAt_new (new_tx _) u) ?_)
  rintro _ _ ⟨gm, rfl, rfl⟩ hf he8; intro K' hK'; go_big_quiet_op; go_big_quiet_on
  have HGM := Lib.hid (hf _ (List.mem_singleton.2 rfl))
  clear hf
  change lexH _ _ _ _ _ _ [(gm, Obj.cells (txA noTxM) 25 (0, 0)), (w.heap.size + 1, Obj.cells (outA o) 49 (0, 0)), (w.heap.size, Obj.cells (txA t) 25 (0, 0))]
  refine (hOp_store rfl (gm) (txA t) rfl rfl HGM.out.1 25 ((txA noTxM)) (List.Mem.head _) (infoTx _ rfl) rfl (txA_one _) [(gm, Obj.cells (txA t) 25 (0, 0)), (w.heap.size + 1, Obj.cells (outA o) 49 (0, 0)), (w.heap.size, Obj.cells (txA t) 25 (0, 0))] (List.forall_mem_cons.2 ⟨.inl rfl, fun y hy => .inr ⟨List.mem_cons_of_mem _ hy, HGM.out.2 y hy⟩⟩) ?_)
  intro he9
  intro u11 E2'
  have EX10 := Lib.hid E2'
  clear E2'
  have N_ob_gm : Hid (w.heap.size + 1 ≠ gm) := HGM.out.2 _ (List.Mem.head _)
  have N_tb_gm : Hid (w.heap.size ≠ gm) := HGM.out.2 _ (List.Mem.tail _ (List.Mem.head _))
  go_upto_region 6 with (fail)
  refine wp_region_H (w0 := w1) [(gm, Obj.cells (txA t) 25 (0, 0)), (w.heap.size + 1, Obj.cells (outA o) 49 (0, 0)), (w.heap.size, Obj.cells (txA t) 25 (0, 0))] (by kernel_rfl) EX10.out ?_
  refine anyH_phaseN [0, 1, 3] 5 rfl (by kernel_rfl) ?_
  have hw12 : EnvX w1 _ [] := EnvX.sub (EnvX.drew EX10.out) (fun _ h => by cases h)
  have hone := @EnvC.one _ _ _ hw12
  (refine wpG_op rfl rfl rfl ?_; intro K hK; go_big_quiet_op; go_big_quiet_on)
  (refine wpG_val (v := .slice t.A2 t.n2 t.c2) rfl rfl (fun u hu => load_any_op u (box_tx_outs (EnvX.below E1.out (EnvX.bel hu)) (List.Mem.tail _ (List.Mem.head _))) rfl) ?_ hw12; intro K hK; go_big_quiet_op; go_big_quiet_on)
  (refine wpG_val (v := outV o) rfl rfl (fun u hu => load_any_op u (box_out (EnvX.below E1.out (EnvX.bel hu)) (List.Mem.head _)) rfl) ?_ hw12; intro K hK; go_big_quiet_op; go_big_quiet_on)
  clear hone hw12
  refine wpG_nil ?_
  refine anyH_twoFreshG (i := 2) (j := 4) (fun _ _ _ hM hh => env_perm _ _ _ hM hh) (by kernel_rfl) (by kernel_rfl) (by kernel_rfl) rfl rfl (by decide) (by kernel_rfl) rfl rfl (FreshR 49 2 t.n2 ((t.r.outs.map outC).flatten)) (BuiltR 49 (outC o)) [(gm, Obj.cells (txA t) 25 (0, 0)), (w.heap.size + 1, Obj.cells (outA o) 49 (0, 0)), (w.heap.size, Obj.cells (txA t) 25 (0, 0))] [(gm, Obj.cells (txA t) 25 (0, 0)), (w.heap.size + 1, Obj.cells (outA o) 49 (0, 0)), (w.heap.size, Obj.cells (txA t) 25 (0, 0))] (fun _ h => h) (fun _ h => h) (fun u hu => FAt_appC elOut HLO.out (outsX_one _) (K_kt.out.up (EnvX.bel hu)).m2 (by have := HN2.out; omega) rfl) (fun u hu => FAt_buildR elOut rfl (outC_one _) rfl u) ?_
  rintro x1 N1 x2 N2 hF1 ⟨gs, rfl, rfl⟩ hf1 hf2 he13 K1 hK1; go_big_quiet_op; go_big_quiet_on; intro K' hK'; go_big_quiet_op; go_big_quiet_on
  obtain ⟨ga, capga, curga, rfl, rfl, hcga⟩ | ⟨_, _, h0, _⟩ := hF1
  case inr => have := HN2.out; omega
  have HCga := Lib.hid hcga
  have HGA := Lib.hid (hf1 _ (List.mem_singleton.2 rfl))
  clear hcga
  clear hf1 hf2
  change anyH _ _ _ _ _ _ _ _ [(gs, Obj.cells (outA o) 49 (0, 0)), (ga, Obj.cells curga 49 (0, 0)), (gm, Obj.cells (txA t) 25 (0, 0)), (w.heap.size + 1, Obj.cells (outA o) 49 (0, 0)), (w.heap.size, Obj.cells (txA t) 25 (0, 0))]
  refine anyH_one (i := 5) (by kernel_rfl) (hOp_own (gd := none) (R := GrownR w1 49 2 (t.n2 + 1) (((t.r.outs.map outC).flatten) ++ outC o) [(gm, Obj.cells (txA t) 25 (0, 0)), (w.heap.size + 1, Obj.cells (outA o) 49 (0, 0)), (w.heap.size, Obj.cells (txA t) 25 (0, 0))]) rfl rfl rfl rfl (fun u hu => appX_op elOut [(gm, Obj.cells (txA t) 25 (0, 0)), (w.heap.size + 1, Obj.cells (outA o) 49 (0, 0)), (w.heap.size, Obj.cells (txA t) 25 (0, 0))] hu (n := t.n2) (m := 1) HLO.out rfl (outC_one _) (.inl ⟨ga, capga, curga, rfl, rfl, HCga.out⟩) (List.forall_mem_cons.2 ⟨⟨(List.Mem.tail _ (List.Mem.head _)), HGA.out.1⟩, (fun _ h => by cases h)⟩) (src_box hu (List.Mem.head _) rfl) (List.forall_mem_cons.2 ⟨⟨(List.Mem.tail _ (List.Mem.tail _ (List.Mem.head _))), fun y hy => by cases List.mem_singleton.1 hy; exact HGA.out.2 _ (List.Mem.head _)⟩, (List.forall_mem_cons.2 ⟨⟨(List.Mem.tail _ (List.Mem.tail _ (List.Mem.tail _ (List.Mem.head _)))), fun y hy => by cases List.mem_singleton.1 hy; exact HGA.out.2 _ (List.Mem.tail _ (List.Mem.head _))⟩, (List.forall_mem_cons.2 ⟨⟨(List.Mem.tail _ (List.Mem.tail _ (List.Mem.tail _ (List.Mem.tail _ (List.Mem.head _))))), fun y hy => by cases List.mem_singleton.1 hy; exact HGA.out.2 _ (List.Mem.tail _ (List.Mem.tail _ (List.Mem.head _)))⟩, (fun _ h => by cases h)⟩)⟩)⟩) (by have := HN2.out; omega) rfl rfl) ?_)
  rintro x M' ⟨N, rfl, hF, hn⟩ he14; intro K' hK'; go_big_quiet_op; go_big_quiet_on
  obtain ⟨gb, capgb, curgb, rfl, rfl, hcgb⟩ | ⟨_, _, h0, _⟩ := hF
  case inr => omega
  have HCgb := Lib.hid hcgb
  have HGB := Lib.hid (hn _ (List.mem_singleton.2 rfl))
  have N_gb_gm : Hid (gb ≠ gm) := fun e => HGB.out.2 _ (List.Mem.head _) e.symm
  clear hcgb hn
  change anyH _ _ _ _ _ _ _ _ [(gb, Obj.cells curgb 49 (0, 0)), (gm, Obj.cells (txA t) 25 (0, 0)), (w.heap.size + 1, Obj.cells (outA o) 49 (0, 0)), (w.heap.size, Obj.cells (txA t) 25 (0, 0))]
  refine anyH_phaseN [6] 1 rfl (by kernel_rfl) ?_
  have hw15 : EnvX w1 _ [] := EnvX.sub he14.choose_spec (fun _ h => by cases h)
  have hone := @EnvC.one _ _ _ hw15
  (refine wpG_op rfl rfl rfl ?_; intro K hK; go_big_quiet_op; go_big_quiet_on)
  clear hone hw15
  refine wpG_nil ?_
  refine anyH_one (i := 7) (by kernel_rfl) (hOp_putAt rfl (gm) (1) (.slice (some ⟨gb, 0, none⟩) (t.n2 + 1) capgb) rfl rfl HGM.out.1 25 ((txA t)) (txA (moreX t o gb capgb)) (List.Mem.tail _ (List.Mem.head _)) infoOuts (by show 1 + 1 ≤ 2; decide) (by simp [Value.cells]; rfl) rfl [(gm, Obj.cells (txA (moreX t o gb capgb)) 25 (0, 0)), (gb, Obj.cells curgb 49 (0, 0)), (w.heap.size + 1, Obj.cells (outA o) 49 (0, 0)), (w.heap.size, Obj.cells (txA t) 25 (0, 0))] (List.forall_mem_cons.2 ⟨.inl rfl, (List.forall_mem_cons.2 ⟨.inr ⟨(List.Mem.head _), N_gb_gm.out⟩, (List.forall_mem_cons.2 ⟨.inr ⟨(List.Mem.tail _ (List.Mem.tail _ (List.Mem.head _))), N_ob_gm.out⟩, (List.forall_mem_cons.2 ⟨.inr ⟨(List.Mem.tail _ (List.Mem.tail _ (List.Mem.tail _ (List.Mem.head _)))), N_tb_gm.out⟩, (fun _ h => by cases h)⟩)⟩)⟩)⟩) ?_)
  intro he16
  refine anyH_done (by kernel_rfl) ?_
  intro u18 E2'
  have EX17 := Lib.hid E2'
  clear E2'
  go_upto_region 7 with (fail)
  refine wp_region_Hx (w0 := w1) [0, 1, 2] [(gm, Obj.cells (txA (moreX t o gb capgb)) 25 (0, 0)), (gb, Obj.cells curgb 49 (0, 0)), (w.heap.size + 1, Obj.cells (outA o) 49 (0, 0)), (w.heap.size, Obj.cells (txA t) 25 (0, 0))] rfl EX17.out ?_
  refine lexH_phase [0] [1, 2] ?_
  have hw19 : EnvX w1 _ [(gm, Obj.cells (txA (moreX t o gb capgb)) 25 (0, 0)), (gb, Obj.cells curgb 49 (0, 0)), (w.heap.size + 1, Obj.cells (outA o) 49 (0, 0)), (w.heap.size, Obj.cells (txA t) 25 (0, 0))] := EX17.out
  have hone := @EnvC.one _ _ _ hw19
  (refine wpG_val (v := txV t) rfl rfl (fun u hu => load_any_op u (box_tx hu (List.Mem.tail _ (List.Mem.tail _ (List.Mem.tail _ (List.Mem.head _))))) rfl) ?_ hw19; intro K hK; go_big_quiet_op; go_big_quiet_on)
  clear hone hw19
  refine wpG_nil ?_
  refine (hOp_fresh (R := fun x N => ∃ g, x = .pointer (some ⟨g, 0, none⟩) ∧ N = [(g, Obj.cells (txA noTxM) 25 (0, 0))]) (M0 := [(gm, Obj.cells (txA (moreX t o gb capgb)) 25 (0, 0)), (gb, Obj.cells curgb 49 (0, 0)), (w.heap.size + 1, Obj.cells (outA o) 49 (0, 0)), (w.heap.size, Obj.cells (txA t) 25 (0, 0))]) rfl rfl (fun _ h => h) (fun u hu => FAt_new (new_tx _) u) ?_)
  rintro _ _ ⟨gl, rfl, rfl⟩ hf he20; intro K' hK'; go_big_quiet_op; go_big_quiet_on
  have HGL := Lib.hid (hf _ (List.mem_singleton.2 rfl))
  clear hf
  change lexH _ _ _ _ _ _ [(gl, Obj.cells (txA noTxM) 25 (0, 0)), (gm, Obj.cells (txA (moreX t o gb capgb)) 25 (0, 0)), (gb, Obj.cells curgb 49 (0, 0)), (w.heap.size + 1, Obj.cells (outA o) 49 (0, 0)), (w.heap.size, Obj.cells (txA t) 25 (0, 0))]
  refine (hOp_store rfl (gl) (txA t) rfl rfl HGL.out.1 25 ((txA noTxM)) (List.Mem.head _) (infoTx _ rfl) rfl (txA_one _) [(gl, Obj.cells (txA t) 25 (0, 0)), (gm, Obj.cells (txA (moreX t o gb capgb)) 25 (0, 0)), (gb, Obj.cells curgb 49 (0, 0)), (w.heap.size + 1, Obj.cells (outA o) 49 (0, 0)), (w.heap.size, Obj.cells (txA t) 25 (0, 0))] (List.forall_mem_cons.2 ⟨.inl rfl, fun y hy => .inr ⟨List.mem_cons_of_mem _ hy, HGL.out.2 y hy⟩⟩) ?_)
  intro he21
  intro u23 E2'
  have EX22 := Lib.hid E2'
  clear E2'
  go_upto_region 8 with (fail)
  refine wp_region_Hx (w0 := w1) [0, 1, 2, 3, 4, 5, 6, 7, 8] [(gl, Obj.cells (txA t) 25 (0, 0)), (gm, Obj.cells (txA (moreX t o gb capgb)) 25 (0, 0)), (gb, Obj.cells curgb 49 (0, 0)), (w.heap.size + 1, Obj.cells (outA o) 49 (0, 0)), (w.heap.size, Obj.cells (txA t) 25 (0, 0))] rfl EX22.out ?_
  refine lexH_phase [0, 1, 2, 3, 4, 5, 6, 7] [8] ?_
  have hw24 : EnvX w1 _ [(gl, Obj.cells (txA t) 25 (0, 0)), (gm, Obj.cells (txA (moreX t o gb capgb)) 25 (0, 0)), (gb, Obj.cells curgb 49 (0, 0)), (w.heap.size + 1, Obj.cells (outA o) 49 (0, 0)), (w.heap.size, Obj.cells (txA t) 25 (0, 0))] := EX22.out
  have hone := @EnvC.one _ _ _ hw24
  (refine wpG_op rfl rfl rfl ?_; intro K hK; go_big_quiet_op; go_big_quiet_on)
  (refine wpG_val (v := .slice t.A2 t.n2 t.c2) rfl rfl (fun u hu => load_any_op u (box_tx_outs hu (List.Mem.tail _ (List.Mem.tail _ (List.Mem.tail _ (List.Mem.tail _ (List.Mem.head _)))))) rfl) ?_ hw24; intro K hK; go_big_quiet_op; go_big_quiet_on)
  (refine wpG_op rfl rfl rfl ?_; intro K hK; go_big_quiet_op; go_big_quiet_on)
  (refine wpG_val (v := .slice t.A2 t.n2 t.c2) rfl rfl (fun u hu => load_any_op u (box_tx_outs hu (List.Mem.tail _ (List.Mem.tail _ (List.Mem.tail _ (List.Mem.tail _ (List.Mem.head _)))))) rfl) ?_ hw24; intro K hK; go_big_quiet_op; go_big_quiet_on)
  (refine wpG_val (v := .int .i64 (t.n2 : Int)) rfl rfl (fun u hu => len_op Tryd.underlying23 HN63.out.2 u rfl) ?_ hw24; intro K hK; go_big_quiet_op; go_big_quiet_on)
  (refine wpG_val (v := .int .i64 ((t.n2 - 1 : Nat) : Int)) rfl rfl (fun u hu => sub_op u HS1.out.1 HS1.out.2 rfl rfl) ?_ hw24; intro K hK; go_big_quiet_op; go_big_quiet_on)
  (refine wpG_val (v := .slice t.A2 (t.n2 - 1) t.c2) rfl rfl (fun u hu => cutXh_op elOut u HC1.out rfl rfl) ?_ hw24; intro K hK; go_big_quiet_op; go_big_quiet_on)
  (refine wpG_op rfl rfl rfl ?_; intro K hK; go_big_quiet_op; go_big_quiet_on)
  clear hone hw24
  refine wpG_nil ?_
  refine (hOp_putAt rfl (gl) (1) (.slice t.A2 (t.n2 - 1) t.c2) rfl rfl HGL.out.1 25 ((txA t)) (txA (lessX t)) (List.Mem.head _) infoOuts (by show 1 + 1 ≤ 2; decide) (by simp [Value.cells]; rfl) rfl [(gl, Obj.cells (txA (lessX t)) 25 (0, 0)), (gm, Obj.cells (txA (moreX t o gb capgb)) 25 (0, 0)), (gb, Obj.cells curgb 49 (0, 0)), (w.heap.size + 1, Obj.cells (outA o) 49 (0, 0)), (w.heap.size, Obj.cells (txA t) 25 (0, 0))] (List.forall_mem_cons.2 ⟨.inl rfl, fun y hy => .inr ⟨List.mem_cons_of_mem _ hy, HGL.out.2 y hy⟩⟩) ?_)
  intro he25
  intro u27 E2'
  have EX26 := Lib.hid E2'
  clear E2'
  go_upto_region 9 with (fail)
  refine wp_region_Hx (w0 := w1) [0, 1, 2, 3, 4, 5, 6, 7, 8, 9, 10, 11, 12, 13, 14, 15, 16, 17, 18] [(gl, Obj.cells (txA (lessX t)) 25 (0, 0)), (gm, Obj.cells (txA (moreX t o gb capgb)) 25 (0, 0)), (gb, Obj.cells curgb 49 (0, 0)), (w.heap.size + 1, Obj.cells (outA o) 49 (0, 0)), (w.heap.size, Obj.cells (txA t) 25 (0, 0))] rfl EX26.out ?_
  refine lexH_phase [0, 1, 2, 3, 4, 5, 6, 7, 8, 9, 10, 11, 12, 13, 14, 15, 16, 17, 18] [] ?_
  have hw28 : EnvX w1 _ [(gl, Obj.cells (txA (lessX t)) 25 (0, 0)), (gm, Obj.cells (txA (moreX t o gb capgb)) 25 (0, 0)), (gb, Obj.cells curgb 49 (0, 0)), (w.heap.size + 1, Obj.cells (outA o) 49 (0, 0)), (w.heap.size, Obj.cells (txA t) 25 (0, 0))] := EX26.out
  have hone := @EnvC.one _ _ _ hw28
  (refine wpG_op rfl rfl rfl ?_; intro K hK; go_big_quiet_op; go_big_quiet_on)
  (refine wpG_val (v := .int .i64 o.v) rfl rfl (fun u hu => load_any_op u (box_out_v hu (List.Mem.tail _ (List.Mem.tail _ (List.Mem.tail _ (List.Mem.head _))))) rfl) ?_ hw28; intro K hK; go_big_quiet_op; go_big_quiet_on)
  (refine wpG_val (v := .bool true) rfl rfl (fun u hu => geZ_op u V0.out rfl rfl) ?_ hw28; intro K hK; go_big_quiet_op; go_big_quiet_on)
  (refine wpG_op rfl rfl rfl ?_; intro K hK; go_big_quiet_op; go_big_quiet_on)
  (refine wpG_op rfl rfl rfl ?_; intro K hK; go_big_quiet_op; go_big_quiet_on)
  (refine wpG_val (v := .int .i64 o.v) rfl rfl (fun u hu => load_any_op u (box_out_v hu (List.Mem.tail _ (List.Mem.tail _ (List.Mem.tail _ (List.Mem.head _))))) rfl) ?_ hw28; intro K hK; go_big_quiet_op; go_big_quiet_on)
  (refine wpG_val (v := .bool true) rfl rfl (fun u hu => leZ_op u V1.out rfl rfl) ?_ hw28; intro K hK; go_big_quiet_op; go_big_quiet_on)
  (refine wpG_op rfl rfl rfl ?_; intro K hK; go_big_quiet_op; go_big_quiet_on)
  (refine wpG_op rfl rfl rfl ?_; intro K hK; go_big_quiet_op; go_big_quiet_on)
  (refine wpG_op rfl rfl rfl ?_; intro K hK; go_big_quiet_op; go_big_quiet_on)
  (refine wpG_val (v := .int .i64 o.to) rfl rfl (fun u hu => load_any_op u (box_out_to hu (List.Mem.tail _ (List.Mem.tail _ (List.Mem.tail _ (List.Mem.head _))))) rfl) ?_ hw28; intro K hK; go_big_quiet_op; go_big_quiet_on)
  (refine wpG_val (v := .bool false) rfl rfl (fun u hu => geZ_op u V2.out rfl rfl) ?_ hw28; intro K hK; go_big_quiet_op; go_big_quiet_on)
  (refine wpG_op rfl rfl rfl ?_; intro K hK; go_big_quiet_op; go_big_quiet_on)
  (refine wpG_op rfl rfl rfl ?_; intro K hK; go_big_quiet_op; go_big_quiet_on)
  (refine wpG_skip rfl rfl ?_ hw28; intro K hK; go_big_quiet_op; go_big_quiet_on)
  (refine wpG_skip rfl rfl ?_ hw28; intro K hK; go_big_quiet_op; go_big_quiet_on)
  (refine wpG_skip rfl rfl ?_ hw28; intro K hK; go_big_quiet_op; go_big_quiet_on)
  (refine wpG_op rfl rfl rfl ?_; intro K hK; go_big_quiet_op; go_big_quiet_on)
  (refine wpG_op rfl rfl rfl ?_; intro K hK; go_big_quiet_op; go_big_quiet_on)
  clear hone hw28
  refine wpG_nil ?_
  intro u30 E2'
  have EX29 := Lib.hid E2'
  clear E2'
  go_upto_region 10 with (fail)
  refine wp_region_H (w0 := w1) [(gl, Obj.cells (txA (lessX t)) 25 (0, 0)), (gm, Obj.cells (txA (moreX t o gb capgb)) 25 (0, 0)), (gb, Obj.cells curgb 49 (0, 0)), (w.heap.size + 1, Obj.cells (outA o) 49 (0, 0)), (w.heap.size, Obj.cells (txA t) 25 (0, 0))] (by kernel_rfl) EX29.out ?_
  refine anyH_phase [0, 1, 2, 3, 4, 5, 6, 7, 8, 9, 10, 11, 12, 13, 14, 15, 16, 17, 18] 0 rfl ⟨_, (EnvX.drew EX29.out)⟩ (by kernel_rfl) ?_
  have hw31 : EnvX w1 _ [(gl, Obj.cells (txA (lessX t)) 25 (0, 0)), (gm, Obj.cells (txA (moreX t o gb capgb)) 25 (0, 0)), (gb, Obj.cells curgb 49 (0, 0)), (w.heap.size + 1, Obj.cells (outA o) 49 (0, 0)), (w.heap.size, Obj.cells (txA t) 25 (0, 0))] := (EnvX.drew EX29.out)
  have hone := @EnvC.one _ _ _ hw31
  (refine wpG_val (v := txV (moreX t o gb capgb)) rfl rfl (fun u hu => load_any_op u (box_tx hu (List.Mem.tail _ (List.Mem.head _))) rfl) ?_ hw31; intro K hK; go_big_quiet_op; go_big_quiet_on)
  (refine wpG_call (f := 18) (args := #[txV (moreX t o gb capgb)]) (v := .bool false) rfl rfl rfl Tryd.func18 rfl rfl (fun u hu => by have h1 := HH.out.may (moreX t o gb capgb) u (more_ok (K_kt.out.up (EnvX.bel hu)) HKO.out hu (List.Mem.tail _ (List.Mem.tail _ (List.Mem.head _))) HCgb.out) (HT1.out.below (EnvX.bel hu)); rwa [HMM.out] at h1) ?_ hw31; intro K hK; go_big_quiet_op; go_big_quiet_on)
  (refine wpG_op rfl rfl rfl ?_; intro K hK; go_big_quiet_op; go_big_quiet_on)
  (refine wpG_val (v := .slice t.A2 t.n2 t.c2) rfl rfl (fun u hu => load_any_op u (box_tx_outs hu (List.Mem.tail _ (List.Mem.tail _ (List.Mem.tail _ (List.Mem.tail _ (List.Mem.head _)))))) rfl) ?_ hw31; intro K hK; go_big_quiet_op; go_big_quiet_on)
  (refine wpG_val (v := .int .i64 (t.n2 : Int)) rfl rfl (fun u hu => len_op Tryd.underlying23 HN63.out.2 u rfl) ?_ hw31; intro K hK; go_big_quiet_op; go_big_quiet_on)
  (refine wpG_val (v := .bool true) rfl rfl (fun u hu => ltZ_op u C3.out rfl rfl) ?_ hw31; intro K hK; go_big_quiet_op; go_big_quiet_on)
  (refine wpG_op rfl rfl rfl ?_; intro K hK; go_big_quiet_op; go_big_quiet_on)
  (refine wpG_op rfl rfl rfl ?_; intro K hK; go_big_quiet_op; go_big_quiet_on)
  (refine wpG_op rfl rfl rfl ?_; intro K hK; go_big_quiet_op; go_big_quiet_on)
  (refine wpG_val (v := .bool false) rfl rfl (fun u hu => neqBc_op u rfl rfl rfl) ?_ hw31; intro K hK; go_big_quiet_op; go_big_quiet_on)
  (refine wpG_op rfl rfl rfl ?_; intro K hK; go_big_quiet_op; go_big_quiet_on)
  (refine wpG_val (v := txV (lessX t)) rfl rfl (fun u hu => load_any_op u (box_tx hu (List.Mem.head _)) rfl) ?_ hw31; intro K hK; go_big_quiet_op; go_big_quiet_on)
  (refine wpG_call (f := 18) (args := #[txV (lessX t)]) (v := .bool d1) rfl rfl rfl Tryd.func18 rfl rfl (fun u hu => by have h1 := HH.out.may (lessX t) u (less_ok (K_kt.out.up (EnvX.bel hu))) (HT1.out.below (EnvX.bel hu)); rwa [HML.out] at h1) ?_ hw31; intro K hK; go_big_quiet_op; go_big_quiet_on)
  (refine wpG_op rfl rfl rfl ?_; intro K hK; go_big_quiet_op; go_big_quiet_on)
  (refine wpG_val (v := .slice t.A2 t.n2 t.c2) rfl rfl (fun u hu => load_any_op u (box_tx_outs hu (List.Mem.tail _ (List.Mem.tail _ (List.Mem.tail _ (List.Mem.tail _ (List.Mem.head _)))))) rfl) ?_ hw31; intro K hK; go_big_quiet_op; go_big_quiet_on)
  (refine wpG_val (v := .int .i64 (t.n2 : Int)) rfl rfl (fun u hu => len_op Tryd.underlying23 HN63.out.2 u rfl) ?_ hw31; intro K hK; go_big_quiet_op; go_big_quiet_on)
  (refine wpG_val (v := .bool d1) rfl rfl (fun u hu => gtZ_op u HD1.out rfl rfl) ?_ hw31; intro K hK; go_big_quiet_op; go_big_quiet_on)
  (refine wpG_val (v := .bool false) rfl rfl (fun u hu => neqBc_op u (HNB.out _) rfl rfl) ?_ hw31; intro K hK; go_big_quiet_op; go_big_quiet_on)
  (refine wpG_op rfl rfl rfl ?_; intro K hK; go_big_quiet_op; go_big_quiet_on)
  clear hone hw31
  refine wpG_nil ?_
  refine anyH_done (by kernel_rfl) ?_
  intro u33 E2'
  have EX32 := Lib.hid E2'
  clear E2'
  by_cases d : q < 0
  · have D1 : Hid (decide (q < 0) = true) := decide_eq_true d
    clear d
    go_upto_region 12 with (fail)
    refine wp_region_Hx (w0 := w1) [0, 1, 2, 3, 4, 5, 6, 7, 8] [(gl, Obj.cells (txA (lessX t)) 25 (0, 0)), (gm, Obj.cells (txA (moreX t o gb capgb)) 25 (0, 0)), (gb, Obj.cells curgb 49 (0, 0)), (w.heap.size + 1, Obj.cells (outA o) 49 (0, 0)), (w.heap.size, Obj.cells (txA t) 25 (0, 0))] rfl EX32.out ?_
    refine lexH_phase [0, 1, 2, 3, 4, 5, 6, 7, 8] [] ?_
    have hw34 : EnvX w1 _ [(gl, Obj.cells (txA (lessX t)) 25 (0, 0)), (gm, Obj.cells (txA (moreX t o gb capgb)) 25 (0, 0)), (gb, Obj.cells curgb 49 (0, 0)), (w.heap.size + 1, Obj.cells (outA o) 49 (0, 0)), (w.heap.size, Obj.cells (txA t) 25 (0, 0))] := EX32.out
    have hone := @EnvC.one _ _ _ hw34
    (refine wpG_op rfl rfl rfl ?_; intro K hK; go_big_quiet_op; go_big_quiet_on)
    (refine wpG_val (v := .bool true) rfl rfl (fun u hu => ltZ_op u D1.out rfl rfl) ?_ hw34; intro K hK; go_big_quiet_op; go_big_quiet_on)
    (refine wpG_op rfl rfl rfl ?_; intro K hK; go_big_quiet_op; go_big_quiet_on)
    (refine wpG_skip rfl rfl ?_ hw34; intro K hK; go_big_quiet_op; go_big_quiet_on)
    (refine wpG_skip rfl rfl ?_ hw34; intro K hK; go_big_quiet_op; go_big_quiet_on)
    (refine wpG_skip rfl rfl ?_ hw34; intro K hK; go_big_quiet_op; go_big_quiet_on)
    (refine wpG_skip rfl rfl ?_ hw34; intro K hK; go_big_quiet_op; go_big_quiet_on)
    (refine wpG_skip rfl rfl ?_ hw34; intro K hK; go_big_quiet_op; go_big_quiet_on)
    (refine wpG_op rfl rfl rfl ?_; intro K hK; go_big_quiet_op; go_big_quiet_on)
    clear hone hw34
    refine wpG_nil ?_
    intro u36 E2'
    have EX35 := Lib.hid E2'
    clear E2'
    have HBE := Lib.hid (HB1.out.trans ((EnvX.bel EX35.out).mono HB1.out.size))
    go_wp2
    go_ret
    exact ⟨rfl, HBE.out⟩
  have D1 : Hid (decide (q < 0) = false) := decide_eq_false d
  by_cases d7 : (t.n1 : Int) ≤ q
  · have D7 : Hid (decide ((t.n1 : Int) ≤ q) = true) := decide_eq_true d7
    clear d d7
    go_upto_region 12 with (fail)
    refine wp_region_Hx (w0 := w1) [0, 1, 2, 3, 4, 5, 6, 7, 8] [(gl, Obj.cells (txA (lessX t)) 25 (0, 0)), (gm, Obj.cells (txA (moreX t o gb capgb)) 25 (0, 0)), (gb, Obj.cells curgb 49 (0, 0)), (w.heap.size + 1, Obj.cells (outA o) 49 (0, 0)), (w.heap.size, Obj.cells (txA t) 25 (0, 0))] rfl EX32.out ?_
    refine lexH_phase [0, 1, 2, 3, 4, 5, 6, 7, 8] [] ?_
    have hw34 : EnvX w1 _ [(gl, Obj.cells (txA (lessX t)) 25 (0, 0)), (gm, Obj.cells (txA (moreX t o gb capgb)) 25 (0, 0)), (gb, Obj.cells curgb 49 (0, 0)), (w.heap.size + 1, Obj.cells (outA o) 49 (0, 0)), (w.heap.size, Obj.cells (txA t) 25 (0, 0))] := EX32.out
    have hone := @EnvC.one _ _ _ hw34
    (refine wpG_op rfl rfl rfl ?_; intro K hK; go_big_quiet_op; go_big_quiet_on)
    (refine wpG_val (v := .bool false) rfl rfl (fun u hu => ltZ_op u D1.out rfl rfl) ?_ hw34; intro K hK; go_big_quiet_op; go_big_quiet_on)
    (refine wpG_op rfl rfl rfl ?_; intro K hK; go_big_quiet_op; go_big_quiet_on)
    (refine wpG_op rfl rfl rfl ?_; intro K hK; go_big_quiet_op; go_big_quiet_on)
    (refine wpG_op rfl rfl rfl ?_; intro K hK; go_big_quiet_op; go_big_quiet_on)
    (refine wpG_val (v := .slice t.A1 t.n1 t.c1) rfl rfl (fun u hu => load_any_op u (box_tx_ins hu (List.Mem.tail _ (List.Mem.tail _ (List.Mem.tail _ (List.Mem.tail _ (List.Mem.head _)))))) rfl) ?_ hw34; intro K hK; go_big_quiet_op; go_big_quiet_on)
    (refine wpG_val (v := .int .i64 (t.n1 : Int)) rfl rfl (fun u hu => len_op Tryd.underlying22 HN63.out.1 u rfl) ?_ hw34; intro K hK; go_big_quiet_op; go_big_quiet_on)
    (refine wpG_val (v := .bool true) rfl rfl (fun u hu => geZ_op u D7.out rfl rfl) ?_ hw34; intro K hK; go_big_quiet_op; go_big_quiet_on)
    (refine wpG_op rfl rfl rfl ?_; intro K hK; go_big_quiet_op; go_big_quiet_on)
    clear hone hw34
    refine wpG_nil ?_
    intro u36 E2'
    have EX35 := Lib.hid E2'
    clear E2'
    have HBE := Lib.hid (HB1.out.trans ((EnvX.bel EX35.out).mono HB1.out.size))
    go_wp2
    go_ret
    exact ⟨rfl, HBE.out⟩
  have D7 : Hid (decide ((t.n1 : Int) ≤ q) = false) := decide_eq_false d7
  obtain ⟨j, rfl⟩ := Int.eq_ofNat_of_zero_le (show 0 ≤ q by omega)
  have HJN : Hid (j < t.n1) := by show _ < _; omega
  have hjl : j < t.r.ins.length := by rw [HL1.out]; exact HJN.out
  obtain ⟨ad, ha1, -, hld⟩ := K_kt.out.m1.loads HKI.out hjl
  have HA1 := Lib.hid ha1
  have HLD : Hid (∀ u, EnvX w1 u [] → (loadVar 51 (ad.add (j * 33))).run Tryd.prog u = .ok (inV (t.r.ins.getD j noIn)) u) := fun u hu => (hld u hu).1
  have HXI : Hid (t.r.ins.getD j noIn ∈ t.r.ins ∧ okIn (t.r.ins.getD j noIn)) := ⟨by rw [List.getD_eq_getElem?_getD, List.getElem?_eq_getElem hjl]; exact List.getElem_mem hjl, okIns.get HKI.out hjl⟩
  have HNI1 : Hid (1 ≤ t.n1 ∧ t.n1 ≤ 3) := ⟨by have := HJN.out; omega, HNI.out⟩
  clear d d7 ha1 hld hjl
  generalize t.r.ins.getD j noIn = x at *
  go_upto_region 12 with (fail)
  refine wp_region_Hx (w0 := w1) [0, 1, 2, 3, 4, 5, 6, 7, 8] [(gl, Obj.cells (txA (lessX t)) 25 (0, 0)), (gm, Obj.cells (txA (moreX t o gb capgb)) 25 (0, 0)), (gb, Obj.cells curgb 49 (0, 0)), (w.heap.size + 1, Obj.cells (outA o) 49 (0, 0)), (w.heap.size, Obj.cells (txA t) 25 (0, 0))] rfl EX32.out ?_
  refine lexH_phase [0, 1, 2, 3, 4, 5, 6, 7, 8] [] ?_
  have hw34 : EnvX w1 _ [(gl, Obj.cells (txA (lessX t)) 25 (0, 0)), (gm, Obj.cells (txA (moreX t o gb capgb)) 25 (0, 0)), (gb, Obj.cells curgb 49 (0, 0)), (w.heap.size + 1, Obj.cells (outA o) 49 (0, 0)), (w.heap.size, Obj.cells (txA t) 25 (0, 0))] := EX32.out
  have hone := @EnvC.one _ _ _ hw34
  (refine wpG_op rfl rfl rfl ?_; intro K hK; go_big_quiet_op; go_big_quiet_on)
  (refine wpG_val (v := .bool false) rfl rfl (fun u hu => ltZ_op u D1.out rfl rfl) ?_ hw34; intro K hK; go_big_quiet_op; go_big_quiet_on)
  (refine wpG_op rfl rfl rfl ?_; intro K hK; go_big_quiet_op; go_big_quiet_on)
  (refine wpG_op rfl rfl rfl ?_; intro K hK; go_big_quiet_op; go_big_quiet_on)
  (refine wpG_op rfl rfl rfl ?_; intro K hK; go_big_quiet_op; go_big_quiet_on)
  (refine wpG_val (v := .slice t.A1 t.n1 t.c1) rfl rfl (fun u hu => load_any_op u (box_tx_ins hu (List.Mem.tail _ (List.Mem.tail _ (List.Mem.tail _ (List.Mem.tail _ (List.Mem.head _)))))) rfl) ?_ hw34; intro K hK; go_big_quiet_op; go_big_quiet_on)
  (refine wpG_val (v := .int .i64 (t.n1 : Int)) rfl rfl (fun u hu => len_op Tryd.underlying22 HN63.out.1 u rfl) ?_ hw34; intro K hK; go_big_quiet_op; go_big_quiet_on)
  (refine wpG_val (v := .bool false) rfl rfl (fun u hu => geZ_op u D7.out rfl rfl) ?_ hw34; intro K hK; go_big_quiet_op; go_big_quiet_on)
  (refine wpG_op rfl rfl rfl ?_; intro K hK; go_big_quiet_op; go_big_quiet_on)
  clear hone hw34
  refine wpG_nil ?_
  intro u36 E2'
  have EX35 := Lib.hid E2'
  clear E2'
  go_upto_region 14 with (fail)
  refine wp_region_Hx (w0 := w1) [0, 1, 2] [(gl, Obj.cells (txA (lessX t)) 25 (0, 0)), (gm, Obj.cells (txA (moreX t o gb capgb)) 25 (0, 0)), (gb, Obj.cells curgb 49 (0, 0)), (w.heap.size + 1, Obj.cells (outA o) 49 (0, 0)), (w.heap.size, Obj.cells (txA t) 25 (0, 0))] rfl EX35.out ?_
  refine lexH_phase [0] [1, 2] ?_
  have hw37 : EnvX w1 _ [(gl, Obj.cells (txA (lessX t)) 25 (0, 0)), (gm, Obj.cells (txA (moreX t o gb capgb)) 25 (0, 0)), (gb, Obj.cells curgb 49 (0, 0)), (w.heap.size + 1, Obj.cells (outA o) 49 (0, 0)), (w.heap.size, Obj.cells (txA t) 25 (0, 0))] := EX35.out
  have hone := @EnvC.one _ _ _ hw37
  (refine wpG_val (v := txV t) rfl rfl (fun u hu => load_any_op u (box_tx hu (List.Mem.tail _ (List.Mem.tail _ (List.Mem.tail _ (List.Mem.tail _ (List.Mem.head _)))))) rfl) ?_ hw37; intro K hK; go_big_quiet_op; go_big_quiet_on)
  clear hone hw37
  refine wpG_nil ?_
  refine (hOp_fresh (R := fun x N => ∃ g, x = .pointer (some ⟨g, 0, none⟩) ∧ N = [(g, Obj.cells (txA noTxM) 25 (0, 0))]) (M0 := [(gl, Obj.cells (txA (lessX t)) 25 (0, 0)), (gm, Obj.cells (txA (moreX t o gb capgb)) 25 (0, 0)), (gb, Obj.cells curgb 49 (0, 0)), (w.heap.size + 1, Obj.cells (outA o) 49 (0, 0)), (w.heap.size, Obj.cells (txA t) 25 (0, 0))]) rfl rfl (fun _ h => h) (fun u hu => FAt_new (new_tx _) u) ?_)
  rintro _ _ ⟨gt, rfl, rfl⟩ hf he38; intro K' hK'; go_big_quiet_op; go_big_quiet_on
  have HGT := Lib.hid (hf _ (List.mem_singleton.2 rfl))
  clear hf
  change lexH _ _ _ _ _ _ [(gt, Obj.cells (txA noTxM) 25 (0, 0)), (gl, Obj.cells (txA (lessX t)) 25 (0, 0)), (gm, Obj.cells (txA (moreX t o gb capgb)) 25 (0, 0)), (gb, Obj.cells curgb 49 (0, 0)), (w.heap.size + 1, Obj.cells (outA o) 49 (0, 0)), (w.heap.size, Obj.cells (txA t) 25 (0, 0))]
  refine (hOp_store rfl (gt) (txA t) rfl rfl HGT.out.1 25 ((txA noTxM)) (List.Mem.head _) (infoTx _ rfl) rfl (txA_one _) [(gt, Obj.cells (txA t) 25 (0, 0)), (gl, Obj.cells (txA (lessX t)) 25 (0, 0)), (gm, Obj.cells (txA (moreX t o gb capgb)) 25 (0, 0)), (gb, Obj.cells curgb 49 (0, 0)), (w.heap.size + 1, Obj.cells (outA o) 49 (0, 0)), (w.heap.size, Obj.cells (txA t) 25 (0, 0))] (List.forall_mem_cons.2 ⟨.inl rfl, fun y hy => .inr ⟨List.mem_cons_of_mem _ hy, HGT.out.2 y hy⟩⟩) ?_)
  intro he39
  intro u41 E2'
  have EX40 := Lib.hid E2'
  clear E2'
  have N_tb_gt : Hid (w.heap.size ≠ gt) := HGT.out.2 _ (List.Mem.tail _ (List.Mem.tail _ (List.Mem.tail _ (List.Mem.tail _ (List.Mem.head _)))))
  have E15 : Hid (EnvX w1 u41 [(gt, Obj.cells (txA t) 25 (0, 0)), (w.heap.size, Obj.cells (txA t) 25 (0, 0))]) := EnvX.sub EX40.out (fun y hy => by
    rcases List.mem_cons.1 hy with rfl | hy
    · exact (List.Mem.head _)
    · cases List.mem_singleton.1 hy
      exact (List.Mem.tail _ (List.Mem.tail _ (List.Mem.tail _ (List.Mem.tail _ (List.Mem.tail _ (List.Mem.head _)))))))
  go_upto_region 15 with (fail)
  refine wp_region_H (w0 := w1) [(gt, Obj.cells (txA t) 25 (0, 0)), (w.heap.size, Obj.cells (txA t) 25 (0, 0))] (by kernel_rfl) E15.out ?_
  refine anyH_phaseN [0, 1, 3, 4, 5, 6, 7] 5 rfl (by kernel_rfl) ?_
  have hw42 : EnvX w1 _ [] := EnvX.sub (EnvX.drew E15.out) (fun _ h => by cases h)
  have hone := @EnvC.one _ _ _ hw42
  (refine wpG_op rfl rfl rfl ?_; intro K hK; go_big_quiet_op; go_big_quiet_on)
  (refine wpG_val (v := .slice t.A1 t.n1 t.c1) rfl rfl (fun u hu => load_any_op u (box_tx_ins (EnvX.below E1.out (EnvX.bel hu)) (List.Mem.tail _ (List.Mem.head _))) rfl) ?_ hw42; intro K hK; go_big_quiet_op; go_big_quiet_on)
  (refine wpG_op rfl rfl rfl ?_; intro K hK; go_big_quiet_op; go_big_quiet_on)
  (refine wpG_val (v := .slice (some ad) t.n1 t.c1) rfl rfl (fun u hu => by have h1 := box_tx_ins (EnvX.below E1.out (EnvX.bel hu)) (List.Mem.tail _ (List.Mem.head _)); rw [HA1.out] at h1; exact load_any_op u h1 rfl) ?_ hw42; intro K hK; go_big_quiet_op; go_big_quiet_on)
  (refine wpG_op rfl rfl rfl ?_; intro K hK; go_big_quiet_op; go_big_quiet_on)
  (refine wpG_val (v := .pointer (some (ad.add (j * 33)))) rfl rfl (fun u hu => idxSl_op (i := j) Tryd.underlying22 aggIn.size HJN.out u rfl rfl) ?_ hw42; intro K hK; go_big_quiet_op; go_big_quiet_on)
  (refine wpG_val (v := inV x) rfl rfl (fun u hu => load_any_op u (HLD.out u (EnvX.sub hu (fun _ h => by cases h))) rfl) ?_ hw42; intro K hK; go_big_quiet_op; go_big_quiet_on)
  clear hone hw42
  refine wpG_nil ?_
  refine anyH_twoFreshG (i := 2) (j := 8) (fun _ _ _ hM hh => env_perm _ _ _ hM hh) (by kernel_rfl) (by kernel_rfl) (by kernel_rfl) rfl rfl (by decide) (by kernel_rfl) rfl rfl (FreshR 51 33 t.n1 ((t.r.ins.map inC).flatten)) (BuiltR 51 (inC x)) [(gt, Obj.cells (txA t) 25 (0, 0)), (w.heap.size, Obj.cells (txA t) 25 (0, 0))] [(gt, Obj.cells (txA t) 25 (0, 0)), (w.heap.size, Obj.cells (txA t) 25 (0, 0))] (fun _ h => h) (fun _ h => h) (fun u hu => FAt_appC elIn HLI.out (insX_one _) (K_kt.out.up (EnvX.bel hu)).m1 (by have := HNI1.out; omega) rfl) (fun u hu => FAt_buildR elIn (inC_len HXI.out.2.len) (inC_one _) rfl u) ?_
  rintro x1 N1 x2 N2 hF1 ⟨gd, rfl, rfl⟩ hf1 hf2 he43 K1 hK1; go_big_quiet_op; go_big_quiet_on; intro K' hK'; go_big_quiet_op; go_big_quiet_on
  obtain ⟨gc, capgc, curgc, rfl, rfl, hcgc⟩ | ⟨_, _, h0, _⟩ := hF1
  case inr => have := HNI1.out; omega
  have HCgc := Lib.hid hcgc
  have HGC := Lib.hid (hf1 _ (List.mem_singleton.2 rfl))
  clear hcgc
  clear hf1 hf2
  change anyH _ _ _ _ _ _ _ _ [(gd, Obj.cells (inA x) 51 (0, 0)), (gc, Obj.cells curgc 51 (0, 0)), (gt, Obj.cells (txA t) 25 (0, 0)), (w.heap.size, Obj.cells (txA t) 25 (0, 0))]
  refine anyH_one (i := 9) (by kernel_rfl) (hOp_own (gd := none) (R := GrownR w1 51 33 (t.n1 + 1) (((t.r.ins.map inC).flatten) ++ inC x) [(gt, Obj.cells (txA t) 25 (0, 0)), (w.heap.size, Obj.cells (txA t) 25 (0, 0))]) rfl rfl rfl rfl (fun u hu => appX_op elIn [(gt, Obj.cells (txA t) 25 (0, 0)), (w.heap.size, Obj.cells (txA t) 25 (0, 0))] hu (n := t.n1) (m := 1) HLI.out (by rw [inC_len HXI.out.2.len]) (inC_one _) (.inl ⟨gc, capgc, curgc, rfl, rfl, HCgc.out⟩) (List.forall_mem_cons.2 ⟨⟨(List.Mem.tail _ (List.Mem.head _)), HGC.out.1⟩, (fun _ h => by cases h)⟩) (src_box hu (List.Mem.head _) (by rw [List.drop_zero]; exact List.take_length)) (List.forall_mem_cons.2 ⟨⟨(List.Mem.tail _ (List.Mem.tail _ (List.Mem.head _))), fun y hy => by cases List.mem_singleton.1 hy; exact HGC.out.2 _ (List.Mem.head _)⟩, (List.forall_mem_cons.2 ⟨⟨(List.Mem.tail _ (List.Mem.tail _ (List.Mem.tail _ (List.Mem.head _)))), fun y hy => by cases List.mem_singleton.1 hy; exact HGC.out.2 _ (List.Mem.tail _ (List.Mem.head _))⟩, (fun _ h => by cases h)⟩)⟩) (by have := HNI1.out; omega) rfl rfl) ?_)
  rintro x M' ⟨N, rfl, hF, hn⟩ he44; intro K' hK'; go_big_quiet_op; go_big_quiet_on
  obtain ⟨ge, capge, curge, rfl, rfl, hcge⟩ | ⟨_, _, h0, _⟩ := hF
  case inr => omega
  have HCge := Lib.hid hcge
  have HGE := Lib.hid (hn _ (List.mem_singleton.2 rfl))
  have N_ge_gt : Hid (ge ≠ gt) := fun e => HGE.out.2 _ (List.Mem.head _) e.symm
  clear hcge hn
  change anyH _ _ _ _ _ _ _ _ [(ge, Obj.cells curge 51 (0, 0)), (gt, Obj.cells (txA t) 25 (0, 0)), (w.heap.size, Obj.cells (txA t) 25 (0, 0))]
  refine anyH_phaseN [10] 1 rfl (by kernel_rfl) ?_
  have hw45 : EnvX w1 _ [] := EnvX.sub he44.choose_spec (fun _ h => by cases h)
  have hone := @EnvC.one _ _ _ hw45
  (refine wpG_op rfl rfl rfl ?_; intro K hK; go_big_quiet_op; go_big_quiet_on)
  clear hone hw45
  refine wpG_nil ?_
  refine anyH_one (i := 11) (by kernel_rfl) (hOp_putAt rfl (gt) (0) (.slice (some ⟨ge, 0, none⟩) (t.n1 + 1) capge) rfl rfl HGT.out.1 25 ((txA t)) (txA (twiceX t x ge capge)) (List.Mem.tail _ (List.Mem.head _)) infoIns (by show 0 + 1 ≤ 2; decide) (by simp [Value.cells]; rfl) rfl [(gt, Obj.cells (txA (twiceX t x ge capge)) 25 (0, 0)), (ge, Obj.cells curge 51 (0, 0)), (w.heap.size, Obj.cells (txA t) 25 (0, 0))] (List.forall_mem_cons.2 ⟨.inl rfl, (List.forall_mem_cons.2 ⟨.inr ⟨(List.Mem.head _), N_ge_gt.out⟩, (List.forall_mem_cons.2 ⟨.inr ⟨(List.Mem.tail _ (List.Mem.tail _ (List.Mem.head _))), N_tb_gt.out⟩, (fun _ h => by cases h)⟩)⟩)⟩) ?_)
  intro he46
  refine anyH_done (by kernel_rfl) ?_
  intro u48 E2'
  have EX47 := Lib.hid E2'
  clear E2'
  go_upto_region 16 with (fail)
  refine wp_region_Hx (w0 := w1) [0, 1, 2, 3] [(gt, Obj.cells (txA (twiceX t x ge capge)) 25 (0, 0)), (ge, Obj.cells curge 51 (0, 0)), (w.heap.size, Obj.cells (txA t) 25 (0, 0))] rfl EX47.out ?_
  refine lexH_phase [0, 1, 2, 3] [] ?_
  have hw49 : EnvX w1 _ [(gt, Obj.cells (txA (twiceX t x ge capge)) 25 (0, 0)), (ge, Obj.cells curge 51 (0, 0)), (w.heap.size, Obj.cells (txA t) 25 (0, 0))] := EX47.out
  have hone := @EnvC.one _ _ _ hw49
  (refine wpG_val (v := txV (twiceX t x ge capge)) rfl rfl (fun u hu => load_any_op u (box_tx hu (List.Mem.head _)) rfl) ?_ hw49; intro K hK; go_big_quiet_op; go_big_quiet_on)
  (refine wpG_call (f := 18) (args := #[txV (twiceX t x ge capge)]) (v := .bool false) rfl rfl rfl Tryd.func18 rfl rfl (fun u hu => by have h1 := HH.out.may (twiceX t x ge capge) u (twice_ok (K_kt.out.up (EnvX.bel hu)) HXI.out.2 hu (List.Mem.tail _ (List.Mem.head _)) HCge.out) (HT1.out.below (EnvX.bel hu)); rwa [HMT.out _ _ _ HXI.out.1] at h1) ?_ hw49; intro K hK; go_big_quiet_op; go_big_quiet_on)
  (refine wpG_op rfl rfl rfl ?_; intro K hK; go_big_quiet_op; go_big_quiet_on)
  (refine wpG_op rfl rfl rfl ?_; intro K hK; go_big_quiet_op; go_big_quiet_on)
  clear hone hw49
  refine wpG_nil ?_
  intro u51 E2'
  have EX50 := Lib.hid E2'
  clear E2'
  have HBE := Lib.hid (HB1.out.trans ((EnvX.bel EX50.out).mono HB1.out.size))
  go_wp2
  go_ret
  exact ⟨rfl, HBE.out⟩
set_option maxRecDepth 20000 in
set_option maxHeartbeats 8000000 in
theorem law_moreX_2f (H : CoinC) (t : TxM) (o : OutR) (q : Int) (w : World) (kt : TxOk w t) (ko : okOut o) (hq : I64 q) (ht : Tables w) (k1 : fewX t.r = true) (k2 : mayX t.r = true) (k3 : ¬ t.n2 < 3) (f0 : 1 ≤ o.v) (f1 : o.v ≤ 1099511627776) (f2 : ¬ (0 ≤ o.to)) :
    Calls Tryd.prog 8 #[txV t, outV o, .int .i64 q] w fun e w' => e = .returned (.bool true) ∧ Below w.heap.size w w' := by
  have HF_t : Hid (fewX t.r = true) := k1
  have HM_t : Hid (mayX t.r = true) := k2
  have V0 : Hid (decide (1 ≤ o.v) = true) := decide_eq_true f0
  have V1 : Hid (decide (o.v ≤ 1099511627776) = true) := decide_eq_true f1
  have V2 : Hid (decide (0 ≤ o.to) = false) := decide_eq_false f2
  have hmo : mayOut o = false := by unfold mayOut; rw [decide_eq_false_iff_not]; omega
  have hmx := mayX_iff.1 k2
  have hn2 : 1 ≤ t.n2 ∧ t.n2 ≤ 3 := by rw [← kt.l2]; omega
  have HN2 := Lib.hid hn2
  have HN63 := Lib.hid kt.n63
  have C3 : Hid (decide ((t.n2 : Int) < 3) = false) := decide_eq_false (by omega)
  obtain ⟨d1, hd1⟩ : ∃ d1, decide (1 < (t.n2 : Int)) = d1 := ⟨_, rfl⟩
  have HD1 := Lib.hid hd1
  have HMM : Hid (∀ g cap, mayX (moreX t o g cap).r = false) := fun g cap => by
    show mayX ⟨t.r.ins, t.r.outs ++ [o]⟩ = _
    rw [mayX_more k2, hmo, kt.l2, show decide (t.n2 < 3) = false from decide_eq_false k3]
    rfl
  have HML : Hid (mayX (lessX t).r = d1) := by
    show mayX ⟨t.r.ins, t.r.outs.take (t.n2 - 1)⟩ = _
    rw [← kt.l2, mayX_less k2, ← hd1, kt.l2, decide_eq_decide]
    omega
  have HMT : Hid (∀ x g cap, x ∈ t.r.ins → mayX (twiceX t x g cap).r = false) := fun x g cap hx => mayX_twice hx
  have HKO := Lib.hid ko
  have HLO := Lib.hid (outsX_len kt)
  have HLI := Lib.hid (insX_len kt)
  have HKI := Lib.hid kt.o1
  have HL1 := Lib.hid kt.l1
  have HS1 : Hid ((t.n2 : Int) - 1 = ((t.n2 - 1 : Nat) : Int) ∧ InI ((t.n2 - 1 : Nat) : Int)) := ⟨by omega, by unfold InI; omega⟩
  have HC1 : Hid (t.n2 - 1 ≤ t.c2) := by show _ ≤ _; have := kt.b2.1; omega
  have HNI : Hid (t.n1 ≤ 3) := by show _ ≤ _; rw [← kt.l1]; exact hmx.1
  have HNB : Hid (∀ b : Bool, (b != b) = false) := fun b => by cases b <;> rfl
  have HQ := Lib.hid hq
  clear k1 k2 k3 hmo hmx hn2 hd1 f0 f1 f2
  have E0 : Hid (EnvX w ((w.alloc (.cells (txA t) 25)).alloc (.cells (outA o) 49)) [(w.heap.size + 1, Obj.cells (outA o) 49 (0, 0)), (w.heap.size, Obj.cells (txA t) 25 (0, 0))]) := (EnvX.start w).two _ _
  have HAW := Lib.hid (cawake_any H ((w.alloc (.cells (txA t) 25)).alloc (.cells (outA o) 49)) (ht.below (EnvX.bel E0.out)))
  have HT := Lib.hid ht
  have HH := Lib.hid H
  have J_kt := Lib.hid kt
  clear ht H kt ko hq
  unfold txV outV
  go_enter Tryd.func8, Tryd.ntmps8
  go_upto_region 1 with (fail)
  generalize ((w.alloc (.cells (txA t) 25)).alloc (.cells (outA o) 49)) = W at *
  go_wp2_with fail
  refine HAW.out.mono ?_
  rintro e w1 ⟨rfl, hb1⟩
  have HB1 := Lib.hid (EnvX.below E0.out hb1).bel
  have E1 : Hid (EnvX w1 w1 [(w.heap.size + 1, Obj.cells (outA o) 49 (0, 0)), (w.heap.size, Obj.cells (txA t) 25 (0, 0))]) := ⟨Below.refl _ _, (EnvX.below E0.out hb1).box⟩
  have HT1 := Lib.hid (HT.out.below HB1.out)
  have K_kt := Lib.hid (J_kt.out.up HB1.out)
  clear hb1 E0 HAW HT J_kt
  go_upto_region 2 with (fail)
  refine wp_region_Hx (w0 := w1) [0, 1, 2] [(w.heap.size + 1, Obj.cells (outA o) 49 (0, 0)), (w.heap.size, Obj.cells (txA t) 25 (0, 0))] rfl E1.out ?_
  refine lexH_phase [0, 1, 2] [] ?_
  have hw1 : EnvX w1 _ [(w.heap.size + 1, Obj.cells (outA o) 49 (0, 0)), (w.heap.size, Obj.cells (txA t) 25 (0, 0))] := E1.out
  have hone := @EnvC.one _ _ _ hw1
  (refine wpG_val (v := txV t) rfl rfl (fun u hu => load_any_op u (box_tx hu (List.Mem.tail _ (List.Mem.head _))) rfl) ?_ hw1; intro K hK; go_big_quiet_op; go_big_quiet_on)
  (refine wpG_call (f := 10) (args := #[txV t]) (v := .bool true) rfl rfl rfl Tryd.func10 rfl rfl (fun u hu => by have h1 := few_any t u (K_kt.out.up (EnvX.bel hu)); rwa [HF_t.out] at h1) ?_ hw1; intro K hK; go_big_quiet_op; go_big_quiet_on)
  (refine wpG_op rfl rfl rfl ?_; intro K hK; go_big_quiet_op; go_big_quiet_on)
  clear hone hw1
  refine wpG_nil ?_
  intro u3 E2'
  have EX2 := Lib.hid E2'
  clear E2'
  go_upto_region 3 with (fail)
  refine wp_region_Hx (w0 := w1) [0, 1, 2, 3, 4, 5, 6, 7, 8, 9, 10] [(w.heap.size + 1, Obj.cells (outA o) 49 (0, 0)), (w.heap.size, Obj.cells (txA t) 25 (0, 0))] rfl EX2.out ?_
  refine lexH_phase [0, 1, 2, 3, 4, 5, 6, 7, 8, 9, 10] [] ?_
  have hw4 : EnvX w1 _ [(w.heap.size + 1, Obj.cells (outA o) 49 (0, 0)), (w.heap.size, Obj.cells (txA t) 25 (0, 0))] := EX2.out
  have hone := @EnvC.one _ _ _ hw4
  (refine wpG_op rfl rfl rfl ?_; intro K hK; go_big_quiet_op; go_big_quiet_on)
  (refine wpG_op rfl rfl rfl ?_; intro K hK; go_big_quiet_op; go_big_quiet_on)
  (refine wpG_op rfl rfl rfl ?_; intro K hK; go_big_quiet_op; go_big_quiet_on)
  (refine wpG_op rfl rfl rfl ?_; intro K hK; go_big_quiet_op; go_big_quiet_on)
  (refine wpG_op rfl rfl rfl ?_; intro K hK; go_big_quiet_op; go_big_quiet_on)
  (refine wpG_op rfl rfl rfl ?_; intro K hK; go_big_quiet_op; go_big_quiet_on)
  (refine wpG_op rfl rfl rfl ?_; intro K hK; go_big_quiet_op; go_big_quiet_on)
  (refine wpG_val (v := txV t) rfl rfl (fun u hu => load_any_op u (box_tx hu (List.Mem.tail _ (List.Mem.head _))) rfl) ?_ hw4; intro K hK; go_big_quiet_op; go_big_quiet_on)
  (refine wpG_call (f := 18) (args := #[txV t]) (v := .bool true) rfl rfl rfl Tryd.func18 rfl rfl (fun u hu => by have h1 := HH.out.may t u (K_kt.out.up (EnvX.bel hu)) (HT1.out.below (EnvX.bel hu)); rwa [HM_t.out] at h1) ?_ hw4; intro K hK; go_big_quiet_op; go_big_quiet_on)
  (refine wpG_op rfl rfl rfl ?_; intro K hK; go_big_quiet_op; go_big_quiet_on)
  (refine wpG_op rfl rfl rfl ?_; intro K hK; go_big_quiet_op; go_big_quiet_on)
  clear hone hw4
  refine wpG_nil ?_
  intro u6 E2'
  have EX5 := Lib.hid E2'
  clear E2'
  go_upto_region 5 with (fail)
  refine wp_region_Hx (w0 := w1) [0, 1, 2] [(w.heap.size + 1, Obj.cells (outA o) 49 (0, 0)), (w.heap.size, Obj.cells (txA t) 25 (0, 0))] rfl EX5.out ?_
  refine lexH_phase [0] [1, 2] ?_
  have hw7 : EnvX w1 _ [(w.heap.size + 1, Obj.cells (outA o) 49 (0, 0)), (w.heap.size, Obj.cells (txA t) 25 (0, 0))] := EX5.out
  have hone := @EnvC.one _ _ _ hw7
  (refine wpG_val (v := txV t) rfl rfl (fun u hu => load_any_op u (box_tx hu (List.Mem.tail _ (List.Mem.head _))) rfl) ?_ hw7; intro K hK; go_big_quiet_op; go_big_quiet_on)
  clear hone hw7
  refine wpG_nil ?_
  refine (hOp_fresh (R := fun x N => ∃ g, x = .pointer (some ⟨g, 0, none⟩) ∧ N = [(g, Obj.cells (txA noTxM) 25 (0, 0))]) (M0 := [(w.heap.size + 1, Obj.cells (outA o) 49 (0, 0)), (w.heap.size, Obj.cells (txA t) 25 (0, 0))]) rfl rfl (fun _ h => h) (fun u hu => FAt_new (new_tx _) u) ?_)
  rintro _ _ ⟨gm, rfl, rfl⟩ hf he8; intro K' hK'; go_big_quiet_op; go_big_quiet_on
  have HGM := Lib.hid (hf _ (List.mem_singleton.2 rfl))
  clear hf
  change lexH _ _ _ _ _ _ [(gm, Obj.cells (txA noTxM) 25 (0, 0)), (w.heap.size + 1, Obj.cells (outA o) 49 (0, 0)), (w.heap.size, Obj.cells (txA t) 25 (0, 0))]
  refine (hOp_store rfl (gm) (txA t) rfl rfl HGM.out.1 25 ((txA noTxM)) (List.Mem.head _) (infoTx _ rfl) rfl (txA_one _) [(gm, Obj.cells (txA t) 25 (0, 0)), (w.heap.size + 1, Obj.cells (outA o) 49 (0, 0)), (w.heap.size, Obj.cells (txA t) 25 (0, 0))] (List.forall_mem_cons.2 ⟨.inl rfl, fun y hy => .inr ⟨List.mem_cons_of_mem _ hy, HGM.out.2 y hy⟩⟩) ?_)
  intro he9
  intro u11 E2'
  have EX10 := Lib.hid E2'
  clear E2'
  have N_ob_gm : Hid (w.heap.size + 1 ≠ gm) := HGM.out.2 _ (List.Mem.head _)
  have N_tb_gm : Hid (w.heap.size ≠ gm) := HGM.out.2 _ (List.Mem.tail _ (List.Mem.head _))
  go_upto_region 6 with (fail)
  refine wp_region_H (w0 := w1) [(gm, Obj.cells (txA t) 25 (0, 0)), (w.heap.size + 1, Obj.cells (outA o) 49 (0, 0)), (w.heap.size, Obj.cells (txA t) 25 (0, 0))] (by kernel_rfl) EX10.out ?_
  refine anyH_phaseN [0, 1, 3] 5 rfl (by kernel_rfl) ?_
  have hw12 : EnvX w1 _ [] := EnvX.sub (EnvX.drew EX10.out) (fun _ h => by cases h)
  have hone := @EnvC.one _ _ _ hw12
  (refine wpG_op rfl rfl rfl ?_; intro K hK; go_big_quiet_op; go_big_quiet_on)
  (refine wpG_val (v := .slice t.A2 t.n2 t.c2) rfl rfl (fun u hu => load_any_op u (box_tx_outs (EnvX.below E1.out (EnvX.bel hu)) (List.Mem.tail _ (List.Mem.head _))) rfl) ?_ hw12; intro K hK; go_big_quiet_op; go_big_quiet_on)
  (refine wpG_val (v := outV o) rfl rfl (fun u hu => load_any_op u (box_out (EnvX.below E1.out (EnvX.bel hu)) (List.Mem.head _)) rfl) ?_ hw12; intro K hK; go_big_quiet_op; go_big_quiet_on)
  clear hone hw12
  refine wpG_nil ?_
  refine anyH_twoFreshG (i := 2) (j := 4) (fun _ _ _ hM hh => env_perm _ _ _ hM hh) (by kernel_rfl) (by kernel_rfl) (by kernel_rfl) rfl rfl (by decide) (by kernel_rfl) rfl rfl (FreshR 49 2 t.n2 ((t.r.outs.map outC).flatten)) (BuiltR 49 (outC o)) [(gm, Obj.cells (txA t) 25 (0, 0)), (w.heap.size + 1, Obj.cells (outA o) 49 (0, 0)), (w.heap.size, Obj.cells (txA t) 25 (0, 0))] [(gm, Obj.cells (txA t) 25 (0, 0)), (w.heap.size + 1, Obj.cells (outA o) 49 (0, 0)), (w.heap.size, Obj.cells (txA t) 25 (0, 0))] (fun _ h => h) (fun _ h => h) (fun u hu => FAt_appC elOut HLO.out (outsX_one _) (K_kt.out.up (EnvX.bel hu)).m2 (by have := HN2.out; omega) rfl) (fun u hu => FAt_buildR elOut rfl (outC_one _) rfl u) ?_
  rintro x1 N1 x2 N2 hF1 ⟨gs, rfl, rfl⟩ hf1 hf2 he13 K1 hK1; go_big_quiet_op; go_big_quiet_on; intro K' hK'; go_big_quiet_op; go_big_quiet_on
  obtain ⟨ga, capga, curga, rfl, rfl, hcga⟩ | ⟨_, _, h0, _⟩ := hF1
  case inr => have := HN2.out; omega
  have HCga := Lib.hid hcga
  have HGA := Lib.hid (hf1 _ (List.mem_singleton.2 rfl))
  clear hcga
  clear hf1 hf2
  change anyH _ _ _ _ _ _ _ _ [(gs, Obj.cells (outA o) 49 (0, 0)), (ga, Obj.cells curga 49 (0, 0)), (gm, Obj.cells (txA t) 25 (0, 0)), (w.heap.size + 1, Obj.cells (outA o) 49 (0, 0)), (w.heap.size, Obj.cells (txA t) 25 (0, 0))]
  refine anyH_one (i := 5) (by kernel_rfl) (hOp_own (gd := none) (R := GrownR w1 49 2 (t.n2 + 1) (((t.r.outs.map outC).flatten) ++ outC o) [(gm, Obj.cells (txA t) 25 (0, 0)), (w.heap.size + 1, Obj.cells (outA o) 49 (0, 0)), (w.heap.size, Obj.cells (txA t) 25 (0, 0))]) rfl rfl rfl rfl (fun u hu => appX_op elOut [(gm, Obj.cells (txA t) 25 (0, 0)), (w.heap.size + 1, Obj.cells (outA o) 49 (0, 0)), (w.heap.size, Obj.cells (txA t) 25 (0, 0))] hu (n := t.n2) (m := 1) HLO.out rfl (outC_one _) (.inl ⟨ga, capga, curga, rfl, rfl, HCga.out⟩) (List.forall_mem_cons.2 ⟨⟨(List.Mem.tail _ (List.Mem.head _)), HGA.out.1⟩, (fun _ h => by cases h)⟩) (src_box hu (List.Mem.head _) rfl) (List.forall_mem_cons.2 ⟨⟨(List.Mem.tail _ (List.Mem.tail _ (List.Mem.head _))), fun y hy => by cases List.mem_singleton.1 hy; exact HGA.out.2 _ (List.Mem.head _)⟩, (List.forall_mem_cons.2 ⟨⟨(List.Mem.tail _ (List.Mem.tail _ (List.Mem.tail _ (List.Mem.head _)))), fun y hy => by cases List.mem_singleton.1 hy; exact HGA.out.2 _ (List.Mem.tail _ (List.Mem.head _))⟩, (List.forall_mem_cons.2 ⟨⟨(List.Mem.tail _ (List.Mem.tail _ (List.Mem.tail _ (List.Mem.tail _ (List.Mem.head _))))), fun y hy => by cases List.mem_singleton.1 hy; exact HGA.out.2 _ (List.Mem.tail _ (List.Mem.tail _ (List.Mem.head _)))⟩, (fun _ h => by cases h)⟩)⟩)⟩) (by have := HN2.out; omega) rfl rfl) ?_)
  rintro x M' ⟨N, rfl, hF, hn⟩ he14; intro K' hK'; go_big_quiet_op; go_big_quiet_on
  obtain ⟨gb, capgb, curgb, rfl, rfl, hcgb⟩ | ⟨_, _, h0, _⟩ := hF
  case inr => omega
  have HCgb := Lib.hid hcgb
  have HGB := Lib.hid (hn _ (List.mem_singleton.2 rfl))
  have N_gb_gm : Hid (gb ≠ gm) := fun e => HGB.out.2 _ (List.Mem.head _) e.symm
  clear hcgb hn
  change anyH _ _ _ _ _ _ _ _ [(gb, Obj.cells curgb 49 (0, 0)), (gm, Obj.cells (txA t) 25 (0, 0)), (w.heap.size + 1, Obj.cells (outA o) 49 (0, 0)), (w.heap.size, Obj.cells (txA t) 25 (0, 0))]
  refine anyH_phaseN [6] 1 rfl (by kernel_rfl) ?_
  have hw15 : EnvX w1 _ [] := EnvX.sub he14.choose_spec (fun _ h => by cases h)
  have hone := @EnvC.one _ _ _ hw15
  (refine wpG_op rfl rfl rfl ?_; intro K hK; go_big_quiet_op; go_big_quiet_on)
  clear hone hw15
  refine wpG_nil ?_
  refine anyH_one (i := 7) (by kernel_rfl) (hOp_putAt rfl (gm) (1) (.slice (some ⟨gb, 0, none⟩) (t.n2 + 1) capgb) rfl rfl HGM.out.1 25 ((txA t)) (txA (moreX t o gb capgb)) (List.Mem.tail _ (List.Mem.head _)) infoOuts (by show 1 + 1 ≤ 2; decide) (by simp [Value.cells]; rfl) rfl [(gm, Obj.cells (txA (moreX t o gb capgb)) 25 (0, 0)), (gb, Obj.cells curgb 49 (0, 0)), (w.heap.size + 1, Obj.cells (outA o) 49 (0, 0)), (w.heap.size, Obj.cells (txA t) 25 (0, 0))] (List.forall_mem_cons.2 ⟨.inl rfl, (List.forall_mem_cons.2 ⟨.inr ⟨(List.Mem.head _), N_gb_gm.out⟩, (List.forall_mem_cons.2 ⟨.inr ⟨(List.Mem.tail _ (List.Mem.tail _ (List.Mem.head _))), N_ob_gm.out⟩, (List.forall_mem_cons.2 ⟨.inr ⟨(List.Mem.tail _ (List.Mem.tail _ (List.Mem.tail _ (List.Mem.head _)))), N_tb_gm.out⟩, (fun _ h => by cases h)⟩)⟩)⟩)⟩) ?_)
  intro he16
  refine anyH_done (by kernel_rfl) ?_
  intro u18 E2'
  have EX17 := Lib.hid E2'
  clear E2'
  go_upto_region 7 with (fail)
  refine wp_region_Hx (w0 := w1) [0, 1, 2] [(gm, Obj.cells (txA (moreX t o gb capgb)) 25 (0, 0)), (gb, Obj.cells curgb 49 (0, 0)), (w.heap.size + 1, Obj.cells (outA o) 49 (0, 0)), (w.heap.size, Obj.cells (txA t) 25 (0, 0))] rfl EX17.out ?_
  refine lexH_phase [0] [1, 2] ?_
  have hw19 : EnvX w1 _ [(gm, Obj.cells (txA (moreX t o gb capgb)) 25 (0, 0)), (gb, Obj.cells curgb 49 (0, 0)), (w.heap.size + 1, Obj.cells (outA o) 49 (0, 0)), (w.heap.size, Obj.cells (txA t) 25 (0, 0))] := EX17.out
  have hone := @EnvC.one _ _ _ hw19
  (refine wpG_val (v := txV t) rfl rfl (fun u hu => load_any_op u (box_tx hu (List.Mem.tail _ (List.Mem.tail _ (List.Mem.tail _ (List.Mem.head _))))) rfl) ?_ hw19; intro K hK; go_big_quiet_op; go_big_quiet_on)
  clear hone hw19
  refine wpG_nil ?_
  refine (hOp_fresh (R := fun x N => ∃ g, x = .pointer (some ⟨g, 0, none⟩) ∧ N = [(g, Obj.cells (txA noTxM) 25 (0, 0))]) (M0 := [(gm, Obj.cells (txA (moreX t o gb capgb)) 25 (0, 0)), (gb, Obj.cells curgb 49 (0, 0)), (w.heap.size + 1, Obj.cells (outA o) 49 (0, 0)), (w.heap.size, Obj.cells (txA t) 25 (0, 0))]) rfl rfl (fun _ h => h) (fun u hu => FAt_new (new_tx _) u) ?_)
  rintro _ _ ⟨gl, rfl, rfl⟩ hf he20; intro K' hK'; go_big_quiet_op; go_big_quiet_on
  have HGL := Lib.hid (hf _ (List.mem_singleton.2 rfl))
  clear hf
  change lexH _ _ _ _ _ _ [(gl, Obj.cells (txA noTxM) 25 (0, 0)), (gm, Obj.cells (txA (moreX t o gb capgb)) 25 (0, 0)), (gb, Obj.cells curgb 49 (0, 0)), (w.heap.size + 1, Obj.cells (outA o) 49 (0, 0)), (w.heap.size, Obj.cells (txA t) 25 (0, 0))]
  refine (hOp_store rfl (gl) (txA t) rfl rfl HGL.out.1 25 ((txA noTxM)) (List.Mem.head _) (infoTx _ rfl) rfl (txA_one _) [(gl, Obj.cells (txA t) 25 (0, 0)), (gm, Obj.cells (txA (moreX t o gb capgb)) 25 (0, 0)), (gb, Obj.cells curgb 49 (0, 0)), (w.heap.size + 1, Obj.cells (outA o) 49 (0, 0)), (w.heap.size, Obj.cells (txA t) 25 (0, 0))] (List.forall_mem_cons.2 ⟨.inl rfl, fun y hy => .inr ⟨List.mem_cons_of_mem _ hy, HGL.out.2 y hy⟩⟩) ?_)
  intro he21
  intro u23 E2'
  have EX22 := Lib.hid E2'
  clear E2'
  go_upto_region 8 with (fail)
  refine wp_region_Hx (w0 := w1) [0, 1, 2, 3, 4, 5, 6, 7, 8] [(gl, Obj.cells (txA t) 25 (0, 0)), (gm, Obj.cells (txA (moreX t o gb capgb)) 25 (0, 0)), (gb, Obj.cells curgb 49 (0, 0)), (w.heap.size + 1, Obj.cells (outA o) 49 (0, 0)), (w.heap.size, Obj.cells (txA t) 25 (0, 0))] rfl EX22.out ?_
  refine lexH_phase [0, 1, 2, 3, 4, 5, 6, 7] [8] ?_
  have hw24 : EnvX w1 _ [(gl, Obj.cells (txA t) 25 (0, 0)), (gm, Obj.cells (txA (moreX t o gb capgb)) 25 (0, 0)), (gb, Obj.cells curgb 49 (0, 0)), (w.heap.size + 1, Obj.cells (outA o) 49 (0, 0)), (w.heap.size, Obj.cells (txA t) 25 (0, 0))] := EX22.out
  have hone := @EnvC.one _ _ _ hw24
  (refine wpG_op rfl rfl rfl ?_; intro K hK; go_big_quiet_op; go_big_quiet_on)
  (refine wpG_val (v := .slice t.A2 t.n2 t.c2) rfl rfl (fun u hu => load_any_op u (box_tx_outs hu (List.Mem.tail _ (List.Mem.tail _ (List.Mem.tail _ (List.Mem.tail _ (List.Mem.head _)))))) rfl) ?_ hw24; intro K hK; go_big_quiet_op; go_big_quiet_on)
  (refine wpG_op rfl rfl rfl ?_; intro K hK; go_big_quiet_op; go_big_quiet_on)
  (refine wpG_val (v := .slice t.A2 t.n2 t.c2) rfl rfl (fun u hu => load_any_op u (box_tx_outs hu (List.Mem.tail _ (List.Mem.tail _ (List.Mem.tail _ (List.Mem.tail _ (List.Mem.head _)))))) rfl) ?_ hw24; intro K hK; go_big_quiet_op; go_big_quiet_on)
  (refine wpG_val (v := .int .i64 (t.n2 : Int)) rfl rfl (fun u hu => len_op Tryd.underlying23 HN63.out.2 u rfl) ?_ hw24; intro K hK; go_big_quiet_op; go_big_quiet_on)
  (refine wpG_val (v := .int .i64 ((t.n2 - 1 : Nat) : Int)) rfl rfl (fun u hu => sub_op u HS1.out.1 HS1.out.2 rfl rfl) ?_ hw24; intro K hK; go_big_quiet_op; go_big_quiet_on)
  (refine wpG_val (v := .slice t.A2 (t.n2 - 1) t.c2) rfl rfl (fun u hu => cutXh_op elOut u HC1.out rfl rfl) ?_ hw24; intro K hK; go_big_quiet_op; go_big_quiet_on)
  (refine wpG_op rfl rfl rfl ?_; intro K hK; go_big_quiet_op; go_big_quiet_on)
  clear hone hw24
  refine wpG_nil ?_
  refine (hOp_putAt rfl (gl) (1) (.slice t.A2 (t.n2 - 1) t.c2) rfl rfl HGL.out.1 25 ((txA t)) (txA (lessX t)) (List.Mem.head _) infoOuts (by show 1 + 1 ≤ 2; decide) (by simp [Value.cells]; rfl) rfl [(gl, Obj.cells (txA (lessX t)) 25 (0, 0)), (gm, Obj.cells (txA (moreX t o gb capgb)) 25 (0, 0)), (gb, Obj.cells curgb 49 (0, 0)), (w.heap.size + 1, Obj.cells (outA o) 49 (0, 0)), (w.heap.size, Obj.cells (txA t) 25 (0, 0))] (List.forall_mem_cons.2 ⟨.inl rfl, fun y hy => .inr ⟨List.mem_cons_of_mem _ hy, HGL.out.2 y hy⟩⟩) ?_)
  intro he25
  intro u27 E2'
  have EX26 := Lib.hid E2'
  clear E2'
  go_upto_region 9 with (fail)
  refine wp_region_Hx (w0 := w1) [0, 1, 2, 3, 4, 5, 6, 7, 8, 9, 10, 11, 12, 13, 14, 15, 16, 17, 18] [(gl, Obj.cells (txA (lessX t)) 25 (0, 0)), (gm, Obj.cells (txA (moreX t o gb capgb)) 25 (0, 0)), (gb, Obj.cells curgb 49 (0, 0)), (w.heap.size + 1, Obj.cells (outA o) 49 (0, 0)), (w.heap.size, Obj.cells (txA t) 25 (0, 0))] rfl EX26.out ?_
  refine lexH_phase [0, 1, 2, 3, 4, 5, 6, 7, 8, 9, 10, 11, 12, 13, 14, 15, 16, 17, 18] [] ?_
  have hw28 : EnvX w1 _ [(gl, Obj.cells (txA (lessX t)) 25 (0, 0)), (gm, Obj.cells (txA (moreX t o gb capgb)) 25 (0, 0)), (gb, Obj.cells curgb 49 (0, 0)), (w.heap.size + 1, Obj.cells (outA o) 49 (0, 0)), (w.heap.size, Obj.cells (txA t) 25 (0, 0))] := EX26.out
  have hone := @EnvC.one _ _ _ hw28
  (refine wpG_op rfl rfl rfl ?_; intro K hK; go_big_quiet_op; go_big_quiet_on)
  (refine wpG_val (v := .int .i64 o.v) rfl rfl (fun u hu => load_any_op u (box_out_v hu (List.Mem.tail _ (List.Mem.tail _ (List.Mem.tail _ (List.Mem.head _))))) rfl) ?_ hw28; intro K hK; go_big_quiet_op; go_big_quiet_on)
  (refine wpG_val (v := .bool true) rfl rfl (fun u hu => geZ_op u V0.out rfl rfl) ?_ hw28; intro K hK; go_big_quiet_op; go_big_quiet_on)
  (refine wpG_op rfl rfl rfl ?_; intro K hK; go_big_quiet_op; go_big_quiet_on)
  (refine wpG_op rfl rfl rfl ?_; intro K hK; go_big_quiet_op; go_big_quiet_on)
  (refine wpG_val (v := .int .i64 o.v) rfl rfl (fun u hu => load_any_op u (box_out_v hu (List.Mem.tail _ (List.Mem.tail _ (List.Mem.tail _ (List.Mem.head _))))) rfl) ?_ hw28; intro K hK; go_big_quiet_op; go_big_quiet_on)
  (refine wpG_val (v := .bool true) rfl rfl (fun u hu => leZ_op u V1.out rfl rfl) ?_ hw28; intro K hK; go_big_quiet_op; go_big_quiet_on)
  (refine wpG_op rfl rfl rfl ?_; intro K hK; go_big_quiet_op; go_big_quiet_on)
  (refine wpG_op rfl rfl rfl ?_; intro K hK; go_big_quiet_op; go_big_quiet_on)
  (refine wpG_op rfl rfl rfl ?_; intro K hK; go_big_quiet_op; go_big_quiet_on)
  (refine wpG_val (v := .int .i64 o.to) rfl rfl (fun u hu => load_any_op u (box_out_to hu (List.Mem.tail _ (List.Mem.tail _ (List.Mem.tail _ (List.Mem.head _))))) rfl) ?_ hw28; intro K hK; go_big_quiet_op; go_big_quiet_on)
  (refine wpG_val (v := .bool false) rfl rfl (fun u hu => geZ_op u V2.out rfl rfl) ?_ hw28; intro K hK; go_big_quiet_op; go_big_quiet_on)
  (refine wpG_op rfl rfl rfl ?_; intro K hK; go_big_quiet_op; go_big_quiet_on)
  (refine wpG_op rfl rfl rfl ?_; intro K hK; go_big_quiet_op; go_big_quiet_on)
  (refine wpG_skip rfl rfl ?_ hw28; intro K hK; go_big_quiet_op; go_big_quiet_on)
  (refine wpG_skip rfl rfl ?_ hw28; intro K hK; go_big_quiet_op; go_big_quiet_on)
  (refine wpG_skip rfl rfl ?_ hw28; intro K hK; go_big_quiet_op; go_big_quiet_on)
  (refine wpG_op rfl rfl rfl ?_; intro K hK; go_big_quiet_op; go_big_quiet_on)
  (refine wpG_op rfl rfl rfl ?_; intro K hK; go_big_quiet_op; go_big_quiet_on)
  clear hone hw28
  refine wpG_nil ?_
  intro u30 E2'
  have EX29 := Lib.hid E2'
  clear E2'
  go_upto_region 10 with (fail)
  refine wp_region_H (w0 := w1) [(gl, Obj.cells (txA (lessX t)) 25 (0, 0)), (gm, Obj.cells (txA (moreX t o gb capgb)) 25 (0, 0)), (gb, Obj.cells curgb 49 (0, 0)), (w.heap.size + 1, Obj.cells (outA o) 49 (0, 0)), (w.heap.size, Obj.cells (txA t) 25 (0, 0))] (by kernel_rfl) EX29.out ?_
  refine anyH_phase [0, 1, 2, 3, 4, 5, 6, 7, 8, 9, 10, 11, 12, 13, 14, 15, 16, 17, 18] 0 rfl ⟨_, (EnvX.drew EX29.out)⟩ (by kernel_rfl) ?_
  have hw31 : EnvX w1 _ [(gl, Obj.cells (txA (lessX t)) 25 (0, 0)), (gm, Obj.cells (txA (moreX t o gb capgb)) 25 (0, 0)), (gb, Obj.cells curgb 49 (0, 0)), (w.heap.size + 1, Obj.cells (outA o) 49 (0, 0)), (w.heap.size, Obj.cells (txA t) 25 (0, 0))] := (EnvX.drew EX29.out)
  have hone := @EnvC.one _ _ _ hw31
  (refine wpG_val (v := txV (moreX t o gb capgb)) rfl rfl (fun u hu => load_any_op u (box_tx hu (List.Mem.tail _ (List.Mem.head _))) rfl) ?_ hw31; intro K hK; go_big_quiet_op; go_big_quiet_on)
  (refine wpG_call (f := 18) (args := #[txV (moreX t o gb capgb)]) (v := .bool false) rfl rfl rfl Tryd.func18 rfl rfl (fun u hu => by have h1 := HH.out.may (moreX t o gb capgb) u (more_ok (K_kt.out.up (EnvX.bel hu)) HKO.out hu (List.Mem.tail _ (List.Mem.tail _ (List.Mem.head _))) HCgb.out) (HT1.out.below (EnvX.bel hu)); rwa [HMM.out] at h1) ?_ hw31; intro K hK; go_big_quiet_op; go_big_quiet_on)
  (refine wpG_op rfl rfl rfl ?_; intro K hK; go_big_quiet_op; go_big_quiet_on)
  (refine wpG_val (v := .slice t.A2 t.n2 t.c2) rfl rfl (fun u hu => load_any_op u (box_tx_outs hu (List.Mem.tail _ (List.Mem.tail _ (List.Mem.tail _ (List.Mem.tail _ (List.Mem.head _)))))) rfl) ?_ hw31; intro K hK; go_big_quiet_op; go_big_quiet_on)
  (refine wpG_val (v := .int .i64 (t.n2 : Int)) rfl rfl (fun u hu => len_op Tryd.underlying23 HN63.out.2 u rfl) ?_ hw31; intro K hK; go_big_quiet_op; go_big_quiet_on)
  (refine wpG_val (v := .bool false) rfl rfl (fun u hu => ltZ_op u C3.out rfl rfl) ?_ hw31; intro K hK; go_big_quiet_op; go_big_quiet_on)
  (refine wpG_op rfl rfl rfl ?_; intro K hK; go_big_quiet_op; go_big_quiet_on)
  (refine wpG_skip rfl rfl ?_ hw31; intro K hK; go_big_quiet_op; go_big_quiet_on)
  (refine wpG_op rfl rfl rfl ?_; intro K hK; go_big_quiet_op; go_big_quiet_on)
  (refine wpG_val (v := .bool false) rfl rfl (fun u hu => neqBc_op u rfl rfl rfl) ?_ hw31; intro K hK; go_big_quiet_op; go_big_quiet_on)
  (refine wpG_op rfl rfl rfl ?_; intro K hK; go_big_quiet_op; go_big_quiet_on)
  (refine wpG_val (v := txV (lessX t)) rfl rfl (fun u hu => load_any_op u (box_tx hu (List.Mem.head _)) rfl) ?_ hw31; intro K hK; go_big_quiet_op; go_big_quiet_on)
  (refine wpG_call (f := 18) (args := #[txV (lessX t)]) (v := .bool d1) rfl rfl rfl Tryd.func18 rfl rfl (fun u hu => by have h1 := HH.out.may (lessX t) u (less_ok (K_kt.out.up (EnvX.bel hu))) (HT1.out.below (EnvX.bel hu)); rwa [HML.out] at h1) ?_ hw31; intro K hK; go_big_quiet_op; go_big_quiet_on)
  (refine wpG_op rfl rfl rfl ?_; intro K hK; go_big_quiet_op; go_big_quiet_on)
  (refine wpG_val (v := .slice t.A2 t.n2 t.c2) rfl rfl (fun u hu => load_any_op u (box_tx_outs hu (List.Mem.tail _ (List.Mem.tail _ (List.Mem.tail _ (List.Mem.tail _ (List.Mem.head _)))))) rfl) ?_ hw31; intro K hK; go_big_quiet_op; go_big_quiet_on)
  (refine wpG_val (v := .int .i64 (t.n2 : Int)) rfl rfl (fun u hu => len_op Tryd.underlying23 HN63.out.2 u rfl) ?_ hw31; intro K hK; go_big_quiet_op; go_big_quiet_on)
  (refine wpG_val (v := .bool d1) rfl rfl (fun u hu => gtZ_op u HD1.out rfl rfl) ?_ hw31; intro K hK; go_big_quiet_op; go_big_quiet_on)
  (refine wpG_val (v := .bool false) rfl rfl (fun u hu => neqBc_op u (HNB.out _) rfl rfl) ?_ hw31; intro K hK; go_big_quiet_op; go_big_quiet_on)
  (refine wpG_op rfl rfl rfl ?_; intro K hK; go_big_quiet_op; go_big_quiet_on)
  clear hone hw31
  refine wpG_nil ?_
  refine anyH_done (by kernel_rfl) ?_
  intro u33 E2'
  have EX32 := Lib.hid E2'
  clear E2'
  by_cases d : q < 0
  · have D1 : Hid (decide (q < 0) = true) := decide_eq_true d
    clear d
    go_upto_region 12 with (fail)
    refine wp_region_Hx (w0 := w1) [0, 1, 2, 3, 4, 5, 6, 7, 8] [(gl, Obj.cells (txA (lessX t)) 25 (0, 0)), (gm, Obj.cells (txA (moreX t o gb capgb)) 25 (0, 0)), (gb, Obj.cells curgb 49 (0, 0)), (w.heap.size + 1, Obj.cells (outA o) 49 (0, 0)), (w.heap.size, Obj.cells (txA t) 25 (0, 0))] rfl EX32.out ?_
    refine lexH_phase [0, 1, 2, 3, 4, 5, 6, 7, 8] [] ?_
    have hw34 : EnvX w1 _ [(gl, Obj.cells (txA (lessX t)) 25 (0, 0)), (gm, Obj.cells (txA (moreX t o gb capgb)) 25 (0, 0)), (gb, Obj.cells curgb 49 (0, 0)), (w.heap.size + 1, Obj.cells (outA o) 49 (0, 0)), (w.heap.size, Obj.cells (txA t) 25 (0, 0))] := EX32.out
    have hone := @EnvC.one _ _ _ hw34
    (refine wpG_op rfl rfl rfl ?_; intro K hK; go_big_quiet_op; go_big_quiet_on)
    (refine wpG_val (v := .bool true) rfl rfl (fun u hu => ltZ_op u D1.out rfl rfl) ?_ hw34; intro K hK; go_big_quiet_op; go_big_quiet_on)
    (refine wpG_op rfl rfl rfl ?_; intro K hK; go_big_quiet_op; go_big_quiet_on)
    (refine wpG_skip rfl rfl ?_ hw34; intro K hK; go_big_quiet_op; go_big_quiet_on)
    (refine wpG_skip rfl rfl ?_ hw34; intro K hK; go_big_quiet_op; go_big_quiet_on)
    (refine wpG_skip rfl rfl ?_ hw34; intro K hK; go_big_quiet_op; go_big_quiet_on)
    (refine wpG_skip rfl rfl ?_ hw34; intro K hK; go_big_quiet_op; go_big_quiet_on)
    (refine wpG_skip rfl rfl ?_ hw34; intro K hK; go_big_quiet_op; go_big_quiet_on)
    (refine wpG_op rfl rfl rfl ?_; intro K hK; go_big_quiet_op; go_big_quiet_on)
    clear hone hw34
    refine wpG_nil ?_
    intro u36 E2'
    have EX35 := Lib.hid E2'
    clear E2'
    have HBE := Lib.hid (HB1.out.trans ((EnvX.bel EX35.out).mono HB1.out.size))
    go_wp2
    go_ret
    exact ⟨rfl, HBE.out⟩
  have D1 : Hid (decide (q < 0) = false) := decide_eq_false d
  by_cases d7 : (t.n1 : Int) ≤ q
  · have D7 : Hid (decide ((t.n1 : Int) ≤ q) = true) := decide_eq_true d7
    clear d d7
    go_upto_region 12 with (fail)
    refine wp_region_Hx (w0 := w1) [0, 1, 2, 3, 4, 5, 6, 7, 8] [(gl, Obj.cells (txA (lessX t)) 25 (0, 0)), (gm, Obj.cells (txA (moreX t o gb capgb)) 25 (0, 0)), (gb, Obj.cells curgb 49 (0, 0)), (w.heap.size + 1, Obj.cells (outA o) 49 (0, 0)), (w.heap.size, Obj.cells (txA t) 25 (0, 0))] rfl EX32.out ?_
    refine lexH_phase [0, 1, 2, 3, 4, 5, 6, 7, 8] [] ?_
    have hw34 : EnvX w1 _ [(gl, Obj.cells (txA (lessX t)) 25 (0, 0)), (gm, Obj.cells (txA (moreX t o gb capgb)) 25 (0, 0)), (gb, Obj.cells curgb 49 (0, 0)), (w.heap.size + 1, Obj.cells (outA o) 49 (0, 0)), (w.heap.size, Obj.cells (txA t) 25 (0, 0))] := EX32.out
    have hone := @EnvC.one _ _ _ hw34
    (refine wpG_op rfl rfl rfl ?_; intro K hK; go_big_quiet_op; go_big_quiet_on)
    (refine wpG_val (v := .bool false) rfl rfl (fun u hu => ltZ_op u D1.out rfl rfl) ?_ hw34; intro K hK; go_big_quiet_op; go_big_quiet_on)
    (refine wpG_op rfl rfl rfl ?_; intro K hK; go_big_quiet_op; go_big_quiet_on)
    (refine wpG_op rfl rfl rfl ?_; intro K hK; go_big_quiet_op; go_big_quiet_on)
    (refine wpG_op rfl rfl rfl ?_; intro K hK; go_big_quiet_op; go_big_quiet_on)
    (refine wpG_val (v := .slice t.A1 t.n1 t.c1) rfl rfl (fun u hu => load_any_op u (box_tx_ins hu (List.Mem.tail _ (List.Mem.tail _ (List.Mem.tail _ (List.Mem.tail _ (List.Mem.head _)))))) rfl) ?_ hw34; intro K hK; go_big_quiet_op; go_big_quiet_on)
    (refine wpG_val (v := .int .i64 (t.n1 : Int)) rfl rfl (fun u hu => len_op Tryd.underlying22 HN63.out.1 u rfl) ?_ hw34; intro K hK; go_big_quiet_op; go_big_quiet_on)
    (refine wpG_val (v := .bool true) rfl rfl (fun u hu => geZ_op u D7.out rfl rfl) ?_ hw34; intro K hK; go_big_quiet_op; go_big_quiet_on)
    (refine wpG_op rfl rfl rfl ?_; intro K hK; go_big_quiet_op; go_big_quiet_on)
    clear hone hw34
    refine wpG_nil ?_
    intro u36 E2'
    have EX35 := Lib.hid E2'
    clear E2'
    have HBE := Lib.hid (HB1.out.trans ((EnvX.bel EX35.out).mono HB1.out.size))
    go_wp2
    go_ret
    exact ⟨rfl, HBE.out⟩
  have D7 : Hid (decide ((t.n1 : Int) ≤ q) = false) := decide_eq_false d7
  obtain ⟨j, rfl⟩ := Int.eq_ofNat_of_zero_le (show 0 ≤ q by omega)
  have HJN : Hid (j < t.n1) := by show _ < _; omega
  have hjl : j < t.r.ins.length := by rw [HL1.out]; exact HJN.out
  obtain ⟨ad, ha1, -, hld⟩ := K_kt.out.m1.loads HKI.out hjl
  have HA1 := Lib.hid ha1
  have HLD : Hid (∀ u, EnvX w1 u [] → (loadVar 51 (ad.add (j * 33))).run Tryd.prog u = .ok (inV (t.r.ins.getD j noIn)) u) := fun u hu => (hld u hu).1
  have HXI : Hid (t.r.ins.getD j noIn ∈ t.r.ins ∧ okIn (t.r.ins.getD j noIn)) := ⟨by rw [List.getD_eq_getElem?_getD, List.getElem?_eq_getElem hjl]; exact List.getElem_mem hjl, okIns.get HKI.out hjl⟩
  have HNI1 : Hid (1 ≤ t.n1 ∧ t.n1 ≤ 3) := ⟨by have := HJN.out; omega, HNI.out⟩
  clear d d7 ha1 hld hjl
  generalize t.r.ins.getD j noIn = x at *
  go_upto_region 12 with (fail)
  refine wp_region_Hx (w0 := w1) [0, 1, 2, 3, 4, 5, 6, 7, 8] [(gl, Obj.cells (txA (lessX t)) 25 (0, 0)), (gm, Obj.cells (txA (moreX t o gb capgb)) 25 (0, 0)), (gb, Obj.cells curgb 49 (0, 0)), (w.heap.size + 1, Obj.cells (outA o) 49 (0, 0)), (w.heap.size, Obj.cells (txA t) 25 (0, 0))] rfl EX32.out ?_
  refine lexH_phase [0, 1, 2, 3, 4, 5, 6, 7, 8] [] ?_
  have hw34 : EnvX w1 _ [(gl, Obj.cells (txA (lessX t)) 25 (0, 0)), (gm, Obj.cells (txA (moreX t o gb capgb)) 25 (0, 0)), (gb, Obj.cells curgb 49 (0, 0)), (w.heap.size + 1, Obj.cells (outA o) 49 (0, 0)), (w.heap.size, Obj.cells (txA t) 25 (0, 0))] := EX32.out
  have hone := @EnvC.one _ _ _ hw34
  (refine wpG_op rfl rfl rfl ?_; intro K hK; go_big_quiet_op; go_big_quiet_on)
  (refine wpG_val (v := .bool false) rfl rfl (fun u hu => ltZ_op u D1.out rfl rfl) ?_ hw34; intro K hK; go_big_quiet_op; go_big_quiet_on)
  (refine wpG_op rfl rfl rfl ?_; intro K hK; go_big_quiet_op; go_big_quiet_on)
  (refine wpG_op rfl rfl rfl ?_; intro K hK; go_big_quiet_op; go_big_quiet_on)
  (refine wpG_op rfl rfl rfl ?_; intro K hK; go_big_quiet_op; go_big_quiet_on)
  (refine wpG_val (v := .slice t.A1 t.n1 t.c1) rfl rfl (fun u hu => load_any_op u (box_tx_ins hu (List.Mem.tail _ (List.Mem.tail _ (List.Mem.tail _ (List.Mem.tail _ (List.Mem.head _)))))) rfl) ?_ hw34; intro K hK; go_big_quiet_op; go_big_quiet_on)
  (refine wpG_val (v := .int .i64 (t.n1 : Int)) rfl rfl (fun u hu => len_op Tryd.underlying22 HN63.out.1 u rfl) ?_ hw34; intro K hK; go_big_quiet_op; go_big_quiet_on)
  (refine wpG_val (v := .bool false) rfl rfl (fun u hu => geZ_op u D7.out rfl rfl) ?_ hw34; intro K hK; go_big_quiet_op; go_big_quiet_on)
  (refine wpG_op rfl rfl rfl ?_; intro K hK; go_big_quiet_op; go_big_quiet_on)
  clear hone hw34
  refine wpG_nil ?_
  intro u36 E2'
  have EX35 := Lib.hid E2'
  clear E2'
  go_upto_region 14 with (fail)
  refine wp_region_Hx (w0 := w1) [0, 1, 2] [(gl, Obj.cells (txA (lessX t)) 25 (0, 0)), (gm, Obj.cells (txA (moreX t o gb capgb)) 25 (0, 0)), (gb, Obj.cells curgb 49 (0, 0)), (w.heap.size + 1, Obj.cells (outA o) 49 (0, 0)), (w.heap.size, Obj.cells (txA t) 25 (0, 0))] rfl EX35.out ?_
  refine lexH_phase [0] [1, 2] ?_
  have hw37 : EnvX w1 _ [(gl, Obj.cells (txA (lessX t)) 25 (0, 0)), (gm, Obj.cells (txA (moreX t o gb capgb)) 25 (0, 0)), (gb, Obj.cells curgb 49 (0, 0)), (w.heap.size + 1, Obj.cells (outA o) 49 (0, 0)), (w.heap.size, Obj.cells (txA t) 25 (0, 0))] := EX35.out
  have hone := @EnvC.one _ _ _ hw37
  (refine wpG_val (v := txV t) rfl rfl (fun u hu => load_any_op u (box_tx hu (List.Mem.tail _ (List.Mem.tail _ (List.Mem.tail _ (List.Mem.tail _ (List.Mem.head _)))))) rfl) ?_ hw37; intro K hK; go_big_quiet_op; go_big_quiet_on)
  clear hone hw37
  refine wpG_nil ?_
  refine (hOp_fresh (R := fun x N => ∃ g, x = .pointer (some ⟨g, 0, none⟩) ∧ N = [(g, Obj.cells (txA noTxM) 25 (0, 0))]) (M0 := [(gl, Obj.cells (txA (lessX t)) 25 (0, 0)), (gm, Obj.cells (txA (moreX t o gb capgb)) 25 (0, 0)), (gb, Obj.cells curgb 49 (0, 0)), (w.heap.size + 1, Obj.cells (outA o) 49 (0, 0)), (w.heap.size, Obj.cells (txA t) 25 (0, 0))]) rfl rfl (fun _ h => h) (fun u hu => FAt_new (new_tx _) u) ?_)
  rintro _ _ ⟨gt, rfl, rfl⟩ hf he38; intro K' hK'; go_big_quiet_op; go_big_quiet_on
  have HGT := Lib.hid (hf _ (List.mem_singleton.2 rfl))
  clear hf
  change lexH _ _ _ _ _ _ [(gt, Obj.cells (txA noTxM) 25 (0, 0)), (gl, Obj.cells (txA (lessX t)) 25 (0, 0)), (gm, Obj.cells (txA (moreX t o gb capgb)) 25 (0, 0)), (gb, Obj.cells curgb 49 (0, 0)), (w.heap.size + 1, Obj.cells (outA o) 49 (0, 0)), (w.heap.size, Obj.cells (txA t) 25 (0, 0))]
  refine (hOp_store rfl (gt) (txA t) rfl rfl HGT.out.1 25 ((txA noTxM)) (List.Mem.head _) (infoTx _ rfl) rfl (txA_one _) [(gt, Obj.cells (txA t) 25 (0, 0)), (gl, Obj.cells (txA (lessX t)) 25 (0, 0)), (gm, Obj.cells (txA (moreX t o gb capgb)) 25 (0, 0)), (gb, Obj.cells curgb 49 (0, 0)), (w.heap.size + 1, Obj.cells (outA o) 49 (0, 0)), (w.heap.size, Obj.cells (txA t) 25 (0, 0))] (List.forall_mem_cons.2 ⟨.inl rfl, fun y hy => .inr ⟨List.mem_cons_of_mem _ hy, HGT.out.2 y hy⟩⟩) ?_)
  intro he39
  intro u41 E2'
  have EX40 := Lib.hid E2'
  clear E2'
  have N_tb_gt : Hid (w.heap.size ≠ gt) := HGT.out.2 _ (List.Mem.tail _ (List.Mem.tail _ (List.Mem.tail _ (List.Mem.tail _ (List.Mem.head _)))))
  have E15 : Hid (EnvX w1 u41 [(gt, Obj.cells (txA t) 25 (0, 0)), (w.heap.size, Obj.cells (txA t) 25 (0, 0))]) := EnvX.sub EX40.out (fun y hy => by
    rcases List.mem_cons.1 hy with rfl | hy
    · exact (List.Mem.head _)
    · cases List.mem_singleton.1 hy
      exact (List.Mem.tail _ (List.Mem.tail _ (List.Mem.tail _ (List.Mem.tail _ (List.Mem.tail _ (List.Mem.head _)))))))
  go_upto_region 15 with (fail)
  refine wp_region_H (w0 := w1) [(gt, Obj.cells (txA t) 25 (0, 0)), (w.heap.size, Obj.cells (txA t) 25 (0, 0))] (by kernel_rfl) E15.out ?_
  refine anyH_phaseN [0, 1, 3, 4, 5, 6, 7] 5 rfl (by kernel_rfl) ?_
  have hw42 : EnvX w1 _ [] := EnvX.sub (EnvX.drew E15.out) (fun _ h => by cases h)
  have hone := @EnvC.one _ _ _ hw42
  (refine wpG_op rfl rfl rfl ?_; intro K hK; go_big_quiet_op; go_big_quiet_on)
  (refine wpG_val (v := .slice t.A1 t.n1 t.c1) rfl rfl (fun u hu => load_any_op u (box_tx_ins (EnvX.below E1.out (EnvX.bel hu)) (List.Mem.tail _ (List.Mem.head _))) rfl) ?_ hw42; intro K hK; go_big_quiet_op; go_big_quiet_on)
  (refine wpG_op rfl rfl rfl ?_; intro K hK; go_big_quiet_op; go_big_quiet_on)
  (refine wpG_val (v := .slice (some ad) t.n1 t.c1) rfl rfl (fun u hu => by have h1 := box_tx_ins (EnvX.below E1.out (EnvX.bel hu)) (List.Mem.tail _ (List.Mem.head _)); rw [HA1.out] at h1; exact load_any_op u h1 rfl) ?_ hw42; intro K hK; go_big_quiet_op; go_big_quiet_on)
  (refine wpG_op rfl rfl rfl ?_; intro K hK; go_big_quiet_op; go_big_quiet_on)
  (refine wpG_val (v := .pointer (some (ad.add (j * 33)))) rfl rfl (fun u hu => idxSl_op (i := j) Tryd.underlying22 aggIn.size HJN.out u rfl rfl) ?_ hw42; intro K hK; go_big_quiet_op; go_big_quiet_on)
  (refine wpG_val (v := inV x) rfl rfl (fun u hu => load_any_op u (HLD.out u (EnvX.sub hu (fun _ h => by cases h))) rfl) ?_ hw42; intro K hK; go_big_quiet_op; go_big_quiet_on)
  clear hone hw42
  refine wpG_nil ?_
  refine anyH_twoFreshG (i := 2) (j := 8) (fun _ _ _ hM hh => env_perm _ _ _ hM hh) (by kernel_rfl) (by kernel_rfl) (by kernel_rfl) rfl rfl (by decide) (by kernel_rfl) rfl rfl (FreshR 51 33 t.n1 ((t.r.ins.map inC).flatten)) (BuiltR 51 (inC x)) [(gt, Obj.cells (txA t) 25 (0, 0)), (w.heap.size, Obj.cells (txA t) 25 (0, 0))] [(gt, Obj.cells (txA t) 25 (0, 0)), (w.heap.size, Obj.cells (txA t) 25 (0, 0))] (fun _ h => h) (fun _ h => h) (fun u hu => FAt_appC elIn HLI.out (insX_one _) (K_kt.out.up (EnvX.bel hu)).m1 (by have := HNI1.out; omega) rfl) (fun u hu => FAt_buildR elIn (inC_len HXI.out.2.len) (inC_one _) rfl u) ?_
  rintro x1 N1 x2 N2 hF1 ⟨gd, rfl, rfl⟩ hf1 hf2 he43 K1 hK1; go_big_quiet_op; go_big_quiet_on; intro K' hK'; go_big_quiet_op; go_big_quiet_on
  obtain ⟨gc, capgc, curgc, rfl, rfl, hcgc⟩ | ⟨_, _, h0, _⟩ := hF1
  case inr => have := HNI1.out; omega
  have HCgc := Lib.hid hcgc
  have HGC := Lib.hid (hf1 _ (List.mem_singleton.2 rfl))
  clear hcgc
  clear hf1 hf2
  change anyH _ _ _ _ _ _ _ _ [(gd, Obj.cells (inA x) 51 (0, 0)), (gc, Obj.cells curgc 51 (0, 0)), (gt, Obj.cells (txA t) 25 (0, 0)), (w.heap.size, Obj.cells (txA t) 25 (0, 0))]
  refine anyH_one (i := 9) (by kernel_rfl) (hOp_own (gd := none) (R := GrownR w1 51 33 (t.n1 + 1) (((t.r.ins.map inC).flatten) ++ inC x) [(gt, Obj.cells (txA t) 25 (0, 0)), (w.heap.size, Obj.cells (txA t) 25 (0, 0))]) rfl rfl rfl rfl (fun u hu => appX_op elIn [(gt, Obj.cells (txA t) 25 (0, 0)), (w.heap.size, Obj.cells (txA t) 25 (0, 0))] hu (n := t.n1) (m := 1) HLI.out (by rw [inC_len HXI.out.2.len]) (inC_one _) (.inl ⟨gc, capgc, curgc, rfl, rfl, HCgc.out⟩) (List.forall_mem_cons.2 ⟨⟨(List.Mem.tail _ (List.Mem.head _)), HGC.out.1⟩, (fun _ h => by cases h)⟩) (src_box hu (List.Mem.head _) (by rw [List.drop_zero]; exact List.take_length)) (List.forall_mem_cons.2 ⟨⟨(List.Mem.tail _ (List.Mem.tail _ (List.Mem.head _))), fun y hy => by cases List.mem_singleton.1 hy; exact HGC.out.2 _ (List.Mem.head _)⟩, (List.forall_mem_cons.2 ⟨⟨(List.Mem.tail _ (List.Mem.tail _ (List.Mem.tail _ (List.Mem.head _)))), fun y hy => by cases List.mem_singleton.1 hy; exact HGC.out.2 _ (List.Mem.tail _ (List.Mem.head _))⟩, (fun _ h => by cases h)⟩)⟩) (by have := HNI1.out; omega) rfl rfl) ?_)
  rintro x M' ⟨N, rfl, hF, hn⟩ he44; intro K' hK'; go_big_quiet_op; go_big_quiet_on
  obtain ⟨ge, capge, curge, rfl, rfl, hcge⟩ | ⟨_, _, h0, _⟩ := hF
  case inr => omega
  have HCge := Lib.hid hcge
  have HGE := Lib.hid (hn _ (List.mem_singleton.2 rfl))
  have N_ge_gt : Hid (ge ≠ gt) := fun e => HGE.out.2 _ (List.Mem.head _) e.symm
  clear hcge hn
  change anyH _ _ _ _ _ _ _ _ [(ge, Obj.cells curge 51 (0, 0)), (gt, Obj.cells (txA t) 25 (0, 0)), (w.heap.size, Obj.cells (txA t) 25 (0, 0))]
  refine anyH_phaseN [10] 1 rfl (by kernel_rfl) ?_
  have hw45 : EnvX w1 _ [] := EnvX.sub he44.choose_spec (fun _ h => by cases h)
  have hone := @EnvC.one _ _ _ hw45
  (refine wpG_op rfl rfl rfl ?_; intro K hK; go_big_quiet_op; go_big_quiet_on)
  clear hone hw45
  refine wpG_nil ?_
  refine anyH_one (i := 11) (by kernel_rfl) (hOp_putAt rfl (gt) (0) (.slice (some ⟨ge, 0, none⟩) (t.n1 + 1) capge) rfl rfl HGT.out.1 25 ((txA t)) (txA (twiceX t x ge capge)) (List.Mem.tail _ (List.Mem.head _)) infoIns (by show 0 + 1 ≤ 2; decide) (by simp [Value.cells]; rfl) rfl [(gt, Obj.cells (txA (twiceX t x ge capge)) 25 (0, 0)), (ge, Obj.cells curge 51 (0, 0)), (w.heap.size, Obj.cells (txA t) 25 (0, 0))] (List.forall_mem_cons.2 ⟨.inl rfl, (List.forall_mem_cons.2 ⟨.inr ⟨(List.Mem.head _), N_ge_gt.out⟩, (List.forall_mem_cons.2 ⟨.inr ⟨(List.Mem.tail _ (List.Mem.tail _ (List.Mem.head _))), N_tb_gt.out⟩, (fun _ h => by cases h)⟩)⟩)⟩) ?_)
  intro he46
  refine anyH_done (by kernel_rfl) ?_
  intro u48 E2'
  have EX47 := Lib.hid E2'
  clear E2'
  go_upto_region 16 with (fail)
  refine wp_region_Hx (w0 := w1) [0, 1, 2, 3] [(gt, Obj.cells (txA (twiceX t x ge capge)) 25 (0, 0)), (ge, Obj.cells curge 51 (0, 0)), (w.heap.size, Obj.cells (txA t) 25 (0, 0))] rfl EX47.out ?_
  refine lexH_phase [0, 1, 2, 3] [] ?_
  have hw49 : EnvX w1 _ [(gt, Obj.cells (txA (twiceX t x ge capge)) 25 (0, 0)), (ge, Obj.cells curge 51 (0, 0)), (w.heap.size, Obj.cells (txA t) 25 (0, 0))] := EX47.out
  have hone := @EnvC.one _ _ _ hw49
  (refine wpG_val (v := txV (twiceX t x ge capge)) rfl rfl (fun u hu => load_any_op u (box_tx hu (List.Mem.head _)) rfl) ?_ hw49; intro K hK; go_big_quiet_op; go_big_quiet_on)
  (refine wpG_call (f := 18) (args := #[txV (twiceX t x ge capge)]) (v := .bool false) rfl rfl rfl Tryd.func18 rfl rfl (fun u hu => by have h1 := HH.out.may (twiceX t x ge capge) u (twice_ok (K_kt.out.up (EnvX.bel hu)) HXI.out.2 hu (List.Mem.tail _ (List.Mem.head _)) HCge.out) (HT1.out.below (EnvX.bel hu)); rwa [HMT.out _ _ _ HXI.out.1] at h1) ?_ hw49; intro K hK; go_big_quiet_op; go_big_quiet_on)
  (refine wpG_op rfl rfl rfl ?_; intro K hK; go_big_quiet_op; go_big_quiet_on)
  (refine wpG_op rfl rfl rfl ?_; intro K hK; go_big_quiet_op; go_big_quiet_on)
  clear hone hw49
  refine wpG_nil ?_
  intro u51 E2'
  have EX50 := Lib.hid E2'
  clear E2'
  have HBE := Lib.hid (HB1.out.trans ((EnvX.bel EX50.out).mono HB1.out.size))
  go_wp2
  go_ret
  exact ⟨rfl, HBE.out⟩
end Go.Proofs.YtcodmedgkboohaaDoor
