/-
  PROVED: the law stepladderlaw06.MmrJoins answers true for every input, and leaves its arguments as they were.
  Conditions: the two package-level tables of package sha hold at the call what their initialisers lay; the card ties that to the text of the program (a pruned copy of the project: the packages that the roots of this seat load).
-/
import Derived.Test.YtbmiecogjmbciaaDoorCq
namespace Go.Proofs.YtbmiecogjmbciaaDoor
set_option maxRecDepth 8000
open Go.RowKit

section
variable {a : Act} {dst : Option Tmp} {x y : Operand} {ty : TypeId} {pos : String} {after : Array Edge} {gd : Option (Nat × Bool)}
end
set_option maxRecDepth 20000 in
set_option maxHeartbeats 4000000 in
theorem law_joins_e (T : MmrC) (a b : Tot) (w : World) (ha : okT a) (hb : okT b) (ht : Tables w) (d0 : a = b) :
    Calls Tryd.prog 8 #[totV a, totV b] w fun e w' => e = .returned (.bool true) ∧ Below w.heap.size w w' := by
  have E0 : Hid (EnvX w ((w.alloc (.cells (totA a) 29)).alloc (.cells (totA b) 29)) [(w.heap.size + 1, Obj.cells (totA b) 29 (0, 0)), (w.heap.size, Obj.cells (totA a) 29 (0, 0))]) := (EnvX.start w).two _ _
  have HAW := Lib.hid (mawake_any T ((w.alloc (.cells (totA a) 29)).alloc (.cells (totA b) 29)) (ht.below (EnvX.bel E0.out)))
  have HT := Lib.hid ht
  have HM := Lib.hid T
  clear ht T
  have HA := Lib.hid ha
  have HB := Lib.hid hb
  have HCW : Hid (eqN ((a.w + b.w) % Big) ((a.w + b.w) % Big) = true) := decide_eq_true rfl
  have HCW2 : Hid (eqN ((b.w + a.w) % Big) ((a.w + b.w) % Big) = true) := decide_eq_true (by rw [Nat.add_comm])
  have HLT : Hid (∀ x : Nat, x % Big < Big) := fun x => Nat.mod_lt _ (by unfold Big; decide)
  have HCN2 : Hid (decide (IntKind.i64.wrap (b.n + a.n) = IntKind.i64.wrap (a.n + b.n)) = true) := decide_eq_true (by rw [Int.add_comm])
  have HEQ : Hid ((!eqT a b) = false) := by show _ = _; simp [eqT, d0]
  have HJJ : Hid (eqT (joinT a b) (joinT b a) = true) := by show _ = _; simp [eqT, d0]
  clear ha hb d0
  unfold totV
  go_enter Tryd.func8, Tryd.ntmps8
  go_upto_region 1 with (fail)
  generalize ((w.alloc (.cells (totA a) 29)).alloc (.cells (totA b) 29)) = W at *
  go_wp2_with fail
  refine HAW.out.mono ?_
  rintro e w1 ⟨rfl, hb1⟩
  have HB1 := Lib.hid (EnvX.below E0.out hb1).bel
  have E1 : Hid (EnvX w1 w1 [(w.heap.size + 1, Obj.cells (totA b) 29 (0, 0)), (w.heap.size, Obj.cells (totA a) 29 (0, 0))]) := ⟨Below.refl _ _, (EnvX.below E0.out hb1).box⟩
  have HT1 := Lib.hid (HT.out.below HB1.out)
  clear hb1 E0 HAW
  have HJ : Hid (∀ u x y, okT x → okT y → EnvX w1 u [] → Calls Tryd.prog 20 #[.agg (totA x), .agg (totA y)] u fun e w' => e = .returned (.agg (totA (joinT x y))) ∧ Below u.heap.size u w') := fun u x y hx hy hu => HM.out.join x y u hx hy (HT1.out.below (EnvX.bel hu))
  have HADD : Hid (∀ u, Calls Tryd.prog 27 #[.agg (wcs a.w), .agg (wcs b.w)] u fun e w' => e = .returned (.tuple #[.agg (wcs ((a.w + b.w) % Big)), .bool (decide (a.w + b.w < Big))]) ∧ Below u.heap.size u w') := fun u => add_any a.w b.w u HA.out.2.1 HB.out.2.1
  go_upto_region 2 with (fail)
  refine wp_region_Hx (w0 := w1) [0, 1, 2, 3, 4] [(w.heap.size + 1, Obj.cells (totA b) 29 (0, 0)), (w.heap.size, Obj.cells (totA a) 29 (0, 0))] rfl E1.out ?_
  refine lexH_phase [0, 1, 2] [3, 4] ?_
  have hw1 : EnvX w1 _ [(w.heap.size + 1, Obj.cells (totA b) 29 (0, 0)), (w.heap.size, Obj.cells (totA a) 29 (0, 0))] := E1.out
  have hone := @EnvC.one _ _ _ hw1
  (refine wpG_val (v := .agg (totA a)) rfl rfl (fun u hu => load_any_op u (box_tot hu (List.Mem.tail _ (List.Mem.head _)) HA.out.len) rfl) ?_ hw1; intro K hK; go_big_quiet_op; go_big_quiet_on)
  (refine wpG_val (v := .agg (totA b)) rfl rfl (fun u hu => load_any_op u (box_tot hu (List.Mem.head _) HB.out.len) rfl) ?_ hw1; intro K hK; go_big_quiet_op; go_big_quiet_on)
  (refine wpG_call (f := 20) (args := #[.agg (totA a), .agg (totA b)]) (v := .agg (totA (joinT a b))) rfl rfl rfl Tryd.func20 rfl rfl (fun u hu => HJ.out u a b HA.out HB.out (EnvX.sub hu (fun _ h => by cases h))) ?_ hw1; intro K hK; go_big_quiet_op; go_big_quiet_on)
  clear hone hw1
  refine wpG_nil ?_
  refine (hOp_fresh (R := fun x N => ∃ g, x = .pointer (some ⟨g, 0, none⟩) ∧ N = [(g, Obj.cells (totA zTot) 29 (0, 0))]) (M0 := [(w.heap.size + 1, Obj.cells (totA b) 29 (0, 0)), (w.heap.size, Obj.cells (totA a) 29 (0, 0))]) rfl rfl (fun _ h => h) (fun u hu => FAt_new (new_tot _) u) ?_)
  rintro _ _ ⟨gx, rfl, rfl⟩ hf he2; intro K' hK'; go_big_quiet_op; go_big_quiet_on
  have HGgx := Lib.hid (hf _ (List.mem_singleton.2 rfl))
  clear hf
  change lexH _ _ _ _ _ _ [(gx, Obj.cells (totA zTot) 29 (0, 0)), (w.heap.size + 1, Obj.cells (totA b) 29 (0, 0)), (w.heap.size, Obj.cells (totA a) 29 (0, 0))]
  refine (hOp_store rfl (gx) (totA (joinT a b)) rfl rfl HGgx.out.1 29 ((totA zTot)) (List.Mem.head _) (infoTot _ (totA_size join_ok.len)) (zTot_size.trans (totA_size join_ok.len).symm) (totA_one _) [(gx, Obj.cells (totA (joinT a b)) 29 (0, 0)), (w.heap.size + 1, Obj.cells (totA b) 29 (0, 0)), (w.heap.size, Obj.cells (totA a) 29 (0, 0))] (List.forall_mem_cons.2 ⟨.inl rfl, fun y hy => .inr ⟨List.mem_cons_of_mem _ hy, HGgx.out.2 y hy⟩⟩) ?_)
  intro he3
  intro u5 E2'
  have EX4 := Lib.hid E2'
  clear E2'
  go_upto_region 3 with (fail)
  refine wp_region_Hx (w0 := w1) [0, 1, 2, 3, 4] [(gx, Obj.cells (totA (joinT a b)) 29 (0, 0)), (w.heap.size + 1, Obj.cells (totA b) 29 (0, 0)), (w.heap.size, Obj.cells (totA a) 29 (0, 0))] rfl EX4.out ?_
  refine lexH_phase [0, 1, 2] [3, 4] ?_
  have hw6 : EnvX w1 _ [(gx, Obj.cells (totA (joinT a b)) 29 (0, 0)), (w.heap.size + 1, Obj.cells (totA b) 29 (0, 0)), (w.heap.size, Obj.cells (totA a) 29 (0, 0))] := EX4.out
  have hone := @EnvC.one _ _ _ hw6
  (refine wpG_val (v := .agg (totA b)) rfl rfl (fun u hu => load_any_op u (box_tot hu (List.Mem.tail _ (List.Mem.head _)) HB.out.len) rfl) ?_ hw6; intro K hK; go_big_quiet_op; go_big_quiet_on)
  (refine wpG_val (v := .agg (totA a)) rfl rfl (fun u hu => load_any_op u (box_tot hu (List.Mem.tail _ (List.Mem.tail _ (List.Mem.head _))) HA.out.len) rfl) ?_ hw6; intro K hK; go_big_quiet_op; go_big_quiet_on)
  (refine wpG_call (f := 20) (args := #[.agg (totA b), .agg (totA a)]) (v := .agg (totA (joinT b a))) rfl rfl rfl Tryd.func20 rfl rfl (fun u hu => HJ.out u b a HB.out HA.out (EnvX.sub hu (fun _ h => by cases h))) ?_ hw6; intro K hK; go_big_quiet_op; go_big_quiet_on)
  clear hone hw6
  refine wpG_nil ?_
  refine (hOp_fresh (R := fun x N => ∃ g, x = .pointer (some ⟨g, 0, none⟩) ∧ N = [(g, Obj.cells (totA zTot) 29 (0, 0))]) (M0 := [(gx, Obj.cells (totA (joinT a b)) 29 (0, 0)), (w.heap.size + 1, Obj.cells (totA b) 29 (0, 0)), (w.heap.size, Obj.cells (totA a) 29 (0, 0))]) rfl rfl (fun _ h => h) (fun u hu => FAt_new (new_tot _) u) ?_)
  rintro _ _ ⟨gy, rfl, rfl⟩ hf he7; intro K' hK'; go_big_quiet_op; go_big_quiet_on
  have HGgy := Lib.hid (hf _ (List.mem_singleton.2 rfl))
  clear hf
  change lexH _ _ _ _ _ _ [(gy, Obj.cells (totA zTot) 29 (0, 0)), (gx, Obj.cells (totA (joinT a b)) 29 (0, 0)), (w.heap.size + 1, Obj.cells (totA b) 29 (0, 0)), (w.heap.size, Obj.cells (totA a) 29 (0, 0))]
  refine (hOp_store rfl (gy) (totA (joinT b a)) rfl rfl HGgy.out.1 29 ((totA zTot)) (List.Mem.head _) (infoTot _ (totA_size join_ok.len)) (zTot_size.trans (totA_size join_ok.len).symm) (totA_one _) [(gy, Obj.cells (totA (joinT b a)) 29 (0, 0)), (gx, Obj.cells (totA (joinT a b)) 29 (0, 0)), (w.heap.size + 1, Obj.cells (totA b) 29 (0, 0)), (w.heap.size, Obj.cells (totA a) 29 (0, 0))] (List.forall_mem_cons.2 ⟨.inl rfl, fun y hy => .inr ⟨List.mem_cons_of_mem _ hy, HGgy.out.2 y hy⟩⟩) ?_)
  intro he8
  intro u10 E2'
  have EX9 := Lib.hid E2'
  clear E2'
  go_upto_region 4 with (fail)
  refine wp_region_Hx (w0 := w1) [0, 1, 2, 3, 4, 5, 6, 7, 8, 9, 10] [(gy, Obj.cells (totA (joinT b a)) 29 (0, 0)), (gx, Obj.cells (totA (joinT a b)) 29 (0, 0)), (w.heap.size + 1, Obj.cells (totA b) 29 (0, 0)), (w.heap.size, Obj.cells (totA a) 29 (0, 0))] rfl EX9.out ?_
  refine lexH_phase [0, 1, 2, 3, 4, 5, 6, 7] [8, 9, 10] ?_
  have hw11 : EnvX w1 _ [(gy, Obj.cells (totA (joinT b a)) 29 (0, 0)), (gx, Obj.cells (totA (joinT a b)) 29 (0, 0)), (w.heap.size + 1, Obj.cells (totA b) 29 (0, 0)), (w.heap.size, Obj.cells (totA a) 29 (0, 0))] := EX9.out
  have hone := @EnvC.one _ _ _ hw11
  (refine wpG_op rfl rfl rfl ?_; intro K hK; go_big_quiet_op; go_big_quiet_on)
  (refine wpG_val (v := .agg (wcs a.w)) rfl rfl (fun u hu => load_any_op u (box_totW hu (List.Mem.tail _ (List.Mem.tail _ (List.Mem.tail _ (List.Mem.head _)))) HA.out.len) rfl) ?_ hw11; intro K hK; go_big_quiet_op; go_big_quiet_on)
  (refine wpG_op rfl rfl rfl ?_; intro K hK; go_big_quiet_op; go_big_quiet_on)
  (refine wpG_val (v := .agg (wcs b.w)) rfl rfl (fun u hu => load_any_op u (box_totW hu (List.Mem.tail _ (List.Mem.tail _ (List.Mem.head _))) HB.out.len) rfl) ?_ hw11; intro K hK; go_big_quiet_op; go_big_quiet_on)
  (refine wpG_call (f := 27) (args := #[.agg (wcs a.w), .agg (wcs b.w)]) (v := .tuple #[.agg (wcs ((a.w + b.w) % Big)), .bool (decide (a.w + b.w < Big))]) rfl rfl rfl Tryd.func27 rfl rfl (fun u hu => HADD.out u) ?_ hw11; intro K hK; go_big_quiet_op; go_big_quiet_on)
  (refine wpG_op rfl rfl rfl ?_; intro K hK; go_big_quiet_op; go_big_quiet_on)
  (refine wpG_op rfl rfl rfl ?_; intro K hK; go_big_quiet_op; go_big_quiet_on)
  (refine wpG_op rfl rfl rfl ?_; intro K hK; go_big_quiet_op; go_big_quiet_on)
  clear hone hw11
  refine wpG_nil ?_
  refine (hOp_fresh (R := fun x N => ∃ g, x = .pointer (some ⟨g, 0, none⟩) ∧ N = [(g, Obj.cells (wcs 0) 27 (0, 0))]) (M0 := [(gy, Obj.cells (totA (joinT b a)) 29 (0, 0)), (gx, Obj.cells (totA (joinT a b)) 29 (0, 0)), (w.heap.size + 1, Obj.cells (totA b) 29 (0, 0)), (w.heap.size, Obj.cells (totA a) 29 (0, 0))]) rfl rfl (fun _ h => h) (fun u hu => FAt_new (new_wd _) u) ?_)
  rintro _ _ ⟨gs, rfl, rfl⟩ hf he12; intro K' hK'; go_big_quiet_op; go_big_quiet_on
  have HGgs := Lib.hid (hf _ (List.mem_singleton.2 rfl))
  clear hf
  change lexH _ _ _ _ _ _ [(gs, Obj.cells (wcs 0) 27 (0, 0)), (gy, Obj.cells (totA (joinT b a)) 29 (0, 0)), (gx, Obj.cells (totA (joinT a b)) 29 (0, 0)), (w.heap.size + 1, Obj.cells (totA b) 29 (0, 0)), (w.heap.size, Obj.cells (totA a) 29 (0, 0))]
  refine (hOp_store rfl (gs) (wcs ((a.w + b.w) % Big)) rfl rfl HGgs.out.1 27 ((wcs 0)) (List.Mem.head _) (wc_info _) ((wc_size _).trans (wc_size _).symm) (wc_one _) [(gs, Obj.cells (wcs ((a.w + b.w) % Big)) 27 (0, 0)), (gy, Obj.cells (totA (joinT b a)) 29 (0, 0)), (gx, Obj.cells (totA (joinT a b)) 29 (0, 0)), (w.heap.size + 1, Obj.cells (totA b) 29 (0, 0)), (w.heap.size, Obj.cells (totA a) 29 (0, 0))] (List.forall_mem_cons.2 ⟨.inl rfl, fun y hy => .inr ⟨List.mem_cons_of_mem _ hy, HGgs.out.2 y hy⟩⟩) ?_)
  intro he13
  refine lexH_phase [10] [] ?_
  have hw14 : EnvX w1 _ [(gs, Obj.cells (wcs ((a.w + b.w) % Big)) 27 (0, 0)), (gy, Obj.cells (totA (joinT b a)) 29 (0, 0)), (gx, Obj.cells (totA (joinT a b)) 29 (0, 0)), (w.heap.size + 1, Obj.cells (totA b) 29 (0, 0)), (w.heap.size, Obj.cells (totA a) 29 (0, 0))] := he13.choose_spec
  have hone := @EnvC.one _ _ _ hw14
  (refine wpG_op rfl rfl rfl ?_; intro K hK; go_big_quiet_op; go_big_quiet_on)
  clear hone hw14
  refine wpG_nil ?_
  intro u16 E2'
  have EX15 := Lib.hid E2'
  clear E2'
  go_upto_region 5 with (fail)
  refine wp_region_Hx (w0 := w1) [0, 1, 2, 3, 4, 5, 6, 7, 8, 9, 10, 11, 12, 13, 14, 15, 16, 17, 18, 19, 20, 21, 22, 23, 24, 25, 26, 27, 28, 29, 30, 31, 32, 33, 34, 35, 36, 37, 38, 39, 40] [(gs, Obj.cells (wcs ((a.w + b.w) % Big)) 27 (0, 0)), (gy, Obj.cells (totA (joinT b a)) 29 (0, 0)), (gx, Obj.cells (totA (joinT a b)) 29 (0, 0)), (w.heap.size + 1, Obj.cells (totA b) 29 (0, 0)), (w.heap.size, Obj.cells (totA a) 29 (0, 0))] rfl EX15.out ?_
  refine lexH_phase [0, 1, 2, 3, 4, 5, 6, 7, 8, 9, 10, 11, 12, 13, 14, 15, 16, 17, 18, 19, 20, 21, 22, 23, 24, 25, 26, 27, 28, 29, 30, 31, 32, 33, 34, 35, 36, 37, 38, 39, 40] [] ?_
  have hw17 : EnvX w1 _ [(gs, Obj.cells (wcs ((a.w + b.w) % Big)) 27 (0, 0)), (gy, Obj.cells (totA (joinT b a)) 29 (0, 0)), (gx, Obj.cells (totA (joinT a b)) 29 (0, 0)), (w.heap.size + 1, Obj.cells (totA b) 29 (0, 0)), (w.heap.size, Obj.cells (totA a) 29 (0, 0))] := EX15.out
  have hone := @EnvC.one _ _ _ hw17
  (refine wpG_op rfl rfl rfl ?_; intro K hK; go_big_quiet_op; go_big_quiet_on)
  (refine wpG_op rfl rfl rfl ?_; intro K hK; go_big_quiet_op; go_big_quiet_on)
  (refine wpG_op rfl rfl rfl ?_; intro K hK; go_big_quiet_op; go_big_quiet_on)
  (refine wpG_val (v := .agg (wcs ((a.w + b.w) % Big))) rfl rfl (fun u hu => load_any_op u (box_totW hu (List.Mem.tail _ (List.Mem.tail _ (List.Mem.head _))) join_ok.len) rfl) ?_ hw17; intro K hK; go_big_quiet_op; go_big_quiet_on)
  (refine wpG_val (v := .agg (wcs ((a.w + b.w) % Big))) rfl rfl (fun u hu => load_any_op u (box_wide hu (List.Mem.head _)) rfl) ?_ hw17; intro K hK; go_big_quiet_op; go_big_quiet_on)
  (refine wpG_val (v := .bool true) rfl rfl (fun u hu => eqlW_op (HLT.out _) (HLT.out _) HCW.out u rfl rfl) ?_ hw17; intro K hK; go_big_quiet_op; go_big_quiet_on)
  (refine wpG_op rfl rfl rfl ?_; intro K hK; go_big_quiet_op; go_big_quiet_on)
  (refine wpG_op rfl rfl rfl ?_; intro K hK; go_big_quiet_op; go_big_quiet_on)
  (refine wpG_op rfl rfl rfl ?_; intro K hK; go_big_quiet_op; go_big_quiet_on)
  (refine wpG_val (v := .agg (wcs ((b.w + a.w) % Big))) rfl rfl (fun u hu => load_any_op u (box_totW hu (List.Mem.tail _ (List.Mem.head _)) join_ok.len) rfl) ?_ hw17; intro K hK; go_big_quiet_op; go_big_quiet_on)
  (refine wpG_val (v := .agg (wcs ((a.w + b.w) % Big))) rfl rfl (fun u hu => load_any_op u (box_wide hu (List.Mem.head _)) rfl) ?_ hw17; intro K hK; go_big_quiet_op; go_big_quiet_on)
  (refine wpG_val (v := .bool true) rfl rfl (fun u hu => eqlW_op (HLT.out _) (HLT.out _) HCW2.out u rfl rfl) ?_ hw17; intro K hK; go_big_quiet_op; go_big_quiet_on)
  (refine wpG_op rfl rfl rfl ?_; intro K hK; go_big_quiet_op; go_big_quiet_on)
  (refine wpG_op rfl rfl rfl ?_; intro K hK; go_big_quiet_op; go_big_quiet_on)
  (refine wpG_op rfl rfl rfl ?_; intro K hK; go_big_quiet_op; go_big_quiet_on)
  (refine wpG_val (v := .int .i64 (IntKind.i64.wrap (a.n + b.n))) rfl rfl (fun u hu => load_any_op u (box_totN hu (List.Mem.tail _ (List.Mem.tail _ (List.Mem.head _))) join_ok.len) rfl) ?_ hw17; intro K hK; go_big_quiet_op; go_big_quiet_on)
  (refine wpG_op rfl rfl rfl ?_; intro K hK; go_big_quiet_op; go_big_quiet_on)
  (refine wpG_val (v := .int .i64 (a.n)) rfl rfl (fun u hu => load_any_op u (box_totN hu (List.Mem.tail _ (List.Mem.tail _ (List.Mem.tail _ (List.Mem.tail _ (List.Mem.head _))))) HA.out.len) rfl) ?_ hw17; intro K hK; go_big_quiet_op; go_big_quiet_on)
  (refine wpG_op rfl rfl rfl ?_; intro K hK; go_big_quiet_op; go_big_quiet_on)
  (refine wpG_val (v := .int .i64 (b.n)) rfl rfl (fun u hu => load_any_op u (box_totN hu (List.Mem.tail _ (List.Mem.tail _ (List.Mem.tail _ (List.Mem.head _)))) HB.out.len) rfl) ?_ hw17; intro K hK; go_big_quiet_op; go_big_quiet_on)
  (refine wpG_val (v := .int .i64 (IntKind.i64.wrap (a.n + b.n))) rfl rfl (fun u hu => addW_op u rfl rfl) ?_ hw17; intro K hK; go_big_quiet_op; go_big_quiet_on)
  (refine wpG_val (v := .bool true) rfl rfl (fun u hu => eqlI_op u (decide_eq_true rfl) rfl rfl) ?_ hw17; intro K hK; go_big_quiet_op; go_big_quiet_on)
  (refine wpG_op rfl rfl rfl ?_; intro K hK; go_big_quiet_op; go_big_quiet_on)
  (refine wpG_op rfl rfl rfl ?_; intro K hK; go_big_quiet_op; go_big_quiet_on)
  (refine wpG_op rfl rfl rfl ?_; intro K hK; go_big_quiet_op; go_big_quiet_on)
  (refine wpG_val (v := .int .i64 (IntKind.i64.wrap (b.n + a.n))) rfl rfl (fun u hu => load_any_op u (box_totN hu (List.Mem.tail _ (List.Mem.head _)) join_ok.len) rfl) ?_ hw17; intro K hK; go_big_quiet_op; go_big_quiet_on)
  (refine wpG_op rfl rfl rfl ?_; intro K hK; go_big_quiet_op; go_big_quiet_on)
  (refine wpG_val (v := .int .i64 (IntKind.i64.wrap (a.n + b.n))) rfl rfl (fun u hu => load_any_op u (box_totN hu (List.Mem.tail _ (List.Mem.tail _ (List.Mem.head _))) join_ok.len) rfl) ?_ hw17; intro K hK; go_big_quiet_op; go_big_quiet_on)
  (refine wpG_val (v := .bool true) rfl rfl (fun u hu => eqlI_op u HCN2.out rfl rfl) ?_ hw17; intro K hK; go_big_quiet_op; go_big_quiet_on)
  (refine wpG_op rfl rfl rfl ?_; intro K hK; go_big_quiet_op; go_big_quiet_on)
  (refine wpG_op rfl rfl rfl ?_; intro K hK; go_big_quiet_op; go_big_quiet_on)
  (refine wpG_val (v := .agg (totA a)) rfl rfl (fun u hu => load_any_op u (box_tot hu (List.Mem.tail _ (List.Mem.tail _ (List.Mem.tail _ (List.Mem.tail _ (List.Mem.head _))))) HA.out.len) rfl) ?_ hw17; intro K hK; go_big_quiet_op; go_big_quiet_on)
  (refine wpG_val (v := .agg (totA b)) rfl rfl (fun u hu => load_any_op u (box_tot hu (List.Mem.tail _ (List.Mem.tail _ (List.Mem.tail _ (List.Mem.head _)))) HB.out.len) rfl) ?_ hw17; intro K hK; go_big_quiet_op; go_big_quiet_on)
  (refine wpG_val (v := .bool false) rfl rfl (fun u hu => neqTb_op HA.out HB.out HEQ.out u rfl rfl) ?_ hw17; intro K hK; go_big_quiet_op; go_big_quiet_on)
  (refine wpG_op rfl rfl rfl ?_; intro K hK; go_big_quiet_op; go_big_quiet_on)
  (refine wpG_val (v := .agg (totA (joinT a b))) rfl rfl (fun u hu => load_any_op u (box_tot hu (List.Mem.tail _ (List.Mem.tail _ (List.Mem.head _))) join_ok.len) rfl) ?_ hw17; intro K hK; go_big_quiet_op; go_big_quiet_on)
  (refine wpG_val (v := .agg (totA (joinT b a))) rfl rfl (fun u hu => load_any_op u (box_tot hu (List.Mem.tail _ (List.Mem.head _)) join_ok.len) rfl) ?_ hw17; intro K hK; go_big_quiet_op; go_big_quiet_on)
  (refine wpG_val (v := .bool true) rfl rfl (fun u hu => eqlTb_op join_ok join_ok HJJ.out u rfl rfl) ?_ hw17; intro K hK; go_big_quiet_op; go_big_quiet_on)
  (refine wpG_op rfl rfl rfl ?_; intro K hK; go_big_quiet_op; go_big_quiet_on)
  (refine wpG_op rfl rfl rfl ?_; intro K hK; go_big_quiet_op; go_big_quiet_on)
  (refine wpG_op rfl rfl rfl ?_; intro K hK; go_big_quiet_op; go_big_quiet_on)
  clear hone hw17
  refine wpG_nil ?_
  intro u19 E2'
  have EX18 := Lib.hid E2'
  clear E2'
  go_wp2
  go_ret
  exact ⟨rfl, HB1.out.trans ((EnvX.bel EX18.out).mono HB1.out.size)⟩
set_option maxRecDepth 20000 in
set_option maxHeartbeats 4000000 in
theorem law_joins_n (T : MmrC) (a b : Tot) (w : World) (ha : okT a) (hb : okT b) (ht : Tables w) (d0 : a ≠ b) :
    Calls Tryd.prog 8 #[totV a, totV b] w fun e w' => e = .returned (.bool true) ∧ Below w.heap.size w w' := by
  have E0 : Hid (EnvX w ((w.alloc (.cells (totA a) 29)).alloc (.cells (totA b) 29)) [(w.heap.size + 1, Obj.cells (totA b) 29 (0, 0)), (w.heap.size, Obj.cells (totA a) 29 (0, 0))]) := (EnvX.start w).two _ _
  have HAW := Lib.hid (mawake_any T ((w.alloc (.cells (totA a) 29)).alloc (.cells (totA b) 29)) (ht.below (EnvX.bel E0.out)))
  have HT := Lib.hid ht
  have HM := Lib.hid T
  clear ht T
  have HA := Lib.hid ha
  have HB := Lib.hid hb
  have HCW : Hid (eqN ((a.w + b.w) % Big) ((a.w + b.w) % Big) = true) := decide_eq_true rfl
  have HCW2 : Hid (eqN ((b.w + a.w) % Big) ((a.w + b.w) % Big) = true) := decide_eq_true (by rw [Nat.add_comm])
  have HLT : Hid (∀ x : Nat, x % Big < Big) := fun x => Nat.mod_lt _ (by unfold Big; decide)
  have HCN2 : Hid (decide (IntKind.i64.wrap (b.n + a.n) = IntKind.i64.wrap (a.n + b.n)) = true) := decide_eq_true (by rw [Int.add_comm])
  have HEQ : Hid ((!eqT a b) = true) := by show _ = _; simp [eqT, d0]
  clear ha hb d0
  unfold totV
  go_enter Tryd.func8, Tryd.ntmps8
  go_upto_region 1 with (fail)
  generalize ((w.alloc (.cells (totA a) 29)).alloc (.cells (totA b) 29)) = W at *
  go_wp2_with fail
  refine HAW.out.mono ?_
  rintro e w1 ⟨rfl, hb1⟩
  have HB1 := Lib.hid (EnvX.below E0.out hb1).bel
  have E1 : Hid (EnvX w1 w1 [(w.heap.size + 1, Obj.cells (totA b) 29 (0, 0)), (w.heap.size, Obj.cells (totA a) 29 (0, 0))]) := ⟨Below.refl _ _, (EnvX.below E0.out hb1).box⟩
  have HT1 := Lib.hid (HT.out.below HB1.out)
  clear hb1 E0 HAW
  have HJ : Hid (∀ u x y, okT x → okT y → EnvX w1 u [] → Calls Tryd.prog 20 #[.agg (totA x), .agg (totA y)] u fun e w' => e = .returned (.agg (totA (joinT x y))) ∧ Below u.heap.size u w') := fun u x y hx hy hu => HM.out.join x y u hx hy (HT1.out.below (EnvX.bel hu))
  have HADD : Hid (∀ u, Calls Tryd.prog 27 #[.agg (wcs a.w), .agg (wcs b.w)] u fun e w' => e = .returned (.tuple #[.agg (wcs ((a.w + b.w) % Big)), .bool (decide (a.w + b.w < Big))]) ∧ Below u.heap.size u w') := fun u => add_any a.w b.w u HA.out.2.1 HB.out.2.1
  go_upto_region 2 with (fail)
  refine wp_region_Hx (w0 := w1) [0, 1, 2, 3, 4] [(w.heap.size + 1, Obj.cells (totA b) 29 (0, 0)), (w.heap.size, Obj.cells (totA a) 29 (0, 0))] rfl E1.out ?_
  refine lexH_phase [0, 1, 2] [3, 4] ?_
  have hw1 : EnvX w1 _ [(w.heap.size + 1, Obj.cells (totA b) 29 (0, 0)), (w.heap.size, Obj.cells (totA a) 29 (0, 0))] := E1.out
  have hone := @EnvC.one _ _ _ hw1
  (refine wpG_val (v := .agg (totA a)) rfl rfl (fun u hu => load_any_op u (box_tot hu (List.Mem.tail _ (List.Mem.head _)) HA.out.len) rfl) ?_ hw1; intro K hK; go_big_quiet_op; go_big_quiet_on)
  (refine wpG_val (v := .agg (totA b)) rfl rfl (fun u hu => load_any_op u (box_tot hu (List.Mem.head _) HB.out.len) rfl) ?_ hw1; intro K hK; go_big_quiet_op; go_big_quiet_on)
  (refine wpG_call (f := 20) (args := #[.agg (totA a), .agg (totA b)]) (v := .agg (totA (joinT a b))) rfl rfl rfl Tryd.func20 rfl rfl (fun u hu => HJ.out u a b HA.out HB.out (EnvX.sub hu (fun _ h => by cases h))) ?_ hw1; intro K hK; go_big_quiet_op; go_big_quiet_on)
  clear hone hw1
  refine wpG_nil ?_
  refine (hOp_fresh (R := fun x N => ∃ g, x = .pointer (some ⟨g, 0, none⟩) ∧ N = [(g, Obj.cells (totA zTot) 29 (0, 0))]) (M0 := [(w.heap.size + 1, Obj.cells (totA b) 29 (0, 0)), (w.heap.size, Obj.cells (totA a) 29 (0, 0))]) rfl rfl (fun _ h => h) (fun u hu => FAt_new (new_tot _) u) ?_)
  rintro _ _ ⟨gx, rfl, rfl⟩ hf he2; intro K' hK'; go_big_quiet_op; go_big_quiet_on
  have HGgx := Lib.hid (hf _ (List.mem_singleton.2 rfl))
  clear hf
  change lexH _ _ _ _ _ _ [(gx, Obj.cells (totA zTot) 29 (0, 0)), (w.heap.size + 1, Obj.cells (totA b) 29 (0, 0)), (w.heap.size, Obj.cells (totA a) 29 (0, 0))]
  refine (hOp_store rfl (gx) (totA (joinT a b)) rfl rfl HGgx.out.1 29 ((totA zTot)) (List.Mem.head _) (infoTot _ (totA_size join_ok.len)) (zTot_size.trans (totA_size join_ok.len).symm) (totA_one _) [(gx, Obj.cells (totA (joinT a b)) 29 (0, 0)), (w.heap.size + 1, Obj.cells (totA b) 29 (0, 0)), (w.heap.size, Obj.cells (totA a) 29 (0, 0))] (List.forall_mem_cons.2 ⟨.inl rfl, fun y hy => .inr ⟨List.mem_cons_of_mem _ hy, HGgx.out.2 y hy⟩⟩) ?_)
  intro he3
  intro u5 E2'
  have EX4 := Lib.hid E2'
  clear E2'
  go_upto_region 3 with (fail)
  refine wp_region_Hx (w0 := w1) [0, 1, 2, 3, 4] [(gx, Obj.cells (totA (joinT a b)) 29 (0, 0)), (w.heap.size + 1, Obj.cells (totA b) 29 (0, 0)), (w.heap.size, Obj.cells (totA a) 29 (0, 0))] rfl EX4.out ?_
  refine lexH_phase [0, 1, 2] [3, 4] ?_
  have hw6 : EnvX w1 _ [(gx, Obj.cells (totA (joinT a b)) 29 (0, 0)), (w.heap.size + 1, Obj.cells (totA b) 29 (0, 0)), (w.heap.size, Obj.cells (totA a) 29 (0, 0))] := EX4.out
  have hone := @EnvC.one _ _ _ hw6
  (refine wpG_val (v := .agg (totA b)) rfl rfl (fun u hu => load_any_op u (box_tot hu (List.Mem.tail _ (List.Mem.head _)) HB.out.len) rfl) ?_ hw6; intro K hK; go_big_quiet_op; go_big_quiet_on)
  (refine wpG_val (v := .agg (totA a)) rfl rfl (fun u hu => load_any_op u (box_tot hu (List.Mem.tail _ (List.Mem.tail _ (List.Mem.head _))) HA.out.len) rfl) ?_ hw6; intro K hK; go_big_quiet_op; go_big_quiet_on)
  (refine wpG_call (f := 20) (args := #[.agg (totA b), .agg (totA a)]) (v := .agg (totA (joinT b a))) rfl rfl rfl Tryd.func20 rfl rfl (fun u hu => HJ.out u b a HB.out HA.out (EnvX.sub hu (fun _ h => by cases h))) ?_ hw6; intro K hK; go_big_quiet_op; go_big_quiet_on)
  clear hone hw6
  refine wpG_nil ?_
  refine (hOp_fresh (R := fun x N => ∃ g, x = .pointer (some ⟨g, 0, none⟩) ∧ N = [(g, Obj.cells (totA zTot) 29 (0, 0))]) (M0 := [(gx, Obj.cells (totA (joinT a b)) 29 (0, 0)), (w.heap.size + 1, Obj.cells (totA b) 29 (0, 0)), (w.heap.size, Obj.cells (totA a) 29 (0, 0))]) rfl rfl (fun _ h => h) (fun u hu => FAt_new (new_tot _) u) ?_)
  rintro _ _ ⟨gy, rfl, rfl⟩ hf he7; intro K' hK'; go_big_quiet_op; go_big_quiet_on
  have HGgy := Lib.hid (hf _ (List.mem_singleton.2 rfl))
  clear hf
  change lexH _ _ _ _ _ _ [(gy, Obj.cells (totA zTot) 29 (0, 0)), (gx, Obj.cells (totA (joinT a b)) 29 (0, 0)), (w.heap.size + 1, Obj.cells (totA b) 29 (0, 0)), (w.heap.size, Obj.cells (totA a) 29 (0, 0))]
  refine (hOp_store rfl (gy) (totA (joinT b a)) rfl rfl HGgy.out.1 29 ((totA zTot)) (List.Mem.head _) (infoTot _ (totA_size join_ok.len)) (zTot_size.trans (totA_size join_ok.len).symm) (totA_one _) [(gy, Obj.cells (totA (joinT b a)) 29 (0, 0)), (gx, Obj.cells (totA (joinT a b)) 29 (0, 0)), (w.heap.size + 1, Obj.cells (totA b) 29 (0, 0)), (w.heap.size, Obj.cells (totA a) 29 (0, 0))] (List.forall_mem_cons.2 ⟨.inl rfl, fun y hy => .inr ⟨List.mem_cons_of_mem _ hy, HGgy.out.2 y hy⟩⟩) ?_)
  intro he8
  intro u10 E2'
  have EX9 := Lib.hid E2'
  clear E2'
  go_upto_region 4 with (fail)
  refine wp_region_Hx (w0 := w1) [0, 1, 2, 3, 4, 5, 6, 7, 8, 9, 10] [(gy, Obj.cells (totA (joinT b a)) 29 (0, 0)), (gx, Obj.cells (totA (joinT a b)) 29 (0, 0)), (w.heap.size + 1, Obj.cells (totA b) 29 (0, 0)), (w.heap.size, Obj.cells (totA a) 29 (0, 0))] rfl EX9.out ?_
  refine lexH_phase [0, 1, 2, 3, 4, 5, 6, 7] [8, 9, 10] ?_
  have hw11 : EnvX w1 _ [(gy, Obj.cells (totA (joinT b a)) 29 (0, 0)), (gx, Obj.cells (totA (joinT a b)) 29 (0, 0)), (w.heap.size + 1, Obj.cells (totA b) 29 (0, 0)), (w.heap.size, Obj.cells (totA a) 29 (0, 0))] := EX9.out
  have hone := @EnvC.one _ _ _ hw11
  (refine wpG_op rfl rfl rfl ?_; intro K hK; go_big_quiet_op; go_big_quiet_on)
  (refine wpG_val (v := .agg (wcs a.w)) rfl rfl (fun u hu => load_any_op u (box_totW hu (List.Mem.tail _ (List.Mem.tail _ (List.Mem.tail _ (List.Mem.head _)))) HA.out.len) rfl) ?_ hw11; intro K hK; go_big_quiet_op; go_big_quiet_on)
  (refine wpG_op rfl rfl rfl ?_; intro K hK; go_big_quiet_op; go_big_quiet_on)
  (refine wpG_val (v := .agg (wcs b.w)) rfl rfl (fun u hu => load_any_op u (box_totW hu (List.Mem.tail _ (List.Mem.tail _ (List.Mem.head _))) HB.out.len) rfl) ?_ hw11; intro K hK; go_big_quiet_op; go_big_quiet_on)
  (refine wpG_call (f := 27) (args := #[.agg (wcs a.w), .agg (wcs b.w)]) (v := .tuple #[.agg (wcs ((a.w + b.w) % Big)), .bool (decide (a.w + b.w < Big))]) rfl rfl rfl Tryd.func27 rfl rfl (fun u hu => HADD.out u) ?_ hw11; intro K hK; go_big_quiet_op; go_big_quiet_on)
  (refine wpG_op rfl rfl rfl ?_; intro K hK; go_big_quiet_op; go_big_quiet_on)
  (refine wpG_op rfl rfl rfl ?_; intro K hK; go_big_quiet_op; go_big_quiet_on)
  (refine wpG_op rfl rfl rfl ?_; intro K hK; go_big_quiet_op; go_big_quiet_on)
  clear hone hw11
  refine wpG_nil ?_
  refine (hOp_fresh (R := fun x N => ∃ g, x = .pointer (some ⟨g, 0, none⟩) ∧ N = [(g, Obj.cells (wcs 0) 27 (0, 0))]) (M0 := [(gy, Obj.cells (totA (joinT b a)) 29 (0, 0)), (gx, Obj.cells (totA (joinT a b)) 29 (0, 0)), (w.heap.size + 1, Obj.cells (totA b) 29 (0, 0)), (w.heap.size, Obj.cells (totA a) 29 (0, 0))]) rfl rfl (fun _ h => h) (fun u hu => FAt_new (new_wd _) u) ?_)
  rintro _ _ ⟨gs, rfl, rfl⟩ hf he12; intro K' hK'; go_big_quiet_op; go_big_quiet_on
  have HGgs := Lib.hid (hf _ (List.mem_singleton.2 rfl))
  clear hf
  change lexH _ _ _ _ _ _ [(gs, Obj.cells (wcs 0) 27 (0, 0)), (gy, Obj.cells (totA (joinT b a)) 29 (0, 0)), (gx, Obj.cells (totA (joinT a b)) 29 (0, 0)), (w.heap.size + 1, Obj.cells (totA b) 29 (0, 0)), (w.heap.size, Obj.cells (totA a) 29 (0, 0))]
  refine (hOp_store rfl (gs) (wcs ((a.w + b.w) % Big)) rfl rfl HGgs.out.1 27 ((wcs 0)) (List.Mem.head _) (wc_info _) ((wc_size _).trans (wc_size _).symm) (wc_one _) [(gs, Obj.cells (wcs ((a.w + b.w) % Big)) 27 (0, 0)), (gy, Obj.cells (totA (joinT b a)) 29 (0, 0)), (gx, Obj.cells (totA (joinT a b)) 29 (0, 0)), (w.heap.size + 1, Obj.cells (totA b) 29 (0, 0)), (w.heap.size, Obj.cells (totA a) 29 (0, 0))] (List.forall_mem_cons.2 ⟨.inl rfl, fun y hy => .inr ⟨List.mem_cons_of_mem _ hy, HGgs.out.2 y hy⟩⟩) ?_)
  intro he13
  refine lexH_phase [10] [] ?_
  have hw14 : EnvX w1 _ [(gs, Obj.cells (wcs ((a.w + b.w) % Big)) 27 (0, 0)), (gy, Obj.cells (totA (joinT b a)) 29 (0, 0)), (gx, Obj.cells (totA (joinT a b)) 29 (0, 0)), (w.heap.size + 1, Obj.cells (totA b) 29 (0, 0)), (w.heap.size, Obj.cells (totA a) 29 (0, 0))] := he13.choose_spec
  have hone := @EnvC.one _ _ _ hw14
  (refine wpG_op rfl rfl rfl ?_; intro K hK; go_big_quiet_op; go_big_quiet_on)
  clear hone hw14
  refine wpG_nil ?_
  intro u16 E2'
  have EX15 := Lib.hid E2'
  clear E2'
  go_upto_region 5 with (fail)
  refine wp_region_Hx (w0 := w1) [0, 1, 2, 3, 4, 5, 6, 7, 8, 9, 10, 11, 12, 13, 14, 15, 16, 17, 18, 19, 20, 21, 22, 23, 24, 25, 26, 27, 28, 29, 30, 31, 32, 33, 34, 35, 36, 37, 38, 39, 40] [(gs, Obj.cells (wcs ((a.w + b.w) % Big)) 27 (0, 0)), (gy, Obj.cells (totA (joinT b a)) 29 (0, 0)), (gx, Obj.cells (totA (joinT a b)) 29 (0, 0)), (w.heap.size + 1, Obj.cells (totA b) 29 (0, 0)), (w.heap.size, Obj.cells (totA a) 29 (0, 0))] rfl EX15.out ?_
  refine lexH_phase [0, 1, 2, 3, 4, 5, 6, 7, 8, 9, 10, 11, 12, 13, 14, 15, 16, 17, 18, 19, 20, 21, 22, 23, 24, 25, 26, 27, 28, 29, 30, 31, 32, 33, 34, 35, 36, 37, 38, 39, 40] [] ?_
  have hw17 : EnvX w1 _ [(gs, Obj.cells (wcs ((a.w + b.w) % Big)) 27 (0, 0)), (gy, Obj.cells (totA (joinT b a)) 29 (0, 0)), (gx, Obj.cells (totA (joinT a b)) 29 (0, 0)), (w.heap.size + 1, Obj.cells (totA b) 29 (0, 0)), (w.heap.size, Obj.cells (totA a) 29 (0, 0))] := EX15.out
  have hone := @EnvC.one _ _ _ hw17
  (refine wpG_op rfl rfl rfl ?_; intro K hK; go_big_quiet_op; go_big_quiet_on)
  (refine wpG_op rfl rfl rfl ?_; intro K hK; go_big_quiet_op; go_big_quiet_on)
  (refine wpG_op rfl rfl rfl ?_; intro K hK; go_big_quiet_op; go_big_quiet_on)
  (refine wpG_val (v := .agg (wcs ((a.w + b.w) % Big))) rfl rfl (fun u hu => load_any_op u (box_totW hu (List.Mem.tail _ (List.Mem.tail _ (List.Mem.head _))) join_ok.len) rfl) ?_ hw17; intro K hK; go_big_quiet_op; go_big_quiet_on)
  (refine wpG_val (v := .agg (wcs ((a.w + b.w) % Big))) rfl rfl (fun u hu => load_any_op u (box_wide hu (List.Mem.head _)) rfl) ?_ hw17; intro K hK; go_big_quiet_op; go_big_quiet_on)
  (refine wpG_val (v := .bool true) rfl rfl (fun u hu => eqlW_op (HLT.out _) (HLT.out _) HCW.out u rfl rfl) ?_ hw17; intro K hK; go_big_quiet_op; go_big_quiet_on)
  (refine wpG_op rfl rfl rfl ?_; intro K hK; go_big_quiet_op; go_big_quiet_on)
  (refine wpG_op rfl rfl rfl ?_; intro K hK; go_big_quiet_op; go_big_quiet_on)
  (refine wpG_op rfl rfl rfl ?_; intro K hK; go_big_quiet_op; go_big_quiet_on)
  (refine wpG_val (v := .agg (wcs ((b.w + a.w) % Big))) rfl rfl (fun u hu => load_any_op u (box_totW hu (List.Mem.tail _ (List.Mem.head _)) join_ok.len) rfl) ?_ hw17; intro K hK; go_big_quiet_op; go_big_quiet_on)
  (refine wpG_val (v := .agg (wcs ((a.w + b.w) % Big))) rfl rfl (fun u hu => load_any_op u (box_wide hu (List.Mem.head _)) rfl) ?_ hw17; intro K hK; go_big_quiet_op; go_big_quiet_on)
  (refine wpG_val (v := .bool true) rfl rfl (fun u hu => eqlW_op (HLT.out _) (HLT.out _) HCW2.out u rfl rfl) ?_ hw17; intro K hK; go_big_quiet_op; go_big_quiet_on)
  (refine wpG_op rfl rfl rfl ?_; intro K hK; go_big_quiet_op; go_big_quiet_on)
  (refine wpG_op rfl rfl rfl ?_; intro K hK; go_big_quiet_op; go_big_quiet_on)
  (refine wpG_op rfl rfl rfl ?_; intro K hK; go_big_quiet_op; go_big_quiet_on)
  (refine wpG_val (v := .int .i64 (IntKind.i64.wrap (a.n + b.n))) rfl rfl (fun u hu => load_any_op u (box_totN hu (List.Mem.tail _ (List.Mem.tail _ (List.Mem.head _))) join_ok.len) rfl) ?_ hw17; intro K hK; go_big_quiet_op; go_big_quiet_on)
  (refine wpG_op rfl rfl rfl ?_; intro K hK; go_big_quiet_op; go_big_quiet_on)
  (refine wpG_val (v := .int .i64 (a.n)) rfl rfl (fun u hu => load_any_op u (box_totN hu (List.Mem.tail _ (List.Mem.tail _ (List.Mem.tail _ (List.Mem.tail _ (List.Mem.head _))))) HA.out.len) rfl) ?_ hw17; intro K hK; go_big_quiet_op; go_big_quiet_on)
  (refine wpG_op rfl rfl rfl ?_; intro K hK; go_big_quiet_op; go_big_quiet_on)
  (refine wpG_val (v := .int .i64 (b.n)) rfl rfl (fun u hu => load_any_op u (box_totN hu (List.Mem.tail _ (List.Mem.tail _ (List.Mem.tail _ (List.Mem.head _)))) HB.out.len) rfl) ?_ hw17; intro K hK; go_big_quiet_op; go_big_quiet_on)
  (refine wpG_val (v := .int .i64 (IntKind.i64.wrap (a.n + b.n))) rfl rfl (fun u hu => addW_op u rfl rfl) ?_ hw17; intro K hK; go_big_quiet_op; go_big_quiet_on)
  (refine wpG_val (v := .bool true) rfl rfl (fun u hu => eqlI_op u (decide_eq_true rfl) rfl rfl) ?_ hw17; intro K hK; go_big_quiet_op; go_big_quiet_on)
  (refine wpG_op rfl rfl rfl ?_; intro K hK; go_big_quiet_op; go_big_quiet_on)
  (refine wpG_op rfl rfl rfl ?_; intro K hK; go_big_quiet_op; go_big_quiet_on)
  (refine wpG_op rfl rfl rfl ?_; intro K hK; go_big_quiet_op; go_big_quiet_on)
  (refine wpG_val (v := .int .i64 (IntKind.i64.wrap (b.n + a.n))) rfl rfl (fun u hu => load_any_op u (box_totN hu (List.Mem.tail _ (List.Mem.head _)) join_ok.len) rfl) ?_ hw17; intro K hK; go_big_quiet_op; go_big_quiet_on)
  (refine wpG_op rfl rfl rfl ?_; intro K hK; go_big_quiet_op; go_big_quiet_on)
  (refine wpG_val (v := .int .i64 (IntKind.i64.wrap (a.n + b.n))) rfl rfl (fun u hu => load_any_op u (box_totN hu (List.Mem.tail _ (List.Mem.tail _ (List.Mem.head _))) join_ok.len) rfl) ?_ hw17; intro K hK; go_big_quiet_op; go_big_quiet_on)
  (refine wpG_val (v := .bool true) rfl rfl (fun u hu => eqlI_op u HCN2.out rfl rfl) ?_ hw17; intro K hK; go_big_quiet_op; go_big_quiet_on)
  (refine wpG_op rfl rfl rfl ?_; intro K hK; go_big_quiet_op; go_big_quiet_on)
  (refine wpG_op rfl rfl rfl ?_; intro K hK; go_big_quiet_op; go_big_quiet_on)
  (refine wpG_val (v := .agg (totA a)) rfl rfl (fun u hu => load_any_op u (box_tot hu (List.Mem.tail _ (List.Mem.tail _ (List.Mem.tail _ (List.Mem.tail _ (List.Mem.head _))))) HA.out.len) rfl) ?_ hw17; intro K hK; go_big_quiet_op; go_big_quiet_on)
  (refine wpG_val (v := .agg (totA b)) rfl rfl (fun u hu => load_any_op u (box_tot hu (List.Mem.tail _ (List.Mem.tail _ (List.Mem.tail _ (List.Mem.head _)))) HB.out.len) rfl) ?_ hw17; intro K hK; go_big_quiet_op; go_big_quiet_on)
  (refine wpG_val (v := .bool true) rfl rfl (fun u hu => neqTb_op HA.out HB.out HEQ.out u rfl rfl) ?_ hw17; intro K hK; go_big_quiet_op; go_big_quiet_on)
  (refine wpG_op rfl rfl rfl ?_; intro K hK; go_big_quiet_op; go_big_quiet_on)
  (refine wpG_skip rfl rfl ?_ hw17; intro K hK; go_big_quiet_op; go_big_quiet_on)
  (refine wpG_skip rfl rfl ?_ hw17; intro K hK; go_big_quiet_op; go_big_quiet_on)
  (refine wpG_skip rfl rfl ?_ hw17; intro K hK; go_big_quiet_op; go_big_quiet_on)
  (refine wpG_op rfl rfl rfl ?_; intro K hK; go_big_quiet_op; go_big_quiet_on)
  (refine wpG_op rfl rfl rfl ?_; intro K hK; go_big_quiet_op; go_big_quiet_on)
  (refine wpG_op rfl rfl rfl ?_; intro K hK; go_big_quiet_op; go_big_quiet_on)
  clear hone hw17
  refine wpG_nil ?_
  intro u19 E2'
  have EX18 := Lib.hid E2'
  clear E2'
  go_wp2
  go_ret
  exact ⟨rfl, HB1.out.trans ((EnvX.bel EX18.out).mono HB1.out.size)⟩
theorem law_joins (T : MmrC) (a b : Tot) (w : World) (ha : okT a) (hb : okT b) (ht : Tables w) :
    Calls Tryd.prog 8 #[totV a, totV b] w fun e w' => e = .returned (.bool true) ∧ Below w.heap.size w w' := by
  by_cases d0 : a = b
  · exact law_joins_e T a b w ha hb ht d0
  · exact law_joins_n T a b w ha hb ht d0
end Go.Proofs.YtbmiecogjmbciaaDoor

namespace Go.Proofs.YtbmiecogjmbciaaDoor.mmrJoins
set_option maxRecDepth 8000
open Go.ChangeShapes Go.WideShapes Go.ChangeAt Go.RowKit

theorem contract (H : Type) (enc : TypeId × Value → H) (W : World) (base : Nat) (args : Array Value) (ds gs : List (DataW H)) (before : List MemPlace)
    (hval : ∀ (j : Nat) t v, Tryd.f8.params[j]? = some t → args[j]? = some v → Value.okWide Tryd.prog W .any base t v)
    (hW : DataW.Whole enc Tryd.prog Tryd.f8.params.toList Rows.mmrJoinsSpec.vars false W args.toList ds gs before) (hL : laidMetH Tryd.prog Rows.mmrJoinsRow.laid W) :
    Calls Tryd.prog 8 args W fun e W' => ∃ v, e = .returned v ∧ Rows.mmrJoinsSpec.post enc Tryd.prog Tryd.f8 false true false false W args v W' := by
  have hW' := hW
  obtain ⟨p, q, hA0, hV, rfl, hfz, hnd⟩ := hW
  have hA : DataW.TrodAll enc Tryd.prog W 0 (fun _ => true) true Tryd.f8.params.toList args.toList ds p := hA0
  rw [Tryd.params8] at hA hval
  obtain ⟨v0, vs0, d0, ds0, p0, q0, hargs, rfl, rfl, h0, r0⟩ := trodAll_cons hA
  obtain ⟨v1, vs1, d1, ds1, p1, q1, rfl, rfl, rfl, h1, r1⟩ := trodAll_cons r0
  obtain ⟨rfl, rfl, rfl⟩ := trodAll_nil r1
  obtain rfl : args = #[v0, v1] := by cases args; simp_all
  obtain ⟨rfl, rfl⟩ := trodVars_none hV
  have lt0 : ∀ x ∈ p0, x.block < W.heap.size := by obtain ⟨m, hm⟩ := h0; exact DataW.trod_lt m _ _ _ hm
  obtain ⟨x0, rfl, kx0⟩ := open_tot (hval 0 29 v0 rfl rfl) h0
  have lt1 : ∀ x ∈ p1, x.block < W.heap.size := by obtain ⟨m, hm⟩ := h1; exact DataW.trod_lt m _ _ _ hm
  obtain ⟨x1, rfl, kx1⟩ := open_tot (hval 1 29 v1 rfl rfl) h1
  clear hA0
  refine (law_joins mmrC x0 x1 W kx0 kx1 (tables_of_laid hL)).mono fun e W' ⟨he, bel⟩ => ?_
  subst he
  exact ⟨_, rfl, _, _, _, [], _, [], hW', trodAll_mk1 (shut_bool Tryd.underlying4 _), (trodAll_cons_mk (Below.trod laidOut (by kernel_rfl) (of_decide_eq_true (by kernel_rfl)) h0 bel lt0) (trodAll_cons_mk (Below.trod laidOut (by kernel_rfl) (of_decide_eq_true (by kernel_rfl)) h1 bel lt1) trodAll_mk0)), rfl, bel.frame _, fun h => by cases h⟩

def start : Array Value := #[zeroT, zeroT]
theorem reads (os : Os) {H : Type} (enc : TypeId × Value → H) : ∃ places, DataW.whole enc Tryd.prog ((laidWorld os).forCall (fun _ _ => 0) ⟨#[], start, []⟩).memory Tryd.f8.params.toList Rows.mmrJoinsSpec.vars false start.toList 8 = some ([zeroTD, zeroTD], [], places) :=
  ⟨[], by kernel_rfl⟩

set_option maxRecDepth 100000 in
theorem lifted (os : Os) (started : os.Started) (H : Type) (enc : TypeId × Value → H) (F : Stop.Interp) :
    ReturnsInHanded {} Tryd.checked os 8 .any ((OpenSpec.ofChange Rows.mmrJoinsSpec).preRow enc Tryd.prog Tryd.f8 Rows.mmrJoinsRow.domain false Rows.mmrJoinsRow.laid) (((OpenSpec.ofChange Rows.mmrJoinsSpec).at F).post enc Tryd.prog Tryd.f8 false true false false) := by
  obtain ⟨places, hx⟩ := reads os enc
  refine returnsInHanded_of_row (C := Tryd.checked) (s := OpenSpec.ofChange Rows.mmrJoinsSpec) own started (by kernel_rfl) Tryd.func8
    (witness_row_at (enc := enc) (C := Tryd.checked) false (laidWorld os) start rfl (by kernel_rfl) (by kernel_rfl) (by kernel_rfl)
      (OpenSpec.preRow_of_cond 8 hx (by kernel_rfl) (fun k hk => by cases hk) (by kernel_rfl) (laidMet_of_run' 8 (by kernel_rfl) (by kernel_rfl)))) ?_
  intro W base args ds gs before hval hW _ _ _ hL _ _
  exact contract H enc W base args ds gs before hval hW hL

theorem said : Rows.MmrJoinsSaid :=
  OpenClaim.holds_of_cond 8 Tryd.f8 rfl rfl rfl rfl rfl rfl rfl ⟨rfl, rfl, rfl, rfl, rfl⟩ rfl rfl rfl rfl rfl (by kernel_rfl) Tryd.func8 (by kernel_rfl)
    (of_decide_eq_true (by kernel_rfl)) (by unfold Func.isWrapper; first | (rw [if_pos (by decide +kernel)]; kernel_rfl) | (rw [if_neg (by decide +kernel)]; exact ⟨rfl, rfl⟩))
    (fun os started H enc _ F => by rw [OpenClaim.pre_eq_preRow]; exact lifted os started H enc F)

theorem plain (f : FuncId) (fn : Func) (hf : Tryd.pinned.checked.prog.funcNamed "stepladder/stepladderlaw06.MmrJoins" = some f) (hfn : Tryd.pinned.checked.prog.funcs[f]? = some fn) :
    false = Tryd.pinned.checked.prog.looks [] ∧ ∀ (j : Nat) t, fn.params[j]? = some t → Tryd.pinned.checked.prog.wantsStandIn t = false := by
  obtain rfl : f = 8 := Option.some.inj ((show Tryd.prog.funcNamed "stepladder/stepladderlaw06.MmrJoins" = some 8 by kernel_rfl).symm.trans hf) |>.symm
  obtain rfl : fn = Tryd.f8 := (Option.some.inj (Tryd.func8.symm.trans hfn)).symm
  refine ⟨by kernel_rfl, fun j t ht => ?_⟩
  rw [Tryd.params8] at ht
  obtain rfl : t = 29 := by simpa using Array.mem_of_getElem? ht
  exact (show Tryd.prog.wantsStandIn 29 = false by kernel_rfl)

theorem card : Rows.MmrJoinsCardSaid :=
  Claim7.holds_tied_plain_at .later [] _ _ _ _ said (fun _ h => by cases h) (by kernel_rfl) (fun _ h => by cases h) mmrJoins_row_tie rfl ⟨rfl, rfl⟩ (by kernel_rfl) rfl plain (by kernel_rfl)

end Go.Proofs.YtbmiecogjmbciaaDoor.mmrJoins
