/- Part of a proof. -/
import Derived.Test.YtbjojpgedcikiaaDoorCh
namespace Go.Proofs.YtbjojpgedcikiaaDoor
set_option maxRecDepth 8000
open Go.RowKit

section
variable {a : Act} {dst : Option Tmp} {ty : TypeId} {pos : String} {after : Array Edge} {gd : Option (Nat × Bool)}
theorem mkFunc_op {fn : Fn} {caps : Array Operand} {cs : Array Value} (u : World) (h : caps.toList.map a.eval = cs.toList) :
    (execOp a.eval ⟨dst, .makeFunc fn #[] caps, ty, pos, after, gd⟩).run Tryd.prog u = .ok (.value (.func fn #[] cs)) u := by
  have ha : caps.map a.eval = cs := by
    apply Array.ext'
    rw [Array.toList_map]
    exact h
  unfold execOp
  simp only [ha, List.map_toArray, List.map_nil, Instr.makeFunc, Sem.run_bind, Sem.run_pure, Result.andThen_ok]
end
theorem new_fnR {dst : Option Tmp} {ty : TypeId} {pos : String} {after : Array Edge} {gd : Option (Nat × Bool)} (a : Act) : NewAt Tryd.prog ⟨dst, .alloc 91, ty, pos, after, gd⟩ a (.cells #[.nilFunc] 91 (0, 0)) :=
  new_of (z := .nilFunc) (n := 1) (by kernel_rfl) a
theorem info_fnR : (Tryd.prog.info? 91).map (·.size) = some 1 := by kernel_rfl
set_option maxRecDepth 20000 in
set_option maxHeartbeats 4000000 in
theorem rootBy_none (A : Option Addr) (c : Nat) (w : World) (ht : Tables w) :
    Calls Tryd.prog 47 #[ndV, .slice A 0 c] w fun e w' => e = .returned (idv (rootT [])) ∧ Below w.heap.size w w' := by
  rw [root_none]
  obtain ⟨W, hW⟩ : ∃ W, ((((w.alloc (.cells #[ndV] 65)).alloc (.cells #[.slice A 0 c] 22)).alloc (.cells (arrB 32 []) 24)).alloc (.cells #[.int .u8 2] 5)).alloc (.cells #[.slice (some ⟨w.heap.size + 1 + 1 + 1, 0, none⟩) 1 1] 38) = W := ⟨_, rfl⟩
  have r0 : Row W (w.heap.size + 1 + 1) 24 (arrB 32 []) := by rw [← hW]; exact ((Row.newAt (by simp) 24 _).alloc _).alloc _
  have r1 : Row W (w.heap.size + 1 + 1 + 1) 5 #[.int .u8 2] := by rw [← hW]; exact (Row.newAt (by simp) 5 _).alloc _
  have r2 : Row W (w.heap.size + 1 + 1 + 1 + 1) 38 #[.slice (some ⟨w.heap.size + 1 + 1 + 1, 0, none⟩) 1 1] := by rw [← hW]; exact Row.newAt (by simp) 38 _
  have hbW : Below w.heap.size w W := by rw [← hW]; exact (((((Below.refl _ _).alloc (Nat.le_refl _) _).alloc (by simp) _).alloc (by simp; omega) _).alloc (by simp; omega) _).alloc (by simp; omega) _
  have hs : W.heap.size = w.heap.size + 5 := by rw [← hW]; simp
  have hb0 : Bytes W W.heap.size (some ⟨w.heap.size + 1 + 1 + 1, 0, none⟩) [2] := (own_of_row (B := 0) (n := 1) (xs := [2]) r1 rfl (Nat.zero_le _) (by decide)).up
  have hP : Parts W W.heap.size (some ⟨w.heap.size + 1 + 1 + 1 + 1, 0, none⟩) [[2]] := parts_one (c := 1) (by omega) (by rw [r2.cell]; rfl) hb0 (by intro x hx; simp at hx; omega)
  have HOF := Lib.hid (shaof_any (some ⟨w.heap.size + 1 + 1 + 1 + 1, 0, none⟩) 1 1 [[2]] W rfl hP (by omega) (by simp) (ht.below hbW))
  have HE : Hid ([[2]].flatten = ([2] : List Int)) := by show _ = _; simp
  have R0 := Lib.hid r0
  have HB := Lib.hid hbW
  have hz : Hid ((arrB 32 (sumL [2])).size = 32 ∧ (arrB 32 []).size = 32 ∧ (arrB 32 (sumL [2])).all (·.oneCell') = true) := ⟨arrB_size _ _ (by rw [sumL_len]; omega), arrB_size _ _ (by simp), arrB_one _ _⟩
  have HW := Lib.hid hW
  clear r0 r1 r2 hbW hs hb0 hP ht hW
  rw [HE.out] at HOF
  go_enter Tryd.func47, Tryd.ntmps47
  go_upto_region 2 with (fail)
  rw [zero_cells]
  go_wp2_with fail
  have HO2 := HOF.out
  rw [← HW.out] at HO2
  refine HO2.mono ?_
  rintro e w2 ⟨rfl, hb2⟩
  rw [HW.out] at hb2
  clear HO2
  have Q0 : Hid (w2.heap[w.heap.size + 1 + 1]? = some (.cells (arrB 32 []) 24 (0, 0))) := R0.out.below hb2 R0.out.lt
  have HB2 := Lib.hid (HB.out.trans (hb2.mono HB.out.size))
  clear hb2 HOF R0 HB
  generalize hcn : arrB 32 (sumL [2]) = cn at *
  have HCN := Lib.hid hcn
  clear hcn
  generalize arrB 32 [] = zs at *
  go_wp2_with (first
    | ((with_reducible refine wpList_store_row (o := ⟨none, .store 24 _ _, _, _, _, _⟩) ?_ 24 (.tmp 4) (.tmp 11) ?_ (w.heap.size + 1 + 1) cn ?_ ?_ 24 zs Q0.out (info26 cn hz.out.1) (by rw [hz.out.1, hz.out.2.1]) hz.out.2.2 ?_); (rfl); (rfl); (rfl); (rfl))
    | ((with_reducible refine bodyPost_ret (v := .agg cn) ?_ ?_ ?_); (exact results_cell_row (p := 4) (ty := 24) Tryd.results47 _ _ (w.heap.size + 1 + 1) 24 cn (0, 0) _ rfl (setRow_heap _ _ zs cn 24 (0, 0) Q0.out) Tryd.underlying24 rfl (info26 cn hz.out.1)); (rfl)))
  exact ⟨by unfold idv; rw [HCN.out], below_setRow HB2.out (by omega) _⟩
set_option maxRecDepth 20000 in
set_option maxHeartbeats 4000000 in
theorem rootBy_some (l : List (List Int)) (A : Option Addr) (n c : Nat) (w : World) (hl : l.length = n) (hn : n ≤ 1000000) (hp : 1 ≤ n) (hI : isIds l) (hA : IdsIn w w.heap.size A l) (ht : Tables w) :
    Calls Tryd.prog 47 #[ndV, .slice A n c] w fun e w' => e = .returned (idv (rootT l)) ∧ Below w.heap.size w w' := by
  have HNZ : Hid (decide ((n : Int) = 0) = false) := decide_eq_false (by omega)
  have HN : Hid (n < 9223372036854775808) := by show _ < _; omega
  have HR1 : Hid (∀ u bl bw bn, EnvX w u [(bw, bxR bl bw bn), (bn, bxN), (bl, bxL A n c)] → Calls Tryd.prog 65 #[.agg #[ii 0, ii n], ptr bl, ptr bw, ptr bn] u fun e w' => e = .returned (idv (rootT l)) ∧ Below u.heap.size u w') := fun u bl bw bn hu => by
    have h := root1_any A n c l bl bw bn hI hl hn n 0 u hp (by omega) ⟨Below.refl _ _, fun g o hm => by
      rcases List.mem_cons.1 hm with e | hm
      · cases e; exact EnvX.box hu _ _ (List.Mem.tail _ (List.Mem.tail _ (List.Mem.head _)))
      rcases List.mem_cons.1 hm with e | hm
      · cases e; exact EnvX.box hu _ _ (List.Mem.head _)
      · cases List.mem_singleton.1 hm; exact EnvX.box hu _ _ (List.Mem.tail _ (List.Mem.head _))⟩ (hA.up (EnvX.bel hu)) (ht.below (EnvX.bel hu))
    have e : spanC 0 n = [ii 0, ii n] := by unfold spanC; rw [Nat.zero_add]
    rw [e, List.drop_zero, List.take_of_length_le (by omega)] at h
    exact h
  have HNL : Hid ((rootT l).length ≤ 32) := by show _ ≤ _; rw [(root_id hI).1]; omega
  have HLE : Hid (w.heap.size ≤ w.heap.size + 1 + 1) := by show _ ≤ _; omega
  have E1 : Hid (EnvX w (((w.alloc (.cells #[ndV] 65)).alloc (.cells #[.slice A n c] 22)).alloc (.cells (arrB 32 []) 24)) [(w.heap.size + 1 + 1, Obj.cells (arrB 32 []) 24 (0, 0)), (w.heap.size + 1, bxL A n c), (w.heap.size, bxN)]) := by
    have h := ((EnvX.start w).two bxN (bxL A n c)).new (Obj.cells (arrB 32 []) 24 (0, 0))
    have hs : ((w.alloc bxN).alloc (bxL A n c)).heap.size = w.heap.size + 1 + 1 := by simp
    rw [hs] at h
    exact h
  clear hI hA ht
  go_enter Tryd.func47, Tryd.ntmps47
  go_upto_region 1 with (fail)
  rw [zero_cells]
  change Code.wp _ _ _ _ (((w.alloc (.cells #[ndV] 65)).alloc (.cells #[.slice A n c] 22)).alloc (.cells (arrB 32 []) 24))
  generalize ((w.alloc (.cells #[ndV] 65)).alloc (.cells #[.slice A n c] 22)).alloc (.cells (arrB 32 []) 24) = W at *
  refine wp_region_Hx (w0 := w) [0, 1, 2] [(w.heap.size + 1 + 1, Obj.cells (arrB 32 []) 24 (0, 0)), (w.heap.size + 1, bxL A n c), (w.heap.size, bxN)] rfl E1.out ?_
  refine lexH_phase [0, 1, 2] [] ?_
  have hw1 : EnvX w _ [(w.heap.size + 1 + 1, Obj.cells (arrB 32 []) 24 (0, 0)), (w.heap.size + 1, bxL A n c), (w.heap.size, bxN)] := E1.out
  have hone := @EnvC.one _ _ _ hw1
  (refine wpG_val (v := .slice A n c) rfl rfl (fun u hu => load_any_op u (run_load_one oneIds u (box_cell (k := 0) hu (List.Mem.tail _ (List.Mem.head _)) rfl)) rfl) ?_ hw1; intro K hK; go_big_quiet_op; go_big_quiet_on)
  (refine wpG_val (v := ii n) rfl rfl (fun u hu => len_op Tryd.underlying22 HN.out u rfl) ?_ hw1; intro K hK; go_big_quiet_op; go_big_quiet_on)
  (refine wpG_val (v := .bool false) rfl rfl (fun u hu => eqlI_op u HNZ.out rfl rfl) ?_ hw1; intro K hK; go_big_quiet_op; go_big_quiet_on)
  clear hone hw1
  refine wpG_nil ?_
  intro u3 E2'
  have EX2 := Lib.hid E2'
  clear E2'
  go_upto_region 3 with (fail)
  refine wp_region_Hx (w0 := w) [0] [(w.heap.size + 1 + 1, Obj.cells (arrB 32 []) 24 (0, 0)), (w.heap.size + 1, bxL A n c), (w.heap.size, bxN)] rfl EX2.out ?_
  refine (hOp_fresh (R := fun x N => ∃ g, x = .pointer (some ⟨g, 0, none⟩) ∧ N = [(g, Obj.cells #[.nilFunc] 91 (0, 0))]) (M0 := [(w.heap.size + 1 + 1, Obj.cells (arrB 32 []) 24 (0, 0)), (w.heap.size + 1, bxL A n c), (w.heap.size, bxN)]) rfl rfl (fun _ h => h) (fun u hu => FAt_new (new_fnR _) u) ?_)
  rintro x N ⟨bw, rfl, rfl⟩ hf he4; intro K' hK'; go_big_quiet_op; go_big_quiet_on
  have HGW := Lib.hid (hf _ (List.mem_singleton.2 rfl))
  clear hf
  change lexH _ _ _ _ _ _ [(bw, Obj.cells #[.nilFunc] 91 (0, 0)), (w.heap.size + 1 + 1, Obj.cells (arrB 32 []) 24 (0, 0)), (w.heap.size + 1, bxL A n c), (w.heap.size, bxN)]
  intro u6 E2'
  have EX5 := Lib.hid E2'
  clear E2'
  go_upto_region 4 with (fail)
  refine wp_region_Hx (w0 := w) [0, 1] [(bw, Obj.cells #[.nilFunc] 91 (0, 0)), (w.heap.size + 1 + 1, Obj.cells (arrB 32 []) 24 (0, 0)), (w.heap.size + 1, bxL A n c), (w.heap.size, bxN)] rfl EX5.out ?_
  refine lexH_phase [0] [1] ?_
  have hw7 : EnvX w _ [(bw, Obj.cells #[.nilFunc] 91 (0, 0)), (w.heap.size + 1 + 1, Obj.cells (arrB 32 []) 24 (0, 0)), (w.heap.size + 1, bxL A n c), (w.heap.size, bxN)] := EX5.out
  have hone := @EnvC.one _ _ _ hw7
  (refine wpG_val (v := r1V (w.heap.size + 1) bw w.heap.size) rfl rfl (fun u hu => mkFunc_op u rfl) ?_ hw7; intro K hK; go_big_quiet_op; go_big_quiet_on)
  clear hone hw7
  refine wpG_nil ?_
  refine (hOp_putAt rfl (bw) (0) (r1V (w.heap.size + 1) bw w.heap.size) rfl rfl HGW.out.1 91 (#[.nilFunc]) (#[r1V (w.heap.size + 1) bw w.heap.size]) (List.Mem.head _) info_fnR (Nat.le_refl 1) (by kernel_rfl) rfl [(bw, Obj.cells (#[r1V (w.heap.size + 1) bw w.heap.size]) 91 (0, 0)), (w.heap.size + 1 + 1, Obj.cells (arrB 32 []) 24 (0, 0)), (w.heap.size + 1, bxL A n c), (w.heap.size, bxN)] (List.forall_mem_cons.2 ⟨.inl rfl, fun y hy => .inr ⟨List.mem_cons_of_mem _ hy, HGW.out.2 y hy⟩⟩) ?_)
  intro he8
  intro u10 E2'
  have EX9 := Lib.hid E2'
  clear E2'
  go_upto_region 5 with (fail)
  refine wp_region_Hx (w0 := w) [0, 1, 2, 3, 4, 5] [(bw, bxR (w.heap.size + 1) bw w.heap.size), (w.heap.size + 1 + 1, Obj.cells (arrB 32 []) 24 (0, 0)), (w.heap.size + 1, bxL A n c), (w.heap.size, bxN)] rfl EX9.out ?_
  refine lexH_phase [0, 1, 2, 3, 4] [5] ?_
  have hw11 : EnvX w _ [(bw, bxR (w.heap.size + 1) bw w.heap.size), (w.heap.size + 1 + 1, Obj.cells (arrB 32 []) 24 (0, 0)), (w.heap.size + 1, bxL A n c), (w.heap.size, bxN)] := EX9.out
  have hone := @EnvC.one _ _ _ hw11
  (refine wpG_val (v := r1V (w.heap.size + 1) bw w.heap.size) rfl rfl (fun u hu => load_any_op u (run_load_one oneFnR u (box_cell (k := 0) hu (List.Mem.head _) rfl)) rfl) ?_ hw11; intro K hK; go_big_quiet_op; go_big_quiet_on)
  (refine wpG_val (v := .slice A n c) rfl rfl (fun u hu => load_any_op u (run_load_one oneIds u (box_cell (k := 0) hu (List.Mem.tail _ (List.Mem.tail _ (List.Mem.head _))) rfl)) rfl) ?_ hw11; intro K hK; go_big_quiet_op; go_big_quiet_on)
  (refine wpG_val (v := ii n) rfl rfl (fun u hu => len_op Tryd.underlying22 HN.out u rfl) ?_ hw11; intro K hK; go_big_quiet_op; go_big_quiet_on)
  (refine wpG_val (v := .agg #[ii 0, ii n]) rfl rfl (fun u hu => buildA_op u (by kernel_rfl)) ?_ hw11; intro K hK; go_big_quiet_op; go_big_quiet_on)
  (refine wpG_callV (f := 65) (args := #[.agg #[ii 0, ii n]]) (caps := #[ptr (w.heap.size + 1), ptr bw, ptr w.heap.size]) (all := #[.agg #[ii 0, ii n], ptr (w.heap.size + 1), ptr bw, ptr w.heap.size]) (v := idv (rootT l)) rfl rfl rfl rfl rfl Tryd.func65 rfl rfl (fun u hu => HR1.out u _ _ _ (EnvX.sub hu (List.forall_mem_cons.2 ⟨List.Mem.head _, List.forall_mem_cons.2 ⟨(List.Mem.tail _ (List.Mem.tail _ (List.Mem.tail _ (List.Mem.head _)))), List.forall_mem_cons.2 ⟨(List.Mem.tail _ (List.Mem.tail _ (List.Mem.head _))), (fun _ h => by cases h)⟩⟩⟩))) ?_ hw11; intro K hK; go_big_quiet_op; go_big_quiet_on)
  clear hone hw11
  refine wpG_nil ?_
  refine (hOp_store rfl (w.heap.size + 1 + 1) (arrB 32 (rootT l)) rfl rfl HLE.out 24 ((arrB 32 [])) (List.Mem.tail _ (List.Mem.head _)) (info26 _ (arrB_size _ _ (by exact HNL.out))) ((arrB_size _ _ (by simp)).trans (arrB_size _ _ (by exact HNL.out)).symm) (arrB_one _ _) [(w.heap.size + 1 + 1, Obj.cells (arrB 32 (rootT l)) 24 (0, 0))] (List.forall_mem_cons.2 ⟨.inl rfl, (fun _ h => by cases h)⟩) ?_)
  intro he12
  intro u14 E2'
  have EX13 := Lib.hid E2'
  clear E2'
  have hsz : Hid ((arrB 32 (rootT l)).size = 32) := arrB_size _ _ HNL.out
  have Q0 := Lib.hid (EnvX.box EX13.out _ _ (List.Mem.head _))
  have HBEL := Lib.hid EX13.out.bel
  clear EX13
  unfold idv
  generalize hcn : arrB 32 (rootT l) = cn at *
  have HCN := Lib.hid hcn
  clear hcn
  go_wp2_with ((with_reducible refine bodyPost_ret (v := .agg cn) ?_ ?_ ?_); (exact results_cell_row (p := 4) (ty := 24) Tryd.results47 _ _ (w.heap.size + 1 + 1) 24 cn (0, 0) _ rfl Q0.out Tryd.underlying24 rfl (info26 cn hsz.out)); (rfl))
  first | exact HBEL.out | exact ⟨rfl, HBEL.out⟩ | exact ⟨by unfold idv; rw [HCN.out], HBEL.out⟩
theorem rootBy_any (l : List (List Int)) (A : Option Addr) (n c : Nat) (w : World) (hl : l.length = n) (hn : n ≤ 1000000) (hI : isIds l) (hA : IdsIn w w.heap.size A l) (ht : Tables w) :
    Calls Tryd.prog 47 #[ndV, .slice A n c] w fun e w' => e = .returned (idv (rootT l)) ∧ Below w.heap.size w w' := by
  by_cases h0 : n = 0
  · subst h0
    obtain rfl := List.eq_nil_of_length_eq_zero hl
    exact rootBy_none A c w ht
  · exact rootBy_some l A n c w hl hn (by omega) hI hA ht
set_option maxRecDepth 20000 in
set_option maxHeartbeats 4000000 in
theorem root_any (l : List (List Int)) (A : Option Addr) (n c : Nat) (w : World) (hl : l.length = n) (hn : n ≤ 1000000) (hI : isIds l) (hA : IdsIn w w.heap.size A l) (ht : Tables w) :
    Calls Tryd.prog 31 #[.slice A n c] w fun e w' => e = .returned (idv (rootT l)) ∧ Below w.heap.size w w' := by
  have HC : Hid (∀ u, EnvX w u [] → Calls Tryd.prog 47 #[ndV, .slice A n c] u fun e w' => e = .returned (idv (rootT l)) ∧ Below u.heap.size u w') := fun u hu => rootBy_any l A n c u hl hn hI (hA.up (EnvX.bel hu)) (ht.below (EnvX.bel hu))
  have HNL : Hid ((rootT l).length ≤ 32) := by show _ ≤ _; rw [(root_id hI).1]; omega
  have E1 : Hid (EnvX w (w.alloc (.cells (arrB 32 []) 24)) [(w.heap.size, Obj.cells (arrB 32 []) 24 (0, 0))]) := (EnvX.start w).new _
  clear hI hA ht
  go_enter Tryd.func31, Tryd.ntmps31
  go_upto_region 1 with (fail)
  rw [zero_cells]
  generalize w.alloc (.cells (arrB 32 []) 24) = W at *
  refine wp_region_Hx (w0 := w) [0, 1, 2] [(w.heap.size, Obj.cells (arrB 32 []) 24 (0, 0))] rfl E1.out ?_
  refine lexH_phase [0, 1] [2] ?_
  have hw1 : EnvX w _ [(w.heap.size, Obj.cells (arrB 32 []) 24 (0, 0))] := E1.out
  have hone := @EnvC.one _ _ _ hw1
  (refine wpG_op rfl rfl rfl ?_; intro K hK; go_big_quiet_op; go_big_quiet_on)
  (refine wpG_call (f := 47) (args := #[ndV, .slice A n c]) (v := idv (rootT l)) rfl rfl rfl Tryd.func47 rfl rfl (fun u hu => HC.out u (EnvX.sub hu (fun _ h => by cases h))) ?_ hw1; intro K hK; go_big_quiet_op; go_big_quiet_on)
  clear hone hw1
  refine wpG_nil ?_
  refine (hOp_store rfl (w.heap.size) (arrB 32 (rootT l)) rfl rfl (Nat.le_refl _) 24 ((arrB 32 [])) (List.Mem.head _) (info26 _ (arrB_size _ _ (by exact HNL.out))) ((arrB_size _ _ (by simp)).trans (arrB_size _ _ (by exact HNL.out)).symm) (arrB_one _ _) [(w.heap.size, Obj.cells (arrB 32 (rootT l)) 24 (0, 0))] (List.forall_mem_cons.2 ⟨.inl rfl, (fun _ h => by cases h)⟩) ?_)
  intro he2
  intro u4 E2'
  have EX3 := Lib.hid E2'
  clear E2'
  have hsz : Hid ((arrB 32 (rootT l)).size = 32) := arrB_size _ _ HNL.out
  have Q0 := Lib.hid (EnvX.box EX3.out _ _ (List.Mem.head _))
  have HBEL := Lib.hid EX3.out.bel
  clear EX3
  unfold idv
  generalize hcn : arrB 32 (rootT l) = cn at *
  have HCN := Lib.hid hcn
  clear hcn
  go_wp2_with ((with_reducible refine bodyPost_ret (v := .agg cn) ?_ ?_ ?_); (exact results_cell_row (p := 2) (ty := 24) Tryd.results31 _ _ w.heap.size 24 cn (0, 0) _ rfl Q0.out Tryd.underlying24 rfl (info26 cn hsz.out)); (rfl))
  first | exact HBEL.out | exact ⟨rfl, HBEL.out⟩ | exact ⟨by unfold idv; rw [HCN.out], HBEL.out⟩
end Go.Proofs.YtbjojpgedcikiaaDoor

namespace Go.Proofs.YtbjojpgedcikiaaDoor
set_option maxRecDepth 8000
open Go.RowKit

/-- a fork's cells -/
def fkV (x : Nat × Nat × Bool) : List Value := cutC x.1 x.2.1 ++ [ii (if x.2.2 then 1 else 0)]
theorem fk_len (x : Nat × Nat × Bool) : (fkV x).length = 5 := rfl
theorem fk_rows (l : List (Nat × Nat × Bool)) : isRows 5 (l.map fkV) := by
  intro x hx
  obtain ⟨y, _, rfl⟩ := List.mem_map.1 hx
  exact fk_len y
theorem fk_one (x : Nat × Nat × Bool) : ∀ u ∈ fkV x, u.oneCell' = true := by
  intro u hu
  unfold fkV cutC ii at hu
  simp only [List.mem_append, List.mem_cons, List.not_mem_nil, or_false] at hu
  rcases hu with (rfl | rfl | rfl | rfl) | rfl <;> rfl
theorem elF : ElemT 66 85 5 40 (.agg #[ii 0, ii 0, ii 0, ii 0, ii 0]) := ⟨Tryd.underlying66, by kernel_rfl, rfl, by decide, by decide, by decide⟩
theorem oneFks : ∀ w, (isAgg 66).run Tryd.prog w = .ok false w := fun w => by simp [isAgg, run_underlying Tryd.underlying66]
theorem oneFnF : ∀ w, (isAgg 93).run Tryd.prog w = .ok false w := fun w => by simp [isAgg, run_underlying Tryd.underlying93]
theorem new_fork {dst : Option Tmp} {ty : TypeId} {pos : String} {after : Array Edge} {gd : Option (Nat × Bool)} (a : Act) : NewAt Tryd.prog ⟨dst, .alloc 85, ty, pos, after, gd⟩ a (.cells #[ii 0, ii 0, ii 0, ii 0, ii 0] 85 (0, 0)) :=
  new_of (z := .agg #[ii 0, ii 0, ii 0, ii 0, ii 0]) (n := 5) (by kernel_rfl) a
theorem info_fork : (Tryd.prog.info? 85).map (·.size) = some 5 := by kernel_rfl
theorem info_fks : (Tryd.prog.info? 66).map (·.size) = some 1 := by kernel_rfl
theorem info_fnF : (Tryd.prog.info? 93).map (·.size) = some 1 := by kernel_rfl
theorem info_int : (Tryd.prog.info? 3).map (·.size) = some 1 := by kernel_rfl
def fsV (bi bw bu : Nat) : Value := .func (.func 67) #[] #[ptr bi, ptr bw, ptr bu]
def bxI (i : Nat) : Obj := .cells #[ii i] 3 (0, 0)
def bxF (bi bw bu : Nat) : Obj := .cells #[fsV bi bw bu] 93 (0, 0)
def bxU (v : Value) : Obj := .cells #[v] 66 (0, 0)
def bxK (x : Nat × Nat × Bool) : Obj := .cells (fkV x).toArray 85 (0, 0)
theorem FreshR.one {e : TypeId} {z n : Nat} {xs : List Value} {v : Value} {N : Boxes} (h : FreshR e z n xs v N) : v.cells = #[v] ∧ v.oneCell' = true := by
  rcases h with ⟨g, cap, cur, rfl, _⟩ | ⟨rfl, _⟩ <;> exact ⟨rfl, rfl⟩
/-- what the list is, and where it lies -/
def ForkR (w0 : World) (bu : Nat) (M : Boxes) (L : List (List Value)) (M' : Boxes) : Prop :=
  ∃ v N, M' = (bu, bxU v) :: (N ++ M) ∧ FreshR 85 5 L.length L.flatten v N ∧ freshN w0 N ((bu, bxU v) :: M)
theorem put_one {v v' : Value} (h : v'.cells = #[v']) : (#[v] : Array Value).toList.take 0 ++ v'.cells.toList ++ (#[v] : Array Value).toList.drop (0 + v'.cells.size) = (#[v'] : Array Value).toList := by
  rw [h]
  rfl
set_option maxRecDepth 20000 in
set_option maxHeartbeats 4000000 in
theorem forks1_any (i bi bw bu : Nat) (hi : i ≤ 1000000) : ∀ (n f : Nat) (w0 w : World) (M : Boxes) (L : List (List Value)) (v : Value) (N : Boxes), 1 ≤ n → f + n ≤ 1000000 → L.length + n ≤ 1000000 →
    (bi, bxI i) ∈ M → (bw, bxF bi bw bu) ∈ M → w0.heap.size ≤ bu → (∀ y ∈ M, y.1 ≠ bu) → isRows 5 L → FreshR 85 5 L.length L.flatten v N → freshN w0 N ((bu, bxU v) :: M) → EnvX w0 w ((bu, bxU v) :: (N ++ M)) →
    Calls Tryd.prog 67 #[.agg (spanC f n).toArray, ptr bi, ptr bw, ptr bu] w fun e w' => ∃ x M', e = .returned x ∧ EnvX w0 w' M' ∧ ForkR w0 bu M (L ++ (forksT f n i).map fkV) M' := by
  intro n
  induction n using Nat.strongRecOn with
  | _ n ih =>
    intro f w0 w M L v N h1 hfn hLn hMi hMw hbu hbM hR hF hN hE
    have E1 : Hid (EnvX w0 (w.alloc (.cells (spanC f n).toArray 82)) ((w.heap.size, Obj.cells (spanC f n).toArray 82 (0, 0)) :: (bu, bxU v) :: (N ++ M))) := hE.new _
    have q1 : Hid (((f + n : Nat) : Int) - (f : Int) = (n : Int) ∧ InI (n : Int)) := by show _ ∧ _; unfold InI; omega
    by_cases hn1 : n = 1
    · have HB : Hid (decide ((n : Int) = 1) = true) := decide_eq_true (by omega)
      have HFK : Hid (forksT f n i = []) := by show _ = _; rw [hn1]; exact forks_one f i
      have HRES : Hid (∀ u, EnvX w0 u ((w.heap.size, Obj.cells (spanC f n).toArray 82 (0, 0)) :: (bu, bxU v) :: (N ++ M)) → ∃ M', EnvX w0 u M' ∧ ForkR w0 bu M (L ++ (forksT f n i).map fkV) M') := fun u hu => by
        rw [HFK.out, List.map_nil, List.append_nil]
        exact ⟨_, EnvX.sub hu (fun y hy => List.mem_cons_of_mem _ hy), v, N, rfl, hF, hN⟩
      clear ih hE hN hF hR hbM hMi hMw hn1
      unfold ptr
      go_enter Tryd.func67, Tryd.ntmps67
      go_upto_region 1 with (fail)
      generalize w.alloc (.cells (spanC f n).toArray 82) = W at *
      refine wp_region_Hx (w0 := w0) [0, 1, 2, 3, 4, 5] ((w.heap.size, Obj.cells (spanC f n).toArray 82 (0, 0)) :: ((bu, bxU v) :: (N ++ M))) rfl E1.out ?_
      refine lexH_phase [0, 1, 2, 3, 4, 5] [] ?_
      have hw1 : EnvX w0 _ ((w.heap.size, Obj.cells (spanC f n).toArray 82 (0, 0)) :: ((bu, bxU v) :: (N ++ M))) := E1.out
      have hone := @EnvC.one _ _ _ hw1
      (refine wpG_op rfl rfl rfl ?_; intro K hK; go_big_quiet_op; go_big_quiet_on)
      (refine wpG_val (v := ii (f + n)) rfl rfl (fun u hu => load_any_op u (run_load_one oneInt u (box_cell (k := 1) hu (List.Mem.head _) rfl)) rfl) ?_ hw1; intro K hK; go_big_quiet_op; go_big_quiet_on)
      (refine wpG_op rfl rfl rfl ?_; intro K hK; go_big_quiet_op; go_big_quiet_on)
      (refine wpG_val (v := ii f) rfl rfl (fun u hu => load_any_op u (run_load_one oneInt u (box_cell (k := 0) hu (List.Mem.head _) rfl)) rfl) ?_ hw1; intro K hK; go_big_quiet_op; go_big_quiet_on)
      (refine wpG_val (v := ii n) rfl rfl (fun u hu => sub_op u q1.out.1 q1.out.2 rfl rfl) ?_ hw1; intro K hK; go_big_quiet_op; go_big_quiet_on)
      (refine wpG_val (v := .bool true) rfl rfl (fun u hu => eqlI_op u HB.out rfl rfl) ?_ hw1; intro K hK; go_big_quiet_op; go_big_quiet_on)
      clear hone hw1
      refine wpG_nil ?_
      intro u3 E2'
      have EX2 := Lib.hid E2'
      clear E2'
      have HR2 := Lib.hid (HRES.out u3 EX2.out)
      clear EX2 HRES
      go_wp2_with fail
      refine bodyPost_ret (results_none rfl _ _ _) rfl ?_
      obtain ⟨M', e1, e2⟩ := HR2.out
      exact ⟨_, M', rfl, e1, e2⟩
    · have h2 : 2 ≤ n := by omega
      obtain ⟨b1, b2, b3, -⟩ := half_spec h2
      have HB : Hid (decide ((n : Int) = 1) = false) := decide_eq_false (by omega)
      have HCUT := Lib.hid (fun u => cut_any f n u h2 (by omega))
      have hwb : bu < w.heap.size := EnvX.lt hE (List.Mem.head _)
      have HW0 : Hid (w0.heap.size ≤ bu) := hbu
      have HBM := Lib.hid hbM
      have HMI := Lib.hid hMi
      have HMW := Lib.hid hMw
      by_cases hlow : i < f + halfT n
      · have HGE : Hid (decide (((f + halfT n : Nat) : Int) ≤ (i : Int)) = false) := decide_eq_false (by omega)
        have HFK := Lib.hid (forks_low h2 hlow)
        have HCALL : Hid (∀ g, w0.heap.size ≤ g → (∀ z ∈ ((bu, bxU v) :: (N ++ M)), z.1 ≠ g) → ∀ u, EnvX w0 u ((g, bxK (f, n, false)) :: (bu, bxU v) :: (N ++ M)) →
            Calls Tryd.prog 67 #[.agg (spanC f (halfT n)).toArray, ptr bi, ptr bw, ptr bu] u fun e w' => ∃ x M', e = .returned x ∧ EnvX w0 w' M' ∧ ForkR w0 bu ((g, bxK (f, n, false)) :: M) (L ++ (forksT f (halfT n) i).map fkV) M') := fun g hg hz u hu =>
          ih (halfT n) b2 f w0 u ((g, bxK (f, n, false)) :: M) L v N b1 (by omega) (by omega) (List.mem_cons_of_mem _ hMi) (List.mem_cons_of_mem _ hMw) hbu
            (List.forall_mem_cons.2 ⟨fun e => hz _ (List.Mem.head _) e.symm, hbM⟩) hR hF
            (fun y hy => ⟨(hN y hy).1, List.forall_mem_cons.2 ⟨(hN y hy).2 _ (List.Mem.head _), List.forall_mem_cons.2 ⟨fun e => hz y (List.mem_cons_of_mem _ (List.mem_append_left _ hy)) e.symm, fun z hz2 => (hN y hy).2 z (List.mem_cons_of_mem _ hz2)⟩⟩⟩)
            (EnvX.sub hu (List.forall_mem_cons.2 ⟨List.mem_cons_of_mem _ (List.Mem.head _), fun y hy => by
              rcases List.mem_append.1 hy with h | h
              · exact List.mem_cons_of_mem _ (List.mem_cons_of_mem _ (List.mem_append_left _ h))
              · rcases List.mem_cons.1 h with h | h
                · rw [h]; exact List.Mem.head _
                · exact List.mem_cons_of_mem _ (List.mem_cons_of_mem _ (List.mem_append_right _ h))⟩))
        have HRR : Hid (isRows 5 (L ++ (forksT f (halfT n) i).map fkV) ∧ (L ++ (forksT f (halfT n) i).map fkV).length ≤ 1000000) := ⟨fun x hx => (List.mem_append.1 hx).elim (hR x) (fk_rows _ x), by rw [List.length_append, List.length_map]; have := forks_len (halfT n) f i; omega⟩
        clear ih hE hN hF hR hbM hMi hMw hn1 hlow
        unfold ptr
        go_enter Tryd.func67, Tryd.ntmps67
        go_upto_region 1 with (fail)
        generalize w.alloc (.cells (spanC f n).toArray 82) = W at *
        refine wp_region_Hx (w0 := w0) [0, 1, 2, 3, 4, 5] ((w.heap.size, Obj.cells (spanC f n).toArray 82 (0, 0)) :: ((bu, bxU v) :: (N ++ M))) rfl E1.out ?_
        refine lexH_phase [0, 1, 2, 3, 4, 5] [] ?_
        have hw1 : EnvX w0 _ ((w.heap.size, Obj.cells (spanC f n).toArray 82 (0, 0)) :: ((bu, bxU v) :: (N ++ M))) := E1.out
        have hone := @EnvC.one _ _ _ hw1
        (refine wpG_op rfl rfl rfl ?_; intro K hK; go_big_quiet_op; go_big_quiet_on)
        (refine wpG_val (v := ii (f + n)) rfl rfl (fun u hu => load_any_op u (run_load_one oneInt u (box_cell (k := 1) hu (List.Mem.head _) rfl)) rfl) ?_ hw1; intro K hK; go_big_quiet_op; go_big_quiet_on)
        (refine wpG_op rfl rfl rfl ?_; intro K hK; go_big_quiet_op; go_big_quiet_on)
        (refine wpG_val (v := ii f) rfl rfl (fun u hu => load_any_op u (run_load_one oneInt u (box_cell (k := 0) hu (List.Mem.head _) rfl)) rfl) ?_ hw1; intro K hK; go_big_quiet_op; go_big_quiet_on)
        (refine wpG_val (v := ii n) rfl rfl (fun u hu => sub_op u q1.out.1 q1.out.2 rfl rfl) ?_ hw1; intro K hK; go_big_quiet_op; go_big_quiet_on)
        (refine wpG_val (v := .bool false) rfl rfl (fun u hu => eqlI_op u HB.out rfl rfl) ?_ hw1; intro K hK; go_big_quiet_op; go_big_quiet_on)
        clear hone hw1
        refine wpG_nil ?_
        intro u3 E2'
        have EX2 := Lib.hid E2'
        clear E2'
        go_upto_region 2 with (fail)
        refine wp_region_Hx (w0 := w0) [0, 1, 2, 3, 4] ((w.heap.size, Obj.cells (spanC f n).toArray 82 (0, 0)) :: ((bu, bxU v) :: (N ++ M))) rfl EX2.out ?_
        refine lexH_phase [0, 1, 2] [3, 4] ?_
        have hw4 : EnvX w0 _ ((w.heap.size, Obj.cells (spanC f n).toArray 82 (0, 0)) :: ((bu, bxU v) :: (N ++ M))) := EX2.out
        have hone := @EnvC.one _ _ _ hw4
        (refine wpG_val (v := .agg (spanC f n).toArray) rfl rfl (fun u hu => load_any_op u (box_agg aggSpan (k := 0) hu (List.Mem.head _) (spanC f n) rfl rfl) rfl) ?_ hw4; intro K hK; go_big_quiet_op; go_big_quiet_on)
        (refine wpG_call (f := 66) (args := #[.agg (spanC f n).toArray]) (v := .agg (cutC f n).toArray) rfl rfl rfl Tryd.func66 rfl rfl (fun u hu => HCUT.out u) ?_ hw4; intro K hK; go_big_quiet_op; go_big_quiet_on)
        (refine wpG_val (v := .agg (fkV (f, n, false)).toArray) rfl rfl (fun u hu => buildA_op u (by kernel_rfl)) ?_ hw4; intro K hK; go_big_quiet_op; go_big_quiet_on)
        clear hone hw4
        refine wpG_nil ?_
        refine (hOp_fresh (R := fun x N => ∃ g, x = .pointer (some ⟨g, 0, none⟩) ∧ N = [(g, Obj.cells #[ii 0, ii 0, ii 0, ii 0, ii 0] 85 (0, 0))]) (M0 := ((w.heap.size, Obj.cells (spanC f n).toArray 82 (0, 0)) :: ((bu, bxU v) :: (N ++ M)))) rfl rfl (fun _ h => h) (fun u hu => FAt_new (new_fork _) u) ?_)
        rintro x N ⟨g5, rfl, rfl⟩ hf he5; intro K' hK'; go_big_quiet_op; go_big_quiet_on
        have HG5 := Lib.hid (And.intro (hf _ (List.mem_singleton.2 rfl)).1 (fun z hz => (hf _ (List.mem_singleton.2 rfl)).2 z (List.mem_cons_of_mem _ hz)))
        clear hf
        change lexH _ _ _ _ _ _ ((g5, Obj.cells #[ii 0, ii 0, ii 0, ii 0, ii 0] 85 (0, 0)) :: ((w.heap.size, Obj.cells (spanC f n).toArray 82 (0, 0)) :: ((bu, bxU v) :: (N ++ M))))
        refine (hOp_putAt rfl (g5) (0) (.agg (fkV (f, n, false)).toArray) rfl rfl HG5.out.1 85 (#[ii 0, ii 0, ii 0, ii 0, ii 0]) ((fkV (f, n, false)).toArray) (List.Mem.head _) info_fork (Nat.le_refl 5) (by kernel_rfl) rfl ((g5, Obj.cells ((fkV (f, n, false)).toArray) 85 (0, 0)) :: ((bu, bxU v) :: (N ++ M))) (List.forall_mem_cons.2 ⟨.inl rfl, fun y hy => .inr ⟨List.mem_cons_of_mem _ (List.mem_cons_of_mem _ hy), HG5.out.2 y hy⟩⟩) ?_)
        intro he6
        intro u8 E2'
        have EX7 := Lib.hid E2'
        clear E2'
        go_upto_region 3 with (fail)
        refine wp_region_Hx (w0 := w0) [0, 1, 2, 3, 4, 5] ((g5, bxK (f, n, false)) :: ((bu, bxU v) :: (N ++ M))) rfl EX7.out ?_
        refine lexH_phase [0, 1, 2, 3, 4, 5] [] ?_
        have hw9 : EnvX w0 _ ((g5, bxK (f, n, false)) :: ((bu, bxU v) :: (N ++ M))) := EX7.out
        have hone := @EnvC.one _ _ _ hw9
        (refine wpG_val (v := ii i) rfl rfl (fun u hu => load_any_op u (run_load_one oneInt u (box_cell (k := 0) hu (List.mem_cons_of_mem _ (List.mem_cons_of_mem _ (List.mem_append_right _ HMI.out))) rfl)) rfl) ?_ hw9; intro K hK; go_big_quiet_op; go_big_quiet_on)
        (refine wpG_op rfl rfl rfl ?_; intro K hK; go_big_quiet_op; go_big_quiet_on)
        (refine wpG_val (v := .pointer (some ⟨g5, 0 + 1 * 2, none⟩)) rfl rfl (fun u hu => idxArr_op (i := 1) Tryd.underlying83 aggSpan.size (by decide) u rfl rfl) ?_ hw9; intro K hK; go_big_quiet_op; go_big_quiet_on)
        (refine wpG_op rfl rfl rfl ?_; intro K hK; go_big_quiet_op; go_big_quiet_on)
        (refine wpG_val (v := ii (f + halfT n)) rfl rfl (fun u hu => load_any_op u (run_load_one oneInt u (box_cell (k := 2) hu (List.Mem.head _) rfl)) rfl) ?_ hw9; intro K hK; go_big_quiet_op; go_big_quiet_on)
        (refine wpG_val (v := .bool false) rfl rfl (fun u hu => geq_op u HGE.out rfl rfl) ?_ hw9; intro K hK; go_big_quiet_op; go_big_quiet_on)
        clear hone hw9
        refine wpG_nil ?_
        intro u11 E2'
        have EX10 := Lib.hid E2'
        clear E2'
        go_upto_region 5 with (fail)
        refine wp_region_H (w0 := w0) ((g5, bxK (f, n, false)) :: ((bu, bxU v) :: (N ++ M))) (by kernel_rfl) EX10.out ?_
        refine anyH_phase [0, 1, 2, 3, 4, 5] 1 rfl ⟨_, (EnvX.drew EX10.out)⟩ (by kernel_rfl) ?_
        have hw12 : EnvX w0 _ ((g5, bxK (f, n, false)) :: ((bu, bxU v) :: (N ++ M))) := (EnvX.drew EX10.out)
        have hone := @EnvC.one _ _ _ hw12
        (refine wpG_val (v := fsV bi bw bu) rfl rfl (fun u hu => load_any_op u (run_load_one oneFnF u (box_cell (k := 0) hu (List.mem_cons_of_mem _ (List.mem_cons_of_mem _ (List.mem_append_right _ HMW.out))) rfl)) rfl) ?_ hw12; intro K hK; go_big_quiet_op; go_big_quiet_on)
        (refine wpG_op rfl rfl rfl ?_; intro K hK; go_big_quiet_op; go_big_quiet_on)
        (refine wpG_val (v := ii 0) rfl rfl (fun u hu => load_any_op u (run_load_one oneInt u (box_cell (k := 4) hu (List.Mem.head _) rfl)) rfl) ?_ hw12; intro K hK; go_big_quiet_op; go_big_quiet_on)
        (refine wpG_op rfl rfl rfl ?_; intro K hK; go_big_quiet_op; go_big_quiet_on)
        (refine wpG_val (v := .pointer (some ⟨g5, 0 + 0 * 2, none⟩)) rfl rfl (fun u hu => idxArr_op (i := 0) Tryd.underlying83 aggSpan.size (by decide) u rfl rfl) ?_ hw12; intro K hK; go_big_quiet_op; go_big_quiet_on)
        (refine wpG_val (v := .agg (spanC f (halfT n)).toArray) rfl rfl (fun u hu => load_any_op u (box_agg aggSpan (k := 0) hu (List.Mem.head _) (spanC f (halfT n)) rfl (by first | rfl | (rw [HSP.out]; rfl))) rfl) ?_ hw12; intro K hK; go_big_quiet_op; go_big_quiet_on)
        clear hone hw12
        refine wpG_nil ?_
        refine anyH_one (i := 6) (by kernel_rfl) (hOp_turn (gd := none) (R := fun _ M3 => ForkR w0 bu ((g5, bxK (f, n, false)) :: M) (L ++ (forksT f (halfT n) i).map fkV) M3) rfl rfl rfl rfl (fun u hu => OUpon_callV (f := 67) (args := #[.agg (spanC f (halfT n)).toArray]) (caps := #[ptr bi, ptr bw, ptr bu]) (all := #[.agg (spanC f (halfT n)).toArray, ptr bi, ptr bw, ptr bu]) rfl rfl rfl Tryd.func67 rfl rfl u (HCALL.out g5 HG5.out.1 HG5.out.2 u hu)) ?_)
        rintro x M' ⟨v1, N1, rfl, hF1, hN1⟩ he13; intro K' hK'; go_big_quiet_op; go_big_quiet_on
        have HF1 := Lib.hid hF1
        have HN1 := Lib.hid hN1
        clear hF1 hN1
        change anyH _ _ _ _ _ _ _ _ ((bu, bxU v1) :: (N1 ++ ((g5, bxK (f, n, false)) :: M)))
        refine anyH_done (by kernel_rfl) ?_
        intro u15 E2'
        have EX14 := Lib.hid E2'
        clear E2'
        go_upto_region 6 with (fail)
        refine wp_region_Hx (w0 := w0) [0, 1, 2, 3, 4] ((bu, bxU v1) :: (N1 ++ ((g5, bxK (f, n, false)) :: M))) rfl EX14.out ?_
        refine lexH_phase [0, 1] [2, 3, 4] ?_
        have hw16 : EnvX w0 _ ((bu, bxU v1) :: (N1 ++ ((g5, bxK (f, n, false)) :: M))) := EX14.out
        have hone := @EnvC.one _ _ _ hw16
        (refine wpG_val (v := v1) rfl rfl (fun u hu => load_any_op u (run_load_one oneFks u (box_cell (k := 0) hu (List.Mem.head _) rfl)) rfl) ?_ hw16; intro K hK; go_big_quiet_op; go_big_quiet_on)
        (refine wpG_val (v := .agg (fkV (f, n, false)).toArray) rfl rfl (fun u hu => load_any_op u (box_agg aggFork (k := 0) hu (List.mem_cons_of_mem _ (List.mem_append_right _ (List.Mem.head _))) (fkV (f, n, false)) rfl rfl) rfl) ?_ hw16; intro K hK; go_big_quiet_op; go_big_quiet_on)
        clear hone hw16
        refine wpG_nil ?_
        refine (hOp_fresh (R := BuiltR 85 (fkV (f, n, false))) (M0 := ((bu, bxU v1) :: (N1 ++ ((g5, bxK (f, n, false)) :: M)))) rfl rfl (fun _ h => h) (fun u hu => FAt_buildR elF (fk_len (f, n, false)) (fk_one (f, n, false)) rfl u) ?_)
        rintro x N ⟨gb, rfl, rfl⟩ hf he17; intro K' hK'; go_big_quiet_op; go_big_quiet_on
        clear hf
        change lexH _ _ _ _ _ _ ((gb, Obj.cells (fkV (f, n, false)).toArray 85 (0, 0)) :: ((bu, bxU v1) :: (N1 ++ ((g5, bxK (f, n, false)) :: M))))
        refine (hOp_own (gd := none) (R := GrownR w0 85 5 ((L ++ (forksT f (halfT n) i).map fkV).length + 1) ((L ++ (forksT f (halfT n) i).map fkV).flatten ++ fkV (f, n, false)) ((bu, bxU v1) :: M)) rfl rfl rfl rfl (fun u hu => appR_op elF (m := 1) (c := 1) ((bu, bxU v1) :: M) hu HRR.out.1.flat_len (fk_len (f, n, false)) (fk_one (f, n, false)) HF1.out (fun y hy => ⟨List.mem_cons_of_mem _ (List.mem_cons_of_mem _ (List.mem_append_left _ hy)), (HN1.out y hy).1⟩) (List.Mem.head _) (List.forall_mem_cons.2 ⟨⟨List.mem_cons_of_mem _ (List.Mem.head _), fun y hy => (HN1.out y hy).2 _ (List.Mem.head _)⟩, fun z hz => ⟨List.mem_cons_of_mem _ (List.mem_cons_of_mem _ (List.mem_append_right _ (List.mem_cons_of_mem _ hz))), fun y hy => (HN1.out y hy).2 z (List.mem_cons_of_mem _ (List.mem_cons_of_mem _ hz))⟩⟩) (by have := HRR.out.2; omega) rfl rfl) ?_)
        rintro x M' ⟨N2, rfl, hF2, hN2⟩ he18; intro K' hK'; go_big_quiet_op; go_big_quiet_on
        have HF2 := Lib.hid hF2
        have HN2 := Lib.hid hN2
        clear hF2 hN2
        change lexH _ _ _ _ _ _ (N2 ++ ((bu, bxU v1) :: M))
        refine (hOp_putAt rfl (bu) (0) (x) rfl rfl HW0.out 66 (#[v1]) (#[x]) (List.mem_append_right _ (List.Mem.head _)) (by rw [HF2.out.one.1]; exact info_fks) (by rw [HF2.out.one.1]; exact Nat.le_refl 1) (by rw [HF2.out.one.1]; simp [HF2.out.one.2]) (put_one HF2.out.one.1) ((bu, Obj.cells (#[x]) 66 (0, 0)) :: (N2 ++ M)) (List.forall_mem_cons.2 ⟨.inl rfl, fun y hy => .inr ((List.mem_append.1 hy).elim (fun h => ⟨List.mem_append_left _ h, fun e => (HN2.out y h).2 _ (List.Mem.head _) e.symm⟩) (fun h => ⟨List.mem_append_right _ (List.mem_cons_of_mem _ h), HBM.out y h⟩))⟩) ?_)
        intro he19
        intro u21 E2'
        have EX20 := Lib.hid E2'
        clear E2'
        have HX := Lib.hid (And.intro EX20.out HF2.out)
        have HN3 := HN2
        clear EX20 HF2 HN2
        go_wp2_with fail
        go_end0
        refine ⟨⟨_, rfl⟩, _, HX.out.1, x, N2, rfl, ?_, ?_⟩
        · rw [HFK.out, List.map_append, List.map_cons, List.map_nil, ← List.append_assoc, List.length_append, List.flatten_append, List.flatten_cons, List.flatten_nil, List.append_nil]
          exact HX.out.2
        · exact fun y hy => ⟨(HN3.out y hy).1, List.forall_mem_cons.2 ⟨(HN3.out y hy).2 (bu, bxU v1) (List.Mem.head _), fun z hz => (HN3.out y hy).2 z (List.mem_cons_of_mem _ hz)⟩⟩
      · have HGE : Hid (decide (((f + halfT n : Nat) : Int) ≤ (i : Int)) = true) := decide_eq_true (by omega)
        have HFK := Lib.hid (forks_high h2 hlow)
        have HCALL : Hid (∀ g, w0.heap.size ≤ g → (∀ z ∈ ((bu, bxU v) :: (N ++ M)), z.1 ≠ g) → ∀ u, EnvX w0 u ((g, bxK (f, n, true)) :: (bu, bxU v) :: (N ++ M)) →
            Calls Tryd.prog 67 #[.agg (spanC (f + halfT n) (n - halfT n)).toArray, ptr bi, ptr bw, ptr bu] u fun e w' => ∃ x M', e = .returned x ∧ EnvX w0 w' M' ∧ ForkR w0 bu ((g, bxK (f, n, true)) :: M) (L ++ (forksT (f + halfT n) (n - halfT n) i).map fkV) M') := fun g hg hz u hu =>
          ih (n - halfT n) (by omega) (f + halfT n) w0 u ((g, bxK (f, n, true)) :: M) L v N (by omega) (by omega) (by omega) (List.mem_cons_of_mem _ hMi) (List.mem_cons_of_mem _ hMw) hbu
            (List.forall_mem_cons.2 ⟨fun e => hz _ (List.Mem.head _) e.symm, hbM⟩) hR hF
            (fun y hy => ⟨(hN y hy).1, List.forall_mem_cons.2 ⟨(hN y hy).2 _ (List.Mem.head _), List.forall_mem_cons.2 ⟨fun e => hz y (List.mem_cons_of_mem _ (List.mem_append_left _ hy)) e.symm, fun z hz2 => (hN y hy).2 z (List.mem_cons_of_mem _ hz2)⟩⟩⟩)
            (EnvX.sub hu (List.forall_mem_cons.2 ⟨List.mem_cons_of_mem _ (List.Mem.head _), fun y hy => by
              rcases List.mem_append.1 hy with h | h
              · exact List.mem_cons_of_mem _ (List.mem_cons_of_mem _ (List.mem_append_left _ h))
              · rcases List.mem_cons.1 h with h | h
                · rw [h]; exact List.Mem.head _
                · exact List.mem_cons_of_mem _ (List.mem_cons_of_mem _ (List.mem_append_right _ h))⟩))
        have HRR : Hid (isRows 5 (L ++ (forksT (f + halfT n) (n - halfT n) i).map fkV) ∧ (L ++ (forksT (f + halfT n) (n - halfT n) i).map fkV).length ≤ 1000000) := ⟨fun x hx => (List.mem_append.1 hx).elim (hR x) (fk_rows _ x), by rw [List.length_append, List.length_map]; have := forks_len (n - halfT n) (f + halfT n) i; omega⟩
        have HSP : Hid (spanC (f + halfT n) (n - halfT n) = [ii (f + halfT n), ii (f + n)]) := by show _ = _; unfold spanC; rw [show f + halfT n + (n - halfT n) = f + n by omega]
        clear ih hE hN hF hR hbM hMi hMw hn1 hlow
        unfold ptr
        go_enter Tryd.func67, Tryd.ntmps67
        go_upto_region 1 with (fail)
        generalize w.alloc (.cells (spanC f n).toArray 82) = W at *
        refine wp_region_Hx (w0 := w0) [0, 1, 2, 3, 4, 5] ((w.heap.size, Obj.cells (spanC f n).toArray 82 (0, 0)) :: ((bu, bxU v) :: (N ++ M))) rfl E1.out ?_
        refine lexH_phase [0, 1, 2, 3, 4, 5] [] ?_
        have hw1 : EnvX w0 _ ((w.heap.size, Obj.cells (spanC f n).toArray 82 (0, 0)) :: ((bu, bxU v) :: (N ++ M))) := E1.out
        have hone := @EnvC.one _ _ _ hw1
        (refine wpG_op rfl rfl rfl ?_; intro K hK; go_big_quiet_op; go_big_quiet_on)
        (refine wpG_val (v := ii (f + n)) rfl rfl (fun u hu => load_any_op u (run_load_one oneInt u (box_cell (k := 1) hu (List.Mem.head _) rfl)) rfl) ?_ hw1; intro K hK; go_big_quiet_op; go_big_quiet_on)
        (refine wpG_op rfl rfl rfl ?_; intro K hK; go_big_quiet_op; go_big_quiet_on)
        (refine wpG_val (v := ii f) rfl rfl (fun u hu => load_any_op u (run_load_one oneInt u (box_cell (k := 0) hu (List.Mem.head _) rfl)) rfl) ?_ hw1; intro K hK; go_big_quiet_op; go_big_quiet_on)
        (refine wpG_val (v := ii n) rfl rfl (fun u hu => sub_op u q1.out.1 q1.out.2 rfl rfl) ?_ hw1; intro K hK; go_big_quiet_op; go_big_quiet_on)
        (refine wpG_val (v := .bool false) rfl rfl (fun u hu => eqlI_op u HB.out rfl rfl) ?_ hw1; intro K hK; go_big_quiet_op; go_big_quiet_on)
        clear hone hw1
        refine wpG_nil ?_
        intro u3 E2'
        have EX2 := Lib.hid E2'
        clear E2'
        go_upto_region 2 with (fail)
        refine wp_region_Hx (w0 := w0) [0, 1, 2, 3, 4] ((w.heap.size, Obj.cells (spanC f n).toArray 82 (0, 0)) :: ((bu, bxU v) :: (N ++ M))) rfl EX2.out ?_
        refine lexH_phase [0, 1, 2] [3, 4] ?_
        have hw4 : EnvX w0 _ ((w.heap.size, Obj.cells (spanC f n).toArray 82 (0, 0)) :: ((bu, bxU v) :: (N ++ M))) := EX2.out
        have hone := @EnvC.one _ _ _ hw4
        (refine wpG_val (v := .agg (spanC f n).toArray) rfl rfl (fun u hu => load_any_op u (box_agg aggSpan (k := 0) hu (List.Mem.head _) (spanC f n) rfl rfl) rfl) ?_ hw4; intro K hK; go_big_quiet_op; go_big_quiet_on)
        (refine wpG_call (f := 66) (args := #[.agg (spanC f n).toArray]) (v := .agg (cutC f n).toArray) rfl rfl rfl Tryd.func66 rfl rfl (fun u hu => HCUT.out u) ?_ hw4; intro K hK; go_big_quiet_op; go_big_quiet_on)
        (refine wpG_val (v := .agg (fkV (f, n, false)).toArray) rfl rfl (fun u hu => buildA_op u (by kernel_rfl)) ?_ hw4; intro K hK; go_big_quiet_op; go_big_quiet_on)
        clear hone hw4
        refine wpG_nil ?_
        refine (hOp_fresh (R := fun x N => ∃ g, x = .pointer (some ⟨g, 0, none⟩) ∧ N = [(g, Obj.cells #[ii 0, ii 0, ii 0, ii 0, ii 0] 85 (0, 0))]) (M0 := ((w.heap.size, Obj.cells (spanC f n).toArray 82 (0, 0)) :: ((bu, bxU v) :: (N ++ M)))) rfl rfl (fun _ h => h) (fun u hu => FAt_new (new_fork _) u) ?_)
        rintro x N ⟨g5, rfl, rfl⟩ hf he5; intro K' hK'; go_big_quiet_op; go_big_quiet_on
        have HG5 := Lib.hid (And.intro (hf _ (List.mem_singleton.2 rfl)).1 (fun z hz => (hf _ (List.mem_singleton.2 rfl)).2 z (List.mem_cons_of_mem _ hz)))
        clear hf
        change lexH _ _ _ _ _ _ ((g5, Obj.cells #[ii 0, ii 0, ii 0, ii 0, ii 0] 85 (0, 0)) :: ((w.heap.size, Obj.cells (spanC f n).toArray 82 (0, 0)) :: ((bu, bxU v) :: (N ++ M))))
        refine (hOp_putAt rfl (g5) (0) (.agg (fkV (f, n, false)).toArray) rfl rfl HG5.out.1 85 (#[ii 0, ii 0, ii 0, ii 0, ii 0]) ((fkV (f, n, false)).toArray) (List.Mem.head _) info_fork (Nat.le_refl 5) (by kernel_rfl) rfl ((g5, Obj.cells ((fkV (f, n, false)).toArray) 85 (0, 0)) :: ((bu, bxU v) :: (N ++ M))) (List.forall_mem_cons.2 ⟨.inl rfl, fun y hy => .inr ⟨List.mem_cons_of_mem _ (List.mem_cons_of_mem _ hy), HG5.out.2 y hy⟩⟩) ?_)
        intro he6
        intro u8 E2'
        have EX7 := Lib.hid E2'
        clear E2'
        go_upto_region 3 with (fail)
        refine wp_region_Hx (w0 := w0) [0, 1, 2, 3, 4, 5] ((g5, bxK (f, n, false)) :: ((bu, bxU v) :: (N ++ M))) rfl EX7.out ?_
        refine lexH_phase [0, 1, 2, 3, 4, 5] [] ?_
        have hw9 : EnvX w0 _ ((g5, bxK (f, n, false)) :: ((bu, bxU v) :: (N ++ M))) := EX7.out
        have hone := @EnvC.one _ _ _ hw9
        (refine wpG_val (v := ii i) rfl rfl (fun u hu => load_any_op u (run_load_one oneInt u (box_cell (k := 0) hu (List.mem_cons_of_mem _ (List.mem_cons_of_mem _ (List.mem_append_right _ HMI.out))) rfl)) rfl) ?_ hw9; intro K hK; go_big_quiet_op; go_big_quiet_on)
        (refine wpG_op rfl rfl rfl ?_; intro K hK; go_big_quiet_op; go_big_quiet_on)
        (refine wpG_val (v := .pointer (some ⟨g5, 0 + 1 * 2, none⟩)) rfl rfl (fun u hu => idxArr_op (i := 1) Tryd.underlying83 aggSpan.size (by decide) u rfl rfl) ?_ hw9; intro K hK; go_big_quiet_op; go_big_quiet_on)
        (refine wpG_op rfl rfl rfl ?_; intro K hK; go_big_quiet_op; go_big_quiet_on)
        (refine wpG_val (v := ii (f + halfT n)) rfl rfl (fun u hu => load_any_op u (run_load_one oneInt u (box_cell (k := 2) hu (List.Mem.head _) rfl)) rfl) ?_ hw9; intro K hK; go_big_quiet_op; go_big_quiet_on)
        (refine wpG_val (v := .bool true) rfl rfl (fun u hu => geq_op u HGE.out rfl rfl) ?_ hw9; intro K hK; go_big_quiet_op; go_big_quiet_on)
        clear hone hw9
        refine wpG_nil ?_
        intro u11 E2'
        have EX10 := Lib.hid E2'
        clear E2'
        go_upto_region 4 with (fail)
        refine wp_region_Hx (w0 := w0) [0, 1] ((g5, bxK (f, n, false)) :: ((bu, bxU v) :: (N ++ M))) rfl EX10.out ?_
        refine lexH_phase [0] [1] ?_
        have hw12 : EnvX w0 _ ((g5, bxK (f, n, false)) :: ((bu, bxU v) :: (N ++ M))) := EX10.out
        have hone := @EnvC.one _ _ _ hw12
        (refine wpG_op rfl rfl rfl ?_; intro K hK; go_big_quiet_op; go_big_quiet_on)
        clear hone hw12
        refine wpG_nil ?_
        refine (hOp_putAt rfl (g5) (4) (ii 1) rfl rfl HG5.out.1 85 ((fkV (f, n, false)).toArray) ((fkV (f, n, true)).toArray) (List.Mem.head _) info_int (Nat.le_refl 5) (by kernel_rfl) rfl ((g5, Obj.cells ((fkV (f, n, true)).toArray) 85 (0, 0)) :: ((bu, bxU v) :: (N ++ M))) (List.forall_mem_cons.2 ⟨.inl rfl, fun y hy => .inr ⟨List.mem_cons_of_mem _ hy, HG5.out.2 y hy⟩⟩) ?_)
        intro he13
        intro u15 E2'
        have EX14 := Lib.hid E2'
        clear E2'
        go_upto_region 5 with (fail)
        refine wp_region_H (w0 := w0) ((g5, bxK (f, n, true)) :: ((bu, bxU v) :: (N ++ M))) (by kernel_rfl) EX14.out ?_
        refine anyH_phase [0, 1, 2, 3, 4, 5] 1 rfl ⟨_, (EnvX.drew EX14.out)⟩ (by kernel_rfl) ?_
        have hw16 : EnvX w0 _ ((g5, bxK (f, n, true)) :: ((bu, bxU v) :: (N ++ M))) := (EnvX.drew EX14.out)
        have hone := @EnvC.one _ _ _ hw16
        (refine wpG_val (v := fsV bi bw bu) rfl rfl (fun u hu => load_any_op u (run_load_one oneFnF u (box_cell (k := 0) hu (List.mem_cons_of_mem _ (List.mem_cons_of_mem _ (List.mem_append_right _ HMW.out))) rfl)) rfl) ?_ hw16; intro K hK; go_big_quiet_op; go_big_quiet_on)
        (refine wpG_op rfl rfl rfl ?_; intro K hK; go_big_quiet_op; go_big_quiet_on)
        (refine wpG_val (v := ii 1) rfl rfl (fun u hu => load_any_op u (run_load_one oneInt u (box_cell (k := 4) hu (List.Mem.head _) rfl)) rfl) ?_ hw16; intro K hK; go_big_quiet_op; go_big_quiet_on)
        (refine wpG_op rfl rfl rfl ?_; intro K hK; go_big_quiet_op; go_big_quiet_on)
        (refine wpG_val (v := .pointer (some ⟨g5, 0 + 1 * 2, none⟩)) rfl rfl (fun u hu => idxArr_op (i := 1) Tryd.underlying83 aggSpan.size (by decide) u rfl rfl) ?_ hw16; intro K hK; go_big_quiet_op; go_big_quiet_on)
        (refine wpG_val (v := .agg (spanC (f + halfT n) (n - halfT n)).toArray) rfl rfl (fun u hu => load_any_op u (box_agg aggSpan (k := 2) hu (List.Mem.head _) (spanC (f + halfT n) (n - halfT n)) rfl (by first | rfl | (rw [HSP.out]; rfl))) rfl) ?_ hw16; intro K hK; go_big_quiet_op; go_big_quiet_on)
        clear hone hw16
        refine wpG_nil ?_
        refine anyH_one (i := 6) (by kernel_rfl) (hOp_turn (gd := none) (R := fun _ M3 => ForkR w0 bu ((g5, bxK (f, n, true)) :: M) (L ++ (forksT (f + halfT n) (n - halfT n) i).map fkV) M3) rfl rfl rfl rfl (fun u hu => OUpon_callV (f := 67) (args := #[.agg (spanC (f + halfT n) (n - halfT n)).toArray]) (caps := #[ptr bi, ptr bw, ptr bu]) (all := #[.agg (spanC (f + halfT n) (n - halfT n)).toArray, ptr bi, ptr bw, ptr bu]) rfl rfl rfl Tryd.func67 rfl rfl u (HCALL.out g5 HG5.out.1 HG5.out.2 u hu)) ?_)
        rintro x M' ⟨v1, N1, rfl, hF1, hN1⟩ he17; intro K' hK'; go_big_quiet_op; go_big_quiet_on
        have HF1 := Lib.hid hF1
        have HN1 := Lib.hid hN1
        clear hF1 hN1
        change anyH _ _ _ _ _ _ _ _ ((bu, bxU v1) :: (N1 ++ ((g5, bxK (f, n, true)) :: M)))
        refine anyH_done (by kernel_rfl) ?_
        intro u19 E2'
        have EX18 := Lib.hid E2'
        clear E2'
        go_upto_region 6 with (fail)
        refine wp_region_Hx (w0 := w0) [0, 1, 2, 3, 4] ((bu, bxU v1) :: (N1 ++ ((g5, bxK (f, n, true)) :: M))) rfl EX18.out ?_
        refine lexH_phase [0, 1] [2, 3, 4] ?_
        have hw20 : EnvX w0 _ ((bu, bxU v1) :: (N1 ++ ((g5, bxK (f, n, true)) :: M))) := EX18.out
        have hone := @EnvC.one _ _ _ hw20
        (refine wpG_val (v := v1) rfl rfl (fun u hu => load_any_op u (run_load_one oneFks u (box_cell (k := 0) hu (List.Mem.head _) rfl)) rfl) ?_ hw20; intro K hK; go_big_quiet_op; go_big_quiet_on)
        (refine wpG_val (v := .agg (fkV (f, n, true)).toArray) rfl rfl (fun u hu => load_any_op u (box_agg aggFork (k := 0) hu (List.mem_cons_of_mem _ (List.mem_append_right _ (List.Mem.head _))) (fkV (f, n, true)) rfl rfl) rfl) ?_ hw20; intro K hK; go_big_quiet_op; go_big_quiet_on)
        clear hone hw20
        refine wpG_nil ?_
        refine (hOp_fresh (R := BuiltR 85 (fkV (f, n, true))) (M0 := ((bu, bxU v1) :: (N1 ++ ((g5, bxK (f, n, true)) :: M)))) rfl rfl (fun _ h => h) (fun u hu => FAt_buildR elF (fk_len (f, n, true)) (fk_one (f, n, true)) rfl u) ?_)
        rintro x N ⟨gb, rfl, rfl⟩ hf he21; intro K' hK'; go_big_quiet_op; go_big_quiet_on
        clear hf
        change lexH _ _ _ _ _ _ ((gb, Obj.cells (fkV (f, n, true)).toArray 85 (0, 0)) :: ((bu, bxU v1) :: (N1 ++ ((g5, bxK (f, n, true)) :: M))))
        refine (hOp_own (gd := none) (R := GrownR w0 85 5 ((L ++ (forksT (f + halfT n) (n - halfT n) i).map fkV).length + 1) ((L ++ (forksT (f + halfT n) (n - halfT n) i).map fkV).flatten ++ fkV (f, n, true)) ((bu, bxU v1) :: M)) rfl rfl rfl rfl (fun u hu => appR_op elF (m := 1) (c := 1) ((bu, bxU v1) :: M) hu HRR.out.1.flat_len (fk_len (f, n, true)) (fk_one (f, n, true)) HF1.out (fun y hy => ⟨List.mem_cons_of_mem _ (List.mem_cons_of_mem _ (List.mem_append_left _ hy)), (HN1.out y hy).1⟩) (List.Mem.head _) (List.forall_mem_cons.2 ⟨⟨List.mem_cons_of_mem _ (List.Mem.head _), fun y hy => (HN1.out y hy).2 _ (List.Mem.head _)⟩, fun z hz => ⟨List.mem_cons_of_mem _ (List.mem_cons_of_mem _ (List.mem_append_right _ (List.mem_cons_of_mem _ hz))), fun y hy => (HN1.out y hy).2 z (List.mem_cons_of_mem _ (List.mem_cons_of_mem _ hz))⟩⟩) (by have := HRR.out.2; omega) rfl rfl) ?_)
        rintro x M' ⟨N2, rfl, hF2, hN2⟩ he22; intro K' hK'; go_big_quiet_op; go_big_quiet_on
        have HF2 := Lib.hid hF2
        have HN2 := Lib.hid hN2
        clear hF2 hN2
        change lexH _ _ _ _ _ _ (N2 ++ ((bu, bxU v1) :: M))
        refine (hOp_putAt rfl (bu) (0) (x) rfl rfl HW0.out 66 (#[v1]) (#[x]) (List.mem_append_right _ (List.Mem.head _)) (by rw [HF2.out.one.1]; exact info_fks) (by rw [HF2.out.one.1]; exact Nat.le_refl 1) (by rw [HF2.out.one.1]; simp [HF2.out.one.2]) (put_one HF2.out.one.1) ((bu, Obj.cells (#[x]) 66 (0, 0)) :: (N2 ++ M)) (List.forall_mem_cons.2 ⟨.inl rfl, fun y hy => .inr ((List.mem_append.1 hy).elim (fun h => ⟨List.mem_append_left _ h, fun e => (HN2.out y h).2 _ (List.Mem.head _) e.symm⟩) (fun h => ⟨List.mem_append_right _ (List.mem_cons_of_mem _ h), HBM.out y h⟩))⟩) ?_)
        intro he23
        intro u25 E2'
        have EX24 := Lib.hid E2'
        clear E2'
        have HX := Lib.hid (And.intro EX24.out HF2.out)
        have HN3 := HN2
        clear EX24 HF2 HN2
        go_wp2_with fail
        go_end0
        refine ⟨⟨_, rfl⟩, _, HX.out.1, x, N2, rfl, ?_, ?_⟩
        · rw [HFK.out, List.map_append, List.map_cons, List.map_nil, ← List.append_assoc, List.length_append, List.flatten_append, List.flatten_cons, List.flatten_nil, List.append_nil]
          exact HX.out.2
        · exact fun y hy => ⟨(HN3.out y hy).1, List.forall_mem_cons.2 ⟨(HN3.out y hy).2 (bu, bxU v1) (List.Mem.head _), fun z hz => (HN3.out y hy).2 z (List.mem_cons_of_mem _ hz)⟩⟩
end Go.Proofs.YtbjojpgedcikiaaDoor

namespace Go.Proofs.YtbjojpgedcikiaaDoor
set_option maxRecDepth 8000
open Go.RowKit

/-- the other side's root -/
def otherR (l : List (List Int)) (x : Nat × Nat × Bool) : List Int := sideR l x.1 x.2.1 (if x.2.2 then 0 else 1)
theorem fork_path (l : List (List Int)) : ∀ (n f i : Nat), i < n → f + n ≤ l.length → pathT ((l.drop f).take n) i = (forksT f n (f + i)).map (otherR l) := by
  intro n
  induction n using Nat.strongRecOn with
  | _ n ih =>
    intro f i hi hl
    have hlen : ((l.drop f).take n).length = n := by rw [List.length_take, List.length_drop]; omega
    by_cases h : 2 ≤ n
    · obtain ⟨b1, b2, b3, -⟩ := half_spec h
      have t0 : ((l.drop f).take n).take (halfT n) = (l.drop f).take (halfT n) := by rw [List.take_take, Nat.min_eq_left (by omega)]
      have d0 : ((l.drop f).take n).drop (halfT n) = (l.drop (f + halfT n)).take (n - halfT n) := by rw [List.drop_take, List.drop_drop]
      by_cases hlo : i < halfT n
      · have hp := path_low (l := (l.drop f).take n) (i := i) (by omega) (by rw [hlen]; exact hlo)
        rw [hlen, t0, d0] at hp
        rw [hp, forks_low h (by omega), List.map_append, ih (halfT n) b2 f i hlo (by omega)]
        rfl
      · have hp := path_high (l := (l.drop f).take n) (i := i) (by omega) (by rw [hlen]; exact hlo)
        rw [hlen, t0, d0] at hp
        have := ih (n - halfT n) (by omega) (f + halfT n) (i - halfT n) (by omega) (by omega)
        rw [show f + halfT n + (i - halfT n) = f + i by omega] at this
        rw [hp, forks_high h (by omega), List.map_append, this]
        rfl
    · obtain rfl : n = 1 := by omega
      match hq : (l.drop f).take 1, hlen with
      | [x], _ => rfl
theorem fk_side {f n k : Nat} {b : Bool} (h2 : 2 ≤ n) (hk : k < 2) : ((fkV (f, n, b)).toArray.toList.drop (0 + k * 2)).take 2 = spanC (sideF f n k) (sideN n k) := by
  obtain ⟨b1, b2, b3, -⟩ := half_spec h2
  match k, hk with
  | 0, _ => rfl
  | 1, _ =>
    show _ = spanC (f + halfT n) (n - halfT n)
    have e : f + halfT n + (n - halfT n) = f + n := by omega
    unfold spanC
    rw [e]
    rfl
set_option maxRecDepth 20000 in
set_option maxHeartbeats 4000000 in
theorem forks_any (n i : Nat) (w : World) (hp : 1 ≤ n) (hn : n ≤ 1000) (hi : i ≤ 1000) :
    Calls Tryd.prog 53 #[.int .i64 (n : Int), .int .i64 (i : Int)] w fun e w' => (∃ v, e = .returned v ∧ w'.ownsRow w.heap.size 85 5 v (forksT 0 n i).length ((forksT 0 n i).map fkV).flatten) ∧ Below w.heap.size w w' := by
  have E1 : Hid (EnvX w (((w.alloc (.cells #[ii i] 3)).alloc (.cells #[.slice none 0 0] 66)).alloc (.cells #[.nilFunc] 93)) [(w.heap.size + 1 + 1, Obj.cells #[.nilFunc] 93 (0, 0)), (w.heap.size + 1, bxU (.slice none 0 0)), (w.heap.size, bxI i)]) := by
    have h := ((EnvX.start w).two (bxI i) (bxU (.slice none 0 0))).new (Obj.cells #[.nilFunc] 93 (0, 0))
    have hs : ((w.alloc (bxI i)).alloc (bxU (.slice none 0 0))).heap.size = w.heap.size + 1 + 1 := by simp
    rw [hs] at h
    exact h
  have HLE : Hid (w.heap.size ≤ w.heap.size + 1 + 1) := by show _ ≤ _; omega
  have HC : Hid (∀ u, EnvX w u [(w.heap.size + 1 + 1, bxF w.heap.size (w.heap.size + 1 + 1) (w.heap.size + 1)), (w.heap.size + 1, bxU (.slice none 0 0)), (w.heap.size, bxI i)] →
      Calls Tryd.prog 67 #[.agg #[ii 0, ii n], ptr w.heap.size, ptr (w.heap.size + 1 + 1), ptr (w.heap.size + 1)] u fun e w' => ∃ x M', e = .returned x ∧ EnvX w w' M' ∧ ForkR w (w.heap.size + 1) [(w.heap.size + 1 + 1, bxF w.heap.size (w.heap.size + 1 + 1) (w.heap.size + 1)), (w.heap.size, bxI i)] ((forksT 0 n i).map fkV) M') := fun u hu => by
    have h := forks1_any i w.heap.size (w.heap.size + 1 + 1) (w.heap.size + 1) (by omega) n 0 w u [(w.heap.size + 1 + 1, bxF w.heap.size (w.heap.size + 1 + 1) (w.heap.size + 1)), (w.heap.size, bxI i)] [] (.slice none 0 0) [] hp (by omega) (by simp; omega)
      (List.Mem.tail _ (List.Mem.head _)) (List.Mem.head _) (by omega) (List.forall_mem_cons.2 ⟨by simp, List.forall_mem_cons.2 ⟨by simp, fun _ h => by cases h⟩⟩) (fun _ h => by cases h) (.inr ⟨rfl, rfl, rfl, rfl⟩) (fun _ h => by cases h)
      (EnvX.sub hu (List.forall_mem_cons.2 ⟨List.Mem.tail _ (List.Mem.head _), List.forall_mem_cons.2 ⟨List.Mem.head _, List.forall_mem_cons.2 ⟨List.Mem.tail _ (List.Mem.tail _ (List.Mem.head _)), fun _ h => by cases h⟩⟩⟩))
    have e : spanC 0 n = [ii 0, ii n] := by unfold spanC; rw [Nat.zero_add]
    rw [e] at h
    exact h
  go_enter Tryd.func53, Tryd.ntmps53
  go_upto_region 3 with (fail)
  change Code.wp _ _ _ _ (((w.alloc (.cells #[ii i] 3)).alloc (.cells #[.slice none 0 0] 66)).alloc (.cells #[.nilFunc] 93))
  generalize ((w.alloc (.cells #[ii i] 3)).alloc (.cells #[.slice none 0 0] 66)).alloc (.cells #[.nilFunc] 93) = W at *
  refine wp_region_Hx (w0 := w) [0, 1] [(w.heap.size + 1 + 1, Obj.cells #[.nilFunc] 93 (0, 0)), (w.heap.size + 1, bxU (.slice none 0 0)), (w.heap.size, bxI i)] rfl E1.out ?_
  refine lexH_phase [0] [1] ?_
  have hw1 : EnvX w _ [(w.heap.size + 1 + 1, Obj.cells #[.nilFunc] 93 (0, 0)), (w.heap.size + 1, bxU (.slice none 0 0)), (w.heap.size, bxI i)] := E1.out
  have hone := @EnvC.one _ _ _ hw1
  (refine wpG_val (v := fsV w.heap.size (w.heap.size + 1 + 1) (w.heap.size + 1)) rfl rfl (fun u hu => mkFunc_op u rfl) ?_ hw1; intro K hK; go_big_quiet_op; go_big_quiet_on)
  clear hone hw1
  refine wpG_nil ?_
  refine (hOp_putAt rfl (w.heap.size + 1 + 1) (0) (fsV w.heap.size (w.heap.size + 1 + 1) (w.heap.size + 1)) rfl rfl HLE.out 93 (#[.nilFunc]) (#[fsV w.heap.size (w.heap.size + 1 + 1) (w.heap.size + 1)]) (List.Mem.head _) info_fnF (Nat.le_refl 1) (by kernel_rfl) rfl [(w.heap.size + 1 + 1, Obj.cells (#[fsV w.heap.size (w.heap.size + 1 + 1) (w.heap.size + 1)]) 93 (0, 0)), (w.heap.size + 1, bxU (.slice none 0 0)), (w.heap.size, bxI i)] (List.forall_mem_cons.2 ⟨.inl rfl, List.forall_mem_cons.2 ⟨.inr ⟨(List.Mem.tail _ (List.Mem.head _)), by simp⟩, List.forall_mem_cons.2 ⟨.inr ⟨(List.Mem.tail _ (List.Mem.tail _ (List.Mem.head _))), by simp; omega⟩, fun _ h => by cases h⟩⟩⟩) ?_)
  intro he2
  intro u4 E2'
  have EX3 := Lib.hid E2'
  clear E2'
  go_upto_region 4 with (fail)
  refine wp_region_Hx (w0 := w) [0, 1, 2, 3] [(w.heap.size + 1 + 1, bxF w.heap.size (w.heap.size + 1 + 1) (w.heap.size + 1)), (w.heap.size + 1, bxU (.slice none 0 0)), (w.heap.size, bxI i)] rfl EX3.out ?_
  refine lexH_phase [0, 1, 2] [3] ?_
  have hw5 : EnvX w _ [(w.heap.size + 1 + 1, bxF w.heap.size (w.heap.size + 1 + 1) (w.heap.size + 1)), (w.heap.size + 1, bxU (.slice none 0 0)), (w.heap.size, bxI i)] := EX3.out
  have hone := @EnvC.one _ _ _ hw5
  (refine wpG_val (v := fsV w.heap.size (w.heap.size + 1 + 1) (w.heap.size + 1)) rfl rfl (fun u hu => load_any_op u (run_load_one oneFnF u (box_cell (k := 0) hu (List.Mem.head _) rfl)) rfl) ?_ hw5; intro K hK; go_big_quiet_op; go_big_quiet_on)
  (refine wpG_op rfl rfl rfl ?_; intro K hK; go_big_quiet_op; go_big_quiet_on)
  (refine wpG_val (v := .agg #[ii 0, ii n]) rfl rfl (fun u hu => buildA_op u (by kernel_rfl)) ?_ hw5; intro K hK; go_big_quiet_op; go_big_quiet_on)
  clear hone hw5
  refine wpG_nil ?_
  refine (hOp_turn (gd := none) (R := fun _ M3 => ForkR w (w.heap.size + 1) [(w.heap.size + 1 + 1, bxF w.heap.size (w.heap.size + 1 + 1) (w.heap.size + 1)), (w.heap.size, bxI i)] ((forksT 0 n i).map fkV) M3) rfl rfl rfl rfl (fun u hu => OUpon_callV (f := 67) (args := #[.agg #[ii 0, ii n]]) (caps := #[ptr w.heap.size, ptr (w.heap.size + 1 + 1), ptr (w.heap.size + 1)]) (all := #[.agg #[ii 0, ii n], ptr w.heap.size, ptr (w.heap.size + 1 + 1), ptr (w.heap.size + 1)]) rfl rfl rfl Tryd.func67 rfl rfl u (HC.out u hu)) ?_)
  rintro x M' ⟨v1, N1, rfl, hF1, hN1⟩ he6; intro K' hK'; go_big_quiet_op; go_big_quiet_on
  have HF1 := Lib.hid hF1
  have HN1 := Lib.hid hN1
  clear hF1 hN1
  change lexH _ _ _ _ _ _ ((w.heap.size + 1, bxU v1) :: (N1 ++ ((w.heap.size + 1 + 1, bxF w.heap.size (w.heap.size + 1 + 1) (w.heap.size + 1)) :: ((w.heap.size, bxI i) :: []))))
  intro u8 E2'
  have EX7 := Lib.hid E2'
  clear E2'
  go_upto_region 5 with (fail)
  refine wp_region_Hx (w0 := w) [0, 1] ((w.heap.size + 1, bxU v1) :: (N1 ++ ((w.heap.size + 1 + 1, bxF w.heap.size (w.heap.size + 1 + 1) (w.heap.size + 1)) :: ((w.heap.size, bxI i) :: [])))) rfl EX7.out ?_
  refine lexH_phase [0, 1] [] ?_
  have hw9 : EnvX w _ ((w.heap.size + 1, bxU v1) :: (N1 ++ ((w.heap.size + 1 + 1, bxF w.heap.size (w.heap.size + 1 + 1) (w.heap.size + 1)) :: ((w.heap.size, bxI i) :: [])))) := EX7.out
  have hone := @EnvC.one _ _ _ hw9
  (refine wpG_val (v := v1) rfl rfl (fun u hu => load_any_op u (run_load_one oneFks u (box_cell (k := 0) hu (List.Mem.head _) rfl)) rfl) ?_ hw9; intro K hK; go_big_quiet_op; go_big_quiet_on)
  (refine wpG_op rfl rfl rfl ?_; intro K hK; go_big_quiet_op; go_big_quiet_on)
  clear hone hw9
  refine wpG_nil ?_
  intro u11 E2'
  have EX10 := Lib.hid E2'
  clear E2'
  have HO := Lib.hid (And.intro (HF1.out.own (B := w.heap.size) (by rw [(fk_rows _).flat_len]) (fun y hy => ⟨(HN1.out y hy).1, EnvX.box EX10.out _ _ (List.mem_cons_of_mem _ (List.mem_append_left _ hy))⟩)) EX10.out.bel)
  clear EX10 HF1 HN1
  go_wp2_with fail
  go_ret
  exact ⟨⟨_, rfl, by have := HO.out.1; rwa [List.length_map] at this⟩, HO.out.2⟩
end Go.Proofs.YtbjojpgedcikiaaDoor
