/- Part of a proof. -/
import Derived.Test.YtbmiecogjmbciaaDoorCo
namespace Go.Proofs.YtbmiecogjmbciaaDoor
set_option maxRecDepth 8000
open Go.RowKit

theorem stA_zero : (stA 0 0 0 0 zTot).size = 41 := by rw [← zero_step]; rfl
theorem box_step {w0 u : World} {M : Boxes} {g a b c d : Nat} {ty : TypeId} {o : Tot} (hu : EnvC w0 M u) (hm : (g, Obj.cells (stA a b c d o) ty (0, 0)) ∈ M) (h : len32 o) : (loadVar 63 ⟨g, 0, none⟩).run Tryd.prog u = .ok (.agg (stA a b c d o)) u := by
  have hs := stA_size (a := a) (b := b) (c := c) (d := d) h
  have := box_agg aggMStep (k := 0) hu hm (stA a b c d o).toList (by rw [Array.length_toList, hs]) (by rw [List.drop_zero, List.take_of_length_le (by rw [Array.length_toList, hs]; exact Nat.le_refl _)])
  rwa [agg_list] at this
set_option maxRecDepth 20000 in
set_option maxHeartbeats 8000000 in
theorem mcheck_odd (root leaf : Tot) (i : Int) (p : List Tot) (A : Option Addr) (m c : Nat) (w : World) (hr : okT root) (hlf : okT leaf) (hi : -9223372036854775808 ≤ i ∧ i ≤ 9223372036854775807) (hm : p.length = m) (hm6 : m ≤ 1000000) (hmc : m ≤ c) (hcm : c ≤ maxLen) (hI : okTs p) (hA : TotsIn w w.heap.size A p) (ht : Tables w) (k1 : standT root.n i = false) :
    Calls Tryd.prog 15 #[totV root, .int .i64 i, totV leaf, .slice A m c] w fun e w' => e = .returned (.tuple #[.agg (wcs (mcheckT root i leaf p).1), .bool (mcheckT root i leaf p).2]) ∧ Below w.heap.size w w' := by
  rw [show mcheckT root i leaf p = (0, false) by unfold mcheckT; rw [if_neg (by unfold standT at k1; simp only [decide_eq_false_iff_not] at k1; omega)]]
  have HST : Hid (∀ u, Calls Tryd.prog 33 #[.int .i64 root.n, .int .i64 i] u fun e w' => e = .returned (.bool false) ∧ Below u.heap.size u w') := fun u => by
    rw [← k1]
    exact mstand_any root.n i u hr.2.2.1 hr.2.2.2 (by omega) (by omega)
  clear k1 hi
  have HR := Lib.hid hr
  have HF := Lib.hid hlf
  have HP := Lib.hid (And.intro hI (And.intro hA ht))
  have HM := Lib.hid hm
  have HLE : Hid (w.heap.size ≤ w.heap.size + 1 + 1) := by show _ ≤ _; omega
  have E1 : Hid (EnvX w (((w.alloc (.cells (totA root) 29)).alloc (.cells (totA leaf) 29)).alloc (.cells (wcs 0) 27)) [(w.heap.size + 1 + 1, Obj.cells (wcs 0) 27 (0, 0)), (w.heap.size + 1, Obj.cells (totA leaf) 29 (0, 0)), (w.heap.size, Obj.cells (totA root) 29 (0, 0))]) := EnvX.three _ _ _
  clear hr hlf hI hA hm ht
  unfold maxLen at hcm
  unfold totV
  go_enter Tryd.func15, Tryd.ntmps15
  go_upto_region 1 with (fail)
  rw [zero_wcs]
  generalize ((w.alloc (.cells (totA root) 29)).alloc (.cells (totA leaf) 29)).alloc (.cells (wcs 0) 27) = W at *
  refine wp_region_Hx (w0 := w) [0, 1, 2, 3, 4, 5, 6, 7, 8, 9] [(w.heap.size + 1 + 1, Obj.cells (wcs 0) 27 (0, 0)), (w.heap.size + 1, Obj.cells (totA leaf) 29 (0, 0)), (w.heap.size, Obj.cells (totA root) 29 (0, 0))] rfl E1.out ?_
  refine lexH_phase [0, 1, 2, 3, 4, 5, 6, 7, 8, 9] [] ?_
  have hw1 : EnvX w _ [(w.heap.size + 1 + 1, Obj.cells (wcs 0) 27 (0, 0)), (w.heap.size + 1, Obj.cells (totA leaf) 29 (0, 0)), (w.heap.size, Obj.cells (totA root) 29 (0, 0))] := E1.out
  have hone := @EnvC.one _ _ _ hw1
  (refine wpG_op rfl rfl rfl ?_; intro K hK; go_big_quiet_op; go_big_quiet_on)
  (refine wpG_val (v := .int .i64 root.n) rfl rfl (fun u hu => load_any_op u (box_totN hu (List.Mem.tail _ (List.Mem.tail _ (List.Mem.head _))) HR.out.len) rfl) ?_ hw1; intro K hK; go_big_quiet_op; go_big_quiet_on)
  (refine wpG_op rfl rfl rfl ?_; intro K hK; go_big_quiet_op; go_big_quiet_on)
  (refine wpG_call (f := 33) (args := #[.int .i64 root.n, .int .i64 i]) (v := .bool false) rfl rfl rfl Tryd.func33 rfl rfl (fun u hu => HST.out u) ?_ hw1; intro K hK; go_big_quiet_op; go_big_quiet_on)
  (refine wpG_op rfl rfl rfl ?_; intro K hK; go_big_quiet_op; go_big_quiet_on)
  (refine wpG_op rfl rfl rfl ?_; intro K hK; go_big_quiet_op; go_big_quiet_on)
  (refine wpG_skip rfl rfl ?_ hw1; intro K hK; go_big_quiet_op; go_big_quiet_on)
  (refine wpG_skip rfl rfl ?_ hw1; intro K hK; go_big_quiet_op; go_big_quiet_on)
  (refine wpG_skip rfl rfl ?_ hw1; intro K hK; go_big_quiet_op; go_big_quiet_on)
  (refine wpG_op rfl rfl rfl ?_; intro K hK; go_big_quiet_op; go_big_quiet_on)
  clear hone hw1
  refine wpG_nil ?_
  intro u3 E2'
  have EX2 := Lib.hid E2'
  clear E2'
  go_upto_region 2 with (fail)
  refine wp_region_Hx (w0 := w) [0, 1, 2] [(w.heap.size + 1 + 1, Obj.cells (wcs 0) 27 (0, 0)), (w.heap.size + 1, Obj.cells (totA leaf) 29 (0, 0)), (w.heap.size, Obj.cells (totA root) 29 (0, 0))] rfl EX2.out ?_
  refine lexH_phase [0] [1, 2] ?_
  have hw4 : EnvX w _ [(w.heap.size + 1 + 1, Obj.cells (wcs 0) 27 (0, 0)), (w.heap.size + 1, Obj.cells (totA leaf) 29 (0, 0)), (w.heap.size, Obj.cells (totA root) 29 (0, 0))] := EX2.out
  have hone := @EnvC.one _ _ _ hw4
  (refine wpG_val (v := .agg (wcs 0)) rfl rfl (fun u hu => buildA_op u built_w0) ?_ hw4; intro K hK; go_big_quiet_op; go_big_quiet_on)
  clear hone hw4
  refine wpG_nil ?_
  refine (hOp_store rfl (w.heap.size + 1 + 1) (wcs 0) rfl rfl HLE.out 27 ((wcs 0)) (List.Mem.head _) (wc_info _) ((wc_size _).trans (wc_size _).symm) (wc_one _) [(w.heap.size + 1 + 1, Obj.cells (wcs 0) 27 (0, 0))] (List.forall_mem_cons.2 ⟨.inl rfl, (fun _ h => by cases h)⟩) ?_)
  intro he5
  refine lexH_phase [2] [] ?_
  have hw6 : EnvX w _ [(w.heap.size + 1 + 1, Obj.cells (wcs 0) 27 (0, 0))] := he5.choose_spec
  have hone := @EnvC.one _ _ _ hw6
  (refine wpG_op rfl rfl rfl ?_; intro K hK; go_big_quiet_op; go_big_quiet_on)
  clear hone hw6
  refine wpG_nil ?_
  intro u8 E2'
  have EX7 := Lib.hid E2'
  clear E2'
  have Q0 := Lib.hid (EnvX.box EX7.out _ _ (List.Mem.head _))
  have HBEL := Lib.hid EX7.out.bel
  clear EX7
  go_wp2_with ((with_reducible refine bodyPost_ret (v := .tuple #[.agg (wcs 0), .bool false]) ?_ ?_ ?_); (exact results_row_slot (p := 8) (q := 9) (ty := 27) Tryd.results15 _ _ (w.heap.size + 1 + 1) 27 (wcs 0) (0, 0) _ rfl _ rfl Q0.out Tryd.underlying27 rfl (wc_info _)); (rfl))
  first | exact ⟨rfl, HBEL.out⟩ | exact HBEL.out
set_option maxRecDepth 20000 in
set_option maxHeartbeats 8000000 in
theorem mcheck_leaf (root leaf : Tot) (i : Int) (p : List Tot) (A : Option Addr) (m c : Nat) (w : World) (hr : okT root) (hlf : okT leaf) (hi : -9223372036854775808 ≤ i ∧ i ≤ 9223372036854775807) (hm : p.length = m) (hm6 : m ≤ 1000000) (hmc : m ≤ c) (hcm : c ≤ maxLen) (hI : okTs p) (hA : TotsIn w w.heap.size A p) (ht : Tables w) (k1 : standT root.n i = true) (k2 : leaf.n ≠ 1) :
    Calls Tryd.prog 15 #[totV root, .int .i64 i, totV leaf, .slice A m c] w fun e w' => e = .returned (.tuple #[.agg (wcs (mcheckT root i leaf p).1), .bool (mcheckT root i leaf p).2]) ∧ Below w.heap.size w w' := by
  rw [show mcheckT root i leaf p = (0, false) by unfold mcheckT; rw [if_neg (by skip; omega)]]
  have HST : Hid (∀ u, Calls Tryd.prog 33 #[.int .i64 root.n, .int .i64 i] u fun e w' => e = .returned (.bool true) ∧ Below u.heap.size u w') := fun u => by
    rw [← k1]
    exact mstand_any root.n i u hr.2.2.1 hr.2.2.2 (by omega) (by omega)
  have CLF : Hid (decide (leaf.n ≠ 1) = true) := decide_eq_true k2
  clear k2
  clear k1 hi
  have HR := Lib.hid hr
  have HF := Lib.hid hlf
  have HP := Lib.hid (And.intro hI (And.intro hA ht))
  have HM := Lib.hid hm
  have HLE : Hid (w.heap.size ≤ w.heap.size + 1 + 1) := by show _ ≤ _; omega
  have E1 : Hid (EnvX w (((w.alloc (.cells (totA root) 29)).alloc (.cells (totA leaf) 29)).alloc (.cells (wcs 0) 27)) [(w.heap.size + 1 + 1, Obj.cells (wcs 0) 27 (0, 0)), (w.heap.size + 1, Obj.cells (totA leaf) 29 (0, 0)), (w.heap.size, Obj.cells (totA root) 29 (0, 0))]) := EnvX.three _ _ _
  clear hr hlf hI hA hm ht
  unfold maxLen at hcm
  unfold totV
  go_enter Tryd.func15, Tryd.ntmps15
  go_upto_region 1 with (fail)
  rw [zero_wcs]
  generalize ((w.alloc (.cells (totA root) 29)).alloc (.cells (totA leaf) 29)).alloc (.cells (wcs 0) 27) = W at *
  refine wp_region_Hx (w0 := w) [0, 1, 2, 3, 4, 5, 6, 7, 8, 9] [(w.heap.size + 1 + 1, Obj.cells (wcs 0) 27 (0, 0)), (w.heap.size + 1, Obj.cells (totA leaf) 29 (0, 0)), (w.heap.size, Obj.cells (totA root) 29 (0, 0))] rfl E1.out ?_
  refine lexH_phase [0, 1, 2, 3, 4, 5, 6, 7, 8, 9] [] ?_
  have hw1 : EnvX w _ [(w.heap.size + 1 + 1, Obj.cells (wcs 0) 27 (0, 0)), (w.heap.size + 1, Obj.cells (totA leaf) 29 (0, 0)), (w.heap.size, Obj.cells (totA root) 29 (0, 0))] := E1.out
  have hone := @EnvC.one _ _ _ hw1
  (refine wpG_op rfl rfl rfl ?_; intro K hK; go_big_quiet_op; go_big_quiet_on)
  (refine wpG_val (v := .int .i64 root.n) rfl rfl (fun u hu => load_any_op u (box_totN hu (List.Mem.tail _ (List.Mem.tail _ (List.Mem.head _))) HR.out.len) rfl) ?_ hw1; intro K hK; go_big_quiet_op; go_big_quiet_on)
  (refine wpG_op rfl rfl rfl ?_; intro K hK; go_big_quiet_op; go_big_quiet_on)
  (refine wpG_call (f := 33) (args := #[.int .i64 root.n, .int .i64 i]) (v := .bool true) rfl rfl rfl Tryd.func33 rfl rfl (fun u hu => HST.out u) ?_ hw1; intro K hK; go_big_quiet_op; go_big_quiet_on)
  (refine wpG_op rfl rfl rfl ?_; intro K hK; go_big_quiet_op; go_big_quiet_on)
  (refine wpG_op rfl rfl rfl ?_; intro K hK; go_big_quiet_op; go_big_quiet_on)
  (refine wpG_op rfl rfl rfl ?_; intro K hK; go_big_quiet_op; go_big_quiet_on)
  (refine wpG_val (v := .int .i64 leaf.n) rfl rfl (fun u hu => load_any_op u (box_totN hu (List.Mem.tail _ (List.Mem.head _)) HF.out.len) rfl) ?_ hw1; intro K hK; go_big_quiet_op; go_big_quiet_on)
  (refine wpG_val (v := .bool true) rfl rfl (fun u hu => neqI_op u CLF.out rfl rfl) ?_ hw1; intro K hK; go_big_quiet_op; go_big_quiet_on)
  (refine wpG_op rfl rfl rfl ?_; intro K hK; go_big_quiet_op; go_big_quiet_on)
  clear hone hw1
  refine wpG_nil ?_
  intro u3 E2'
  have EX2 := Lib.hid E2'
  clear E2'
  go_upto_region 2 with (fail)
  refine wp_region_Hx (w0 := w) [0, 1, 2] [(w.heap.size + 1 + 1, Obj.cells (wcs 0) 27 (0, 0)), (w.heap.size + 1, Obj.cells (totA leaf) 29 (0, 0)), (w.heap.size, Obj.cells (totA root) 29 (0, 0))] rfl EX2.out ?_
  refine lexH_phase [0] [1, 2] ?_
  have hw4 : EnvX w _ [(w.heap.size + 1 + 1, Obj.cells (wcs 0) 27 (0, 0)), (w.heap.size + 1, Obj.cells (totA leaf) 29 (0, 0)), (w.heap.size, Obj.cells (totA root) 29 (0, 0))] := EX2.out
  have hone := @EnvC.one _ _ _ hw4
  (refine wpG_val (v := .agg (wcs 0)) rfl rfl (fun u hu => buildA_op u built_w0) ?_ hw4; intro K hK; go_big_quiet_op; go_big_quiet_on)
  clear hone hw4
  refine wpG_nil ?_
  refine (hOp_store rfl (w.heap.size + 1 + 1) (wcs 0) rfl rfl HLE.out 27 ((wcs 0)) (List.Mem.head _) (wc_info _) ((wc_size _).trans (wc_size _).symm) (wc_one _) [(w.heap.size + 1 + 1, Obj.cells (wcs 0) 27 (0, 0))] (List.forall_mem_cons.2 ⟨.inl rfl, (fun _ h => by cases h)⟩) ?_)
  intro he5
  refine lexH_phase [2] [] ?_
  have hw6 : EnvX w _ [(w.heap.size + 1 + 1, Obj.cells (wcs 0) 27 (0, 0))] := he5.choose_spec
  have hone := @EnvC.one _ _ _ hw6
  (refine wpG_op rfl rfl rfl ?_; intro K hK; go_big_quiet_op; go_big_quiet_on)
  clear hone hw6
  refine wpG_nil ?_
  intro u8 E2'
  have EX7 := Lib.hid E2'
  clear E2'
  have Q0 := Lib.hid (EnvX.box EX7.out _ _ (List.Mem.head _))
  have HBEL := Lib.hid EX7.out.bel
  clear EX7
  go_wp2_with ((with_reducible refine bodyPost_ret (v := .tuple #[.agg (wcs 0), .bool false]) ?_ ?_ ?_); (exact results_row_slot (p := 8) (q := 9) (ty := 27) Tryd.results15 _ _ (w.heap.size + 1 + 1) 27 (wcs 0) (0, 0) _ rfl _ rfl Q0.out Tryd.underlying27 rfl (wc_info _)); (rfl))
  first | exact ⟨rfl, HBEL.out⟩ | exact HBEL.out
set_option maxRecDepth 20000 in
set_option maxHeartbeats 8000000 in
theorem mcheck_len2 (root leaf : Tot) (i : Nat) (p : List Tot) (A : Option Addr) (m c : Nat) (w : World) (hr : okT root) (hlf : okT leaf) (hm : p.length = m) (hm6 : m ≤ 1000000) (hmc : m ≤ c) (hcm : c ≤ maxLen) (hI : okTs p) (hA : TotsIn w w.heap.size A p) (ht : Tables w) (N K : Nat) (F : List (Nat × Nat × Bool)) (hn : root.n = (N : Int)) (h64 : N ≤ 64) (hiN : i < N) (h1 : leaf.n = 1) (hF : forksT 0 N i = F) (hK : F.length = K) (hmq : m ≠ K) :
    Calls Tryd.prog 15 #[totV root, .int .i64 (i : Int), totV leaf, .slice A m c] w fun e w' => e = .returned (.tuple #[.agg (wcs (mcheckT root (i : Int) leaf p).1), .bool (mcheckT root (i : Int) leaf p).2]) ∧ Below w.heap.size w w' := by
  have k1 : standT root.n (i : Int) = true := by unfold standT; rw [hn]; simp only [decide_eq_true_eq]; omega
  have HST : Hid (∀ u, Calls Tryd.prog 33 #[.int .i64 root.n, .int .i64 (i : Int)] u fun e w' => e = .returned (.bool true) ∧ Below u.heap.size u w') := fun u => by
    rw [← k1]
    exact mstand_any root.n (i : Int) u hr.2.2.1 hr.2.2.2 (by omega) (by omega)
  have CLF : Hid (decide (leaf.n ≠ 1) = false) := decide_eq_false (fun h => h h1)
  have HCU : Hid (∀ u, Calls Tryd.prog 34 #[.int .i64 (N : Int), .int .i64 (i : Int)] u fun e w' => (∃ v, e = .returned v ∧ w'.ownsRow u.heap.size 60 4 v K (F.map sdV).flatten) ∧ Below u.heap.size u w') := fun u => by
    have h := mcuts_any N i u (by omega) (by omega) hiN
    rwa [hF, hK] at h
  have hsl : (sidesT N i).length = K := by
    have h := fork_sides N 0 i hiN
    rw [Nat.zero_add, hF] at h
    rw [← h, List.length_map, hK]
  have hK64 : K ≤ 64 := by
    have h := forks_len N 0 i
    rw [hF, hK] at h
    omega
  have HQ64 : Hid (K < 9223372036854775808 ∧ m < 9223372036854775808) := ⟨by omega, by omega⟩
  have HRN := Lib.hid hn
  have HNM : Hid (decide ((m : Int) ≠ (K : Int)) = true) := decide_eq_true (by omega)
  rw [mcheck_len (by rw [hn, Int.toNat_natCast, Int.toNat_natCast, hsl, hm]; exact hmq)]
  clear hmq
  clear hn h1 hsl hF hK k1
  have HR := Lib.hid hr
  have HF := Lib.hid hlf
  have HP := Lib.hid (And.intro hI (And.intro hA ht))
  have HM := Lib.hid hm
  have HLE : Hid (w.heap.size ≤ w.heap.size + 1 + 1) := by show _ ≤ _; omega
  have E1 : Hid (EnvX w (((w.alloc (.cells (totA root) 29)).alloc (.cells (totA leaf) 29)).alloc (.cells (wcs 0) 27)) [(w.heap.size + 1 + 1, Obj.cells (wcs 0) 27 (0, 0)), (w.heap.size + 1, Obj.cells (totA leaf) 29 (0, 0)), (w.heap.size, Obj.cells (totA root) 29 (0, 0))]) := EnvX.three _ _ _
  clear hr hlf hI hA hm ht
  unfold maxLen at hcm
  unfold totV
  go_enter Tryd.func15, Tryd.ntmps15
  go_upto_region 1 with (fail)
  rw [zero_wcs]
  generalize ((w.alloc (.cells (totA root) 29)).alloc (.cells (totA leaf) 29)).alloc (.cells (wcs 0) 27) = W at *
  refine wp_region_Hx (w0 := w) [0, 1, 2, 3, 4, 5, 6, 7, 8, 9] [(w.heap.size + 1 + 1, Obj.cells (wcs 0) 27 (0, 0)), (w.heap.size + 1, Obj.cells (totA leaf) 29 (0, 0)), (w.heap.size, Obj.cells (totA root) 29 (0, 0))] rfl E1.out ?_
  refine lexH_phase [0, 1, 2, 3, 4, 5, 6, 7, 8, 9] [] ?_
  have hw1 : EnvX w _ [(w.heap.size + 1 + 1, Obj.cells (wcs 0) 27 (0, 0)), (w.heap.size + 1, Obj.cells (totA leaf) 29 (0, 0)), (w.heap.size, Obj.cells (totA root) 29 (0, 0))] := E1.out
  have hone := @EnvC.one _ _ _ hw1
  (refine wpG_op rfl rfl rfl ?_; intro K hK; go_big_quiet_op; go_big_quiet_on)
  (refine wpG_val (v := .int .i64 root.n) rfl rfl (fun u hu => load_any_op u (box_totN hu (List.Mem.tail _ (List.Mem.tail _ (List.Mem.head _))) HR.out.len) rfl) ?_ hw1; intro K hK; go_big_quiet_op; go_big_quiet_on)
  (refine wpG_op rfl rfl rfl ?_; intro K hK; go_big_quiet_op; go_big_quiet_on)
  (refine wpG_call (f := 33) (args := #[.int .i64 root.n, .int .i64 (i : Int)]) (v := .bool true) rfl rfl rfl Tryd.func33 rfl rfl (fun u hu => HST.out u) ?_ hw1; intro K hK; go_big_quiet_op; go_big_quiet_on)
  (refine wpG_op rfl rfl rfl ?_; intro K hK; go_big_quiet_op; go_big_quiet_on)
  (refine wpG_op rfl rfl rfl ?_; intro K hK; go_big_quiet_op; go_big_quiet_on)
  (refine wpG_op rfl rfl rfl ?_; intro K hK; go_big_quiet_op; go_big_quiet_on)
  (refine wpG_val (v := .int .i64 leaf.n) rfl rfl (fun u hu => load_any_op u (box_totN hu (List.Mem.tail _ (List.Mem.head _)) HF.out.len) rfl) ?_ hw1; intro K hK; go_big_quiet_op; go_big_quiet_on)
  (refine wpG_val (v := .bool false) rfl rfl (fun u hu => neqI_op u CLF.out rfl rfl) ?_ hw1; intro K hK; go_big_quiet_op; go_big_quiet_on)
  (refine wpG_op rfl rfl rfl ?_; intro K hK; go_big_quiet_op; go_big_quiet_on)
  clear hone hw1
  refine wpG_nil ?_
  intro u3 E2'
  have EX2 := Lib.hid E2'
  clear E2'
  go_upto_region 3 with (fail)
  refine wp_region_Hx (w0 := w) [0, 1, 2, 3, 4] [(w.heap.size + 1 + 1, Obj.cells (wcs 0) 27 (0, 0)), (w.heap.size + 1, Obj.cells (totA leaf) 29 (0, 0)), (w.heap.size, Obj.cells (totA root) 29 (0, 0))] rfl EX2.out ?_
  refine lexH_phase [0, 1, 2] [3, 4] ?_
  have hw4 : EnvX w _ [(w.heap.size + 1 + 1, Obj.cells (wcs 0) 27 (0, 0)), (w.heap.size + 1, Obj.cells (totA leaf) 29 (0, 0)), (w.heap.size, Obj.cells (totA root) 29 (0, 0))] := EX2.out
  have hone := @EnvC.one _ _ _ hw4
  (refine wpG_op rfl rfl rfl ?_; intro K hK; go_big_quiet_op; go_big_quiet_on)
  (refine wpG_val (v := .int .i64 (N : Int)) rfl rfl (fun u hu => load_any_op u (by have h := box_totN hu (List.Mem.tail _ (List.Mem.tail _ (List.Mem.head _))) HR.out.len; rw [HRN.out] at h; exact h) rfl) ?_ hw4; intro K hK; go_big_quiet_op; go_big_quiet_on)
  (refine wpG_op rfl rfl rfl ?_; intro K hK; go_big_quiet_op; go_big_quiet_on)
  clear hone hw4
  refine wpG_nil ?_
  refine (hOp_fresh (R := FreshR 60 4 K ((F.map sdV).flatten)) (M0 := [(w.heap.size + 1 + 1, Obj.cells (wcs 0) 27 (0, 0)), (w.heap.size + 1, Obj.cells (totA leaf) 29 (0, 0)), (w.heap.size, Obj.cells (totA root) 29 (0, 0))]) rfl rfl (fun _ h => h) (fun u hu => FAt_call (fid := 34) (xs := #[.tmp 28, .tmp 29]) (args := #[.int .i64 (N : Int), .int .i64 (i : Int)]) rfl Tryd.func34 rfl rfl u (callsR_fresh (HCU.out u))) ?_)
  rintro x NC hF hf he5; intro K' hK'; go_big_quiet_op; go_big_quiet_on
  obtain ⟨Ac, cc, rfl⟩ := FreshR.form hF
  have HFR := Lib.hid (And.intro hF hf)
  clear hF
  clear hf
  change lexH _ _ _ _ _ _ (NC ++ ((w.heap.size + 1 + 1, Obj.cells (wcs 0) 27 (0, 0)) :: ((w.heap.size + 1, Obj.cells (totA leaf) 29 (0, 0)) :: ((w.heap.size, Obj.cells (totA root) 29 (0, 0)) :: []))))
  refine lexH_phase [4] [] ?_
  have hw6 : EnvX w _ (NC ++ ((w.heap.size + 1 + 1, Obj.cells (wcs 0) 27 (0, 0)) :: ((w.heap.size + 1, Obj.cells (totA leaf) 29 (0, 0)) :: ((w.heap.size, Obj.cells (totA root) 29 (0, 0)) :: [])))) := he5.choose_spec
  have hone := @EnvC.one _ _ _ hw6
  (refine wpG_op rfl rfl rfl ?_; intro K hK; go_big_quiet_op; go_big_quiet_on)
  clear hone hw6
  refine wpG_nil ?_
  intro u8 E2'
  have EX7 := Lib.hid E2'
  clear E2'
  go_upto_region 4 with (fail)
  refine wp_region_Hx (w0 := w) [0, 1, 2, 3, 4] (NC ++ ((w.heap.size + 1 + 1, Obj.cells (wcs 0) 27 (0, 0)) :: ((w.heap.size + 1, Obj.cells (totA leaf) 29 (0, 0)) :: ((w.heap.size, Obj.cells (totA root) 29 (0, 0)) :: [])))) rfl EX7.out ?_
  refine lexH_phase [0, 1, 2, 3, 4] [] ?_
  have hw9 : EnvX w _ (NC ++ ((w.heap.size + 1 + 1, Obj.cells (wcs 0) 27 (0, 0)) :: ((w.heap.size + 1, Obj.cells (totA leaf) 29 (0, 0)) :: ((w.heap.size, Obj.cells (totA root) 29 (0, 0)) :: [])))) := EX7.out
  have hone := @EnvC.one _ _ _ hw9
  (refine wpG_op rfl rfl rfl ?_; intro K hK; go_big_quiet_op; go_big_quiet_on)
  (refine wpG_val (v := .int .i64 m) rfl rfl (fun u hu => len_op Tryd.underlying22 HQ64.out.2 u rfl) ?_ hw9; intro K hK; go_big_quiet_op; go_big_quiet_on)
  (refine wpG_op rfl rfl rfl ?_; intro K hK; go_big_quiet_op; go_big_quiet_on)
  (refine wpG_val (v := .int .i64 K) rfl rfl (fun u hu => len_op Tryd.underlying55 HQ64.out.1 u rfl) ?_ hw9; intro K hK; go_big_quiet_op; go_big_quiet_on)
  (refine wpG_val (v := .bool true) rfl rfl (fun u hu => neqI_op u HNM.out rfl rfl) ?_ hw9; intro K hK; go_big_quiet_op; go_big_quiet_on)
  clear hone hw9
  refine wpG_nil ?_
  intro u11 E2'
  have EX10 := Lib.hid E2'
  clear E2'
  go_upto_region 5 with (fail)
  refine wp_region_Hx (w0 := w) [0, 1, 2] (NC ++ ((w.heap.size + 1 + 1, Obj.cells (wcs 0) 27 (0, 0)) :: ((w.heap.size + 1, Obj.cells (totA leaf) 29 (0, 0)) :: ((w.heap.size, Obj.cells (totA root) 29 (0, 0)) :: [])))) rfl EX10.out ?_
  refine lexH_phase [0] [1, 2] ?_
  have hw12 : EnvX w _ (NC ++ ((w.heap.size + 1 + 1, Obj.cells (wcs 0) 27 (0, 0)) :: ((w.heap.size + 1, Obj.cells (totA leaf) 29 (0, 0)) :: ((w.heap.size, Obj.cells (totA root) 29 (0, 0)) :: [])))) := EX10.out
  have hone := @EnvC.one _ _ _ hw12
  (refine wpG_val (v := .agg (wcs 0)) rfl rfl (fun u hu => buildA_op u built_w0) ?_ hw12; intro K hK; go_big_quiet_op; go_big_quiet_on)
  clear hone hw12
  refine wpG_nil ?_
  refine (hOp_store rfl (w.heap.size + 1 + 1) (wcs 0) rfl rfl HLE.out 27 ((wcs 0)) (List.mem_append_right _ (List.Mem.head _)) (wc_info _) ((wc_size _).trans (wc_size _).symm) (wc_one _) [(w.heap.size + 1 + 1, Obj.cells (wcs 0) 27 (0, 0))] (List.forall_mem_cons.2 ⟨.inl rfl, (fun _ h => by cases h)⟩) ?_)
  intro he13
  refine lexH_phase [2] [] ?_
  have hw14 : EnvX w _ [(w.heap.size + 1 + 1, Obj.cells (wcs 0) 27 (0, 0))] := he13.choose_spec
  have hone := @EnvC.one _ _ _ hw14
  (refine wpG_op rfl rfl rfl ?_; intro K hK; go_big_quiet_op; go_big_quiet_on)
  clear hone hw14
  refine wpG_nil ?_
  intro u16 E2'
  have EX15 := Lib.hid E2'
  clear E2'
  have Q0 := Lib.hid (EnvX.box EX15.out _ _ (List.Mem.head _))
  have HBEL := Lib.hid EX15.out.bel
  clear EX15
  go_wp2_with ((with_reducible refine bodyPost_ret (v := .tuple #[.agg (wcs 0), .bool false]) ?_ ?_ ?_); (exact results_row_slot (p := 8) (q := 9) (ty := 27) Tryd.results15 _ _ (w.heap.size + 1 + 1) 27 (wcs 0) (0, 0) _ rfl _ rfl Q0.out Tryd.underlying27 rfl (wc_info _)); (rfl))
  first | exact ⟨rfl, HBEL.out⟩ | exact HBEL.out
set_option maxRecDepth 20000 in
set_option maxHeartbeats 8000000 in
theorem mcheck_in (root leaf : Tot) (i : Nat) (p : List Tot) (A : Option Addr) (m c : Nat) (w : World) (hr : okT root) (hlf : okT leaf) (hm : p.length = m) (hm6 : m ≤ 1000000) (hmc : m ≤ c) (hcm : c ≤ maxLen) (hI : okTs p) (hA : TotsIn w w.heap.size A p) (ht : Tables w) (N K : Nat) (F : List (Nat × Nat × Bool)) (hn : root.n = (N : Int)) (h64 : N ≤ 64) (hiN : i < N) (h1 : leaf.n = 1) (hF : forksT 0 N i = F) (hK : F.length = K) (hmq : m = K) :
    Calls Tryd.prog 15 #[totV root, .int .i64 (i : Int), totV leaf, .slice A m c] w fun e w' => e = .returned (.tuple #[.agg (wcs (mcheckT root (i : Int) leaf p).1), .bool (mcheckT root (i : Int) leaf p).2]) ∧ Below w.heap.size w w' := by
  have k1 : standT root.n (i : Int) = true := by unfold standT; rw [hn]; simp only [decide_eq_true_eq]; omega
  have HST : Hid (∀ u, Calls Tryd.prog 33 #[.int .i64 root.n, .int .i64 (i : Int)] u fun e w' => e = .returned (.bool true) ∧ Below u.heap.size u w') := fun u => by
    rw [← k1]
    exact mstand_any root.n (i : Int) u hr.2.2.1 hr.2.2.2 (by omega) (by omega)
  have CLF : Hid (decide (leaf.n ≠ 1) = false) := decide_eq_false (fun h => h h1)
  have HCU : Hid (∀ u, Calls Tryd.prog 34 #[.int .i64 (N : Int), .int .i64 (i : Int)] u fun e w' => (∃ v, e = .returned v ∧ w'.ownsRow u.heap.size 60 4 v K (F.map sdV).flatten) ∧ Below u.heap.size u w') := fun u => by
    have h := mcuts_any N i u (by omega) (by omega) hiN
    rwa [hF, hK] at h
  have hsl : (sidesT N i).length = K := by
    have h := fork_sides N 0 i hiN
    rw [Nat.zero_add, hF] at h
    rw [← h, List.length_map, hK]
  have hK64 : K ≤ 64 := by
    have h := forks_len N 0 i
    rw [hF, hK] at h
    omega
  have HQ64 : Hid (K < 9223372036854775808 ∧ m < 9223372036854775808) := ⟨by omega, by omega⟩
  have HRN := Lib.hid hn
  have HNM : Hid (decide ((m : Int) ≠ (K : Int)) = false) := decide_eq_false (by omega)
  have HV := Lib.hid (mcheck_val (root := root) (leaf := leaf) (i := i) (p := p) hn (by omega) h64 hiN h1 (by rw [hsl, hm]; exact hmq))
  rw [hsl] at HV
  have HSK : Hid (∀ k, k < K → (sidesT N i).getD k true = !(F.getD k (0, 0, false)).2.2) := fun k hk => by
    have h := fork_sides N 0 i hiN
    rw [Nat.zero_add, hF] at h
    rw [← h, map_getD F (fun x => !x.2.2) (0, 0, false) true (by rw [hK]; exact hk)]
  have HZK : Hid (∀ k, k < K → (sizesT N i).getD k 0 = farN (F.getD k (0, 0, false))) := fun k hk => by
    have h := fork_sizes N 0 i hiN
    rw [Nat.zero_add, hF] at h
    rw [← h, map_getD F farN (0, 0, false) 0 (by rw [hK]; exact hk)]
  have HFF : Hid (∀ x ∈ F, farF x + farN x ≤ N ∧ (x.2.2 = true → farF x < nearF x) ∧ (x.2.2 = false → nearF x < farF x)) := fun x hx => by
    rw [← hF] at hx
    have h := fork_far x hx
    exact ⟨h.2.1, h.2.2.2.2.2.2.1, h.2.2.2.2.2.2.2⟩
  have HKL := Lib.hid hK
  have HMQ := Lib.hid hmq
  have HN64 := Lib.hid h64
  generalize sidesT N i = s at *
  generalize sizesT N i = z at *
  clear hmq
  clear hn h1 hsl hF hK k1
  have HR := Lib.hid hr
  have HF := Lib.hid hlf
  have HP := Lib.hid (And.intro hI (And.intro hA ht))
  have HM := Lib.hid hm
  have HLE : Hid (w.heap.size ≤ w.heap.size + 1 + 1) := by show _ ≤ _; omega
  have E1 : Hid (EnvX w (((w.alloc (.cells (totA root) 29)).alloc (.cells (totA leaf) 29)).alloc (.cells (wcs 0) 27)) [(w.heap.size + 1 + 1, Obj.cells (wcs 0) 27 (0, 0)), (w.heap.size + 1, Obj.cells (totA leaf) 29 (0, 0)), (w.heap.size, Obj.cells (totA root) 29 (0, 0))]) := EnvX.three _ _ _
  clear hr hlf hI hA hm ht
  unfold maxLen at hcm
  unfold totV
  go_enter Tryd.func15, Tryd.ntmps15
  go_upto_region 1 with (fail)
  rw [zero_wcs]
  generalize ((w.alloc (.cells (totA root) 29)).alloc (.cells (totA leaf) 29)).alloc (.cells (wcs 0) 27) = W at *
  refine wp_region_Hx (w0 := w) [0, 1, 2, 3, 4, 5, 6, 7, 8, 9] [(w.heap.size + 1 + 1, Obj.cells (wcs 0) 27 (0, 0)), (w.heap.size + 1, Obj.cells (totA leaf) 29 (0, 0)), (w.heap.size, Obj.cells (totA root) 29 (0, 0))] rfl E1.out ?_
  refine lexH_phase [0, 1, 2, 3, 4, 5, 6, 7, 8, 9] [] ?_
  have hw1 : EnvX w _ [(w.heap.size + 1 + 1, Obj.cells (wcs 0) 27 (0, 0)), (w.heap.size + 1, Obj.cells (totA leaf) 29 (0, 0)), (w.heap.size, Obj.cells (totA root) 29 (0, 0))] := E1.out
  have hone := @EnvC.one _ _ _ hw1
  (refine wpG_op rfl rfl rfl ?_; intro K hK; go_big_quiet_op; go_big_quiet_on)
  (refine wpG_val (v := .int .i64 root.n) rfl rfl (fun u hu => load_any_op u (box_totN hu (List.Mem.tail _ (List.Mem.tail _ (List.Mem.head _))) HR.out.len) rfl) ?_ hw1; intro K hK; go_big_quiet_op; go_big_quiet_on)
  (refine wpG_op rfl rfl rfl ?_; intro K hK; go_big_quiet_op; go_big_quiet_on)
  (refine wpG_call (f := 33) (args := #[.int .i64 root.n, .int .i64 (i : Int)]) (v := .bool true) rfl rfl rfl Tryd.func33 rfl rfl (fun u hu => HST.out u) ?_ hw1; intro K hK; go_big_quiet_op; go_big_quiet_on)
  (refine wpG_op rfl rfl rfl ?_; intro K hK; go_big_quiet_op; go_big_quiet_on)
  (refine wpG_op rfl rfl rfl ?_; intro K hK; go_big_quiet_op; go_big_quiet_on)
  (refine wpG_op rfl rfl rfl ?_; intro K hK; go_big_quiet_op; go_big_quiet_on)
  (refine wpG_val (v := .int .i64 leaf.n) rfl rfl (fun u hu => load_any_op u (box_totN hu (List.Mem.tail _ (List.Mem.head _)) HF.out.len) rfl) ?_ hw1; intro K hK; go_big_quiet_op; go_big_quiet_on)
  (refine wpG_val (v := .bool false) rfl rfl (fun u hu => neqI_op u CLF.out rfl rfl) ?_ hw1; intro K hK; go_big_quiet_op; go_big_quiet_on)
  (refine wpG_op rfl rfl rfl ?_; intro K hK; go_big_quiet_op; go_big_quiet_on)
  clear hone hw1
  refine wpG_nil ?_
  intro u3 E2'
  have EX2 := Lib.hid E2'
  clear E2'
  go_upto_region 3 with (fail)
  refine wp_region_Hx (w0 := w) [0, 1, 2, 3, 4] [(w.heap.size + 1 + 1, Obj.cells (wcs 0) 27 (0, 0)), (w.heap.size + 1, Obj.cells (totA leaf) 29 (0, 0)), (w.heap.size, Obj.cells (totA root) 29 (0, 0))] rfl EX2.out ?_
  refine lexH_phase [0, 1, 2] [3, 4] ?_
  have hw4 : EnvX w _ [(w.heap.size + 1 + 1, Obj.cells (wcs 0) 27 (0, 0)), (w.heap.size + 1, Obj.cells (totA leaf) 29 (0, 0)), (w.heap.size, Obj.cells (totA root) 29 (0, 0))] := EX2.out
  have hone := @EnvC.one _ _ _ hw4
  (refine wpG_op rfl rfl rfl ?_; intro K hK; go_big_quiet_op; go_big_quiet_on)
  (refine wpG_val (v := .int .i64 (N : Int)) rfl rfl (fun u hu => load_any_op u (by have h := box_totN hu (List.Mem.tail _ (List.Mem.tail _ (List.Mem.head _))) HR.out.len; rw [HRN.out] at h; exact h) rfl) ?_ hw4; intro K hK; go_big_quiet_op; go_big_quiet_on)
  (refine wpG_op rfl rfl rfl ?_; intro K hK; go_big_quiet_op; go_big_quiet_on)
  clear hone hw4
  refine wpG_nil ?_
  refine (hOp_fresh (R := FreshR 60 4 K ((F.map sdV).flatten)) (M0 := [(w.heap.size + 1 + 1, Obj.cells (wcs 0) 27 (0, 0)), (w.heap.size + 1, Obj.cells (totA leaf) 29 (0, 0)), (w.heap.size, Obj.cells (totA root) 29 (0, 0))]) rfl rfl (fun _ h => h) (fun u hu => FAt_call (fid := 34) (xs := #[.tmp 28, .tmp 29]) (args := #[.int .i64 (N : Int), .int .i64 (i : Int)]) rfl Tryd.func34 rfl rfl u (callsR_fresh (HCU.out u))) ?_)
  rintro x NC hF hf he5; intro K' hK'; go_big_quiet_op; go_big_quiet_on
  obtain ⟨Ac, cc, rfl⟩ := FreshR.form hF
  have HFR := Lib.hid (And.intro hF hf)
  clear hF
  clear hf
  change lexH _ _ _ _ _ _ (NC ++ ((w.heap.size + 1 + 1, Obj.cells (wcs 0) 27 (0, 0)) :: ((w.heap.size + 1, Obj.cells (totA leaf) 29 (0, 0)) :: ((w.heap.size, Obj.cells (totA root) 29 (0, 0)) :: []))))
  refine lexH_phase [4] [] ?_
  have hw6 : EnvX w _ (NC ++ ((w.heap.size + 1 + 1, Obj.cells (wcs 0) 27 (0, 0)) :: ((w.heap.size + 1, Obj.cells (totA leaf) 29 (0, 0)) :: ((w.heap.size, Obj.cells (totA root) 29 (0, 0)) :: [])))) := he5.choose_spec
  have hone := @EnvC.one _ _ _ hw6
  (refine wpG_op rfl rfl rfl ?_; intro K hK; go_big_quiet_op; go_big_quiet_on)
  clear hone hw6
  refine wpG_nil ?_
  intro u8 E2'
  have EX7 := Lib.hid E2'
  clear E2'
  go_upto_region 4 with (fail)
  refine wp_region_Hx (w0 := w) [0, 1, 2, 3, 4] (NC ++ ((w.heap.size + 1 + 1, Obj.cells (wcs 0) 27 (0, 0)) :: ((w.heap.size + 1, Obj.cells (totA leaf) 29 (0, 0)) :: ((w.heap.size, Obj.cells (totA root) 29 (0, 0)) :: [])))) rfl EX7.out ?_
  refine lexH_phase [0, 1, 2, 3, 4] [] ?_
  have hw9 : EnvX w _ (NC ++ ((w.heap.size + 1 + 1, Obj.cells (wcs 0) 27 (0, 0)) :: ((w.heap.size + 1, Obj.cells (totA leaf) 29 (0, 0)) :: ((w.heap.size, Obj.cells (totA root) 29 (0, 0)) :: [])))) := EX7.out
  have hone := @EnvC.one _ _ _ hw9
  (refine wpG_op rfl rfl rfl ?_; intro K hK; go_big_quiet_op; go_big_quiet_on)
  (refine wpG_val (v := .int .i64 m) rfl rfl (fun u hu => len_op Tryd.underlying22 HQ64.out.2 u rfl) ?_ hw9; intro K hK; go_big_quiet_op; go_big_quiet_on)
  (refine wpG_op rfl rfl rfl ?_; intro K hK; go_big_quiet_op; go_big_quiet_on)
  (refine wpG_val (v := .int .i64 K) rfl rfl (fun u hu => len_op Tryd.underlying55 HQ64.out.1 u rfl) ?_ hw9; intro K hK; go_big_quiet_op; go_big_quiet_on)
  (refine wpG_val (v := .bool false) rfl rfl (fun u hu => neqI_op u HNM.out rfl rfl) ?_ hw9; intro K hK; go_big_quiet_op; go_big_quiet_on)
  clear hone hw9
  refine wpG_nil ?_
  intro u11 E2'
  have EX10 := Lib.hid E2'
  clear E2'
  have HMB := EX10
  have HCC : Hid (CellsIn u11 u11.heap.size Ac (F.map sdV).flatten) := own_cells (HFR.out.1.own (by rw [(sdV_rows F).flat_len, List.length_map, HKL.out]) (fun y hy => ⟨(HFR.out.2 y hy).1, EnvX.box HMB.out _ _ (List.mem_append_left _ hy)⟩))
  have HPU : Hid (TotsIn u11 u11.heap.size A p ∧ Tables u11) := ⟨HP.out.2.1.up HMB.out.bel, HP.out.2.2.below HMB.out.bel⟩
  have HLL : Hid (∀ u, EnvX u11 u [] → (loadVar 29 ⟨w.heap.size + 1, 0, none⟩).run Tryd.prog u = .ok (.agg (totA leaf)) u) := fun u hu => box_tot (EnvX.comb HMB.out hu) (List.mem_append_right [] (List.mem_append_right NC (List.Mem.tail _ (List.Mem.head _)))) HF.out.len
  have HLR : Hid (∀ u, EnvX u11 u [] → (loadVar 29 ⟨w.heap.size, 0, none⟩).run Tryd.prog u = .ok (.agg (totA root)) u) := fun u hu => box_tot (EnvX.comb HMB.out hu) (List.mem_append_right [] (List.mem_append_right NC (List.Mem.tail _ (List.Mem.tail _ (List.Mem.head _))))) HR.out.len
  have EU : Hid (EnvX u11 u11 []) := EnvX.start _
  clear EX10 E1
  generalize u11 = U at *
  go_upto_region 6 with (fail)
  refine wp_region_Hx (w0 := U) [0, 1, 2, 3, 4, 5] [] rfl EU.out ?_
  refine lexH_phase [0, 1] [2, 3, 4, 5] ?_
  have hw12 : EnvX U _ [] := EU.out
  have hone := @EnvC.one _ _ _ hw12
  (refine wpG_val (v := .agg (totA leaf)) rfl rfl (fun u hu => load_any_op u (HLL.out u (EnvX.sub hu (fun _ h => by cases h))) rfl) ?_ hw12; intro K hK; go_big_quiet_op; go_big_quiet_on)
  (refine wpG_val (v := .agg (wcs 0)) rfl rfl (fun u hu => buildA_op u built_w0) ?_ hw12; intro K hK; go_big_quiet_op; go_big_quiet_on)
  clear hone hw12
  refine wpG_nil ?_
  refine (hOp_fresh (R := fun x N => ∃ g, x = .pointer (some ⟨g, 0, none⟩) ∧ N = [(g, Obj.cells (totA zTot) 29 (0, 0))]) (M0 := []) rfl rfl (fun _ h => h) (fun u hu => FAt_new (new_tot _) u) ?_)
  rintro _ _ ⟨g11, rfl, rfl⟩ hf he13; intro K' hK'; go_big_quiet_op; go_big_quiet_on
  have HG11 := Lib.hid (hf _ (List.mem_singleton.2 rfl)).1
  clear hf
  change lexH _ _ _ _ _ _ [(g11, Obj.cells (totA zTot) 29 (0, 0))]
  refine (hOp_fresh (R := fun x N => ∃ g, x = .pointer (some ⟨g, 0, none⟩) ∧ N = [(g, Obj.cells (wcs 0) 27 (0, 0))]) (M0 := [(g11, Obj.cells (totA zTot) 29 (0, 0))]) rfl rfl (fun _ h => h) (fun u hu => FAt_new (new_wd _) u) ?_)
  rintro _ _ ⟨g12, rfl, rfl⟩ hf he14; intro K' hK'; go_big_quiet_op; go_big_quiet_on
  have HG12 := Lib.hid (hf _ (List.mem_singleton.2 rfl)).1
  have HNE : Hid (g11 ≠ g12) := (hf _ (List.mem_singleton.2 rfl)).2 _ (List.Mem.head _)
  clear hf
  change lexH _ _ _ _ _ _ [(g12, Obj.cells (wcs 0) 27 (0, 0)), (g11, Obj.cells (totA zTot) 29 (0, 0))]
  refine (hOp_store rfl (g11) (totA leaf) rfl rfl HG11.out 29 ((totA zTot)) (List.Mem.tail _ (List.Mem.head _)) (infoTot _ (totA_size HF.out.len)) (zTot_size.trans (totA_size HF.out.len).symm) (totA_one _) [(g11, Obj.cells (totA leaf) 29 (0, 0)), (g12, Obj.cells (wcs 0) 27 (0, 0))] (List.forall_mem_cons.2 ⟨.inl rfl, List.forall_mem_cons.2 ⟨.inr ⟨List.Mem.head _, Ne.symm HNE.out⟩, fun _ h => by cases h⟩⟩) ?_)
  intro he15
  refine (hOp_store rfl (g12) (wcs 0) rfl rfl HG12.out 27 ((wcs 0)) (List.Mem.tail _ (List.Mem.head _)) (wc_info _) ((wc_size _).trans (wc_size _).symm) (wc_one _) [(g12, Obj.cells (wcs 0) 27 (0, 0)), (g11, Obj.cells (totA leaf) 29 (0, 0))] (List.forall_mem_cons.2 ⟨.inl rfl, List.forall_mem_cons.2 ⟨.inr ⟨List.Mem.head _, HNE.out⟩, fun _ h => by cases h⟩⟩) ?_)
  intro he16
  intro u18 E2'
  have EX17 := Lib.hid E2'
  clear E2'
  have E9 : Hid (∃ x a, mclimbK s z p leaf 0 = some (x, a) ∧ okT x ∧ a < Big ∧ EnvX U u18 [(g12, Obj.cells (wcs a) 27 (0, 0)), (g11, Obj.cells (totA x) 29 (0, 0))]) := ⟨leaf, 0, rfl, HF.out, by unfold Big; decide, EX17.out⟩
  clear EX17
  go_upto_region 8 with (fail)
  go_loopw [41] (fun iv u => ∃ k : Nat, k ≤ K ∧ iv = .int .i64 (k : Int) ∧ Hid (∃ x a, mclimbK s z p leaf k = some (x, a) ∧ okT x ∧ a < Big ∧ EnvX U u [(g12, Obj.cells (wcs a) 27 (0, 0)), (g11, Obj.cells (totA x) 29 (0, 0))])) (fun iv _ => K - (intOf iv).toNat)
  case atStart => exact ⟨0, by omega, rfl, E9⟩
  case round =>
    obtain ⟨k, hk, rfl, hst⟩ := hrel
    obtain ⟨x, a, hx1, hx2, hx3, hE⟩ := hst.out
    have HCL := Lib.hid hx1
    have HX := Lib.hid hx2
    have HAB := Lib.hid hx3
    have EK := Lib.hid hE
    clear hst hx1 hx2 hx3 hE E9
    by_cases hlt : k < K
    · have hlt2 : (k : Int) < (K : Int) := by omega
      have hkF : k < F.length := by rw [HKL.out]; exact hlt
      obtain ⟨ad, rfl, -⟩ := HPU.out.1.loads HP.out.1 (k := k) (by rw [HM.out]; have := HMQ.out; omega)
      have HLD : Hid (∀ u, Below U.heap.size U u → (loadVar 29 (ad.add (k * 37))).run Tryd.prog u = .ok (.agg (totA (p.getD k noTot))) u) := fun u hu => by
        obtain ⟨ad2, e, h⟩ := (HPU.out.1.up hu).loads HP.out.1 (k := k) (by rw [HM.out]; have := HMQ.out; omega)
        cases e
        exact (h u (EnvX.start u)).1
      have HPK := Lib.hid (HP.out.1.get (i := k) (by rw [HM.out]; have := HMQ.out; omega))
      have HKM : Hid (k < m) := by show _ < _; have := HMQ.out; omega
      have HKQ := Lib.hid hlt
      have hgd : (F.map sdV).getD k [] = sdV (F.getD k (0, 0, false)) := map_getD F sdV (0, 0, false) [] hkF
      obtain ⟨ac, rfl, -⟩ := CellsIn.load aggMSides HCC.out (sdV_rows F) (by decide) (i := k) (by rw [List.length_map]; exact hkF)
      obtain ⟨q1, q2, q3⟩ := HFF.out _ (getD_mem F (0, 0, false) hkF)
      have hsk := HSK.out k hlt
      have hzk := HZK.out k hlt
      obtain ⟨y, hy⟩ : ∃ y, F.getD k (0, 0, false) = y := ⟨_, rfl⟩
      rw [hy] at hgd q1 q2 q3 hsk hzk
      have HLS : Hid (∀ u, Below U.heap.size U u → (loadVar 60 (ac.add (k * 4))).run Tryd.prog u = .ok (.agg #[ii (nearF y), ii (nearF y + nearN y), ii (farF y), ii (farF y + farN y)]) u) := fun u hu => by
        obtain ⟨ad3, e, h⟩ := CellsIn.load aggMSides (HCC.out.up hu) (sdV_rows F) (by decide) (i := k) (by rw [List.length_map]; exact hkF)
        cases e
        rw [hgd] at h
        exact h
      have HST2 : Hid (mclimbK s z p leaf (k + 1) = mstep (!y.2.2) (farN y) (p.getD k noTot) (x, a)) := by
        show (mclimbK s z p leaf k).bind _ = _
        rw [HCL.out, hsk, hzk]
        rfl
      have HNO : Hid (mstep (!y.2.2) (farN y) (p.getD k noTot) (x, a) = none → mcheckT root (i : Int) leaf p = (0, false)) := fun h => HV.out.2 (mclimb_none (HST2.out.trans h) K (by omega))
      have HRT : Hid (y.2.2 = decide (farF y < nearF y)) := by
        show _ = _
        cases hb : y.2.2 with
        | true => exact (decide_eq_true (q2 hb)).symm
        | false => exact (decide_eq_false (by have := q3 hb; omega)).symm
      have HFB : Hid (farF y + farN y ≤ 1000000) := by show _ ≤ _; have := HN64.out; omega
      clear hgd q1 q2 q3 hsk hzk hy hkF
      generalize p.getD k noTot = pk at *
      generalize nearF y + nearN y = n2 at *
      generalize nearF y = n1 at *
      generalize farF y = ff at *
      generalize farN y = fn at *
      generalize y.2.2 = yr at *
      obtain ⟨hb, hhb⟩ : ∃ hb, (decide (x.w + pk.w < Big) && decide (pk.n = (fn : Int))) = hb := ⟨_, rfl⟩
      have HHO : Hid (∀ u, Calls Tryd.prog 37 #[.agg (stA n1 n2 ff (ff + fn) pk), .agg (totA x)] u fun e w' => e = .returned (.bool hb) ∧ Below u.heap.size u w') := fun u => by
        rw [← hhb]
        by_cases h : x.w + pk.w < Big
        · rw [decide_eq_true h, Bool.true_and]
          exact mholds_true n1 n2 ff fn pk x u HPK.out HX.out HFB.out h
        · rw [decide_eq_false h, Bool.false_and]
          exact mholds_false n1 n2 ff fn pk x u HPK.out HX.out HFB.out h
      have HHB := Lib.hid hhb
      clear hhb
      go_upto_region 9 with (fail)
      refine wp_region_Hx (w0 := U) [0, 1, 2, 3, 4, 5] [(g12, Obj.cells (wcs a) 27 (0, 0)), (g11, Obj.cells (totA x) 29 (0, 0))] rfl EK.out ?_
      refine lexH_phase [0, 1, 2] [3, 4, 5] ?_
      have hw19 : EnvX U _ [(g12, Obj.cells (wcs a) 27 (0, 0)), (g11, Obj.cells (totA x) 29 (0, 0))] := EK.out
      have hone := @EnvC.one _ _ _ hw19
      (refine wpG_op rfl rfl rfl ?_; intro K hK; go_big_quiet_op; go_big_quiet_on)
      (refine wpG_val (v := .pointer (some (ac.add (k * 4)))) rfl rfl (fun u hu => idxSl_op Tryd.underlying55 aggMSides.size HKQ.out u rfl rfl) ?_ hw19; intro K hK; go_big_quiet_op; go_big_quiet_on)
      (refine wpG_val (v := .agg #[ii n1, ii n2, ii ff, ii (ff + fn)]) rfl rfl (fun u hu => load_any_op u (HLS.out u (EnvX.bel hu)) rfl) ?_ hw19; intro K hK; go_big_quiet_op; go_big_quiet_on)
      clear hone hw19
      refine wpG_nil ?_
      refine (hOp_fresh (R := fun x N => ∃ g, x = .pointer (some ⟨g, 0, none⟩) ∧ N = [(g, Obj.cells (#[ii 0, ii 0, ii 0, ii 0]) 60 (0, 0))]) (M0 := [(g12, Obj.cells (wcs a) 27 (0, 0)), (g11, Obj.cells (totA x) 29 (0, 0))]) rfl rfl (fun _ h => h) (fun u hu => FAt_new (new_msides _) u) ?_)
      rintro _ _ ⟨g14, rfl, rfl⟩ hf he20; intro K' hK'; go_big_quiet_op; go_big_quiet_on
      have HG14 := Lib.hid (hf _ (List.mem_singleton.2 rfl))
      clear hf
      change lexH _ _ _ _ _ _ [(g14, Obj.cells (#[ii 0, ii 0, ii 0, ii 0]) 60 (0, 0)), (g12, Obj.cells (wcs a) 27 (0, 0)), (g11, Obj.cells (totA x) 29 (0, 0))]
      refine lexH_phase [4] [5] ?_
      have hw21 : EnvX U _ [(g14, Obj.cells (#[ii 0, ii 0, ii 0, ii 0]) 60 (0, 0)), (g12, Obj.cells (wcs a) 27 (0, 0)), (g11, Obj.cells (totA x) 29 (0, 0))] := he20.choose_spec
      have hone := @EnvC.one _ _ _ hw21
      (refine wpG_op rfl rfl rfl ?_; intro K hK; go_big_quiet_op; go_big_quiet_on)
      clear hone hw21
      refine wpG_nil ?_
      refine (hOp_store rfl (g14) (#[ii n1, ii n2, ii ff, ii (ff + fn)]) rfl rfl HG14.out.1 60 ((#[ii 0, ii 0, ii 0, ii 0])) (List.Mem.head _) info_msides rfl (by kernel_rfl) [(g14, Obj.cells (#[ii n1, ii n2, ii ff, ii (ff + fn)]) 60 (0, 0)), (g12, Obj.cells (wcs a) 27 (0, 0)), (g11, Obj.cells (totA x) 29 (0, 0))] (List.forall_mem_cons.2 ⟨.inl rfl, fun y hy => .inr ⟨List.mem_cons_of_mem _ hy, HG14.out.2 y hy⟩⟩) ?_)
      intro he22
      intro u24 E2'
      have EX23 := Lib.hid E2'
      clear E2'
      go_upto_region 10 with (fail)
      refine wp_region_H (w0 := U) [(g14, Obj.cells (#[ii n1, ii n2, ii ff, ii (ff + fn)]) 60 (0, 0)), (g12, Obj.cells (wcs a) 27 (0, 0)), (g11, Obj.cells (totA x) 29 (0, 0))] (by kernel_rfl) EX23.out ?_
      refine anyH_phase [0, 1, 2, 3, 4, 5] 2 rfl ⟨_, (EnvX.drew EX23.out)⟩ (by kernel_rfl) ?_
      have hw25 : EnvX U _ [(g14, Obj.cells (#[ii n1, ii n2, ii ff, ii (ff + fn)]) 60 (0, 0)), (g12, Obj.cells (wcs a) 27 (0, 0)), (g11, Obj.cells (totA x) 29 (0, 0))] := (EnvX.drew EX23.out)
      have hone := @EnvC.one _ _ _ hw25
      (refine wpG_val (v := .agg #[ii n1, ii n2, ii ff, ii (ff + fn)]) rfl rfl (fun u hu => load_any_op u (box_agg aggMSides (k := 0) hu (List.Mem.head _) [ii n1, ii n2, ii ff, ii (ff + fn)] rfl rfl) rfl) ?_ hw25; intro K hK; go_big_quiet_op; go_big_quiet_on)
      (refine wpG_op rfl rfl rfl ?_; intro K hK; go_big_quiet_op; go_big_quiet_on)
      (refine wpG_op rfl rfl rfl ?_; intro K hK; go_big_quiet_op; go_big_quiet_on)
      (refine wpG_val (v := .pointer (some (ad.add (k * 37)))) rfl rfl (fun u hu => idxSl_op Tryd.underlying22 aggTot.size HKM.out u rfl rfl) ?_ hw25; intro K hK; go_big_quiet_op; go_big_quiet_on)
      (refine wpG_val (v := .agg (totA pk)) rfl rfl (fun u hu => load_any_op u (HLD.out u (EnvX.bel hu)) rfl) ?_ hw25; intro K hK; go_big_quiet_op; go_big_quiet_on)
      (refine wpG_val (v := .agg (stA n1 n2 ff (ff + fn) pk)) rfl rfl (fun u hu => buildA_op u (built_step HPK.out.len)) ?_ hw25; intro K hK; go_big_quiet_op; go_big_quiet_on)
      clear hone hw25
      refine wpG_nil ?_
      refine anyH_one (i := 6) (by kernel_rfl) (hOp_fresh (R := fun x N => ∃ g, x = .pointer (some ⟨g, 0, none⟩) ∧ N = [(g, Obj.cells (stA 0 0 0 0 zTot) 63 (0, 0))]) (M0 := [(g14, Obj.cells (#[ii n1, ii n2, ii ff, ii (ff + fn)]) 60 (0, 0)), (g12, Obj.cells (wcs a) 27 (0, 0)), (g11, Obj.cells (totA x) 29 (0, 0))]) rfl rfl (fun _ h => h) (fun u hu => FAt_new (new_step _) u) ?_)
      rintro _ _ ⟨g15, rfl, rfl⟩ hf he26; intro K' hK'; go_big_quiet_op; go_big_quiet_on
      have HG15 := Lib.hid (hf _ (List.mem_singleton.2 rfl))
      clear hf
      change anyH _ _ _ _ _ _ _ _ [(g15, Obj.cells (stA 0 0 0 0 zTot) 63 (0, 0)), (g14, Obj.cells (#[ii n1, ii n2, ii ff, ii (ff + fn)]) 60 (0, 0)), (g12, Obj.cells (wcs a) 27 (0, 0)), (g11, Obj.cells (totA x) 29 (0, 0))]
      refine anyH_one (i := 7) (by kernel_rfl) (hOp_store rfl (g15) (stA n1 n2 ff (ff + fn) pk) rfl rfl HG15.out.1 63 ((stA 0 0 0 0 zTot)) (List.Mem.head _) (infoStep _ (stA_size HPK.out.len)) (stA_zero.trans (stA_size HPK.out.len).symm) (stA_one _ _ _ _ _) [(g15, Obj.cells (stA n1 n2 ff (ff + fn) pk) 63 (0, 0)), (g14, Obj.cells (#[ii n1, ii n2, ii ff, ii (ff + fn)]) 60 (0, 0)), (g12, Obj.cells (wcs a) 27 (0, 0)), (g11, Obj.cells (totA x) 29 (0, 0))] (List.forall_mem_cons.2 ⟨.inl rfl, fun y hy => .inr ⟨List.mem_cons_of_mem _ hy, HG15.out.2 y hy⟩⟩) ?_)
      intro he27
      refine anyH_done (by kernel_rfl) ?_
      intro u29 E2'
      have EX28 := Lib.hid E2'
      clear E2'
      go_upto_region 11 with (fail)
      cases hb with
      | false =>
        have HMM : Hid (mcheckT root (i : Int) leaf p = (0, false)) := HNO.out (mstep_no (fun h => by have h2 := HHB.out; rw [decide_eq_true h.2, decide_eq_true h.1] at h2; cases h2))
        refine wp_region_Hx (w0 := U) [0, 1, 2, 3] [(g15, Obj.cells (stA n1 n2 ff (ff + fn) pk) 63 (0, 0)), (g14, Obj.cells (#[ii n1, ii n2, ii ff, ii (ff + fn)]) 60 (0, 0)), (g12, Obj.cells (wcs a) 27 (0, 0)), (g11, Obj.cells (totA x) 29 (0, 0))] rfl EX28.out ?_
        refine lexH_phase [0, 1, 2, 3] [] ?_
        have hw30 : EnvX U _ [(g15, Obj.cells (stA n1 n2 ff (ff + fn) pk) 63 (0, 0)), (g14, Obj.cells (#[ii n1, ii n2, ii ff, ii (ff + fn)]) 60 (0, 0)), (g12, Obj.cells (wcs a) 27 (0, 0)), (g11, Obj.cells (totA x) 29 (0, 0))] := EX28.out
        have hone := @EnvC.one _ _ _ hw30
        (refine wpG_val (v := .agg (stA n1 n2 ff (ff + fn) pk)) rfl rfl (fun u hu => load_any_op u (box_step hu (List.Mem.head _) HPK.out.len) rfl) ?_ hw30; intro K hK; go_big_quiet_op; go_big_quiet_on)
        (refine wpG_val (v := .agg (totA x)) rfl rfl (fun u hu => load_any_op u (box_tot hu (List.Mem.tail _ (List.Mem.tail _ (List.Mem.tail _ (List.Mem.head _)))) HX.out.len) rfl) ?_ hw30; intro K hK; go_big_quiet_op; go_big_quiet_on)
        (refine wpG_call (f := 37) (args := #[.agg (stA n1 n2 ff (ff + fn) pk), .agg (totA x)]) (v := .bool false) rfl rfl rfl Tryd.func37 rfl rfl (fun u hu => HHO.out u) ?_ hw30; intro K hK; go_big_quiet_op; go_big_quiet_on)
        (refine wpG_op rfl rfl rfl ?_; intro K hK; go_big_quiet_op; go_big_quiet_on)
        clear hone hw30
        refine wpG_nil ?_
        intro u32 E2'
        have EX31 := Lib.hid E2'
        clear E2'
        clear EK
        have EB : Hid (EnvX w u32 ((g12, Obj.cells (wcs a) 27 (0, 0)) :: (g11, Obj.cells (totA x) 29 (0, 0)) :: (NC ++ ((w.heap.size + 1 + 1, Obj.cells (wcs 0) 27 (0, 0)) :: ((w.heap.size + 1, Obj.cells (totA leaf) 29 (0, 0)) :: ((w.heap.size, Obj.cells (totA root) 29 (0, 0)) :: [])))))) := EnvX.comb (N := [(g12, Obj.cells (wcs a) 27 (0, 0)), (g11, Obj.cells (totA x) 29 (0, 0))]) HMB.out (EnvX.sub EX31.out (List.forall_mem_cons.2 ⟨(List.Mem.tail _ (List.Mem.tail _ (List.Mem.head _))), List.forall_mem_cons.2 ⟨(List.Mem.tail _ (List.Mem.tail _ (List.Mem.tail _ (List.Mem.head _)))), fun _ h => by cases h⟩⟩))
        clear EX31
        go_upto_region 12 with (fail)
        refine wp_region_Hx (w0 := w) [0, 1, 2] ((g12, Obj.cells (wcs a) 27 (0, 0)) :: ((g11, Obj.cells (totA x) 29 (0, 0)) :: (NC ++ ((w.heap.size + 1 + 1, Obj.cells (wcs 0) 27 (0, 0)) :: ((w.heap.size + 1, Obj.cells (totA leaf) 29 (0, 0)) :: ((w.heap.size, Obj.cells (totA root) 29 (0, 0)) :: [])))))) rfl EB.out ?_
        refine lexH_phase [0] [1, 2] ?_
        have hw83 : EnvX w _ ((g12, Obj.cells (wcs a) 27 (0, 0)) :: ((g11, Obj.cells (totA x) 29 (0, 0)) :: (NC ++ ((w.heap.size + 1 + 1, Obj.cells (wcs 0) 27 (0, 0)) :: ((w.heap.size + 1, Obj.cells (totA leaf) 29 (0, 0)) :: ((w.heap.size, Obj.cells (totA root) 29 (0, 0)) :: [])))))) := EB.out
        have hone := @EnvC.one _ _ _ hw83
        (refine wpG_val (v := .agg (wcs 0)) rfl rfl (fun u hu => buildA_op u built_w0) ?_ hw83; intro K hK; go_big_quiet_op; go_big_quiet_on)
        clear hone hw83
        refine wpG_nil ?_
        refine (hOp_store rfl (w.heap.size + 1 + 1) (wcs 0) rfl rfl HLE.out 27 ((wcs 0)) (List.Mem.tail _ (List.Mem.tail _ (List.mem_append_right _ (List.Mem.head _)))) (wc_info _) ((wc_size _).trans (wc_size _).symm) (wc_one _) [(w.heap.size + 1 + 1, Obj.cells (wcs 0) 27 (0, 0))] (List.forall_mem_cons.2 ⟨.inl rfl, (fun _ h => by cases h)⟩) ?_)
        intro he84
        refine lexH_phase [2] [] ?_
        have hw85 : EnvX w _ [(w.heap.size + 1 + 1, Obj.cells (wcs 0) 27 (0, 0))] := he84.choose_spec
        have hone := @EnvC.one _ _ _ hw85
        (refine wpG_op rfl rfl rfl ?_; intro K hK; go_big_quiet_op; go_big_quiet_on)
        clear hone hw85
        refine wpG_nil ?_
        intro u87 E2'
        have EX86 := Lib.hid E2'
        clear E2'
        have Q0 := Lib.hid (EnvX.box EX86.out _ _ (List.Mem.head _))
        have HBEL := Lib.hid EX86.out.bel
        clear EX86
        go_wp2_with ((with_reducible refine bodyPost_ret (v := .tuple #[.agg (wcs 0), .bool false]) ?_ ?_ ?_); (exact results_row_slot (p := 8) (q := 9) (ty := 27) Tryd.results15 _ _ (w.heap.size + 1 + 1) 27 (wcs 0) (0, 0) _ rfl _ rfl Q0.out Tryd.underlying27 rfl (wc_info _)); (rfl))
        exact ⟨by rw [HMM.out]; first | done | exact ⟨rfl, rfl⟩, HBEL.out⟩
      | true =>
        have hb1 := HHB.out
        rw [Bool.and_eq_true, decide_eq_true_eq, decide_eq_true_eq] at hb1
        have hsy := mstep_yes (s := !yr) (m := fn) (p := pk) (x := x) (a := a) hb1.2 hb1.1
        obtain ⟨lx, ly, aw, hlx, hly, hxy, haw, haB, HAH, HSY⟩ : ∃ (lx ly : Tot) (aw : Nat), okT lx ∧ okT ly ∧ ((lx, ly) = if ff < n1 then (pk, x) else (x, pk)) ∧ aw < Big ∧ (a + aw) % Big < Big ∧ (∀ u, Calls Tryd.prog 39 #[.agg (stA n1 n2 ff (ff + fn) pk)] u fun e w' => e = .returned (.agg (wcs aw)) ∧ Below u.heap.size u w') ∧ Hid (mstep (!yr) fn pk (x, a) = some (joinT lx ly, (a + aw) % Big)) := by
          have hmb : ∀ v : Nat, v % Big < Big := fun v => Nat.mod_lt _ (by unfold Big; decide)
          by_cases h : ff < n1
          · refine ⟨pk, x, pk.w, HPK.out, HX.out, by rw [if_pos h], HPK.out.2.1, hmb _, fun u => mahead_true n1 n2 ff (ff + fn) pk u HPK.out h, ?_⟩
            show _ = _
            rw [hsy, HRT.out, decide_eq_true h]
            rfl
          · refine ⟨x, pk, 0, HX.out, HPK.out, by rw [if_neg h], by unfold Big; decide, hmb _, fun u => mahead_false n1 n2 ff (ff + fn) pk u HPK.out h, ?_⟩
            show _ = _
            rw [hsy, HRT.out, decide_eq_false h, Nat.add_zero, Nat.mod_eq_of_lt HAB.out]
            rfl
        have HJN : Hid (∀ u, Below U.heap.size U u → Calls Tryd.prog 38 #[.agg (stA n1 n2 ff (ff + fn) pk), .agg (totA x)] u fun e w' => e = .returned (.agg (totA (joinT lx ly))) ∧ Below u.heap.size u w') := fun u hu => mstep_join n1 n2 ff (ff + fn) pk x lx ly u HPK.out hlx hly hxy HX.out (HPU.out.2.below hu)
        have HAHE := Lib.hid HAH
        have HADD : Hid (∀ u, Calls Tryd.prog 27 #[.agg (wcs a), .agg (wcs aw)] u fun e w' => e = .returned (.tuple #[.agg (wcs ((a + aw) % Big)), .bool (decide (a + aw < Big))]) ∧ Below u.heap.size u w') := fun u => add_any a aw u HAB.out haw
        have HABN := Lib.hid haB
        clear hb1 hsy hlx hly hxy haw haB HAH
        refine wp_region_Hx (w0 := U) [0, 1, 2, 3] [(g15, Obj.cells (stA n1 n2 ff (ff + fn) pk) 63 (0, 0)), (g14, Obj.cells (#[ii n1, ii n2, ii ff, ii (ff + fn)]) 60 (0, 0)), (g12, Obj.cells (wcs a) 27 (0, 0)), (g11, Obj.cells (totA x) 29 (0, 0))] rfl EX28.out ?_
        refine lexH_phase [0, 1, 2, 3] [] ?_
        have hw30 : EnvX U _ [(g15, Obj.cells (stA n1 n2 ff (ff + fn) pk) 63 (0, 0)), (g14, Obj.cells (#[ii n1, ii n2, ii ff, ii (ff + fn)]) 60 (0, 0)), (g12, Obj.cells (wcs a) 27 (0, 0)), (g11, Obj.cells (totA x) 29 (0, 0))] := EX28.out
        have hone := @EnvC.one _ _ _ hw30
        (refine wpG_val (v := .agg (stA n1 n2 ff (ff + fn) pk)) rfl rfl (fun u hu => load_any_op u (box_step hu (List.Mem.head _) HPK.out.len) rfl) ?_ hw30; intro K hK; go_big_quiet_op; go_big_quiet_on)
        (refine wpG_val (v := .agg (totA x)) rfl rfl (fun u hu => load_any_op u (box_tot hu (List.Mem.tail _ (List.Mem.tail _ (List.Mem.tail _ (List.Mem.head _)))) HX.out.len) rfl) ?_ hw30; intro K hK; go_big_quiet_op; go_big_quiet_on)
        (refine wpG_call (f := 37) (args := #[.agg (stA n1 n2 ff (ff + fn) pk), .agg (totA x)]) (v := .bool true) rfl rfl rfl Tryd.func37 rfl rfl (fun u hu => HHO.out u) ?_ hw30; intro K hK; go_big_quiet_op; go_big_quiet_on)
        (refine wpG_op rfl rfl rfl ?_; intro K hK; go_big_quiet_op; go_big_quiet_on)
        clear hone hw30
        refine wpG_nil ?_
        intro u32 E2'
        have EX31 := Lib.hid E2'
        clear E2'
        go_upto_region 13 with (fail)
        refine wp_region_Hx (w0 := U) [0, 1, 2, 3] [(g15, Obj.cells (stA n1 n2 ff (ff + fn) pk) 63 (0, 0)), (g14, Obj.cells (#[ii n1, ii n2, ii ff, ii (ff + fn)]) 60 (0, 0)), (g12, Obj.cells (wcs a) 27 (0, 0)), (g11, Obj.cells (totA x) 29 (0, 0))] rfl EX31.out ?_
        refine lexH_phase [0, 1, 2] [3] ?_
        have hw33 : EnvX U _ [(g15, Obj.cells (stA n1 n2 ff (ff + fn) pk) 63 (0, 0)), (g14, Obj.cells (#[ii n1, ii n2, ii ff, ii (ff + fn)]) 60 (0, 0)), (g12, Obj.cells (wcs a) 27 (0, 0)), (g11, Obj.cells (totA x) 29 (0, 0))] := EX31.out
        have hone := @EnvC.one _ _ _ hw33
        (refine wpG_val (v := .agg (stA n1 n2 ff (ff + fn) pk)) rfl rfl (fun u hu => load_any_op u (box_step hu (List.Mem.head _) HPK.out.len) rfl) ?_ hw33; intro K hK; go_big_quiet_op; go_big_quiet_on)
        (refine wpG_val (v := .agg (totA x)) rfl rfl (fun u hu => load_any_op u (box_tot hu (List.Mem.tail _ (List.Mem.tail _ (List.Mem.tail _ (List.Mem.head _)))) HX.out.len) rfl) ?_ hw33; intro K hK; go_big_quiet_op; go_big_quiet_on)
        (refine wpG_call (f := 38) (args := #[.agg (stA n1 n2 ff (ff + fn) pk), .agg (totA x)]) (v := .agg (totA (joinT lx ly))) rfl rfl rfl Tryd.func38 rfl rfl (fun u hu => HJN.out u (EnvX.bel hu)) ?_ hw33; intro K hK; go_big_quiet_op; go_big_quiet_on)
        clear hone hw33
        refine wpG_nil ?_
        refine (hOp_store rfl (g11) (totA (joinT lx ly)) rfl rfl HG11.out 29 ((totA x)) (List.Mem.tail _ (List.Mem.tail _ (List.Mem.tail _ (List.Mem.head _)))) (infoTot _ (totA_size join_ok.len)) ((totA_size HX.out.len).trans (totA_size join_ok.len).symm) (totA_one _) [(g11, Obj.cells (totA (joinT lx ly)) 29 (0, 0)), (g15, Obj.cells (stA n1 n2 ff (ff + fn) pk) 63 (0, 0)), (g12, Obj.cells (wcs a) 27 (0, 0))] (List.forall_mem_cons.2 ⟨.inl rfl, List.forall_mem_cons.2 ⟨.inr ⟨(List.Mem.head _), fun e => HG15.out.2 _ (List.Mem.tail _ (List.Mem.tail _ (List.Mem.head _))) e.symm⟩, List.forall_mem_cons.2 ⟨.inr ⟨(List.Mem.tail _ (List.Mem.tail _ (List.Mem.head _))), Ne.symm HNE.out⟩, fun _ h => by cases h⟩⟩⟩) ?_)
        intro he34
        intro u36 E2'
        have EX35 := Lib.hid E2'
        clear E2'
        go_upto_region 14 with (fail)
        refine wp_region_H (w0 := U) [(g11, Obj.cells (totA (joinT lx ly)) 29 (0, 0)), (g15, Obj.cells (stA n1 n2 ff (ff + fn) pk) 63 (0, 0)), (g12, Obj.cells (wcs a) 27 (0, 0))] (by kernel_rfl) EX35.out ?_
        refine anyH_phase [0, 1, 2, 3, 4, 5, 6] 1 rfl ⟨_, (EnvX.drew EX35.out)⟩ (by kernel_rfl) ?_
        have hw37 : EnvX U _ [(g11, Obj.cells (totA (joinT lx ly)) 29 (0, 0)), (g15, Obj.cells (stA n1 n2 ff (ff + fn) pk) 63 (0, 0)), (g12, Obj.cells (wcs a) 27 (0, 0))] := (EnvX.drew EX35.out)
        have hone := @EnvC.one _ _ _ hw37
        (refine wpG_val (v := .agg (wcs a)) rfl rfl (fun u hu => load_any_op u (box_wide hu (List.Mem.tail _ (List.Mem.tail _ (List.Mem.head _)))) rfl) ?_ hw37; intro K hK; go_big_quiet_op; go_big_quiet_on)
        (refine wpG_val (v := .agg (stA n1 n2 ff (ff + fn) pk)) rfl rfl (fun u hu => load_any_op u (box_step hu (List.Mem.tail _ (List.Mem.head _)) HPK.out.len) rfl) ?_ hw37; intro K hK; go_big_quiet_op; go_big_quiet_on)
        (refine wpG_call (f := 39) (args := #[.agg (stA n1 n2 ff (ff + fn) pk)]) (v := .agg (wcs aw)) rfl rfl rfl Tryd.func39 rfl rfl (fun u hu => HAHE.out u) ?_ hw37; intro K hK; go_big_quiet_op; go_big_quiet_on)
        (refine wpG_call (f := 27) (args := #[.agg (wcs a), .agg (wcs aw)]) (v := .tuple #[.agg (wcs ((a + aw) % Big)), .bool (decide (a + aw < Big))]) rfl rfl rfl Tryd.func27 rfl rfl (fun u hu => HADD.out u) ?_ hw37; intro K hK; go_big_quiet_op; go_big_quiet_on)
        (refine wpG_op rfl rfl rfl ?_; intro K hK; go_big_quiet_op; go_big_quiet_on)
        (refine wpG_op rfl rfl rfl ?_; intro K hK; go_big_quiet_op; go_big_quiet_on)
        (refine wpG_op rfl rfl rfl ?_; intro K hK; go_big_quiet_op; go_big_quiet_on)
        clear hone hw37
        refine wpG_nil ?_
        refine anyH_one (i := 7) (by kernel_rfl) (hOp_store rfl (g12) (wcs ((a + aw) % Big)) rfl rfl HG12.out 27 ((wcs a)) (List.Mem.tail _ (List.Mem.tail _ (List.Mem.head _))) (wc_info _) ((wc_size _).trans (wc_size _).symm) (wc_one _) [(g12, Obj.cells (wcs ((a + aw) % Big)) 27 (0, 0)), (g11, Obj.cells (totA (joinT lx ly)) 29 (0, 0))] (List.forall_mem_cons.2 ⟨.inl rfl, List.forall_mem_cons.2 ⟨.inr ⟨(List.Mem.head _), HNE.out⟩, fun _ h => by cases h⟩⟩) ?_)
        intro he38
        refine anyH_done (by kernel_rfl) ?_
        intro u40 E2'
        have EX39 := Lib.hid E2'
        clear E2'
        have EN : Hid (∃ x a, mclimbK s z p leaf (k + 1) = some (x, a) ∧ okT x ∧ a < Big ∧ EnvX U u40 [(g12, Obj.cells (wcs a) 27 (0, 0)), (g11, Obj.cells (totA x) 29 (0, 0))]) := ⟨joinT lx ly, (a + aw) % Big, by rw [HST2.out, HSY.out], join_ok, HABN.out, EX39.out⟩
        go_wp2
        go_roundw
        case rel => exact ⟨k + 1, by omega, by go_num, EN⟩
        case measure => simp [intOf]; omega
    · obtain rfl : k = K := by omega
      have hge : ¬ (k : Int) < (k : Int) := by omega
      have HVV := Lib.hid (HV.out.1 x a HCL.out)
      by_cases hxr : x = root
      · have C2' : Hid ((!eqT x root) = false) := by show _ = _; simp [eqT, hxr]
        rw [if_pos hxr] at HVV
        clear hxr
        go_upto_region 16 with (fail)
        refine wp_region_Hx (w0 := U) [0, 1, 2] [(g12, Obj.cells (wcs a) 27 (0, 0)), (g11, Obj.cells (totA x) 29 (0, 0))] rfl EK.out ?_
        refine lexH_phase [0, 1, 2] [] ?_
        have hw501 : EnvX U _ [(g12, Obj.cells (wcs a) 27 (0, 0)), (g11, Obj.cells (totA x) 29 (0, 0))] := EK.out
        have hone := @EnvC.one _ _ _ hw501
        (refine wpG_val (v := totV x) rfl rfl (fun u hu => load_any_op u (box_tot hu (List.Mem.tail _ (List.Mem.head _)) HX.out.len) rfl) ?_ hw501; intro K hK; go_big_quiet_op; go_big_quiet_on)
        (refine wpG_val (v := totV root) rfl rfl (fun u hu => load_any_op u (HLR.out u (EnvX.sub hu (fun _ h => by cases h))) rfl) ?_ hw501; intro K hK; go_big_quiet_op; go_big_quiet_on)
        (refine wpG_val (v := .bool false) rfl rfl (fun u hu => neqTb_op HX.out HR.out C2'.out u rfl rfl) ?_ hw501; intro K hK; go_big_quiet_op; go_big_quiet_on)
        clear hone hw501
        refine wpG_nil ?_
        intro u503 E2'
        have EX502 := Lib.hid E2'
        clear E2'
        have EB : Hid (EnvX w u503 ((g12, Obj.cells (wcs a) 27 (0, 0)) :: (g11, Obj.cells (totA x) 29 (0, 0)) :: (NC ++ ((w.heap.size + 1 + 1, Obj.cells (wcs 0) 27 (0, 0)) :: ((w.heap.size + 1, Obj.cells (totA leaf) 29 (0, 0)) :: ((w.heap.size, Obj.cells (totA root) 29 (0, 0)) :: [])))))) := EnvX.comb (N := [(g12, Obj.cells (wcs a) 27 (0, 0)), (g11, Obj.cells (totA x) 29 (0, 0))]) HMB.out (EnvX.sub EX502.out (List.forall_mem_cons.2 ⟨(List.Mem.head _), List.forall_mem_cons.2 ⟨(List.Mem.tail _ (List.Mem.head _)), fun _ h => by cases h⟩⟩))
        clear EX502
        clear EK
        go_upto_region 18 with (fail)
        refine wp_region_Hx (w0 := w) [0, 1, 2] ((g12, Obj.cells (wcs a) 27 (0, 0)) :: ((g11, Obj.cells (totA x) 29 (0, 0)) :: (NC ++ ((w.heap.size + 1 + 1, Obj.cells (wcs 0) 27 (0, 0)) :: ((w.heap.size + 1, Obj.cells (totA leaf) 29 (0, 0)) :: ((w.heap.size, Obj.cells (totA root) 29 (0, 0)) :: [])))))) rfl EB.out ?_
        refine lexH_phase [0] [1, 2] ?_
        have hw554 : EnvX w _ ((g12, Obj.cells (wcs a) 27 (0, 0)) :: ((g11, Obj.cells (totA x) 29 (0, 0)) :: (NC ++ ((w.heap.size + 1 + 1, Obj.cells (wcs 0) 27 (0, 0)) :: ((w.heap.size + 1, Obj.cells (totA leaf) 29 (0, 0)) :: ((w.heap.size, Obj.cells (totA root) 29 (0, 0)) :: [])))))) := EB.out
        have hone := @EnvC.one _ _ _ hw554
        (refine wpG_val (v := .agg (wcs a)) rfl rfl (fun u hu => load_any_op u (box_wide hu (List.Mem.head _)) rfl) ?_ hw554; intro K hK; go_big_quiet_op; go_big_quiet_on)
        clear hone hw554
        refine wpG_nil ?_
        refine (hOp_store rfl (w.heap.size + 1 + 1) (wcs a) rfl rfl HLE.out 27 ((wcs 0)) (List.Mem.tail _ (List.Mem.tail _ (List.mem_append_right _ (List.Mem.head _)))) (wc_info _) ((wc_size _).trans (wc_size _).symm) (wc_one _) [(w.heap.size + 1 + 1, Obj.cells (wcs a) 27 (0, 0))] (List.forall_mem_cons.2 ⟨.inl rfl, (fun _ h => by cases h)⟩) ?_)
        intro he555
        refine lexH_phase [2] [] ?_
        have hw556 : EnvX w _ [(w.heap.size + 1 + 1, Obj.cells (wcs a) 27 (0, 0))] := he555.choose_spec
        have hone := @EnvC.one _ _ _ hw556
        (refine wpG_op rfl rfl rfl ?_; intro K hK; go_big_quiet_op; go_big_quiet_on)
        clear hone hw556
        refine wpG_nil ?_
        intro u558 E2'
        have EX557 := Lib.hid E2'
        clear E2'
        have Q0 := Lib.hid (EnvX.box EX557.out _ _ (List.Mem.head _))
        have HBEL := Lib.hid EX557.out.bel
        clear EX557
        go_wp2_with ((with_reducible refine bodyPost_ret (v := .tuple #[.agg (wcs a), .bool true]) ?_ ?_ ?_); (exact results_row_slot (p := 8) (q := 9) (ty := 27) Tryd.results15 _ _ (w.heap.size + 1 + 1) 27 (wcs a) (0, 0) _ rfl _ rfl Q0.out Tryd.underlying27 rfl (wc_info _)); (rfl))
        exact ⟨by rw [HVV.out]; first | done | exact ⟨rfl, rfl⟩, HBEL.out⟩
      · have C2' : Hid ((!eqT x root) = true) := by show _ = _; simp [eqT, hxr]
        rw [if_neg hxr] at HVV
        clear hxr
        go_upto_region 16 with (fail)
        refine wp_region_Hx (w0 := U) [0, 1, 2] [(g12, Obj.cells (wcs a) 27 (0, 0)), (g11, Obj.cells (totA x) 29 (0, 0))] rfl EK.out ?_
        refine lexH_phase [0, 1, 2] [] ?_
        have hw501 : EnvX U _ [(g12, Obj.cells (wcs a) 27 (0, 0)), (g11, Obj.cells (totA x) 29 (0, 0))] := EK.out
        have hone := @EnvC.one _ _ _ hw501
        (refine wpG_val (v := totV x) rfl rfl (fun u hu => load_any_op u (box_tot hu (List.Mem.tail _ (List.Mem.head _)) HX.out.len) rfl) ?_ hw501; intro K hK; go_big_quiet_op; go_big_quiet_on)
        (refine wpG_val (v := totV root) rfl rfl (fun u hu => load_any_op u (HLR.out u (EnvX.sub hu (fun _ h => by cases h))) rfl) ?_ hw501; intro K hK; go_big_quiet_op; go_big_quiet_on)
        (refine wpG_val (v := .bool true) rfl rfl (fun u hu => neqTb_op HX.out HR.out C2'.out u rfl rfl) ?_ hw501; intro K hK; go_big_quiet_op; go_big_quiet_on)
        clear hone hw501
        refine wpG_nil ?_
        intro u503 E2'
        have EX502 := Lib.hid E2'
        clear E2'
        have EB : Hid (EnvX w u503 ((g12, Obj.cells (wcs a) 27 (0, 0)) :: (g11, Obj.cells (totA x) 29 (0, 0)) :: (NC ++ ((w.heap.size + 1 + 1, Obj.cells (wcs 0) 27 (0, 0)) :: ((w.heap.size + 1, Obj.cells (totA leaf) 29 (0, 0)) :: ((w.heap.size, Obj.cells (totA root) 29 (0, 0)) :: [])))))) := EnvX.comb (N := [(g12, Obj.cells (wcs a) 27 (0, 0)), (g11, Obj.cells (totA x) 29 (0, 0))]) HMB.out (EnvX.sub EX502.out (List.forall_mem_cons.2 ⟨(List.Mem.head _), List.forall_mem_cons.2 ⟨(List.Mem.tail _ (List.Mem.head _)), fun _ h => by cases h⟩⟩))
        clear EX502
        clear EK
        go_upto_region 17 with (fail)
        refine wp_region_Hx (w0 := w) [0, 1, 2] ((g12, Obj.cells (wcs a) 27 (0, 0)) :: ((g11, Obj.cells (totA x) 29 (0, 0)) :: (NC ++ ((w.heap.size + 1 + 1, Obj.cells (wcs 0) 27 (0, 0)) :: ((w.heap.size + 1, Obj.cells (totA leaf) 29 (0, 0)) :: ((w.heap.size, Obj.cells (totA root) 29 (0, 0)) :: [])))))) rfl EB.out ?_
        refine lexH_phase [0] [1, 2] ?_
        have hw554 : EnvX w _ ((g12, Obj.cells (wcs a) 27 (0, 0)) :: ((g11, Obj.cells (totA x) 29 (0, 0)) :: (NC ++ ((w.heap.size + 1 + 1, Obj.cells (wcs 0) 27 (0, 0)) :: ((w.heap.size + 1, Obj.cells (totA leaf) 29 (0, 0)) :: ((w.heap.size, Obj.cells (totA root) 29 (0, 0)) :: [])))))) := EB.out
        have hone := @EnvC.one _ _ _ hw554
        (refine wpG_val (v := .agg (wcs 0)) rfl rfl (fun u hu => buildA_op u built_w0) ?_ hw554; intro K hK; go_big_quiet_op; go_big_quiet_on)
        clear hone hw554
        refine wpG_nil ?_
        refine (hOp_store rfl (w.heap.size + 1 + 1) (wcs 0) rfl rfl HLE.out 27 ((wcs 0)) (List.Mem.tail _ (List.Mem.tail _ (List.mem_append_right _ (List.Mem.head _)))) (wc_info _) ((wc_size _).trans (wc_size _).symm) (wc_one _) [(w.heap.size + 1 + 1, Obj.cells (wcs 0) 27 (0, 0))] (List.forall_mem_cons.2 ⟨.inl rfl, (fun _ h => by cases h)⟩) ?_)
        intro he555
        refine lexH_phase [2] [] ?_
        have hw556 : EnvX w _ [(w.heap.size + 1 + 1, Obj.cells (wcs 0) 27 (0, 0))] := he555.choose_spec
        have hone := @EnvC.one _ _ _ hw556
        (refine wpG_op rfl rfl rfl ?_; intro K hK; go_big_quiet_op; go_big_quiet_on)
        clear hone hw556
        refine wpG_nil ?_
        intro u558 E2'
        have EX557 := Lib.hid E2'
        clear E2'
        have Q0 := Lib.hid (EnvX.box EX557.out _ _ (List.Mem.head _))
        have HBEL := Lib.hid EX557.out.bel
        clear EX557
        go_wp2_with ((with_reducible refine bodyPost_ret (v := .tuple #[.agg (wcs 0), .bool false]) ?_ ?_ ?_); (exact results_row_slot (p := 8) (q := 9) (ty := 27) Tryd.results15 _ _ (w.heap.size + 1 + 1) 27 (wcs 0) (0, 0) _ rfl _ rfl Q0.out Tryd.underlying27 rfl (wc_info _)); (rfl))
        exact ⟨by rw [HVV.out]; first | done | exact ⟨rfl, rfl⟩, HBEL.out⟩
theorem mcheck_any (root leaf : Tot) (i : Int) (p : List Tot) (A : Option Addr) (m c : Nat) (w : World) (hr : okT root) (hlf : okT leaf) (hi : -9223372036854775808 ≤ i ∧ i ≤ 9223372036854775807) (hm : p.length = m) (hm6 : m ≤ 1000000) (hmc : m ≤ c) (hcm : c ≤ maxLen) (hI : okTs p) (hA : TotsIn w w.heap.size A p) (ht : Tables w) :
    Calls Tryd.prog 15 #[totV root, .int .i64 i, totV leaf, .slice A m c] w fun e w' => e = .returned (.tuple #[.agg (wcs (mcheckT root i leaf p).1), .bool (mcheckT root i leaf p).2]) ∧ Below w.heap.size w w' := by
  cases k1 : standT root.n i with
  | false => exact mcheck_odd root leaf i p A m c w hr hlf hi hm hm6 hmc hcm hI hA ht k1
  | true =>
    by_cases k5 : leaf.n = 1
    · unfold standT at k1
      rw [decide_eq_true_eq] at k1
      obtain ⟨j, rfl⟩ := Int.eq_ofNat_of_zero_le (by omega : 0 ≤ i)
      obtain ⟨N, hN⟩ := Int.eq_ofNat_of_zero_le (by omega : 0 ≤ root.n)
      by_cases hmq : m = (forksT 0 N j).length
      · exact mcheck_in root leaf j p A m c w hr hlf hm hm6 hmc hcm hI hA ht N _ _ hN (by omega) (by omega) k5 rfl rfl hmq
      · exact mcheck_len2 root leaf j p A m c w hr hlf hm hm6 hmc hcm hI hA ht N _ _ hN (by omega) (by omega) k5 rfl rfl hmq
    · exact mcheck_leaf root leaf i p A m c w hr hlf hi hm hm6 hmc hcm hI hA ht k1 k5
end Go.Proofs.YtbmiecogjmbciaaDoor
