/- Part of a proof. -/
import Derived.Test.YtbjojpgedcikiaaDoorCj
namespace Go.Proofs.YtbjojpgedcikiaaDoor
set_option maxRecDepth 8000
open Go.RowKit

theorem sideS_forks {n i : Nat} (hi : i < n) : sideS (forksT 0 n i) = sidesT n i := by
  have h := fork_sides n 0 i hi
  rw [Nat.zero_add] at h
  exact h
theorem new_step {dst : Option Tmp} {ty : TypeId} {pos : String} {after : Array Edge} {gd : Option (Nat × Bool)} (a : Act) : NewAt Tryd.prog ⟨dst, .alloc 72, ty, pos, after, gd⟩ a (.cells (arrB 96 []) 72 (0, 0)) :=
  new_of (z := .agg (arrB 96 [])) (n := 96) (by kernel_rfl) a
theorem st_size {F : List (Nat × Nat × Bool)} {x : List Int} {p : List (List Int)} {k : Nat} (hx : x.length = 32 ∧ ∀ b ∈ x, 0 ≤ b ∧ b ≤ 255) (hp : (p.getD k []).length = 32) : (stA F x p k).size = 96 := by
  unfold stA
  rw [Array.size_append, pair_size (climb_id _ _ _ hx k).1 hp, arrB_size _ _ (by rw [(climb_id _ _ _ hx (k + 1)).1]; omega)]
theorem st_rows {F : List (Nat × Nat × Bool)} {x : List Int} {p : List (List Int)} {n : Nat} (hx : x.length = 32 ∧ ∀ b ∈ x, 0 ≤ b ∧ b ≤ 255) (hI : isIds p) (hn : n ≤ p.length) : isRows 96 (stepsC F x p n) := by
  intro y hy
  obtain ⟨j, hj, rfl⟩ := List.mem_map.1 hy
  have hjk := List.mem_range.1 hj
  rw [Array.length_toList]
  exact st_size hx (hI.get (i := j) (by omega)).1
theorem st_len {F : List (Nat × Nat × Bool)} {x : List Int} {p : List (List Int)} {n : Nat} : (stepsC F x p n).length = n := by unfold stepsC; rw [List.length_map, List.length_range]
theorem st_get {F : List (Nat × Nat × Bool)} {x : List Int} {p : List (List Int)} {n k : Nat} (hk : k < n) : (stepsC F x p n).getD k [] = (stA F x p k).toList := by
  unfold stepsC
  rw [List.getD_eq_getElem?_getD, List.getElem?_map, List.getElem?_range hk]
  rfl
theorem st_one {F : List (Nat × Nat × Bool)} {x : List Int} {p : List (List Int)} {k : Nat} : (stA F x p k).all (·.oneCell') = true := by
  rw [Array.all_eq_true_iff_forall_mem]
  intro u hu
  unfold stA at hu
  rcases Array.mem_append.1 hu with h | h
  · exact pair_one u (by simpa using h)
  · exact arrB_all _ u (by simpa using h)
theorem st_sum {F : List (Nat × Nat × Bool)} {x : List Int} {p : List (List Int)} {k : Nat} (hx : x.length = 32 ∧ ∀ b ∈ x, 0 ≤ b ∧ b ≤ 255) (hp : (p.getD k []).length = 32) : ((stA F x p k).toList.drop 64).take 32 = (arrB 32 (climbK (sideS F) x p (k + 1))).toList := by
  have h1 := pair_size (r := (F.getD k (0, 0, false)).2.2) (climb_id (sideS F) x p hx k).1 hp
  have h2 := idA_cells (climb_id (sideS F) x p hx (k + 1)).1
  unfold stA
  rw [Array.toList_append, show 64 = (pairV (F.getD k (0, 0, false)).2.2 (climbK (sideS F) x p k) (p.getD k [])).toList.length by rw [Array.length_toList, h1], List.drop_left, List.take_of_length_le (by omega)]
theorem st_pair {F : List (Nat × Nat × Bool)} {x : List Int} {p : List (List Int)} {k : Nat} (hx : x.length = 32 ∧ ∀ b ∈ x, 0 ≤ b ∧ b ≤ 255) (hp : (p.getD k []).length = 32) : ((stA F x p k).toList.drop 0).take 64 = (pairV (F.getD k (0, 0, false)).2.2 (climbK (sideS F) x p k) (p.getD k [])).toList := by
  have h1 := pair_size (r := (F.getD k (0, 0, false)).2.2) (climb_id (sideS F) x p hx k).1 hp
  unfold stA
  rw [Array.toList_append, List.drop_zero, List.take_append_of_le_length (by rw [Array.length_toList, h1]; omega), List.take_of_length_le (by rw [Array.length_toList, h1]; omega)]
theorem info_step : (Tryd.prog.info? 72).map (·.size) = some 96 := by kernel_rfl
theorem neq_intOp {m k : Int} {b : Bool} {a : Act} {dst : Option Tmp} {x y : Operand} {ty : TypeId} {pos : String} {after : Array Edge} {gd : Option (Nat × Bool)} (u : World) (hb : decide (m ≠ k) = b) (hx : a.eval x = .int .i64 m) (hy : a.eval y = .int .i64 k) :
    (execOp a.eval ⟨dst, .binOp .neq 3 x y 3, ty, pos, after, gd⟩).run Tryd.prog u = .ok (.value (.bool b)) u := by
  subst hb
  have h : (!(m == k)) = decide (m ≠ k) := by
    by_cases h : m = k <;> simp [h]
  unfold execOp
  simp only [hx, hy]
  go_simp
  first | exact h | rfl | skip
set_option maxRecDepth 20000 in
set_option maxHeartbeats 4000000 in
theorem checkBy_odd (root leaf : List Int) (n i : Int) (A : Option Addr) (m c : Nat) (w : World) (hn : I64 n) (hi : I64 i) (h : standT n i = false) :
    Calls Tryd.prog 49 #[ndV, idv root, .int .i64 n, .int .i64 i, idv leaf, .slice A m c] w fun e w' => e = .returned (.bool false) ∧ Below w.heap.size w w' := by
  have HST : Hid (∀ u, Calls Tryd.prog 59 #[.int .i64 n, .int .i64 i] u fun e w' => e = .returned (.bool false) ∧ Below u.heap.size u w') := fun u => by
    rw [← h]
    exact stand_any n i u hn.1 hn.2 hi.1 hi.2
  have E1 : Hid (EnvX w ((w.alloc (.cells (arrB 32 root) 24)).alloc (.cells (arrB 32 leaf) 24)) []) := ((EnvX.start w).two (Obj.cells (arrB 32 root) 24 (0, 0)) (Obj.cells (arrB 32 leaf) 24 (0, 0))).sub (fun _ h => by cases h)
  clear h hn hi
  unfold idv
  go_enter Tryd.func49, Tryd.ntmps49
  go_upto_region 1 with (fail)
  generalize (w.alloc (.cells (arrB 32 root) 24)).alloc (.cells (arrB 32 leaf) 24) = W at *
  refine wp_region_Hx (w0 := w) [0, 1, 2, 3] [] rfl E1.out ?_
  refine lexH_phase [0, 1, 2, 3] [] ?_
  have hw1 : EnvX w _ [] := E1.out
  have hone := @EnvC.one _ _ _ hw1
  (refine wpG_op rfl rfl rfl ?_; intro K hK; go_big_quiet_op; go_big_quiet_on)
  (refine wpG_op rfl rfl rfl ?_; intro K hK; go_big_quiet_op; go_big_quiet_on)
  (refine wpG_call (f := 59) (args := #[.int .i64 n, .int .i64 i]) (v := .bool false) rfl rfl rfl Tryd.func59 rfl rfl (fun u hu => HST.out u) ?_ hw1; intro K hK; go_big_quiet_op; go_big_quiet_on)
  (refine wpG_op rfl rfl rfl ?_; intro K hK; go_big_quiet_op; go_big_quiet_on)
  clear hone hw1
  refine wpG_nil ?_
  intro u3 E2'
  have EX2 := Lib.hid E2'
  clear E2'
  have HB := Lib.hid EX2.out.bel
  clear EX2
  go_wp2_with fail
  go_ret
  exact ⟨rfl, HB.out⟩
set_option maxRecDepth 20000 in
set_option maxHeartbeats 4000000 in
theorem checkBy_len (root leaf : List Int) (n i : Nat) (A : Option Addr) (m c : Nat) (w : World) (hn : n ≤ 64) (hi : i < n) (hm : m ≤ 1000000) (h : m ≠ (forksT 0 n i).length) :
    Calls Tryd.prog 49 #[ndV, idv root, .int .i64 (n : Int), .int .i64 (i : Int), idv leaf, .slice A m c] w fun e w' => e = .returned (.bool false) ∧ Below w.heap.size w w' := by
  have hst : standT (n : Int) (i : Int) = true := by unfold standT; simp only [decide_eq_true_eq]; omega
  have HST : Hid (∀ u, Calls Tryd.prog 59 #[.int .i64 (n : Int), .int .i64 (i : Int)] u fun e w' => e = .returned (.bool true) ∧ Below u.heap.size u w') := fun u => by
    rw [← hst]
    exact stand_any (n : Int) (i : Int) u (by omega) (by omega) (by omega) (by omega)
  have HFK := Lib.hid (fun u => forks_any n i u (by omega) (by omega) (by omega))
  have hfl := forks_len n 0 i
  generalize forksT 0 n i = F at *
  have HFLN : Hid (F.length < 9223372036854775808) := by show _ < _; omega
  have HMN : Hid (m < 9223372036854775808) := by show _ < _; omega
  have HNE : Hid (decide ((m : Int) ≠ (F.length : Int)) = true) := decide_eq_true (by omega)
  have E1 : Hid (EnvX w ((w.alloc (.cells (arrB 32 root) 24)).alloc (.cells (arrB 32 leaf) 24)) []) := ((EnvX.start w).two (Obj.cells (arrB 32 root) 24 (0, 0)) (Obj.cells (arrB 32 leaf) 24 (0, 0))).sub (fun _ h => by cases h)
  clear hst h hfl
  obtain ⟨K, hK⟩ : ∃ K, F.length = K := ⟨_, rfl⟩
  rw [hK] at HFLN HNE
  unfold idv
  go_enter Tryd.func49, Tryd.ntmps49
  go_upto_region 1 with (fail)
  generalize (w.alloc (.cells (arrB 32 root) 24)).alloc (.cells (arrB 32 leaf) 24) = W at *
  refine wp_region_Hx (w0 := w) [0, 1, 2, 3] [] rfl E1.out ?_
  refine lexH_phase [0, 1, 2, 3] [] ?_
  have hw1 : EnvX w _ [] := E1.out
  have hone := @EnvC.one _ _ _ hw1
  (refine wpG_op rfl rfl rfl ?_; intro K hK; go_big_quiet_op; go_big_quiet_on)
  (refine wpG_op rfl rfl rfl ?_; intro K hK; go_big_quiet_op; go_big_quiet_on)
  (refine wpG_call (f := 59) (args := #[.int .i64 (n : Int), .int .i64 (i : Int)]) (v := .bool true) rfl rfl rfl Tryd.func59 rfl rfl (fun u hu => HST.out u) ?_ hw1; intro K hK; go_big_quiet_op; go_big_quiet_on)
  (refine wpG_op rfl rfl rfl ?_; intro K hK; go_big_quiet_op; go_big_quiet_on)
  clear hone hw1
  refine wpG_nil ?_
  intro u3 E2'
  have EX2 := Lib.hid E2'
  clear E2'
  go_upto_region 3 with (fail)
  refine wp_region_Hx (w0 := w) [0, 1, 2, 3] [] rfl EX2.out ?_
  refine lexH_phase [0, 1] [2, 3] ?_
  have hw4 : EnvX w _ [] := EX2.out
  have hone := @EnvC.one _ _ _ hw4
  (refine wpG_op rfl rfl rfl ?_; intro K hK; go_big_quiet_op; go_big_quiet_on)
  (refine wpG_op rfl rfl rfl ?_; intro K hK; go_big_quiet_op; go_big_quiet_on)
  clear hone hw4
  refine wpG_nil ?_
  refine (hOp_fresh (R := FreshR 85 5 K (F.map fkV).flatten) (M0 := []) rfl rfl (fun _ h => h) (fun u hu => FAt_call (fid := 53) (xs := #[.tmp 21, .tmp 22]) (args := #[.int .i64 (n : Int), .int .i64 (i : Int)]) rfl Tryd.func53 rfl rfl u (by have h := callsR_fresh (HFK.out u); rw [hK] at h; exact h)) ?_)
  rintro x NU hF hf he5; intro K' hK'; go_big_quiet_op; go_big_quiet_on
  obtain ⟨Au, cu, rfl⟩ := FreshR.slice hF
  have HFU := Lib.hid hF
  clear hF
  clear hf
  change lexH _ _ _ _ _ _ (NU ++ [])
  refine lexH_phase [3] [] ?_
  have hw6 : EnvX w _ (NU ++ []) := he5.choose_spec
  have hone := @EnvC.one _ _ _ hw6
  (refine wpG_op rfl rfl rfl ?_; intro K hK; go_big_quiet_op; go_big_quiet_on)
  clear hone hw6
  refine wpG_nil ?_
  intro u8 E2'
  have EX7 := Lib.hid E2'
  clear E2'
  go_upto_region 4 with (fail)
  refine wp_region_Hx (w0 := w) [0, 1, 2, 3, 4] (NU ++ []) rfl EX7.out ?_
  refine lexH_phase [0, 1, 2, 3, 4] [] ?_
  have hw9 : EnvX w _ (NU ++ []) := EX7.out
  have hone := @EnvC.one _ _ _ hw9
  (refine wpG_op rfl rfl rfl ?_; intro K hK; go_big_quiet_op; go_big_quiet_on)
  (refine wpG_val (v := .int .i64 (m : Int)) rfl rfl (fun u hu => len_op Tryd.underlying22 HMN.out u rfl) ?_ hw9; intro K hK; go_big_quiet_op; go_big_quiet_on)
  (refine wpG_op rfl rfl rfl ?_; intro K hK; go_big_quiet_op; go_big_quiet_on)
  (refine wpG_val (v := .int .i64 (K : Int)) rfl rfl (fun u hu => len_op Tryd.underlying66 HFLN.out u rfl) ?_ hw9; intro K hK; go_big_quiet_op; go_big_quiet_on)
  (refine wpG_val (v := .bool true) rfl rfl (fun u hu => neq_intOp u HNE.out rfl rfl) ?_ hw9; intro K hK; go_big_quiet_op; go_big_quiet_on)
  clear hone hw9
  refine wpG_nil ?_
  intro u11 E2'
  have EX10 := Lib.hid E2'
  clear E2'
  have HB := Lib.hid EX10.out.bel
  clear EX10
  go_wp2_with fail
  go_ret
  exact ⟨rfl, HB.out⟩
set_option maxRecDepth 20000 in
set_option maxHeartbeats 4000000 in
theorem checkBy_in (root leaf : List Int) (n i : Nat) (p : List (List Int)) (A : Option Addr) (m c : Nat) (w : World) (hn : n ≤ 64) (hi : i < n) (hm : p.length = m) (hmF : m = (forksT 0 n i).length) (hr : root.length = 32) (hx : leaf.length = 32 ∧ ∀ b ∈ leaf, 0 ≤ b ∧ b ≤ 255) (hI : isIds p) (hA : IdsIn w w.heap.size A p) (ht : Tables w) :
    Calls Tryd.prog 49 #[ndV, idv root, .int .i64 (n : Int), .int .i64 (i : Int), idv leaf, .slice A m c] w fun e w' => e = .returned (.bool (eqL (climbK (sideS (forksT 0 n i)) leaf p m) root)) ∧ Below w.heap.size w w' := by
  have hst : standT (n : Int) (i : Int) = true := by unfold standT; simp only [decide_eq_true_eq]; omega
  have HST : Hid (∀ u, Calls Tryd.prog 59 #[.int .i64 (n : Int), .int .i64 (i : Int)] u fun e w' => e = .returned (.bool true) ∧ Below u.heap.size u w') := fun u => by
    rw [← hst]
    exact stand_any (n : Int) (i : Int) u (by omega) (by omega) (by omega) (by omega)
  have HFK := Lib.hid (fun u => forks_any n i u (by omega) (by omega) (by omega))
  have hfl := forks_len n 0 i
  generalize forksT 0 n i = F at *
  have hK : F.length = m := hmF.symm
  have hk64 : m ≤ 64 := by omega
  have HFLN : Hid (m < 9223372036854775808) := by show _ < _; omega
  have HNE : Hid (decide ((m : Int) ≠ (m : Int)) = false) := decide_eq_false (by omega)
  have HX := Lib.hid hx
  have HR := Lib.hid hr
  have HAI := Lib.hid (And.intro hA hI)
  have HM := Lib.hid hm
  have HTT := Lib.hid ht
  have E1 : Hid (EnvX w ((w.alloc (.cells (arrB 32 root) 24)).alloc (.cells (arrB 32 leaf) 24)) [(w.heap.size + 1, Obj.cells (arrB 32 leaf) 24 (0, 0)), (w.heap.size, Obj.cells (arrB 32 root) 24 (0, 0))]) := (EnvX.start w).two _ _
  clear hst hfl hx hr hI hA hm ht hmF
  unfold idv
  go_enter Tryd.func49, Tryd.ntmps49
  go_upto_region 1 with (fail)
  generalize (w.alloc (.cells (arrB 32 root) 24)).alloc (.cells (arrB 32 leaf) 24) = W at *
  refine wp_region_Hx (w0 := w) [0, 1, 2, 3] [(w.heap.size + 1, Obj.cells (arrB 32 leaf) 24 (0, 0)), (w.heap.size, Obj.cells (arrB 32 root) 24 (0, 0))] rfl E1.out ?_
  refine lexH_phase [0, 1, 2, 3] [] ?_
  have hw1 : EnvX w _ [(w.heap.size + 1, Obj.cells (arrB 32 leaf) 24 (0, 0)), (w.heap.size, Obj.cells (arrB 32 root) 24 (0, 0))] := E1.out
  have hone := @EnvC.one _ _ _ hw1
  (refine wpG_op rfl rfl rfl ?_; intro K hK; go_big_quiet_op; go_big_quiet_on)
  (refine wpG_op rfl rfl rfl ?_; intro K hK; go_big_quiet_op; go_big_quiet_on)
  (refine wpG_call (f := 59) (args := #[.int .i64 (n : Int), .int .i64 (i : Int)]) (v := .bool true) rfl rfl rfl Tryd.func59 rfl rfl (fun u hu => HST.out u) ?_ hw1; intro K hK; go_big_quiet_op; go_big_quiet_on)
  (refine wpG_op rfl rfl rfl ?_; intro K hK; go_big_quiet_op; go_big_quiet_on)
  clear hone hw1
  refine wpG_nil ?_
  intro u3 E2'
  have EX2 := Lib.hid E2'
  clear E2'
  go_upto_region 3 with (fail)
  refine wp_region_Hx (w0 := w) [0, 1, 2, 3] [(w.heap.size + 1, Obj.cells (arrB 32 leaf) 24 (0, 0)), (w.heap.size, Obj.cells (arrB 32 root) 24 (0, 0))] rfl EX2.out ?_
  refine lexH_phase [0, 1] [2, 3] ?_
  have hw4 : EnvX w _ [(w.heap.size + 1, Obj.cells (arrB 32 leaf) 24 (0, 0)), (w.heap.size, Obj.cells (arrB 32 root) 24 (0, 0))] := EX2.out
  have hone := @EnvC.one _ _ _ hw4
  (refine wpG_op rfl rfl rfl ?_; intro K hK; go_big_quiet_op; go_big_quiet_on)
  (refine wpG_op rfl rfl rfl ?_; intro K hK; go_big_quiet_op; go_big_quiet_on)
  clear hone hw4
  refine wpG_nil ?_
  refine (hOp_fresh (R := FreshR 85 5 m (F.map fkV).flatten) (M0 := [(w.heap.size + 1, Obj.cells (arrB 32 leaf) 24 (0, 0)), (w.heap.size, Obj.cells (arrB 32 root) 24 (0, 0))]) rfl rfl (fun _ h => h) (fun u hu => FAt_call (fid := 53) (xs := #[.tmp 21, .tmp 22]) (args := #[.int .i64 (n : Int), .int .i64 (i : Int)]) rfl Tryd.func53 rfl rfl u (by have h := callsR_fresh (HFK.out u); rw [hK] at h; exact h)) ?_)
  rintro x NU hF hf he5; intro K' hK'; go_big_quiet_op; go_big_quiet_on
  obtain ⟨Au, cu, rfl⟩ := FreshR.slice hF
  have HFU := Lib.hid hF
  clear hF
  clear hf
  change lexH _ _ _ _ _ _ (NU ++ ((w.heap.size + 1, Obj.cells (arrB 32 leaf) 24 (0, 0)) :: ((w.heap.size, Obj.cells (arrB 32 root) 24 (0, 0)) :: [])))
  refine lexH_phase [3] [] ?_
  have hw6 : EnvX w _ (NU ++ ((w.heap.size + 1, Obj.cells (arrB 32 leaf) 24 (0, 0)) :: ((w.heap.size, Obj.cells (arrB 32 root) 24 (0, 0)) :: []))) := he5.choose_spec
  have hone := @EnvC.one _ _ _ hw6
  (refine wpG_op rfl rfl rfl ?_; intro K hK; go_big_quiet_op; go_big_quiet_on)
  clear hone hw6
  refine wpG_nil ?_
  intro u8 E2'
  have EX7 := Lib.hid E2'
  clear E2'
  have HB := Lib.hid EX7.out.bel
  have CU := Lib.hid (own_cells (HFU.out.own (B := 0) (fk_rows F |>.flat_len |>.trans (by rw [List.length_map, hK])) (fun y hy => ⟨Nat.zero_le _, EnvX.box EX7.out _ _ (List.mem_append_left _ hy)⟩)))
  have EB : Hid (EnvX u8 u8 [(w.heap.size + 1, Obj.cells (arrB 32 leaf) 24 (0, 0)), (w.heap.size, Obj.cells (arrB 32 root) 24 (0, 0))]) := ⟨Below.refl _ _, fun g o hm => EnvX.box EX7.out g o (List.mem_append_right _ hm)⟩
  have HKL := Lib.hid hK
  clear EX7 HFU hK
  generalize u8 = w1 at *
  have HCL : Hid (∀ u, EnvX w1 u [] → Calls Tryd.prog 54 #[ndV, .slice Au m cu, idv leaf, .slice A m c] u fun e w' => (∃ v, e = .returned v ∧ w'.ownsRow u.heap.size 72 96 v m (stepsC F leaf p m).flatten) ∧ Below u.heap.size u w') := fun u hu =>
    climb_any F leaf p Au m cu A m c u HKL.out hk64 (CU.out.up (EnvX.bel hu)) HX.out HM.out (Nat.le_refl _) HAI.out.2 ((HAI.out.1.up HB.out).up (EnvX.bel hu)) ((HTT.out.below HB.out).below (EnvX.bel hu))
  go_upto_region 4 with (fail)
  refine wp_region_Hx (w0 := w1) [0, 1, 2, 3, 4] [(w.heap.size + 1, Obj.cells (arrB 32 leaf) 24 (0, 0)), (w.heap.size, Obj.cells (arrB 32 root) 24 (0, 0))] rfl EB.out ?_
  refine lexH_phase [0, 1, 2, 3, 4] [] ?_
  have hw9 : EnvX w1 _ [(w.heap.size + 1, Obj.cells (arrB 32 leaf) 24 (0, 0)), (w.heap.size, Obj.cells (arrB 32 root) 24 (0, 0))] := EB.out
  have hone := @EnvC.one _ _ _ hw9
  (refine wpG_op rfl rfl rfl ?_; intro K hK; go_big_quiet_op; go_big_quiet_on)
  (refine wpG_val (v := .int .i64 (m : Int)) rfl rfl (fun u hu => len_op Tryd.underlying22 HFLN.out u rfl) ?_ hw9; intro K hK; go_big_quiet_op; go_big_quiet_on)
  (refine wpG_op rfl rfl rfl ?_; intro K hK; go_big_quiet_op; go_big_quiet_on)
  (refine wpG_val (v := .int .i64 (m : Int)) rfl rfl (fun u hu => len_op Tryd.underlying66 HFLN.out u rfl) ?_ hw9; intro K hK; go_big_quiet_op; go_big_quiet_on)
  (refine wpG_val (v := .bool false) rfl rfl (fun u hu => neq_intOp u HNE.out rfl rfl) ?_ hw9; intro K hK; go_big_quiet_op; go_big_quiet_on)
  clear hone hw9
  refine wpG_nil ?_
  intro u11 E2'
  have EX10 := Lib.hid E2'
  clear E2'
  go_upto_region 6 with (fail)
  refine wp_region_Hx (w0 := w1) [0, 1, 2] [(w.heap.size + 1, Obj.cells (arrB 32 leaf) 24 (0, 0)), (w.heap.size, Obj.cells (arrB 32 root) 24 (0, 0))] rfl EX10.out ?_
  refine lexH_phase [0] [1, 2] ?_
  have hw12 : EnvX w1 _ [(w.heap.size + 1, Obj.cells (arrB 32 leaf) 24 (0, 0)), (w.heap.size, Obj.cells (arrB 32 root) 24 (0, 0))] := EX10.out
  have hone := @EnvC.one _ _ _ hw12
  (refine wpG_val (v := idv leaf) rfl rfl (fun u hu => load_run_op u (box_load hu (List.Mem.head _) HX.out.1) rfl) ?_ hw12; intro K hK; go_big_quiet_op; go_big_quiet_on)
  clear hone hw12
  refine wpG_nil ?_
  refine (hOp_fresh (R := fun x N => ∃ g, x = .pointer (some ⟨g, 0, none⟩) ∧ N = [(g, Obj.cells (arrB 32 []) 24 (0, 0))]) (M0 := [(w.heap.size + 1, Obj.cells (arrB 32 leaf) 24 (0, 0)), (w.heap.size, Obj.cells (arrB 32 root) 24 (0, 0))]) rfl rfl (fun _ h => h) (fun u hu => FAt_new (new_id _) u) ?_)
  rintro _ _ ⟨g14, rfl, rfl⟩ hf he13; intro K' hK'; go_big_quiet_op; go_big_quiet_on
  have HG14 := Lib.hid (hf _ (List.mem_singleton.2 rfl))
  clear hf
  change lexH _ _ _ _ _ _ [(g14, Obj.cells (arrB 32 []) 24 (0, 0)), (w.heap.size + 1, Obj.cells (arrB 32 leaf) 24 (0, 0)), (w.heap.size, Obj.cells (arrB 32 root) 24 (0, 0))]
  refine (hOp_store rfl (g14) (arrB 32 leaf) rfl rfl HG14.out.1 24 ((arrB 32 [])) (List.Mem.head _) (info26 _ (arrB_size _ _ (by rw [HX.out.1]; omega))) ((arrB_size _ _ (by simp)).trans (arrB_size _ _ (by rw [HX.out.1]; omega)).symm) (arrB_one _ _) [(g14, Obj.cells (arrB 32 leaf) 24 (0, 0)), (w.heap.size + 1, Obj.cells (arrB 32 leaf) 24 (0, 0)), (w.heap.size, Obj.cells (arrB 32 root) 24 (0, 0))] (List.forall_mem_cons.2 ⟨.inl rfl, fun y hy => .inr ⟨List.mem_cons_of_mem _ hy, HG14.out.2 y hy⟩⟩) ?_)
  intro he14
  intro u16 E2'
  have EX15 := Lib.hid E2'
  clear E2'
  go_upto_region 7 with (fail)
  refine wp_region_Hx (w0 := w1) [0, 1, 2, 3, 4, 5, 6] [(g14, Obj.cells (arrB 32 leaf) 24 (0, 0)), (w.heap.size + 1, Obj.cells (arrB 32 leaf) 24 (0, 0)), (w.heap.size, Obj.cells (arrB 32 root) 24 (0, 0))] rfl EX15.out ?_
  refine lexH_phase [0, 1, 2, 3] [4, 5, 6] ?_
  have hw17 : EnvX w1 _ [(g14, Obj.cells (arrB 32 leaf) 24 (0, 0)), (w.heap.size + 1, Obj.cells (arrB 32 leaf) 24 (0, 0)), (w.heap.size, Obj.cells (arrB 32 root) 24 (0, 0))] := EX15.out
  have hone := @EnvC.one _ _ _ hw17
  (refine wpG_op rfl rfl rfl ?_; intro K hK; go_big_quiet_op; go_big_quiet_on)
  (refine wpG_op rfl rfl rfl ?_; intro K hK; go_big_quiet_op; go_big_quiet_on)
  (refine wpG_val (v := idv leaf) rfl rfl (fun u hu => load_run_op u (box_load hu (List.Mem.tail _ (List.Mem.head _)) HX.out.1) rfl) ?_ hw17; intro K hK; go_big_quiet_op; go_big_quiet_on)
  (refine wpG_op rfl rfl rfl ?_; intro K hK; go_big_quiet_op; go_big_quiet_on)
  clear hone hw17
  refine wpG_nil ?_
  refine (hOp_fresh (R := FreshR 72 96 m (stepsC F leaf p m).flatten) (M0 := [(g14, Obj.cells (arrB 32 leaf) 24 (0, 0)), (w.heap.size + 1, Obj.cells (arrB 32 leaf) 24 (0, 0)), (w.heap.size, Obj.cells (arrB 32 root) 24 (0, 0))]) rfl rfl (fun _ h => h) (fun u hu => FAt_call (fid := 54) (xs := #[.tmp 30, .tmp 31, .tmp 32, .tmp 33]) (args := #[ndV, .slice Au m cu, idv leaf, .slice A m c]) rfl Tryd.func54 rfl rfl u (callsR_fresh (HCL.out u (EnvX.sub hu (fun _ h => by cases h))))) ?_)
  rintro x NS hF hf he18; intro K' hK'; go_big_quiet_op; go_big_quiet_on
  obtain ⟨As, cs, rfl⟩ := FreshR.slice hF
  have HFS := Lib.hid hF
  have HFN := Lib.hid hf
  clear hF
  clear hf
  change lexH _ _ _ _ _ _ (NS ++ ((g14, Obj.cells (arrB 32 leaf) 24 (0, 0)) :: ((w.heap.size + 1, Obj.cells (arrB 32 leaf) 24 (0, 0)) :: ((w.heap.size, Obj.cells (arrB 32 root) 24 (0, 0)) :: []))))
  refine lexH_phase [5, 6] [] ?_
  have hw19 : EnvX w1 _ (NS ++ ((g14, Obj.cells (arrB 32 leaf) 24 (0, 0)) :: ((w.heap.size + 1, Obj.cells (arrB 32 leaf) 24 (0, 0)) :: ((w.heap.size, Obj.cells (arrB 32 root) 24 (0, 0)) :: [])))) := he18.choose_spec
  have hone := @EnvC.one _ _ _ hw19
  (refine wpG_val (v := .int .i64 (m : Int)) rfl rfl (fun u hu => len_op Tryd.underlying68 HFLN.out u rfl) ?_ hw19; intro K hK; go_big_quiet_op; go_big_quiet_on)
  (refine wpG_op rfl rfl rfl ?_; intro K hK; go_big_quiet_op; go_big_quiet_on)
  clear hone hw19
  refine wpG_nil ?_
  intro u21 E2'
  have EX20 := Lib.hid E2'
  clear E2'
  have HSTR := Lib.hid (st_rows (F := F) (n := m) HX.out HAI.out.2 (by rw [HM.out]; exact Nat.le_refl _))
  have HCI := Lib.hid (climb_id (sideS F) leaf p HX.out)
  have EI : Hid (EnvX w1 u21 ((g14, Obj.cells (arrB 32 (climbK (sideS F) leaf p 0)) 24 (0, 0)) :: (NS ++ [(w.heap.size + 1, Obj.cells (arrB 32 leaf) 24 (0, 0)), (w.heap.size, Obj.cells (arrB 32 root) 24 (0, 0))]))) :=
    EnvX.sub EX20.out (List.forall_mem_cons.2 ⟨List.mem_append_right _ (List.Mem.head _), fun y hy => (List.mem_append.1 hy).elim (fun h => List.mem_append_left _ h) (fun h => List.mem_append_right _ (List.mem_cons_of_mem _ h))⟩)
  clear EX20
  go_upto_region 8 with (fail)
  go_loopw [36] (fun i u => ∃ k : Nat, k ≤ m ∧ i = .int .i64 k ∧ Hid (EnvX w1 u ((g14, Obj.cells (arrB 32 (climbK (sideS F) leaf p k)) 24 (0, 0)) :: (NS ++ [(w.heap.size + 1, Obj.cells (arrB 32 leaf) 24 (0, 0)), (w.heap.size, Obj.cells (arrB 32 root) 24 (0, 0))])))) (fun i _ => m - (intOf i).toNat)
  case atStart => exact ⟨0, by omega, rfl, EI⟩
  case round =>
    obtain ⟨k, hk, rfl, EK⟩ := hrel
    clear EI
    by_cases hlt : k < m
    · have hk2 : (k : Int) < (m : Int) := by omega
      have HK := Lib.hid hlt
      have hkl : k < (stepsC F leaf p m).length := by rw [st_len]; exact hlt
      have HOWN : Hid (∀ u, EnvX w1 u NS → u.ownsRow 0 72 96 (.slice As m cs) m (stepsC F leaf p m).flatten) := fun u hu => HFS.out.own (by rw [HSTR.out.flat_len, st_len]) (fun y hy => ⟨Nat.zero_le _, EnvX.box hu _ _ hy⟩)
      obtain ⟨ad, rfl, -⟩ := CellsIn.load aggStep (own_cells (HOWN.out wr (EnvX.sub EK.out (fun y hy => List.mem_cons_of_mem _ (List.mem_append_left _ hy))))) HSTR.out (by decide) (i := k) hkl
      have HLD : Hid (∀ u, EnvX w1 u NS → (loadVar 72 (ad.add (k * 96))).run Tryd.prog u = .ok (.agg (stA F leaf p k)) u) := fun u hu => by
        obtain ⟨ad2, e2, h2⟩ := CellsIn.load aggStep (own_cells (HOWN.out u hu)) HSTR.out (by decide) (i := k) hkl
        cases e2
        rw [st_get hlt, Array.toArray_toList] at h2
        exact h2
      have HPK : Hid ((p.getD k []).length = 32) := (HAI.out.2.get (by rw [HM.out]; exact hlt)).1
      have HS96 : Hid ((stA F leaf p k).size = 96) := st_size HX.out HPK.out
      have HSUM := Lib.hid (st_sum (F := F) HX.out HPK.out)
      have HNK := Lib.hid (HCI.out (k + 1)).1
      have HCK := Lib.hid (HCI.out k).1
      have HS1 := Lib.hid (st_one (F := F) (x := leaf) (p := p) (k := k))
      generalize stA F leaf p k = st at *
      go_upto_region 9 with (fail)
      refine wp_region_Hx (w0 := w1) [0, 1, 2, 3] ((g14, Obj.cells (arrB 32 (climbK (sideS F) leaf p k)) 24 (0, 0)) :: (NS ++ [(w.heap.size + 1, Obj.cells (arrB 32 leaf) 24 (0, 0)), (w.heap.size, Obj.cells (arrB 32 root) 24 (0, 0))])) rfl EK.out ?_
      refine lexH_phase [0, 1] [2, 3] ?_
      have hw22 : EnvX w1 _ ((g14, Obj.cells (arrB 32 (climbK (sideS F) leaf p k)) 24 (0, 0)) :: (NS ++ [(w.heap.size + 1, Obj.cells (arrB 32 leaf) 24 (0, 0)), (w.heap.size, Obj.cells (arrB 32 root) 24 (0, 0))])) := EK.out
      have hone := @EnvC.one _ _ _ hw22
      (refine wpG_val (v := .pointer (some (ad.add (k * 96)))) rfl rfl (fun u hu => idxSl_op Tryd.underlying68 aggStep.size HK.out u rfl rfl) ?_ hw22; intro K hK; go_big_quiet_op; go_big_quiet_on)
      (refine wpG_val (v := .agg st) rfl rfl (fun u hu => load_any_op u (HLD.out u (EnvX.sub hu (fun y hy => List.mem_cons_of_mem _ (List.mem_append_left _ hy)))) rfl) ?_ hw22; intro K hK; go_big_quiet_op; go_big_quiet_on)
      clear hone hw22
      refine wpG_nil ?_
      refine (hOp_fresh (R := fun x N => ∃ g, x = .pointer (some ⟨g, 0, none⟩) ∧ N = [(g, Obj.cells (arrB 96 []) 72 (0, 0))]) (M0 := ((g14, Obj.cells (arrB 32 (climbK (sideS F) leaf p k)) 24 (0, 0)) :: (NS ++ [(w.heap.size + 1, Obj.cells (arrB 32 leaf) 24 (0, 0)), (w.heap.size, Obj.cells (arrB 32 root) 24 (0, 0))]))) rfl rfl (fun _ h => h) (fun u hu => FAt_new (new_step _) u) ?_)
      rintro _ _ ⟨g16, rfl, rfl⟩ hf he23; intro K' hK'; go_big_quiet_op; go_big_quiet_on
      have HG16 := Lib.hid (hf _ (List.mem_singleton.2 rfl))
      clear hf
      change lexH _ _ _ _ _ _ ((g16, Obj.cells (arrB 96 []) 72 (0, 0)) :: ((g14, Obj.cells (arrB 32 (climbK (sideS F) leaf p k)) 24 (0, 0)) :: (NS ++ [(w.heap.size + 1, Obj.cells (arrB 32 leaf) 24 (0, 0)), (w.heap.size, Obj.cells (arrB 32 root) 24 (0, 0))])))
      refine (hOp_store rfl (g16) (st) rfl rfl HG16.out.1 72 ((arrB 96 [])) (List.Mem.head _) (by rw [HS96.out]; exact info_step) ((arrB_size _ _ (by simp)).trans HS96.out.symm) HS1.out ((g16, Obj.cells (st) 72 (0, 0)) :: ((g14, Obj.cells (arrB 32 (climbK (sideS F) leaf p k)) 24 (0, 0)) :: (NS ++ [(w.heap.size + 1, Obj.cells (arrB 32 leaf) 24 (0, 0)), (w.heap.size, Obj.cells (arrB 32 root) 24 (0, 0))]))) (List.forall_mem_cons.2 ⟨.inl rfl, fun y hy => .inr ⟨List.mem_cons_of_mem _ hy, HG16.out.2 y hy⟩⟩) ?_)
      intro he24
      intro u26 E2'
      have EX25 := Lib.hid E2'
      clear E2'
      go_upto_region 10 with (fail)
      refine wp_region_Hx (w0 := w1) [0, 1, 2] ((g16, Obj.cells (st) 72 (0, 0)) :: ((g14, Obj.cells (arrB 32 (climbK (sideS F) leaf p k)) 24 (0, 0)) :: (NS ++ [(w.heap.size + 1, Obj.cells (arrB 32 leaf) 24 (0, 0)), (w.heap.size, Obj.cells (arrB 32 root) 24 (0, 0))]))) rfl EX25.out ?_
      refine lexH_phase [0, 1] [2] ?_
      have hw27 : EnvX w1 _ ((g16, Obj.cells (st) 72 (0, 0)) :: ((g14, Obj.cells (arrB 32 (climbK (sideS F) leaf p k)) 24 (0, 0)) :: (NS ++ [(w.heap.size + 1, Obj.cells (arrB 32 leaf) 24 (0, 0)), (w.heap.size, Obj.cells (arrB 32 root) 24 (0, 0))]))) := EX25.out
      have hone := @EnvC.one _ _ _ hw27
      (refine wpG_op rfl rfl rfl ?_; intro K hK; go_big_quiet_op; go_big_quiet_on)
      (refine wpG_val (v := idv (climbK (sideS F) leaf p (k + 1))) rfl rfl (fun u hu => load_any_op u (box_idAt (k := 64) HNK.out hu (List.Mem.head _) HSUM.out) rfl) ?_ hw27; intro K hK; go_big_quiet_op; go_big_quiet_on)
      clear hone hw27
      refine wpG_nil ?_
      refine (hOp_putAt rfl (g14) (0) (idv (climbK (sideS F) leaf p (k + 1))) rfl rfl HG14.out.1 24 ((arrB 32 (climbK (sideS F) leaf p k))) (arrB 32 (climbK (sideS F) leaf p (k + 1))) (List.Mem.tail _ (List.Mem.head _)) (info26 _ (arrB_size _ _ (by rw [HNK.out]; omega))) (by show 0 + (arrB 32 (climbK (sideS F) leaf p (k + 1))).size ≤ _; rw [arrB_size _ _ (by rw [HNK.out]; omega), arrB_size _ _ (by rw [HCK.out]; omega)]; omega) (arrB_one _ _) (by show _ ++ (arrB 32 (climbK (sideS F) leaf p (k + 1))).toList ++ _ = _; rw [List.take_zero, List.nil_append, List.drop_of_length_le (by show _ ≤ 0 + (arrB 32 (climbK (sideS F) leaf p (k + 1))).size; rw [arrB_size _ _ (by rw [HNK.out]; omega), idA_cells HCK.out]; omega), List.append_nil]) ((g14, Obj.cells (arrB 32 (climbK (sideS F) leaf p (k + 1))) 24 (0, 0)) :: (NS ++ [(w.heap.size + 1, Obj.cells (arrB 32 leaf) 24 (0, 0)), (w.heap.size, Obj.cells (arrB 32 root) 24 (0, 0))])) (List.forall_mem_cons.2 ⟨.inl rfl, fun y hy => .inr ⟨List.mem_cons_of_mem _ (List.mem_cons_of_mem _ hy), (List.mem_append.1 hy).elim (fun h => fun e => (HFN.out y h).2 _ (List.Mem.head _) e.symm) (fun h => HG14.out.2 y h)⟩⟩) ?_)
      intro he28
      intro u30 E2'
      have EX29 := Lib.hid E2'
      clear E2'
      go_wp2
      go_roundw
      case rel => exact ⟨k + 1, by omega, by go_num, EX29⟩
      case measure => simp [intOf]; omega
    · obtain rfl : k = m := by omega
      have HTOP := Lib.hid (HCI.out k).1
      go_upto_region 12 with (fail)
      refine wp_region_Hx (w0 := w1) [0, 1, 2, 3] ((g14, Obj.cells (arrB 32 (climbK (sideS F) leaf p k)) 24 (0, 0)) :: (NS ++ [(w.heap.size + 1, Obj.cells (arrB 32 leaf) 24 (0, 0)), (w.heap.size, Obj.cells (arrB 32 root) 24 (0, 0))])) rfl EK.out ?_
      refine lexH_phase [0, 1, 2, 3] [] ?_
      have hw31 : EnvX w1 _ ((g14, Obj.cells (arrB 32 (climbK (sideS F) leaf p k)) 24 (0, 0)) :: (NS ++ [(w.heap.size + 1, Obj.cells (arrB 32 leaf) 24 (0, 0)), (w.heap.size, Obj.cells (arrB 32 root) 24 (0, 0))])) := EK.out
      have hone := @EnvC.one _ _ _ hw31
      (refine wpG_val (v := idv (climbK (sideS F) leaf p k)) rfl rfl (fun u hu => load_run_op u (box_load hu (List.Mem.head _) HTOP.out) rfl) ?_ hw31; intro K hK; go_big_quiet_op; go_big_quiet_on)
      (refine wpG_val (v := idv root) rfl rfl (fun u hu => load_run_op u (box_load hu (List.mem_cons_of_mem _ (List.mem_append_right _ (List.Mem.tail _ (List.Mem.head _)))) HR.out) rfl) ?_ hw31; intro K hK; go_big_quiet_op; go_big_quiet_on)
      (refine wpG_val (v := .bool (eqL (climbK (sideS F) leaf p k) root)) rfl rfl (fun u hu => eql_id_op HTOP.out HR.out u rfl rfl) ?_ hw31; intro K hK; go_big_quiet_op; go_big_quiet_on)
      (refine wpG_op rfl rfl rfl ?_; intro K hK; go_big_quiet_op; go_big_quiet_on)
      clear hone hw31
      refine wpG_nil ?_
      intro u33 E2'
      have EX32 := Lib.hid E2'
      clear E2'
      have HBB := Lib.hid (HB.out.trans (EX32.out.bel.mono HB.out.size))
      clear EX32
      go_wp2_with fail
      go_ret
      exact ⟨rfl, HBB.out⟩
theorem checkBy_any (root leaf : List Int) (n i : Int) (p : List (List Int)) (A : Option Addr) (m c : Nat) (w : World) (hr : isId root) (hx : isId leaf) (hn : I64 n) (hi : I64 i) (hm : p.length = m) (hm6 : m ≤ 1000000) (hI : isIds p) (hA : IdsIn w w.heap.size A p) (ht : Tables w) :
    Calls Tryd.prog 49 #[ndV, idv root, .int .i64 n, .int .i64 i, idv leaf, .slice A m c] w fun e w' => e = .returned (.bool (checkT root n i leaf p)) ∧ Below w.heap.size w w' := by
  by_cases h : n ≤ 64 ∧ 0 ≤ i ∧ i < n
  · obtain ⟨j, rfl⟩ := Int.eq_ofNat_of_zero_le h.2.1
    obtain ⟨q, rfl⟩ := Int.eq_ofNat_of_zero_le (show 0 ≤ n by omega)
    have hjq : j < q := by omega
    have hs := sideS_forks hjq
    have hsl : (sidesT q j).length = (forksT 0 q j).length := by rw [← hs]; unfold sideS; rw [List.length_map]
    by_cases hl : m = (forksT 0 q j).length
    · have hc : checkT root q j leaf p = eqL (climbK (sideS (forksT 0 q j)) leaf p m) root := by
        rw [hs]
        unfold checkT eqL topT
        rw [decide_eq_decide, Int.toNat_natCast, Int.toNat_natCast, hsl, ← hl]
        constructor
        · rintro ⟨_, _, _, _, _, h6⟩
          exact h6
        · intro h6
          exact ⟨by omega, by omega, by omega, by omega, hm, h6⟩
      rw [hc]
      exact checkBy_in root leaf q j p A m c w (by omega) hjq hm hl hr.1 hx hI hA ht
    · have hc : checkT root q j leaf p = false := check_len (by rw [hm, hsl]; exact hl)
      rw [hc]
      exact checkBy_len root leaf q j A m c w (by omega) hjq hm6 hl
  · have hc : checkT root n i leaf p = false := by
      unfold checkT
      rw [decide_eq_false_iff_not]
      exact fun k => h ⟨k.2.1, k.2.2.1, k.2.2.2.1⟩
    rw [hc]
    refine checkBy_odd root leaf n i A m c w hn hi ?_
    unfold standT
    rw [decide_eq_false_iff_not]
    exact h
set_option maxRecDepth 20000 in
set_option maxHeartbeats 4000000 in
theorem check_any (root leaf : List Int) (n i : Int) (p : List (List Int)) (A : Option Addr) (m c : Nat) (w : World) (hr : isId root) (hx : isId leaf) (hn : I64 n) (hi : I64 i) (hm : p.length = m) (hm6 : m ≤ 1000000) (hI : isIds p) (hA : IdsIn w w.heap.size A p) (ht : Tables w) :
    Calls Tryd.prog 33 #[idv root, .int .i64 n, .int .i64 i, idv leaf, .slice A m c] w fun e w' => e = .returned (.bool (checkT root n i leaf p)) ∧ Below w.heap.size w w' := by
  have HC : Hid (∀ u, EnvX w u [] → Calls Tryd.prog 49 #[ndV, idv root, .int .i64 n, .int .i64 i, idv leaf, .slice A m c] u fun e w' => e = .returned (.bool (checkT root n i leaf p)) ∧ Below u.heap.size u w') := fun u hu => checkBy_any root leaf n i p A m c u hr hx hn hi hm hm6 hI (hA.up (EnvX.bel hu)) (ht.below (EnvX.bel hu))
  have HR := Lib.hid hr.1
  have HX := Lib.hid hx.1
  have E1 : Hid (EnvX w ((w.alloc (.cells (arrB 32 root) 24)).alloc (.cells (arrB 32 leaf) 24)) [(w.heap.size + 1, Obj.cells (arrB 32 leaf) 24 (0, 0)), (w.heap.size, Obj.cells (arrB 32 root) 24 (0, 0))]) := (EnvX.start w).two _ _
  clear hr hx hn hi hI hA ht
  generalize checkT root n i leaf p = b at *
  unfold idv
  go_enter Tryd.func33, Tryd.ntmps33
  go_upto_region 1 with (fail)
  generalize (w.alloc (.cells (arrB 32 root) 24)).alloc (.cells (arrB 32 leaf) 24) = W at *
  refine wp_region_Hx (w0 := w) [0, 1, 2, 3, 4, 5, 6] [(w.heap.size + 1, Obj.cells (arrB 32 leaf) 24 (0, 0)), (w.heap.size, Obj.cells (arrB 32 root) 24 (0, 0))] rfl E1.out ?_
  refine lexH_phase [0, 1, 2, 3, 4, 5, 6] [] ?_
  have hw1 : EnvX w _ [(w.heap.size + 1, Obj.cells (arrB 32 leaf) 24 (0, 0)), (w.heap.size, Obj.cells (arrB 32 root) 24 (0, 0))] := E1.out
  have hone := @EnvC.one _ _ _ hw1
  (refine wpG_val (v := idv root) rfl rfl (fun u hu => load_run_op u (box_load hu (List.Mem.tail _ (List.Mem.head _)) HR.out) rfl) ?_ hw1; intro K hK; go_big_quiet_op; go_big_quiet_on)
  (refine wpG_op rfl rfl rfl ?_; intro K hK; go_big_quiet_op; go_big_quiet_on)
  (refine wpG_op rfl rfl rfl ?_; intro K hK; go_big_quiet_op; go_big_quiet_on)
  (refine wpG_val (v := idv leaf) rfl rfl (fun u hu => load_run_op u (box_load hu (List.Mem.head _) HX.out) rfl) ?_ hw1; intro K hK; go_big_quiet_op; go_big_quiet_on)
  (refine wpG_op rfl rfl rfl ?_; intro K hK; go_big_quiet_op; go_big_quiet_on)
  (refine wpG_call (f := 49) (args := #[ndV, idv root, .int .i64 n, .int .i64 i, idv leaf, .slice A m c]) (v := .bool b) rfl rfl rfl Tryd.func49 rfl rfl (fun u hu => HC.out u (EnvX.sub hu (fun _ h => by cases h))) ?_ hw1; intro K hK; go_big_quiet_op; go_big_quiet_on)
  (refine wpG_op rfl rfl rfl ?_; intro K hK; go_big_quiet_op; go_big_quiet_on)
  clear hone hw1
  refine wpG_nil ?_
  intro u3 E2'
  have EX2 := Lib.hid E2'
  clear E2'
  have HB := Lib.hid EX2.out.bel
  clear EX2
  go_wp2_with fail
  go_ret
  exact ⟨rfl, HB.out⟩
end Go.Proofs.YtbjojpgedcikiaaDoor

namespace Go.Proofs.YtbjojpgedcikiaaDoor
set_option maxRecDepth 8000
open Go.RowKit

theorem rows_load {ty : TypeId} {y z : Nat} (D : AggT ty y) {w : World} {B g : Nat} {L : List (List Value)} (h : CellsIn w B (some ⟨g, 0, none⟩) L.flatten) (hL : isRows z L) {i o : Nat} (hi : i < L.length) (ho : o + y ≤ z) (hy : 0 < y) {xs : List Value} (hxs : ((L.getD i []).drop o).take y = xs) :
    (loadVar ty ⟨g, 0 + i * z + o, none⟩).run Tryd.prog w = .ok (.agg xs.toArray) w := by
  have hg := hL.get hi
  have hfl := hL.flat_len
  have hp : 0 < L.length * z := Nat.mul_pos (by omega) (by omega)
  obtain ⟨ad, e, _, hc⟩ := h (by omega)
  cases e
  have hlen : xs.length = y := by rw [← hxs, List.length_take, List.length_drop, hg]; omega
  refine run_loadAgg D xs hlen (fun j v hv => ?_)
  have hj : j < y := by
    rcases Nat.lt_or_ge j y with h' | h'
    · exact h'
    · rw [List.getElem?_eq_none (by omega)] at hv
      cases hv
  have h1 := hc (i * z + (o + j)) v (by
    rw [hL.flat_get i (o + j) hi (by omega)]
    rw [← hxs, List.getElem?_take_of_lt hj, List.getElem?_drop] at hv
    exact hv)
  rw [Addr.add_mid] at h1 ⊢
  rw [show 0 + i * z + o + j = 0 + (i * z + (o + j)) by omega]
  exact h1
section
variable {a : Act} {dst : Option Tmp} {x y : Operand} {ty : TypeId} {pos : String} {after : Array Edge} {gd : Option (Nat × Bool)}
theorem idxSlG_op {t e : TypeId} {z : Nat} (hu : Tryd.prog.underlying t = some (.slice e)) (hz : (Tryd.prog.info? e).map (·.size) = some z) {g n c i : Nat} (hi : i < n) (u : World)
    (hx : a.eval x = .slice (some ⟨g, 0, none⟩) n c) (hy : a.eval y = .int .i64 (i : Int)) :
    (execOp a.eval ⟨dst, .indexAddr t x y, ty, pos, after, gd⟩).run Tryd.prog u = .ok (.value (.pointer (some ⟨g, 0 + i * z, none⟩))) u := by
  have h := idxSl_op (dst := dst) (ty := ty) (pos := pos) (after := after) (gd := gd) hu hz hi u hx hy
  rw [Addr.add_mid] at h
  exact h
theorem fieldSum_op {g o : Nat} (u : World) (hx : a.eval x = .pointer (some ⟨g, o, none⟩)) :
    (execOp a.eval ⟨dst, .fieldAddr 72 x 1, ty, pos, after, gd⟩).run Tryd.prog u = .ok (.value (.pointer (some ⟨g, o + 64, none⟩))) u := by
  unfold execOp
  simp only [hx]
  go_simp
theorem fieldSides_op {g o : Nat} (u : World) (hx : a.eval x = .pointer (some ⟨g, o, none⟩)) :
    (execOp a.eval ⟨dst, .fieldAddr 72 x 0, ty, pos, after, gd⟩).run Tryd.prog u = .ok (.value (.pointer (some ⟨g, o + 0, none⟩))) u := by
  unfold execOp
  simp only [hx]
  go_simp
end
theorem text_lr (r : Bool) (a c : List Int) : stepText (!r) a c = textT (leftV r a c) (rightV r a c) := by unfold stepText leftV rightV; cases r <;> rfl
theorem textT_len {a b : List Int} (ha : a.length = 32) (hb : b.length = 32) : (textT a b).length = 65 := by unfold textT; simp [ha, hb]
theorem lr_len {r : Bool} {a c : List Int} (ha : a.length = 32) (hc : c.length = 32) : (leftV r a c).length = 32 ∧ (rightV r a c).length = 32 := by
  unfold leftV rightV
  cases r
  · exact ⟨ha, hc⟩
  · exact ⟨hc, ha⟩
theorem fresh_row {e : TypeId} {z n : Nat} {xs : List Value} {v : Value} {N : Boxes} (h : FreshR e z n xs v N) (hn : 0 < n) : ∃ g cap cur, v = .slice (some ⟨g, 0, none⟩) n cap ∧ N = [(g, Obj.cells cur e (0, 0))] ∧ n ≤ cap ∧ cap ≤ maxLen ∧ cur.size = cap * z ∧ cur.toList.take (n * z) = xs := by
  rcases h with h | ⟨_, _, h0, _⟩
  · exact h
  · omega
set_option maxRecDepth 20000 in
set_option maxHeartbeats 4000000 in
theorem clash_a (i : Int) (leaf : List Int) (A A2 : Option Addr) (n c m c2 : Nat) (w : World) (hn : n ≤ 64) (hi : I64 i) (h : standT (n : Int) i = false) :
    Calls Tryd.prog 37 #[ndV, .slice A n c, .int .i64 i, idv leaf, .slice A2 m c2] w fun e w' => e = .returned (.tuple #[.slice none 0 0, .slice none 0 0, .bool false]) ∧ Below w.heap.size w w' := by
  have HPP := Lib.hid (fun u => pathBy_none i A n c u (by omega) hi.1 hi.2 h)
  have E1 : Hid (EnvX w (w.alloc (.cells (arrB 32 leaf) 24)) []) := ((EnvX.start w).new (Obj.cells (arrB 32 leaf) 24 (0, 0))).sub (fun _ h => by cases h)
  clear h hi
  unfold idv
  go_enter Tryd.func37, Tryd.ntmps37
  go_upto_region 1 with (fail)
  generalize w.alloc (.cells (arrB 32 leaf) 24) = W at *
  have HPW := Lib.hid (HPP.out W)
  go_wp2_with fail
  refine HPW.out.mono ?_
  rintro e w1 ⟨rfl, hb1⟩
  have HB := Lib.hid ((EnvX.below E1.out hb1).bel)
  have E2 : Hid (EnvX w1 w1 []) := EnvX.start w1
  clear hb1 E1 HPP HPW
  go_upto_region 2 with (fail)
  refine wp_region_H (w0 := w1) [] (by kernel_rfl) E2.out ?_
  refine anyH_phase [0, 1, 2, 3, 4, 5, 6, 7, 8, 9, 10, 11, 12, 13, 14, 15, 16, 17, 18, 19, 20, 21, 22] 0 rfl ⟨_, (EnvX.drew E2.out)⟩ (by kernel_rfl) ?_
  have hw1 : EnvX w1 _ [] := (EnvX.drew E2.out)
  have hone := @EnvC.one _ _ _ hw1
  (refine wpG_op rfl rfl rfl ?_; intro K hK; go_big_quiet_op; go_big_quiet_on)
  (refine wpG_op rfl rfl rfl ?_; intro K hK; go_big_quiet_op; go_big_quiet_on)
  (refine wpG_op rfl rfl rfl ?_; intro K hK; go_big_quiet_op; go_big_quiet_on)
  (refine wpG_skip rfl rfl ?_ hw1; intro K hK; go_big_quiet_op; go_big_quiet_on)
  (refine wpG_skip rfl rfl ?_ hw1; intro K hK; go_big_quiet_op; go_big_quiet_on)
  (refine wpG_skip rfl rfl ?_ hw1; intro K hK; go_big_quiet_op; go_big_quiet_on)
  (refine wpG_skip rfl rfl ?_ hw1; intro K hK; go_big_quiet_op; go_big_quiet_on)
  (refine wpG_skip rfl rfl ?_ hw1; intro K hK; go_big_quiet_op; go_big_quiet_on)
  (refine wpG_skip rfl rfl ?_ hw1; intro K hK; go_big_quiet_op; go_big_quiet_on)
  (refine wpG_op rfl rfl rfl ?_; intro K hK; go_big_quiet_op; go_big_quiet_on)
  (refine wpG_op rfl rfl rfl ?_; intro K hK; go_big_quiet_op; go_big_quiet_on)
  (refine wpG_skip rfl rfl ?_ hw1; intro K hK; go_big_quiet_op; go_big_quiet_on)
  (refine wpG_skip rfl rfl ?_ hw1; intro K hK; go_big_quiet_op; go_big_quiet_on)
  (refine wpG_skip rfl rfl ?_ hw1; intro K hK; go_big_quiet_op; go_big_quiet_on)
  (refine wpG_skip rfl rfl ?_ hw1; intro K hK; go_big_quiet_op; go_big_quiet_on)
  (refine wpG_skip rfl rfl ?_ hw1; intro K hK; go_big_quiet_op; go_big_quiet_on)
  (refine wpG_skip rfl rfl ?_ hw1; intro K hK; go_big_quiet_op; go_big_quiet_on)
  (refine wpG_skip rfl rfl ?_ hw1; intro K hK; go_big_quiet_op; go_big_quiet_on)
  (refine wpG_skip rfl rfl ?_ hw1; intro K hK; go_big_quiet_op; go_big_quiet_on)
  (refine wpG_skip rfl rfl ?_ hw1; intro K hK; go_big_quiet_op; go_big_quiet_on)
  (refine wpG_skip rfl rfl ?_ hw1; intro K hK; go_big_quiet_op; go_big_quiet_on)
  (refine wpG_skip rfl rfl ?_ hw1; intro K hK; go_big_quiet_op; go_big_quiet_on)
  (refine wpG_op rfl rfl rfl ?_; intro K hK; go_big_quiet_op; go_big_quiet_on)
  clear hone hw1
  refine wpG_nil ?_
  refine anyH_done (by kernel_rfl) ?_
  intro u3 E2'
  have EX2 := Lib.hid E2'
  clear E2'
  have HBL := Lib.hid (HB.out.trans (EX2.out.bel.mono HB.out.size))
  clear EX2
  go_wp2_with fail
  go_returns
  exact ⟨rfl, HBL.out⟩
set_option maxRecDepth 20000 in
set_option maxHeartbeats 4000000 in
theorem clash_b (l : List (List Int)) (i : Nat) (leaf : List Int) (p : List (List Int)) (A A2 : Option Addr) (n c m c2 : Nat) (w : World) (hl : l.length = n) (hn : n ≤ 64) (hnc : n ≤ c)
    (hm : p.length = m) (hm6 : m ≤ 1000000) (hI : isIds l) (hA : IdsIn w w.heap.size A l) (hJ : isIds p) (hA2 : IdsIn w w.heap.size A2 p) (hx : leaf.length = 32 ∧ ∀ b ∈ leaf, 0 ≤ b ∧ b ≤ 255) (ht : Tables w) (hin : i < n) (he : leaf = l.getD i []) :
    Calls Tryd.prog 37 #[ndV, .slice A n c, .int .i64 (i : Int), idv leaf, .slice A2 m c2] w fun e w' => ClashR l i leaf p w.heap.size e w' ∧ Below w.heap.size w w' := by
  have HX := Lib.hid hx
  have HI := Lib.hid (And.intro hI hA)
  have HJ := Lib.hid (And.intro hJ hA2)
  have HL := Lib.hid hl
  have HM := Lib.hid hm
  have HTT := Lib.hid ht
  have HLT := Lib.hid hin
  have HNN : Hid (n < 9223372036854775808) := by show _ < _; omega
  have hil : i < l.length := by omega
  have HPP : Hid (∀ u, EnvX w u [] → Calls Tryd.prog 42 #[ndV, .slice A n c, .int .i64 (i : Int)] u fun e w' => (∃ v, e = .returned (.tuple #[v, .bool true]) ∧ OwnI w' u.heap.size v (pathT l i)) ∧ Below u.heap.size u w') := fun u hu =>
    pathBy_some l i A n c u hl hn hin hnc hI (hA.up (EnvX.bel hu)) (ht.below (EnvX.bel hu))
  have HLI0 : Hid (∀ u, EnvX w u [] → ∃ ad, A = some ad ∧ (loadVar 24 (ad.add (i * 32))).run Tryd.prog u = .ok (idv (l.getD i [])) u) := fun u hu => (hA.up (EnvX.bel hu)).load hI hil
  obtain ⟨ad, rfl, -⟩ := HLI0.out w (EnvX.start w)
  have HY := Lib.hid (hI.get hil)
  have E1 : Hid (EnvX w (w.alloc (.cells (arrB 32 leaf) 24)) [(w.heap.size, Obj.cells (arrB 32 leaf) 24 (0, 0))]) := (EnvX.start w).new _
  have HEQ : Hid (eqL leaf (l.getD i []) = true) := decide_eq_true he
  have HNO : Hid (¬ (checkT (rootT l) l.length (i : Int) leaf p = true ∧ leaf ≠ l.getD (i : Int).toNat [])) := by show ¬ _; rw [Int.toNat_natCast]; exact fun h => h.2 he
  clear he
  clear hI hA hJ hA2 hx ht
  unfold idv
  go_enter Tryd.func37, Tryd.ntmps37
  go_upto_region 1 with (fail)
  generalize w.alloc (.cells (arrB 32 leaf) 24) = W at *
  have HPW := Lib.hid (HPP.out W (EnvX.sub E1.out (fun _ h => by cases h)))
  go_wp2_with fail
  refine HPW.out.mono ?_
  rintro e w1 ⟨⟨v, rfl, hv⟩, hb1⟩
  obtain ⟨Av, cv, rfl, hv1, hv2⟩ := hv.form
  have HV := Lib.hid hv.ids
  have HVL : Hid ((pathT l i).length = (forksT 0 n i).length) := by
    show _ = _
    have h := path_len n l i HL.out
    rw [← sideS_forks HLT.out] at h
    rw [h]
    unfold sideS
    rw [List.length_map]
  rw [HVL.out] at hv1 ⊢
  have E2 : Hid (EnvX w1 w1 [(w.heap.size, Obj.cells (arrB 32 leaf) 24 (0, 0))]) := ⟨Below.refl _ _, (EnvX.below E1.out hb1).box⟩
  have HB := Lib.hid ((EnvX.below E1.out hb1).bel)
  have HLI : Hid (∀ u, EnvX w1 u [] → (loadVar 24 (ad.add (i * 32))).run Tryd.prog u = .ok (idv (l.getD i [])) u) := fun u hu => by
    obtain ⟨ad2, e2, h2⟩ := HLI0.out u ⟨HB.out.trans ((EnvX.bel hu).mono HB.out.size), fun _ _ h => by cases h⟩
    cases e2
    exact h2
  have HRT : Hid (∀ u, EnvX w1 u [] → Calls Tryd.prog 47 #[ndV, .slice (some ad) n c] u fun e w' => e = .returned (idv (rootT l)) ∧ Below u.heap.size u w') := fun u hu => rootBy_any l (some ad) n c u HL.out (by omega) HI.out.1 ((HI.out.2.up HB.out).up (EnvX.bel hu)) ((HTT.out.below HB.out).below (EnvX.bel hu))
  have HCH : Hid (∀ u, EnvX w1 u [] → Calls Tryd.prog 49 #[ndV, idv (rootT l), .int .i64 (n : Int), .int .i64 (i : Int), idv leaf, .slice A2 m c2] u fun e w' => e = .returned (.bool (checkT (rootT l) n i leaf p)) ∧ Below u.heap.size u w') := fun u hu =>
    checkBy_any (rootT l) leaf n i p A2 m c2 u (root_id HI.out.1) HX.out ⟨by omega, by omega⟩ ⟨by omega, by omega⟩ HM.out hm6 HJ.out.1 ((HJ.out.2.up HB.out).up (EnvX.bel hu)) ((HTT.out.below HB.out).below (EnvX.bel hu))
  clear hb1 hv E1 HPP HPW HLI0
  go_upto_region 2 with (fail)
  refine wp_region_H (w0 := w1) [(w.heap.size, Obj.cells (arrB 32 leaf) 24 (0, 0))] (by kernel_rfl) E2.out ?_
  refine anyH_phase [0, 1, 2, 3, 4, 5, 6, 7, 8, 9, 10, 11, 12, 13, 14, 15, 16, 17, 18, 19, 20, 21, 22] 0 rfl ⟨_, (EnvX.drew E2.out)⟩ (by kernel_rfl) ?_
  have hw1 : EnvX w1 _ [(w.heap.size, Obj.cells (arrB 32 leaf) 24 (0, 0))] := (EnvX.drew E2.out)
  have hone := @EnvC.one _ _ _ hw1
  (refine wpG_op rfl rfl rfl ?_; intro K hK; go_big_quiet_op; go_big_quiet_on)
  (refine wpG_op rfl rfl rfl ?_; intro K hK; go_big_quiet_op; go_big_quiet_on)
  (refine wpG_op rfl rfl rfl ?_; intro K hK; go_big_quiet_op; go_big_quiet_on)
  (refine wpG_val (v := idv leaf) rfl rfl (fun u hu => load_run_op u (box_load hu (List.Mem.head _) HX.out.1) rfl) ?_ hw1; intro K hK; go_big_quiet_op; go_big_quiet_on)
  (refine wpG_op rfl rfl rfl ?_; intro K hK; go_big_quiet_op; go_big_quiet_on)
  (refine wpG_op rfl rfl rfl ?_; intro K hK; go_big_quiet_op; go_big_quiet_on)
  (refine wpG_val (v := .pointer (some (ad.add (i * 32)))) rfl rfl (fun u hu => idxSl_op Tryd.underlying22 aggId.size HLT.out u rfl rfl) ?_ hw1; intro K hK; go_big_quiet_op; go_big_quiet_on)
  (refine wpG_val (v := idv (l.getD i [])) rfl rfl (fun u hu => load_any_op u (HLI.out u (EnvX.sub hu (fun _ h => by cases h))) rfl) ?_ hw1; intro K hK; go_big_quiet_op; go_big_quiet_on)
  (refine wpG_val (v := .bool true) rfl rfl (fun u hu => eqlb_op HX.out.1 HY.out.1 HEQ.out u rfl rfl) ?_ hw1; intro K hK; go_big_quiet_op; go_big_quiet_on)
  (refine wpG_op rfl rfl rfl ?_; intro K hK; go_big_quiet_op; go_big_quiet_on)
  (refine wpG_op rfl rfl rfl ?_; intro K hK; go_big_quiet_op; go_big_quiet_on)
  (refine wpG_skip rfl rfl ?_ hw1; intro K hK; go_big_quiet_op; go_big_quiet_on)
  (refine wpG_skip rfl rfl ?_ hw1; intro K hK; go_big_quiet_op; go_big_quiet_on)
  (refine wpG_skip rfl rfl ?_ hw1; intro K hK; go_big_quiet_op; go_big_quiet_on)
  (refine wpG_skip rfl rfl ?_ hw1; intro K hK; go_big_quiet_op; go_big_quiet_on)
  (refine wpG_skip rfl rfl ?_ hw1; intro K hK; go_big_quiet_op; go_big_quiet_on)
  (refine wpG_skip rfl rfl ?_ hw1; intro K hK; go_big_quiet_op; go_big_quiet_on)
  (refine wpG_skip rfl rfl ?_ hw1; intro K hK; go_big_quiet_op; go_big_quiet_on)
  (refine wpG_skip rfl rfl ?_ hw1; intro K hK; go_big_quiet_op; go_big_quiet_on)
  (refine wpG_skip rfl rfl ?_ hw1; intro K hK; go_big_quiet_op; go_big_quiet_on)
  (refine wpG_skip rfl rfl ?_ hw1; intro K hK; go_big_quiet_op; go_big_quiet_on)
  (refine wpG_skip rfl rfl ?_ hw1; intro K hK; go_big_quiet_op; go_big_quiet_on)
  (refine wpG_op rfl rfl rfl ?_; intro K hK; go_big_quiet_op; go_big_quiet_on)
  clear hone hw1
  refine wpG_nil ?_
  refine anyH_done (by kernel_rfl) ?_
  intro u3 E2'
  have EX2 := Lib.hid E2'
  clear E2'
  have HBL := Lib.hid (HB.out.trans (EX2.out.bel.mono HB.out.size))
  clear EX2
  go_wp2_with fail
  go_returns
  exact ⟨ClashR.no HNO.out rfl, HBL.out⟩
end Go.Proofs.YtbjojpgedcikiaaDoor

namespace Go.Proofs.YtbjojpgedcikiaaDoor
set_option maxRecDepth 8000
open Go.RowKit

set_option maxRecDepth 20000 in
set_option maxHeartbeats 4000000 in
theorem clash_c (l : List (List Int)) (i : Nat) (leaf : List Int) (p : List (List Int)) (A A2 : Option Addr) (n c m c2 : Nat) (w : World) (hl : l.length = n) (hn : n ≤ 64) (hnc : n ≤ c)
    (hm : p.length = m) (hm6 : m ≤ 1000000) (hI : isIds l) (hA : IdsIn w w.heap.size A l) (hJ : isIds p) (hA2 : IdsIn w w.heap.size A2 p) (hx : leaf.length = 32 ∧ ∀ b ∈ leaf, 0 ≤ b ∧ b ≤ 255) (ht : Tables w) (hin : i < n) (he : leaf ≠ l.getD i []) (hb : checkT (rootT l) n i leaf p = false) :
    Calls Tryd.prog 37 #[ndV, .slice A n c, .int .i64 (i : Int), idv leaf, .slice A2 m c2] w fun e w' => ClashR l i leaf p w.heap.size e w' ∧ Below w.heap.size w w' := by
  have HX := Lib.hid hx
  have HI := Lib.hid (And.intro hI hA)
  have HJ := Lib.hid (And.intro hJ hA2)
  have HL := Lib.hid hl
  have HM := Lib.hid hm
  have HTT := Lib.hid ht
  have HLT := Lib.hid hin
  have HNN : Hid (n < 9223372036854775808) := by show _ < _; omega
  have hil : i < l.length := by omega
  have HPP : Hid (∀ u, EnvX w u [] → Calls Tryd.prog 42 #[ndV, .slice A n c, .int .i64 (i : Int)] u fun e w' => (∃ v, e = .returned (.tuple #[v, .bool true]) ∧ OwnI w' u.heap.size v (pathT l i)) ∧ Below u.heap.size u w') := fun u hu =>
    pathBy_some l i A n c u hl hn hin hnc hI (hA.up (EnvX.bel hu)) (ht.below (EnvX.bel hu))
  have HLI0 : Hid (∀ u, EnvX w u [] → ∃ ad, A = some ad ∧ (loadVar 24 (ad.add (i * 32))).run Tryd.prog u = .ok (idv (l.getD i [])) u) := fun u hu => (hA.up (EnvX.bel hu)).load hI hil
  obtain ⟨ad, rfl, -⟩ := HLI0.out w (EnvX.start w)
  have HY := Lib.hid (hI.get hil)
  have E1 : Hid (EnvX w (w.alloc (.cells (arrB 32 leaf) 24)) [(w.heap.size, Obj.cells (arrB 32 leaf) 24 (0, 0))]) := (EnvX.start w).new _
  have HEQ : Hid (eqL leaf (l.getD i []) = false) := decide_eq_false he
  have HBB := Lib.hid hb
  have HNO : Hid (¬ (checkT (rootT l) l.length (i : Int) leaf p = true ∧ leaf ≠ l.getD (i : Int).toNat [])) := by show ¬ _; rw [hl, hb]; simp
  clear he hb
  clear hI hA hJ hA2 hx ht
  unfold idv
  go_enter Tryd.func37, Tryd.ntmps37
  go_upto_region 1 with (fail)
  generalize w.alloc (.cells (arrB 32 leaf) 24) = W at *
  have HPW := Lib.hid (HPP.out W (EnvX.sub E1.out (fun _ h => by cases h)))
  go_wp2_with fail
  refine HPW.out.mono ?_
  rintro e w1 ⟨⟨v, rfl, hv⟩, hb1⟩
  obtain ⟨Av, cv, rfl, hv1, hv2⟩ := hv.form
  have HV := Lib.hid hv.ids
  have HVL : Hid ((pathT l i).length = (forksT 0 n i).length) := by
    show _ = _
    have h := path_len n l i HL.out
    rw [← sideS_forks HLT.out] at h
    rw [h]
    unfold sideS
    rw [List.length_map]
  rw [HVL.out] at hv1 ⊢
  have E2 : Hid (EnvX w1 w1 [(w.heap.size, Obj.cells (arrB 32 leaf) 24 (0, 0))]) := ⟨Below.refl _ _, (EnvX.below E1.out hb1).box⟩
  have HB := Lib.hid ((EnvX.below E1.out hb1).bel)
  have HLI : Hid (∀ u, EnvX w1 u [] → (loadVar 24 (ad.add (i * 32))).run Tryd.prog u = .ok (idv (l.getD i [])) u) := fun u hu => by
    obtain ⟨ad2, e2, h2⟩ := HLI0.out u ⟨HB.out.trans ((EnvX.bel hu).mono HB.out.size), fun _ _ h => by cases h⟩
    cases e2
    exact h2
  have HRT : Hid (∀ u, EnvX w1 u [] → Calls Tryd.prog 47 #[ndV, .slice (some ad) n c] u fun e w' => e = .returned (idv (rootT l)) ∧ Below u.heap.size u w') := fun u hu => rootBy_any l (some ad) n c u HL.out (by omega) HI.out.1 ((HI.out.2.up HB.out).up (EnvX.bel hu)) ((HTT.out.below HB.out).below (EnvX.bel hu))
  have HCH : Hid (∀ u, EnvX w1 u [] → Calls Tryd.prog 49 #[ndV, idv (rootT l), .int .i64 (n : Int), .int .i64 (i : Int), idv leaf, .slice A2 m c2] u fun e w' => e = .returned (.bool (checkT (rootT l) n i leaf p)) ∧ Below u.heap.size u w') := fun u hu =>
    checkBy_any (rootT l) leaf n i p A2 m c2 u (root_id HI.out.1) HX.out ⟨by omega, by omega⟩ ⟨by omega, by omega⟩ HM.out hm6 HJ.out.1 ((HJ.out.2.up HB.out).up (EnvX.bel hu)) ((HTT.out.below HB.out).below (EnvX.bel hu))
  clear hb1 hv E1 HPP HPW HLI0
  go_upto_region 2 with (fail)
  refine wp_region_H (w0 := w1) [(w.heap.size, Obj.cells (arrB 32 leaf) 24 (0, 0))] (by kernel_rfl) E2.out ?_
  refine anyH_phase [0, 1, 2, 3, 4, 5, 6, 7, 8, 9, 10, 11, 12, 13, 14, 15, 16, 17, 18, 19, 20, 21, 22] 0 rfl ⟨_, (EnvX.drew E2.out)⟩ (by kernel_rfl) ?_
  have hw1 : EnvX w1 _ [(w.heap.size, Obj.cells (arrB 32 leaf) 24 (0, 0))] := (EnvX.drew E2.out)
  have hone := @EnvC.one _ _ _ hw1
  (refine wpG_op rfl rfl rfl ?_; intro K hK; go_big_quiet_op; go_big_quiet_on)
  (refine wpG_op rfl rfl rfl ?_; intro K hK; go_big_quiet_op; go_big_quiet_on)
  (refine wpG_op rfl rfl rfl ?_; intro K hK; go_big_quiet_op; go_big_quiet_on)
  (refine wpG_val (v := idv leaf) rfl rfl (fun u hu => load_run_op u (box_load hu (List.Mem.head _) HX.out.1) rfl) ?_ hw1; intro K hK; go_big_quiet_op; go_big_quiet_on)
  (refine wpG_op rfl rfl rfl ?_; intro K hK; go_big_quiet_op; go_big_quiet_on)
  (refine wpG_op rfl rfl rfl ?_; intro K hK; go_big_quiet_op; go_big_quiet_on)
  (refine wpG_val (v := .pointer (some (ad.add (i * 32)))) rfl rfl (fun u hu => idxSl_op Tryd.underlying22 aggId.size HLT.out u rfl rfl) ?_ hw1; intro K hK; go_big_quiet_op; go_big_quiet_on)
  (refine wpG_val (v := idv (l.getD i [])) rfl rfl (fun u hu => load_any_op u (HLI.out u (EnvX.sub hu (fun _ h => by cases h))) rfl) ?_ hw1; intro K hK; go_big_quiet_op; go_big_quiet_on)
  (refine wpG_val (v := .bool false) rfl rfl (fun u hu => eqlb_op HX.out.1 HY.out.1 HEQ.out u rfl rfl) ?_ hw1; intro K hK; go_big_quiet_op; go_big_quiet_on)
  (refine wpG_op rfl rfl rfl ?_; intro K hK; go_big_quiet_op; go_big_quiet_on)
  (refine wpG_op rfl rfl rfl ?_; intro K hK; go_big_quiet_op; go_big_quiet_on)
  (refine wpG_op rfl rfl rfl ?_; intro K hK; go_big_quiet_op; go_big_quiet_on)
  (refine wpG_op rfl rfl rfl ?_; intro K hK; go_big_quiet_op; go_big_quiet_on)
  (refine wpG_op rfl rfl rfl ?_; intro K hK; go_big_quiet_op; go_big_quiet_on)
  (refine wpG_call (f := 47) (args := #[ndV, .slice (some ad) n c]) (v := idv (rootT l)) rfl rfl rfl Tryd.func47 rfl rfl (fun u hu => HRT.out u (EnvX.sub hu (fun _ h => by cases h))) ?_ hw1; intro K hK; go_big_quiet_op; go_big_quiet_on)
  (refine wpG_op rfl rfl rfl ?_; intro K hK; go_big_quiet_op; go_big_quiet_on)
  (refine wpG_val (v := .int .i64 (n : Int)) rfl rfl (fun u hu => len_op Tryd.underlying22 HNN.out u rfl) ?_ hw1; intro K hK; go_big_quiet_op; go_big_quiet_on)
  (refine wpG_op rfl rfl rfl ?_; intro K hK; go_big_quiet_op; go_big_quiet_on)
  (refine wpG_val (v := idv leaf) rfl rfl (fun u hu => load_run_op u (box_load hu (List.Mem.head _) HX.out.1) rfl) ?_ hw1; intro K hK; go_big_quiet_op; go_big_quiet_on)
  (refine wpG_op rfl rfl rfl ?_; intro K hK; go_big_quiet_op; go_big_quiet_on)
  (refine wpG_call (f := 49) (args := #[ndV, idv (rootT l), .int .i64 (n : Int), .int .i64 (i : Int), idv leaf, .slice A2 m c2]) (v := .bool false) rfl rfl rfl Tryd.func49 rfl rfl (fun u hu => (by have h := HCH.out u (EnvX.sub hu (fun _ h => by cases h)); rw [HBB.out] at h; exact h)) ?_ hw1; intro K hK; go_big_quiet_op; go_big_quiet_on)
  (refine wpG_op rfl rfl rfl ?_; intro K hK; go_big_quiet_op; go_big_quiet_on)
  (refine wpG_op rfl rfl rfl ?_; intro K hK; go_big_quiet_op; go_big_quiet_on)
  clear hone hw1
  refine wpG_nil ?_
  refine anyH_done (by kernel_rfl) ?_
  intro u3 E2'
  have EX2 := Lib.hid E2'
  clear E2'
  have HBL := Lib.hid (HB.out.trans (EX2.out.bel.mono HB.out.size))
  clear EX2
  go_wp2_with fail
  go_returns
  exact ⟨ClashR.no HNO.out rfl, HBL.out⟩
end Go.Proofs.YtbjojpgedcikiaaDoor
