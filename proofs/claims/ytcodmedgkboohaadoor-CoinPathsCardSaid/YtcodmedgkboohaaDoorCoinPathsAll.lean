/-
  PROVED: the law stepladderlaw09.CoinPaths answers true for every input, and leaves its arguments as they were.
  Conditions: the two package-level tables of package sha hold at the call what their initialisers lay; the card ties that to the text of the program (a pruned copy of the project: the packages that the roots of this seat load).
-/
import Derived.Test.YtcodmedgkboohaaDoorCoinPathsPa
namespace Go.Proofs.YtcodmedgkboohaaDoor
set_option maxRecDepth 8000
open Go.RowKit

theorem sideS_forks {n i : Nat} (hi : i < n) : sideS (forksT 0 n i) = sidesT n i := by
  have h := fork_sides n 0 i hi
  rw [Nat.zero_add] at h
  exact h
theorem new_step {dst : Option Tmp} {ty : TypeId} {pos : String} {after : Array Edge} {gd : Option (Nat × Bool)} (a : Act) : NewAt Tryd.prog ⟨dst, .alloc 107, ty, pos, after, gd⟩ a (.cells (arrB 96 []) 107 (0, 0)) :=
  new_of (z := .agg (arrB 96 [])) (n := 96) (by kernel_rfl) a
theorem st_size {F : List (Nat × Nat × Bool)} {x : List Int} {p : List (List Int)} {k : Nat} (hx : x.length = 32 ∧ ∀ b ∈ x, 0 ≤ b ∧ b ≤ 255) (hp : (p.getD k []).length = 32) : (stA F x p k).size = 96 := by
  unfold stA
  rw [Array.size_append, pair_size (climb_id _ _ _ hx k).1 hp, arrB_size _ _ (by rw [(climb_id _ _ _ hx (k + 1)).1]; omega)]
theorem st_rows {F : List (Nat × Nat × Bool)} {x : List Int} {p : List (List Int)} {n : Nat} (hx : x.length = 32 ∧ ∀ b ∈ x, 0 ≤ b ∧ b ≤ 255) (hI : isIds p) (hn : n ≤ p.length) : isRows 96 (stepsC F x p n) := by
  intro y hy
  obtain ⟨j, hj, rfl⟩ := List.mem_map.1 hy
  have hjk := List.mem_range.1 hj
  rw [Array.length_toList]
  exact st_size hx (hI.get (i := j) (by omega)).1
theorem st_len {F : List (Nat × Nat × Bool)} {x : List Int} {p : List (List Int)} {n : Nat} : (stepsC F x p n).length = n := by unfold stepsC; rw [List.length_map, List.length_range]
theorem st_get {F : List (Nat × Nat × Bool)} {x : List Int} {p : List (List Int)} {n k : Nat} (hk : k < n) : (stepsC F x p n).getD k [] = (stA F x p k).toList := by
  unfold stepsC
  rw [List.getD_eq_getElem?_getD, List.getElem?_map, List.getElem?_range hk]
  rfl
theorem st_one {F : List (Nat × Nat × Bool)} {x : List Int} {p : List (List Int)} {k : Nat} : (stA F x p k).all (·.oneCell') = true := by
  rw [Array.all_eq_true_iff_forall_mem]
  intro u hu
  unfold stA at hu
  rcases Array.mem_append.1 hu with h | h
  · exact pair_one u (by simpa using h)
  · exact arrB_all _ u (by simpa using h)
theorem st_sum {F : List (Nat × Nat × Bool)} {x : List Int} {p : List (List Int)} {k : Nat} (hx : x.length = 32 ∧ ∀ b ∈ x, 0 ≤ b ∧ b ≤ 255) (hp : (p.getD k []).length = 32) : ((stA F x p k).toList.drop 64).take 32 = (arrB 32 (climbK (sideS F) x p (k + 1))).toList := by
  have h1 := pair_size (r := (F.getD k (0, 0, false)).2.2) (climb_id (sideS F) x p hx k).1 hp
  have h2 := idA_cells (climb_id (sideS F) x p hx (k + 1)).1
  unfold stA
  rw [Array.toList_append, show 64 = (pairV (F.getD k (0, 0, false)).2.2 (climbK (sideS F) x p k) (p.getD k [])).toList.length by rw [Array.length_toList, h1], List.drop_left, List.take_of_length_le (by omega)]
theorem info_step : (Tryd.prog.info? 107).map (·.size) = some 96 := by kernel_rfl
theorem neq_intOp {m k : Int} {b : Bool} {a : Act} {dst : Option Tmp} {x y : Operand} {ty : TypeId} {pos : String} {after : Array Edge} {gd : Option (Nat × Bool)} (u : World) (hb : decide (m ≠ k) = b) (hx : a.eval x = .int .i64 m) (hy : a.eval y = .int .i64 k) :
    (execOp a.eval ⟨dst, .binOp .neq 3 x y 3, ty, pos, after, gd⟩).run Tryd.prog u = .ok (.value (.bool b)) u := by
  subst hb
  have h : (!(m == k)) = decide (m ≠ k) := by
    by_cases h : m = k <;> simp [h]
  unfold execOp
  simp only [hx, hy]
  go_simp
  first | exact h | rfl | skip
set_option maxRecDepth 20000 in
set_option maxHeartbeats 4000000 in
theorem checkBy_odd (root leaf : List Int) (n i : Int) (A : Option Addr) (m c : Nat) (w : World) (hn : I64 n) (hi : I64 i) (h : standT n i = false) :
    Calls Tryd.prog 49 #[ndV, idv root, .int .i64 n, .int .i64 i, idv leaf, .slice A m c] w fun e w' => e = .returned (.bool false) ∧ Below w.heap.size w w' := by
  have HST : Hid (∀ u, Calls Tryd.prog 61 #[.int .i64 n, .int .i64 i] u fun e w' => e = .returned (.bool false) ∧ Below u.heap.size u w') := fun u => by
    rw [← h]
    exact stand_any n i u hn.1 hn.2 hi.1 hi.2
  have E1 : Hid (EnvX w ((w.alloc (.cells (arrB 32 root) 37)).alloc (.cells (arrB 32 leaf) 37)) []) := ((EnvX.start w).two (Obj.cells (arrB 32 root) 37 (0, 0)) (Obj.cells (arrB 32 leaf) 37 (0, 0))).sub (fun _ h => by cases h)
  clear h hn hi
  unfold idv
  go_enter Tryd.func49, Tryd.ntmps49
  go_upto_region 1 with (fail)
  generalize (w.alloc (.cells (arrB 32 root) 37)).alloc (.cells (arrB 32 leaf) 37) = W at *
  refine wp_region_Hx (w0 := w) [0, 1, 2, 3] [] rfl E1.out ?_
  refine lexH_phase [0, 1, 2, 3] [] ?_
  have hw1 : EnvX w _ [] := E1.out
  have hone := @EnvC.one _ _ _ hw1
  (refine wpG_op rfl rfl rfl ?_; intro K hK; go_big_quiet_op; go_big_quiet_on)
  (refine wpG_op rfl rfl rfl ?_; intro K hK; go_big_quiet_op; go_big_quiet_on)
  (refine wpG_call (f := 61) (args := #[.int .i64 n, .int .i64 i]) (v := .bool false) rfl rfl rfl Tryd.func61 rfl rfl (fun u hu => HST.out u) ?_ hw1; intro K hK; go_big_quiet_op; go_big_quiet_on)
  (refine wpG_op rfl rfl rfl ?_; intro K hK; go_big_quiet_op; go_big_quiet_on)
  clear hone hw1
  refine wpG_nil ?_
  intro u3 E2'
  have EX2 := Lib.hid E2'
  clear E2'
  have HB := Lib.hid EX2.out.bel
  clear EX2
  go_wp2_with fail
  go_ret
  exact ⟨rfl, HB.out⟩
set_option maxRecDepth 20000 in
set_option maxHeartbeats 4000000 in
theorem checkBy_len (root leaf : List Int) (n i : Nat) (A : Option Addr) (m c : Nat) (w : World) (hn : n ≤ 64) (hi : i < n) (hm : m ≤ 1000000) (h : m ≠ (forksT 0 n i).length) :
    Calls Tryd.prog 49 #[ndV, idv root, .int .i64 (n : Int), .int .i64 (i : Int), idv leaf, .slice A m c] w fun e w' => e = .returned (.bool false) ∧ Below w.heap.size w w' := by
  have hst : standT (n : Int) (i : Int) = true := by unfold standT; simp only [decide_eq_true_eq]; omega
  have HST : Hid (∀ u, Calls Tryd.prog 61 #[.int .i64 (n : Int), .int .i64 (i : Int)] u fun e w' => e = .returned (.bool true) ∧ Below u.heap.size u w') := fun u => by
    rw [← hst]
    exact stand_any (n : Int) (i : Int) u (by omega) (by omega) (by omega) (by omega)
  have HFK := Lib.hid (fun u => forks_any n i u (by omega) (by omega) (by omega))
  have hfl := forks_len n 0 i
  generalize forksT 0 n i = F at *
  have HFLN : Hid (F.length < 9223372036854775808) := by show _ < _; omega
  have HMN : Hid (m < 9223372036854775808) := by show _ < _; omega
  have HNE : Hid (decide ((m : Int) ≠ (F.length : Int)) = true) := decide_eq_true (by omega)
  have E1 : Hid (EnvX w ((w.alloc (.cells (arrB 32 root) 37)).alloc (.cells (arrB 32 leaf) 37)) []) := ((EnvX.start w).two (Obj.cells (arrB 32 root) 37 (0, 0)) (Obj.cells (arrB 32 leaf) 37 (0, 0))).sub (fun _ h => by cases h)
  clear hst h hfl
  obtain ⟨K, hK⟩ : ∃ K, F.length = K := ⟨_, rfl⟩
  rw [hK] at HFLN HNE
  unfold idv
  go_enter Tryd.func49, Tryd.ntmps49
  go_upto_region 1 with (fail)
  generalize (w.alloc (.cells (arrB 32 root) 37)).alloc (.cells (arrB 32 leaf) 37) = W at *
  refine wp_region_Hx (w0 := w) [0, 1, 2, 3] [] rfl E1.out ?_
  refine lexH_phase [0, 1, 2, 3] [] ?_
  have hw1 : EnvX w _ [] := E1.out
  have hone := @EnvC.one _ _ _ hw1
  (refine wpG_op rfl rfl rfl ?_; intro K hK; go_big_quiet_op; go_big_quiet_on)
  (refine wpG_op rfl rfl rfl ?_; intro K hK; go_big_quiet_op; go_big_quiet_on)
  (refine wpG_call (f := 61) (args := #[.int .i64 (n : Int), .int .i64 (i : Int)]) (v := .bool true) rfl rfl rfl Tryd.func61 rfl rfl (fun u hu => HST.out u) ?_ hw1; intro K hK; go_big_quiet_op; go_big_quiet_on)
  (refine wpG_op rfl rfl rfl ?_; intro K hK; go_big_quiet_op; go_big_quiet_on)
  clear hone hw1
  refine wpG_nil ?_
  intro u3 E2'
  have EX2 := Lib.hid E2'
  clear E2'
  go_upto_region 3 with (fail)
  refine wp_region_Hx (w0 := w) [0, 1, 2, 3] [] rfl EX2.out ?_
  refine lexH_phase [0, 1] [2, 3] ?_
  have hw4 : EnvX w _ [] := EX2.out
  have hone := @EnvC.one _ _ _ hw4
  (refine wpG_op rfl rfl rfl ?_; intro K hK; go_big_quiet_op; go_big_quiet_on)
  (refine wpG_op rfl rfl rfl ?_; intro K hK; go_big_quiet_op; go_big_quiet_on)
  clear hone hw4
  refine wpG_nil ?_
  refine (hOp_fresh (R := FreshR 101 5 K (F.map fkV).flatten) (M0 := []) rfl rfl (fun _ h => h) (fun u hu => FAt_call (fid := 62) (xs := #[.tmp 21, .tmp 22]) (args := #[.int .i64 (n : Int), .int .i64 (i : Int)]) rfl Tryd.func62 rfl rfl u (by have h := callsR_fresh (HFK.out u); rw [hK] at h; exact h)) ?_)
  rintro x NU hF hf he5; intro K' hK'; go_big_quiet_op; go_big_quiet_on
  obtain ⟨Au, cu, rfl⟩ := FreshR.slice hF
  have HFU := Lib.hid hF
  clear hF
  clear hf
  change lexH _ _ _ _ _ _ (NU ++ [])
  refine lexH_phase [3] [] ?_
  have hw6 : EnvX w _ (NU ++ []) := he5.choose_spec
  have hone := @EnvC.one _ _ _ hw6
  (refine wpG_op rfl rfl rfl ?_; intro K hK; go_big_quiet_op; go_big_quiet_on)
  clear hone hw6
  refine wpG_nil ?_
  intro u8 E2'
  have EX7 := Lib.hid E2'
  clear E2'
  go_upto_region 4 with (fail)
  refine wp_region_Hx (w0 := w) [0, 1, 2, 3, 4] (NU ++ []) rfl EX7.out ?_
  refine lexH_phase [0, 1, 2, 3, 4] [] ?_
  have hw9 : EnvX w _ (NU ++ []) := EX7.out
  have hone := @EnvC.one _ _ _ hw9
  (refine wpG_op rfl rfl rfl ?_; intro K hK; go_big_quiet_op; go_big_quiet_on)
  (refine wpG_val (v := .int .i64 (m : Int)) rfl rfl (fun u hu => len_op Tryd.underlying44 HMN.out u rfl) ?_ hw9; intro K hK; go_big_quiet_op; go_big_quiet_on)
  (refine wpG_op rfl rfl rfl ?_; intro K hK; go_big_quiet_op; go_big_quiet_on)
  (refine wpG_val (v := .int .i64 (K : Int)) rfl rfl (fun u hu => len_op Tryd.underlying95 HFLN.out u rfl) ?_ hw9; intro K hK; go_big_quiet_op; go_big_quiet_on)
  (refine wpG_val (v := .bool true) rfl rfl (fun u hu => neq_intOp u HNE.out rfl rfl) ?_ hw9; intro K hK; go_big_quiet_op; go_big_quiet_on)
  clear hone hw9
  refine wpG_nil ?_
  intro u11 E2'
  have EX10 := Lib.hid E2'
  clear E2'
  have HB := Lib.hid EX10.out.bel
  clear EX10
  go_wp2_with fail
  go_ret
  exact ⟨rfl, HB.out⟩
set_option maxRecDepth 20000 in
set_option maxHeartbeats 4000000 in
theorem checkBy_in (root leaf : List Int) (n i : Nat) (p : List (List Int)) (A : Option Addr) (m c : Nat) (w : World) (hn : n ≤ 64) (hi : i < n) (hm : p.length = m) (hmF : m = (forksT 0 n i).length) (hr : root.length = 32) (hx : leaf.length = 32 ∧ ∀ b ∈ leaf, 0 ≤ b ∧ b ≤ 255) (hI : isIds p) (hA : IdsIn w w.heap.size A p) (ht : Tables w) :
    Calls Tryd.prog 49 #[ndV, idv root, .int .i64 (n : Int), .int .i64 (i : Int), idv leaf, .slice A m c] w fun e w' => e = .returned (.bool (eqL (climbK (sideS (forksT 0 n i)) leaf p m) root)) ∧ Below w.heap.size w w' := by
  have hst : standT (n : Int) (i : Int) = true := by unfold standT; simp only [decide_eq_true_eq]; omega
  have HST : Hid (∀ u, Calls Tryd.prog 61 #[.int .i64 (n : Int), .int .i64 (i : Int)] u fun e w' => e = .returned (.bool true) ∧ Below u.heap.size u w') := fun u => by
    rw [← hst]
    exact stand_any (n : Int) (i : Int) u (by omega) (by omega) (by omega) (by omega)
  have HFK := Lib.hid (fun u => forks_any n i u (by omega) (by omega) (by omega))
  have hfl := forks_len n 0 i
  generalize forksT 0 n i = F at *
  have hK : F.length = m := hmF.symm
  have hk64 : m ≤ 64 := by omega
  have HFLN : Hid (m < 9223372036854775808) := by show _ < _; omega
  have HNE : Hid (decide ((m : Int) ≠ (m : Int)) = false) := decide_eq_false (by omega)
  have HX := Lib.hid hx
  have HR := Lib.hid hr
  have HAI := Lib.hid (And.intro hA hI)
  have HM := Lib.hid hm
  have HTT := Lib.hid ht
  have E1 : Hid (EnvX w ((w.alloc (.cells (arrB 32 root) 37)).alloc (.cells (arrB 32 leaf) 37)) [(w.heap.size + 1, Obj.cells (arrB 32 leaf) 37 (0, 0)), (w.heap.size, Obj.cells (arrB 32 root) 37 (0, 0))]) := (EnvX.start w).two _ _
  clear hst hfl hx hr hI hA hm ht hmF
  unfold idv
  go_enter Tryd.func49, Tryd.ntmps49
  go_upto_region 1 with (fail)
  generalize (w.alloc (.cells (arrB 32 root) 37)).alloc (.cells (arrB 32 leaf) 37) = W at *
  refine wp_region_Hx (w0 := w) [0, 1, 2, 3] [(w.heap.size + 1, Obj.cells (arrB 32 leaf) 37 (0, 0)), (w.heap.size, Obj.cells (arrB 32 root) 37 (0, 0))] rfl E1.out ?_
  refine lexH_phase [0, 1, 2, 3] [] ?_
  have hw1 : EnvX w _ [(w.heap.size + 1, Obj.cells (arrB 32 leaf) 37 (0, 0)), (w.heap.size, Obj.cells (arrB 32 root) 37 (0, 0))] := E1.out
  have hone := @EnvC.one _ _ _ hw1
  (refine wpG_op rfl rfl rfl ?_; intro K hK; go_big_quiet_op; go_big_quiet_on)
  (refine wpG_op rfl rfl rfl ?_; intro K hK; go_big_quiet_op; go_big_quiet_on)
  (refine wpG_call (f := 61) (args := #[.int .i64 (n : Int), .int .i64 (i : Int)]) (v := .bool true) rfl rfl rfl Tryd.func61 rfl rfl (fun u hu => HST.out u) ?_ hw1; intro K hK; go_big_quiet_op; go_big_quiet_on)
  (refine wpG_op rfl rfl rfl ?_; intro K hK; go_big_quiet_op; go_big_quiet_on)
  clear hone hw1
  refine wpG_nil ?_
  intro u3 E2'
  have EX2 := Lib.hid E2'
  clear E2'
  go_upto_region 3 with (fail)
  refine wp_region_Hx (w0 := w) [0, 1, 2, 3] [(w.heap.size + 1, Obj.cells (arrB 32 leaf) 37 (0, 0)), (w.heap.size, Obj.cells (arrB 32 root) 37 (0, 0))] rfl EX2.out ?_
  refine lexH_phase [0, 1] [2, 3] ?_
  have hw4 : EnvX w _ [(w.heap.size + 1, Obj.cells (arrB 32 leaf) 37 (0, 0)), (w.heap.size, Obj.cells (arrB 32 root) 37 (0, 0))] := EX2.out
  have hone := @EnvC.one _ _ _ hw4
  (refine wpG_op rfl rfl rfl ?_; intro K hK; go_big_quiet_op; go_big_quiet_on)
  (refine wpG_op rfl rfl rfl ?_; intro K hK; go_big_quiet_op; go_big_quiet_on)
  clear hone hw4
  refine wpG_nil ?_
  refine (hOp_fresh (R := FreshR 101 5 m (F.map fkV).flatten) (M0 := [(w.heap.size + 1, Obj.cells (arrB 32 leaf) 37 (0, 0)), (w.heap.size, Obj.cells (arrB 32 root) 37 (0, 0))]) rfl rfl (fun _ h => h) (fun u hu => FAt_call (fid := 62) (xs := #[.tmp 21, .tmp 22]) (args := #[.int .i64 (n : Int), .int .i64 (i : Int)]) rfl Tryd.func62 rfl rfl u (by have h := callsR_fresh (HFK.out u); rw [hK] at h; exact h)) ?_)
  rintro x NU hF hf he5; intro K' hK'; go_big_quiet_op; go_big_quiet_on
  obtain ⟨Au, cu, rfl⟩ := FreshR.slice hF
  have HFU := Lib.hid hF
  clear hF
  clear hf
  change lexH _ _ _ _ _ _ (NU ++ ((w.heap.size + 1, Obj.cells (arrB 32 leaf) 37 (0, 0)) :: ((w.heap.size, Obj.cells (arrB 32 root) 37 (0, 0)) :: [])))
  refine lexH_phase [3] [] ?_
  have hw6 : EnvX w _ (NU ++ ((w.heap.size + 1, Obj.cells (arrB 32 leaf) 37 (0, 0)) :: ((w.heap.size, Obj.cells (arrB 32 root) 37 (0, 0)) :: []))) := he5.choose_spec
  have hone := @EnvC.one _ _ _ hw6
  (refine wpG_op rfl rfl rfl ?_; intro K hK; go_big_quiet_op; go_big_quiet_on)
  clear hone hw6
  refine wpG_nil ?_
  intro u8 E2'
  have EX7 := Lib.hid E2'
  clear E2'
  have HB := Lib.hid EX7.out.bel
  have CU := Lib.hid (own_cells (HFU.out.own (B := 0) (fk_rows F |>.flat_len |>.trans (by rw [List.length_map, hK])) (fun y hy => ⟨Nat.zero_le _, EnvX.box EX7.out _ _ (List.mem_append_left _ hy)⟩)))
  have EB : Hid (EnvX u8 u8 [(w.heap.size + 1, Obj.cells (arrB 32 leaf) 37 (0, 0)), (w.heap.size, Obj.cells (arrB 32 root) 37 (0, 0))]) := ⟨Below.refl _ _, fun g o hm => EnvX.box EX7.out g o (List.mem_append_right _ hm)⟩
  have HKL := Lib.hid hK
  clear EX7 HFU hK
  generalize u8 = w1 at *
  have HCL : Hid (∀ u, EnvX w1 u [] → Calls Tryd.prog 64 #[ndV, .slice Au m cu, idv leaf, .slice A m c] u fun e w' => (∃ v, e = .returned v ∧ w'.ownsRow u.heap.size 107 96 v m (stepsC F leaf p m).flatten) ∧ Below u.heap.size u w') := fun u hu =>
    climb_any F leaf p Au m cu A m c u HKL.out hk64 (CU.out.up (EnvX.bel hu)) HX.out HM.out (Nat.le_refl _) HAI.out.2 ((HAI.out.1.up HB.out).up (EnvX.bel hu)) ((HTT.out.below HB.out).below (EnvX.bel hu))
  go_upto_region 4 with (fail)
  refine wp_region_Hx (w0 := w1) [0, 1, 2, 3, 4] [(w.heap.size + 1, Obj.cells (arrB 32 leaf) 37 (0, 0)), (w.heap.size, Obj.cells (arrB 32 root) 37 (0, 0))] rfl EB.out ?_
  refine lexH_phase [0, 1, 2, 3, 4] [] ?_
  have hw9 : EnvX w1 _ [(w.heap.size + 1, Obj.cells (arrB 32 leaf) 37 (0, 0)), (w.heap.size, Obj.cells (arrB 32 root) 37 (0, 0))] := EB.out
  have hone := @EnvC.one _ _ _ hw9
  (refine wpG_op rfl rfl rfl ?_; intro K hK; go_big_quiet_op; go_big_quiet_on)
  (refine wpG_val (v := .int .i64 (m : Int)) rfl rfl (fun u hu => len_op Tryd.underlying44 HFLN.out u rfl) ?_ hw9; intro K hK; go_big_quiet_op; go_big_quiet_on)
  (refine wpG_op rfl rfl rfl ?_; intro K hK; go_big_quiet_op; go_big_quiet_on)
  (refine wpG_val (v := .int .i64 (m : Int)) rfl rfl (fun u hu => len_op Tryd.underlying95 HFLN.out u rfl) ?_ hw9; intro K hK; go_big_quiet_op; go_big_quiet_on)
  (refine wpG_val (v := .bool false) rfl rfl (fun u hu => neq_intOp u HNE.out rfl rfl) ?_ hw9; intro K hK; go_big_quiet_op; go_big_quiet_on)
  clear hone hw9
  refine wpG_nil ?_
  intro u11 E2'
  have EX10 := Lib.hid E2'
  clear E2'
  go_upto_region 6 with (fail)
  refine wp_region_Hx (w0 := w1) [0, 1, 2] [(w.heap.size + 1, Obj.cells (arrB 32 leaf) 37 (0, 0)), (w.heap.size, Obj.cells (arrB 32 root) 37 (0, 0))] rfl EX10.out ?_
  refine lexH_phase [0] [1, 2] ?_
  have hw12 : EnvX w1 _ [(w.heap.size + 1, Obj.cells (arrB 32 leaf) 37 (0, 0)), (w.heap.size, Obj.cells (arrB 32 root) 37 (0, 0))] := EX10.out
  have hone := @EnvC.one _ _ _ hw12
  (refine wpG_val (v := idv leaf) rfl rfl (fun u hu => load_run_op u (box_load hu (List.Mem.head _) HX.out.1) rfl) ?_ hw12; intro K hK; go_big_quiet_op; go_big_quiet_on)
  clear hone hw12
  refine wpG_nil ?_
  refine (hOp_fresh (R := fun x N => ∃ g, x = .pointer (some ⟨g, 0, none⟩) ∧ N = [(g, Obj.cells (arrB 32 []) 37 (0, 0))]) (M0 := [(w.heap.size + 1, Obj.cells (arrB 32 leaf) 37 (0, 0)), (w.heap.size, Obj.cells (arrB 32 root) 37 (0, 0))]) rfl rfl (fun _ h => h) (fun u hu => FAt_new (new_id _) u) ?_)
  rintro _ _ ⟨g14, rfl, rfl⟩ hf he13; intro K' hK'; go_big_quiet_op; go_big_quiet_on
  have HG14 := Lib.hid (hf _ (List.mem_singleton.2 rfl))
  clear hf
  change lexH _ _ _ _ _ _ [(g14, Obj.cells (arrB 32 []) 37 (0, 0)), (w.heap.size + 1, Obj.cells (arrB 32 leaf) 37 (0, 0)), (w.heap.size, Obj.cells (arrB 32 root) 37 (0, 0))]
  refine (hOp_store rfl (g14) (arrB 32 leaf) rfl rfl HG14.out.1 37 ((arrB 32 [])) (List.Mem.head _) (info26 _ (arrB_size _ _ (by rw [HX.out.1]; omega))) ((arrB_size _ _ (by simp)).trans (arrB_size _ _ (by rw [HX.out.1]; omega)).symm) (arrB_one _ _) [(g14, Obj.cells (arrB 32 leaf) 37 (0, 0)), (w.heap.size + 1, Obj.cells (arrB 32 leaf) 37 (0, 0)), (w.heap.size, Obj.cells (arrB 32 root) 37 (0, 0))] (List.forall_mem_cons.2 ⟨.inl rfl, fun y hy => .inr ⟨List.mem_cons_of_mem _ hy, HG14.out.2 y hy⟩⟩) ?_)
  intro he14
  intro u16 E2'
  have EX15 := Lib.hid E2'
  clear E2'
  go_upto_region 7 with (fail)
  refine wp_region_Hx (w0 := w1) [0, 1, 2, 3, 4, 5, 6] [(g14, Obj.cells (arrB 32 leaf) 37 (0, 0)), (w.heap.size + 1, Obj.cells (arrB 32 leaf) 37 (0, 0)), (w.heap.size, Obj.cells (arrB 32 root) 37 (0, 0))] rfl EX15.out ?_
  refine lexH_phase [0, 1, 2, 3] [4, 5, 6] ?_
  have hw17 : EnvX w1 _ [(g14, Obj.cells (arrB 32 leaf) 37 (0, 0)), (w.heap.size + 1, Obj.cells (arrB 32 leaf) 37 (0, 0)), (w.heap.size, Obj.cells (arrB 32 root) 37 (0, 0))] := EX15.out
  have hone := @EnvC.one _ _ _ hw17
  (refine wpG_op rfl rfl rfl ?_; intro K hK; go_big_quiet_op; go_big_quiet_on)
  (refine wpG_op rfl rfl rfl ?_; intro K hK; go_big_quiet_op; go_big_quiet_on)
  (refine wpG_val (v := idv leaf) rfl rfl (fun u hu => load_run_op u (box_load hu (List.Mem.tail _ (List.Mem.head _)) HX.out.1) rfl) ?_ hw17; intro K hK; go_big_quiet_op; go_big_quiet_on)
  (refine wpG_op rfl rfl rfl ?_; intro K hK; go_big_quiet_op; go_big_quiet_on)
  clear hone hw17
  refine wpG_nil ?_
  refine (hOp_fresh (R := FreshR 107 96 m (stepsC F leaf p m).flatten) (M0 := [(g14, Obj.cells (arrB 32 leaf) 37 (0, 0)), (w.heap.size + 1, Obj.cells (arrB 32 leaf) 37 (0, 0)), (w.heap.size, Obj.cells (arrB 32 root) 37 (0, 0))]) rfl rfl (fun _ h => h) (fun u hu => FAt_call (fid := 64) (xs := #[.tmp 30, .tmp 31, .tmp 32, .tmp 33]) (args := #[ndV, .slice Au m cu, idv leaf, .slice A m c]) rfl Tryd.func64 rfl rfl u (callsR_fresh (HCL.out u (EnvX.sub hu (fun _ h => by cases h))))) ?_)
  rintro x NS hF hf he18; intro K' hK'; go_big_quiet_op; go_big_quiet_on
  obtain ⟨As, cs, rfl⟩ := FreshR.slice hF
  have HFS := Lib.hid hF
  have HFN := Lib.hid hf
  clear hF
  clear hf
  change lexH _ _ _ _ _ _ (NS ++ ((g14, Obj.cells (arrB 32 leaf) 37 (0, 0)) :: ((w.heap.size + 1, Obj.cells (arrB 32 leaf) 37 (0, 0)) :: ((w.heap.size, Obj.cells (arrB 32 root) 37 (0, 0)) :: []))))
  refine lexH_phase [5, 6] [] ?_
  have hw19 : EnvX w1 _ (NS ++ ((g14, Obj.cells (arrB 32 leaf) 37 (0, 0)) :: ((w.heap.size + 1, Obj.cells (arrB 32 leaf) 37 (0, 0)) :: ((w.heap.size, Obj.cells (arrB 32 root) 37 (0, 0)) :: [])))) := he18.choose_spec
  have hone := @EnvC.one _ _ _ hw19
  (refine wpG_val (v := .int .i64 (m : Int)) rfl rfl (fun u hu => len_op Tryd.underlying104 HFLN.out u rfl) ?_ hw19; intro K hK; go_big_quiet_op; go_big_quiet_on)
  (refine wpG_op rfl rfl rfl ?_; intro K hK; go_big_quiet_op; go_big_quiet_on)
  clear hone hw19
  refine wpG_nil ?_
  intro u21 E2'
  have EX20 := Lib.hid E2'
  clear E2'
  have HSTR := Lib.hid (st_rows (F := F) (n := m) HX.out HAI.out.2 (by rw [HM.out]; exact Nat.le_refl _))
  have HCI := Lib.hid (climb_id (sideS F) leaf p HX.out)
  have EI : Hid (EnvX w1 u21 ((g14, Obj.cells (arrB 32 (climbK (sideS F) leaf p 0)) 37 (0, 0)) :: (NS ++ [(w.heap.size + 1, Obj.cells (arrB 32 leaf) 37 (0, 0)), (w.heap.size, Obj.cells (arrB 32 root) 37 (0, 0))]))) :=
    EnvX.sub EX20.out (List.forall_mem_cons.2 ⟨List.mem_append_right _ (List.Mem.head _), fun y hy => (List.mem_append.1 hy).elim (fun h => List.mem_append_left _ h) (fun h => List.mem_append_right _ (List.mem_cons_of_mem _ h))⟩)
  clear EX20
  go_upto_region 8 with (fail)
  go_loopw [36] (fun i u => ∃ k : Nat, k ≤ m ∧ i = .int .i64 k ∧ Hid (EnvX w1 u ((g14, Obj.cells (arrB 32 (climbK (sideS F) leaf p k)) 37 (0, 0)) :: (NS ++ [(w.heap.size + 1, Obj.cells (arrB 32 leaf) 37 (0, 0)), (w.heap.size, Obj.cells (arrB 32 root) 37 (0, 0))])))) (fun i _ => m - (intOf i).toNat)
  case atStart => exact ⟨0, by omega, rfl, EI⟩
  case round =>
    obtain ⟨k, hk, rfl, EK⟩ := hrel
    clear EI
    by_cases hlt : k < m
    · have hk2 : (k : Int) < (m : Int) := by omega
      have HK := Lib.hid hlt
      have hkl : k < (stepsC F leaf p m).length := by rw [st_len]; exact hlt
      have HOWN : Hid (∀ u, EnvX w1 u NS → u.ownsRow 0 107 96 (.slice As m cs) m (stepsC F leaf p m).flatten) := fun u hu => HFS.out.own (by rw [HSTR.out.flat_len, st_len]) (fun y hy => ⟨Nat.zero_le _, EnvX.box hu _ _ hy⟩)
      obtain ⟨ad, rfl, -⟩ := CellsIn.load aggStep (own_cells (HOWN.out wr (EnvX.sub EK.out (fun y hy => List.mem_cons_of_mem _ (List.mem_append_left _ hy))))) HSTR.out (by decide) (i := k) hkl
      have HLD : Hid (∀ u, EnvX w1 u NS → (loadVar 107 (ad.add (k * 96))).run Tryd.prog u = .ok (.agg (stA F leaf p k)) u) := fun u hu => by
        obtain ⟨ad2, e2, h2⟩ := CellsIn.load aggStep (own_cells (HOWN.out u hu)) HSTR.out (by decide) (i := k) hkl
        cases e2
        rw [st_get hlt, Array.toArray_toList] at h2
        exact h2
      have HPK : Hid ((p.getD k []).length = 32) := (HAI.out.2.get (by rw [HM.out]; exact hlt)).1
      have HS96 : Hid ((stA F leaf p k).size = 96) := st_size HX.out HPK.out
      have HSUM := Lib.hid (st_sum (F := F) HX.out HPK.out)
      have HNK := Lib.hid (HCI.out (k + 1)).1
      have HCK := Lib.hid (HCI.out k).1
      have HS1 := Lib.hid (st_one (F := F) (x := leaf) (p := p) (k := k))
      generalize stA F leaf p k = st at *
      go_upto_region 9 with (fail)
      refine wp_region_Hx (w0 := w1) [0, 1, 2, 3] ((g14, Obj.cells (arrB 32 (climbK (sideS F) leaf p k)) 37 (0, 0)) :: (NS ++ [(w.heap.size + 1, Obj.cells (arrB 32 leaf) 37 (0, 0)), (w.heap.size, Obj.cells (arrB 32 root) 37 (0, 0))])) rfl EK.out ?_
      refine lexH_phase [0, 1] [2, 3] ?_
      have hw22 : EnvX w1 _ ((g14, Obj.cells (arrB 32 (climbK (sideS F) leaf p k)) 37 (0, 0)) :: (NS ++ [(w.heap.size + 1, Obj.cells (arrB 32 leaf) 37 (0, 0)), (w.heap.size, Obj.cells (arrB 32 root) 37 (0, 0))])) := EK.out
      have hone := @EnvC.one _ _ _ hw22
      (refine wpG_val (v := .pointer (some (ad.add (k * 96)))) rfl rfl (fun u hu => idxSl_op Tryd.underlying104 aggStep.size HK.out u rfl rfl) ?_ hw22; intro K hK; go_big_quiet_op; go_big_quiet_on)
      (refine wpG_val (v := .agg st) rfl rfl (fun u hu => load_any_op u (HLD.out u (EnvX.sub hu (fun y hy => List.mem_cons_of_mem _ (List.mem_append_left _ hy)))) rfl) ?_ hw22; intro K hK; go_big_quiet_op; go_big_quiet_on)
      clear hone hw22
      refine wpG_nil ?_
      refine (hOp_fresh (R := fun x N => ∃ g, x = .pointer (some ⟨g, 0, none⟩) ∧ N = [(g, Obj.cells (arrB 96 []) 107 (0, 0))]) (M0 := ((g14, Obj.cells (arrB 32 (climbK (sideS F) leaf p k)) 37 (0, 0)) :: (NS ++ [(w.heap.size + 1, Obj.cells (arrB 32 leaf) 37 (0, 0)), (w.heap.size, Obj.cells (arrB 32 root) 37 (0, 0))]))) rfl rfl (fun _ h => h) (fun u hu => FAt_new (new_step _) u) ?_)
      rintro _ _ ⟨g16, rfl, rfl⟩ hf he23; intro K' hK'; go_big_quiet_op; go_big_quiet_on
      have HG16 := Lib.hid (hf _ (List.mem_singleton.2 rfl))
      clear hf
      change lexH _ _ _ _ _ _ ((g16, Obj.cells (arrB 96 []) 107 (0, 0)) :: ((g14, Obj.cells (arrB 32 (climbK (sideS F) leaf p k)) 37 (0, 0)) :: (NS ++ [(w.heap.size + 1, Obj.cells (arrB 32 leaf) 37 (0, 0)), (w.heap.size, Obj.cells (arrB 32 root) 37 (0, 0))])))
      refine (hOp_store rfl (g16) (st) rfl rfl HG16.out.1 107 ((arrB 96 [])) (List.Mem.head _) (by rw [HS96.out]; exact info_step) ((arrB_size _ _ (by simp)).trans HS96.out.symm) HS1.out ((g16, Obj.cells (st) 107 (0, 0)) :: ((g14, Obj.cells (arrB 32 (climbK (sideS F) leaf p k)) 37 (0, 0)) :: (NS ++ [(w.heap.size + 1, Obj.cells (arrB 32 leaf) 37 (0, 0)), (w.heap.size, Obj.cells (arrB 32 root) 37 (0, 0))]))) (List.forall_mem_cons.2 ⟨.inl rfl, fun y hy => .inr ⟨List.mem_cons_of_mem _ hy, HG16.out.2 y hy⟩⟩) ?_)
      intro he24
      intro u26 E2'
      have EX25 := Lib.hid E2'
      clear E2'
      go_upto_region 10 with (fail)
      refine wp_region_Hx (w0 := w1) [0, 1, 2] ((g16, Obj.cells (st) 107 (0, 0)) :: ((g14, Obj.cells (arrB 32 (climbK (sideS F) leaf p k)) 37 (0, 0)) :: (NS ++ [(w.heap.size + 1, Obj.cells (arrB 32 leaf) 37 (0, 0)), (w.heap.size, Obj.cells (arrB 32 root) 37 (0, 0))]))) rfl EX25.out ?_
      refine lexH_phase [0, 1] [2] ?_
      have hw27 : EnvX w1 _ ((g16, Obj.cells (st) 107 (0, 0)) :: ((g14, Obj.cells (arrB 32 (climbK (sideS F) leaf p k)) 37 (0, 0)) :: (NS ++ [(w.heap.size + 1, Obj.cells (arrB 32 leaf) 37 (0, 0)), (w.heap.size, Obj.cells (arrB 32 root) 37 (0, 0))]))) := EX25.out
      have hone := @EnvC.one _ _ _ hw27
      (refine wpG_op rfl rfl rfl ?_; intro K hK; go_big_quiet_op; go_big_quiet_on)
      (refine wpG_val (v := idv (climbK (sideS F) leaf p (k + 1))) rfl rfl (fun u hu => load_any_op u (box_idAt (k := 64) HNK.out hu (List.Mem.head _) HSUM.out) rfl) ?_ hw27; intro K hK; go_big_quiet_op; go_big_quiet_on)
      clear hone hw27
      refine wpG_nil ?_
      refine (hOp_putAt rfl (g14) (0) (idv (climbK (sideS F) leaf p (k + 1))) rfl rfl HG14.out.1 37 ((arrB 32 (climbK (sideS F) leaf p k))) (arrB 32 (climbK (sideS F) leaf p (k + 1))) (List.Mem.tail _ (List.Mem.head _)) (info26 _ (arrB_size _ _ (by rw [HNK.out]; omega))) (by show 0 + (arrB 32 (climbK (sideS F) leaf p (k + 1))).size ≤ _; rw [arrB_size _ _ (by rw [HNK.out]; omega), arrB_size _ _ (by rw [HCK.out]; omega)]; omega) (arrB_one _ _) (by show _ ++ (arrB 32 (climbK (sideS F) leaf p (k + 1))).toList ++ _ = _; rw [List.take_zero, List.nil_append, List.drop_of_length_le (by show _ ≤ 0 + (arrB 32 (climbK (sideS F) leaf p (k + 1))).size; rw [arrB_size _ _ (by rw [HNK.out]; omega), idA_cells HCK.out]; omega), List.append_nil]) ((g14, Obj.cells (arrB 32 (climbK (sideS F) leaf p (k + 1))) 37 (0, 0)) :: (NS ++ [(w.heap.size + 1, Obj.cells (arrB 32 leaf) 37 (0, 0)), (w.heap.size, Obj.cells (arrB 32 root) 37 (0, 0))])) (List.forall_mem_cons.2 ⟨.inl rfl, fun y hy => .inr ⟨List.mem_cons_of_mem _ (List.mem_cons_of_mem _ hy), (List.mem_append.1 hy).elim (fun h => fun e => (HFN.out y h).2 _ (List.Mem.head _) e.symm) (fun h => HG14.out.2 y h)⟩⟩) ?_)
      intro he28
      intro u30 E2'
      have EX29 := Lib.hid E2'
      clear E2'
      go_wp2
      go_roundw
      case rel => exact ⟨k + 1, by omega, by go_num, EX29⟩
      case measure => simp [intOf]; omega
    · obtain rfl : k = m := by omega
      have HTOP := Lib.hid (HCI.out k).1
      go_upto_region 12 with (fail)
      refine wp_region_Hx (w0 := w1) [0, 1, 2, 3] ((g14, Obj.cells (arrB 32 (climbK (sideS F) leaf p k)) 37 (0, 0)) :: (NS ++ [(w.heap.size + 1, Obj.cells (arrB 32 leaf) 37 (0, 0)), (w.heap.size, Obj.cells (arrB 32 root) 37 (0, 0))])) rfl EK.out ?_
      refine lexH_phase [0, 1, 2, 3] [] ?_
      have hw31 : EnvX w1 _ ((g14, Obj.cells (arrB 32 (climbK (sideS F) leaf p k)) 37 (0, 0)) :: (NS ++ [(w.heap.size + 1, Obj.cells (arrB 32 leaf) 37 (0, 0)), (w.heap.size, Obj.cells (arrB 32 root) 37 (0, 0))])) := EK.out
      have hone := @EnvC.one _ _ _ hw31
      (refine wpG_val (v := idv (climbK (sideS F) leaf p k)) rfl rfl (fun u hu => load_run_op u (box_load hu (List.Mem.head _) HTOP.out) rfl) ?_ hw31; intro K hK; go_big_quiet_op; go_big_quiet_on)
      (refine wpG_val (v := idv root) rfl rfl (fun u hu => load_run_op u (box_load hu (List.mem_cons_of_mem _ (List.mem_append_right _ (List.Mem.tail _ (List.Mem.head _)))) HR.out) rfl) ?_ hw31; intro K hK; go_big_quiet_op; go_big_quiet_on)
      (refine wpG_val (v := .bool (eqL (climbK (sideS F) leaf p k) root)) rfl rfl (fun u hu => eql_id_op HTOP.out HR.out u rfl rfl) ?_ hw31; intro K hK; go_big_quiet_op; go_big_quiet_on)
      (refine wpG_op rfl rfl rfl ?_; intro K hK; go_big_quiet_op; go_big_quiet_on)
      clear hone hw31
      refine wpG_nil ?_
      intro u33 E2'
      have EX32 := Lib.hid E2'
      clear E2'
      have HBB := Lib.hid (HB.out.trans (EX32.out.bel.mono HB.out.size))
      clear EX32
      go_wp2_with fail
      go_ret
      exact ⟨rfl, HBB.out⟩
theorem checkBy_any (root leaf : List Int) (n i : Int) (p : List (List Int)) (A : Option Addr) (m c : Nat) (w : World) (hr : isId root) (hx : isId leaf) (hn : I64 n) (hi : I64 i) (hm : p.length = m) (hm6 : m ≤ 1000000) (hI : isIds p) (hA : IdsIn w w.heap.size A p) (ht : Tables w) :
    Calls Tryd.prog 49 #[ndV, idv root, .int .i64 n, .int .i64 i, idv leaf, .slice A m c] w fun e w' => e = .returned (.bool (checkT root n i leaf p)) ∧ Below w.heap.size w w' := by
  by_cases h : n ≤ 64 ∧ 0 ≤ i ∧ i < n
  · obtain ⟨j, rfl⟩ := Int.eq_ofNat_of_zero_le h.2.1
    obtain ⟨q, rfl⟩ := Int.eq_ofNat_of_zero_le (show 0 ≤ n by omega)
    have hjq : j < q := by omega
    have hs := sideS_forks hjq
    have hsl : (sidesT q j).length = (forksT 0 q j).length := by rw [← hs]; unfold sideS; rw [List.length_map]
    by_cases hl : m = (forksT 0 q j).length
    · have hc : checkT root q j leaf p = eqL (climbK (sideS (forksT 0 q j)) leaf p m) root := by
        rw [hs]
        unfold checkT eqL topT
        rw [decide_eq_decide, Int.toNat_natCast, Int.toNat_natCast, hsl, ← hl]
        constructor
        · rintro ⟨_, _, _, _, _, h6⟩
          exact h6
        · intro h6
          exact ⟨by omega, by omega, by omega, by omega, hm, h6⟩
      rw [hc]
      exact checkBy_in root leaf q j p A m c w (by omega) hjq hm hl hr.1 hx hI hA ht
    · have hc : checkT root q j leaf p = false := check_len (by rw [hm, hsl]; exact hl)
      rw [hc]
      exact checkBy_len root leaf q j A m c w (by omega) hjq hm6 hl
  · have hc : checkT root n i leaf p = false := by
      unfold checkT
      rw [decide_eq_false_iff_not]
      exact fun k => h ⟨k.2.1, k.2.2.1, k.2.2.2.1⟩
    rw [hc]
    refine checkBy_odd root leaf n i A m c w hn hi ?_
    unfold standT
    rw [decide_eq_false_iff_not]
    exact h
set_option maxRecDepth 20000 in
set_option maxHeartbeats 4000000 in
theorem check_any (root leaf : List Int) (n i : Int) (p : List (List Int)) (A : Option Addr) (m c : Nat) (w : World) (hr : isId root) (hx : isId leaf) (hn : I64 n) (hi : I64 i) (hm : p.length = m) (hm6 : m ≤ 1000000) (hI : isIds p) (hA : IdsIn w w.heap.size A p) (ht : Tables w) :
    Calls Tryd.prog 26 #[idv root, .int .i64 n, .int .i64 i, idv leaf, .slice A m c] w fun e w' => e = .returned (.bool (checkT root n i leaf p)) ∧ Below w.heap.size w w' := by
  have HC : Hid (∀ u, EnvX w u [] → Calls Tryd.prog 49 #[ndV, idv root, .int .i64 n, .int .i64 i, idv leaf, .slice A m c] u fun e w' => e = .returned (.bool (checkT root n i leaf p)) ∧ Below u.heap.size u w') := fun u hu => checkBy_any root leaf n i p A m c u hr hx hn hi hm hm6 hI (hA.up (EnvX.bel hu)) (ht.below (EnvX.bel hu))
  have HR := Lib.hid hr.1
  have HX := Lib.hid hx.1
  have E1 : Hid (EnvX w ((w.alloc (.cells (arrB 32 root) 37)).alloc (.cells (arrB 32 leaf) 37)) [(w.heap.size + 1, Obj.cells (arrB 32 leaf) 37 (0, 0)), (w.heap.size, Obj.cells (arrB 32 root) 37 (0, 0))]) := (EnvX.start w).two _ _
  clear hr hx hn hi hI hA ht
  generalize checkT root n i leaf p = b at *
  unfold idv
  go_enter Tryd.func26, Tryd.ntmps26
  go_upto_region 1 with (fail)
  generalize (w.alloc (.cells (arrB 32 root) 37)).alloc (.cells (arrB 32 leaf) 37) = W at *
  refine wp_region_Hx (w0 := w) [0, 1, 2, 3, 4, 5, 6] [(w.heap.size + 1, Obj.cells (arrB 32 leaf) 37 (0, 0)), (w.heap.size, Obj.cells (arrB 32 root) 37 (0, 0))] rfl E1.out ?_
  refine lexH_phase [0, 1, 2, 3, 4, 5, 6] [] ?_
  have hw1 : EnvX w _ [(w.heap.size + 1, Obj.cells (arrB 32 leaf) 37 (0, 0)), (w.heap.size, Obj.cells (arrB 32 root) 37 (0, 0))] := E1.out
  have hone := @EnvC.one _ _ _ hw1
  (refine wpG_val (v := idv root) rfl rfl (fun u hu => load_run_op u (box_load hu (List.Mem.tail _ (List.Mem.head _)) HR.out) rfl) ?_ hw1; intro K hK; go_big_quiet_op; go_big_quiet_on)
  (refine wpG_op rfl rfl rfl ?_; intro K hK; go_big_quiet_op; go_big_quiet_on)
  (refine wpG_op rfl rfl rfl ?_; intro K hK; go_big_quiet_op; go_big_quiet_on)
  (refine wpG_val (v := idv leaf) rfl rfl (fun u hu => load_run_op u (box_load hu (List.Mem.head _) HX.out) rfl) ?_ hw1; intro K hK; go_big_quiet_op; go_big_quiet_on)
  (refine wpG_op rfl rfl rfl ?_; intro K hK; go_big_quiet_op; go_big_quiet_on)
  (refine wpG_call (f := 49) (args := #[ndV, idv root, .int .i64 n, .int .i64 i, idv leaf, .slice A m c]) (v := .bool b) rfl rfl rfl Tryd.func49 rfl rfl (fun u hu => HC.out u (EnvX.sub hu (fun _ h => by cases h))) ?_ hw1; intro K hK; go_big_quiet_op; go_big_quiet_on)
  (refine wpG_op rfl rfl rfl ?_; intro K hK; go_big_quiet_op; go_big_quiet_on)
  clear hone hw1
  refine wpG_nil ?_
  intro u3 E2'
  have EX2 := Lib.hid E2'
  clear E2'
  have HB := Lib.hid EX2.out.bel
  clear EX2
  go_wp2_with fail
  go_ret
  exact ⟨rfl, HB.out⟩
end Go.Proofs.YtcodmedgkboohaaDoor

namespace Go.Proofs.YtcodmedgkboohaaDoor
set_option maxRecDepth 8000
open Go.RowKit

set_option maxRecDepth 20000 in
set_option maxHeartbeats 8000000 in
theorem law_pathsX_few (H : CoinC) (l : List TxM) (q : Int) (A : Option Addr) (n c : Nat) (w : World) (hq : I64 q) (hl : l.length = n) (hnc : n ≤ c) (hcm : c ≤ maxLen) (kl : TxsIn w A l) (ht : Tables w) (k1 : fewAll l 8 = false) :
    Calls Tryd.prog 7 #[.slice A n c, .int .i64 q] w fun e w' => e = .returned (.bool true) ∧ Below w.heap.size w w' := by
  have HM63 : Hid (n < 9223372036854775808) := by show _ < _; unfold maxLen at hcm; omega
  have HL3 := Lib.hid (And.intro hl (And.intro hnc hcm))
  have HF_l : Hid (fewAll l 8 = false) := k1
  clear k1
  have E0 : Hid (EnvX w w []) := EnvX.start w
  have HAW := Lib.hid (cawake_any H w (ht.below (EnvX.bel E0.out)))
  have HT := Lib.hid ht
  have HH := Lib.hid H
  have J_kl := Lib.hid kl
  clear ht H kl hq hl hnc hcm
  go_enter Tryd.func7, Tryd.ntmps7
  go_upto_region 1 with (fail)
  go_wp2_with fail
  refine HAW.out.mono ?_
  rintro e w1 ⟨rfl, hb1⟩
  have HB1 := Lib.hid (EnvX.below E0.out hb1).bel
  have E1 : Hid (EnvX w1 w1 []) := ⟨Below.refl _ _, (EnvX.below E0.out hb1).box⟩
  have HT1 := Lib.hid (HT.out.below HB1.out)
  have K_kl := Lib.hid (J_kl.out.up HB1.out)
  clear hb1 E0 HAW HT J_kl
  go_upto_region 2 with (fail)
  refine wp_region_Hx (w0 := w1) [0, 1, 2] [] rfl E1.out ?_
  refine lexH_phase [0, 1, 2] [] ?_
  have hw1 : EnvX w1 _ [] := E1.out
  have hone := @EnvC.one _ _ _ hw1
  (refine wpG_op rfl rfl rfl ?_; intro K hK; go_big_quiet_op; go_big_quiet_on)
  (refine wpG_call (f := 11) (args := #[.slice A n c, .int .i64 8]) (v := .bool false) rfl rfl rfl Tryd.func11 rfl rfl (fun u hu => by have h1 := fewall_any l 8 A n c u HL3.out.1 HM63.out (K_kl.out.up (EnvX.bel hu)); rwa [HF_l.out] at h1) ?_ hw1; intro K hK; go_big_quiet_op; go_big_quiet_on)
  (refine wpG_op rfl rfl rfl ?_; intro K hK; go_big_quiet_op; go_big_quiet_on)
  clear hone hw1
  refine wpG_nil ?_
  intro u3 E2'
  have EX2 := Lib.hid E2'
  clear E2'
  go_upto_region 3 with (fail)
  refine wp_region_Hx (w0 := w1) [0, 1, 2, 3, 4, 5, 6, 7, 8, 9, 10, 11, 12, 13, 14, 15] [] rfl EX2.out ?_
  refine lexH_phase [0, 1, 2, 3, 4, 5, 6, 7, 8, 9, 10, 11, 12, 13, 14, 15] [] ?_
  have hw4 : EnvX w1 _ [] := EX2.out
  have hone := @EnvC.one _ _ _ hw4
  (refine wpG_op rfl rfl rfl ?_; intro K hK; go_big_quiet_op; go_big_quiet_on)
  (refine wpG_op rfl rfl rfl ?_; intro K hK; go_big_quiet_op; go_big_quiet_on)
  (refine wpG_op rfl rfl rfl ?_; intro K hK; go_big_quiet_op; go_big_quiet_on)
  (refine wpG_op rfl rfl rfl ?_; intro K hK; go_big_quiet_op; go_big_quiet_on)
  (refine wpG_op rfl rfl rfl ?_; intro K hK; go_big_quiet_op; go_big_quiet_on)
  (refine wpG_op rfl rfl rfl ?_; intro K hK; go_big_quiet_op; go_big_quiet_on)
  (refine wpG_op rfl rfl rfl ?_; intro K hK; go_big_quiet_op; go_big_quiet_on)
  (refine wpG_skip rfl rfl ?_ hw4; intro K hK; go_big_quiet_op; go_big_quiet_on)
  (refine wpG_skip rfl rfl ?_ hw4; intro K hK; go_big_quiet_op; go_big_quiet_on)
  (refine wpG_op rfl rfl rfl ?_; intro K hK; go_big_quiet_op; go_big_quiet_on)
  (refine wpG_op rfl rfl rfl ?_; intro K hK; go_big_quiet_op; go_big_quiet_on)
  (refine wpG_skip rfl rfl ?_ hw4; intro K hK; go_big_quiet_op; go_big_quiet_on)
  (refine wpG_skip rfl rfl ?_ hw4; intro K hK; go_big_quiet_op; go_big_quiet_on)
  (refine wpG_skip rfl rfl ?_ hw4; intro K hK; go_big_quiet_op; go_big_quiet_on)
  (refine wpG_skip rfl rfl ?_ hw4; intro K hK; go_big_quiet_op; go_big_quiet_on)
  (refine wpG_op rfl rfl rfl ?_; intro K hK; go_big_quiet_op; go_big_quiet_on)
  clear hone hw4
  refine wpG_nil ?_
  intro u6 E2'
  have EX5 := Lib.hid E2'
  clear E2'
  have HBE := Lib.hid (HB1.out.trans ((EnvX.bel EX5.out).mono HB1.out.size))
  go_wp2
  go_ret
  exact ⟨rfl, HBE.out⟩
set_option maxRecDepth 20000 in
set_option maxHeartbeats 8000000 in
theorem law_pathsX_low (H : CoinC) (l : List TxM) (q : Int) (A : Option Addr) (n c : Nat) (w : World) (hq : I64 q) (hl : l.length = n) (hnc : n ≤ c) (hcm : c ≤ maxLen) (kl : TxsIn w A l) (ht : Tables w) (k1 : fewAll l 8 = true) (k2 : q < 0) :
    Calls Tryd.prog 7 #[.slice A n c, .int .i64 q] w fun e w' => e = .returned (.bool true) ∧ Below w.heap.size w w' := by
  have HM63 : Hid (n < 9223372036854775808) := by show _ < _; unfold maxLen at hcm; omega
  have HL3 := Lib.hid (And.intro hl (And.intro hnc hcm))
  have HF_l : Hid (fewAll l 8 = true) := k1
  have D8 : Hid (decide (q < 0) = true) := decide_eq_true (by omega)
  clear k1 k2
  have E0 : Hid (EnvX w w []) := EnvX.start w
  have HAW := Lib.hid (cawake_any H w (ht.below (EnvX.bel E0.out)))
  have HT := Lib.hid ht
  have HH := Lib.hid H
  have J_kl := Lib.hid kl
  clear ht H kl hq hl hnc hcm
  go_enter Tryd.func7, Tryd.ntmps7
  go_upto_region 1 with (fail)
  go_wp2_with fail
  refine HAW.out.mono ?_
  rintro e w1 ⟨rfl, hb1⟩
  have HB1 := Lib.hid (EnvX.below E0.out hb1).bel
  have E1 : Hid (EnvX w1 w1 []) := ⟨Below.refl _ _, (EnvX.below E0.out hb1).box⟩
  have HT1 := Lib.hid (HT.out.below HB1.out)
  have K_kl := Lib.hid (J_kl.out.up HB1.out)
  clear hb1 E0 HAW HT J_kl
  go_upto_region 2 with (fail)
  refine wp_region_Hx (w0 := w1) [0, 1, 2] [] rfl E1.out ?_
  refine lexH_phase [0, 1, 2] [] ?_
  have hw1 : EnvX w1 _ [] := E1.out
  have hone := @EnvC.one _ _ _ hw1
  (refine wpG_op rfl rfl rfl ?_; intro K hK; go_big_quiet_op; go_big_quiet_on)
  (refine wpG_call (f := 11) (args := #[.slice A n c, .int .i64 8]) (v := .bool true) rfl rfl rfl Tryd.func11 rfl rfl (fun u hu => by have h1 := fewall_any l 8 A n c u HL3.out.1 HM63.out (K_kl.out.up (EnvX.bel hu)); rwa [HF_l.out] at h1) ?_ hw1; intro K hK; go_big_quiet_op; go_big_quiet_on)
  (refine wpG_op rfl rfl rfl ?_; intro K hK; go_big_quiet_op; go_big_quiet_on)
  clear hone hw1
  refine wpG_nil ?_
  intro u3 E2'
  have EX2 := Lib.hid E2'
  clear E2'
  go_upto_region 3 with (fail)
  refine wp_region_Hx (w0 := w1) [0, 1, 2, 3, 4, 5, 6, 7, 8, 9, 10, 11, 12, 13, 14, 15] [] rfl EX2.out ?_
  refine lexH_phase [0, 1, 2, 3, 4, 5, 6, 7, 8, 9, 10, 11, 12, 13, 14, 15] [] ?_
  have hw4 : EnvX w1 _ [] := EX2.out
  have hone := @EnvC.one _ _ _ hw4
  (refine wpG_op rfl rfl rfl ?_; intro K hK; go_big_quiet_op; go_big_quiet_on)
  (refine wpG_op rfl rfl rfl ?_; intro K hK; go_big_quiet_op; go_big_quiet_on)
  (refine wpG_op rfl rfl rfl ?_; intro K hK; go_big_quiet_op; go_big_quiet_on)
  (refine wpG_op rfl rfl rfl ?_; intro K hK; go_big_quiet_op; go_big_quiet_on)
  (refine wpG_op rfl rfl rfl ?_; intro K hK; go_big_quiet_op; go_big_quiet_on)
  (refine wpG_op rfl rfl rfl ?_; intro K hK; go_big_quiet_op; go_big_quiet_on)
  (refine wpG_op rfl rfl rfl ?_; intro K hK; go_big_quiet_op; go_big_quiet_on)
  (refine wpG_op rfl rfl rfl ?_; intro K hK; go_big_quiet_op; go_big_quiet_on)
  (refine wpG_val (v := .bool true) rfl rfl (fun u hu => ltZ_op u D8.out rfl rfl) ?_ hw4; intro K hK; go_big_quiet_op; go_big_quiet_on)
  (refine wpG_op rfl rfl rfl ?_; intro K hK; go_big_quiet_op; go_big_quiet_on)
  (refine wpG_op rfl rfl rfl ?_; intro K hK; go_big_quiet_op; go_big_quiet_on)
  (refine wpG_skip rfl rfl ?_ hw4; intro K hK; go_big_quiet_op; go_big_quiet_on)
  (refine wpG_skip rfl rfl ?_ hw4; intro K hK; go_big_quiet_op; go_big_quiet_on)
  (refine wpG_skip rfl rfl ?_ hw4; intro K hK; go_big_quiet_op; go_big_quiet_on)
  (refine wpG_skip rfl rfl ?_ hw4; intro K hK; go_big_quiet_op; go_big_quiet_on)
  (refine wpG_op rfl rfl rfl ?_; intro K hK; go_big_quiet_op; go_big_quiet_on)
  clear hone hw4
  refine wpG_nil ?_
  intro u6 E2'
  have EX5 := Lib.hid E2'
  clear E2'
  have HBE := Lib.hid (HB1.out.trans ((EnvX.bel EX5.out).mono HB1.out.size))
  go_wp2
  go_ret
  exact ⟨rfl, HBE.out⟩
set_option maxRecDepth 20000 in
set_option maxHeartbeats 8000000 in
theorem law_pathsX_high (H : CoinC) (l : List TxM) (q : Int) (A : Option Addr) (n c : Nat) (w : World) (hq : I64 q) (hl : l.length = n) (hnc : n ≤ c) (hcm : c ≤ maxLen) (kl : TxsIn w A l) (ht : Tables w) (k1 : fewAll l 8 = true) (k2 : ¬ q < 0) (k3 : (n : Int) ≤ q) :
    Calls Tryd.prog 7 #[.slice A n c, .int .i64 q] w fun e w' => e = .returned (.bool true) ∧ Below w.heap.size w w' := by
  have HM63 : Hid (n < 9223372036854775808) := by show _ < _; unfold maxLen at hcm; omega
  have HL3 := Lib.hid (And.intro hl (And.intro hnc hcm))
  have HF_l : Hid (fewAll l 8 = true) := k1
  have D8 : Hid (decide (q < 0) = false) := decide_eq_false (by omega)
  have D14 : Hid (decide ((n : Int) ≤ q) = true) := decide_eq_true (by omega)
  clear k1 k2 k3
  have E0 : Hid (EnvX w w []) := EnvX.start w
  have HAW := Lib.hid (cawake_any H w (ht.below (EnvX.bel E0.out)))
  have HT := Lib.hid ht
  have HH := Lib.hid H
  have J_kl := Lib.hid kl
  clear ht H kl hq hl hnc hcm
  go_enter Tryd.func7, Tryd.ntmps7
  go_upto_region 1 with (fail)
  go_wp2_with fail
  refine HAW.out.mono ?_
  rintro e w1 ⟨rfl, hb1⟩
  have HB1 := Lib.hid (EnvX.below E0.out hb1).bel
  have E1 : Hid (EnvX w1 w1 []) := ⟨Below.refl _ _, (EnvX.below E0.out hb1).box⟩
  have HT1 := Lib.hid (HT.out.below HB1.out)
  have K_kl := Lib.hid (J_kl.out.up HB1.out)
  clear hb1 E0 HAW HT J_kl
  go_upto_region 2 with (fail)
  refine wp_region_Hx (w0 := w1) [0, 1, 2] [] rfl E1.out ?_
  refine lexH_phase [0, 1, 2] [] ?_
  have hw1 : EnvX w1 _ [] := E1.out
  have hone := @EnvC.one _ _ _ hw1
  (refine wpG_op rfl rfl rfl ?_; intro K hK; go_big_quiet_op; go_big_quiet_on)
  (refine wpG_call (f := 11) (args := #[.slice A n c, .int .i64 8]) (v := .bool true) rfl rfl rfl Tryd.func11 rfl rfl (fun u hu => by have h1 := fewall_any l 8 A n c u HL3.out.1 HM63.out (K_kl.out.up (EnvX.bel hu)); rwa [HF_l.out] at h1) ?_ hw1; intro K hK; go_big_quiet_op; go_big_quiet_on)
  (refine wpG_op rfl rfl rfl ?_; intro K hK; go_big_quiet_op; go_big_quiet_on)
  clear hone hw1
  refine wpG_nil ?_
  intro u3 E2'
  have EX2 := Lib.hid E2'
  clear E2'
  go_upto_region 3 with (fail)
  refine wp_region_Hx (w0 := w1) [0, 1, 2, 3, 4, 5, 6, 7, 8, 9, 10, 11, 12, 13, 14, 15] [] rfl EX2.out ?_
  refine lexH_phase [0, 1, 2, 3, 4, 5, 6, 7, 8, 9, 10, 11, 12, 13, 14, 15] [] ?_
  have hw4 : EnvX w1 _ [] := EX2.out
  have hone := @EnvC.one _ _ _ hw4
  (refine wpG_op rfl rfl rfl ?_; intro K hK; go_big_quiet_op; go_big_quiet_on)
  (refine wpG_op rfl rfl rfl ?_; intro K hK; go_big_quiet_op; go_big_quiet_on)
  (refine wpG_op rfl rfl rfl ?_; intro K hK; go_big_quiet_op; go_big_quiet_on)
  (refine wpG_op rfl rfl rfl ?_; intro K hK; go_big_quiet_op; go_big_quiet_on)
  (refine wpG_op rfl rfl rfl ?_; intro K hK; go_big_quiet_op; go_big_quiet_on)
  (refine wpG_op rfl rfl rfl ?_; intro K hK; go_big_quiet_op; go_big_quiet_on)
  (refine wpG_op rfl rfl rfl ?_; intro K hK; go_big_quiet_op; go_big_quiet_on)
  (refine wpG_op rfl rfl rfl ?_; intro K hK; go_big_quiet_op; go_big_quiet_on)
  (refine wpG_val (v := .bool false) rfl rfl (fun u hu => ltZ_op u D8.out rfl rfl) ?_ hw4; intro K hK; go_big_quiet_op; go_big_quiet_on)
  (refine wpG_op rfl rfl rfl ?_; intro K hK; go_big_quiet_op; go_big_quiet_on)
  (refine wpG_op rfl rfl rfl ?_; intro K hK; go_big_quiet_op; go_big_quiet_on)
  (refine wpG_op rfl rfl rfl ?_; intro K hK; go_big_quiet_op; go_big_quiet_on)
  (refine wpG_op rfl rfl rfl ?_; intro K hK; go_big_quiet_op; go_big_quiet_on)
  (refine wpG_val (v := .int .i64 (n : Int)) rfl rfl (fun u hu => len_op Tryd.underlying27 HM63.out u rfl) ?_ hw4; intro K hK; go_big_quiet_op; go_big_quiet_on)
  (refine wpG_val (v := .bool true) rfl rfl (fun u hu => geZ_op u D14.out rfl rfl) ?_ hw4; intro K hK; go_big_quiet_op; go_big_quiet_on)
  (refine wpG_op rfl rfl rfl ?_; intro K hK; go_big_quiet_op; go_big_quiet_on)
  clear hone hw4
  refine wpG_nil ?_
  intro u6 E2'
  have EX5 := Lib.hid E2'
  clear E2'
  have HBE := Lib.hid (HB1.out.trans ((EnvX.bel EX5.out).mono HB1.out.size))
  go_wp2
  go_ret
  exact ⟨rfl, HBE.out⟩
set_option maxRecDepth 20000 in
set_option maxHeartbeats 8000000 in
theorem law_pathsX_main (H : CoinC) (l : List TxM) (q : Nat) (A : Option Addr) (n c : Nat) (w : World) (hl : l.length = n) (hnc : n ≤ c) (hcm : c ≤ maxLen) (kl : TxsIn w A l) (ht : Tables w) (k1 : fewAll l 8 = true) (k2 : q < n) :
    Calls Tryd.prog 7 #[.slice A n c, .int .i64 (q : Int)] w fun e w' => e = .returned (.bool true) ∧ Below w.heap.size w w' := by
  have HM63 : Hid (n < 9223372036854775808) := by show _ < _; unfold maxLen at hcm; omega
  have HL3 := Lib.hid (And.intro hl (And.intro hnc hcm))
  have HF_l : Hid (fewAll l 8 = true) := k1
  have D8 : Hid (decide ((q : Int) < 0) = false) := decide_eq_false (by omega)
  have D14 : Hid (decide ((n : Int) ≤ (q : Int)) = false) := decide_eq_false (by omega)
  have HLN : Hid (n ≤ 8) := by show _ ≤ _; have := fewAll_len k1; omega
  have HQN := Lib.hid k2
  clear k1 k2
  have E0 : Hid (EnvX w w []) := EnvX.start w
  have HAW := Lib.hid (cawake_any H w (ht.below (EnvX.bel E0.out)))
  have HT := Lib.hid ht
  have HH := Lib.hid H
  have J_kl := Lib.hid kl
  clear ht H kl hl hnc hcm
  go_enter Tryd.func7, Tryd.ntmps7
  go_upto_region 1 with (fail)
  go_wp2_with fail
  refine HAW.out.mono ?_
  rintro e w1 ⟨rfl, hb1⟩
  have HB1 := Lib.hid (EnvX.below E0.out hb1).bel
  have E1 : Hid (EnvX w1 w1 []) := ⟨Below.refl _ _, (EnvX.below E0.out hb1).box⟩
  have HT1 := Lib.hid (HT.out.below HB1.out)
  have K_kl := Lib.hid (J_kl.out.up HB1.out)
  clear hb1 E0 HAW HT J_kl
  go_upto_region 2 with (fail)
  refine wp_region_Hx (w0 := w1) [0, 1, 2] [] rfl E1.out ?_
  refine lexH_phase [0, 1, 2] [] ?_
  have hw1 : EnvX w1 _ [] := E1.out
  have hone := @EnvC.one _ _ _ hw1
  (refine wpG_op rfl rfl rfl ?_; intro K hK; go_big_quiet_op; go_big_quiet_on)
  (refine wpG_call (f := 11) (args := #[.slice A n c, .int .i64 8]) (v := .bool true) rfl rfl rfl Tryd.func11 rfl rfl (fun u hu => by have h1 := fewall_any l 8 A n c u HL3.out.1 HM63.out (K_kl.out.up (EnvX.bel hu)); rwa [HF_l.out] at h1) ?_ hw1; intro K hK; go_big_quiet_op; go_big_quiet_on)
  (refine wpG_op rfl rfl rfl ?_; intro K hK; go_big_quiet_op; go_big_quiet_on)
  clear hone hw1
  refine wpG_nil ?_
  intro u3 E2'
  have EX2 := Lib.hid E2'
  clear E2'
  go_upto_region 3 with (fail)
  refine wp_region_Hx (w0 := w1) [0, 1, 2, 3, 4, 5, 6, 7, 8, 9, 10, 11, 12, 13, 14, 15] [] rfl EX2.out ?_
  refine lexH_phase [0, 1, 2, 3, 4, 5, 6, 7, 8, 9, 10, 11, 12, 13, 14, 15] [] ?_
  have hw4 : EnvX w1 _ [] := EX2.out
  have hone := @EnvC.one _ _ _ hw4
  (refine wpG_op rfl rfl rfl ?_; intro K hK; go_big_quiet_op; go_big_quiet_on)
  (refine wpG_op rfl rfl rfl ?_; intro K hK; go_big_quiet_op; go_big_quiet_on)
  (refine wpG_op rfl rfl rfl ?_; intro K hK; go_big_quiet_op; go_big_quiet_on)
  (refine wpG_op rfl rfl rfl ?_; intro K hK; go_big_quiet_op; go_big_quiet_on)
  (refine wpG_op rfl rfl rfl ?_; intro K hK; go_big_quiet_op; go_big_quiet_on)
  (refine wpG_op rfl rfl rfl ?_; intro K hK; go_big_quiet_op; go_big_quiet_on)
  (refine wpG_op rfl rfl rfl ?_; intro K hK; go_big_quiet_op; go_big_quiet_on)
  (refine wpG_op rfl rfl rfl ?_; intro K hK; go_big_quiet_op; go_big_quiet_on)
  (refine wpG_val (v := .bool false) rfl rfl (fun u hu => ltZ_op u D8.out rfl rfl) ?_ hw4; intro K hK; go_big_quiet_op; go_big_quiet_on)
  (refine wpG_op rfl rfl rfl ?_; intro K hK; go_big_quiet_op; go_big_quiet_on)
  (refine wpG_op rfl rfl rfl ?_; intro K hK; go_big_quiet_op; go_big_quiet_on)
  (refine wpG_op rfl rfl rfl ?_; intro K hK; go_big_quiet_op; go_big_quiet_on)
  (refine wpG_op rfl rfl rfl ?_; intro K hK; go_big_quiet_op; go_big_quiet_on)
  (refine wpG_val (v := .int .i64 (n : Int)) rfl rfl (fun u hu => len_op Tryd.underlying27 HM63.out u rfl) ?_ hw4; intro K hK; go_big_quiet_op; go_big_quiet_on)
  (refine wpG_val (v := .bool false) rfl rfl (fun u hu => geZ_op u D14.out rfl rfl) ?_ hw4; intro K hK; go_big_quiet_op; go_big_quiet_on)
  (refine wpG_op rfl rfl rfl ?_; intro K hK; go_big_quiet_op; go_big_quiet_on)
  clear hone hw4
  refine wpG_nil ?_
  intro u6 E2'
  have EX5 := Lib.hid E2'
  clear E2'
  have EX0 := Lib.hid EX5.out
  clear EX5
  generalize u6 = u0 at *
  have hn8 : n ≤ 8 := HLN.out
  go_upto_region 7 with (fail)
  go_loopw [7, 8] (fun v iv u => ∃ k : Nat, k ≤ n ∧ iv = .int .i64 (k : Int) ∧ Hid (OwnI u w1.heap.size v (idsX (rsT (l.take k))) ∧ Below w1.heap.size w1 u)) (fun _ iv _ => n - (intOf iv).toNat)
  case atStart => exact ⟨0, by omega, rfl, OwnI.nil _ _, EnvX.bel EX0.out⟩
  case round =>
    obtain ⟨k, hk, rfl, hinv⟩ := hrel
    obtain ⟨hO, hB⟩ := hinv.out
    clear hinv
    by_cases hlt : k < n
    · have hlt2 : (k : Int) < (n : Int) := by omega
      have hkl : k < l.length := by rw [HL3.out.1]; exact hlt
      obtain ⟨N, hF, hN⟩ := hO.fresh
      have HF := Lib.hid hF
      have HNB : Hid (∀ y ∈ N, w1.heap.size ≤ y.1) := fun y hy => (hN y hy).1
      have EK : Hid (EnvX w1 wr (N ++ [])) := ⟨hB, fun g o hm => (hN (g, o) (by rwa [List.append_nil] at hm)).2.1⟩
      obtain ⟨ad, rfl, -, hld⟩ := K_kl.out.loads hkl
      have HLD : Hid (∀ u, EnvX w1 u [] → (loadVar 25 (ad.add (k * 2))).run Tryd.prog u = .ok (txV (l.getD k noTxM)) u) := fun u hu => (hld u hu).1
      have hst := idsX_step hkl
      have hQl : (idsX (rsT (l.take k))).length = k := by rw [idsX_len, List.length_take]; omega
      have HID : Hid (∀ u, Below w1.heap.size w1 u → Calls Tryd.prog 20 #[txV (l.getD k noTxM)] u fun e w' => e = .returned (idv (idX (l.getD k noTxM).r)) ∧ Below u.heap.size u w') := fun u hu => HH.out.id _ u ((K_kl.out.get hkl).up hu) (HT1.out.below hu)
      have HQ : Hid (isIds (idsX (rsT (l.take k))) ∧ (idsX (rsT (l.take k))).length ≤ 1000000) := ⟨idsX_ids _, by have := HLN.out; omega⟩
      have HKN := Lib.hid hlt
      have HST := Lib.hid hst
      clear hO hB hF hN hst hQl hkl hlt hld
      generalize idsX (rsT (l.take k)) = Q at *
      generalize l.getD k noTxM = t at *
      have HLX : Hid ((idX t.r).length = 32) := (idX_id t.r).1
      go_upto_region 9 with (fail)
      refine wp_region_Hx (w0 := w1) [0, 1, 2, 3, 4, 5, 6, 7, 8] (N ++ []) rfl EK.out ?_
      refine lexH_phase [0, 1, 2, 3, 4, 5] [6, 7, 8] ?_
      have hw2001 : EnvX w1 _ (N ++ []) := EK.out
      have hone := @EnvC.one _ _ _ hw2001
      (refine wpG_op rfl rfl rfl ?_; intro K hK; go_big_quiet_op; go_big_quiet_on)
      (refine wpG_op rfl rfl rfl ?_; intro K hK; go_big_quiet_op; go_big_quiet_on)
      (refine wpG_op rfl rfl rfl ?_; intro K hK; go_big_quiet_op; go_big_quiet_on)
      (refine wpG_val (v := .pointer (some (ad.add (k * 2)))) rfl rfl (fun u hu => idxSl_op (i := k) Tryd.underlying27 aggTx.size HKN.out u rfl rfl) ?_ hw2001; intro K hK; go_big_quiet_op; go_big_quiet_on)
      (refine wpG_val (v := txV t) rfl rfl (fun u hu => load_any_op u (HLD.out u (EnvX.sub hu (fun _ h => by cases h))) rfl) ?_ hw2001; intro K hK; go_big_quiet_op; go_big_quiet_on)
      (refine wpG_call (f := 20) (args := #[txV t]) (v := idv (idX t.r)) rfl rfl rfl Tryd.func20 rfl rfl (fun u hu => HID.out u (EnvX.bel hu)) ?_ hw2001; intro K hK; go_big_quiet_op; go_big_quiet_on)
      clear hone hw2001
      refine wpG_nil ?_
      refine (hOp_fresh (R := BuiltI (idX t.r)) (M0 := (N ++ [])) rfl rfl (fun _ h => h) (fun u hu => FAt_buildI HLX.out rfl u) ?_)
      rintro _ _ ⟨gq, rfl, rfl⟩ hf he2002; intro K' hK'; go_big_quiet_op; go_big_quiet_on
      clear hf
      change lexH _ _ _ _ _ _ ((gq, Obj.cells (arrB 32 (idX t.r)) 37 (0, 0)) :: (N ++ []))
      refine (hOp_own (gd := none) (R := GrownI w1 (Q ++ [idX t.r]) []) rfl rfl rfl rfl (fun u hu => appI_op [] hu HQ.out.1 HLX.out HF.out (fun y hy => ⟨List.mem_cons_of_mem _ (List.mem_append_left _ hy), HNB.out y hy⟩) (List.Mem.head _) (fun _ h => by cases h) HQ.out.2 rfl rfl) ?_)
      rintro x9 M' ⟨N9, rfl, hF9, hn9⟩ he2003; intro K' hK'; go_big_quiet_op; go_big_quiet_on
      have HF9 := Lib.hid (And.intro hF9 hn9)
      clear hF9 hn9
      change lexH _ _ _ _ _ _ (N9 ++ [])
      refine lexH_phase [8] [] ?_
      have hw2004 : EnvX w1 _ (N9 ++ []) := he2003.choose_spec
      have hone := @EnvC.one _ _ _ hw2004
      (refine wpG_op rfl rfl rfl ?_; intro K hK; go_big_quiet_op; go_big_quiet_on)
      clear hone hw2004
      refine wpG_nil ?_
      intro u2006 E2'
      have EX2005 := Lib.hid E2'
      clear E2'
      have HNX : Hid (OwnI u2006 w1.heap.size x9 (idsX (rsT (l.take (k + 1)))) ∧ Below w1.heap.size w1 u2006) := by
        refine ⟨?_, EnvX.bel EX2005.out⟩
        rw [HST.out]
        refine HF9.out.1.own (fun y hy => ?_) (fun y hy => ⟨(HF9.out.2 y hy).1, EnvX.box EX2005.out _ _ (List.mem_append_left _ hy)⟩)
        rcases List.mem_append.1 hy with h | h
        · exact HQ.out.1 y h
        · cases List.mem_singleton.1 h; exact idX_id _
      go_wp2
      go_roundw
      case rel => exact ⟨k + 1, by omega, by go_num, HNX⟩
      case measure => simp [intOf]; omega
    · obtain rfl : k = n := by omega
      have hge : ¬ (k : Int) < (k : Int) := by omega
      rw [List.take_of_length_le (by rw [HL3.out.1]; exact Nat.le_refl _)] at hO
      obtain ⟨Ai, ci, rfl, hci1, hci2⟩ := hO.form
      have HIS := Lib.hid hO.ids
      have HII : Hid (isIds (idsX (rsT l)) ∧ (idsX (rsT l)).length = k) := ⟨idsX_ids _, by rw [idsX_len, HL3.out.1]⟩
      have hpq : pathR (idsX (rsT l)) (q : Int) = (pathT (idsX (rsT l)) q, true) := by
        unfold pathR
        rw [if_pos (by have h1 := HII.out.2; have h2 := HLN.out; have h3 := HQN.out; omega)]
        rfl
      have HPQ := Lib.hid hpq
      have HCK : Hid (checkT (rootT (idsX (rsT l))) (k : Int) (q : Int) (idX (l.getD q noTxM).r) (pathT (idsX (rsT l)) q) = true) := by
        have h1 := check_path (l := idsX (rsT l)) (i := q) (by have h1 := HII.out.2; have h2 := HLN.out; omega) (by rw [HII.out.2]; exact HQN.out)
        rw [HII.out.2] at h1
        have e : (idsX (rsT l)).getD q [] = idX (l.getD q noTxM).r := by
          have hq2 : q < l.length := by rw [HL3.out.1]; exact HQN.out
          unfold idsX rsT
          rw [List.getD_eq_getElem?_getD, List.getElem?_map, List.getElem?_map, List.getElem?_eq_getElem hq2, List.getD_eq_getElem?_getD, List.getElem?_eq_getElem hq2]
          rfl
        rwa [e] at h1
      have HPI : Hid (isIds (pathT (idsX (rsT l)) q) ∧ (pathT (idsX (rsT l)) q).length ≤ 1000000) := ⟨path_ids _ _ _ rfl HII.out.1, path_short q (by have h1 := HII.out.2; have h2 := HLN.out; omega)⟩
      have HRI : Hid (isId (rootT (idsX (rsT l)))) := root_id (idsX_ids _)
      rw [HII.out.2] at hci1 ⊢
      have HCI := Lib.hid (And.intro hci1 hci2)
      have HBK := Lib.hid hB
      clear hO hB hpq hci1 hci2
      have HKW := Lib.hid (K_kl.out.up HBK.out)
      have HTW := Lib.hid (HT1.out.below HBK.out)
      go_upto_region 10 with (fail)
      have HPC : Hid (Calls Tryd.prog 25 #[.slice Ai k ci, .int .i64 (q : Int)] wr fun e w' => (∃ v, e = .returned (.tuple #[v, .bool true]) ∧ OwnI w' wr.heap.size v (pathT (idsX (rsT l)) q)) ∧ Below wr.heap.size wr w') := by
        have h1 := Path_any (idsX (rsT l)) (q : Int) Ai k ci wr HII.out.2 (by have := HLN.out; omega) HCI.out.1 ⟨by omega, by have h2 := HLN.out; have h3 := HQN.out; omega⟩ HII.out.1 HIS.out HTW.out
        rwa [HPQ.out] at h1
      go_wp2_with fail
      refine HPC.out.mono ?_
      rintro e w3 ⟨⟨v3, rfl, hv3⟩, hb3⟩
      obtain ⟨Ap, cp, rfl, hcp1, hcp2⟩ := hv3.form
      have HPS := Lib.hid hv3.ids
      have HCP := Lib.hid (And.intro hcp1 hcp2)
      have HK3 := Lib.hid (HKW.out.up hb3)
      have HT3 := Lib.hid (HTW.out.below hb3)
      have HB3 := Lib.hid (HB1.out.trans ((HBK.out.trans (hb3.mono HBK.out.size)).mono HB1.out.size))
      have E3 : Hid (EnvX w3 w3 []) := EnvX.start w3
      obtain ⟨ad, rfl, -, hld⟩ := HK3.out.loads (k := q) (by rw [HL3.out.1]; exact HQN.out)
      have HLD : Hid (∀ u, EnvX w3 u [] → (loadVar 25 (ad.add (q * 2))).run Tryd.prog u = .ok (txV (l.getD q noTxM)) u) := fun u hu => (hld u hu).1
      have HGT := Lib.hid (HK3.out.get (i := q) (by rw [HL3.out.1]; exact HQN.out))
      clear hv3 hb3 hcp1 hcp2 hld HPC
      obtain ⟨np, hnp⟩ : ∃ np, (pathT (idsX (rsT l)) q).length = np := ⟨_, rfl⟩
      rw [hnp] at HCP ⊢
      have HNP := Lib.hid hnp
      clear hnp
      have HM63k : Hid (k < 9223372036854775808) := HM63.out
      go_upto_region 11 with (fail)
      refine wp_region_H (w0 := w3) [] (by kernel_rfl) E3.out ?_
      refine anyH_phase [0, 1, 2, 3, 4, 5, 6, 7, 8, 9, 10, 11, 12, 13, 14, 15] 0 rfl ⟨_, (EnvX.drew E3.out)⟩ (by kernel_rfl) ?_
      have hw3001 : EnvX w3 _ [] := (EnvX.drew E3.out)
      have hone := @EnvC.one _ _ _ hw3001
      (refine wpG_op rfl rfl rfl ?_; intro K hK; go_big_quiet_op; go_big_quiet_on)
      (refine wpG_op rfl rfl rfl ?_; intro K hK; go_big_quiet_op; go_big_quiet_on)
      (refine wpG_op rfl rfl rfl ?_; intro K hK; go_big_quiet_op; go_big_quiet_on)
      (refine wpG_call (f := 22) (args := #[.slice (some ad) k c]) (v := idv (rootT (idsX (rsT l)))) rfl rfl rfl Tryd.func22 rfl rfl (fun u hu => HH.out.root l (some ad) k c u HL3.out.1 (by have := HLN.out; omega) HL3.out.2.1 HL3.out.2.2 (HK3.out.up (EnvX.bel hu)) (HT3.out.below (EnvX.bel hu))) ?_ hw3001; intro K hK; go_big_quiet_op; go_big_quiet_on)
      (refine wpG_op rfl rfl rfl ?_; intro K hK; go_big_quiet_op; go_big_quiet_on)
      (refine wpG_val (v := .int .i64 (k : Int)) rfl rfl (fun u hu => len_op Tryd.underlying27 HM63k.out u rfl) ?_ hw3001; intro K hK; go_big_quiet_op; go_big_quiet_on)
      (refine wpG_op rfl rfl rfl ?_; intro K hK; go_big_quiet_op; go_big_quiet_on)
      (refine wpG_op rfl rfl rfl ?_; intro K hK; go_big_quiet_op; go_big_quiet_on)
      (refine wpG_op rfl rfl rfl ?_; intro K hK; go_big_quiet_op; go_big_quiet_on)
      (refine wpG_val (v := .pointer (some (ad.add (q * 2)))) rfl rfl (fun u hu => idxSl_op (i := q) Tryd.underlying27 aggTx.size HQN.out u rfl rfl) ?_ hw3001; intro K hK; go_big_quiet_op; go_big_quiet_on)
      (refine wpG_val (v := txV (l.getD q noTxM)) rfl rfl (fun u hu => load_any_op u (HLD.out u (EnvX.sub hu (fun _ h => by cases h))) rfl) ?_ hw3001; intro K hK; go_big_quiet_op; go_big_quiet_on)
      (refine wpG_call (f := 20) (args := #[txV (l.getD q noTxM)]) (v := idv (idX (l.getD q noTxM).r)) rfl rfl rfl Tryd.func20 rfl rfl (fun u hu => HH.out.id _ u (HGT.out.up (EnvX.bel hu)) (HT3.out.below (EnvX.bel hu))) ?_ hw3001; intro K hK; go_big_quiet_op; go_big_quiet_on)
      (refine wpG_op rfl rfl rfl ?_; intro K hK; go_big_quiet_op; go_big_quiet_on)
      (refine wpG_call (f := 26) (args := #[idv (rootT (idsX (rsT l))), .int .i64 (k : Int), .int .i64 (q : Int), idv (idX (l.getD q noTxM).r), .slice Ap np cp]) (v := .bool true) rfl rfl rfl Tryd.func26 rfl rfl (fun u hu => by have h1 := check_any (rootT (idsX (rsT l))) (idX (l.getD q noTxM).r) (k : Int) (q : Int) (pathT (idsX (rsT l)) q) Ap np cp u HRI.out (idX_id _) ⟨by omega, by have := HM63k.out; omega⟩ ⟨by omega, by have h2 := HM63k.out; have h3 := HQN.out; omega⟩ HNP.out (by have h1 := HPI.out.2; rw [HNP.out] at h1; exact h1) HPI.out.1 (HPS.out.up (EnvX.bel hu)) (HT3.out.below (EnvX.bel hu)); rwa [HCK.out] at h1) ?_ hw3001; intro K hK; go_big_quiet_op; go_big_quiet_on)
      (refine wpG_op rfl rfl rfl ?_; intro K hK; go_big_quiet_op; go_big_quiet_on)
      (refine wpG_op rfl rfl rfl ?_; intro K hK; go_big_quiet_op; go_big_quiet_on)
      clear hone hw3001
      refine wpG_nil ?_
      refine anyH_done (by kernel_rfl) ?_
      intro u3003 E2'
      have EX3002 := Lib.hid E2'
      clear E2'
      have HBE := Lib.hid (HB3.out.trans ((EnvX.bel EX3002.out).mono HB3.out.size))
      go_wp2
      go_ret
      exact ⟨rfl, HBE.out⟩
theorem law_pathsX (H : CoinC) (l : List TxM) (q : Int) (A : Option Addr) (n c : Nat) (w : World) (hq : I64 q) (hl : l.length = n) (hnc : n ≤ c) (hcm : c ≤ maxLen) (kl : TxsIn w A l) (ht : Tables w) :
    Calls Tryd.prog 7 #[.slice A n c, .int .i64 q] w fun e w' => e = .returned (.bool true) ∧ Below w.heap.size w w' := by
  cases k1 : fewAll l 8 with
  | false => exact law_pathsX_few H l q A n c w hq hl hnc hcm kl ht k1
  | true =>
    by_cases k2 : q < 0
    · exact law_pathsX_low H l q A n c w hq hl hnc hcm kl ht k1 k2
    · by_cases k3 : (n : Int) ≤ q
      · exact law_pathsX_high H l q A n c w hq hl hnc hcm kl ht k1 k2 k3
      · obtain ⟨j, rfl⟩ := Int.eq_ofNat_of_zero_le (show 0 ≤ q by omega)
        exact law_pathsX_main H l j A n c w hl hnc hcm kl ht k1 (by omega)
end Go.Proofs.YtcodmedgkboohaaDoor

namespace Go.Proofs.YtcodmedgkboohaaDoor.coinPaths
set_option maxRecDepth 8000
open Go.ChangeShapes Go.WideShapes Go.ChangeAt Go.RowKit

theorem contract (H : Type) (enc : TypeId × Value → H) (W : World) (base : Nat) (args : Array Value) (ds gs : List (DataW H)) (before : List MemPlace)
    (hval : ∀ (j : Nat) t v, Tryd.f7.params[j]? = some t → args[j]? = some v → Value.okWide Tryd.prog W .any base t v)
    (hW : DataW.Whole enc Tryd.prog Tryd.f7.params.toList Rows.coinPathsSpec.vars false W args.toList ds gs before) (hL : laidMetH Tryd.prog Rows.coinPathsRow.laid W) :
    Calls Tryd.prog 7 args W fun e W' => ∃ v, e = .returned v ∧ Rows.coinPathsSpec.post enc Tryd.prog Tryd.f7 false true false false W args v W' := by
  have hW' := hW
  obtain ⟨p, q, hA0, hV, rfl, hfz, hnd⟩ := hW
  have hA : DataW.TrodAll enc Tryd.prog W 0 (fun _ => true) true Tryd.f7.params.toList args.toList ds p := hA0
  rw [Tryd.params7] at hA hval
  obtain ⟨v0, vs0, d0, ds0, p0, q0, hargs, rfl, rfl, h0, r0⟩ := trodAll_cons hA
  obtain ⟨v1, vs1, d1, ds1, p1, q1, rfl, rfl, rfl, h1, r1⟩ := trodAll_cons r0
  obtain ⟨rfl, rfl, rfl⟩ := trodAll_nil r1
  obtain rfl : args = #[v0, v1] := by cases args; simp_all
  obtain ⟨rfl, rfl⟩ := trodVars_none hV
  have lt0 : ∀ x ∈ p0, x.block < W.heap.size := by obtain ⟨m, hm⟩ := h0; exact DataW.trod_lt m _ _ _ hm
  obtain ⟨a0, n0, c0, x0, rfl, lx0, nc0, cm0, px0⟩ := open_txs (hval 0 27 v0 rfl rfl) h0
  obtain ⟨x1, rfl, rfl, rfl, wx1⟩ := open_int Tryd.underlying3 (hval 1 3 v1 rfl rfl) h1
  clear hA0
  refine (law_pathsX coinC x0 x1 a0 n0 c0 W (bounds_i64 wx1) lx0 nc0 cm0 px0 (tables_of_laid hL)).mono fun e W' ⟨he, bel⟩ => ?_
  subst he
  exact ⟨_, rfl, _, _, _, [], _, [], hW', trodAll_mk1 (shut_bool Tryd.underlying4 _), (trodAll_cons_mk (Below.trod laidOut (by kernel_rfl) (of_decide_eq_true (by kernel_rfl)) h0 bel lt0) (trodAll_cons_mk (shut_int Tryd.underlying3 wx1) trodAll_mk0)), rfl, bel.frame _, fun h => by cases h⟩

def start : Array Value := #[.slice none 0 0, .int .i64 0]
theorem reads (os : Os) {H : Type} (enc : TypeId × Value → H) : ∃ places, DataW.whole enc Tryd.prog ((laidWorld os).forCall (fun _ _ => 0) ⟨#[], start, []⟩).memory Tryd.f7.params.toList Rows.coinPathsSpec.vars false start.toList 8 = some ([.nil, .lit (.int .i64 0)], [], places) :=
  ⟨[], by kernel_rfl⟩

set_option maxRecDepth 100000 in
theorem lifted (os : Os) (started : os.Started) (H : Type) (enc : TypeId × Value → H) (F : Stop.Interp) :
    ReturnsInHanded {} Tryd.checked os 7 .any ((OpenSpec.ofChange Rows.coinPathsSpec).preRow enc Tryd.prog Tryd.f7 Rows.coinPathsRow.domain false Rows.coinPathsRow.laid) (((OpenSpec.ofChange Rows.coinPathsSpec).at F).post enc Tryd.prog Tryd.f7 false true false false) := by
  obtain ⟨places, hx⟩ := reads os enc
  refine returnsInHanded_of_row (C := Tryd.checked) (s := OpenSpec.ofChange Rows.coinPathsSpec) own started (by kernel_rfl) Tryd.func7
    (witness_row_at (enc := enc) (C := Tryd.checked) false (laidWorld os) start rfl (by kernel_rfl) (by kernel_rfl) (by kernel_rfl)
      (OpenSpec.preRow_of_cond 8 hx (by kernel_rfl) (fun k hk => by cases hk) (by kernel_rfl) (laidMet_of_run' 8 (by kernel_rfl) (by kernel_rfl)))) ?_
  intro W base args ds gs before hval hW _ _ _ hL _ _
  exact contract H enc W base args ds gs before hval hW hL

theorem said : Rows.CoinPathsSaid :=
  OpenClaim.holds_of_cond 7 Tryd.f7 rfl rfl rfl rfl rfl rfl rfl ⟨rfl, rfl, rfl, rfl, rfl⟩ rfl rfl rfl rfl rfl (by kernel_rfl) Tryd.func7 (by kernel_rfl)
    (of_decide_eq_true (by kernel_rfl)) (by unfold Func.isWrapper; first | (rw [if_pos (by decide +kernel)]; kernel_rfl) | (rw [if_neg (by decide +kernel)]; exact ⟨rfl, rfl⟩))
    (fun os started H enc _ F => by rw [OpenClaim.pre_eq_preRow]; exact lifted os started H enc F)

theorem plain (f : FuncId) (fn : Func) (hf : Tryd.pinned.checked.prog.funcNamed "stepladder/stepladderlaw09.CoinPaths" = some f) (hfn : Tryd.pinned.checked.prog.funcs[f]? = some fn) :
    false = Tryd.pinned.checked.prog.looks [] ∧ ∀ (j : Nat) t, fn.params[j]? = some t → Tryd.pinned.checked.prog.wantsStandIn t = false := by
  obtain rfl : f = 7 := Option.some.inj ((show Tryd.prog.funcNamed "stepladder/stepladderlaw09.CoinPaths" = some 7 by kernel_rfl).symm.trans hf) |>.symm
  obtain rfl : fn = Tryd.f7 := (Option.some.inj (Tryd.func7.symm.trans hfn)).symm
  refine ⟨by kernel_rfl, fun j t ht => ?_⟩
  rw [Tryd.params7] at ht
  have hm : t = 27 ∨ t = 3 := by simpa using Array.mem_of_getElem? ht
  rcases hm with rfl | rfl
  · exact (show Tryd.prog.wantsStandIn 27 = false by kernel_rfl)
  · exact (show Tryd.prog.wantsStandIn 3 = false by kernel_rfl)
theorem card : Rows.CoinPathsCardSaid :=
  Claim7.holds_tied_plain_at .later [] _ _ _ _ said (fun _ h => by cases h) (by kernel_rfl) (fun _ h => by cases h) coinPaths_row_tie rfl ⟨rfl, rfl⟩ (by kernel_rfl) rfl plain (by kernel_rfl)

end Go.Proofs.YtcodmedgkboohaaDoor.coinPaths
