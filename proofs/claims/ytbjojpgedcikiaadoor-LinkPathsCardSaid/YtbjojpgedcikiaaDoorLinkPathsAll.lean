/-
  PROVED: the law stepladderlaw07.LinkPaths answers true for every input, and leaves its arguments as they were.
  Conditions: the two package-level tables of package sha hold at the call what their initialisers lay; the card ties that to the text of the program (a pruned copy of the project: the packages that the roots of this seat load).
-/
import Derived.Test.YtbjojpgedcikiaaDoorCl
import Derived.WalkKit
namespace Go.Proofs.YtbjojpgedcikiaaDoor
set_option maxRecDepth 8000

theorem check_path {l : List (List Int)} {i : Nat} (h64 : l.length ≤ 64) (hi : i < l.length) : checkT (rootT l) l.length i (l.getD i []) (pathT l i) = true := by
  unfold checkT
  simp only [decide_eq_true_eq, Int.toNat_natCast]
  exact ⟨by omega, by omega, by omega, by omega, path_len _ _ _ rfl, path_top _ _ _ rfl hi⟩
end Go.Proofs.YtbjojpgedcikiaaDoor

namespace Go.Proofs.YtbjojpgedcikiaaDoor
set_option maxRecDepth 8000
open Go.RowKit

set_option maxRecDepth 20000 in
set_option maxHeartbeats 8000000 in
theorem llaw_paths_many (T : TreeC) (K : LinkC) (l : List (List Int)) (i : Int) (v : List Int) (A : Option Addr) (m c : Nat) (w : World) (hl : l.length = m) (hmc : m ≤ c) (hcm : c ≤ maxLen) (hI : isIds l) (hi : I64 i) (hv : isId v) (hA : IdsIn w w.heap.size A l) (ht : Tables w) (k1 : 64 < m) :
    Calls Tryd.prog 5 #[.slice A m c, .int .i64 i, idv v] w fun e w' => e = .returned (.bool true) ∧ Below w.heap.size w w' := by
  have K5 : Hid (decide (64 < (m : Int)) = true) := decide_eq_true (by omega)
  clear k1
  have E0 : Hid (EnvX w (w.alloc (.cells (arrB 32 v) 24)) [(w.heap.size, Obj.cells (arrB 32 v) 24 (0, 0))]) := (EnvX.start w).new _
  have HAW := Lib.hid (lawake_any T K (w.alloc (.cells (arrB 32 v) 24)) (ht.below (EnvX.bel E0.out)))
  have HT := Lib.hid ht
  have HTR := Lib.hid T
  have HK := Lib.hid K
  clear ht T K
  unfold idv
  go_enter Tryd.func5, Tryd.ntmps5
  go_upto_region 1 with (fail)
  generalize (w.alloc (.cells (arrB 32 v) 24)) = W at *
  go_wp2_with fail
  refine HAW.out.mono ?_
  rintro e w1 ⟨rfl, hb1⟩
  have HB1 := Lib.hid (EnvX.below E0.out hb1).bel
  have E1 : Hid (EnvX w1 w1 [(w.heap.size, Obj.cells (arrB 32 v) 24 (0, 0))]) := ⟨Below.refl _ _, (EnvX.below E0.out hb1).box⟩
  have HT1 := Lib.hid (HT.out.below HB1.out)
  clear hb1 E0 HAW
  go_upto_region 2 with (fail)
  refine wp_region_Hx (w0 := w1) [0, 1, 2, 3, 4, 5, 6, 7, 8, 9, 10, 11, 12, 13, 14, 15, 16] [(w.heap.size, Obj.cells (arrB 32 v) 24 (0, 0))] rfl E1.out ?_
  refine lexH_phase [0, 1, 2, 3, 4, 5, 6, 7, 8, 9, 10, 11, 12, 13, 14, 15, 16] [] ?_
  have hw701 : EnvX w1 _ [(w.heap.size, Obj.cells (arrB 32 v) 24 (0, 0))] := E1.out
  have hone := @EnvC.one _ _ _ hw701
  (refine wpG_op rfl rfl rfl ?_; intro K hK; go_big_quiet_op; go_big_quiet_on)
  (refine wpG_op rfl rfl rfl ?_; intro K hK; go_big_quiet_op; go_big_quiet_on)
  (refine wpG_op rfl rfl rfl ?_; intro K hK; go_big_quiet_op; go_big_quiet_on)
  (refine wpG_op rfl rfl rfl ?_; intro K hK; go_big_quiet_op; go_big_quiet_on)
  (refine wpG_val (v := .int .i64 (m : Int)) rfl rfl (fun u hu => lenI_op u rfl) ?_ hw701; intro K hK; go_big_quiet_op; go_big_quiet_on)
  (refine wpG_val (v := .bool true) rfl rfl (fun u hu => gtZ_op u K5.out rfl rfl) ?_ hw701; intro K hK; go_big_quiet_op; go_big_quiet_on)
  (refine wpG_op rfl rfl rfl ?_; intro K hK; go_big_quiet_op; go_big_quiet_on)
  (refine wpG_op rfl rfl rfl ?_; intro K hK; go_big_quiet_op; go_big_quiet_on)
  (refine wpG_skip rfl rfl ?_ hw701; intro K hK; go_big_quiet_op; go_big_quiet_on)
  (refine wpG_skip rfl rfl ?_ hw701; intro K hK; go_big_quiet_op; go_big_quiet_on)
  (refine wpG_op rfl rfl rfl ?_; intro K hK; go_big_quiet_op; go_big_quiet_on)
  (refine wpG_op rfl rfl rfl ?_; intro K hK; go_big_quiet_op; go_big_quiet_on)
  (refine wpG_skip rfl rfl ?_ hw701; intro K hK; go_big_quiet_op; go_big_quiet_on)
  (refine wpG_skip rfl rfl ?_ hw701; intro K hK; go_big_quiet_op; go_big_quiet_on)
  (refine wpG_skip rfl rfl ?_ hw701; intro K hK; go_big_quiet_op; go_big_quiet_on)
  (refine wpG_skip rfl rfl ?_ hw701; intro K hK; go_big_quiet_op; go_big_quiet_on)
  (refine wpG_op rfl rfl rfl ?_; intro K hK; go_big_quiet_op; go_big_quiet_on)
  clear hone hw701
  refine wpG_nil ?_
  intro u703 E2'
  have EX702 := Lib.hid E2'
  clear E2'
  have HB1 := Lib.hid (HB1.out.trans ((EnvX.bel EX702.out).mono HB1.out.size))
  have HT1 := Lib.hid (HT1.out.below (EnvX.bel EX702.out))
  have E1 : Hid (EnvX u703 u703 [(w.heap.size, Obj.cells (arrB 32 v) 24 (0, 0))]) := ⟨Below.refl _ _, EX702.out.box⟩
  clear EX702
  go_wp2
  go_ret
  exact ⟨rfl, HB1.out⟩
set_option maxRecDepth 20000 in
set_option maxHeartbeats 8000000 in
theorem llaw_paths_neg (T : TreeC) (K : LinkC) (l : List (List Int)) (i : Int) (v : List Int) (A : Option Addr) (m c : Nat) (w : World) (hl : l.length = m) (hmc : m ≤ c) (hcm : c ≤ maxLen) (hI : isIds l) (hi : I64 i) (hv : isId v) (hA : IdsIn w w.heap.size A l) (ht : Tables w) (k1 : m ≤ 64) (k2 : i < 0) :
    Calls Tryd.prog 5 #[.slice A m c, .int .i64 i, idv v] w fun e w' => e = .returned (.bool true) ∧ Below w.heap.size w w' := by
  have K5 : Hid (decide (64 < (m : Int)) = false) := decide_eq_false (by omega)
  have K9 : Hid (decide (i < 0) = true) := decide_eq_true (by omega)
  clear k1
  have E0 : Hid (EnvX w (w.alloc (.cells (arrB 32 v) 24)) [(w.heap.size, Obj.cells (arrB 32 v) 24 (0, 0))]) := (EnvX.start w).new _
  have HAW := Lib.hid (lawake_any T K (w.alloc (.cells (arrB 32 v) 24)) (ht.below (EnvX.bel E0.out)))
  have HT := Lib.hid ht
  have HTR := Lib.hid T
  have HK := Lib.hid K
  clear ht T K
  unfold idv
  go_enter Tryd.func5, Tryd.ntmps5
  go_upto_region 1 with (fail)
  generalize (w.alloc (.cells (arrB 32 v) 24)) = W at *
  go_wp2_with fail
  refine HAW.out.mono ?_
  rintro e w1 ⟨rfl, hb1⟩
  have HB1 := Lib.hid (EnvX.below E0.out hb1).bel
  have E1 : Hid (EnvX w1 w1 [(w.heap.size, Obj.cells (arrB 32 v) 24 (0, 0))]) := ⟨Below.refl _ _, (EnvX.below E0.out hb1).box⟩
  have HT1 := Lib.hid (HT.out.below HB1.out)
  clear hb1 E0 HAW
  go_upto_region 2 with (fail)
  refine wp_region_Hx (w0 := w1) [0, 1, 2, 3, 4, 5, 6, 7, 8, 9, 10, 11, 12, 13, 14, 15, 16] [(w.heap.size, Obj.cells (arrB 32 v) 24 (0, 0))] rfl E1.out ?_
  refine lexH_phase [0, 1, 2, 3, 4, 5, 6, 7, 8, 9, 10, 11, 12, 13, 14, 15, 16] [] ?_
  have hw701 : EnvX w1 _ [(w.heap.size, Obj.cells (arrB 32 v) 24 (0, 0))] := E1.out
  have hone := @EnvC.one _ _ _ hw701
  (refine wpG_op rfl rfl rfl ?_; intro K hK; go_big_quiet_op; go_big_quiet_on)
  (refine wpG_op rfl rfl rfl ?_; intro K hK; go_big_quiet_op; go_big_quiet_on)
  (refine wpG_op rfl rfl rfl ?_; intro K hK; go_big_quiet_op; go_big_quiet_on)
  (refine wpG_op rfl rfl rfl ?_; intro K hK; go_big_quiet_op; go_big_quiet_on)
  (refine wpG_val (v := .int .i64 (m : Int)) rfl rfl (fun u hu => lenI_op u rfl) ?_ hw701; intro K hK; go_big_quiet_op; go_big_quiet_on)
  (refine wpG_val (v := .bool false) rfl rfl (fun u hu => gtZ_op u K5.out rfl rfl) ?_ hw701; intro K hK; go_big_quiet_op; go_big_quiet_on)
  (refine wpG_op rfl rfl rfl ?_; intro K hK; go_big_quiet_op; go_big_quiet_on)
  (refine wpG_op rfl rfl rfl ?_; intro K hK; go_big_quiet_op; go_big_quiet_on)
  (refine wpG_op rfl rfl rfl ?_; intro K hK; go_big_quiet_op; go_big_quiet_on)
  (refine wpG_val (v := .bool true) rfl rfl (fun u hu => ltZ_op u K9.out rfl rfl) ?_ hw701; intro K hK; go_big_quiet_op; go_big_quiet_on)
  (refine wpG_op rfl rfl rfl ?_; intro K hK; go_big_quiet_op; go_big_quiet_on)
  (refine wpG_op rfl rfl rfl ?_; intro K hK; go_big_quiet_op; go_big_quiet_on)
  (refine wpG_skip rfl rfl ?_ hw701; intro K hK; go_big_quiet_op; go_big_quiet_on)
  (refine wpG_skip rfl rfl ?_ hw701; intro K hK; go_big_quiet_op; go_big_quiet_on)
  (refine wpG_skip rfl rfl ?_ hw701; intro K hK; go_big_quiet_op; go_big_quiet_on)
  (refine wpG_skip rfl rfl ?_ hw701; intro K hK; go_big_quiet_op; go_big_quiet_on)
  (refine wpG_op rfl rfl rfl ?_; intro K hK; go_big_quiet_op; go_big_quiet_on)
  clear hone hw701
  refine wpG_nil ?_
  intro u703 E2'
  have EX702 := Lib.hid E2'
  clear E2'
  have HB1 := Lib.hid (HB1.out.trans ((EnvX.bel EX702.out).mono HB1.out.size))
  have HT1 := Lib.hid (HT1.out.below (EnvX.bel EX702.out))
  have E1 : Hid (EnvX u703 u703 [(w.heap.size, Obj.cells (arrB 32 v) 24 (0, 0))]) := ⟨Below.refl _ _, EX702.out.box⟩
  clear EX702
  go_wp2
  go_ret
  exact ⟨rfl, HB1.out⟩
set_option maxRecDepth 20000 in
set_option maxHeartbeats 8000000 in
theorem llaw_paths_over (T : TreeC) (K : LinkC) (l : List (List Int)) (i : Int) (v : List Int) (A : Option Addr) (m c : Nat) (w : World) (hl : l.length = m) (hmc : m ≤ c) (hcm : c ≤ maxLen) (hI : isIds l) (hi : I64 i) (hv : isId v) (hA : IdsIn w w.heap.size A l) (ht : Tables w) (k1 : m ≤ 64) (k2 : 0 ≤ i) (k3 : (m : Int) ≤ i) :
    Calls Tryd.prog 5 #[.slice A m c, .int .i64 i, idv v] w fun e w' => e = .returned (.bool true) ∧ Below w.heap.size w w' := by
  have K5 : Hid (decide (64 < (m : Int)) = false) := decide_eq_false (by omega)
  have K9 : Hid (decide (i < 0) = false) := decide_eq_false (by omega)
  have K15 : Hid (decide ((m : Int) ≤ i) = true) := decide_eq_true (by omega)
  clear k1
  have E0 : Hid (EnvX w (w.alloc (.cells (arrB 32 v) 24)) [(w.heap.size, Obj.cells (arrB 32 v) 24 (0, 0))]) := (EnvX.start w).new _
  have HAW := Lib.hid (lawake_any T K (w.alloc (.cells (arrB 32 v) 24)) (ht.below (EnvX.bel E0.out)))
  have HT := Lib.hid ht
  have HTR := Lib.hid T
  have HK := Lib.hid K
  clear ht T K
  unfold idv
  go_enter Tryd.func5, Tryd.ntmps5
  go_upto_region 1 with (fail)
  generalize (w.alloc (.cells (arrB 32 v) 24)) = W at *
  go_wp2_with fail
  refine HAW.out.mono ?_
  rintro e w1 ⟨rfl, hb1⟩
  have HB1 := Lib.hid (EnvX.below E0.out hb1).bel
  have E1 : Hid (EnvX w1 w1 [(w.heap.size, Obj.cells (arrB 32 v) 24 (0, 0))]) := ⟨Below.refl _ _, (EnvX.below E0.out hb1).box⟩
  have HT1 := Lib.hid (HT.out.below HB1.out)
  clear hb1 E0 HAW
  go_upto_region 2 with (fail)
  refine wp_region_Hx (w0 := w1) [0, 1, 2, 3, 4, 5, 6, 7, 8, 9, 10, 11, 12, 13, 14, 15, 16] [(w.heap.size, Obj.cells (arrB 32 v) 24 (0, 0))] rfl E1.out ?_
  refine lexH_phase [0, 1, 2, 3, 4, 5, 6, 7, 8, 9, 10, 11, 12, 13, 14, 15, 16] [] ?_
  have hw701 : EnvX w1 _ [(w.heap.size, Obj.cells (arrB 32 v) 24 (0, 0))] := E1.out
  have hone := @EnvC.one _ _ _ hw701
  (refine wpG_op rfl rfl rfl ?_; intro K hK; go_big_quiet_op; go_big_quiet_on)
  (refine wpG_op rfl rfl rfl ?_; intro K hK; go_big_quiet_op; go_big_quiet_on)
  (refine wpG_op rfl rfl rfl ?_; intro K hK; go_big_quiet_op; go_big_quiet_on)
  (refine wpG_op rfl rfl rfl ?_; intro K hK; go_big_quiet_op; go_big_quiet_on)
  (refine wpG_val (v := .int .i64 (m : Int)) rfl rfl (fun u hu => lenI_op u rfl) ?_ hw701; intro K hK; go_big_quiet_op; go_big_quiet_on)
  (refine wpG_val (v := .bool false) rfl rfl (fun u hu => gtZ_op u K5.out rfl rfl) ?_ hw701; intro K hK; go_big_quiet_op; go_big_quiet_on)
  (refine wpG_op rfl rfl rfl ?_; intro K hK; go_big_quiet_op; go_big_quiet_on)
  (refine wpG_op rfl rfl rfl ?_; intro K hK; go_big_quiet_op; go_big_quiet_on)
  (refine wpG_op rfl rfl rfl ?_; intro K hK; go_big_quiet_op; go_big_quiet_on)
  (refine wpG_val (v := .bool false) rfl rfl (fun u hu => ltZ_op u K9.out rfl rfl) ?_ hw701; intro K hK; go_big_quiet_op; go_big_quiet_on)
  (refine wpG_op rfl rfl rfl ?_; intro K hK; go_big_quiet_op; go_big_quiet_on)
  (refine wpG_op rfl rfl rfl ?_; intro K hK; go_big_quiet_op; go_big_quiet_on)
  (refine wpG_op rfl rfl rfl ?_; intro K hK; go_big_quiet_op; go_big_quiet_on)
  (refine wpG_op rfl rfl rfl ?_; intro K hK; go_big_quiet_op; go_big_quiet_on)
  (refine wpG_val (v := .int .i64 (m : Int)) rfl rfl (fun u hu => lenI_op u rfl) ?_ hw701; intro K hK; go_big_quiet_op; go_big_quiet_on)
  (refine wpG_val (v := .bool true) rfl rfl (fun u hu => geq_op u K15.out rfl rfl) ?_ hw701; intro K hK; go_big_quiet_op; go_big_quiet_on)
  (refine wpG_op rfl rfl rfl ?_; intro K hK; go_big_quiet_op; go_big_quiet_on)
  clear hone hw701
  refine wpG_nil ?_
  intro u703 E2'
  have EX702 := Lib.hid E2'
  clear E2'
  have HB1 := Lib.hid (HB1.out.trans ((EnvX.bel EX702.out).mono HB1.out.size))
  have HT1 := Lib.hid (HT1.out.below (EnvX.bel EX702.out))
  have E1 : Hid (EnvX u703 u703 [(w.heap.size, Obj.cells (arrB 32 v) 24 (0, 0))]) := ⟨Below.refl _ _, EX702.out.box⟩
  clear EX702
  go_wp2
  go_ret
  exact ⟨rfl, HB1.out⟩
set_option maxRecDepth 20000 in
set_option maxHeartbeats 8000000 in
theorem llaw_paths_main (T : TreeC) (K : LinkC) (l : List (List Int)) (j : Nat) (v : List Int) (A : Option Addr) (m c : Nat) (w : World) (hl : l.length = m) (hmc : m ≤ c) (hcm : c ≤ maxLen) (hI : isIds l) (hi : I64 (j : Int)) (hv : isId v) (hA : IdsIn w w.heap.size A l) (ht : Tables w) (k1 : m ≤ 64) (k2 : j < m) :
    Calls Tryd.prog 5 #[.slice A m c, .int .i64 (j : Int), idv v] w fun e w' => e = .returned (.bool true) ∧ Below w.heap.size w w' := by
  have K5 : Hid (decide (64 < (m : Int)) = false) := decide_eq_false (by omega)
  have K9 : Hid (decide ((j : Int) < 0) = false) := decide_eq_false (by omega)
  have K15 : Hid (decide ((m : Int) ≤ (j : Int)) = false) := decide_eq_false (by omega)
  have hLl : (leavesL l).length = m := by rw [leavesL_len, hl]
  have HPR : Hid (pathR (leavesL l) j = (pathT (leavesL l) j, true)) := by
    show _ = _
    unfold pathR
    rw [if_pos ⟨by omega, by omega, by omega⟩]
    rfl
  have hg : (leavesL l).getD j [] = leafT (l.getD j []) := map_getD l leafT [] [] (by omega)
  have HCK : Hid (checkT (rootT (leavesL l)) m j (leafT (l.getD j [])) (pathT (leavesL l) j) = true) := by
    have h := check_path (l := leavesL l) (i := j) (by omega) (by omega)
    rwa [hLl, hg] at h
  have HPL : Hid ((pathT (leavesL l) j).length ≤ 6) := by
    show _ ≤ _
    rw [path_len m (leavesL l) j hLl]
    exact sides_le 6 m j (by omega)
  have HPI := Lib.hid (path_ids _ (leavesL l) j rfl (leavesL_ids l))
  have HRI : Hid (isId (rootT (leavesL l))) := root_id (leavesL_ids l)
  have HLD1 : Hid (leadsT l v (l.getD j []) = true) := decide_eq_true (.inr (getD_mem l [] (by omega)))
  have HLD2 : Hid (leadsT l v v = true) := decide_eq_true (.inl rfl)
  have HY := Lib.hid (hI.get (i := j) (by omega))
  have HV := Lib.hid hv
  have HL := Lib.hid (And.intro hl (And.intro hmc hcm))
  have HIA := Lib.hid (And.intro hI hA)
  have HJ := Lib.hid k2
  have HJM := Lib.hid (And.intro hi k1)
  clear hl hI hv hA hmc hcm hi k1 k2 hLl hg
  have E0 : Hid (EnvX w (w.alloc (.cells (arrB 32 v) 24)) [(w.heap.size, Obj.cells (arrB 32 v) 24 (0, 0))]) := (EnvX.start w).new _
  have HAW := Lib.hid (lawake_any T K (w.alloc (.cells (arrB 32 v) 24)) (ht.below (EnvX.bel E0.out)))
  have HT := Lib.hid ht
  have HTR := Lib.hid T
  have HK := Lib.hid K
  clear ht T K
  unfold idv
  go_enter Tryd.func5, Tryd.ntmps5
  go_upto_region 1 with (fail)
  generalize (w.alloc (.cells (arrB 32 v) 24)) = W at *
  go_wp2_with fail
  refine HAW.out.mono ?_
  rintro e w1 ⟨rfl, hb1⟩
  have HB1 := Lib.hid (EnvX.below E0.out hb1).bel
  have E1 : Hid (EnvX w1 w1 [(w.heap.size, Obj.cells (arrB 32 v) 24 (0, 0))]) := ⟨Below.refl _ _, (EnvX.below E0.out hb1).box⟩
  have HT1 := Lib.hid (HT.out.below HB1.out)
  clear hb1 E0 HAW
  go_upto_region 2 with (fail)
  refine wp_region_Hx (w0 := w1) [0, 1, 2, 3, 4, 5, 6, 7, 8, 9, 10, 11, 12, 13, 14, 15, 16] [(w.heap.size, Obj.cells (arrB 32 v) 24 (0, 0))] rfl E1.out ?_
  refine lexH_phase [0, 1, 2, 3, 4, 5, 6, 7, 8, 9, 10, 11, 12, 13, 14, 15, 16] [] ?_
  have hw701 : EnvX w1 _ [(w.heap.size, Obj.cells (arrB 32 v) 24 (0, 0))] := E1.out
  have hone := @EnvC.one _ _ _ hw701
  (refine wpG_op rfl rfl rfl ?_; intro K hK; go_big_quiet_op; go_big_quiet_on)
  (refine wpG_op rfl rfl rfl ?_; intro K hK; go_big_quiet_op; go_big_quiet_on)
  (refine wpG_op rfl rfl rfl ?_; intro K hK; go_big_quiet_op; go_big_quiet_on)
  (refine wpG_op rfl rfl rfl ?_; intro K hK; go_big_quiet_op; go_big_quiet_on)
  (refine wpG_val (v := .int .i64 (m : Int)) rfl rfl (fun u hu => lenI_op u rfl) ?_ hw701; intro K hK; go_big_quiet_op; go_big_quiet_on)
  (refine wpG_val (v := .bool false) rfl rfl (fun u hu => gtZ_op u K5.out rfl rfl) ?_ hw701; intro K hK; go_big_quiet_op; go_big_quiet_on)
  (refine wpG_op rfl rfl rfl ?_; intro K hK; go_big_quiet_op; go_big_quiet_on)
  (refine wpG_op rfl rfl rfl ?_; intro K hK; go_big_quiet_op; go_big_quiet_on)
  (refine wpG_op rfl rfl rfl ?_; intro K hK; go_big_quiet_op; go_big_quiet_on)
  (refine wpG_val (v := .bool false) rfl rfl (fun u hu => ltZ_op u K9.out rfl rfl) ?_ hw701; intro K hK; go_big_quiet_op; go_big_quiet_on)
  (refine wpG_op rfl rfl rfl ?_; intro K hK; go_big_quiet_op; go_big_quiet_on)
  (refine wpG_op rfl rfl rfl ?_; intro K hK; go_big_quiet_op; go_big_quiet_on)
  (refine wpG_op rfl rfl rfl ?_; intro K hK; go_big_quiet_op; go_big_quiet_on)
  (refine wpG_op rfl rfl rfl ?_; intro K hK; go_big_quiet_op; go_big_quiet_on)
  (refine wpG_val (v := .int .i64 (m : Int)) rfl rfl (fun u hu => lenI_op u rfl) ?_ hw701; intro K hK; go_big_quiet_op; go_big_quiet_on)
  (refine wpG_val (v := .bool false) rfl rfl (fun u hu => geq_op u K15.out rfl rfl) ?_ hw701; intro K hK; go_big_quiet_op; go_big_quiet_on)
  (refine wpG_op rfl rfl rfl ?_; intro K hK; go_big_quiet_op; go_big_quiet_on)
  clear hone hw701
  refine wpG_nil ?_
  intro u703 E2'
  have EX702 := Lib.hid E2'
  clear E2'
  have HB1 := Lib.hid (HB1.out.trans ((EnvX.bel EX702.out).mono HB1.out.size))
  have HT1 := Lib.hid (HT1.out.below (EnvX.bel EX702.out))
  have E1 : Hid (EnvX u703 u703 [(w.heap.size, Obj.cells (arrB 32 v) 24 (0, 0))]) := ⟨Below.refl _ _, EX702.out.box⟩
  clear EX702
  have HP1 : Hid (Calls Tryd.prog 13 #[.slice A m c, .int .i64 j] u703 fun e w' => (∃ v, e = .returned (.tuple #[v, .bool true]) ∧ OwnI w' u703.heap.size v (pathT (leavesL l) j)) ∧ Below u703.heap.size u703 w') := by
    have h := HK.out.path l j A m c u703 HL.out.1 (by have := HJM.out.2; omega) HL.out.2.1 HL.out.2.2 HJM.out.1 HIA.out.1 (HIA.out.2.up HB1.out) HT1.out
    rw [HPR.out] at h
    exact h
  go_upto_region 4 with (fail)
  go_wp2_with fail
  refine HP1.out.mono ?_
  rintro e w2 ⟨⟨vp, rfl, hvp⟩, hb2⟩
  have HB2 := Lib.hid (HB1.out.trans (hb2.mono HB1.out.size))
  have HT2 := Lib.hid (HT.out.below HB2.out)
  have HLI : Hid (∀ u, EnvX w2 u [] → (loadVar 24 ⟨w.heap.size, 0, none⟩).run Tryd.prog u = .ok (idv v) u) := fun u hu => box_load (EnvX.comb (EnvX.below E1.out hb2) hu) (List.mem_append_right [] (List.Mem.head _)) HV.out.1
  obtain ⟨Ap, cp, rfl, hp1, hp2⟩ := hvp.form
  have HPP := Lib.hid hvp.ids
  have HPC := Lib.hid (And.intro hp1 hp2)
  have HAL := Lib.hid (HIA.out.2.up HB2.out)
  obtain ⟨al, rfl, -⟩ := HAL.out.load HIA.out.1 (i := 0) (by have := HJ.out; rw [HL.out.1]; omega)
  have HLL : Hid (∀ k, k < m → ∀ u, EnvX w2 u [] → (loadVar 24 (al.add (k * 32))).run Tryd.prog u = .ok (idv (l.getD k [])) u) := fun k hk u hu => by
    obtain ⟨a2, e, h⟩ := (HAL.out.up (EnvX.bel hu)).load HIA.out.1 (i := k) (by rw [HL.out.1]; exact hk)
    cases e
    exact h
  have HRT : Hid (∀ u, EnvX w2 u [] → Calls Tryd.prog 17 #[.slice (some al) m c] u fun e w' => e = .returned (idv (rootT (leavesL l))) ∧ Below u.heap.size u w') := fun u hu => HK.out.root l (some al) m c u HL.out.1 (by have := HJM.out.2; omega) HL.out.2.1 HL.out.2.2 HIA.out.1 (HAL.out.up (EnvX.bel hu)) (HT2.out.below (EnvX.bel hu))
  have HCC : Hid (∀ u, EnvX w2 u [] → Calls Tryd.prog 19 #[idv (rootT (leavesL l)), .int .i64 m, .int .i64 j, idv (l.getD j []), .slice Ap (pathT (leavesL l) j).length cp] u fun e w' => e = .returned (.bool true) ∧ Below u.heap.size u w') := fun u hu => by
    rw [← HCK.out]
    exact HK.out.check (rootT (leavesL l)) (l.getD j []) m j (pathT (leavesL l) j) Ap _ cp u HRI.out HY.out ⟨by have := HJM.out.2; omega, by have := HJM.out.2; omega⟩ HJM.out.1 rfl (by have := HPL.out; omega) HPC.out.1 HPC.out.2 HPI.out (HPP.out.up (EnvX.bel hu)) (HT2.out.below (EnvX.bel hu))
  have HL1 : Hid (∀ u, EnvX w2 u [] → Calls Tryd.prog 18 #[.slice (some al) m c, idv v, idv (l.getD j [])] u fun e w' => e = .returned (.bool true) ∧ Below u.heap.size u w') := fun u hu => by
    have h := HK.out.leads l v (l.getD j []) (some al) m c u HL.out.1 (by have := HJM.out.2; omega) HL.out.2.1 HL.out.2.2 HIA.out.1 HV.out HY.out (HAL.out.up (EnvX.bel hu)) (HT2.out.below (EnvX.bel hu))
    rwa [HLD1.out] at h
  have HL2 : Hid (∀ u, EnvX w2 u [] → Calls Tryd.prog 18 #[.slice (some al) m c, idv v, idv v] u fun e w' => e = .returned (.bool true) ∧ Below u.heap.size u w') := fun u hu => by
    have h := HK.out.leads l v v (some al) m c u HL.out.1 (by have := HJM.out.2; omega) HL.out.2.1 HL.out.2.2 HIA.out.1 HV.out HV.out (HAL.out.up (EnvX.bel hu)) (HT2.out.below (EnvX.bel hu))
    rwa [HLD2.out] at h
  have EU : Hid (EnvX w2 w2 []) := EnvX.start _
  clear hvp hb2 hp1 hp2 HP1 E1 HT HT1 HB1 HCK HPR
  generalize hpn : (pathT (leavesL l) j).length = pn at *
  generalize hrr : rootT (leavesL l) = rr at *
  have HLJ := Lib.hid (HLL.out j HJ.out)
  generalize l.getD j [] = y at *
  clear hpn hrr
  go_upto_region 5 with (fail)
  refine wp_region_H (w0 := w2) [] (by kernel_rfl) EU.out ?_
  refine anyH_phaseN [0, 1, 2, 3, 4, 5, 6, 7, 8, 9, 10, 11, 12, 13, 14, 15, 16, 17, 18, 19, 20, 21, 22, 23, 24, 25, 26, 27, 28, 29] 0 rfl (by kernel_rfl) ?_
  have hw801 : EnvX w2 _ [] := EnvX.sub (EnvX.drew EU.out) (fun _ h => by cases h)
  have hone := @EnvC.one _ _ _ hw801
  (refine wpG_op rfl rfl rfl ?_; intro K hK; go_big_quiet_op; go_big_quiet_on)
  (refine wpG_op rfl rfl rfl ?_; intro K hK; go_big_quiet_op; go_big_quiet_on)
  (refine wpG_op rfl rfl rfl ?_; intro K hK; go_big_quiet_op; go_big_quiet_on)
  (refine wpG_call (f := 17) (args := #[.slice (some al) m c]) (v := idv rr) rfl rfl rfl Tryd.func17 rfl rfl (fun u hu => HRT.out u (EnvX.sub hu (fun _ h => by cases h))) ?_ hw801; intro K hK; go_big_quiet_op; go_big_quiet_on)
  (refine wpG_op rfl rfl rfl ?_; intro K hK; go_big_quiet_op; go_big_quiet_on)
  (refine wpG_val (v := .int .i64 (m : Int)) rfl rfl (fun u hu => lenI_op u rfl) ?_ hw801; intro K hK; go_big_quiet_op; go_big_quiet_on)
  (refine wpG_op rfl rfl rfl ?_; intro K hK; go_big_quiet_op; go_big_quiet_on)
  (refine wpG_op rfl rfl rfl ?_; intro K hK; go_big_quiet_op; go_big_quiet_on)
  (refine wpG_op rfl rfl rfl ?_; intro K hK; go_big_quiet_op; go_big_quiet_on)
  (refine wpG_val (v := .pointer (some (al.add (j * 32)))) rfl rfl (fun u hu => idxSl_op (i := j) Tryd.underlying22 aggIdT.size HJ.out u rfl rfl) ?_ hw801; intro K hK; go_big_quiet_op; go_big_quiet_on)
  (refine wpG_val (v := idv y) rfl rfl (fun u hu => load_any_op u (HLJ.out u (EnvX.sub hu (fun _ h => by cases h))) rfl) ?_ hw801; intro K hK; go_big_quiet_op; go_big_quiet_on)
  (refine wpG_op rfl rfl rfl ?_; intro K hK; go_big_quiet_op; go_big_quiet_on)
  (refine wpG_call (f := 19) (args := #[idv rr, .int .i64 m, .int .i64 j, idv y, .slice Ap pn cp]) (v := .bool true) rfl rfl rfl Tryd.func19 rfl rfl (fun u hu => HCC.out u (EnvX.sub hu (fun _ h => by cases h))) ?_ hw801; intro K hK; go_big_quiet_op; go_big_quiet_on)
  (refine wpG_op rfl rfl rfl ?_; intro K hK; go_big_quiet_op; go_big_quiet_on)
  (refine wpG_op rfl rfl rfl ?_; intro K hK; go_big_quiet_op; go_big_quiet_on)
  (refine wpG_op rfl rfl rfl ?_; intro K hK; go_big_quiet_op; go_big_quiet_on)
  (refine wpG_val (v := idv v) rfl rfl (fun u hu => load_any_op u (HLI.out u (EnvX.sub hu (fun _ h => by cases h))) rfl) ?_ hw801; intro K hK; go_big_quiet_op; go_big_quiet_on)
  (refine wpG_op rfl rfl rfl ?_; intro K hK; go_big_quiet_op; go_big_quiet_on)
  (refine wpG_op rfl rfl rfl ?_; intro K hK; go_big_quiet_op; go_big_quiet_on)
  (refine wpG_val (v := .pointer (some (al.add (j * 32)))) rfl rfl (fun u hu => idxSl_op (i := j) Tryd.underlying22 aggIdT.size HJ.out u rfl rfl) ?_ hw801; intro K hK; go_big_quiet_op; go_big_quiet_on)
  (refine wpG_val (v := idv y) rfl rfl (fun u hu => load_any_op u (HLJ.out u (EnvX.sub hu (fun _ h => by cases h))) rfl) ?_ hw801; intro K hK; go_big_quiet_op; go_big_quiet_on)
  (refine wpG_call (f := 18) (args := #[.slice (some al) m c, idv v, idv y]) (v := .bool true) rfl rfl rfl Tryd.func18 rfl rfl (fun u hu => HL1.out u (EnvX.sub hu (fun _ h => by cases h))) ?_ hw801; intro K hK; go_big_quiet_op; go_big_quiet_on)
  (refine wpG_op rfl rfl rfl ?_; intro K hK; go_big_quiet_op; go_big_quiet_on)
  (refine wpG_op rfl rfl rfl ?_; intro K hK; go_big_quiet_op; go_big_quiet_on)
  (refine wpG_op rfl rfl rfl ?_; intro K hK; go_big_quiet_op; go_big_quiet_on)
  (refine wpG_val (v := idv v) rfl rfl (fun u hu => load_any_op u (HLI.out u (EnvX.sub hu (fun _ h => by cases h))) rfl) ?_ hw801; intro K hK; go_big_quiet_op; go_big_quiet_on)
  (refine wpG_val (v := idv v) rfl rfl (fun u hu => load_any_op u (HLI.out u (EnvX.sub hu (fun _ h => by cases h))) rfl) ?_ hw801; intro K hK; go_big_quiet_op; go_big_quiet_on)
  (refine wpG_call (f := 18) (args := #[.slice (some al) m c, idv v, idv v]) (v := .bool true) rfl rfl rfl Tryd.func18 rfl rfl (fun u hu => HL2.out u (EnvX.sub hu (fun _ h => by cases h))) ?_ hw801; intro K hK; go_big_quiet_op; go_big_quiet_on)
  (refine wpG_op rfl rfl rfl ?_; intro K hK; go_big_quiet_op; go_big_quiet_on)
  (refine wpG_op rfl rfl rfl ?_; intro K hK; go_big_quiet_op; go_big_quiet_on)
  clear hone hw801
  refine wpG_nil ?_
  refine anyH_done (by kernel_rfl) ?_
  intro u803 E2'
  have EX802 := Lib.hid E2'
  clear E2'
  have HBE := Lib.hid (HB2.out.trans ((EnvX.bel EX802.out).mono HB2.out.size))
  go_wp2
  go_ret
  exact ⟨rfl, HBE.out⟩
theorem llaw_paths (T : TreeC) (K : LinkC) (l : List (List Int)) (i : Int) (v : List Int) (A : Option Addr) (m c : Nat) (w : World) (hl : l.length = m) (hmc : m ≤ c) (hcm : c ≤ maxLen) (hI : isIds l) (hi : I64 i) (hv : isId v) (hA : IdsIn w w.heap.size A l) (ht : Tables w) :
    Calls Tryd.prog 5 #[.slice A m c, .int .i64 i, idv v] w fun e w' => e = .returned (.bool true) ∧ Below w.heap.size w w' := by
  by_cases k1 : 64 < m
  · exact llaw_paths_many T K l i v A m c w hl hmc hcm hI hi hv hA ht k1
  · by_cases k2 : i < 0
    · exact llaw_paths_neg T K l i v A m c w hl hmc hcm hI hi hv hA ht (by omega) k2
    · by_cases k3 : (m : Int) ≤ i
      · exact llaw_paths_over T K l i v A m c w hl hmc hcm hI hi hv hA ht (by omega) (by omega) k3
      · obtain ⟨j, rfl⟩ := Int.eq_ofNat_of_zero_le (by omega : 0 ≤ i)
        exact llaw_paths_main T K l j v A m c w hl hmc hcm hI hi hv hA ht (by omega) (by omega)
end Go.Proofs.YtbjojpgedcikiaaDoor

namespace Go.Proofs.YtbjojpgedcikiaaDoor.linkPaths
set_option maxRecDepth 8000
open Go.ChangeShapes Go.WideShapes Go.ChangeAt Go.RowKit

theorem contract (H : Type) (enc : TypeId × Value → H) (W : World) (base : Nat) (args : Array Value) (ds gs : List (DataW H)) (before : List MemPlace)
    (hval : ∀ (j : Nat) t v, Tryd.f5.params[j]? = some t → args[j]? = some v → Value.okWide Tryd.prog W .any base t v)
    (hW : DataW.Whole enc Tryd.prog Tryd.f5.params.toList Rows.linkPathsSpec.vars false W args.toList ds gs before) (hL : laidMetH Tryd.prog Rows.linkPathsRow.laid W) :
    Calls Tryd.prog 5 args W fun e W' => ∃ v, e = .returned v ∧ Rows.linkPathsSpec.post enc Tryd.prog Tryd.f5 false true false false W args v W' := by
  have hW' := hW
  obtain ⟨p, q, hA0, hV, rfl, hfz, hnd⟩ := hW
  have hA : DataW.TrodAll enc Tryd.prog W 0 (fun _ => true) true Tryd.f5.params.toList args.toList ds p := hA0
  rw [Tryd.params5] at hA hval
  obtain ⟨v0, vs0, d0, ds0, p0, q0, hargs, rfl, rfl, h0, r0⟩ := trodAll_cons hA
  obtain ⟨v1, vs1, d1, ds1, p1, q1, rfl, rfl, rfl, h1, r1⟩ := trodAll_cons r0
  obtain ⟨v2, vs2, d2, ds2, p2, q2, rfl, rfl, rfl, h2, r2⟩ := trodAll_cons r1
  obtain ⟨rfl, rfl, rfl⟩ := trodAll_nil r2
  obtain rfl : args = #[v0, v1, v2] := by cases args; simp_all
  obtain ⟨rfl, rfl⟩ := trodVars_none hV
  have lt0 : ∀ x ∈ p0, x.block < W.heap.size := by obtain ⟨m, hm⟩ := h0; exact DataW.trod_lt m _ _ _ hm
  obtain ⟨a0, n0, c0, x0, rfl, lx0, nc0, cm0, ix0, px0⟩ := open_ids (hval 0 22 v0 rfl rfl) h0
  obtain ⟨x1, rfl, rfl, rfl, wx1⟩ := open_int Tryd.underlying3 (hval 1 3 v1 rfl rfl) h1
  have lt2 : ∀ x ∈ p2, x.block < W.heap.size := by obtain ⟨m, hm⟩ := h2; exact DataW.trod_lt m _ _ _ hm
  obtain ⟨x2, rfl, lx2, rx2⟩ := open_id (hval 2 24 v2 rfl rfl) h2
  clear hA0
  refine (llaw_paths treeC linkC x0 x1 x2 a0 n0 c0 W lx0 nc0 cm0 ix0 (bounds_i64 wx1) ⟨lx2, rx2⟩ px0 (tables_of_laid hL)).mono fun e W' ⟨he, bel⟩ => ?_
  subst he
  exact ⟨_, rfl, _, _, _, [], _, [], hW', trodAll_mk1 (shut_bool Tryd.underlying4 _), (trodAll_cons_mk (Below.trod laidOut (by kernel_rfl) (of_decide_eq_true (by kernel_rfl)) h0 bel lt0) (trodAll_cons_mk (shut_int Tryd.underlying3 wx1) (trodAll_cons_mk (Below.trod laidOut (by kernel_rfl) (of_decide_eq_true (by kernel_rfl)) h2 bel lt2) trodAll_mk0))), rfl, bel.frame _, fun h => by cases h⟩

def start : Array Value := #[.slice none 0 0, .int .i64 0, zeroId]
theorem reads (os : Os) {H : Type} (enc : TypeId × Value → H) : ∃ places, DataW.whole enc Tryd.prog ((laidWorld os).forCall (fun _ _ => 0) ⟨#[], start, []⟩).memory Tryd.f5.params.toList Rows.linkPathsSpec.vars false start.toList 8 = some ([.nil, .lit (.int .i64 0), zeroD], [], places) :=
  ⟨[], by kernel_rfl⟩

set_option maxRecDepth 100000 in
theorem lifted (os : Os) (started : os.Started) (H : Type) (enc : TypeId × Value → H) (F : Stop.Interp) :
    ReturnsInHanded {} Tryd.checked os 5 .any ((OpenSpec.ofChange Rows.linkPathsSpec).preRow enc Tryd.prog Tryd.f5 Rows.linkPathsRow.domain false Rows.linkPathsRow.laid) (((OpenSpec.ofChange Rows.linkPathsSpec).at F).post enc Tryd.prog Tryd.f5 false true false false) := by
  obtain ⟨places, hx⟩ := reads os enc
  refine returnsInHanded_of_row (C := Tryd.checked) (s := OpenSpec.ofChange Rows.linkPathsSpec) own started (by kernel_rfl) Tryd.func5
    (witness_row_at (enc := enc) (C := Tryd.checked) false (laidWorld os) start rfl (by kernel_rfl) (by kernel_rfl) (by kernel_rfl)
      (OpenSpec.preRow_of_cond 8 hx (by kernel_rfl) (fun k hk => by cases hk) (by kernel_rfl) (laidMet_of_run' 8 (by kernel_rfl) (by kernel_rfl)))) ?_
  intro W base args ds gs before hval hW _ _ _ hL _ _
  exact contract H enc W base args ds gs before hval hW hL

theorem said : Rows.LinkPathsSaid :=
  OpenClaim.holds_of_cond 5 Tryd.f5 rfl rfl rfl rfl rfl rfl rfl ⟨rfl, rfl, rfl, rfl, rfl⟩ rfl rfl rfl rfl rfl (by kernel_rfl) Tryd.func5 (by kernel_rfl)
    (of_decide_eq_true (by kernel_rfl)) (by unfold Func.isWrapper; first | (rw [if_pos (by decide +kernel)]; kernel_rfl) | (rw [if_neg (by decide +kernel)]; exact ⟨rfl, rfl⟩))
    (fun os started H enc _ F => by rw [OpenClaim.pre_eq_preRow]; exact lifted os started H enc F)

theorem plain (f : FuncId) (fn : Func) (hf : Tryd.pinned.checked.prog.funcNamed "stepladder/stepladderlaw07.LinkPaths" = some f) (hfn : Tryd.pinned.checked.prog.funcs[f]? = some fn) :
    false = Tryd.pinned.checked.prog.looks [] ∧ ∀ (j : Nat) t, fn.params[j]? = some t → Tryd.pinned.checked.prog.wantsStandIn t = false := by
  obtain rfl : f = 5 := Option.some.inj ((show Tryd.prog.funcNamed "stepladder/stepladderlaw07.LinkPaths" = some 5 by kernel_rfl).symm.trans hf) |>.symm
  obtain rfl : fn = Tryd.f5 := (Option.some.inj (Tryd.func5.symm.trans hfn)).symm
  refine ⟨by kernel_rfl, fun j t ht => ?_⟩
  rw [Tryd.params5] at ht
  have hm : t = 22 ∨ t = 3 ∨ t = 24 := by simpa using Array.mem_of_getElem? ht
  rcases hm with rfl | rfl | rfl
  · exact (show Tryd.prog.wantsStandIn 22 = false by kernel_rfl)
  · exact (show Tryd.prog.wantsStandIn 3 = false by kernel_rfl)
  · exact (show Tryd.prog.wantsStandIn 24 = false by kernel_rfl)
theorem card : Rows.LinkPathsCardSaid :=
  Claim7.holds_tied_plain_at .later [] _ _ _ _ said (fun _ h => by cases h) (by kernel_rfl) (fun _ h => by cases h) linkPaths_row_tie rfl ⟨rfl, rfl⟩ (by kernel_rfl) rfl plain (by kernel_rfl)

end Go.Proofs.YtbjojpgedcikiaaDoor.linkPaths
