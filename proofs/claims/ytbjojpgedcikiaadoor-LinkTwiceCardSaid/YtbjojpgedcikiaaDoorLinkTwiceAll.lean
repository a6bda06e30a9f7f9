/-
  PROVED: the law stepladderlaw07.LinkTwice answers true for every input, and leaves its arguments as they were.
  Conditions: the two package-level tables of package sha hold at the call what their initialisers lay; the card ties that to the text of the program (a pruned copy of the project: the packages that the roots of this seat load).
-/
import Derived.Test.YtbjojpgedcikiaaDoorCl
namespace Go.Proofs.YtbjojpgedcikiaaDoor
set_option maxRecDepth 8000
open Go.RowKit

set_option maxRecDepth 20000 in
set_option maxHeartbeats 8000000 in
theorem law_twice_many (T : TreeC) (K : LinkC) (l : List (List Int)) (a b : List Int) (p q n : Int) (A : Option Addr) (m c : Nat) (w : World) (hl : l.length = m) (hmc : m ≤ c) (hcm : c ≤ maxLen) (hI : isIds l) (ha : isId a) (hb : isId b) (hp : I64 p) (hq : I64 q) (hn : I64 n) (hA : IdsIn w w.heap.size A l) (ht : Tables w) (k1 : 32 < m) :
    Calls Tryd.prog 6 #[.slice A m c, idv a, .int .i64 p, idv b, .int .i64 q, .int .i64 n] w fun e w' => e = .returned (.bool true) ∧ Below w.heap.size w w' := by
  have K5 : Hid (decide (32 < (m : Int)) = true) := decide_eq_true (by omega)
  clear k1
  have E0 : Hid (EnvX w ((w.alloc (.cells (arrB 32 a) 24)).alloc (.cells (arrB 32 b) 24)) [((w.heap.size + 1), Obj.cells (arrB 32 b) 24 (0, 0)), (w.heap.size, Obj.cells (arrB 32 a) 24 (0, 0))]) := (EnvX.start w).two _ _
  have HAW := Lib.hid (lawake_any T K ((w.alloc (.cells (arrB 32 a) 24)).alloc (.cells (arrB 32 b) 24)) (ht.below (EnvX.bel E0.out)))
  have HT := Lib.hid ht
  have HTR := Lib.hid T
  have HK := Lib.hid K
  clear ht T K
  unfold idv
  go_enter Tryd.func6, Tryd.ntmps6
  go_upto_region 1 with (fail)
  generalize ((w.alloc (.cells (arrB 32 a) 24)).alloc (.cells (arrB 32 b) 24)) = W at *
  go_wp2_with fail
  refine HAW.out.mono ?_
  rintro e w1 ⟨rfl, hb1⟩
  have HB1 := Lib.hid (EnvX.below E0.out hb1).bel
  have E1 : Hid (EnvX w1 w1 [((w.heap.size + 1), Obj.cells (arrB 32 b) 24 (0, 0)), (w.heap.size, Obj.cells (arrB 32 a) 24 (0, 0))]) := ⟨Below.refl _ _, (EnvX.below E0.out hb1).box⟩
  have HT1 := Lib.hid (HT.out.below HB1.out)
  clear hb1 E0 HAW
  go_upto_region 2 with (fail)
  refine wp_region_Hx (w0 := w1) [0, 1, 2, 3, 4, 5, 6, 7, 8, 9, 10, 11, 12, 13, 14, 15, 16, 17, 18, 19] [((w.heap.size + 1), Obj.cells (arrB 32 b) 24 (0, 0)), (w.heap.size, Obj.cells (arrB 32 a) 24 (0, 0))] rfl E1.out ?_
  refine lexH_phase [0, 1, 2, 3, 4, 5, 6, 7, 8, 9, 10, 11, 12, 13, 14, 15, 16, 17, 18, 19] [] ?_
  have hw701 : EnvX w1 _ [((w.heap.size + 1), Obj.cells (arrB 32 b) 24 (0, 0)), (w.heap.size, Obj.cells (arrB 32 a) 24 (0, 0))] := E1.out
  have hone := @EnvC.one _ _ _ hw701
  (refine wpG_op rfl rfl rfl ?_; intro K hK; go_big_quiet_op; go_big_quiet_on)
  (refine wpG_op rfl rfl rfl ?_; intro K hK; go_big_quiet_op; go_big_quiet_on)
  (refine wpG_op rfl rfl rfl ?_; intro K hK; go_big_quiet_op; go_big_quiet_on)
  (refine wpG_op rfl rfl rfl ?_; intro K hK; go_big_quiet_op; go_big_quiet_on)
  (refine wpG_val (v := .int .i64 (m : Int)) rfl rfl (fun u hu => lenI_op u rfl) ?_ hw701; intro K hK; go_big_quiet_op; go_big_quiet_on)
  (refine wpG_val (v := .bool true) rfl rfl (fun u hu => gtZ_op u K5.out rfl rfl) ?_ hw701; intro K hK; go_big_quiet_op; go_big_quiet_on)
  (refine wpG_op rfl rfl rfl ?_; intro K hK; go_big_quiet_op; go_big_quiet_on)
  (refine wpG_op rfl rfl rfl ?_; intro K hK; go_big_quiet_op; go_big_quiet_on)
  (refine wpG_skip rfl rfl ?_ hw701; intro K hK; go_big_quiet_op; go_big_quiet_on)
  (refine wpG_skip rfl rfl ?_ hw701; intro K hK; go_big_quiet_op; go_big_quiet_on)
  (refine wpG_skip rfl rfl ?_ hw701; intro K hK; go_big_quiet_op; go_big_quiet_on)
  (refine wpG_op rfl rfl rfl ?_; intro K hK; go_big_quiet_op; go_big_quiet_on)
  (refine wpG_op rfl rfl rfl ?_; intro K hK; go_big_quiet_op; go_big_quiet_on)
  (refine wpG_skip rfl rfl ?_ hw701; intro K hK; go_big_quiet_op; go_big_quiet_on)
  (refine wpG_skip rfl rfl ?_ hw701; intro K hK; go_big_quiet_op; go_big_quiet_on)
  (refine wpG_op rfl rfl rfl ?_; intro K hK; go_big_quiet_op; go_big_quiet_on)
  (refine wpG_op rfl rfl rfl ?_; intro K hK; go_big_quiet_op; go_big_quiet_on)
  (refine wpG_skip rfl rfl ?_ hw701; intro K hK; go_big_quiet_op; go_big_quiet_on)
  (refine wpG_skip rfl rfl ?_ hw701; intro K hK; go_big_quiet_op; go_big_quiet_on)
  (refine wpG_op rfl rfl rfl ?_; intro K hK; go_big_quiet_op; go_big_quiet_on)
  clear hone hw701
  refine wpG_nil ?_
  intro u703 E2'
  have EX702 := Lib.hid E2'
  clear E2'
  have HB1 := Lib.hid (HB1.out.trans ((EnvX.bel EX702.out).mono HB1.out.size))
  have HT1 := Lib.hid (HT1.out.below (EnvX.bel EX702.out))
  have E1 : Hid (EnvX u703 u703 [((w.heap.size + 1), Obj.cells (arrB 32 b) 24 (0, 0)), (w.heap.size, Obj.cells (arrB 32 a) 24 (0, 0))]) := ⟨Below.refl _ _, EX702.out.box⟩
  clear EX702
  go_wp2
  go_ret
  exact ⟨rfl, HB1.out⟩
set_option maxRecDepth 20000 in
set_option maxHeartbeats 8000000 in
theorem law_twice_none (T : TreeC) (K : LinkC) (l : List (List Int)) (a b : List Int) (p q n : Int) (A : Option Addr) (m c : Nat) (w : World) (hl : l.length = m) (hmc : m ≤ c) (hcm : c ≤ maxLen) (hI : isIds l) (ha : isId a) (hb : isId b) (hp : I64 p) (hq : I64 q) (hn : I64 n) (hA : IdsIn w w.heap.size A l) (ht : Tables w) (k1 : m = 0) :
    Calls Tryd.prog 6 #[.slice A m c, idv a, .int .i64 p, idv b, .int .i64 q, .int .i64 n] w fun e w' => e = .returned (.bool true) ∧ Below w.heap.size w w' := by
  have K5 : Hid (decide (32 < (m : Int)) = false) := decide_eq_false (by omega)
  have K10 : Hid (decide ((m : Int) = 0) = true) := decide_eq_true (by omega)
  clear k1
  have E0 : Hid (EnvX w ((w.alloc (.cells (arrB 32 a) 24)).alloc (.cells (arrB 32 b) 24)) [((w.heap.size + 1), Obj.cells (arrB 32 b) 24 (0, 0)), (w.heap.size, Obj.cells (arrB 32 a) 24 (0, 0))]) := (EnvX.start w).two _ _
  have HAW := Lib.hid (lawake_any T K ((w.alloc (.cells (arrB 32 a) 24)).alloc (.cells (arrB 32 b) 24)) (ht.below (EnvX.bel E0.out)))
  have HT := Lib.hid ht
  have HTR := Lib.hid T
  have HK := Lib.hid K
  clear ht T K
  unfold idv
  go_enter Tryd.func6, Tryd.ntmps6
  go_upto_region 1 with (fail)
  generalize ((w.alloc (.cells (arrB 32 a) 24)).alloc (.cells (arrB 32 b) 24)) = W at *
  go_wp2_with fail
  refine HAW.out.mono ?_
  rintro e w1 ⟨rfl, hb1⟩
  have HB1 := Lib.hid (EnvX.below E0.out hb1).bel
  have E1 : Hid (EnvX w1 w1 [((w.heap.size + 1), Obj.cells (arrB 32 b) 24 (0, 0)), (w.heap.size, Obj.cells (arrB 32 a) 24 (0, 0))]) := ⟨Below.refl _ _, (EnvX.below E0.out hb1).box⟩
  have HT1 := Lib.hid (HT.out.below HB1.out)
  clear hb1 E0 HAW
  go_upto_region 2 with (fail)
  refine wp_region_Hx (w0 := w1) [0, 1, 2, 3, 4, 5, 6, 7, 8, 9, 10, 11, 12, 13, 14, 15, 16, 17, 18, 19] [((w.heap.size + 1), Obj.cells (arrB 32 b) 24 (0, 0)), (w.heap.size, Obj.cells (arrB 32 a) 24 (0, 0))] rfl E1.out ?_
  refine lexH_phase [0, 1, 2, 3, 4, 5, 6, 7, 8, 9, 10, 11, 12, 13, 14, 15, 16, 17, 18, 19] [] ?_
  have hw701 : EnvX w1 _ [((w.heap.size + 1), Obj.cells (arrB 32 b) 24 (0, 0)), (w.heap.size, Obj.cells (arrB 32 a) 24 (0, 0))] := E1.out
  have hone := @EnvC.one _ _ _ hw701
  (refine wpG_op rfl rfl rfl ?_; intro K hK; go_big_quiet_op; go_big_quiet_on)
  (refine wpG_op rfl rfl rfl ?_; intro K hK; go_big_quiet_op; go_big_quiet_on)
  (refine wpG_op rfl rfl rfl ?_; intro K hK; go_big_quiet_op; go_big_quiet_on)
  (refine wpG_op rfl rfl rfl ?_; intro K hK; go_big_quiet_op; go_big_quiet_on)
  (refine wpG_val (v := .int .i64 (m : Int)) rfl rfl (fun u hu => lenI_op u rfl) ?_ hw701; intro K hK; go_big_quiet_op; go_big_quiet_on)
  (refine wpG_val (v := .bool false) rfl rfl (fun u hu => gtZ_op u K5.out rfl rfl) ?_ hw701; intro K hK; go_big_quiet_op; go_big_quiet_on)
  (refine wpG_op rfl rfl rfl ?_; intro K hK; go_big_quiet_op; go_big_quiet_on)
  (refine wpG_op rfl rfl rfl ?_; intro K hK; go_big_quiet_op; go_big_quiet_on)
  (refine wpG_op rfl rfl rfl ?_; intro K hK; go_big_quiet_op; go_big_quiet_on)
  (refine wpG_val (v := .int .i64 (m : Int)) rfl rfl (fun u hu => lenI_op u rfl) ?_ hw701; intro K hK; go_big_quiet_op; go_big_quiet_on)
  (refine wpG_val (v := .bool true) rfl rfl (fun u hu => eqlI_op u K10.out rfl rfl) ?_ hw701; intro K hK; go_big_quiet_op; go_big_quiet_on)
  (refine wpG_op rfl rfl rfl ?_; intro K hK; go_big_quiet_op; go_big_quiet_on)
  (refine wpG_op rfl rfl rfl ?_; intro K hK; go_big_quiet_op; go_big_quiet_on)
  (refine wpG_skip rfl rfl ?_ hw701; intro K hK; go_big_quiet_op; go_big_quiet_on)
  (refine wpG_skip rfl rfl ?_ hw701; intro K hK; go_big_quiet_op; go_big_quiet_on)
  (refine wpG_op rfl rfl rfl ?_; intro K hK; go_big_quiet_op; go_big_quiet_on)
  (refine wpG_op rfl rfl rfl ?_; intro K hK; go_big_quiet_op; go_big_quiet_on)
  (refine wpG_skip rfl rfl ?_ hw701; intro K hK; go_big_quiet_op; go_big_quiet_on)
  (refine wpG_skip rfl rfl ?_ hw701; intro K hK; go_big_quiet_op; go_big_quiet_on)
  (refine wpG_op rfl rfl rfl ?_; intro K hK; go_big_quiet_op; go_big_quiet_on)
  clear hone hw701
  refine wpG_nil ?_
  intro u703 E2'
  have EX702 := Lib.hid E2'
  clear E2'
  have HB1 := Lib.hid (HB1.out.trans ((EnvX.bel EX702.out).mono HB1.out.size))
  have HT1 := Lib.hid (HT1.out.below (EnvX.bel EX702.out))
  have E1 : Hid (EnvX u703 u703 [((w.heap.size + 1), Obj.cells (arrB 32 b) 24 (0, 0)), (w.heap.size, Obj.cells (arrB 32 a) 24 (0, 0))]) := ⟨Below.refl _ _, EX702.out.box⟩
  clear EX702
  go_wp2
  go_ret
  exact ⟨rfl, HB1.out⟩
set_option maxRecDepth 20000 in
set_option maxHeartbeats 8000000 in
theorem law_twice_low (T : TreeC) (K : LinkC) (l : List (List Int)) (a b : List Int) (p q n : Int) (A : Option Addr) (m c : Nat) (w : World) (hl : l.length = m) (hmc : m ≤ c) (hcm : c ≤ maxLen) (hI : isIds l) (ha : isId a) (hb : isId b) (hp : I64 p) (hq : I64 q) (hn : I64 n) (hA : IdsIn w w.heap.size A l) (ht : Tables w) (k1 : ¬ 32 < m) (k2 : 0 < m) (k3 : n < 1) :
    Calls Tryd.prog 6 #[.slice A m c, idv a, .int .i64 p, idv b, .int .i64 q, .int .i64 n] w fun e w' => e = .returned (.bool true) ∧ Below w.heap.size w w' := by
  have K5 : Hid (decide (32 < (m : Int)) = false) := decide_eq_false (by omega)
  have K10 : Hid (decide ((m : Int) = 0) = false) := decide_eq_false (by omega)
  have K14 : Hid (decide (n < 1) = true) := decide_eq_true (by omega)
  clear k1
  have E0 : Hid (EnvX w ((w.alloc (.cells (arrB 32 a) 24)).alloc (.cells (arrB 32 b) 24)) [((w.heap.size + 1), Obj.cells (arrB 32 b) 24 (0, 0)), (w.heap.size, Obj.cells (arrB 32 a) 24 (0, 0))]) := (EnvX.start w).two _ _
  have HAW := Lib.hid (lawake_any T K ((w.alloc (.cells (arrB 32 a) 24)).alloc (.cells (arrB 32 b) 24)) (ht.below (EnvX.bel E0.out)))
  have HT := Lib.hid ht
  have HTR := Lib.hid T
  have HK := Lib.hid K
  clear ht T K
  unfold idv
  go_enter Tryd.func6, Tryd.ntmps6
  go_upto_region 1 with (fail)
  generalize ((w.alloc (.cells (arrB 32 a) 24)).alloc (.cells (arrB 32 b) 24)) = W at *
  go_wp2_with fail
  refine HAW.out.mono ?_
  rintro e w1 ⟨rfl, hb1⟩
  have HB1 := Lib.hid (EnvX.below E0.out hb1).bel
  have E1 : Hid (EnvX w1 w1 [((w.heap.size + 1), Obj.cells (arrB 32 b) 24 (0, 0)), (w.heap.size, Obj.cells (arrB 32 a) 24 (0, 0))]) := ⟨Below.refl _ _, (EnvX.below E0.out hb1).box⟩
  have HT1 := Lib.hid (HT.out.below HB1.out)
  clear hb1 E0 HAW
  go_upto_region 2 with (fail)
  refine wp_region_Hx (w0 := w1) [0, 1, 2, 3, 4, 5, 6, 7, 8, 9, 10, 11, 12, 13, 14, 15, 16, 17, 18, 19] [((w.heap.size + 1), Obj.cells (arrB 32 b) 24 (0, 0)), (w.heap.size, Obj.cells (arrB 32 a) 24 (0, 0))] rfl E1.out ?_
  refine lexH_phase [0, 1, 2, 3, 4, 5, 6, 7, 8, 9, 10, 11, 12, 13, 14, 15, 16, 17, 18, 19] [] ?_
  have hw701 : EnvX w1 _ [((w.heap.size + 1), Obj.cells (arrB 32 b) 24 (0, 0)), (w.heap.size, Obj.cells (arrB 32 a) 24 (0, 0))] := E1.out
  have hone := @EnvC.one _ _ _ hw701
  (refine wpG_op rfl rfl rfl ?_; intro K hK; go_big_quiet_op; go_big_quiet_on)
  (refine wpG_op rfl rfl rfl ?_; intro K hK; go_big_quiet_op; go_big_quiet_on)
  (refine wpG_op rfl rfl rfl ?_; intro K hK; go_big_quiet_op; go_big_quiet_on)
  (refine wpG_op rfl rfl rfl ?_; intro K hK; go_big_quiet_op; go_big_quiet_on)
  (refine wpG_val (v := .int .i64 (m : Int)) rfl rfl (fun u hu => lenI_op u rfl) ?_ hw701; intro K hK; go_big_quiet_op; go_big_quiet_on)
  (refine wpG_val (v := .bool false) rfl rfl (fun u hu => gtZ_op u K5.out rfl rfl) ?_ hw701; intro K hK; go_big_quiet_op; go_big_quiet_on)
  (refine wpG_op rfl rfl rfl ?_; intro K hK; go_big_quiet_op; go_big_quiet_on)
  (refine wpG_op rfl rfl rfl ?_; intro K hK; go_big_quiet_op; go_big_quiet_on)
  (refine wpG_op rfl rfl rfl ?_; intro K hK; go_big_quiet_op; go_big_quiet_on)
  (refine wpG_val (v := .int .i64 (m : Int)) rfl rfl (fun u hu => lenI_op u rfl) ?_ hw701; intro K hK; go_big_quiet_op; go_big_quiet_on)
  (refine wpG_val (v := .bool false) rfl rfl (fun u hu => eqlI_op u K10.out rfl rfl) ?_ hw701; intro K hK; go_big_quiet_op; go_big_quiet_on)
  (refine wpG_op rfl rfl rfl ?_; intro K hK; go_big_quiet_op; go_big_quiet_on)
  (refine wpG_op rfl rfl rfl ?_; intro K hK; go_big_quiet_op; go_big_quiet_on)
  (refine wpG_op rfl rfl rfl ?_; intro K hK; go_big_quiet_op; go_big_quiet_on)
  (refine wpG_val (v := .bool true) rfl rfl (fun u hu => ltZ_op u K14.out rfl rfl) ?_ hw701; intro K hK; go_big_quiet_op; go_big_quiet_on)
  (refine wpG_op rfl rfl rfl ?_; intro K hK; go_big_quiet_op; go_big_quiet_on)
  (refine wpG_op rfl rfl rfl ?_; intro K hK; go_big_quiet_op; go_big_quiet_on)
  (refine wpG_skip rfl rfl ?_ hw701; intro K hK; go_big_quiet_op; go_big_quiet_on)
  (refine wpG_skip rfl rfl ?_ hw701; intro K hK; go_big_quiet_op; go_big_quiet_on)
  (refine wpG_op rfl rfl rfl ?_; intro K hK; go_big_quiet_op; go_big_quiet_on)
  clear hone hw701
  refine wpG_nil ?_
  intro u703 E2'
  have EX702 := Lib.hid E2'
  clear E2'
  have HB1 := Lib.hid (HB1.out.trans ((EnvX.bel EX702.out).mono HB1.out.size))
  have HT1 := Lib.hid (HT1.out.below (EnvX.bel EX702.out))
  have E1 : Hid (EnvX u703 u703 [((w.heap.size + 1), Obj.cells (arrB 32 b) 24 (0, 0)), (w.heap.size, Obj.cells (arrB 32 a) 24 (0, 0))]) := ⟨Below.refl _ _, EX702.out.box⟩
  clear EX702
  go_wp2
  go_ret
  exact ⟨rfl, HB1.out⟩
set_option maxRecDepth 20000 in
set_option maxHeartbeats 8000000 in
theorem law_twice_high (T : TreeC) (K : LinkC) (l : List (List Int)) (a b : List Int) (p q n : Int) (A : Option Addr) (m c : Nat) (w : World) (hl : l.length = m) (hmc : m ≤ c) (hcm : c ≤ maxLen) (hI : isIds l) (ha : isId a) (hb : isId b) (hp : I64 p) (hq : I64 q) (hn : I64 n) (hA : IdsIn w w.heap.size A l) (ht : Tables w) (k1 : ¬ 32 < m) (k2 : 0 < m) (k3 : 31 < n) :
    Calls Tryd.prog 6 #[.slice A m c, idv a, .int .i64 p, idv b, .int .i64 q, .int .i64 n] w fun e w' => e = .returned (.bool true) ∧ Below w.heap.size w w' := by
  have K5 : Hid (decide (32 < (m : Int)) = false) := decide_eq_false (by omega)
  have K10 : Hid (decide ((m : Int) = 0) = false) := decide_eq_false (by omega)
  have K14 : Hid (decide (n < 1) = false) := decide_eq_false (by omega)
  have K18 : Hid (decide (31 < n) = true) := decide_eq_true (by omega)
  clear k1
  have E0 : Hid (EnvX w ((w.alloc (.cells (arrB 32 a) 24)).alloc (.cells (arrB 32 b) 24)) [((w.heap.size + 1), Obj.cells (arrB 32 b) 24 (0, 0)), (w.heap.size, Obj.cells (arrB 32 a) 24 (0, 0))]) := (EnvX.start w).two _ _
  have HAW := Lib.hid (lawake_any T K ((w.alloc (.cells (arrB 32 a) 24)).alloc (.cells (arrB 32 b) 24)) (ht.below (EnvX.bel E0.out)))
  have HT := Lib.hid ht
  have HTR := Lib.hid T
  have HK := Lib.hid K
  clear ht T K
  unfold idv
  go_enter Tryd.func6, Tryd.ntmps6
  go_upto_region 1 with (fail)
  generalize ((w.alloc (.cells (arrB 32 a) 24)).alloc (.cells (arrB 32 b) 24)) = W at *
  go_wp2_with fail
  refine HAW.out.mono ?_
  rintro e w1 ⟨rfl, hb1⟩
  have HB1 := Lib.hid (EnvX.below E0.out hb1).bel
  have E1 : Hid (EnvX w1 w1 [((w.heap.size + 1), Obj.cells (arrB 32 b) 24 (0, 0)), (w.heap.size, Obj.cells (arrB 32 a) 24 (0, 0))]) := ⟨Below.refl _ _, (EnvX.below E0.out hb1).box⟩
  have HT1 := Lib.hid (HT.out.below HB1.out)
  clear hb1 E0 HAW
  go_upto_region 2 with (fail)
  refine wp_region_Hx (w0 := w1) [0, 1, 2, 3, 4, 5, 6, 7, 8, 9, 10, 11, 12, 13, 14, 15, 16, 17, 18, 19] [((w.heap.size + 1), Obj.cells (arrB 32 b) 24 (0, 0)), (w.heap.size, Obj.cells (arrB 32 a) 24 (0, 0))] rfl E1.out ?_
  refine lexH_phase [0, 1, 2, 3, 4, 5, 6, 7, 8, 9, 10, 11, 12, 13, 14, 15, 16, 17, 18, 19] [] ?_
  have hw701 : EnvX w1 _ [((w.heap.size + 1), Obj.cells (arrB 32 b) 24 (0, 0)), (w.heap.size, Obj.cells (arrB 32 a) 24 (0, 0))] := E1.out
  have hone := @EnvC.one _ _ _ hw701
  (refine wpG_op rfl rfl rfl ?_; intro K hK; go_big_quiet_op; go_big_quiet_on)
  (refine wpG_op rfl rfl rfl ?_; intro K hK; go_big_quiet_op; go_big_quiet_on)
  (refine wpG_op rfl rfl rfl ?_; intro K hK; go_big_quiet_op; go_big_quiet_on)
  (refine wpG_op rfl rfl rfl ?_; intro K hK; go_big_quiet_op; go_big_quiet_on)
  (refine wpG_val (v := .int .i64 (m : Int)) rfl rfl (fun u hu => lenI_op u rfl) ?_ hw701; intro K hK; go_big_quiet_op; go_big_quiet_on)
  (refine wpG_val (v := .bool false) rfl rfl (fun u hu => gtZ_op u K5.out rfl rfl) ?_ hw701; intro K hK; go_big_quiet_op; go_big_quiet_on)
  (refine wpG_op rfl rfl rfl ?_; intro K hK; go_big_quiet_op; go_big_quiet_on)
  (refine wpG_op rfl rfl rfl ?_; intro K hK; go_big_quiet_op; go_big_quiet_on)
  (refine wpG_op rfl rfl rfl ?_; intro K hK; go_big_quiet_op; go_big_quiet_on)
  (refine wpG_val (v := .int .i64 (m : Int)) rfl rfl (fun u hu => lenI_op u rfl) ?_ hw701; intro K hK; go_big_quiet_op; go_big_quiet_on)
  (refine wpG_val (v := .bool false) rfl rfl (fun u hu => eqlI_op u K10.out rfl rfl) ?_ hw701; intro K hK; go_big_quiet_op; go_big_quiet_on)
  (refine wpG_op rfl rfl rfl ?_; intro K hK; go_big_quiet_op; go_big_quiet_on)
  (refine wpG_op rfl rfl rfl ?_; intro K hK; go_big_quiet_op; go_big_quiet_on)
  (refine wpG_op rfl rfl rfl ?_; intro K hK; go_big_quiet_op; go_big_quiet_on)
  (refine wpG_val (v := .bool false) rfl rfl (fun u hu => ltZ_op u K14.out rfl rfl) ?_ hw701; intro K hK; go_big_quiet_op; go_big_quiet_on)
  (refine wpG_op rfl rfl rfl ?_; intro K hK; go_big_quiet_op; go_big_quiet_on)
  (refine wpG_op rfl rfl rfl ?_; intro K hK; go_big_quiet_op; go_big_quiet_on)
  (refine wpG_op rfl rfl rfl ?_; intro K hK; go_big_quiet_op; go_big_quiet_on)
  (refine wpG_val (v := .bool true) rfl rfl (fun u hu => gtZ_op u K18.out rfl rfl) ?_ hw701; intro K hK; go_big_quiet_op; go_big_quiet_on)
  (refine wpG_op rfl rfl rfl ?_; intro K hK; go_big_quiet_op; go_big_quiet_on)
  clear hone hw701
  refine wpG_nil ?_
  intro u703 E2'
  have EX702 := Lib.hid E2'
  clear E2'
  have HB1 := Lib.hid (HB1.out.trans ((EnvX.bel EX702.out).mono HB1.out.size))
  have HT1 := Lib.hid (HT1.out.below (EnvX.bel EX702.out))
  have E1 : Hid (EnvX u703 u703 [((w.heap.size + 1), Obj.cells (arrB 32 b) 24 (0, 0)), (w.heap.size, Obj.cells (arrB 32 a) 24 (0, 0))]) := ⟨Below.refl _ _, EX702.out.box⟩
  clear EX702
  go_wp2
  go_ret
  exact ⟨rfl, HB1.out⟩
set_option maxRecDepth 20000 in
set_option maxHeartbeats 8000000 in
theorem law_twice_second (T : TreeC) (K : LinkC) (l : List (List Int)) (a b : List Int) (p q n : Int) (A : Option Addr) (m c : Nat) (w : World) (hl : l.length = m) (hmc : m ≤ c) (hcm : c ≤ maxLen) (hI : isIds l) (ha : isId a) (hb : isId b) (hp : I64 p) (hq : I64 q) (hn : I64 n) (hA : IdsIn w w.heap.size A l) (ht : Tables w) (x : List Int) (r : List (List Int)) (hxr : l = x :: r) (h32 : m ≤ 32) (j : Nat) (n1 : n = (j : Int)) (n2 : 1 ≤ j) (n3 : j ≤ 31) (n4 : (j : Int) ≤ q) :
    Calls Tryd.prog 6 #[.slice A m c, idv a, .int .i64 p, idv b, .int .i64 q, .int .i64 n] w fun e w' => e = .returned (.bool true) ∧ Below w.heap.size w w' := by
  subst n1
  have hrl : r.length + 1 = m := by rw [← hl, hxr]; rfl
  have K5 : Hid (decide (32 < (m : Int)) = false) := decide_eq_false (by omega)
  have K10 : Hid (decide ((m : Int) = 0) = false) := decide_eq_false (by omega)
  have K14 : Hid (decide ((j : Int) < 1) = false) := decide_eq_false (by omega)
  have K18 : Hid (decide (31 < (j : Int)) = false) := decide_eq_false (by omega)
  obtain ⟨B, hB⟩ : ∃ B, stepL x r a (lvN p) = B := ⟨_, rfl⟩
  obtain ⟨s, hs⟩ : ∃ s, List.replicate (lvN p) a ++ r.drop (lvN p) = s := ⟨_, rfl⟩
  have hBs : B = x :: s := by rw [← hB, ← hs]; rfl
  obtain ⟨C, hC⟩ : ∃ C, stepL x s b (lvN q) = C := ⟨_, rfl⟩
  have hp31 := lvN_le p
  have hq31 := lvN_le q
  have hBl : B.length = 1 + (lvN p + (r.length - lvN p)) := by rw [← hB]; exact step_len ..
  have hsl : B.length = s.length + 1 := by rw [hBs]; rfl
  have hCl : C.length = 1 + (lvN q + (s.length - lvN q)) := by rw [← hC]; exact step_len ..
  have hB0 : 0 < B.length := by omega
  have hC0 : 0 < C.length := by omega
  have hBm : B.length ≤ 32 := by omega
  have hCm : C.length ≤ 32 := by omega
  have HN1 : Hid (nextT l a p = B) := by show _ = _; rw [hxr, next_some (by omega), hB]
  have HN2 : Hid (nextT B b q = C) := by show _ = _; rw [hBs, next_some (by omega), hC]
  have HIB : Hid (isIds B) := by rw [← hB]; exact step_ids (by rw [← hxr]; exact hI) ha
  have HIC : Hid (isIds C) := by rw [← hC]; exact step_ids (by rw [← hBs]; exact HIB.out) hb
  have C5 : Hid (decide ((j : Int) ≤ q) = true) := decide_eq_true (by omega)
  have hk : j ≤ lvN q := by unfold lvN; omega
  have HJ : Hid (j < C.length ∧ C.getD j [] = b) := ⟨by omega, by rw [← hC]; exact step_get n2 hk⟩
  clear n2 n3 n4 hk
  have HBD := Lib.hid (And.intro hB0 hBm)
  have HCD := Lib.hid (And.intro hC0 hCm)
  have HDA := Lib.hid ha
  have HDB := Lib.hid hb
  have HL := Lib.hid (And.intro hl (And.intro hmc hcm))
  have HIA := Lib.hid (And.intro hI hA)
  have HPQ := Lib.hid (And.intro hp hq)
  have hm0 : 0 < m := by omega
  clear hl hI ha hb hA hxr hrl hmc hcm hB hs hBs hC hp31 hq31 hBl hsl hCl hB0 hC0 hBm hCm hp hq hn
  have E0 : Hid (EnvX w ((w.alloc (.cells (arrB 32 a) 24)).alloc (.cells (arrB 32 b) 24)) [((w.heap.size + 1), Obj.cells (arrB 32 b) 24 (0, 0)), (w.heap.size, Obj.cells (arrB 32 a) 24 (0, 0))]) := (EnvX.start w).two _ _
  have HAW := Lib.hid (lawake_any T K ((w.alloc (.cells (arrB 32 a) 24)).alloc (.cells (arrB 32 b) 24)) (ht.below (EnvX.bel E0.out)))
  have HT := Lib.hid ht
  have HTR := Lib.hid T
  have HK := Lib.hid K
  clear ht T K
  unfold idv
  go_enter Tryd.func6, Tryd.ntmps6
  go_upto_region 1 with (fail)
  generalize ((w.alloc (.cells (arrB 32 a) 24)).alloc (.cells (arrB 32 b) 24)) = W at *
  go_wp2_with fail
  refine HAW.out.mono ?_
  rintro e w1 ⟨rfl, hb1⟩
  have HB1 := Lib.hid (EnvX.below E0.out hb1).bel
  have E1 : Hid (EnvX w1 w1 [((w.heap.size + 1), Obj.cells (arrB 32 b) 24 (0, 0)), (w.heap.size, Obj.cells (arrB 32 a) 24 (0, 0))]) := ⟨Below.refl _ _, (EnvX.below E0.out hb1).box⟩
  have HT1 := Lib.hid (HT.out.below HB1.out)
  clear hb1 E0 HAW
  go_upto_region 2 with (fail)
  refine wp_region_Hx (w0 := w1) [0, 1, 2, 3, 4, 5, 6, 7, 8, 9, 10, 11, 12, 13, 14, 15, 16, 17, 18, 19] [((w.heap.size + 1), Obj.cells (arrB 32 b) 24 (0, 0)), (w.heap.size, Obj.cells (arrB 32 a) 24 (0, 0))] rfl E1.out ?_
  refine lexH_phase [0, 1, 2, 3, 4, 5, 6, 7, 8, 9, 10, 11, 12, 13, 14, 15, 16, 17, 18, 19] [] ?_
  have hw701 : EnvX w1 _ [((w.heap.size + 1), Obj.cells (arrB 32 b) 24 (0, 0)), (w.heap.size, Obj.cells (arrB 32 a) 24 (0, 0))] := E1.out
  have hone := @EnvC.one _ _ _ hw701
  (refine wpG_op rfl rfl rfl ?_; intro K hK; go_big_quiet_op; go_big_quiet_on)
  (refine wpG_op rfl rfl rfl ?_; intro K hK; go_big_quiet_op; go_big_quiet_on)
  (refine wpG_op rfl rfl rfl ?_; intro K hK; go_big_quiet_op; go_big_quiet_on)
  (refine wpG_op rfl rfl rfl ?_; intro K hK; go_big_quiet_op; go_big_quiet_on)
  (refine wpG_val (v := .int .i64 (m : Int)) rfl rfl (fun u hu => lenI_op u rfl) ?_ hw701; intro K hK; go_big_quiet_op; go_big_quiet_on)
  (refine wpG_val (v := .bool false) rfl rfl (fun u hu => gtZ_op u K5.out rfl rfl) ?_ hw701; intro K hK; go_big_quiet_op; go_big_quiet_on)
  (refine wpG_op rfl rfl rfl ?_; intro K hK; go_big_quiet_op; go_big_quiet_on)
  (refine wpG_op rfl rfl rfl ?_; intro K hK; go_big_quiet_op; go_big_quiet_on)
  (refine wpG_op rfl rfl rfl ?_; intro K hK; go_big_quiet_op; go_big_quiet_on)
  (refine wpG_val (v := .int .i64 (m : Int)) rfl rfl (fun u hu => lenI_op u rfl) ?_ hw701; intro K hK; go_big_quiet_op; go_big_quiet_on)
  (refine wpG_val (v := .bool false) rfl rfl (fun u hu => eqlI_op u K10.out rfl rfl) ?_ hw701; intro K hK; go_big_quiet_op; go_big_quiet_on)
  (refine wpG_op rfl rfl rfl ?_; intro K hK; go_big_quiet_op; go_big_quiet_on)
  (refine wpG_op rfl rfl rfl ?_; intro K hK; go_big_quiet_op; go_big_quiet_on)
  (refine wpG_op rfl rfl rfl ?_; intro K hK; go_big_quiet_op; go_big_quiet_on)
  (refine wpG_val (v := .bool false) rfl rfl (fun u hu => ltZ_op u K14.out rfl rfl) ?_ hw701; intro K hK; go_big_quiet_op; go_big_quiet_on)
  (refine wpG_op rfl rfl rfl ?_; intro K hK; go_big_quiet_op; go_big_quiet_on)
  (refine wpG_op rfl rfl rfl ?_; intro K hK; go_big_quiet_op; go_big_quiet_on)
  (refine wpG_op rfl rfl rfl ?_; intro K hK; go_big_quiet_op; go_big_quiet_on)
  (refine wpG_val (v := .bool false) rfl rfl (fun u hu => gtZ_op u K18.out rfl rfl) ?_ hw701; intro K hK; go_big_quiet_op; go_big_quiet_on)
  (refine wpG_op rfl rfl rfl ?_; intro K hK; go_big_quiet_op; go_big_quiet_on)
  clear hone hw701
  refine wpG_nil ?_
  intro u703 E2'
  have EX702 := Lib.hid E2'
  clear E2'
  have HB1 := Lib.hid (HB1.out.trans ((EnvX.bel EX702.out).mono HB1.out.size))
  have HT1 := Lib.hid (HT1.out.below (EnvX.bel EX702.out))
  have E1 : Hid (EnvX u703 u703 [((w.heap.size + 1), Obj.cells (arrB 32 b) 24 (0, 0)), (w.heap.size, Obj.cells (arrB 32 a) 24 (0, 0))]) := ⟨Below.refl _ _, EX702.out.box⟩
  clear EX702
  go_upto_region 4 with (fail)
  refine wp_region_H (w0 := u703) [((w.heap.size + 1), Obj.cells (arrB 32 b) 24 (0, 0)), (w.heap.size, Obj.cells (arrB 32 a) 24 (0, 0))] (by kernel_rfl) E1.out ?_
  refine anyH_phase [0, 1, 2, 4, 5] 3 rfl ⟨_, (EnvX.drew E1.out)⟩ (by kernel_rfl) ?_
  have hw761 : EnvX u703 _ [((w.heap.size + 1), Obj.cells (arrB 32 b) 24 (0, 0)), (w.heap.size, Obj.cells (arrB 32 a) 24 (0, 0))] := (EnvX.drew E1.out)
  have hone := @EnvC.one _ _ _ hw761
  (refine wpG_op rfl rfl rfl ?_; intro K hK; go_big_quiet_op; go_big_quiet_on)
  (refine wpG_val (v := idv a) rfl rfl (fun u hu => load_run_op u (box_load hu (List.Mem.tail _ (List.Mem.head _)) HDA.out.1) rfl) ?_ hw761; intro K hK; go_big_quiet_op; go_big_quiet_on)
  (refine wpG_op rfl rfl rfl ?_; intro K hK; go_big_quiet_op; go_big_quiet_on)
  (refine wpG_val (v := idv b) rfl rfl (fun u hu => load_run_op u (box_load hu (List.Mem.head _) HDB.out.1) rfl) ?_ hw761; intro K hK; go_big_quiet_op; go_big_quiet_on)
  (refine wpG_op rfl rfl rfl ?_; intro K hK; go_big_quiet_op; go_big_quiet_on)
  clear hone hw761
  refine wpG_nil ?_
  refine anyH_one (i := 3) (by kernel_rfl) (hOp_fresh (R := FreshI B) (M0 := [((w.heap.size + 1), Obj.cells (arrB 32 b) 24 (0, 0)), (w.heap.size, Obj.cells (arrB 32 a) 24 (0, 0))]) rfl rfl (fun _ h => h) (fun u hu => FAt_call (fid := 11) (xs := #[.tmp 37, .tmp 38, .tmp 39]) (args := #[.slice A m c, idv a, .int .i64 p]) rfl Tryd.func11 rfl rfl u (callsI_fresh (by have h := HK.out.next l a p A m c u HL.out.1 (by omega) HL.out.2.1 HL.out.2.2 HIA.out.1 HDA.out HPQ.out.1 ((HIA.out.2.up HB1.out).up (EnvX.bel hu)) (HT1.out.below (EnvX.bel hu)); rwa [HN1.out] at h))) ?_)
  rintro x N hF hf he762; intro K' hK'; go_big_quiet_op; go_big_quiet_on
  obtain ⟨gb, capb, curb, rfl, rfl, hcb⟩ := FreshI.full hF HBD.out.1
  have HFB := Lib.hid (And.intro hF (And.intro hcb.1 hcb.2.1))
  clear hF hcb
  clear hf
  change anyH _ _ _ _ _ _ _ _ [(gb, Obj.cells curb 24 (0, 0)), ((w.heap.size + 1), Obj.cells (arrB 32 b) 24 (0, 0)), (w.heap.size, Obj.cells (arrB 32 a) 24 (0, 0))]
  refine anyH_one (i := 6) (by kernel_rfl) (hOp_fresh (R := FreshI C) (M0 := [(gb, Obj.cells curb 24 (0, 0)), ((w.heap.size + 1), Obj.cells (arrB 32 b) 24 (0, 0)), (w.heap.size, Obj.cells (arrB 32 a) 24 (0, 0))]) rfl rfl (fun _ h => h) (fun u hu => FAt_call (fid := 11) (xs := #[.tmp 40, .tmp 41, .tmp 42]) (args := #[.slice (some ⟨gb, 0, none⟩) B.length capb, idv b, .int .i64 q]) rfl Tryd.func11 rfl rfl u (callsI_fresh (by have h := HK.out.next B b q (some ⟨gb, 0, none⟩) B.length capb u rfl (by have := HBD.out; omega) HFB.out.2.1 HFB.out.2.2 HIB.out HDB.out HPQ.out.2 (HFB.out.1.ids HIB.out hu (fun y hy => by cases List.mem_singleton.1 hy; exact (List.Mem.head _))) (HT1.out.below (EnvX.bel hu)); rwa [HN2.out] at h))) ?_)
  rintro x N hF hf he763; intro K' hK'; go_big_quiet_op; go_big_quiet_on
  obtain ⟨gc, capc, curc, rfl, rfl, hcc⟩ := FreshI.full hF HCD.out.1
  have HFC := Lib.hid hF
  have HCC := Lib.hid hcc
  clear hF hcc
  clear hf
  change anyH _ _ _ _ _ _ _ _ [(gc, Obj.cells curc 24 (0, 0)), (gb, Obj.cells curb 24 (0, 0)), ((w.heap.size + 1), Obj.cells (arrB 32 b) 24 (0, 0)), (w.heap.size, Obj.cells (arrB 32 a) 24 (0, 0))]
  refine anyH_phase [7] 0 rfl ⟨_, he763.choose_spec⟩ (by kernel_rfl) ?_
  have hw764 : EnvX u703 _ [(gc, Obj.cells curc 24 (0, 0)), (gb, Obj.cells curb 24 (0, 0)), ((w.heap.size + 1), Obj.cells (arrB 32 b) 24 (0, 0)), (w.heap.size, Obj.cells (arrB 32 a) 24 (0, 0))] := he763.choose_spec
  have hone := @EnvC.one _ _ _ hw764
  (refine wpG_op rfl rfl rfl ?_; intro K hK; go_big_quiet_op; go_big_quiet_on)
  clear hone hw764
  refine wpG_nil ?_
  refine anyH_done (by kernel_rfl) ?_
  intro u766 E2'
  have EX765 := Lib.hid E2'
  clear E2'
  have HBU := Lib.hid (HB1.out.trans ((EnvX.bel EX765.out).mono HB1.out.size))
  have HAC : Hid (IdsIn u766 u766.heap.size (some ⟨gc, 0, none⟩) C) := HFC.out.ids HIC.out EX765.out (fun y hy => by cases List.mem_singleton.1 hy; exact (List.Mem.head _))
  have HLI : Hid (∀ u, EnvX u766 u [] → (loadVar 24 ⟨w.heap.size, 0, none⟩).run Tryd.prog u = .ok (idv a) u) := fun u hu => box_load (EnvX.comb EX765.out hu) (List.mem_append_right [] (List.Mem.tail _ (List.Mem.tail _ (List.Mem.tail _ (List.Mem.head _))))) HDA.out.1
  have HLJ : Hid (∀ u, EnvX u766 u [] → (loadVar 24 ⟨w.heap.size + 1, 0, none⟩).run Tryd.prog u = .ok (idv b) u) := fun u hu => box_load (EnvX.comb EX765.out hu) (List.mem_append_right [] (List.Mem.tail _ (List.Mem.tail _ (List.Mem.head _)))) HDB.out.1
  have HAL := Lib.hid (HIA.out.2.up HBU.out)
  have EU : Hid (EnvX u766 u766 []) := EnvX.start _
  have HAX := Lib.hid (HAC.out.load HIC.out (i := 0) HCD.out.1)
  obtain ⟨ac, hac, -⟩ := HAX.out
  have HAC2 := Lib.hid hac
  obtain ⟨al, rfl, -⟩ := HAL.out.load HIA.out.1 (i := 0) (by rw [HL.out.1]; exact hm0)
  have HLC : Hid (∀ k, k < C.length → ∀ u, EnvX u766 u [] → (loadVar 24 ((⟨gc, 0, none⟩ : Addr).add (k * 32))).run Tryd.prog u = .ok (idv (C.getD k [])) u) := fun k hk u hu => by
    obtain ⟨a2, e, h⟩ := (HAC.out.up (EnvX.bel hu)).load HIC.out (i := k) (hk)
    cases e
    exact h
  have HLL : Hid (∀ k, k < m → ∀ u, EnvX u766 u [] → (loadVar 24 (al.add (k * 32))).run Tryd.prog u = .ok (idv (l.getD k [])) u) := fun k hk u hu => by
    obtain ⟨a2, e, h⟩ := (HAL.out.up (EnvX.bel hu)).load HIA.out.1 (i := k) (by rw [HL.out.1]; exact hk)
    cases e
    exact h
  clear hac
  go_upto_region 5 with (fail)
  refine wp_region_Hx (w0 := u766) [0, 1, 2] [] rfl EU.out ?_
  refine lexH_phase [0, 1, 2] [] ?_
  have hw767 : EnvX u766 _ [] := EU.out
  have hone := @EnvC.one _ _ _ hw767
  (refine wpG_op rfl rfl rfl ?_; intro K hK; go_big_quiet_op; go_big_quiet_on)
  (refine wpG_op rfl rfl rfl ?_; intro K hK; go_big_quiet_op; go_big_quiet_on)
  (refine wpG_val (v := .bool true) rfl rfl (fun u hu => leZ_op u C5.out rfl rfl) ?_ hw767; intro K hK; go_big_quiet_op; go_big_quiet_on)
  clear hone hw767
  refine wpG_nil ?_
  intro u769 E2'
  have EX768 := Lib.hid E2'
  clear E2'
  go_upto_region 6 with (fail)
  refine wp_region_H (w0 := u766) [] (by kernel_rfl) EX768.out ?_
  refine anyH_phaseN [0, 1, 2, 3, 4, 5, 6, 7, 8, 9, 10, 11, 12] 0 rfl (by kernel_rfl) ?_
  have hw770 : EnvX u766 _ [] := EnvX.sub (EnvX.drew EX768.out) (fun _ h => by cases h)
  have hone := @EnvC.one _ _ _ hw770
  (refine wpG_op rfl rfl rfl ?_; intro K hK; go_big_quiet_op; go_big_quiet_on)
  (refine wpG_val (v := .int .i64 (C.length : Int)) rfl rfl (fun u hu => lenI_op u rfl) ?_ hw770; intro K hK; go_big_quiet_op; go_big_quiet_on)
  (refine wpG_op rfl rfl rfl ?_; intro K hK; go_big_quiet_op; go_big_quiet_on)
  (refine wpG_val (v := .bool true) rfl rfl (fun u hu => gtZ_op u (decide_eq_true (by have := HJ.out.1; omega)) rfl rfl) ?_ hw770; intro K hK; go_big_quiet_op; go_big_quiet_on)
  (refine wpG_op rfl rfl rfl ?_; intro K hK; go_big_quiet_op; go_big_quiet_on)
  (refine wpG_op rfl rfl rfl ?_; intro K hK; go_big_quiet_op; go_big_quiet_on)
  (refine wpG_op rfl rfl rfl ?_; intro K hK; go_big_quiet_op; go_big_quiet_on)
  (refine wpG_val (v := .pointer (some ((⟨gc, 0, none⟩ : Addr).add (j * 32)))) rfl rfl (fun u hu => idxSl_op (i := j) Tryd.underlying22 aggIdT.size HJ.out.1 u rfl rfl) ?_ hw770; intro K hK; go_big_quiet_op; go_big_quiet_on)
  (refine wpG_val (v := idv b) rfl rfl (fun u hu => load_any_op u (by have h := HLC.out j HJ.out.1 u (EnvX.sub hu (fun _ h => by cases h)); rw [HJ.out.2] at h; exact h) rfl) ?_ hw770; intro K hK; go_big_quiet_op; go_big_quiet_on)
  (refine wpG_val (v := idv b) rfl rfl (fun u hu => load_any_op u (HLJ.out u (EnvX.sub hu (fun _ h => by cases h))) rfl) ?_ hw770; intro K hK; go_big_quiet_op; go_big_quiet_on)
  (refine wpG_val (v := .bool true) rfl rfl (fun u hu => eqlb_op HDB.out.1 HDB.out.1 (by simp [eqL]) u rfl rfl) ?_ hw770; intro K hK; go_big_quiet_op; go_big_quiet_on)
  (refine wpG_op rfl rfl rfl ?_; intro K hK; go_big_quiet_op; go_big_quiet_on)
  (refine wpG_op rfl rfl rfl ?_; intro K hK; go_big_quiet_op; go_big_quiet_on)
  clear hone hw770
  refine wpG_nil ?_
  refine anyH_done (by kernel_rfl) ?_
  intro u772 E2'
  have EX771 := Lib.hid E2'
  clear E2'
  have HBE := Lib.hid (HBU.out.trans ((EnvX.bel EX771.out).mono HBU.out.size))
  go_wp2
  go_ret
  exact ⟨rfl, HBE.out⟩
set_option maxRecDepth 20000 in
set_option maxHeartbeats 8000000 in
theorem law_twice_first (T : TreeC) (K : LinkC) (l : List (List Int)) (a b : List Int) (p q n : Int) (A : Option Addr) (m c : Nat) (w : World) (hl : l.length = m) (hmc : m ≤ c) (hcm : c ≤ maxLen) (hI : isIds l) (ha : isId a) (hb : isId b) (hp : I64 p) (hq : I64 q) (hn : I64 n) (hA : IdsIn w w.heap.size A l) (ht : Tables w) (x : List Int) (r : List (List Int)) (hxr : l = x :: r) (h32 : m ≤ 32) (j : Nat) (n1 : n = (j : Int)) (n2 : 1 ≤ j) (n3 : j ≤ 31) (n4 : q < (j : Int)) (n5 : (j : Int) ≤ p) :
    Calls Tryd.prog 6 #[.slice A m c, idv a, .int .i64 p, idv b, .int .i64 q, .int .i64 n] w fun e w' => e = .returned (.bool true) ∧ Below w.heap.size w w' := by
  subst n1
  have hrl : r.length + 1 = m := by rw [← hl, hxr]; rfl
  have K5 : Hid (decide (32 < (m : Int)) = false) := decide_eq_false (by omega)
  have K10 : Hid (decide ((m : Int) = 0) = false) := decide_eq_false (by omega)
  have K14 : Hid (decide ((j : Int) < 1) = false) := decide_eq_false (by omega)
  have K18 : Hid (decide (31 < (j : Int)) = false) := decide_eq_false (by omega)
  obtain ⟨B, hB⟩ : ∃ B, stepL x r a (lvN p) = B := ⟨_, rfl⟩
  obtain ⟨s, hs⟩ : ∃ s, List.replicate (lvN p) a ++ r.drop (lvN p) = s := ⟨_, rfl⟩
  have hBs : B = x :: s := by rw [← hB, ← hs]; rfl
  obtain ⟨C, hC⟩ : ∃ C, stepL x s b (lvN q) = C := ⟨_, rfl⟩
  have hp31 := lvN_le p
  have hq31 := lvN_le q
  have hBl : B.length = 1 + (lvN p + (r.length - lvN p)) := by rw [← hB]; exact step_len ..
  have hsl : B.length = s.length + 1 := by rw [hBs]; rfl
  have hCl : C.length = 1 + (lvN q + (s.length - lvN q)) := by rw [← hC]; exact step_len ..
  have hB0 : 0 < B.length := by omega
  have hC0 : 0 < C.length := by omega
  have hBm : B.length ≤ 32 := by omega
  have hCm : C.length ≤ 32 := by omega
  have HN1 : Hid (nextT l a p = B) := by show _ = _; rw [hxr, next_some (by omega), hB]
  have HN2 : Hid (nextT B b q = C) := by show _ = _; rw [hBs, next_some (by omega), hC]
  have HIB : Hid (isIds B) := by rw [← hB]; exact step_ids (by rw [← hxr]; exact hI) ha
  have HIC : Hid (isIds C) := by rw [← hC]; exact step_ids (by rw [← hBs]; exact HIB.out) hb
  have C5 : Hid (decide ((j : Int) ≤ q) = false) := decide_eq_false (by omega)
  have C7 : Hid (decide ((j : Int) ≤ p) = true) := decide_eq_true (by omega)
  have hk : j ≤ lvN p := by unfold lvN; omega
  have hk2 : lvN q < j := by unfold lvN; omega
  have HJ : Hid (j < C.length ∧ C.getD j [] = a) := ⟨by omega, by rw [← hC, step_above hk2, ← hBs, ← hB]; exact step_get n2 hk⟩
  clear n2 n3 n4 n5 hk hk2
  have HBD := Lib.hid (And.intro hB0 hBm)
  have HCD := Lib.hid (And.intro hC0 hCm)
  have HDA := Lib.hid ha
  have HDB := Lib.hid hb
  have HL := Lib.hid (And.intro hl (And.intro hmc hcm))
  have HIA := Lib.hid (And.intro hI hA)
  have HPQ := Lib.hid (And.intro hp hq)
  have hm0 : 0 < m := by omega
  clear hl hI ha hb hA hxr hrl hmc hcm hB hs hBs hC hp31 hq31 hBl hsl hCl hB0 hC0 hBm hCm hp hq hn
  have E0 : Hid (EnvX w ((w.alloc (.cells (arrB 32 a) 24)).alloc (.cells (arrB 32 b) 24)) [((w.heap.size + 1), Obj.cells (arrB 32 b) 24 (0, 0)), (w.heap.size, Obj.cells (arrB 32 a) 24 (0, 0))]) := (EnvX.start w).two _ _
  have HAW := Lib.hid (lawake_any T K ((w.alloc (.cells (arrB 32 a) 24)).alloc (.cells (arrB 32 b) 24)) (ht.below (EnvX.bel E0.out)))
  have HT := Lib.hid ht
  have HTR := Lib.hid T
  have HK := Lib.hid K
  clear ht T K
  unfold idv
  go_enter Tryd.func6, Tryd.ntmps6
  go_upto_region 1 with (fail)
  generalize ((w.alloc (.cells (arrB 32 a) 24)).alloc (.cells (arrB 32 b) 24)) = W at *
  go_wp2_with fail
  refine HAW.out.mono ?_
  rintro e w1 ⟨rfl, hb1⟩
  have HB1 := Lib.hid (EnvX.below E0.out hb1).bel
  have E1 : Hid (EnvX w1 w1 [((w.heap.size + 1), Obj.cells (arrB 32 b) 24 (0, 0)), (w.heap.size, Obj.cells (arrB 32 a) 24 (0, 0))]) := ⟨Below.refl _ _, (EnvX.below E0.out hb1).box⟩
  have HT1 := Lib.hid (HT.out.below HB1.out)
  clear hb1 E0 HAW
  go_upto_region 2 with (fail)
  refine wp_region_Hx (w0 := w1) [0, 1, 2, 3, 4, 5, 6, 7, 8, 9, 10, 11, 12, 13, 14, 15, 16, 17, 18, 19] [((w.heap.size + 1), Obj.cells (arrB 32 b) 24 (0, 0)), (w.heap.size, Obj.cells (arrB 32 a) 24 (0, 0))] rfl E1.out ?_
  refine lexH_phase [0, 1, 2, 3, 4, 5, 6, 7, 8, 9, 10, 11, 12, 13, 14, 15, 16, 17, 18, 19] [] ?_
  have hw701 : EnvX w1 _ [((w.heap.size + 1), Obj.cells (arrB 32 b) 24 (0, 0)), (w.heap.size, Obj.cells (arrB 32 a) 24 (0, 0))] := E1.out
  have hone := @EnvC.one _ _ _ hw701
  (refine wpG_op rfl rfl rfl ?_; intro K hK; go_big_quiet_op; go_big_quiet_on)
  (refine wpG_op rfl rfl rfl ?_; intro K hK; go_big_quiet_op; go_big_quiet_on)
  (refine wpG_op rfl rfl rfl ?_; intro K hK; go_big_quiet_op; go_big_quiet_on)
  (refine wpG_op rfl rfl rfl ?_; intro K hK; go_big_quiet_op; go_big_quiet_on)
  (refine wpG_val (v := .int .i64 (m : Int)) rfl rfl (fun u hu => lenI_op u rfl) ?_ hw701; intro K hK; go_big_quiet_op; go_big_quiet_on)
  (refine wpG_val (v := .bool false) rfl rfl (fun u hu => gtZ_op u K5.out rfl rfl) ?_ hw701; intro K hK; go_big_quiet_op; go_big_quiet_on)
  (refine wpG_op rfl rfl rfl ?_; intro K hK; go_big_quiet_op; go_big_quiet_on)
  (refine wpG_op rfl rfl rfl ?_; intro K hK; go_big_quiet_op; go_big_quiet_on)
  (refine wpG_op rfl rfl rfl ?_; intro K hK; go_big_quiet_op; go_big_quiet_on)
  (refine wpG_val (v := .int .i64 (m : Int)) rfl rfl (fun u hu => lenI_op u rfl) ?_ hw701; intro K hK; go_big_quiet_op; go_big_quiet_on)
  (refine wpG_val (v := .bool false) rfl rfl (fun u hu => eqlI_op u K10.out rfl rfl) ?_ hw701; intro K hK; go_big_quiet_op; go_big_quiet_on)
  (refine wpG_op rfl rfl rfl ?_; intro K hK; go_big_quiet_op; go_big_quiet_on)
  (refine wpG_op rfl rfl rfl ?_; intro K hK; go_big_quiet_op; go_big_quiet_on)
  (refine wpG_op rfl rfl rfl ?_; intro K hK; go_big_quiet_op; go_big_quiet_on)
  (refine wpG_val (v := .bool false) rfl rfl (fun u hu => ltZ_op u K14.out rfl rfl) ?_ hw701; intro K hK; go_big_quiet_op; go_big_quiet_on)
  (refine wpG_op rfl rfl rfl ?_; intro K hK; go_big_quiet_op; go_big_quiet_on)
  (refine wpG_op rfl rfl rfl ?_; intro K hK; go_big_quiet_op; go_big_quiet_on)
  (refine wpG_op rfl rfl rfl ?_; intro K hK; go_big_quiet_op; go_big_quiet_on)
  (refine wpG_val (v := .bool false) rfl rfl (fun u hu => gtZ_op u K18.out rfl rfl) ?_ hw701; intro K hK; go_big_quiet_op; go_big_quiet_on)
  (refine wpG_op rfl rfl rfl ?_; intro K hK; go_big_quiet_op; go_big_quiet_on)
  clear hone hw701
  refine wpG_nil ?_
  intro u703 E2'
  have EX702 := Lib.hid E2'
  clear E2'
  have HB1 := Lib.hid (HB1.out.trans ((EnvX.bel EX702.out).mono HB1.out.size))
  have HT1 := Lib.hid (HT1.out.below (EnvX.bel EX702.out))
  have E1 : Hid (EnvX u703 u703 [((w.heap.size + 1), Obj.cells (arrB 32 b) 24 (0, 0)), (w.heap.size, Obj.cells (arrB 32 a) 24 (0, 0))]) := ⟨Below.refl _ _, EX702.out.box⟩
  clear EX702
  go_upto_region 4 with (fail)
  refine wp_region_H (w0 := u703) [((w.heap.size + 1), Obj.cells (arrB 32 b) 24 (0, 0)), (w.heap.size, Obj.cells (arrB 32 a) 24 (0, 0))] (by kernel_rfl) E1.out ?_
  refine anyH_phase [0, 1, 2, 4, 5] 3 rfl ⟨_, (EnvX.drew E1.out)⟩ (by kernel_rfl) ?_
  have hw761 : EnvX u703 _ [((w.heap.size + 1), Obj.cells (arrB 32 b) 24 (0, 0)), (w.heap.size, Obj.cells (arrB 32 a) 24 (0, 0))] := (EnvX.drew E1.out)
  have hone := @EnvC.one _ _ _ hw761
  (refine wpG_op rfl rfl rfl ?_; intro K hK; go_big_quiet_op; go_big_quiet_on)
  (refine wpG_val (v := idv a) rfl rfl (fun u hu => load_run_op u (box_load hu (List.Mem.tail _ (List.Mem.head _)) HDA.out.1) rfl) ?_ hw761; intro K hK; go_big_quiet_op; go_big_quiet_on)
  (refine wpG_op rfl rfl rfl ?_; intro K hK; go_big_quiet_op; go_big_quiet_on)
  (refine wpG_val (v := idv b) rfl rfl (fun u hu => load_run_op u (box_load hu (List.Mem.head _) HDB.out.1) rfl) ?_ hw761; intro K hK; go_big_quiet_op; go_big_quiet_on)
  (refine wpG_op rfl rfl rfl ?_; intro K hK; go_big_quiet_op; go_big_quiet_on)
  clear hone hw761
  refine wpG_nil ?_
  refine anyH_one (i := 3) (by kernel_rfl) (hOp_fresh (R := FreshI B) (M0 := [((w.heap.size + 1), Obj.cells (arrB 32 b) 24 (0, 0)), (w.heap.size, Obj.cells (arrB 32 a) 24 (0, 0))]) rfl rfl (fun _ h => h) (fun u hu => FAt_call (fid := 11) (xs := #[.tmp 37, .tmp 38, .tmp 39]) (args := #[.slice A m c, idv a, .int .i64 p]) rfl Tryd.func11 rfl rfl u (callsI_fresh (by have h := HK.out.next l a p A m c u HL.out.1 (by omega) HL.out.2.1 HL.out.2.2 HIA.out.1 HDA.out HPQ.out.1 ((HIA.out.2.up HB1.out).up (EnvX.bel hu)) (HT1.out.below (EnvX.bel hu)); rwa [HN1.out] at h))) ?_)
  rintro x N hF hf he762; intro K' hK'; go_big_quiet_op; go_big_quiet_on
  obtain ⟨gb, capb, curb, rfl, rfl, hcb⟩ := FreshI.full hF HBD.out.1
  have HFB := Lib.hid (And.intro hF (And.intro hcb.1 hcb.2.1))
  clear hF hcb
  clear hf
  change anyH _ _ _ _ _ _ _ _ [(gb, Obj.cells curb 24 (0, 0)), ((w.heap.size + 1), Obj.cells (arrB 32 b) 24 (0, 0)), (w.heap.size, Obj.cells (arrB 32 a) 24 (0, 0))]
  refine anyH_one (i := 6) (by kernel_rfl) (hOp_fresh (R := FreshI C) (M0 := [(gb, Obj.cells curb 24 (0, 0)), ((w.heap.size + 1), Obj.cells (arrB 32 b) 24 (0, 0)), (w.heap.size, Obj.cells (arrB 32 a) 24 (0, 0))]) rfl rfl (fun _ h => h) (fun u hu => FAt_call (fid := 11) (xs := #[.tmp 40, .tmp 41, .tmp 42]) (args := #[.slice (some ⟨gb, 0, none⟩) B.length capb, idv b, .int .i64 q]) rfl Tryd.func11 rfl rfl u (callsI_fresh (by have h := HK.out.next B b q (some ⟨gb, 0, none⟩) B.length capb u rfl (by have := HBD.out; omega) HFB.out.2.1 HFB.out.2.2 HIB.out HDB.out HPQ.out.2 (HFB.out.1.ids HIB.out hu (fun y hy => by cases List.mem_singleton.1 hy; exact (List.Mem.head _))) (HT1.out.below (EnvX.bel hu)); rwa [HN2.out] at h))) ?_)
  rintro x N hF hf he763; intro K' hK'; go_big_quiet_op; go_big_quiet_on
  obtain ⟨gc, capc, curc, rfl, rfl, hcc⟩ := FreshI.full hF HCD.out.1
  have HFC := Lib.hid hF
  have HCC := Lib.hid hcc
  clear hF hcc
  clear hf
  change anyH _ _ _ _ _ _ _ _ [(gc, Obj.cells curc 24 (0, 0)), (gb, Obj.cells curb 24 (0, 0)), ((w.heap.size + 1), Obj.cells (arrB 32 b) 24 (0, 0)), (w.heap.size, Obj.cells (arrB 32 a) 24 (0, 0))]
  refine anyH_phase [7] 0 rfl ⟨_, he763.choose_spec⟩ (by kernel_rfl) ?_
  have hw764 : EnvX u703 _ [(gc, Obj.cells curc 24 (0, 0)), (gb, Obj.cells curb 24 (0, 0)), ((w.heap.size + 1), Obj.cells (arrB 32 b) 24 (0, 0)), (w.heap.size, Obj.cells (arrB 32 a) 24 (0, 0))] := he763.choose_spec
  have hone := @EnvC.one _ _ _ hw764
  (refine wpG_op rfl rfl rfl ?_; intro K hK; go_big_quiet_op; go_big_quiet_on)
  clear hone hw764
  refine wpG_nil ?_
  refine anyH_done (by kernel_rfl) ?_
  intro u766 E2'
  have EX765 := Lib.hid E2'
  clear E2'
  have HBU := Lib.hid (HB1.out.trans ((EnvX.bel EX765.out).mono HB1.out.size))
  have HAC : Hid (IdsIn u766 u766.heap.size (some ⟨gc, 0, none⟩) C) := HFC.out.ids HIC.out EX765.out (fun y hy => by cases List.mem_singleton.1 hy; exact (List.Mem.head _))
  have HLI : Hid (∀ u, EnvX u766 u [] → (loadVar 24 ⟨w.heap.size, 0, none⟩).run Tryd.prog u = .ok (idv a) u) := fun u hu => box_load (EnvX.comb EX765.out hu) (List.mem_append_right [] (List.Mem.tail _ (List.Mem.tail _ (List.Mem.tail _ (List.Mem.head _))))) HDA.out.1
  have HLJ : Hid (∀ u, EnvX u766 u [] → (loadVar 24 ⟨w.heap.size + 1, 0, none⟩).run Tryd.prog u = .ok (idv b) u) := fun u hu => box_load (EnvX.comb EX765.out hu) (List.mem_append_right [] (List.Mem.tail _ (List.Mem.tail _ (List.Mem.head _)))) HDB.out.1
  have HAL := Lib.hid (HIA.out.2.up HBU.out)
  have EU : Hid (EnvX u766 u766 []) := EnvX.start _
  have HAX := Lib.hid (HAC.out.load HIC.out (i := 0) HCD.out.1)
  obtain ⟨ac, hac, -⟩ := HAX.out
  have HAC2 := Lib.hid hac
  obtain ⟨al, rfl, -⟩ := HAL.out.load HIA.out.1 (i := 0) (by rw [HL.out.1]; exact hm0)
  have HLC : Hid (∀ k, k < C.length → ∀ u, EnvX u766 u [] → (loadVar 24 ((⟨gc, 0, none⟩ : Addr).add (k * 32))).run Tryd.prog u = .ok (idv (C.getD k [])) u) := fun k hk u hu => by
    obtain ⟨a2, e, h⟩ := (HAC.out.up (EnvX.bel hu)).load HIC.out (i := k) (hk)
    cases e
    exact h
  have HLL : Hid (∀ k, k < m → ∀ u, EnvX u766 u [] → (loadVar 24 (al.add (k * 32))).run Tryd.prog u = .ok (idv (l.getD k [])) u) := fun k hk u hu => by
    obtain ⟨a2, e, h⟩ := (HAL.out.up (EnvX.bel hu)).load HIA.out.1 (i := k) (by rw [HL.out.1]; exact hk)
    cases e
    exact h
  clear hac
  go_upto_region 5 with (fail)
  refine wp_region_Hx (w0 := u766) [0, 1, 2] [] rfl EU.out ?_
  refine lexH_phase [0, 1, 2] [] ?_
  have hw767 : EnvX u766 _ [] := EU.out
  have hone := @EnvC.one _ _ _ hw767
  (refine wpG_op rfl rfl rfl ?_; intro K hK; go_big_quiet_op; go_big_quiet_on)
  (refine wpG_op rfl rfl rfl ?_; intro K hK; go_big_quiet_op; go_big_quiet_on)
  (refine wpG_val (v := .bool false) rfl rfl (fun u hu => leZ_op u C5.out rfl rfl) ?_ hw767; intro K hK; go_big_quiet_op; go_big_quiet_on)
  clear hone hw767
  refine wpG_nil ?_
  intro u769 E2'
  have EX768 := Lib.hid E2'
  clear E2'
  go_upto_region 7 with (fail)
  refine wp_region_Hx (w0 := u766) [0, 1, 2] [] rfl EX768.out ?_
  refine lexH_phase [0, 1, 2] [] ?_
  have hw770 : EnvX u766 _ [] := EX768.out
  have hone := @EnvC.one _ _ _ hw770
  (refine wpG_op rfl rfl rfl ?_; intro K hK; go_big_quiet_op; go_big_quiet_on)
  (refine wpG_op rfl rfl rfl ?_; intro K hK; go_big_quiet_op; go_big_quiet_on)
  (refine wpG_val (v := .bool true) rfl rfl (fun u hu => leZ_op u C7.out rfl rfl) ?_ hw770; intro K hK; go_big_quiet_op; go_big_quiet_on)
  clear hone hw770
  refine wpG_nil ?_
  intro u772 E2'
  have EX771 := Lib.hid E2'
  clear E2'
  go_upto_region 8 with (fail)
  refine wp_region_H (w0 := u766) [] (by kernel_rfl) EX771.out ?_
  refine anyH_phaseN [0, 1, 2, 3, 4, 5, 6, 7, 8, 9, 10, 11, 12] 0 rfl (by kernel_rfl) ?_
  have hw773 : EnvX u766 _ [] := EnvX.sub (EnvX.drew EX771.out) (fun _ h => by cases h)
  have hone := @EnvC.one _ _ _ hw773
  (refine wpG_op rfl rfl rfl ?_; intro K hK; go_big_quiet_op; go_big_quiet_on)
  (refine wpG_val (v := .int .i64 (C.length : Int)) rfl rfl (fun u hu => lenI_op u rfl) ?_ hw773; intro K hK; go_big_quiet_op; go_big_quiet_on)
  (refine wpG_op rfl rfl rfl ?_; intro K hK; go_big_quiet_op; go_big_quiet_on)
  (refine wpG_val (v := .bool true) rfl rfl (fun u hu => gtZ_op u (decide_eq_true (by have := HJ.out.1; omega)) rfl rfl) ?_ hw773; intro K hK; go_big_quiet_op; go_big_quiet_on)
  (refine wpG_op rfl rfl rfl ?_; intro K hK; go_big_quiet_op; go_big_quiet_on)
  (refine wpG_op rfl rfl rfl ?_; intro K hK; go_big_quiet_op; go_big_quiet_on)
  (refine wpG_op rfl rfl rfl ?_; intro K hK; go_big_quiet_op; go_big_quiet_on)
  (refine wpG_val (v := .pointer (some ((⟨gc, 0, none⟩ : Addr).add (j * 32)))) rfl rfl (fun u hu => idxSl_op (i := j) Tryd.underlying22 aggIdT.size HJ.out.1 u rfl rfl) ?_ hw773; intro K hK; go_big_quiet_op; go_big_quiet_on)
  (refine wpG_val (v := idv a) rfl rfl (fun u hu => load_any_op u (by have h := HLC.out j HJ.out.1 u (EnvX.sub hu (fun _ h => by cases h)); rw [HJ.out.2] at h; exact h) rfl) ?_ hw773; intro K hK; go_big_quiet_op; go_big_quiet_on)
  (refine wpG_val (v := idv a) rfl rfl (fun u hu => load_any_op u (HLI.out u (EnvX.sub hu (fun _ h => by cases h))) rfl) ?_ hw773; intro K hK; go_big_quiet_op; go_big_quiet_on)
  (refine wpG_val (v := .bool true) rfl rfl (fun u hu => eqlb_op HDA.out.1 HDA.out.1 (by simp [eqL]) u rfl rfl) ?_ hw773; intro K hK; go_big_quiet_op; go_big_quiet_on)
  (refine wpG_op rfl rfl rfl ?_; intro K hK; go_big_quiet_op; go_big_quiet_on)
  (refine wpG_op rfl rfl rfl ?_; intro K hK; go_big_quiet_op; go_big_quiet_on)
  clear hone hw773
  refine wpG_nil ?_
  refine anyH_done (by kernel_rfl) ?_
  intro u775 E2'
  have EX774 := Lib.hid E2'
  clear E2'
  have HBE := Lib.hid (HBU.out.trans ((EnvX.bel EX774.out).mono HBU.out.size))
  go_wp2
  go_ret
  exact ⟨rfl, HBE.out⟩
set_option maxRecDepth 20000 in
set_option maxHeartbeats 8000000 in
theorem law_twice_over (T : TreeC) (K : LinkC) (l : List (List Int)) (a b : List Int) (p q n : Int) (A : Option Addr) (m c : Nat) (w : World) (hl : l.length = m) (hmc : m ≤ c) (hcm : c ≤ maxLen) (hI : isIds l) (ha : isId a) (hb : isId b) (hp : I64 p) (hq : I64 q) (hn : I64 n) (hA : IdsIn w w.heap.size A l) (ht : Tables w) (x : List Int) (r : List (List Int)) (hxr : l = x :: r) (h32 : m ≤ 32) (j : Nat) (n1 : n = (j : Int)) (n2 : 1 ≤ j) (n3 : j ≤ 31) (n4 : q < (j : Int)) (n5 : p < (j : Int)) (n6 : m ≤ j) :
    Calls Tryd.prog 6 #[.slice A m c, idv a, .int .i64 p, idv b, .int .i64 q, .int .i64 n] w fun e w' => e = .returned (.bool true) ∧ Below w.heap.size w w' := by
  subst n1
  have hrl : r.length + 1 = m := by rw [← hl, hxr]; rfl
  have K5 : Hid (decide (32 < (m : Int)) = false) := decide_eq_false (by omega)
  have K10 : Hid (decide ((m : Int) = 0) = false) := decide_eq_false (by omega)
  have K14 : Hid (decide ((j : Int) < 1) = false) := decide_eq_false (by omega)
  have K18 : Hid (decide (31 < (j : Int)) = false) := decide_eq_false (by omega)
  obtain ⟨B, hB⟩ : ∃ B, stepL x r a (lvN p) = B := ⟨_, rfl⟩
  obtain ⟨s, hs⟩ : ∃ s, List.replicate (lvN p) a ++ r.drop (lvN p) = s := ⟨_, rfl⟩
  have hBs : B = x :: s := by rw [← hB, ← hs]; rfl
  obtain ⟨C, hC⟩ : ∃ C, stepL x s b (lvN q) = C := ⟨_, rfl⟩
  have hp31 := lvN_le p
  have hq31 := lvN_le q
  have hBl : B.length = 1 + (lvN p + (r.length - lvN p)) := by rw [← hB]; exact step_len ..
  have hsl : B.length = s.length + 1 := by rw [hBs]; rfl
  have hCl : C.length = 1 + (lvN q + (s.length - lvN q)) := by rw [← hC]; exact step_len ..
  have hB0 : 0 < B.length := by omega
  have hC0 : 0 < C.length := by omega
  have hBm : B.length ≤ 32 := by omega
  have hCm : C.length ≤ 32 := by omega
  have HN1 : Hid (nextT l a p = B) := by show _ = _; rw [hxr, next_some (by omega), hB]
  have HN2 : Hid (nextT B b q = C) := by show _ = _; rw [hBs, next_some (by omega), hC]
  have HIB : Hid (isIds B) := by rw [← hB]; exact step_ids (by rw [← hxr]; exact hI) ha
  have HIC : Hid (isIds C) := by rw [← hC]; exact step_ids (by rw [← hBs]; exact HIB.out) hb
  have C5 : Hid (decide ((j : Int) ≤ q) = false) := decide_eq_false (by omega)
  have C7 : Hid (decide ((j : Int) ≤ p) = false) := decide_eq_false (by omega)
  have C9 : Hid (decide ((m : Int) ≤ (j : Int)) = true) := decide_eq_true (by omega)
  clear n2 n3 n4 n5 n6
  have HBD := Lib.hid (And.intro hB0 hBm)
  have HCD := Lib.hid (And.intro hC0 hCm)
  have HDA := Lib.hid ha
  have HDB := Lib.hid hb
  have HL := Lib.hid (And.intro hl (And.intro hmc hcm))
  have HIA := Lib.hid (And.intro hI hA)
  have HPQ := Lib.hid (And.intro hp hq)
  have hm0 : 0 < m := by omega
  clear hl hI ha hb hA hxr hrl hmc hcm hB hs hBs hC hp31 hq31 hBl hsl hCl hB0 hC0 hBm hCm hp hq hn
  have E0 : Hid (EnvX w ((w.alloc (.cells (arrB 32 a) 24)).alloc (.cells (arrB 32 b) 24)) [((w.heap.size + 1), Obj.cells (arrB 32 b) 24 (0, 0)), (w.heap.size, Obj.cells (arrB 32 a) 24 (0, 0))]) := (EnvX.start w).two _ _
  have HAW := Lib.hid (lawake_any T K ((w.alloc (.cells (arrB 32 a) 24)).alloc (.cells (arrB 32 b) 24)) (ht.below (EnvX.bel E0.out)))
  have HT := Lib.hid ht
  have HTR := Lib.hid T
  have HK := Lib.hid K
  clear ht T K
  unfold idv
  go_enter Tryd.func6, Tryd.ntmps6
  go_upto_region 1 with (fail)
  generalize ((w.alloc (.cells (arrB 32 a) 24)).alloc (.cells (arrB 32 b) 24)) = W at *
  go_wp2_with fail
  refine HAW.out.mono ?_
  rintro e w1 ⟨rfl, hb1⟩
  have HB1 := Lib.hid (EnvX.below E0.out hb1).bel
  have E1 : Hid (EnvX w1 w1 [((w.heap.size + 1), Obj.cells (arrB 32 b) 24 (0, 0)), (w.heap.size, Obj.cells (arrB 32 a) 24 (0, 0))]) := ⟨Below.refl _ _, (EnvX.below E0.out hb1).box⟩
  have HT1 := Lib.hid (HT.out.below HB1.out)
  clear hb1 E0 HAW
  go_upto_region 2 with (fail)
  refine wp_region_Hx (w0 := w1) [0, 1, 2, 3, 4, 5, 6, 7, 8, 9, 10, 11, 12, 13, 14, 15, 16, 17, 18, 19] [((w.heap.size + 1), Obj.cells (arrB 32 b) 24 (0, 0)), (w.heap.size, Obj.cells (arrB 32 a) 24 (0, 0))] rfl E1.out ?_
  refine lexH_phase [0, 1, 2, 3, 4, 5, 6, 7, 8, 9, 10, 11, 12, 13, 14, 15, 16, 17, 18, 19] [] ?_
  have hw701 : EnvX w1 _ [((w.heap.size + 1), Obj.cells (arrB 32 b) 24 (0, 0)), (w.heap.size, Obj.cells (arrB 32 a) 24 (0, 0))] := E1.out
  have hone := @EnvC.one _ _ _ hw701
  (refine wpG_op rfl rfl rfl ?_; intro K hK; go_big_quiet_op; go_big_quiet_on)
  (refine wpG_op rfl rfl rfl ?_; intro K hK; go_big_quiet_op; go_big_quiet_on)
  (refine wpG_op rfl rfl rfl ?_; intro K hK; go_big_quiet_op; go_big_quiet_on)
  (refine wpG_op rfl rfl rfl ?_; intro K hK; go_big_quiet_op; go_big_quiet_on)
  (refine wpG_val (v := .int .i64 (m : Int)) rfl rfl (fun u hu => lenI_op u rfl) ?_ hw701; intro K hK; go_big_quiet_op; go_big_quiet_on)
  (refine wpG_val (v := .bool false) rfl rfl (fun u hu => gtZ_op u K5.out rfl rfl) ?_ hw701; intro K hK; go_big_quiet_op; go_big_quiet_on)
  (refine wpG_op rfl rfl rfl ?_; intro K hK; go_big_quiet_op; go_big_quiet_on)
  (refine wpG_op rfl rfl rfl ?_; intro K hK; go_big_quiet_op; go_big_quiet_on)
  (refine wpG_op rfl rfl rfl ?_; intro K hK; go_big_quiet_op; go_big_quiet_on)
  (refine wpG_val (v := .int .i64 (m : Int)) rfl rfl (fun u hu => lenI_op u rfl) ?_ hw701; intro K hK; go_big_quiet_op; go_big_quiet_on)
  (refine wpG_val (v := .bool false) rfl rfl (fun u hu => eqlI_op u K10.out rfl rfl) ?_ hw701; intro K hK; go_big_quiet_op; go_big_quiet_on)
  (refine wpG_op rfl rfl rfl ?_; intro K hK; go_big_quiet_op; go_big_quiet_on)
  (refine wpG_op rfl rfl rfl ?_; intro K hK; go_big_quiet_op; go_big_quiet_on)
  (refine wpG_op rfl rfl rfl ?_; intro K hK; go_big_quiet_op; go_big_quiet_on)
  (refine wpG_val (v := .bool false) rfl rfl (fun u hu => ltZ_op u K14.out rfl rfl) ?_ hw701; intro K hK; go_big_quiet_op; go_big_quiet_on)
  (refine wpG_op rfl rfl rfl ?_; intro K hK; go_big_quiet_op; go_big_quiet_on)
  (refine wpG_op rfl rfl rfl ?_; intro K hK; go_big_quiet_op; go_big_quiet_on)
  (refine wpG_op rfl rfl rfl ?_; intro K hK; go_big_quiet_op; go_big_quiet_on)
  (refine wpG_val (v := .bool false) rfl rfl (fun u hu => gtZ_op u K18.out rfl rfl) ?_ hw701; intro K hK; go_big_quiet_op; go_big_quiet_on)
  (refine wpG_op rfl rfl rfl ?_; intro K hK; go_big_quiet_op; go_big_quiet_on)
  clear hone hw701
  refine wpG_nil ?_
  intro u703 E2'
  have EX702 := Lib.hid E2'
  clear E2'
  have HB1 := Lib.hid (HB1.out.trans ((EnvX.bel EX702.out).mono HB1.out.size))
  have HT1 := Lib.hid (HT1.out.below (EnvX.bel EX702.out))
  have E1 : Hid (EnvX u703 u703 [((w.heap.size + 1), Obj.cells (arrB 32 b) 24 (0, 0)), (w.heap.size, Obj.cells (arrB 32 a) 24 (0, 0))]) := ⟨Below.refl _ _, EX702.out.box⟩
  clear EX702
  go_upto_region 4 with (fail)
  refine wp_region_H (w0 := u703) [((w.heap.size + 1), Obj.cells (arrB 32 b) 24 (0, 0)), (w.heap.size, Obj.cells (arrB 32 a) 24 (0, 0))] (by kernel_rfl) E1.out ?_
  refine anyH_phase [0, 1, 2, 4, 5] 3 rfl ⟨_, (EnvX.drew E1.out)⟩ (by kernel_rfl) ?_
  have hw761 : EnvX u703 _ [((w.heap.size + 1), Obj.cells (arrB 32 b) 24 (0, 0)), (w.heap.size, Obj.cells (arrB 32 a) 24 (0, 0))] := (EnvX.drew E1.out)
  have hone := @EnvC.one _ _ _ hw761
  (refine wpG_op rfl rfl rfl ?_; intro K hK; go_big_quiet_op; go_big_quiet_on)
  (refine wpG_val (v := idv a) rfl rfl (fun u hu => load_run_op u (box_load hu (List.Mem.tail _ (List.Mem.head _)) HDA.out.1) rfl) ?_ hw761; intro K hK; go_big_quiet_op; go_big_quiet_on)
  (refine wpG_op rfl rfl rfl ?_; intro K hK; go_big_quiet_op; go_big_quiet_on)
  (refine wpG_val (v := idv b) rfl rfl (fun u hu => load_run_op u (box_load hu (List.Mem.head _) HDB.out.1) rfl) ?_ hw761; intro K hK; go_big_quiet_op; go_big_quiet_on)
  (refine wpG_op rfl rfl rfl ?_; intro K hK; go_big_quiet_op; go_big_quiet_on)
  clear hone hw761
  refine wpG_nil ?_
  refine anyH_one (i := 3) (by kernel_rfl) (hOp_fresh (R := FreshI B) (M0 := [((w.heap.size + 1), Obj.cells (arrB 32 b) 24 (0, 0)), (w.heap.size, Obj.cells (arrB 32 a) 24 (0, 0))]) rfl rfl (fun _ h => h) (fun u hu => FAt_call (fid := 11) (xs := #[.tmp 37, .tmp 38, .tmp 39]) (args := #[.slice A m c, idv a, .int .i64 p]) rfl Tryd.func11 rfl rfl u (callsI_fresh (by have h := HK.out.next l a p A m c u HL.out.1 (by omega) HL.out.2.1 HL.out.2.2 HIA.out.1 HDA.out HPQ.out.1 ((HIA.out.2.up HB1.out).up (EnvX.bel hu)) (HT1.out.below (EnvX.bel hu)); rwa [HN1.out] at h))) ?_)
  rintro x N hF hf he762; intro K' hK'; go_big_quiet_op; go_big_quiet_on
  obtain ⟨gb, capb, curb, rfl, rfl, hcb⟩ := FreshI.full hF HBD.out.1
  have HFB := Lib.hid (And.intro hF (And.intro hcb.1 hcb.2.1))
  clear hF hcb
  clear hf
  change anyH _ _ _ _ _ _ _ _ [(gb, Obj.cells curb 24 (0, 0)), ((w.heap.size + 1), Obj.cells (arrB 32 b) 24 (0, 0)), (w.heap.size, Obj.cells (arrB 32 a) 24 (0, 0))]
  refine anyH_one (i := 6) (by kernel_rfl) (hOp_fresh (R := FreshI C) (M0 := [(gb, Obj.cells curb 24 (0, 0)), ((w.heap.size + 1), Obj.cells (arrB 32 b) 24 (0, 0)), (w.heap.size, Obj.cells (arrB 32 a) 24 (0, 0))]) rfl rfl (fun _ h => h) (fun u hu => FAt_call (fid := 11) (xs := #[.tmp 40, .tmp 41, .tmp 42]) (args := #[.slice (some ⟨gb, 0, none⟩) B.length capb, idv b, .int .i64 q]) rfl Tryd.func11 rfl rfl u (callsI_fresh (by have h := HK.out.next B b q (some ⟨gb, 0, none⟩) B.length capb u rfl (by have := HBD.out; omega) HFB.out.2.1 HFB.out.2.2 HIB.out HDB.out HPQ.out.2 (HFB.out.1.ids HIB.out hu (fun y hy => by cases List.mem_singleton.1 hy; exact (List.Mem.head _))) (HT1.out.below (EnvX.bel hu)); rwa [HN2.out] at h))) ?_)
  rintro x N hF hf he763; intro K' hK'; go_big_quiet_op; go_big_quiet_on
  obtain ⟨gc, capc, curc, rfl, rfl, hcc⟩ := FreshI.full hF HCD.out.1
  have HFC := Lib.hid hF
  have HCC := Lib.hid hcc
  clear hF hcc
  clear hf
  change anyH _ _ _ _ _ _ _ _ [(gc, Obj.cells curc 24 (0, 0)), (gb, Obj.cells curb 24 (0, 0)), ((w.heap.size + 1), Obj.cells (arrB 32 b) 24 (0, 0)), (w.heap.size, Obj.cells (arrB 32 a) 24 (0, 0))]
  refine anyH_phase [7] 0 rfl ⟨_, he763.choose_spec⟩ (by kernel_rfl) ?_
  have hw764 : EnvX u703 _ [(gc, Obj.cells curc 24 (0, 0)), (gb, Obj.cells curb 24 (0, 0)), ((w.heap.size + 1), Obj.cells (arrB 32 b) 24 (0, 0)), (w.heap.size, Obj.cells (arrB 32 a) 24 (0, 0))] := he763.choose_spec
  have hone := @EnvC.one _ _ _ hw764
  (refine wpG_op rfl rfl rfl ?_; intro K hK; go_big_quiet_op; go_big_quiet_on)
  clear hone hw764
  refine wpG_nil ?_
  refine anyH_done (by kernel_rfl) ?_
  intro u766 E2'
  have EX765 := Lib.hid E2'
  clear E2'
  have HBU := Lib.hid (HB1.out.trans ((EnvX.bel EX765.out).mono HB1.out.size))
  have HAC : Hid (IdsIn u766 u766.heap.size (some ⟨gc, 0, none⟩) C) := HFC.out.ids HIC.out EX765.out (fun y hy => by cases List.mem_singleton.1 hy; exact (List.Mem.head _))
  have HLI : Hid (∀ u, EnvX u766 u [] → (loadVar 24 ⟨w.heap.size, 0, none⟩).run Tryd.prog u = .ok (idv a) u) := fun u hu => box_load (EnvX.comb EX765.out hu) (List.mem_append_right [] (List.Mem.tail _ (List.Mem.tail _ (List.Mem.tail _ (List.Mem.head _))))) HDA.out.1
  have HLJ : Hid (∀ u, EnvX u766 u [] → (loadVar 24 ⟨w.heap.size + 1, 0, none⟩).run Tryd.prog u = .ok (idv b) u) := fun u hu => box_load (EnvX.comb EX765.out hu) (List.mem_append_right [] (List.Mem.tail _ (List.Mem.tail _ (List.Mem.head _)))) HDB.out.1
  have HAL := Lib.hid (HIA.out.2.up HBU.out)
  have EU : Hid (EnvX u766 u766 []) := EnvX.start _
  have HAX := Lib.hid (HAC.out.load HIC.out (i := 0) HCD.out.1)
  obtain ⟨ac, hac, -⟩ := HAX.out
  have HAC2 := Lib.hid hac
  obtain ⟨al, rfl, -⟩ := HAL.out.load HIA.out.1 (i := 0) (by rw [HL.out.1]; exact hm0)
  have HLC : Hid (∀ k, k < C.length → ∀ u, EnvX u766 u [] → (loadVar 24 ((⟨gc, 0, none⟩ : Addr).add (k * 32))).run Tryd.prog u = .ok (idv (C.getD k [])) u) := fun k hk u hu => by
    obtain ⟨a2, e, h⟩ := (HAC.out.up (EnvX.bel hu)).load HIC.out (i := k) (hk)
    cases e
    exact h
  have HLL : Hid (∀ k, k < m → ∀ u, EnvX u766 u [] → (loadVar 24 (al.add (k * 32))).run Tryd.prog u = .ok (idv (l.getD k [])) u) := fun k hk u hu => by
    obtain ⟨a2, e, h⟩ := (HAL.out.up (EnvX.bel hu)).load HIA.out.1 (i := k) (by rw [HL.out.1]; exact hk)
    cases e
    exact h
  clear hac
  go_upto_region 5 with (fail)
  refine wp_region_Hx (w0 := u766) [0, 1, 2] [] rfl EU.out ?_
  refine lexH_phase [0, 1, 2] [] ?_
  have hw767 : EnvX u766 _ [] := EU.out
  have hone := @EnvC.one _ _ _ hw767
  (refine wpG_op rfl rfl rfl ?_; intro K hK; go_big_quiet_op; go_big_quiet_on)
  (refine wpG_op rfl rfl rfl ?_; intro K hK; go_big_quiet_op; go_big_quiet_on)
  (refine wpG_val (v := .bool false) rfl rfl (fun u hu => leZ_op u C5.out rfl rfl) ?_ hw767; intro K hK; go_big_quiet_op; go_big_quiet_on)
  clear hone hw767
  refine wpG_nil ?_
  intro u769 E2'
  have EX768 := Lib.hid E2'
  clear E2'
  go_upto_region 7 with (fail)
  refine wp_region_Hx (w0 := u766) [0, 1, 2] [] rfl EX768.out ?_
  refine lexH_phase [0, 1, 2] [] ?_
  have hw770 : EnvX u766 _ [] := EX768.out
  have hone := @EnvC.one _ _ _ hw770
  (refine wpG_op rfl rfl rfl ?_; intro K hK; go_big_quiet_op; go_big_quiet_on)
  (refine wpG_op rfl rfl rfl ?_; intro K hK; go_big_quiet_op; go_big_quiet_on)
  (refine wpG_val (v := .bool false) rfl rfl (fun u hu => leZ_op u C7.out rfl rfl) ?_ hw770; intro K hK; go_big_quiet_op; go_big_quiet_on)
  clear hone hw770
  refine wpG_nil ?_
  intro u772 E2'
  have EX771 := Lib.hid E2'
  clear E2'
  go_upto_region 9 with (fail)
  refine wp_region_H (w0 := u766) [] (by kernel_rfl) EX771.out ?_
  refine anyH_phaseN [0, 1, 2, 3, 4, 5, 6, 7, 8, 9, 10, 11, 12, 13, 14, 15, 16, 17, 18, 19, 20, 21] 0 rfl (by kernel_rfl) ?_
  have hw773 : EnvX u766 _ [] := EnvX.sub (EnvX.drew EX771.out) (fun _ h => by cases h)
  have hone := @EnvC.one _ _ _ hw773
  (refine wpG_op rfl rfl rfl ?_; intro K hK; go_big_quiet_op; go_big_quiet_on)
  (refine wpG_op rfl rfl rfl ?_; intro K hK; go_big_quiet_op; go_big_quiet_on)
  (refine wpG_val (v := .int .i64 (m : Int)) rfl rfl (fun u hu => lenI_op u rfl) ?_ hw773; intro K hK; go_big_quiet_op; go_big_quiet_on)
  (refine wpG_val (v := .bool true) rfl rfl (fun u hu => geq_op u C9.out rfl rfl) ?_ hw773; intro K hK; go_big_quiet_op; go_big_quiet_on)
  (refine wpG_op rfl rfl rfl ?_; intro K hK; go_big_quiet_op; go_big_quiet_on)
  (refine wpG_skip rfl rfl ?_ hw773; intro K hK; go_big_quiet_op; go_big_quiet_on)
  (refine wpG_skip rfl rfl ?_ hw773; intro K hK; go_big_quiet_op; go_big_quiet_on)
  (refine wpG_skip rfl rfl ?_ hw773; intro K hK; go_big_quiet_op; go_big_quiet_on)
  (refine wpG_skip rfl rfl ?_ hw773; intro K hK; go_big_quiet_op; go_big_quiet_on)
  (refine wpG_skip rfl rfl ?_ hw773; intro K hK; go_big_quiet_op; go_big_quiet_on)
  (refine wpG_skip rfl rfl ?_ hw773; intro K hK; go_big_quiet_op; go_big_quiet_on)
  (refine wpG_skip rfl rfl ?_ hw773; intro K hK; go_big_quiet_op; go_big_quiet_on)
  (refine wpG_skip rfl rfl ?_ hw773; intro K hK; go_big_quiet_op; go_big_quiet_on)
  (refine wpG_skip rfl rfl ?_ hw773; intro K hK; go_big_quiet_op; go_big_quiet_on)
  (refine wpG_skip rfl rfl ?_ hw773; intro K hK; go_big_quiet_op; go_big_quiet_on)
  (refine wpG_skip rfl rfl ?_ hw773; intro K hK; go_big_quiet_op; go_big_quiet_on)
  (refine wpG_skip rfl rfl ?_ hw773; intro K hK; go_big_quiet_op; go_big_quiet_on)
  (refine wpG_skip rfl rfl ?_ hw773; intro K hK; go_big_quiet_op; go_big_quiet_on)
  (refine wpG_skip rfl rfl ?_ hw773; intro K hK; go_big_quiet_op; go_big_quiet_on)
  (refine wpG_skip rfl rfl ?_ hw773; intro K hK; go_big_quiet_op; go_big_quiet_on)
  (refine wpG_op rfl rfl rfl ?_; intro K hK; go_big_quiet_op; go_big_quiet_on)
  (refine wpG_op rfl rfl rfl ?_; intro K hK; go_big_quiet_op; go_big_quiet_on)
  clear hone hw773
  refine wpG_nil ?_
  refine anyH_done (by kernel_rfl) ?_
  intro u775 E2'
  have EX774 := Lib.hid E2'
  clear E2'
  have HBE := Lib.hid (HBU.out.trans ((EnvX.bel EX774.out).mono HBU.out.size))
  go_wp2
  go_ret
  exact ⟨rfl, HBE.out⟩
set_option maxRecDepth 20000 in
set_option maxHeartbeats 8000000 in
theorem law_twice_above (T : TreeC) (K : LinkC) (l : List (List Int)) (a b : List Int) (p q n : Int) (A : Option Addr) (m c : Nat) (w : World) (hl : l.length = m) (hmc : m ≤ c) (hcm : c ≤ maxLen) (hI : isIds l) (ha : isId a) (hb : isId b) (hp : I64 p) (hq : I64 q) (hn : I64 n) (hA : IdsIn w w.heap.size A l) (ht : Tables w) (x : List Int) (r : List (List Int)) (hxr : l = x :: r) (h32 : m ≤ 32) (j : Nat) (n1 : n = (j : Int)) (n2 : 1 ≤ j) (n3 : j ≤ 31) (n4 : q < (j : Int)) (n5 : p < (j : Int)) (n6 : j < m) :
    Calls Tryd.prog 6 #[.slice A m c, idv a, .int .i64 p, idv b, .int .i64 q, .int .i64 n] w fun e w' => e = .returned (.bool true) ∧ Below w.heap.size w w' := by
  subst n1
  have hrl : r.length + 1 = m := by rw [← hl, hxr]; rfl
  have K5 : Hid (decide (32 < (m : Int)) = false) := decide_eq_false (by omega)
  have K10 : Hid (decide ((m : Int) = 0) = false) := decide_eq_false (by omega)
  have K14 : Hid (decide ((j : Int) < 1) = false) := decide_eq_false (by omega)
  have K18 : Hid (decide (31 < (j : Int)) = false) := decide_eq_false (by omega)
  obtain ⟨B, hB⟩ : ∃ B, stepL x r a (lvN p) = B := ⟨_, rfl⟩
  obtain ⟨s, hs⟩ : ∃ s, List.replicate (lvN p) a ++ r.drop (lvN p) = s := ⟨_, rfl⟩
  have hBs : B = x :: s := by rw [← hB, ← hs]; rfl
  obtain ⟨C, hC⟩ : ∃ C, stepL x s b (lvN q) = C := ⟨_, rfl⟩
  have hp31 := lvN_le p
  have hq31 := lvN_le q
  have hBl : B.length = 1 + (lvN p + (r.length - lvN p)) := by rw [← hB]; exact step_len ..
  have hsl : B.length = s.length + 1 := by rw [hBs]; rfl
  have hCl : C.length = 1 + (lvN q + (s.length - lvN q)) := by rw [← hC]; exact step_len ..
  have hB0 : 0 < B.length := by omega
  have hC0 : 0 < C.length := by omega
  have hBm : B.length ≤ 32 := by omega
  have hCm : C.length ≤ 32 := by omega
  have HN1 : Hid (nextT l a p = B) := by show _ = _; rw [hxr, next_some (by omega), hB]
  have HN2 : Hid (nextT B b q = C) := by show _ = _; rw [hBs, next_some (by omega), hC]
  have HIB : Hid (isIds B) := by rw [← hB]; exact step_ids (by rw [← hxr]; exact hI) ha
  have HIC : Hid (isIds C) := by rw [← hC]; exact step_ids (by rw [← hBs]; exact HIB.out) hb
  have C5 : Hid (decide ((j : Int) ≤ q) = false) := decide_eq_false (by omega)
  have C7 : Hid (decide ((j : Int) ≤ p) = false) := decide_eq_false (by omega)
  have C9 : Hid (decide ((m : Int) ≤ (j : Int)) = false) := decide_eq_false (by omega)
  have hk : lvN p < j := by unfold lvN; omega
  have hk2 : lvN q < j := by unfold lvN; omega
  have HJ : Hid (j < C.length ∧ C.getD j [] = l.getD j []) := ⟨by omega, by rw [← hC, step_above hk2, ← hBs, ← hB, step_above hk, ← hxr]⟩
  have HJM := Lib.hid n6
  have HY := Lib.hid (hI.get (i := j) (by rw [hl]; exact n6))
  clear n2 n3 n4 n5 n6 hk hk2
  have HBD := Lib.hid (And.intro hB0 hBm)
  have HCD := Lib.hid (And.intro hC0 hCm)
  have HDA := Lib.hid ha
  have HDB := Lib.hid hb
  have HL := Lib.hid (And.intro hl (And.intro hmc hcm))
  have HIA := Lib.hid (And.intro hI hA)
  have HPQ := Lib.hid (And.intro hp hq)
  have hm0 : 0 < m := by omega
  clear hl hI ha hb hA hxr hrl hmc hcm hB hs hBs hC hp31 hq31 hBl hsl hCl hB0 hC0 hBm hCm hp hq hn
  have E0 : Hid (EnvX w ((w.alloc (.cells (arrB 32 a) 24)).alloc (.cells (arrB 32 b) 24)) [((w.heap.size + 1), Obj.cells (arrB 32 b) 24 (0, 0)), (w.heap.size, Obj.cells (arrB 32 a) 24 (0, 0))]) := (EnvX.start w).two _ _
  have HAW := Lib.hid (lawake_any T K ((w.alloc (.cells (arrB 32 a) 24)).alloc (.cells (arrB 32 b) 24)) (ht.below (EnvX.bel E0.out)))
  have HT := Lib.hid ht
  have HTR := Lib.hid T
  have HK := Lib.hid K
  clear ht T K
  unfold idv
  go_enter Tryd.func6, Tryd.ntmps6
  go_upto_region 1 with (fail)
  generalize ((w.alloc (.cells (arrB 32 a) 24)).alloc (.cells (arrB 32 b) 24)) = W at *
  go_wp2_with fail
  refine HAW.out.mono ?_
  rintro e w1 ⟨rfl, hb1⟩
  have HB1 := Lib.hid (EnvX.below E0.out hb1).bel
  have E1 : Hid (EnvX w1 w1 [((w.heap.size + 1), Obj.cells (arrB 32 b) 24 (0, 0)), (w.heap.size, Obj.cells (arrB 32 a) 24 (0, 0))]) := ⟨Below.refl _ _, (EnvX.below E0.out hb1).box⟩
  have HT1 := Lib.hid (HT.out.below HB1.out)
  clear hb1 E0 HAW
  go_upto_region 2 with (fail)
  refine wp_region_Hx (w0 := w1) [0, 1, 2, 3, 4, 5, 6, 7, 8, 9, 10, 11, 12, 13, 14, 15, 16, 17, 18, 19] [((w.heap.size + 1), Obj.cells (arrB 32 b) 24 (0, 0)), (w.heap.size, Obj.cells (arrB 32 a) 24 (0, 0))] rfl E1.out ?_
  refine lexH_phase [0, 1, 2, 3, 4, 5, 6, 7, 8, 9, 10, 11, 12, 13, 14, 15, 16, 17, 18, 19] [] ?_
  have hw701 : EnvX w1 _ [((w.heap.size + 1), Obj.cells (arrB 32 b) 24 (0, 0)), (w.heap.size, Obj.cells (arrB 32 a) 24 (0, 0))] := E1.out
  have hone := @EnvC.one _ _ _ hw701
  (refine wpG_op rfl rfl rfl ?_; intro K hK; go_big_quiet_op; go_big_quiet_on)
  (refine wpG_op rfl rfl rfl ?_; intro K hK; go_big_quiet_op; go_big_quiet_on)
  (refine wpG_op rfl rfl rfl ?_; intro K hK; go_big_quiet_op; go_big_quiet_on)
  (refine wpG_op rfl rfl rfl ?_; intro K hK; go_big_quiet_op; go_big_quiet_on)
  (refine wpG_val (v := .int .i64 (m : Int)) rfl rfl (fun u hu => lenI_op u rfl) ?_ hw701; intro K hK; go_big_quiet_op; go_big_quiet_on)
  (refine wpG_val (v := .bool false) rfl rfl (fun u hu => gtZ_op u K5.out rfl rfl) ?_ hw701; intro K hK; go_big_quiet_op; go_big_quiet_on)
  (refine wpG_op rfl rfl rfl ?_; intro K hK; go_big_quiet_op; go_big_quiet_on)
  (refine wpG_op rfl rfl rfl ?_; intro K hK; go_big_quiet_op; go_big_quiet_on)
  (refine wpG_op rfl rfl rfl ?_; intro K hK; go_big_quiet_op; go_big_quiet_on)
  (refine wpG_val (v := .int .i64 (m : Int)) rfl rfl (fun u hu => lenI_op u rfl) ?_ hw701; intro K hK; go_big_quiet_op; go_big_quiet_on)
  (refine wpG_val (v := .bool false) rfl rfl (fun u hu => eqlI_op u K10.out rfl rfl) ?_ hw701; intro K hK; go_big_quiet_op; go_big_quiet_on)
  (refine wpG_op rfl rfl rfl ?_; intro K hK; go_big_quiet_op; go_big_quiet_on)
  (refine wpG_op rfl rfl rfl ?_; intro K hK; go_big_quiet_op; go_big_quiet_on)
  (refine wpG_op rfl rfl rfl ?_; intro K hK; go_big_quiet_op; go_big_quiet_on)
  (refine wpG_val (v := .bool false) rfl rfl (fun u hu => ltZ_op u K14.out rfl rfl) ?_ hw701; intro K hK; go_big_quiet_op; go_big_quiet_on)
  (refine wpG_op rfl rfl rfl ?_; intro K hK; go_big_quiet_op; go_big_quiet_on)
  (refine wpG_op rfl rfl rfl ?_; intro K hK; go_big_quiet_op; go_big_quiet_on)
  (refine wpG_op rfl rfl rfl ?_; intro K hK; go_big_quiet_op; go_big_quiet_on)
  (refine wpG_val (v := .bool false) rfl rfl (fun u hu => gtZ_op u K18.out rfl rfl) ?_ hw701; intro K hK; go_big_quiet_op; go_big_quiet_on)
  (refine wpG_op rfl rfl rfl ?_; intro K hK; go_big_quiet_op; go_big_quiet_on)
  clear hone hw701
  refine wpG_nil ?_
  intro u703 E2'
  have EX702 := Lib.hid E2'
  clear E2'
  have HB1 := Lib.hid (HB1.out.trans ((EnvX.bel EX702.out).mono HB1.out.size))
  have HT1 := Lib.hid (HT1.out.below (EnvX.bel EX702.out))
  have E1 : Hid (EnvX u703 u703 [((w.heap.size + 1), Obj.cells (arrB 32 b) 24 (0, 0)), (w.heap.size, Obj.cells (arrB 32 a) 24 (0, 0))]) := ⟨Below.refl _ _, EX702.out.box⟩
  clear EX702
  go_upto_region 4 with (fail)
  refine wp_region_H (w0 := u703) [((w.heap.size + 1), Obj.cells (arrB 32 b) 24 (0, 0)), (w.heap.size, Obj.cells (arrB 32 a) 24 (0, 0))] (by kernel_rfl) E1.out ?_
  refine anyH_phase [0, 1, 2, 4, 5] 3 rfl ⟨_, (EnvX.drew E1.out)⟩ (by kernel_rfl) ?_
  have hw761 : EnvX u703 _ [((w.heap.size + 1), Obj.cells (arrB 32 b) 24 (0, 0)), (w.heap.size, Obj.cells (arrB 32 a) 24 (0, 0))] := (EnvX.drew E1.out)
  have hone := @EnvC.one _ _ _ hw761
  (refine wpG_op rfl rfl rfl ?_; intro K hK; go_big_quiet_op; go_big_quiet_on)
  (refine wpG_val (v := idv a) rfl rfl (fun u hu => load_run_op u (box_load hu (List.Mem.tail _ (List.Mem.head _)) HDA.out.1) rfl) ?_ hw761; intro K hK; go_big_quiet_op; go_big_quiet_on)
  (refine wpG_op rfl rfl rfl ?_; intro K hK; go_big_quiet_op; go_big_quiet_on)
  (refine wpG_val (v := idv b) rfl rfl (fun u hu => load_run_op u (box_load hu (List.Mem.head _) HDB.out.1) rfl) ?_ hw761; intro K hK; go_big_quiet_op; go_big_quiet_on)
  (refine wpG_op rfl rfl rfl ?_; intro K hK; go_big_quiet_op; go_big_quiet_on)
  clear hone hw761
  refine wpG_nil ?_
  refine anyH_one (i := 3) (by kernel_rfl) (hOp_fresh (R := FreshI B) (M0 := [((w.heap.size + 1), Obj.cells (arrB 32 b) 24 (0, 0)), (w.heap.size, Obj.cells (arrB 32 a) 24 (0, 0))]) rfl rfl (fun _ h => h) (fun u hu => FAt_call (fid := 11) (xs := #[.tmp 37, .tmp 38, .tmp 39]) (args := #[.slice A m c, idv a, .int .i64 p]) rfl Tryd.func11 rfl rfl u (callsI_fresh (by have h := HK.out.next l a p A m c u HL.out.1 (by omega) HL.out.2.1 HL.out.2.2 HIA.out.1 HDA.out HPQ.out.1 ((HIA.out.2.up HB1.out).up (EnvX.bel hu)) (HT1.out.below (EnvX.bel hu)); rwa [HN1.out] at h))) ?_)
  rintro x N hF hf he762; intro K' hK'; go_big_quiet_op; go_big_quiet_on
  obtain ⟨gb, capb, curb, rfl, rfl, hcb⟩ := FreshI.full hF HBD.out.1
  have HFB := Lib.hid (And.intro hF (And.intro hcb.1 hcb.2.1))
  clear hF hcb
  clear hf
  change anyH _ _ _ _ _ _ _ _ [(gb, Obj.cells curb 24 (0, 0)), ((w.heap.size + 1), Obj.cells (arrB 32 b) 24 (0, 0)), (w.heap.size, Obj.cells (arrB 32 a) 24 (0, 0))]
  refine anyH_one (i := 6) (by kernel_rfl) (hOp_fresh (R := FreshI C) (M0 := [(gb, Obj.cells curb 24 (0, 0)), ((w.heap.size + 1), Obj.cells (arrB 32 b) 24 (0, 0)), (w.heap.size, Obj.cells (arrB 32 a) 24 (0, 0))]) rfl rfl (fun _ h => h) (fun u hu => FAt_call (fid := 11) (xs := #[.tmp 40, .tmp 41, .tmp 42]) (args := #[.slice (some ⟨gb, 0, none⟩) B.length capb, idv b, .int .i64 q]) rfl Tryd.func11 rfl rfl u (callsI_fresh (by have h := HK.out.next B b q (some ⟨gb, 0, none⟩) B.length capb u rfl (by have := HBD.out; omega) HFB.out.2.1 HFB.out.2.2 HIB.out HDB.out HPQ.out.2 (HFB.out.1.ids HIB.out hu (fun y hy => by cases List.mem_singleton.1 hy; exact (List.Mem.head _))) (HT1.out.below (EnvX.bel hu)); rwa [HN2.out] at h))) ?_)
  rintro x N hF hf he763; intro K' hK'; go_big_quiet_op; go_big_quiet_on
  obtain ⟨gc, capc, curc, rfl, rfl, hcc⟩ := FreshI.full hF HCD.out.1
  have HFC := Lib.hid hF
  have HCC := Lib.hid hcc
  clear hF hcc
  clear hf
  change anyH _ _ _ _ _ _ _ _ [(gc, Obj.cells curc 24 (0, 0)), (gb, Obj.cells curb 24 (0, 0)), ((w.heap.size + 1), Obj.cells (arrB 32 b) 24 (0, 0)), (w.heap.size, Obj.cells (arrB 32 a) 24 (0, 0))]
  refine anyH_phase [7] 0 rfl ⟨_, he763.choose_spec⟩ (by kernel_rfl) ?_
  have hw764 : EnvX u703 _ [(gc, Obj.cells curc 24 (0, 0)), (gb, Obj.cells curb 24 (0, 0)), ((w.heap.size + 1), Obj.cells (arrB 32 b) 24 (0, 0)), (w.heap.size, Obj.cells (arrB 32 a) 24 (0, 0))] := he763.choose_spec
  have hone := @EnvC.one _ _ _ hw764
  (refine wpG_op rfl rfl rfl ?_; intro K hK; go_big_quiet_op; go_big_quiet_on)
  clear hone hw764
  refine wpG_nil ?_
  refine anyH_done (by kernel_rfl) ?_
  intro u766 E2'
  have EX765 := Lib.hid E2'
  clear E2'
  have HBU := Lib.hid (HB1.out.trans ((EnvX.bel EX765.out).mono HB1.out.size))
  have HAC : Hid (IdsIn u766 u766.heap.size (some ⟨gc, 0, none⟩) C) := HFC.out.ids HIC.out EX765.out (fun y hy => by cases List.mem_singleton.1 hy; exact (List.Mem.head _))
  have HLI : Hid (∀ u, EnvX u766 u [] → (loadVar 24 ⟨w.heap.size, 0, none⟩).run Tryd.prog u = .ok (idv a) u) := fun u hu => box_load (EnvX.comb EX765.out hu) (List.mem_append_right [] (List.Mem.tail _ (List.Mem.tail _ (List.Mem.tail _ (List.Mem.head _))))) HDA.out.1
  have HLJ : Hid (∀ u, EnvX u766 u [] → (loadVar 24 ⟨w.heap.size + 1, 0, none⟩).run Tryd.prog u = .ok (idv b) u) := fun u hu => box_load (EnvX.comb EX765.out hu) (List.mem_append_right [] (List.Mem.tail _ (List.Mem.tail _ (List.Mem.head _)))) HDB.out.1
  have HAL := Lib.hid (HIA.out.2.up HBU.out)
  have EU : Hid (EnvX u766 u766 []) := EnvX.start _
  have HAX := Lib.hid (HAC.out.load HIC.out (i := 0) HCD.out.1)
  obtain ⟨ac, hac, -⟩ := HAX.out
  have HAC2 := Lib.hid hac
  obtain ⟨al, rfl, -⟩ := HAL.out.load HIA.out.1 (i := 0) (by rw [HL.out.1]; exact hm0)
  have HLC : Hid (∀ k, k < C.length → ∀ u, EnvX u766 u [] → (loadVar 24 ((⟨gc, 0, none⟩ : Addr).add (k * 32))).run Tryd.prog u = .ok (idv (C.getD k [])) u) := fun k hk u hu => by
    obtain ⟨a2, e, h⟩ := (HAC.out.up (EnvX.bel hu)).load HIC.out (i := k) (hk)
    cases e
    exact h
  have HLL : Hid (∀ k, k < m → ∀ u, EnvX u766 u [] → (loadVar 24 (al.add (k * 32))).run Tryd.prog u = .ok (idv (l.getD k [])) u) := fun k hk u hu => by
    obtain ⟨a2, e, h⟩ := (HAL.out.up (EnvX.bel hu)).load HIA.out.1 (i := k) (by rw [HL.out.1]; exact hk)
    cases e
    exact h
  clear hac
  go_upto_region 5 with (fail)
  refine wp_region_Hx (w0 := u766) [0, 1, 2] [] rfl EU.out ?_
  refine lexH_phase [0, 1, 2] [] ?_
  have hw767 : EnvX u766 _ [] := EU.out
  have hone := @EnvC.one _ _ _ hw767
  (refine wpG_op rfl rfl rfl ?_; intro K hK; go_big_quiet_op; go_big_quiet_on)
  (refine wpG_op rfl rfl rfl ?_; intro K hK; go_big_quiet_op; go_big_quiet_on)
  (refine wpG_val (v := .bool false) rfl rfl (fun u hu => leZ_op u C5.out rfl rfl) ?_ hw767; intro K hK; go_big_quiet_op; go_big_quiet_on)
  clear hone hw767
  refine wpG_nil ?_
  intro u769 E2'
  have EX768 := Lib.hid E2'
  clear E2'
  go_upto_region 7 with (fail)
  refine wp_region_Hx (w0 := u766) [0, 1, 2] [] rfl EX768.out ?_
  refine lexH_phase [0, 1, 2] [] ?_
  have hw770 : EnvX u766 _ [] := EX768.out
  have hone := @EnvC.one _ _ _ hw770
  (refine wpG_op rfl rfl rfl ?_; intro K hK; go_big_quiet_op; go_big_quiet_on)
  (refine wpG_op rfl rfl rfl ?_; intro K hK; go_big_quiet_op; go_big_quiet_on)
  (refine wpG_val (v := .bool false) rfl rfl (fun u hu => leZ_op u C7.out rfl rfl) ?_ hw770; intro K hK; go_big_quiet_op; go_big_quiet_on)
  clear hone hw770
  refine wpG_nil ?_
  intro u772 E2'
  have EX771 := Lib.hid E2'
  clear E2'
  go_upto_region 9 with (fail)
  refine wp_region_H (w0 := u766) [] (by kernel_rfl) EX771.out ?_
  refine anyH_phaseN [0, 1, 2, 3, 4, 5, 6, 7, 8, 9, 10, 11, 12, 13, 14, 15, 16, 17, 18, 19, 20, 21] 0 rfl (by kernel_rfl) ?_
  have hw773 : EnvX u766 _ [] := EnvX.sub (EnvX.drew EX771.out) (fun _ h => by cases h)
  have hone := @EnvC.one _ _ _ hw773
  (refine wpG_op rfl rfl rfl ?_; intro K hK; go_big_quiet_op; go_big_quiet_on)
  (refine wpG_op rfl rfl rfl ?_; intro K hK; go_big_quiet_op; go_big_quiet_on)
  (refine wpG_val (v := .int .i64 (m : Int)) rfl rfl (fun u hu => lenI_op u rfl) ?_ hw773; intro K hK; go_big_quiet_op; go_big_quiet_on)
  (refine wpG_val (v := .bool false) rfl rfl (fun u hu => geq_op u C9.out rfl rfl) ?_ hw773; intro K hK; go_big_quiet_op; go_big_quiet_on)
  (refine wpG_op rfl rfl rfl ?_; intro K hK; go_big_quiet_op; go_big_quiet_on)
  (refine wpG_op rfl rfl rfl ?_; intro K hK; go_big_quiet_op; go_big_quiet_on)
  (refine wpG_val (v := .int .i64 (C.length : Int)) rfl rfl (fun u hu => lenI_op u rfl) ?_ hw773; intro K hK; go_big_quiet_op; go_big_quiet_on)
  (refine wpG_op rfl rfl rfl ?_; intro K hK; go_big_quiet_op; go_big_quiet_on)
  (refine wpG_val (v := .bool true) rfl rfl (fun u hu => gtZ_op u (decide_eq_true (by have := HJ.out.1; omega)) rfl rfl) ?_ hw773; intro K hK; go_big_quiet_op; go_big_quiet_on)
  (refine wpG_op rfl rfl rfl ?_; intro K hK; go_big_quiet_op; go_big_quiet_on)
  (refine wpG_op rfl rfl rfl ?_; intro K hK; go_big_quiet_op; go_big_quiet_on)
  (refine wpG_op rfl rfl rfl ?_; intro K hK; go_big_quiet_op; go_big_quiet_on)
  (refine wpG_val (v := .pointer (some ((⟨gc, 0, none⟩ : Addr).add (j * 32)))) rfl rfl (fun u hu => idxSl_op (i := j) Tryd.underlying22 aggIdT.size HJ.out.1 u rfl rfl) ?_ hw773; intro K hK; go_big_quiet_op; go_big_quiet_on)
  (refine wpG_val (v := idv (l.getD j [])) rfl rfl (fun u hu => load_any_op u (by have h := HLC.out j HJ.out.1 u (EnvX.sub hu (fun _ h => by cases h)); rw [HJ.out.2] at h; exact h) rfl) ?_ hw773; intro K hK; go_big_quiet_op; go_big_quiet_on)
  (refine wpG_op rfl rfl rfl ?_; intro K hK; go_big_quiet_op; go_big_quiet_on)
  (refine wpG_op rfl rfl rfl ?_; intro K hK; go_big_quiet_op; go_big_quiet_on)
  (refine wpG_val (v := .pointer (some (al.add (j * 32)))) rfl rfl (fun u hu => idxSl_op (i := j) Tryd.underlying22 aggIdT.size HJM.out u rfl rfl) ?_ hw773; intro K hK; go_big_quiet_op; go_big_quiet_on)
  (refine wpG_val (v := idv (l.getD j [])) rfl rfl (fun u hu => load_any_op u (HLL.out j HJM.out u (EnvX.sub hu (fun _ h => by cases h))) rfl) ?_ hw773; intro K hK; go_big_quiet_op; go_big_quiet_on)
  (refine wpG_val (v := .bool true) rfl rfl (fun u hu => eqlb_op HY.out.1 HY.out.1 (by simp [eqL]) u rfl rfl) ?_ hw773; intro K hK; go_big_quiet_op; go_big_quiet_on)
  (refine wpG_op rfl rfl rfl ?_; intro K hK; go_big_quiet_op; go_big_quiet_on)
  (refine wpG_op rfl rfl rfl ?_; intro K hK; go_big_quiet_op; go_big_quiet_on)
  (refine wpG_op rfl rfl rfl ?_; intro K hK; go_big_quiet_op; go_big_quiet_on)
  clear hone hw773
  refine wpG_nil ?_
  refine anyH_done (by kernel_rfl) ?_
  intro u775 E2'
  have EX774 := Lib.hid E2'
  clear E2'
  have HBE := Lib.hid (HBU.out.trans ((EnvX.bel EX774.out).mono HBU.out.size))
  go_wp2
  go_ret
  exact ⟨rfl, HBE.out⟩
theorem law_twice (T : TreeC) (K : LinkC) (l : List (List Int)) (a b : List Int) (p q n : Int) (A : Option Addr) (m c : Nat) (w : World) (hl : l.length = m) (hmc : m ≤ c) (hcm : c ≤ maxLen) (hI : isIds l) (ha : isId a) (hb : isId b) (hp : I64 p) (hq : I64 q) (hn : I64 n) (hA : IdsIn w w.heap.size A l) (ht : Tables w) :
    Calls Tryd.prog 6 #[.slice A m c, idv a, .int .i64 p, idv b, .int .i64 q, .int .i64 n] w fun e w' => e = .returned (.bool true) ∧ Below w.heap.size w w' := by
  by_cases k1 : 32 < m
  · exact law_twice_many T K l a b p q n A m c w hl hmc hcm hI ha hb hp hq hn hA ht k1
  · match l, hl, hI, hA with
    | [], hl, hI, hA => exact law_twice_none T K [] a b p q n A m c w hl hmc hcm hI ha hb hp hq hn hA ht hl.symm
    | x :: r, hl, hI, hA =>
      have k2 : 0 < m := by rw [← hl]; exact Nat.succ_pos _
      by_cases n1 : n < 1
      · exact law_twice_low T K (x :: r) a b p q n A m c w hl hmc hcm hI ha hb hp hq hn hA ht k1 k2 n1
      · by_cases n2 : 31 < n
        · exact law_twice_high T K (x :: r) a b p q n A m c w hl hmc hcm hI ha hb hp hq hn hA ht k1 k2 n2
        · obtain ⟨j, rfl⟩ := Int.eq_ofNat_of_zero_le (by omega : 0 ≤ n)
          by_cases n4 : (j : Int) ≤ q
          · exact law_twice_second T K (x :: r) a b p q j A m c w hl hmc hcm hI ha hb hp hq hn hA ht x r rfl (by omega) j rfl (by omega) (by omega) n4
          · by_cases n5 : (j : Int) ≤ p
            · exact law_twice_first T K (x :: r) a b p q j A m c w hl hmc hcm hI ha hb hp hq hn hA ht x r rfl (by omega) j rfl (by omega) (by omega) (by omega) n5
            · by_cases n6 : j < m
              · exact law_twice_above T K (x :: r) a b p q j A m c w hl hmc hcm hI ha hb hp hq hn hA ht x r rfl (by omega) j rfl (by omega) (by omega) (by omega) (by omega) n6
              · exact law_twice_over T K (x :: r) a b p q j A m c w hl hmc hcm hI ha hb hp hq hn hA ht x r rfl (by omega) j rfl (by omega) (by omega) (by omega) (by omega) (by omega)
end Go.Proofs.YtbjojpgedcikiaaDoor

namespace Go.Proofs.YtbjojpgedcikiaaDoor.linkTwice
set_option maxRecDepth 8000
open Go.ChangeShapes Go.WideShapes Go.ChangeAt Go.RowKit

theorem contract (H : Type) (enc : TypeId × Value → H) (W : World) (base : Nat) (args : Array Value) (ds gs : List (DataW H)) (before : List MemPlace)
    (hval : ∀ (j : Nat) t v, Tryd.f6.params[j]? = some t → args[j]? = some v → Value.okWide Tryd.prog W .any base t v)
    (hW : DataW.Whole enc Tryd.prog Tryd.f6.params.toList Rows.linkTwiceSpec.vars false W args.toList ds gs before) (hL : laidMetH Tryd.prog Rows.linkTwiceRow.laid W) :
    Calls Tryd.prog 6 args W fun e W' => ∃ v, e = .returned v ∧ Rows.linkTwiceSpec.post enc Tryd.prog Tryd.f6 false true false false W args v W' := by
  have hW' := hW
  obtain ⟨p, q, hA0, hV, rfl, hfz, hnd⟩ := hW
  have hA : DataW.TrodAll enc Tryd.prog W 0 (fun _ => true) true Tryd.f6.params.toList args.toList ds p := hA0
  rw [Tryd.params6] at hA hval
  obtain ⟨v0, vs0, d0, ds0, p0, q0, hargs, rfl, rfl, h0, r0⟩ := trodAll_cons hA
  obtain ⟨v1, vs1, d1, ds1, p1, q1, rfl, rfl, rfl, h1, r1⟩ := trodAll_cons r0
  obtain ⟨v2, vs2, d2, ds2, p2, q2, rfl, rfl, rfl, h2, r2⟩ := trodAll_cons r1
  obtain ⟨v3, vs3, d3, ds3, p3, q3, rfl, rfl, rfl, h3, r3⟩ := trodAll_cons r2
  obtain ⟨v4, vs4, d4, ds4, p4, q4, rfl, rfl, rfl, h4, r4⟩ := trodAll_cons r3
  obtain ⟨v5, vs5, d5, ds5, p5, q5, rfl, rfl, rfl, h5, r5⟩ := trodAll_cons r4
  obtain ⟨rfl, rfl, rfl⟩ := trodAll_nil r5
  obtain rfl : args = #[v0, v1, v2, v3, v4, v5] := by cases args; simp_all
  obtain ⟨rfl, rfl⟩ := trodVars_none hV
  have lt0 : ∀ x ∈ p0, x.block < W.heap.size := by obtain ⟨m, hm⟩ := h0; exact DataW.trod_lt m _ _ _ hm
  obtain ⟨a0, n0, c0, x0, rfl, lx0, nc0, cm0, ix0, px0⟩ := open_ids (hval 0 22 v0 rfl rfl) h0
  have lt1 : ∀ x ∈ p1, x.block < W.heap.size := by obtain ⟨m, hm⟩ := h1; exact DataW.trod_lt m _ _ _ hm
  obtain ⟨x1, rfl, lx1, rx1⟩ := open_id (hval 1 24 v1 rfl rfl) h1
  obtain ⟨x2, rfl, rfl, rfl, wx2⟩ := open_int Tryd.underlying3 (hval 2 3 v2 rfl rfl) h2
  have lt3 : ∀ x ∈ p3, x.block < W.heap.size := by obtain ⟨m, hm⟩ := h3; exact DataW.trod_lt m _ _ _ hm
  obtain ⟨x3, rfl, lx3, rx3⟩ := open_id (hval 3 24 v3 rfl rfl) h3
  obtain ⟨x4, rfl, rfl, rfl, wx4⟩ := open_int Tryd.underlying3 (hval 4 3 v4 rfl rfl) h4
  obtain ⟨x5, rfl, rfl, rfl, wx5⟩ := open_int Tryd.underlying3 (hval 5 3 v5 rfl rfl) h5
  clear hA0
  refine (law_twice treeC linkC x0 x1 x3 x2 x4 x5 a0 n0 c0 W lx0 nc0 cm0 ix0 ⟨lx1, rx1⟩ ⟨lx3, rx3⟩ (bounds_i64 wx2) (bounds_i64 wx4) (bounds_i64 wx5) px0 (tables_of_laid hL)).mono fun e W' ⟨he, bel⟩ => ?_
  subst he
  exact ⟨_, rfl, _, _, _, [], _, [], hW', trodAll_mk1 (shut_bool Tryd.underlying4 _), (trodAll_cons_mk (Below.trod laidOut (by kernel_rfl) (of_decide_eq_true (by kernel_rfl)) h0 bel lt0) (trodAll_cons_mk (Below.trod laidOut (by kernel_rfl) (of_decide_eq_true (by kernel_rfl)) h1 bel lt1) (trodAll_cons_mk (shut_int Tryd.underlying3 wx2) (trodAll_cons_mk (Below.trod laidOut (by kernel_rfl) (of_decide_eq_true (by kernel_rfl)) h3 bel lt3) (trodAll_cons_mk (shut_int Tryd.underlying3 wx4) (trodAll_cons_mk (shut_int Tryd.underlying3 wx5) trodAll_mk0)))))), rfl, bel.frame _, fun h => by cases h⟩

def start : Array Value := #[.slice none 0 0, zeroId, .int .i64 0, zeroId, .int .i64 0, .int .i64 0]
theorem reads (os : Os) {H : Type} (enc : TypeId × Value → H) : ∃ places, DataW.whole enc Tryd.prog ((laidWorld os).forCall (fun _ _ => 0) ⟨#[], start, []⟩).memory Tryd.f6.params.toList Rows.linkTwiceSpec.vars false start.toList 8 = some ([.nil, zeroD, .lit (.int .i64 0), zeroD, .lit (.int .i64 0), .lit (.int .i64 0)], [], places) :=
  ⟨[], by kernel_rfl⟩

set_option maxRecDepth 100000 in
theorem lifted (os : Os) (started : os.Started) (H : Type) (enc : TypeId × Value → H) (F : Stop.Interp) :
    ReturnsInHanded {} Tryd.checked os 6 .any ((OpenSpec.ofChange Rows.linkTwiceSpec).preRow enc Tryd.prog Tryd.f6 Rows.linkTwiceRow.domain false Rows.linkTwiceRow.laid) (((OpenSpec.ofChange Rows.linkTwiceSpec).at F).post enc Tryd.prog Tryd.f6 false true false false) := by
  obtain ⟨places, hx⟩ := reads os enc
  refine returnsInHanded_of_row (C := Tryd.checked) (s := OpenSpec.ofChange Rows.linkTwiceSpec) own started (by kernel_rfl) Tryd.func6
    (witness_row_at (enc := enc) (C := Tryd.checked) false (laidWorld os) start rfl (by kernel_rfl) (by kernel_rfl) (by kernel_rfl)
      (OpenSpec.preRow_of_cond 8 hx (by kernel_rfl) (fun k hk => by cases hk) (by kernel_rfl) (laidMet_of_run' 8 (by kernel_rfl) (by kernel_rfl)))) ?_
  intro W base args ds gs before hval hW _ _ _ hL _ _
  exact contract H enc W base args ds gs before hval hW hL

theorem said : Rows.LinkTwiceSaid :=
  OpenClaim.holds_of_cond 6 Tryd.f6 rfl rfl rfl rfl rfl rfl rfl ⟨rfl, rfl, rfl, rfl, rfl⟩ rfl rfl rfl rfl rfl (by kernel_rfl) Tryd.func6 (by kernel_rfl)
    (of_decide_eq_true (by kernel_rfl)) (by unfold Func.isWrapper; first | (rw [if_pos (by decide +kernel)]; kernel_rfl) | (rw [if_neg (by decide +kernel)]; exact ⟨rfl, rfl⟩))
    (fun os started H enc _ F => by rw [OpenClaim.pre_eq_preRow]; exact lifted os started H enc F)

theorem plain (f : FuncId) (fn : Func) (hf : Tryd.pinned.checked.prog.funcNamed "stepladder/stepladderlaw07.LinkTwice" = some f) (hfn : Tryd.pinned.checked.prog.funcs[f]? = some fn) :
    false = Tryd.pinned.checked.prog.looks [] ∧ ∀ (j : Nat) t, fn.params[j]? = some t → Tryd.pinned.checked.prog.wantsStandIn t = false := by
  obtain rfl : f = 6 := Option.some.inj ((show Tryd.prog.funcNamed "stepladder/stepladderlaw07.LinkTwice" = some 6 by kernel_rfl).symm.trans hf) |>.symm
  obtain rfl : fn = Tryd.f6 := (Option.some.inj (Tryd.func6.symm.trans hfn)).symm
  refine ⟨by kernel_rfl, fun j t ht => ?_⟩
  rw [Tryd.params6] at ht
  have hm : t = 22 ∨ t = 24 ∨ t = 3 ∨ t = 24 ∨ t = 3 ∨ t = 3 := by simpa using Array.mem_of_getElem? ht
  rcases hm with rfl | rfl | rfl | rfl | rfl | rfl
  · exact (show Tryd.prog.wantsStandIn 22 = false by kernel_rfl)
  · exact (show Tryd.prog.wantsStandIn 24 = false by kernel_rfl)
  · exact (show Tryd.prog.wantsStandIn 3 = false by kernel_rfl)
  · exact (show Tryd.prog.wantsStandIn 24 = false by kernel_rfl)
  · exact (show Tryd.prog.wantsStandIn 3 = false by kernel_rfl)
  · exact (show Tryd.prog.wantsStandIn 3 = false by kernel_rfl)
theorem card : Rows.LinkTwiceCardSaid :=
  Claim7.holds_tied_plain_at .later [] _ _ _ _ said (fun _ h => by cases h) (by kernel_rfl) (fun _ h => by cases h) linkTwice_row_tie rfl ⟨rfl, rfl⟩ (by kernel_rfl) rfl plain (by kernel_rfl)

end Go.Proofs.YtbjojpgedcikiaaDoor.linkTwice
