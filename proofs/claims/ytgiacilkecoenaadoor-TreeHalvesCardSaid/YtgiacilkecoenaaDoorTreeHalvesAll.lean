/-
  PROVED: the law stepladderlaw05.TreeHalves answers true for every input, and leaves its arguments as they were.
  Conditions: the two package-level tables of package sha hold at the call what their initialisers lay; the card ties that to the text of the program (a pruned copy of the project: the packages that the roots of this seat load).
-/
import Derived.Test.YtgiacilkecoenaaDoorCq
namespace Go.Proofs.YtgiacilkecoenaaDoor
open Go.RowKit
set_option maxRecDepth 20000 in
set_option maxHeartbeats 1000000 in
theorem law_halves_big (T : TreeC) (l : List (List Int)) (A : Option Addr) (n c : Nat) (k : Int) (root : List Int) (m i : Int) (w : World)
    (hr : isId root) (hl : l.length = n) (hnc : n ≤ c) (hcm : c ≤ maxLen) (hI : isIds l) (hA : IdsIn w w.heap.size A l) (hk : I64 k) (hm : I64 m) (hi : I64 i) (ht : Tables w) (hn : ¬ n ≤ 32) :
    Calls Tryd.prog 6 #[.slice A n c, .int .i64 k, idv root, .int .i64 m, .int .i64 i] w fun e w' => e = .returned (.bool true) ∧ Below w.heap.size w w' := by
  unfold I64 at hk hm hi
  unfold maxLen at hcm
  have HAW := Lib.hid (awake_any T (w.alloc (.cells (arrB 32 root) 29)) (ht.below ((Below.refl _ _).alloc (Nat.le_refl _) _)))
  have E0 : Hid (EnvX w (w.alloc (.cells (arrB 32 root) 29)) [(w.heap.size, Obj.cells (arrB 32 root) 29 (0, 0))]) := (EnvX.start w).new _
  have HT := Lib.hid ht
  have HTREE := Lib.hid T
  have HR := Lib.hid hr
  have HL := Lib.hid hl
  have HI := Lib.hid (And.intro hI hA)
  clear ht T hr hl hI hA
  unfold idv
  go_enter Tryd.func6, Tryd.ntmps6
  go_upto_region 1 with (fail)
  generalize w.alloc (.cells (arrB 32 root) 29) = W at *
  go_wp2_with fail
  refine HAW.out.mono ?_
  rintro e w1 ⟨rfl, hb1⟩
  have HB1 := Lib.hid (EnvX.below E0.out hb1).bel
  have E1 : Hid (EnvX w1 w1 [(w.heap.size, Obj.cells (arrB 32 root) 29 (0, 0))]) := ⟨Below.refl _ _, (EnvX.below E0.out hb1).box⟩
  have HT1 := Lib.hid (HT.out.below HB1.out)
  have HA1 := Lib.hid (HI.out.2.up HB1.out)
  clear hb1 E0 HAW
  have h1 : (32 : Int) < (n : Int) := by omega
  go_wp2
  go_ret
  exact ⟨rfl, HB1.out⟩
set_option maxRecDepth 20000 in
set_option maxHeartbeats 4000000 in
theorem law_halves_1 (T : TreeC) (l : List (List Int)) (A : Option Addr) (n c : Nat) (k : Int) (root : List Int) (m i : Int) (w : World)
    (hr : isId root) (hl : l.length = n) (hnc : n ≤ c) (hcm : c ≤ maxLen) (hI : isIds l) (hA : IdsIn w w.heap.size A l) (hk : I64 k) (hm : I64 m) (hi : I64 i) (ht : Tables w) (hn : n ≤ 32) (c0 : m < 1) :
    Calls Tryd.prog 6 #[.slice A n c, .int .i64 k, idv root, .int .i64 m, .int .i64 i] w fun e w' => e = .returned (.bool true) ∧ Below w.heap.size w w' := by
  have HODD : Hid (checkT root m i root [] = false) := by
    show _ = _
    unfold checkT
    simp only [decide_eq_false_iff_not]
    omega
  unfold I64 at hk hm hi
  unfold maxLen at hcm
  have HAW := Lib.hid (awake_any T (w.alloc (.cells (arrB 32 root) 29)) (ht.below ((Below.refl _ _).alloc (Nat.le_refl _) _)))
  have E0 : Hid (EnvX w (w.alloc (.cells (arrB 32 root) 29)) [(w.heap.size, Obj.cells (arrB 32 root) 29 (0, 0))]) := (EnvX.start w).new _
  have HT := Lib.hid ht
  have HTREE := Lib.hid T
  have HR := Lib.hid hr
  have HL := Lib.hid hl
  have HI := Lib.hid (And.intro hI hA)
  clear ht T hr hl hI hA
  unfold idv
  go_enter Tryd.func6, Tryd.ntmps6
  go_upto_region 1 with (fail)
  generalize w.alloc (.cells (arrB 32 root) 29) = W at *
  go_wp2_with fail
  refine HAW.out.mono ?_
  rintro e w1 ⟨rfl, hb1⟩
  have HB1 := Lib.hid (EnvX.below E0.out hb1).bel
  have E1 : Hid (EnvX w1 w1 [(w.heap.size, Obj.cells (arrB 32 root) 29 (0, 0))]) := ⟨Below.refl _ _, (EnvX.below E0.out hb1).box⟩
  have HT1 := Lib.hid (HT.out.below HB1.out)
  have HA1 := Lib.hid (HI.out.2.up HB1.out)
  clear hb1 E0 HAW
  have h1 : ¬ (32 : Int) < (n : Int) := by omega
  have HEQ : Hid ((!eqL root root) = false) := by show _ = _; simp [eqL]
  have HC1 : Hid (∀ u, EnvX w1 u [] → Calls Tryd.prog 17 #[idv root, .int .i64 1, .int .i64 0, idv root, .slice none 0 0] u fun e w' => e = .returned (.bool true) ∧ Below u.heap.size u w') := fun u hu => by
    have h := HTREE.out.check root root 1 0 [] none 0 0 u HR.out HR.out ⟨by omega, by omega⟩ ⟨by omega, by omega⟩ rfl (by omega) (by omega) (by decide) (fun x h => by cases h) (Bytes.nil _ _ _) (HT1.out.below (EnvX.bel hu))
    have e : checkT root 1 0 root [] = true := by
      unfold checkT
      simp only [decide_eq_true_eq]
      exact ⟨by omega, by omega, by omega, by omega, rfl, rfl⟩
    rwa [e] at h
  have HRT : Hid (∀ u g, EnvX w1 u [] → Row u g 29 (arrB 32 root) → Calls Tryd.prog 13 #[.slice (some ⟨g, 0, none⟩) 1 1] u fun e w' => e = .returned (idv root) ∧ Below u.heap.size u w') := fun u g hu h =>
    HTREE.out.root [root] (some ⟨g, 0, none⟩) 1 1 u rfl (by omega) (by omega) (by decide) (fun x h => by cases List.mem_singleton.1 h; exact HR.out) (by show Bytes _ _ _ _; simpa using row_id HR.out.1 h) (HT1.out.below (EnvX.bel hu))
  have HC0 : Hid (∀ u, EnvX w1 u [] → Calls Tryd.prog 17 #[idv root, .int .i64 m, .int .i64 i, idv root, .slice none 0 0] u fun e w' => e = .returned (.bool false) ∧ Below u.heap.size u w') := fun u hu => by
    rw [← HODD.out]
    exact HTREE.out.check root root m i [] none 0 0 u HR.out HR.out hm hi rfl (by omega) (by omega) (by decide) (fun x h => by cases h) (Bytes.nil _ _ _) (HT1.out.below (EnvX.bel hu))
  go_upto_region 5 with (fail)
  refine wp_region_H (w0 := w1) [(w.heap.size, Obj.cells (arrB 32 root) 29 (0, 0))] (by kernel_rfl) E1.out ?_
  refine anyH_phase [0, 1, 2, 3, 4, 5, 6, 7, 8, 9, 12] 10 rfl ⟨_, (EnvX.drew E1.out)⟩ (by kernel_rfl) ?_
  have hw1 : EnvX w1 _ [(w.heap.size, Obj.cells (arrB 32 root) 29 (0, 0))] := (EnvX.drew E1.out)
  have hone := @EnvC.one _ _ _ hw1
  (refine wpG_op rfl rfl rfl ?_; intro K hK; go_big_quiet_op; go_big_quiet_on)
  (refine wpG_op rfl rfl rfl ?_; intro K hK; go_big_quiet_op; go_big_quiet_on)
  (refine wpG_val (v := idv root) rfl rfl (fun u hu => load_run_op u (box_load hu (List.Mem.head _) HR.out.1) rfl) ?_ hw1; intro K hK; go_big_quiet_op; go_big_quiet_on)
  (refine wpG_op rfl rfl rfl ?_; intro K hK; go_big_quiet_op; go_big_quiet_on)
  (refine wpG_op rfl rfl rfl ?_; intro K hK; go_big_quiet_op; go_big_quiet_on)
  (refine wpG_val (v := idv root) rfl rfl (fun u hu => load_run_op u (box_load hu (List.Mem.head _) HR.out.1) rfl) ?_ hw1; intro K hK; go_big_quiet_op; go_big_quiet_on)
  (refine wpG_call (f := 17) (args := #[idv root, .int .i64 m, .int .i64 i, idv root, .slice none 0 0]) (v := .bool false) rfl rfl rfl Tryd.func17 rfl rfl (fun u hu => HC0.out u (EnvX.sub hu (fun _ h => by cases h))) ?_ hw1; intro K hK; go_big_quiet_op; go_big_quiet_on)
  (refine wpG_op rfl rfl rfl ?_; intro K hK; go_big_quiet_op; go_big_quiet_on)
  (refine wpG_op rfl rfl rfl ?_; intro K hK; go_big_quiet_op; go_big_quiet_on)
  (refine wpG_val (v := idv root) rfl rfl (fun u hu => load_run_op u (box_load hu (List.Mem.head _) HR.out.1) rfl) ?_ hw1; intro K hK; go_big_quiet_op; go_big_quiet_on)
  (refine wpG_val (v := idv root) rfl rfl (fun u hu => load_run_op u (box_load hu (List.Mem.head _) HR.out.1) rfl) ?_ hw1; intro K hK; go_big_quiet_op; go_big_quiet_on)
  clear hone hw1
  refine wpG_nil ?_
  refine anyH_one (i := 10) (by kernel_rfl) (hOp_freshG (R := BuiltI root) (M0 := [(w.heap.size, Obj.cells (arrB 32 root) 29 (0, 0))]) rfl rfl rfl (fun _ h => h) (fun u hu => FAt_buildI HR.out.1 rfl u) ?_)
  rintro x N ⟨g, rfl, rfl⟩ hf he2; intro K' hK'; go_big_quiet_op; go_big_quiet_on
  clear hf
  change anyH _ _ _ _ _ _ _ _ [(g, Obj.cells (arrB 32 root) 29 (0, 0)), (w.heap.size, Obj.cells (arrB 32 root) 29 (0, 0))]
  refine anyH_phase [11, 13, 14, 15, 16, 17, 18, 19, 20] 0 rfl ⟨_, he2.choose_spec⟩ (by kernel_rfl) ?_
  have hw3 : EnvX w1 _ [(g, Obj.cells (arrB 32 root) 29 (0, 0)), (w.heap.size, Obj.cells (arrB 32 root) 29 (0, 0))] := he2.choose_spec
  have hone := @EnvC.one _ _ _ hw3
  (refine wpG_call (f := 13) (args := #[.slice (some ⟨g, 0, none⟩) 1 1]) (v := idv root) rfl rfl rfl Tryd.func13 rfl rfl (fun u hu => HRT.out u g (EnvX.sub hu (fun _ h => by cases h)) (EnvX.row hu (List.Mem.head _))) ?_ hw3; intro K hK; go_big_quiet_op; go_big_quiet_on)
  (refine wpG_val (v := .bool false) rfl rfl (fun u hu => neqb_op HR.out.1 HR.out.1 HEQ.out u rfl rfl) ?_ hw3; intro K hK; go_big_quiet_op; go_big_quiet_on)
  (refine wpG_op rfl rfl rfl ?_; intro K hK; go_big_quiet_op; go_big_quiet_on)
  (refine wpG_op rfl rfl rfl ?_; intro K hK; go_big_quiet_op; go_big_quiet_on)
  (refine wpG_val (v := idv root) rfl rfl (fun u hu => load_run_op u (box_load hu (List.Mem.tail _ (List.Mem.head _)) HR.out.1) rfl) ?_ hw3; intro K hK; go_big_quiet_op; go_big_quiet_on)
  (refine wpG_val (v := idv root) rfl rfl (fun u hu => load_run_op u (box_load hu (List.Mem.tail _ (List.Mem.head _)) HR.out.1) rfl) ?_ hw3; intro K hK; go_big_quiet_op; go_big_quiet_on)
  (refine wpG_call (f := 17) (args := #[idv root, .int .i64 1, .int .i64 0, idv root, .slice none 0 0]) (v := .bool true) rfl rfl rfl Tryd.func17 rfl rfl (fun u hu => HC1.out u (EnvX.sub hu (fun _ h => by cases h))) ?_ hw3; intro K hK; go_big_quiet_op; go_big_quiet_on)
  (refine wpG_op rfl rfl rfl ?_; intro K hK; go_big_quiet_op; go_big_quiet_on)
  (refine wpG_op rfl rfl rfl ?_; intro K hK; go_big_quiet_op; go_big_quiet_on)
  clear hone hw3
  refine wpG_nil ?_
  refine anyH_done (by kernel_rfl) ?_
  intro u5 E2'
  have EX4 := Lib.hid E2'
  clear E2'
  have EU : Hid (EnvX w1 u5 [(w.heap.size, Obj.cells (arrB 32 root) 29 (0, 0))]) := EnvX.sub EX4.out (fun x h => List.mem_cons_of_mem _ h)
  clear EX4 E1
  go_upto_region 9 with (fail)
  generalize u5 = U at *
  go_loopw [13, 14] (fun v j u => ∃ e : Nat, e ≤ 5 ∧ v = .int .i64 ((2 ^ e : Nat) : Int) ∧ j = .int .i64 e ∧ u = U) (fun _ j _ => 5 - (intOf j).toNat)
  case atStart => exact ⟨0, by omega, rfl, rfl, rfl⟩
  case round =>
    obtain ⟨e, he, rfl, rfl, rfl⟩ := hrel
    obtain ⟨P, hP0⟩ : ∃ P, 2 ^ e = P := ⟨_, rfl⟩
    have hP : Hid (P = 2 ^ e) := hP0.symm
    have h32 : P < 32 ↔ e < 5 := by
      rw [← hP0]
      exact Nat.pow_lt_pow_iff_right (a := 2) (n := e) (m := 5) (by decide)
    have hle : P ≤ 32 := by
      rw [← hP0]
      have := Nat.pow_le_pow_right (show 0 < 2 by decide) he
      omega
    have hps : Hid (2 ^ (e + 1) = 2 * P) := by show _ = _; rw [Nat.pow_succ, hP0, Nat.mul_comm]
    rw [hP0]
    clear hP0
    by_cases hek : (e : Int) < k
    · by_cases hp : P < 32
      · have hp2 : (P : Int) < 32 := by omega
        have he5 : e < 5 := h32.1 hp
        go_wp2
        go_roundw
        case rel => exact ⟨e + 1, by omega, by rw [hps.out]; go_num, by go_num, trivial⟩
        case measure => simp [intOf]; omega
      · have hp2 : ¬ (P : Int) < 32 := by omega
        go_upto_region 12 with (fail)
        by_cases c1 : n < P
        · have c1' : (n : Int) < (P : Int) := by omega
          go_wp2
          go_ret
          exact ⟨rfl, HB1.out.trans ((EnvX.bel EU.out).mono HB1.out.size)⟩
        · have c1' : ¬ (n : Int) < (P : Int) := by omega
          by_cases c2 : 2 * P < n
          · have c2' : 2 * (P : Int) < (n : Int) := by omega
            go_wp2
            go_ret
            exact ⟨rfl, HB1.out.trans ((EnvX.bel EU.out).mono HB1.out.size)⟩
          · have c2' : ¬ 2 * (P : Int) < (n : Int) := by omega
            by_cases c3 : n = P
            · have c3' : (n : Int) = (P : Int) := by omega
              go_wp2
              go_ret
              exact ⟨rfl, HB1.out.trans ((EnvX.bel EU.out).mono HB1.out.size)⟩
            · have c3' : ¬ (n : Int) = (P : Int) := by omega
              omega
    · go_upto_region 12 with (fail)
      by_cases c1 : n < P
      · have c1' : (n : Int) < (P : Int) := by omega
        go_wp2
        go_ret
        exact ⟨rfl, HB1.out.trans ((EnvX.bel EU.out).mono HB1.out.size)⟩
      · have c1' : ¬ (n : Int) < (P : Int) := by omega
        by_cases c2 : 2 * P < n
        · have c2' : 2 * (P : Int) < (n : Int) := by omega
          go_wp2
          go_ret
          exact ⟨rfl, HB1.out.trans ((EnvX.bel EU.out).mono HB1.out.size)⟩
        · have c2' : ¬ 2 * (P : Int) < (n : Int) := by omega
          by_cases c3 : n = P
          · have c3' : (n : Int) = (P : Int) := by omega
            go_wp2
            go_ret
            exact ⟨rfl, HB1.out.trans ((EnvX.bel EU.out).mono HB1.out.size)⟩
          · have c3' : ¬ (n : Int) = (P : Int) := by omega
            have HRH : Hid (rootT l = nodeT (rootT (l.take P)) (rootT (l.drop P))) := by
              show _ = _
              rw [hP.out]
              exact root_halves (by rw [HL.out, ← hP.out]; omega) (by rw [HL.out, ← hP.out]; omega)
            have l1 : (l.take P).length = P := by rw [List.length_take, HL.out]; omega
            have l2 : (l.drop P).length = n - P := by rw [List.length_drop, HL.out]
            have HR0 : Hid (∀ u, EnvX w1 u [] → Calls Tryd.prog 13 #[.slice A n c] u fun e w' => e = .returned (idv (rootT l)) ∧ Below u.heap.size u w') := fun u hu => HTREE.out.root l A n c u HL.out (by omega) hnc (by unfold maxLen; omega) HI.out.1 (HA1.out.up (EnvX.bel hu)) (HT1.out.below (EnvX.bel hu))
            have HR1 : Hid (∀ u, EnvX w1 u [] → Calls Tryd.prog 13 #[.slice A P c] u fun e w' => e = .returned (idv (rootT (l.take P))) ∧ Below u.heap.size u w') := fun u hu => HTREE.out.root (l.take P) A P c u l1 (by omega) (by omega) (by unfold maxLen; omega) (HI.out.1.take _) ((HA1.out.take HI.out.1 _).up (EnvX.bel hu)) (HT1.out.below (EnvX.bel hu))
            have HR2 : Hid (∀ u, EnvX w1 u [] → Calls Tryd.prog 13 #[.slice (cutI' A P c) (n - P) (c - P)] u fun e w' => e = .returned (idv (rootT (l.drop P))) ∧ Below u.heap.size u w') := fun u hu => HTREE.out.root (l.drop P) (cutI' A P c) (n - P) (c - P) u l2 (by omega) (by omega) (by unfold maxLen; omega) (HI.out.1.drop _) ((HA1.out.drop HI.out.1 _ c (by rw [HL.out]; omega)).up (EnvX.bel hu)) (HT1.out.below (EnvX.bel hu))
            have HRI := Lib.hid (root_id HI.out.1)
            have HND : Hid (∀ u, EnvX w1 u [] → Calls Tryd.prog 19 #[idv (rootT (l.take P)), idv (rootT (l.drop P))] u fun e w' => e = .returned (idv (rootT l)) ∧ Below u.heap.size u w') := fun u hu => by
              rw [HRH.out]
              exact HTREE.out.node _ _ u (root_id (HI.out.1.take _)) (root_id (HI.out.1.drop _)) (HT1.out.below (EnvX.bel hu))
            have HPC : Hid (P ≤ c) := by show _ ≤ _; omega
            have HPN : Hid (P ≤ n) := by show _ ≤ _; omega
            have HER : Hid (eqL (rootT l) (rootT l) = true) := by show _ = _; simp [eqL]
            clear l1 l2
            go_upto_region 14 with (fail)
            refine wp_region_H (w0 := w1) [(w.heap.size, Obj.cells (arrB 32 root) 29 (0, 0))] (by kernel_rfl) EU.out ?_
            refine anyH_phase [0, 1, 2, 3, 4, 5, 6, 7, 8, 9, 10, 11, 12] 0 rfl ⟨_, (EnvX.drew EU.out)⟩ (by kernel_rfl) ?_
            have hw36 : EnvX w1 _ [(w.heap.size, Obj.cells (arrB 32 root) 29 (0, 0))] := (EnvX.drew EU.out)
            have hone := @EnvC.one _ _ _ hw36
            (refine wpG_op rfl rfl rfl ?_; intro K hK; go_big_quiet_op; go_big_quiet_on)
            (refine wpG_call (f := 13) (args := #[.slice A n c]) (v := idv (rootT l)) rfl rfl rfl Tryd.func13 rfl rfl (fun u hu => HR0.out u (EnvX.sub hu (fun _ h => by cases h))) ?_ hw36; intro K hK; go_big_quiet_op; go_big_quiet_on)
            (refine wpG_op rfl rfl rfl ?_; intro K hK; go_big_quiet_op; go_big_quiet_on)
            (refine wpG_op rfl rfl rfl ?_; intro K hK; go_big_quiet_op; go_big_quiet_on)
            (refine wpG_val (v := .slice A P c) rfl rfl (fun u hu => cutIh_op u HPC.out rfl rfl) ?_ hw36; intro K hK; go_big_quiet_op; go_big_quiet_on)
            (refine wpG_call (f := 13) (args := #[.slice A P c]) (v := idv (rootT (l.take P))) rfl rfl rfl Tryd.func13 rfl rfl (fun u hu => HR1.out u (EnvX.sub hu (fun _ h => by cases h))) ?_ hw36; intro K hK; go_big_quiet_op; go_big_quiet_on)
            (refine wpG_op rfl rfl rfl ?_; intro K hK; go_big_quiet_op; go_big_quiet_on)
            (refine wpG_op rfl rfl rfl ?_; intro K hK; go_big_quiet_op; go_big_quiet_on)
            (refine wpG_val (v := (.slice (cutI' A P c) (n - P) (c - P))) rfl rfl (fun u hu => cutIl_op u HPN.out rfl rfl) ?_ hw36; intro K hK; go_big_quiet_op; go_big_quiet_on)
            (refine wpG_call (f := 13) (args := #[(.slice (cutI' A P c) (n - P) (c - P))]) (v := idv (rootT (l.drop P))) rfl rfl rfl Tryd.func13 rfl rfl (fun u hu => HR2.out u (EnvX.sub hu (fun _ h => by cases h))) ?_ hw36; intro K hK; go_big_quiet_op; go_big_quiet_on)
            (refine wpG_call (f := 19) (args := #[idv (rootT (l.take P)), idv (rootT (l.drop P))]) (v := idv (rootT l)) rfl rfl rfl Tryd.func19 rfl rfl (fun u hu => HND.out u (EnvX.sub hu (fun _ h => by cases h))) ?_ hw36; intro K hK; go_big_quiet_op; go_big_quiet_on)
            (refine wpG_val (v := .bool true) rfl rfl (fun u hu => eqlb_op HRI.out.1 HRI.out.1 HER.out u rfl rfl) ?_ hw36; intro K hK; go_big_quiet_op; go_big_quiet_on)
            (refine wpG_op rfl rfl rfl ?_; intro K hK; go_big_quiet_op; go_big_quiet_on)
            clear hone hw36
            refine wpG_nil ?_
            refine anyH_done (by kernel_rfl) ?_
            intro u38 E2'
            have EX37 := Lib.hid E2'
            clear E2'
            go_wp2
            go_ret
            exact ⟨rfl, HB1.out.trans ((EnvX.bel EX37.out).mono HB1.out.size)⟩
set_option maxRecDepth 20000 in
set_option maxHeartbeats 4000000 in
theorem law_halves_2 (T : TreeC) (l : List (List Int)) (A : Option Addr) (n c : Nat) (k : Int) (root : List Int) (m i : Int) (w : World)
    (hr : isId root) (hl : l.length = n) (hnc : n ≤ c) (hcm : c ≤ maxLen) (hI : isIds l) (hA : IdsIn w w.heap.size A l) (hk : I64 k) (hm : I64 m) (hi : I64 i) (ht : Tables w) (hn : n ≤ 32) (c0 : 64 < m) :
    Calls Tryd.prog 6 #[.slice A n c, .int .i64 k, idv root, .int .i64 m, .int .i64 i] w fun e w' => e = .returned (.bool true) ∧ Below w.heap.size w w' := by
  have HODD : Hid (checkT root m i root [] = false) := by
    show _ = _
    unfold checkT
    simp only [decide_eq_false_iff_not]
    omega
  have c00 : ¬ m < 1 := by omega
  unfold I64 at hk hm hi
  unfold maxLen at hcm
  have HAW := Lib.hid (awake_any T (w.alloc (.cells (arrB 32 root) 29)) (ht.below ((Below.refl _ _).alloc (Nat.le_refl _) _)))
  have E0 : Hid (EnvX w (w.alloc (.cells (arrB 32 root) 29)) [(w.heap.size, Obj.cells (arrB 32 root) 29 (0, 0))]) := (EnvX.start w).new _
  have HT := Lib.hid ht
  have HTREE := Lib.hid T
  have HR := Lib.hid hr
  have HL := Lib.hid hl
  have HI := Lib.hid (And.intro hI hA)
  clear ht T hr hl hI hA
  unfold idv
  go_enter Tryd.func6, Tryd.ntmps6
  go_upto_region 1 with (fail)
  generalize w.alloc (.cells (arrB 32 root) 29) = W at *
  go_wp2_with fail
  refine HAW.out.mono ?_
  rintro e w1 ⟨rfl, hb1⟩
  have HB1 := Lib.hid (EnvX.below E0.out hb1).bel
  have E1 : Hid (EnvX w1 w1 [(w.heap.size, Obj.cells (arrB 32 root) 29 (0, 0))]) := ⟨Below.refl _ _, (EnvX.below E0.out hb1).box⟩
  have HT1 := Lib.hid (HT.out.below HB1.out)
  have HA1 := Lib.hid (HI.out.2.up HB1.out)
  clear hb1 E0 HAW
  have h1 : ¬ (32 : Int) < (n : Int) := by omega
  have HEQ : Hid ((!eqL root root) = false) := by show _ = _; simp [eqL]
  have HC1 : Hid (∀ u, EnvX w1 u [] → Calls Tryd.prog 17 #[idv root, .int .i64 1, .int .i64 0, idv root, .slice none 0 0] u fun e w' => e = .returned (.bool true) ∧ Below u.heap.size u w') := fun u hu => by
    have h := HTREE.out.check root root 1 0 [] none 0 0 u HR.out HR.out ⟨by omega, by omega⟩ ⟨by omega, by omega⟩ rfl (by omega) (by omega) (by decide) (fun x h => by cases h) (Bytes.nil _ _ _) (HT1.out.below (EnvX.bel hu))
    have e : checkT root 1 0 root [] = true := by
      unfold checkT
      simp only [decide_eq_true_eq]
      exact ⟨by omega, by omega, by omega, by omega, rfl, rfl⟩
    rwa [e] at h
  have HRT : Hid (∀ u g, EnvX w1 u [] → Row u g 29 (arrB 32 root) → Calls Tryd.prog 13 #[.slice (some ⟨g, 0, none⟩) 1 1] u fun e w' => e = .returned (idv root) ∧ Below u.heap.size u w') := fun u g hu h =>
    HTREE.out.root [root] (some ⟨g, 0, none⟩) 1 1 u rfl (by omega) (by omega) (by decide) (fun x h => by cases List.mem_singleton.1 h; exact HR.out) (by show Bytes _ _ _ _; simpa using row_id HR.out.1 h) (HT1.out.below (EnvX.bel hu))
  have HC0 : Hid (∀ u, EnvX w1 u [] → Calls Tryd.prog 17 #[idv root, .int .i64 m, .int .i64 i, idv root, .slice none 0 0] u fun e w' => e = .returned (.bool false) ∧ Below u.heap.size u w') := fun u hu => by
    rw [← HODD.out]
    exact HTREE.out.check root root m i [] none 0 0 u HR.out HR.out hm hi rfl (by omega) (by omega) (by decide) (fun x h => by cases h) (Bytes.nil _ _ _) (HT1.out.below (EnvX.bel hu))
  go_upto_region 5 with (fail)
  refine wp_region_H (w0 := w1) [(w.heap.size, Obj.cells (arrB 32 root) 29 (0, 0))] (by kernel_rfl) E1.out ?_
  refine anyH_phase [0, 1, 2, 3, 4, 5, 6, 7, 8, 9, 12] 10 rfl ⟨_, (EnvX.drew E1.out)⟩ (by kernel_rfl) ?_
  have hw1 : EnvX w1 _ [(w.heap.size, Obj.cells (arrB 32 root) 29 (0, 0))] := (EnvX.drew E1.out)
  have hone := @EnvC.one _ _ _ hw1
  (refine wpG_op rfl rfl rfl ?_; intro K hK; go_big_quiet_op; go_big_quiet_on)
  (refine wpG_op rfl rfl rfl ?_; intro K hK; go_big_quiet_op; go_big_quiet_on)
  (refine wpG_val (v := idv root) rfl rfl (fun u hu => load_run_op u (box_load hu (List.Mem.head _) HR.out.1) rfl) ?_ hw1; intro K hK; go_big_quiet_op; go_big_quiet_on)
  (refine wpG_op rfl rfl rfl ?_; intro K hK; go_big_quiet_op; go_big_quiet_on)
  (refine wpG_op rfl rfl rfl ?_; intro K hK; go_big_quiet_op; go_big_quiet_on)
  (refine wpG_val (v := idv root) rfl rfl (fun u hu => load_run_op u (box_load hu (List.Mem.head _) HR.out.1) rfl) ?_ hw1; intro K hK; go_big_quiet_op; go_big_quiet_on)
  (refine wpG_call (f := 17) (args := #[idv root, .int .i64 m, .int .i64 i, idv root, .slice none 0 0]) (v := .bool false) rfl rfl rfl Tryd.func17 rfl rfl (fun u hu => HC0.out u (EnvX.sub hu (fun _ h => by cases h))) ?_ hw1; intro K hK; go_big_quiet_op; go_big_quiet_on)
  (refine wpG_op rfl rfl rfl ?_; intro K hK; go_big_quiet_op; go_big_quiet_on)
  (refine wpG_op rfl rfl rfl ?_; intro K hK; go_big_quiet_op; go_big_quiet_on)
  (refine wpG_val (v := idv root) rfl rfl (fun u hu => load_run_op u (box_load hu (List.Mem.head _) HR.out.1) rfl) ?_ hw1; intro K hK; go_big_quiet_op; go_big_quiet_on)
  (refine wpG_val (v := idv root) rfl rfl (fun u hu => load_run_op u (box_load hu (List.Mem.head _) HR.out.1) rfl) ?_ hw1; intro K hK; go_big_quiet_op; go_big_quiet_on)
  clear hone hw1
  refine wpG_nil ?_
  refine anyH_one (i := 10) (by kernel_rfl) (hOp_freshG (R := BuiltI root) (M0 := [(w.heap.size, Obj.cells (arrB 32 root) 29 (0, 0))]) rfl rfl rfl (fun _ h => h) (fun u hu => FAt_buildI HR.out.1 rfl u) ?_)
  rintro x N ⟨g, rfl, rfl⟩ hf he2; intro K' hK'; go_big_quiet_op; go_big_quiet_on
  clear hf
  change anyH _ _ _ _ _ _ _ _ [(g, Obj.cells (arrB 32 root) 29 (0, 0)), (w.heap.size, Obj.cells (arrB 32 root) 29 (0, 0))]
  refine anyH_phase [11, 13, 14, 15, 16, 17, 18, 19, 20] 0 rfl ⟨_, he2.choose_spec⟩ (by kernel_rfl) ?_
  have hw3 : EnvX w1 _ [(g, Obj.cells (arrB 32 root) 29 (0, 0)), (w.heap.size, Obj.cells (arrB 32 root) 29 (0, 0))] := he2.choose_spec
  have hone := @EnvC.one _ _ _ hw3
  (refine wpG_call (f := 13) (args := #[.slice (some ⟨g, 0, none⟩) 1 1]) (v := idv root) rfl rfl rfl Tryd.func13 rfl rfl (fun u hu => HRT.out u g (EnvX.sub hu (fun _ h => by cases h)) (EnvX.row hu (List.Mem.head _))) ?_ hw3; intro K hK; go_big_quiet_op; go_big_quiet_on)
  (refine wpG_val (v := .bool false) rfl rfl (fun u hu => neqb_op HR.out.1 HR.out.1 HEQ.out u rfl rfl) ?_ hw3; intro K hK; go_big_quiet_op; go_big_quiet_on)
  (refine wpG_op rfl rfl rfl ?_; intro K hK; go_big_quiet_op; go_big_quiet_on)
  (refine wpG_op rfl rfl rfl ?_; intro K hK; go_big_quiet_op; go_big_quiet_on)
  (refine wpG_val (v := idv root) rfl rfl (fun u hu => load_run_op u (box_load hu (List.Mem.tail _ (List.Mem.head _)) HR.out.1) rfl) ?_ hw3; intro K hK; go_big_quiet_op; go_big_quiet_on)
  (refine wpG_val (v := idv root) rfl rfl (fun u hu => load_run_op u (box_load hu (List.Mem.tail _ (List.Mem.head _)) HR.out.1) rfl) ?_ hw3; intro K hK; go_big_quiet_op; go_big_quiet_on)
  (refine wpG_call (f := 17) (args := #[idv root, .int .i64 1, .int .i64 0, idv root, .slice none 0 0]) (v := .bool true) rfl rfl rfl Tryd.func17 rfl rfl (fun u hu => HC1.out u (EnvX.sub hu (fun _ h => by cases h))) ?_ hw3; intro K hK; go_big_quiet_op; go_big_quiet_on)
  (refine wpG_op rfl rfl rfl ?_; intro K hK; go_big_quiet_op; go_big_quiet_on)
  (refine wpG_op rfl rfl rfl ?_; intro K hK; go_big_quiet_op; go_big_quiet_on)
  clear hone hw3
  refine wpG_nil ?_
  refine anyH_done (by kernel_rfl) ?_
  intro u5 E2'
  have EX4 := Lib.hid E2'
  clear E2'
  have EU : Hid (EnvX w1 u5 [(w.heap.size, Obj.cells (arrB 32 root) 29 (0, 0))]) := EnvX.sub EX4.out (fun x h => List.mem_cons_of_mem _ h)
  clear EX4 E1
  go_upto_region 9 with (fail)
  generalize u5 = U at *
  go_loopw [13, 14] (fun v j u => ∃ e : Nat, e ≤ 5 ∧ v = .int .i64 ((2 ^ e : Nat) : Int) ∧ j = .int .i64 e ∧ u = U) (fun _ j _ => 5 - (intOf j).toNat)
  case atStart => exact ⟨0, by omega, rfl, rfl, rfl⟩
  case round =>
    obtain ⟨e, he, rfl, rfl, rfl⟩ := hrel
    obtain ⟨P, hP0⟩ : ∃ P, 2 ^ e = P := ⟨_, rfl⟩
    have hP : Hid (P = 2 ^ e) := hP0.symm
    have h32 : P < 32 ↔ e < 5 := by
      rw [← hP0]
      exact Nat.pow_lt_pow_iff_right (a := 2) (n := e) (m := 5) (by decide)
    have hle : P ≤ 32 := by
      rw [← hP0]
      have := Nat.pow_le_pow_right (show 0 < 2 by decide) he
      omega
    have hps : Hid (2 ^ (e + 1) = 2 * P) := by show _ = _; rw [Nat.pow_succ, hP0, Nat.mul_comm]
    rw [hP0]
    clear hP0
    by_cases hek : (e : Int) < k
    · by_cases hp : P < 32
      · have hp2 : (P : Int) < 32 := by omega
        have he5 : e < 5 := h32.1 hp
        go_wp2
        go_roundw
        case rel => exact ⟨e + 1, by omega, by rw [hps.out]; go_num, by go_num, trivial⟩
        case measure => simp [intOf]; omega
      · have hp2 : ¬ (P : Int) < 32 := by omega
        go_upto_region 12 with (fail)
        by_cases c1 : n < P
        · have c1' : (n : Int) < (P : Int) := by omega
          go_wp2
          go_ret
          exact ⟨rfl, HB1.out.trans ((EnvX.bel EU.out).mono HB1.out.size)⟩
        · have c1' : ¬ (n : Int) < (P : Int) := by omega
          by_cases c2 : 2 * P < n
          · have c2' : 2 * (P : Int) < (n : Int) := by omega
            go_wp2
            go_ret
            exact ⟨rfl, HB1.out.trans ((EnvX.bel EU.out).mono HB1.out.size)⟩
          · have c2' : ¬ 2 * (P : Int) < (n : Int) := by omega
            by_cases c3 : n = P
            · have c3' : (n : Int) = (P : Int) := by omega
              go_wp2
              go_ret
              exact ⟨rfl, HB1.out.trans ((EnvX.bel EU.out).mono HB1.out.size)⟩
            · have c3' : ¬ (n : Int) = (P : Int) := by omega
              omega
    · go_upto_region 12 with (fail)
      by_cases c1 : n < P
      · have c1' : (n : Int) < (P : Int) := by omega
        go_wp2
        go_ret
        exact ⟨rfl, HB1.out.trans ((EnvX.bel EU.out).mono HB1.out.size)⟩
      · have c1' : ¬ (n : Int) < (P : Int) := by omega
        by_cases c2 : 2 * P < n
        · have c2' : 2 * (P : Int) < (n : Int) := by omega
          go_wp2
          go_ret
          exact ⟨rfl, HB1.out.trans ((EnvX.bel EU.out).mono HB1.out.size)⟩
        · have c2' : ¬ 2 * (P : Int) < (n : Int) := by omega
          by_cases c3 : n = P
          · have c3' : (n : Int) = (P : Int) := by omega
            go_wp2
            go_ret
            exact ⟨rfl, HB1.out.trans ((EnvX.bel EU.out).mono HB1.out.size)⟩
          · have c3' : ¬ (n : Int) = (P : Int) := by omega
            have HRH : Hid (rootT l = nodeT (rootT (l.take P)) (rootT (l.drop P))) := by
              show _ = _
              rw [hP.out]
              exact root_halves (by rw [HL.out, ← hP.out]; omega) (by rw [HL.out, ← hP.out]; omega)
            have l1 : (l.take P).length = P := by rw [List.length_take, HL.out]; omega
            have l2 : (l.drop P).length = n - P := by rw [List.length_drop, HL.out]
            have HR0 : Hid (∀ u, EnvX w1 u [] → Calls Tryd.prog 13 #[.slice A n c] u fun e w' => e = .returned (idv (rootT l)) ∧ Below u.heap.size u w') := fun u hu => HTREE.out.root l A n c u HL.out (by omega) hnc (by unfold maxLen; omega) HI.out.1 (HA1.out.up (EnvX.bel hu)) (HT1.out.below (EnvX.bel hu))
            have HR1 : Hid (∀ u, EnvX w1 u [] → Calls Tryd.prog 13 #[.slice A P c] u fun e w' => e = .returned (idv (rootT (l.take P))) ∧ Below u.heap.size u w') := fun u hu => HTREE.out.root (l.take P) A P c u l1 (by omega) (by omega) (by unfold maxLen; omega) (HI.out.1.take _) ((HA1.out.take HI.out.1 _).up (EnvX.bel hu)) (HT1.out.below (EnvX.bel hu))
            have HR2 : Hid (∀ u, EnvX w1 u [] → Calls Tryd.prog 13 #[.slice (cutI' A P c) (n - P) (c - P)] u fun e w' => e = .returned (idv (rootT (l.drop P))) ∧ Below u.heap.size u w') := fun u hu => HTREE.out.root (l.drop P) (cutI' A P c) (n - P) (c - P) u l2 (by omega) (by omega) (by unfold maxLen; omega) (HI.out.1.drop _) ((HA1.out.drop HI.out.1 _ c (by rw [HL.out]; omega)).up (EnvX.bel hu)) (HT1.out.below (EnvX.bel hu))
            have HRI := Lib.hid (root_id HI.out.1)
            have HND : Hid (∀ u, EnvX w1 u [] → Calls Tryd.prog 19 #[idv (rootT (l.take P)), idv (rootT (l.drop P))] u fun e w' => e = .returned (idv (rootT l)) ∧ Below u.heap.size u w') := fun u hu => by
              rw [HRH.out]
              exact HTREE.out.node _ _ u (root_id (HI.out.1.take _)) (root_id (HI.out.1.drop _)) (HT1.out.below (EnvX.bel hu))
            have HPC : Hid (P ≤ c) := by show _ ≤ _; omega
            have HPN : Hid (P ≤ n) := by show _ ≤ _; omega
            have HER : Hid (eqL (rootT l) (rootT l) = true) := by show _ = _; simp [eqL]
            clear l1 l2
            go_upto_region 14 with (fail)
            refine wp_region_H (w0 := w1) [(w.heap.size, Obj.cells (arrB 32 root) 29 (0, 0))] (by kernel_rfl) EU.out ?_
            refine anyH_phase [0, 1, 2, 3, 4, 5, 6, 7, 8, 9, 10, 11, 12] 0 rfl ⟨_, (EnvX.drew EU.out)⟩ (by kernel_rfl) ?_
            have hw36 : EnvX w1 _ [(w.heap.size, Obj.cells (arrB 32 root) 29 (0, 0))] := (EnvX.drew EU.out)
            have hone := @EnvC.one _ _ _ hw36
            (refine wpG_op rfl rfl rfl ?_; intro K hK; go_big_quiet_op; go_big_quiet_on)
            (refine wpG_call (f := 13) (args := #[.slice A n c]) (v := idv (rootT l)) rfl rfl rfl Tryd.func13 rfl rfl (fun u hu => HR0.out u (EnvX.sub hu (fun _ h => by cases h))) ?_ hw36; intro K hK; go_big_quiet_op; go_big_quiet_on)
            (refine wpG_op rfl rfl rfl ?_; intro K hK; go_big_quiet_op; go_big_quiet_on)
            (refine wpG_op rfl rfl rfl ?_; intro K hK; go_big_quiet_op; go_big_quiet_on)
            (refine wpG_val (v := .slice A P c) rfl rfl (fun u hu => cutIh_op u HPC.out rfl rfl) ?_ hw36; intro K hK; go_big_quiet_op; go_big_quiet_on)
            (refine wpG_call (f := 13) (args := #[.slice A P c]) (v := idv (rootT (l.take P))) rfl rfl rfl Tryd.func13 rfl rfl (fun u hu => HR1.out u (EnvX.sub hu (fun _ h => by cases h))) ?_ hw36; intro K hK; go_big_quiet_op; go_big_quiet_on)
            (refine wpG_op rfl rfl rfl ?_; intro K hK; go_big_quiet_op; go_big_quiet_on)
            (refine wpG_op rfl rfl rfl ?_; intro K hK; go_big_quiet_op; go_big_quiet_on)
            (refine wpG_val (v := (.slice (cutI' A P c) (n - P) (c - P))) rfl rfl (fun u hu => cutIl_op u HPN.out rfl rfl) ?_ hw36; intro K hK; go_big_quiet_op; go_big_quiet_on)
            (refine wpG_call (f := 13) (args := #[(.slice (cutI' A P c) (n - P) (c - P))]) (v := idv (rootT (l.drop P))) rfl rfl rfl Tryd.func13 rfl rfl (fun u hu => HR2.out u (EnvX.sub hu (fun _ h => by cases h))) ?_ hw36; intro K hK; go_big_quiet_op; go_big_quiet_on)
            (refine wpG_call (f := 19) (args := #[idv (rootT (l.take P)), idv (rootT (l.drop P))]) (v := idv (rootT l)) rfl rfl rfl Tryd.func19 rfl rfl (fun u hu => HND.out u (EnvX.sub hu (fun _ h => by cases h))) ?_ hw36; intro K hK; go_big_quiet_op; go_big_quiet_on)
            (refine wpG_val (v := .bool true) rfl rfl (fun u hu => eqlb_op HRI.out.1 HRI.out.1 HER.out u rfl rfl) ?_ hw36; intro K hK; go_big_quiet_op; go_big_quiet_on)
            (refine wpG_op rfl rfl rfl ?_; intro K hK; go_big_quiet_op; go_big_quiet_on)
            clear hone hw36
            refine wpG_nil ?_
            refine anyH_done (by kernel_rfl) ?_
            intro u38 E2'
            have EX37 := Lib.hid E2'
            clear E2'
            go_wp2
            go_ret
            exact ⟨rfl, HB1.out.trans ((EnvX.bel EX37.out).mono HB1.out.size)⟩
set_option maxRecDepth 20000 in
set_option maxHeartbeats 4000000 in
theorem law_halves_3 (T : TreeC) (l : List (List Int)) (A : Option Addr) (n c : Nat) (k : Int) (root : List Int) (m i : Int) (w : World)
    (hr : isId root) (hl : l.length = n) (hnc : n ≤ c) (hcm : c ≤ maxLen) (hI : isIds l) (hA : IdsIn w w.heap.size A l) (hk : I64 k) (hm : I64 m) (hi : I64 i) (ht : Tables w) (hn : n ≤ 32) (c0 : ¬ m < 1 ∧ ¬ 64 < m ∧ i < 0) :
    Calls Tryd.prog 6 #[.slice A n c, .int .i64 k, idv root, .int .i64 m, .int .i64 i] w fun e w' => e = .returned (.bool true) ∧ Below w.heap.size w w' := by
  have HODD : Hid (checkT root m i root [] = false) := by
    show _ = _
    unfold checkT
    simp only [decide_eq_false_iff_not]
    omega
  obtain ⟨c00, c01, c02⟩ := c0
  unfold I64 at hk hm hi
  unfold maxLen at hcm
  have HAW := Lib.hid (awake_any T (w.alloc (.cells (arrB 32 root) 29)) (ht.below ((Below.refl _ _).alloc (Nat.le_refl _) _)))
  have E0 : Hid (EnvX w (w.alloc (.cells (arrB 32 root) 29)) [(w.heap.size, Obj.cells (arrB 32 root) 29 (0, 0))]) := (EnvX.start w).new _
  have HT := Lib.hid ht
  have HTREE := Lib.hid T
  have HR := Lib.hid hr
  have HL := Lib.hid hl
  have HI := Lib.hid (And.intro hI hA)
  clear ht T hr hl hI hA
  unfold idv
  go_enter Tryd.func6, Tryd.ntmps6
  go_upto_region 1 with (fail)
  generalize w.alloc (.cells (arrB 32 root) 29) = W at *
  go_wp2_with fail
  refine HAW.out.mono ?_
  rintro e w1 ⟨rfl, hb1⟩
  have HB1 := Lib.hid (EnvX.below E0.out hb1).bel
  have E1 : Hid (EnvX w1 w1 [(w.heap.size, Obj.cells (arrB 32 root) 29 (0, 0))]) := ⟨Below.refl _ _, (EnvX.below E0.out hb1).box⟩
  have HT1 := Lib.hid (HT.out.below HB1.out)
  have HA1 := Lib.hid (HI.out.2.up HB1.out)
  clear hb1 E0 HAW
  have h1 : ¬ (32 : Int) < (n : Int) := by omega
  have HEQ : Hid ((!eqL root root) = false) := by show _ = _; simp [eqL]
  have HC1 : Hid (∀ u, EnvX w1 u [] → Calls Tryd.prog 17 #[idv root, .int .i64 1, .int .i64 0, idv root, .slice none 0 0] u fun e w' => e = .returned (.bool true) ∧ Below u.heap.size u w') := fun u hu => by
    have h := HTREE.out.check root root 1 0 [] none 0 0 u HR.out HR.out ⟨by omega, by omega⟩ ⟨by omega, by omega⟩ rfl (by omega) (by omega) (by decide) (fun x h => by cases h) (Bytes.nil _ _ _) (HT1.out.below (EnvX.bel hu))
    have e : checkT root 1 0 root [] = true := by
      unfold checkT
      simp only [decide_eq_true_eq]
      exact ⟨by omega, by omega, by omega, by omega, rfl, rfl⟩
    rwa [e] at h
  have HRT : Hid (∀ u g, EnvX w1 u [] → Row u g 29 (arrB 32 root) → Calls Tryd.prog 13 #[.slice (some ⟨g, 0, none⟩) 1 1] u fun e w' => e = .returned (idv root) ∧ Below u.heap.size u w') := fun u g hu h =>
    HTREE.out.root [root] (some ⟨g, 0, none⟩) 1 1 u rfl (by omega) (by omega) (by decide) (fun x h => by cases List.mem_singleton.1 h; exact HR.out) (by show Bytes _ _ _ _; simpa using row_id HR.out.1 h) (HT1.out.below (EnvX.bel hu))
  have HC0 : Hid (∀ u, EnvX w1 u [] → Calls Tryd.prog 17 #[idv root, .int .i64 m, .int .i64 i, idv root, .slice none 0 0] u fun e w' => e = .returned (.bool false) ∧ Below u.heap.size u w') := fun u hu => by
    rw [← HODD.out]
    exact HTREE.out.check root root m i [] none 0 0 u HR.out HR.out hm hi rfl (by omega) (by omega) (by decide) (fun x h => by cases h) (Bytes.nil _ _ _) (HT1.out.below (EnvX.bel hu))
  go_upto_region 5 with (fail)
  refine wp_region_H (w0 := w1) [(w.heap.size, Obj.cells (arrB 32 root) 29 (0, 0))] (by kernel_rfl) E1.out ?_
  refine anyH_phase [0, 1, 2, 3, 4, 5, 6, 7, 8, 9, 12] 10 rfl ⟨_, (EnvX.drew E1.out)⟩ (by kernel_rfl) ?_
  have hw1 : EnvX w1 _ [(w.heap.size, Obj.cells (arrB 32 root) 29 (0, 0))] := (EnvX.drew E1.out)
  have hone := @EnvC.one _ _ _ hw1
  (refine wpG_op rfl rfl rfl ?_; intro K hK; go_big_quiet_op; go_big_quiet_on)
  (refine wpG_op rfl rfl rfl ?_; intro K hK; go_big_quiet_op; go_big_quiet_on)
  (refine wpG_val (v := idv root) rfl rfl (fun u hu => load_run_op u (box_load hu (List.Mem.head _) HR.out.1) rfl) ?_ hw1; intro K hK; go_big_quiet_op; go_big_quiet_on)
  (refine wpG_op rfl rfl rfl ?_; intro K hK; go_big_quiet_op; go_big_quiet_on)
  (refine wpG_op rfl rfl rfl ?_; intro K hK; go_big_quiet_op; go_big_quiet_on)
  (refine wpG_val (v := idv root) rfl rfl (fun u hu => load_run_op u (box_load hu (List.Mem.head _) HR.out.1) rfl) ?_ hw1; intro K hK; go_big_quiet_op; go_big_quiet_on)
  (refine wpG_call (f := 17) (args := #[idv root, .int .i64 m, .int .i64 i, idv root, .slice none 0 0]) (v := .bool false) rfl rfl rfl Tryd.func17 rfl rfl (fun u hu => HC0.out u (EnvX.sub hu (fun _ h => by cases h))) ?_ hw1; intro K hK; go_big_quiet_op; go_big_quiet_on)
  (refine wpG_op rfl rfl rfl ?_; intro K hK; go_big_quiet_op; go_big_quiet_on)
  (refine wpG_op rfl rfl rfl ?_; intro K hK; go_big_quiet_op; go_big_quiet_on)
  (refine wpG_val (v := idv root) rfl rfl (fun u hu => load_run_op u (box_load hu (List.Mem.head _) HR.out.1) rfl) ?_ hw1; intro K hK; go_big_quiet_op; go_big_quiet_on)
  (refine wpG_val (v := idv root) rfl rfl (fun u hu => load_run_op u (box_load hu (List.Mem.head _) HR.out.1) rfl) ?_ hw1; intro K hK; go_big_quiet_op; go_big_quiet_on)
  clear hone hw1
  refine wpG_nil ?_
  refine anyH_one (i := 10) (by kernel_rfl) (hOp_freshG (R := BuiltI root) (M0 := [(w.heap.size, Obj.cells (arrB 32 root) 29 (0, 0))]) rfl rfl rfl (fun _ h => h) (fun u hu => FAt_buildI HR.out.1 rfl u) ?_)
  rintro x N ⟨g, rfl, rfl⟩ hf he2; intro K' hK'; go_big_quiet_op; go_big_quiet_on
  clear hf
  change anyH _ _ _ _ _ _ _ _ [(g, Obj.cells (arrB 32 root) 29 (0, 0)), (w.heap.size, Obj.cells (arrB 32 root) 29 (0, 0))]
  refine anyH_phase [11, 13, 14, 15, 16, 17, 18, 19, 20] 0 rfl ⟨_, he2.choose_spec⟩ (by kernel_rfl) ?_
  have hw3 : EnvX w1 _ [(g, Obj.cells (arrB 32 root) 29 (0, 0)), (w.heap.size, Obj.cells (arrB 32 root) 29 (0, 0))] := he2.choose_spec
  have hone := @EnvC.one _ _ _ hw3
  (refine wpG_call (f := 13) (args := #[.slice (some ⟨g, 0, none⟩) 1 1]) (v := idv root) rfl rfl rfl Tryd.func13 rfl rfl (fun u hu => HRT.out u g (EnvX.sub hu (fun _ h => by cases h)) (EnvX.row hu (List.Mem.head _))) ?_ hw3; intro K hK; go_big_quiet_op; go_big_quiet_on)
  (refine wpG_val (v := .bool false) rfl rfl (fun u hu => neqb_op HR.out.1 HR.out.1 HEQ.out u rfl rfl) ?_ hw3; intro K hK; go_big_quiet_op; go_big_quiet_on)
  (refine wpG_op rfl rfl rfl ?_; intro K hK; go_big_quiet_op; go_big_quiet_on)
  (refine wpG_op rfl rfl rfl ?_; intro K hK; go_big_quiet_op; go_big_quiet_on)
  (refine wpG_val (v := idv root) rfl rfl (fun u hu => load_run_op u (box_load hu (List.Mem.tail _ (List.Mem.head _)) HR.out.1) rfl) ?_ hw3; intro K hK; go_big_quiet_op; go_big_quiet_on)
  (refine wpG_val (v := idv root) rfl rfl (fun u hu => load_run_op u (box_load hu (List.Mem.tail _ (List.Mem.head _)) HR.out.1) rfl) ?_ hw3; intro K hK; go_big_quiet_op; go_big_quiet_on)
  (refine wpG_call (f := 17) (args := #[idv root, .int .i64 1, .int .i64 0, idv root, .slice none 0 0]) (v := .bool true) rfl rfl rfl Tryd.func17 rfl rfl (fun u hu => HC1.out u (EnvX.sub hu (fun _ h => by cases h))) ?_ hw3; intro K hK; go_big_quiet_op; go_big_quiet_on)
  (refine wpG_op rfl rfl rfl ?_; intro K hK; go_big_quiet_op; go_big_quiet_on)
  (refine wpG_op rfl rfl rfl ?_; intro K hK; go_big_quiet_op; go_big_quiet_on)
  clear hone hw3
  refine wpG_nil ?_
  refine anyH_done (by kernel_rfl) ?_
  intro u5 E2'
  have EX4 := Lib.hid E2'
  clear E2'
  have EU : Hid (EnvX w1 u5 [(w.heap.size, Obj.cells (arrB 32 root) 29 (0, 0))]) := EnvX.sub EX4.out (fun x h => List.mem_cons_of_mem _ h)
  clear EX4 E1
  go_upto_region 9 with (fail)
  generalize u5 = U at *
  go_loopw [13, 14] (fun v j u => ∃ e : Nat, e ≤ 5 ∧ v = .int .i64 ((2 ^ e : Nat) : Int) ∧ j = .int .i64 e ∧ u = U) (fun _ j _ => 5 - (intOf j).toNat)
  case atStart => exact ⟨0, by omega, rfl, rfl, rfl⟩
  case round =>
    obtain ⟨e, he, rfl, rfl, rfl⟩ := hrel
    obtain ⟨P, hP0⟩ : ∃ P, 2 ^ e = P := ⟨_, rfl⟩
    have hP : Hid (P = 2 ^ e) := hP0.symm
    have h32 : P < 32 ↔ e < 5 := by
      rw [← hP0]
      exact Nat.pow_lt_pow_iff_right (a := 2) (n := e) (m := 5) (by decide)
    have hle : P ≤ 32 := by
      rw [← hP0]
      have := Nat.pow_le_pow_right (show 0 < 2 by decide) he
      omega
    have hps : Hid (2 ^ (e + 1) = 2 * P) := by show _ = _; rw [Nat.pow_succ, hP0, Nat.mul_comm]
    rw [hP0]
    clear hP0
    by_cases hek : (e : Int) < k
    · by_cases hp : P < 32
      · have hp2 : (P : Int) < 32 := by omega
        have he5 : e < 5 := h32.1 hp
        go_wp2
        go_roundw
        case rel => exact ⟨e + 1, by omega, by rw [hps.out]; go_num, by go_num, trivial⟩
        case measure => simp [intOf]; omega
      · have hp2 : ¬ (P : Int) < 32 := by omega
        go_upto_region 12 with (fail)
        by_cases c1 : n < P
        · have c1' : (n : Int) < (P : Int) := by omega
          go_wp2
          go_ret
          exact ⟨rfl, HB1.out.trans ((EnvX.bel EU.out).mono HB1.out.size)⟩
        · have c1' : ¬ (n : Int) < (P : Int) := by omega
          by_cases c2 : 2 * P < n
          · have c2' : 2 * (P : Int) < (n : Int) := by omega
            go_wp2
            go_ret
            exact ⟨rfl, HB1.out.trans ((EnvX.bel EU.out).mono HB1.out.size)⟩
          · have c2' : ¬ 2 * (P : Int) < (n : Int) := by omega
            by_cases c3 : n = P
            · have c3' : (n : Int) = (P : Int) := by omega
              go_wp2
              go_ret
              exact ⟨rfl, HB1.out.trans ((EnvX.bel EU.out).mono HB1.out.size)⟩
            · have c3' : ¬ (n : Int) = (P : Int) := by omega
              omega
    · go_upto_region 12 with (fail)
      by_cases c1 : n < P
      · have c1' : (n : Int) < (P : Int) := by omega
        go_wp2
        go_ret
        exact ⟨rfl, HB1.out.trans ((EnvX.bel EU.out).mono HB1.out.size)⟩
      · have c1' : ¬ (n : Int) < (P : Int) := by omega
        by_cases c2 : 2 * P < n
        · have c2' : 2 * (P : Int) < (n : Int) := by omega
          go_wp2
          go_ret
          exact ⟨rfl, HB1.out.trans ((EnvX.bel EU.out).mono HB1.out.size)⟩
        · have c2' : ¬ 2 * (P : Int) < (n : Int) := by omega
          by_cases c3 : n = P
          · have c3' : (n : Int) = (P : Int) := by omega
            go_wp2
            go_ret
            exact ⟨rfl, HB1.out.trans ((EnvX.bel EU.out).mono HB1.out.size)⟩
          · have c3' : ¬ (n : Int) = (P : Int) := by omega
            have HRH : Hid (rootT l = nodeT (rootT (l.take P)) (rootT (l.drop P))) := by
              show _ = _
              rw [hP.out]
              exact root_halves (by rw [HL.out, ← hP.out]; omega) (by rw [HL.out, ← hP.out]; omega)
            have l1 : (l.take P).length = P := by rw [List.length_take, HL.out]; omega
            have l2 : (l.drop P).length = n - P := by rw [List.length_drop, HL.out]
            have HR0 : Hid (∀ u, EnvX w1 u [] → Calls Tryd.prog 13 #[.slice A n c] u fun e w' => e = .returned (idv (rootT l)) ∧ Below u.heap.size u w') := fun u hu => HTREE.out.root l A n c u HL.out (by omega) hnc (by unfold maxLen; omega) HI.out.1 (HA1.out.up (EnvX.bel hu)) (HT1.out.below (EnvX.bel hu))
            have HR1 : Hid (∀ u, EnvX w1 u [] → Calls Tryd.prog 13 #[.slice A P c] u fun e w' => e = .returned (idv (rootT (l.take P))) ∧ Below u.heap.size u w') := fun u hu => HTREE.out.root (l.take P) A P c u l1 (by omega) (by omega) (by unfold maxLen; omega) (HI.out.1.take _) ((HA1.out.take HI.out.1 _).up (EnvX.bel hu)) (HT1.out.below (EnvX.bel hu))
            have HR2 : Hid (∀ u, EnvX w1 u [] → Calls Tryd.prog 13 #[.slice (cutI' A P c) (n - P) (c - P)] u fun e w' => e = .returned (idv (rootT (l.drop P))) ∧ Below u.heap.size u w') := fun u hu => HTREE.out.root (l.drop P) (cutI' A P c) (n - P) (c - P) u l2 (by omega) (by omega) (by unfold maxLen; omega) (HI.out.1.drop _) ((HA1.out.drop HI.out.1 _ c (by rw [HL.out]; omega)).up (EnvX.bel hu)) (HT1.out.below (EnvX.bel hu))
            have HRI := Lib.hid (root_id HI.out.1)
            have HND : Hid (∀ u, EnvX w1 u [] → Calls Tryd.prog 19 #[idv (rootT (l.take P)), idv (rootT (l.drop P))] u fun e w' => e = .returned (idv (rootT l)) ∧ Below u.heap.size u w') := fun u hu => by
              rw [HRH.out]
              exact HTREE.out.node _ _ u (root_id (HI.out.1.take _)) (root_id (HI.out.1.drop _)) (HT1.out.below (EnvX.bel hu))
            have HPC : Hid (P ≤ c) := by show _ ≤ _; omega
            have HPN : Hid (P ≤ n) := by show _ ≤ _; omega
            have HER : Hid (eqL (rootT l) (rootT l) = true) := by show _ = _; simp [eqL]
            clear l1 l2
            go_upto_region 14 with (fail)
            refine wp_region_H (w0 := w1) [(w.heap.size, Obj.cells (arrB 32 root) 29 (0, 0))] (by kernel_rfl) EU.out ?_
            refine anyH_phase [0, 1, 2, 3, 4, 5, 6, 7, 8, 9, 10, 11, 12] 0 rfl ⟨_, (EnvX.drew EU.out)⟩ (by kernel_rfl) ?_
            have hw36 : EnvX w1 _ [(w.heap.size, Obj.cells (arrB 32 root) 29 (0, 0))] := (EnvX.drew EU.out)
            have hone := @EnvC.one _ _ _ hw36
            (refine wpG_op rfl rfl rfl ?_; intro K hK; go_big_quiet_op; go_big_quiet_on)
            (refine wpG_call (f := 13) (args := #[.slice A n c]) (v := idv (rootT l)) rfl rfl rfl Tryd.func13 rfl rfl (fun u hu => HR0.out u (EnvX.sub hu (fun _ h => by cases h))) ?_ hw36; intro K hK; go_big_quiet_op; go_big_quiet_on)
            (refine wpG_op rfl rfl rfl ?_; intro K hK; go_big_quiet_op; go_big_quiet_on)
            (refine wpG_op rfl rfl rfl ?_; intro K hK; go_big_quiet_op; go_big_quiet_on)
            (refine wpG_val (v := .slice A P c) rfl rfl (fun u hu => cutIh_op u HPC.out rfl rfl) ?_ hw36; intro K hK; go_big_quiet_op; go_big_quiet_on)
            (refine wpG_call (f := 13) (args := #[.slice A P c]) (v := idv (rootT (l.take P))) rfl rfl rfl Tryd.func13 rfl rfl (fun u hu => HR1.out u (EnvX.sub hu (fun _ h => by cases h))) ?_ hw36; intro K hK; go_big_quiet_op; go_big_quiet_on)
            (refine wpG_op rfl rfl rfl ?_; intro K hK; go_big_quiet_op; go_big_quiet_on)
            (refine wpG_op rfl rfl rfl ?_; intro K hK; go_big_quiet_op; go_big_quiet_on)
            (refine wpG_val (v := (.slice (cutI' A P c) (n - P) (c - P))) rfl rfl (fun u hu => cutIl_op u HPN.out rfl rfl) ?_ hw36; intro K hK; go_big_quiet_op; go_big_quiet_on)
            (refine wpG_call (f := 13) (args := #[(.slice (cutI' A P c) (n - P) (c - P))]) (v := idv (rootT (l.drop P))) rfl rfl rfl Tryd.func13 rfl rfl (fun u hu => HR2.out u (EnvX.sub hu (fun _ h => by cases h))) ?_ hw36; intro K hK; go_big_quiet_op; go_big_quiet_on)
            (refine wpG_call (f := 19) (args := #[idv (rootT (l.take P)), idv (rootT (l.drop P))]) (v := idv (rootT l)) rfl rfl rfl Tryd.func19 rfl rfl (fun u hu => HND.out u (EnvX.sub hu (fun _ h => by cases h))) ?_ hw36; intro K hK; go_big_quiet_op; go_big_quiet_on)
            (refine wpG_val (v := .bool true) rfl rfl (fun u hu => eqlb_op HRI.out.1 HRI.out.1 HER.out u rfl rfl) ?_ hw36; intro K hK; go_big_quiet_op; go_big_quiet_on)
            (refine wpG_op rfl rfl rfl ?_; intro K hK; go_big_quiet_op; go_big_quiet_on)
            clear hone hw36
            refine wpG_nil ?_
            refine anyH_done (by kernel_rfl) ?_
            intro u38 E2'
            have EX37 := Lib.hid E2'
            clear E2'
            go_wp2
            go_ret
            exact ⟨rfl, HB1.out.trans ((EnvX.bel EX37.out).mono HB1.out.size)⟩
set_option maxRecDepth 20000 in
set_option maxHeartbeats 4000000 in
theorem law_halves_4 (T : TreeC) (l : List (List Int)) (A : Option Addr) (n c : Nat) (k : Int) (root : List Int) (m i : Int) (w : World)
    (hr : isId root) (hl : l.length = n) (hnc : n ≤ c) (hcm : c ≤ maxLen) (hI : isIds l) (hA : IdsIn w w.heap.size A l) (hk : I64 k) (hm : I64 m) (hi : I64 i) (ht : Tables w) (hn : n ≤ 32) (c0 : ¬ m < 1 ∧ ¬ 64 < m ∧ ¬ i < 0 ∧ m ≤ i) :
    Calls Tryd.prog 6 #[.slice A n c, .int .i64 k, idv root, .int .i64 m, .int .i64 i] w fun e w' => e = .returned (.bool true) ∧ Below w.heap.size w w' := by
  have HODD : Hid (checkT root m i root [] = false) := by
    show _ = _
    unfold checkT
    simp only [decide_eq_false_iff_not]
    omega
  obtain ⟨c00, c01, c02, c03⟩ := c0
  unfold I64 at hk hm hi
  unfold maxLen at hcm
  have HAW := Lib.hid (awake_any T (w.alloc (.cells (arrB 32 root) 29)) (ht.below ((Below.refl _ _).alloc (Nat.le_refl _) _)))
  have E0 : Hid (EnvX w (w.alloc (.cells (arrB 32 root) 29)) [(w.heap.size, Obj.cells (arrB 32 root) 29 (0, 0))]) := (EnvX.start w).new _
  have HT := Lib.hid ht
  have HTREE := Lib.hid T
  have HR := Lib.hid hr
  have HL := Lib.hid hl
  have HI := Lib.hid (And.intro hI hA)
  clear ht T hr hl hI hA
  unfold idv
  go_enter Tryd.func6, Tryd.ntmps6
  go_upto_region 1 with (fail)
  generalize w.alloc (.cells (arrB 32 root) 29) = W at *
  go_wp2_with fail
  refine HAW.out.mono ?_
  rintro e w1 ⟨rfl, hb1⟩
  have HB1 := Lib.hid (EnvX.below E0.out hb1).bel
  have E1 : Hid (EnvX w1 w1 [(w.heap.size, Obj.cells (arrB 32 root) 29 (0, 0))]) := ⟨Below.refl _ _, (EnvX.below E0.out hb1).box⟩
  have HT1 := Lib.hid (HT.out.below HB1.out)
  have HA1 := Lib.hid (HI.out.2.up HB1.out)
  clear hb1 E0 HAW
  have h1 : ¬ (32 : Int) < (n : Int) := by omega
  have HEQ : Hid ((!eqL root root) = false) := by show _ = _; simp [eqL]
  have HC1 : Hid (∀ u, EnvX w1 u [] → Calls Tryd.prog 17 #[idv root, .int .i64 1, .int .i64 0, idv root, .slice none 0 0] u fun e w' => e = .returned (.bool true) ∧ Below u.heap.size u w') := fun u hu => by
    have h := HTREE.out.check root root 1 0 [] none 0 0 u HR.out HR.out ⟨by omega, by omega⟩ ⟨by omega, by omega⟩ rfl (by omega) (by omega) (by decide) (fun x h => by cases h) (Bytes.nil _ _ _) (HT1.out.below (EnvX.bel hu))
    have e : checkT root 1 0 root [] = true := by
      unfold checkT
      simp only [decide_eq_true_eq]
      exact ⟨by omega, by omega, by omega, by omega, rfl, rfl⟩
    rwa [e] at h
  have HRT : Hid (∀ u g, EnvX w1 u [] → Row u g 29 (arrB 32 root) → Calls Tryd.prog 13 #[.slice (some ⟨g, 0, none⟩) 1 1] u fun e w' => e = .returned (idv root) ∧ Below u.heap.size u w') := fun u g hu h =>
    HTREE.out.root [root] (some ⟨g, 0, none⟩) 1 1 u rfl (by omega) (by omega) (by decide) (fun x h => by cases List.mem_singleton.1 h; exact HR.out) (by show Bytes _ _ _ _; simpa using row_id HR.out.1 h) (HT1.out.below (EnvX.bel hu))
  have HC0 : Hid (∀ u, EnvX w1 u [] → Calls Tryd.prog 17 #[idv root, .int .i64 m, .int .i64 i, idv root, .slice none 0 0] u fun e w' => e = .returned (.bool false) ∧ Below u.heap.size u w') := fun u hu => by
    rw [← HODD.out]
    exact HTREE.out.check root root m i [] none 0 0 u HR.out HR.out hm hi rfl (by omega) (by omega) (by decide) (fun x h => by cases h) (Bytes.nil _ _ _) (HT1.out.below (EnvX.bel hu))
  go_upto_region 5 with (fail)
  refine wp_region_H (w0 := w1) [(w.heap.size, Obj.cells (arrB 32 root) 29 (0, 0))] (by kernel_rfl) E1.out ?_
  refine anyH_phase [0, 1, 2, 3, 4, 5, 6, 7, 8, 9, 12] 10 rfl ⟨_, (EnvX.drew E1.out)⟩ (by kernel_rfl) ?_
  have hw1 : EnvX w1 _ [(w.heap.size, Obj.cells (arrB 32 root) 29 (0, 0))] := (EnvX.drew E1.out)
  have hone := @EnvC.one _ _ _ hw1
  (refine wpG_op rfl rfl rfl ?_; intro K hK; go_big_quiet_op; go_big_quiet_on)
  (refine wpG_op rfl rfl rfl ?_; intro K hK; go_big_quiet_op; go_big_quiet_on)
  (refine wpG_val (v := idv root) rfl rfl (fun u hu => load_run_op u (box_load hu (List.Mem.head _) HR.out.1) rfl) ?_ hw1; intro K hK; go_big_quiet_op; go_big_quiet_on)
  (refine wpG_op rfl rfl rfl ?_; intro K hK; go_big_quiet_op; go_big_quiet_on)
  (refine wpG_op rfl rfl rfl ?_; intro K hK; go_big_quiet_op; go_big_quiet_on)
  (refine wpG_val (v := idv root) rfl rfl (fun u hu => load_run_op u (box_load hu (List.Mem.head _) HR.out.1) rfl) ?_ hw1; intro K hK; go_big_quiet_op; go_big_quiet_on)
  (refine wpG_call (f := 17) (args := #[idv root, .int .i64 m, .int .i64 i, idv root, .slice none 0 0]) (v := .bool false) rfl rfl rfl Tryd.func17 rfl rfl (fun u hu => HC0.out u (EnvX.sub hu (fun _ h => by cases h))) ?_ hw1; intro K hK; go_big_quiet_op; go_big_quiet_on)
  (refine wpG_op rfl rfl rfl ?_; intro K hK; go_big_quiet_op; go_big_quiet_on)
  (refine wpG_op rfl rfl rfl ?_; intro K hK; go_big_quiet_op; go_big_quiet_on)
  (refine wpG_val (v := idv root) rfl rfl (fun u hu => load_run_op u (box_load hu (List.Mem.head _) HR.out.1) rfl) ?_ hw1; intro K hK; go_big_quiet_op; go_big_quiet_on)
  (refine wpG_val (v := idv root) rfl rfl (fun u hu => load_run_op u (box_load hu (List.Mem.head _) HR.out.1) rfl) ?_ hw1; intro K hK; go_big_quiet_op; go_big_quiet_on)
  clear hone hw1
  refine wpG_nil ?_
  refine anyH_one (i := 10) (by kernel_rfl) (hOp_freshG (R := BuiltI root) (M0 := [(w.heap.size, Obj.cells (arrB 32 root) 29 (0, 0))]) rfl rfl rfl (fun _ h => h) (fun u hu => FAt_buildI HR.out.1 rfl u) ?_)
  rintro x N ⟨g, rfl, rfl⟩ hf he2; intro K' hK'; go_big_quiet_op; go_big_quiet_on
  clear hf
  change anyH _ _ _ _ _ _ _ _ [(g, Obj.cells (arrB 32 root) 29 (0, 0)), (w.heap.size, Obj.cells (arrB 32 root) 29 (0, 0))]
  refine anyH_phase [11, 13, 14, 15, 16, 17, 18, 19, 20] 0 rfl ⟨_, he2.choose_spec⟩ (by kernel_rfl) ?_
  have hw3 : EnvX w1 _ [(g, Obj.cells (arrB 32 root) 29 (0, 0)), (w.heap.size, Obj.cells (arrB 32 root) 29 (0, 0))] := he2.choose_spec
  have hone := @EnvC.one _ _ _ hw3
  (refine wpG_call (f := 13) (args := #[.slice (some ⟨g, 0, none⟩) 1 1]) (v := idv root) rfl rfl rfl Tryd.func13 rfl rfl (fun u hu => HRT.out u g (EnvX.sub hu (fun _ h => by cases h)) (EnvX.row hu (List.Mem.head _))) ?_ hw3; intro K hK; go_big_quiet_op; go_big_quiet_on)
  (refine wpG_val (v := .bool false) rfl rfl (fun u hu => neqb_op HR.out.1 HR.out.1 HEQ.out u rfl rfl) ?_ hw3; intro K hK; go_big_quiet_op; go_big_quiet_on)
  (refine wpG_op rfl rfl rfl ?_; intro K hK; go_big_quiet_op; go_big_quiet_on)
  (refine wpG_op rfl rfl rfl ?_; intro K hK; go_big_quiet_op; go_big_quiet_on)
  (refine wpG_val (v := idv root) rfl rfl (fun u hu => load_run_op u (box_load hu (List.Mem.tail _ (List.Mem.head _)) HR.out.1) rfl) ?_ hw3; intro K hK; go_big_quiet_op; go_big_quiet_on)
  (refine wpG_val (v := idv root) rfl rfl (fun u hu => load_run_op u (box_load hu (List.Mem.tail _ (List.Mem.head _)) HR.out.1) rfl) ?_ hw3; intro K hK; go_big_quiet_op; go_big_quiet_on)
  (refine wpG_call (f := 17) (args := #[idv root, .int .i64 1, .int .i64 0, idv root, .slice none 0 0]) (v := .bool true) rfl rfl rfl Tryd.func17 rfl rfl (fun u hu => HC1.out u (EnvX.sub hu (fun _ h => by cases h))) ?_ hw3; intro K hK; go_big_quiet_op; go_big_quiet_on)
  (refine wpG_op rfl rfl rfl ?_; intro K hK; go_big_quiet_op; go_big_quiet_on)
  (refine wpG_op rfl rfl rfl ?_; intro K hK; go_big_quiet_op; go_big_quiet_on)
  clear hone hw3
  refine wpG_nil ?_
  refine anyH_done (by kernel_rfl) ?_
  intro u5 E2'
  have EX4 := Lib.hid E2'
  clear E2'
  have EU : Hid (EnvX w1 u5 [(w.heap.size, Obj.cells (arrB 32 root) 29 (0, 0))]) := EnvX.sub EX4.out (fun x h => List.mem_cons_of_mem _ h)
  clear EX4 E1
  go_upto_region 9 with (fail)
  generalize u5 = U at *
  go_loopw [13, 14] (fun v j u => ∃ e : Nat, e ≤ 5 ∧ v = .int .i64 ((2 ^ e : Nat) : Int) ∧ j = .int .i64 e ∧ u = U) (fun _ j _ => 5 - (intOf j).toNat)
  case atStart => exact ⟨0, by omega, rfl, rfl, rfl⟩
  case round =>
    obtain ⟨e, he, rfl, rfl, rfl⟩ := hrel
    obtain ⟨P, hP0⟩ : ∃ P, 2 ^ e = P := ⟨_, rfl⟩
    have hP : Hid (P = 2 ^ e) := hP0.symm
    have h32 : P < 32 ↔ e < 5 := by
      rw [← hP0]
      exact Nat.pow_lt_pow_iff_right (a := 2) (n := e) (m := 5) (by decide)
    have hle : P ≤ 32 := by
      rw [← hP0]
      have := Nat.pow_le_pow_right (show 0 < 2 by decide) he
      omega
    have hps : Hid (2 ^ (e + 1) = 2 * P) := by show _ = _; rw [Nat.pow_succ, hP0, Nat.mul_comm]
    rw [hP0]
    clear hP0
    by_cases hek : (e : Int) < k
    · by_cases hp : P < 32
      · have hp2 : (P : Int) < 32 := by omega
        have he5 : e < 5 := h32.1 hp
        go_wp2
        go_roundw
        case rel => exact ⟨e + 1, by omega, by rw [hps.out]; go_num, by go_num, trivial⟩
        case measure => simp [intOf]; omega
      · have hp2 : ¬ (P : Int) < 32 := by omega
        go_upto_region 12 with (fail)
        by_cases c1 : n < P
        · have c1' : (n : Int) < (P : Int) := by omega
          go_wp2
          go_ret
          exact ⟨rfl, HB1.out.trans ((EnvX.bel EU.out).mono HB1.out.size)⟩
        · have c1' : ¬ (n : Int) < (P : Int) := by omega
          by_cases c2 : 2 * P < n
          · have c2' : 2 * (P : Int) < (n : Int) := by omega
            go_wp2
            go_ret
            exact ⟨rfl, HB1.out.trans ((EnvX.bel EU.out).mono HB1.out.size)⟩
          · have c2' : ¬ 2 * (P : Int) < (n : Int) := by omega
            by_cases c3 : n = P
            · have c3' : (n : Int) = (P : Int) := by omega
              go_wp2
              go_ret
              exact ⟨rfl, HB1.out.trans ((EnvX.bel EU.out).mono HB1.out.size)⟩
            · have c3' : ¬ (n : Int) = (P : Int) := by omega
              omega
    · go_upto_region 12 with (fail)
      by_cases c1 : n < P
      · have c1' : (n : Int) < (P : Int) := by omega
        go_wp2
        go_ret
        exact ⟨rfl, HB1.out.trans ((EnvX.bel EU.out).mono HB1.out.size)⟩
      · have c1' : ¬ (n : Int) < (P : Int) := by omega
        by_cases c2 : 2 * P < n
        · have c2' : 2 * (P : Int) < (n : Int) := by omega
          go_wp2
          go_ret
          exact ⟨rfl, HB1.out.trans ((EnvX.bel EU.out).mono HB1.out.size)⟩
        · have c2' : ¬ 2 * (P : Int) < (n : Int) := by omega
          by_cases c3 : n = P
          · have c3' : (n : Int) = (P : Int) := by omega
            go_wp2
            go_ret
            exact ⟨rfl, HB1.out.trans ((EnvX.bel EU.out).mono HB1.out.size)⟩
          · have c3' : ¬ (n : Int) = (P : Int) := by omega
            have HRH : Hid (rootT l = nodeT (rootT (l.take P)) (rootT (l.drop P))) := by
              show _ = _
              rw [hP.out]
              exact root_halves (by rw [HL.out, ← hP.out]; omega) (by rw [HL.out, ← hP.out]; omega)
            have l1 : (l.take P).length = P := by rw [List.length_take, HL.out]; omega
            have l2 : (l.drop P).length = n - P := by rw [List.length_drop, HL.out]
            have HR0 : Hid (∀ u, EnvX w1 u [] → Calls Tryd.prog 13 #[.slice A n c] u fun e w' => e = .returned (idv (rootT l)) ∧ Below u.heap.size u w') := fun u hu => HTREE.out.root l A n c u HL.out (by omega) hnc (by unfold maxLen; omega) HI.out.1 (HA1.out.up (EnvX.bel hu)) (HT1.out.below (EnvX.bel hu))
            have HR1 : Hid (∀ u, EnvX w1 u [] → Calls Tryd.prog 13 #[.slice A P c] u fun e w' => e = .returned (idv (rootT (l.take P))) ∧ Below u.heap.size u w') := fun u hu => HTREE.out.root (l.take P) A P c u l1 (by omega) (by omega) (by unfold maxLen; omega) (HI.out.1.take _) ((HA1.out.take HI.out.1 _).up (EnvX.bel hu)) (HT1.out.below (EnvX.bel hu))
            have HR2 : Hid (∀ u, EnvX w1 u [] → Calls Tryd.prog 13 #[.slice (cutI' A P c) (n - P) (c - P)] u fun e w' => e = .returned (idv (rootT (l.drop P))) ∧ Below u.heap.size u w') := fun u hu => HTREE.out.root (l.drop P) (cutI' A P c) (n - P) (c - P) u l2 (by omega) (by omega) (by unfold maxLen; omega) (HI.out.1.drop _) ((HA1.out.drop HI.out.1 _ c (by rw [HL.out]; omega)).up (EnvX.bel hu)) (HT1.out.below (EnvX.bel hu))
            have HRI := Lib.hid (root_id HI.out.1)
            have HND : Hid (∀ u, EnvX w1 u [] → Calls Tryd.prog 19 #[idv (rootT (l.take P)), idv (rootT (l.drop P))] u fun e w' => e = .returned (idv (rootT l)) ∧ Below u.heap.size u w') := fun u hu => by
              rw [HRH.out]
              exact HTREE.out.node _ _ u (root_id (HI.out.1.take _)) (root_id (HI.out.1.drop _)) (HT1.out.below (EnvX.bel hu))
            have HPC : Hid (P ≤ c) := by show _ ≤ _; omega
            have HPN : Hid (P ≤ n) := by show _ ≤ _; omega
            have HER : Hid (eqL (rootT l) (rootT l) = true) := by show _ = _; simp [eqL]
            clear l1 l2
            go_upto_region 14 with (fail)
            refine wp_region_H (w0 := w1) [(w.heap.size, Obj.cells (arrB 32 root) 29 (0, 0))] (by kernel_rfl) EU.out ?_
            refine anyH_phase [0, 1, 2, 3, 4, 5, 6, 7, 8, 9, 10, 11, 12] 0 rfl ⟨_, (EnvX.drew EU.out)⟩ (by kernel_rfl) ?_
            have hw36 : EnvX w1 _ [(w.heap.size, Obj.cells (arrB 32 root) 29 (0, 0))] := (EnvX.drew EU.out)
            have hone := @EnvC.one _ _ _ hw36
            (refine wpG_op rfl rfl rfl ?_; intro K hK; go_big_quiet_op; go_big_quiet_on)
            (refine wpG_call (f := 13) (args := #[.slice A n c]) (v := idv (rootT l)) rfl rfl rfl Tryd.func13 rfl rfl (fun u hu => HR0.out u (EnvX.sub hu (fun _ h => by cases h))) ?_ hw36; intro K hK; go_big_quiet_op; go_big_quiet_on)
            (refine wpG_op rfl rfl rfl ?_; intro K hK; go_big_quiet_op; go_big_quiet_on)
            (refine wpG_op rfl rfl rfl ?_; intro K hK; go_big_quiet_op; go_big_quiet_on)
            (refine wpG_val (v := .slice A P c) rfl rfl (fun u hu => cutIh_op u HPC.out rfl rfl) ?_ hw36; intro K hK; go_big_quiet_op; go_big_quiet_on)
            (refine wpG_call (f := 13) (args := #[.slice A P c]) (v := idv (rootT (l.take P))) rfl rfl rfl Tryd.func13 rfl rfl (fun u hu => HR1.out u (EnvX.sub hu (fun _ h => by cases h))) ?_ hw36; intro K hK; go_big_quiet_op; go_big_quiet_on)
            (refine wpG_op rfl rfl rfl ?_; intro K hK; go_big_quiet_op; go_big_quiet_on)
            (refine wpG_op rfl rfl rfl ?_; intro K hK; go_big_quiet_op; go_big_quiet_on)
            (refine wpG_val (v := (.slice (cutI' A P c) (n - P) (c - P))) rfl rfl (fun u hu => cutIl_op u HPN.out rfl rfl) ?_ hw36; intro K hK; go_big_quiet_op; go_big_quiet_on)
            (refine wpG_call (f := 13) (args := #[(.slice (cutI' A P c) (n - P) (c - P))]) (v := idv (rootT (l.drop P))) rfl rfl rfl Tryd.func13 rfl rfl (fun u hu => HR2.out u (EnvX.sub hu (fun _ h => by cases h))) ?_ hw36; intro K hK; go_big_quiet_op; go_big_quiet_on)
            (refine wpG_call (f := 19) (args := #[idv (rootT (l.take P)), idv (rootT (l.drop P))]) (v := idv (rootT l)) rfl rfl rfl Tryd.func19 rfl rfl (fun u hu => HND.out u (EnvX.sub hu (fun _ h => by cases h))) ?_ hw36; intro K hK; go_big_quiet_op; go_big_quiet_on)
            (refine wpG_val (v := .bool true) rfl rfl (fun u hu => eqlb_op HRI.out.1 HRI.out.1 HER.out u rfl rfl) ?_ hw36; intro K hK; go_big_quiet_op; go_big_quiet_on)
            (refine wpG_op rfl rfl rfl ?_; intro K hK; go_big_quiet_op; go_big_quiet_on)
            clear hone hw36
            refine wpG_nil ?_
            refine anyH_done (by kernel_rfl) ?_
            intro u38 E2'
            have EX37 := Lib.hid E2'
            clear E2'
            go_wp2
            go_ret
            exact ⟨rfl, HB1.out.trans ((EnvX.bel EX37.out).mono HB1.out.size)⟩
set_option maxRecDepth 20000 in
set_option maxHeartbeats 4000000 in
theorem law_halves_5 (T : TreeC) (l : List (List Int)) (A : Option Addr) (n c : Nat) (k : Int) (root : List Int) (m i : Int) (w : World)
    (hr : isId root) (hl : l.length = n) (hnc : n ≤ c) (hcm : c ≤ maxLen) (hI : isIds l) (hA : IdsIn w w.heap.size A l) (hk : I64 k) (hm : I64 m) (hi : I64 i) (ht : Tables w) (hn : n ≤ 32) (c0 : ¬ m < 1 ∧ ¬ 64 < m ∧ ¬ i < 0 ∧ ¬ m ≤ i) :
    Calls Tryd.prog 6 #[.slice A n c, .int .i64 k, idv root, .int .i64 m, .int .i64 i] w fun e w' => e = .returned (.bool true) ∧ Below w.heap.size w w' := by
  obtain ⟨c00, c01, c02, c03⟩ := c0
  unfold I64 at hk hm hi
  unfold maxLen at hcm
  have HAW := Lib.hid (awake_any T (w.alloc (.cells (arrB 32 root) 29)) (ht.below ((Below.refl _ _).alloc (Nat.le_refl _) _)))
  have E0 : Hid (EnvX w (w.alloc (.cells (arrB 32 root) 29)) [(w.heap.size, Obj.cells (arrB 32 root) 29 (0, 0))]) := (EnvX.start w).new _
  have HT := Lib.hid ht
  have HTREE := Lib.hid T
  have HR := Lib.hid hr
  have HL := Lib.hid hl
  have HI := Lib.hid (And.intro hI hA)
  clear ht T hr hl hI hA
  unfold idv
  go_enter Tryd.func6, Tryd.ntmps6
  go_upto_region 1 with (fail)
  generalize w.alloc (.cells (arrB 32 root) 29) = W at *
  go_wp2_with fail
  refine HAW.out.mono ?_
  rintro e w1 ⟨rfl, hb1⟩
  have HB1 := Lib.hid (EnvX.below E0.out hb1).bel
  have E1 : Hid (EnvX w1 w1 [(w.heap.size, Obj.cells (arrB 32 root) 29 (0, 0))]) := ⟨Below.refl _ _, (EnvX.below E0.out hb1).box⟩
  have HT1 := Lib.hid (HT.out.below HB1.out)
  have HA1 := Lib.hid (HI.out.2.up HB1.out)
  clear hb1 E0 HAW
  have h1 : ¬ (32 : Int) < (n : Int) := by omega
  have HEQ : Hid ((!eqL root root) = false) := by show _ = _; simp [eqL]
  have HC1 : Hid (∀ u, EnvX w1 u [] → Calls Tryd.prog 17 #[idv root, .int .i64 1, .int .i64 0, idv root, .slice none 0 0] u fun e w' => e = .returned (.bool true) ∧ Below u.heap.size u w') := fun u hu => by
    have h := HTREE.out.check root root 1 0 [] none 0 0 u HR.out HR.out ⟨by omega, by omega⟩ ⟨by omega, by omega⟩ rfl (by omega) (by omega) (by decide) (fun x h => by cases h) (Bytes.nil _ _ _) (HT1.out.below (EnvX.bel hu))
    have e : checkT root 1 0 root [] = true := by
      unfold checkT
      simp only [decide_eq_true_eq]
      exact ⟨by omega, by omega, by omega, by omega, rfl, rfl⟩
    rwa [e] at h
  have HRT : Hid (∀ u g, EnvX w1 u [] → Row u g 29 (arrB 32 root) → Calls Tryd.prog 13 #[.slice (some ⟨g, 0, none⟩) 1 1] u fun e w' => e = .returned (idv root) ∧ Below u.heap.size u w') := fun u g hu h =>
    HTREE.out.root [root] (some ⟨g, 0, none⟩) 1 1 u rfl (by omega) (by omega) (by decide) (fun x h => by cases List.mem_singleton.1 h; exact HR.out) (by show Bytes _ _ _ _; simpa using row_id HR.out.1 h) (HT1.out.below (EnvX.bel hu))
  go_upto_region 5 with (fail)
  rw [show (decide (m < 1) || decide (64 < m) || decide (i < 0) || decide (m ≤ i)) = false by simp only [Bool.or_eq_false_iff, decide_eq_false_iff_not]; omega]
  refine wp_region_H (w0 := w1) [(w.heap.size, Obj.cells (arrB 32 root) 29 (0, 0))] (by kernel_rfl) E1.out ?_
  refine anyH_phase [0, 1, 2, 3, 4, 5, 6, 7, 8, 9, 12] 10 rfl ⟨_, (EnvX.drew E1.out)⟩ (by kernel_rfl) ?_
  have hw1 : EnvX w1 _ [(w.heap.size, Obj.cells (arrB 32 root) 29 (0, 0))] := (EnvX.drew E1.out)
  have hone := @EnvC.one _ _ _ hw1
  (refine wpG_op rfl rfl rfl ?_; intro K hK; go_big_quiet_op; go_big_quiet_on)
  (refine wpG_op rfl rfl rfl ?_; intro K hK; go_big_quiet_op; go_big_quiet_on)
  (refine wpG_skip rfl rfl ?_ hw1; intro K hK; go_big_quiet_op; go_big_quiet_on)
  (refine wpG_skip rfl rfl ?_ hw1; intro K hK; go_big_quiet_op; go_big_quiet_on)
  (refine wpG_skip rfl rfl ?_ hw1; intro K hK; go_big_quiet_op; go_big_quiet_on)
  (refine wpG_skip rfl rfl ?_ hw1; intro K hK; go_big_quiet_op; go_big_quiet_on)
  (refine wpG_skip rfl rfl ?_ hw1; intro K hK; go_big_quiet_op; go_big_quiet_on)
  (refine wpG_op rfl rfl rfl ?_; intro K hK; go_big_quiet_op; go_big_quiet_on)
  (refine wpG_op rfl rfl rfl ?_; intro K hK; go_big_quiet_op; go_big_quiet_on)
  (refine wpG_val (v := idv root) rfl rfl (fun u hu => load_run_op u (box_load hu (List.Mem.head _) HR.out.1) rfl) ?_ hw1; intro K hK; go_big_quiet_op; go_big_quiet_on)
  (refine wpG_val (v := idv root) rfl rfl (fun u hu => load_run_op u (box_load hu (List.Mem.head _) HR.out.1) rfl) ?_ hw1; intro K hK; go_big_quiet_op; go_big_quiet_on)
  clear hone hw1
  refine wpG_nil ?_
  refine anyH_one (i := 10) (by kernel_rfl) (hOp_freshG (R := BuiltI root) (M0 := [(w.heap.size, Obj.cells (arrB 32 root) 29 (0, 0))]) rfl rfl rfl (fun _ h => h) (fun u hu => FAt_buildI HR.out.1 rfl u) ?_)
  rintro x N ⟨g, rfl, rfl⟩ hf he2; intro K' hK'; go_big_quiet_op; go_big_quiet_on
  clear hf
  change anyH _ _ _ _ _ _ _ _ [(g, Obj.cells (arrB 32 root) 29 (0, 0)), (w.heap.size, Obj.cells (arrB 32 root) 29 (0, 0))]
  refine anyH_phase [11, 13, 14, 15, 16, 17, 18, 19, 20] 0 rfl ⟨_, he2.choose_spec⟩ (by kernel_rfl) ?_
  have hw3 : EnvX w1 _ [(g, Obj.cells (arrB 32 root) 29 (0, 0)), (w.heap.size, Obj.cells (arrB 32 root) 29 (0, 0))] := he2.choose_spec
  have hone := @EnvC.one _ _ _ hw3
  (refine wpG_call (f := 13) (args := #[.slice (some ⟨g, 0, none⟩) 1 1]) (v := idv root) rfl rfl rfl Tryd.func13 rfl rfl (fun u hu => HRT.out u g (EnvX.sub hu (fun _ h => by cases h)) (EnvX.row hu (List.Mem.head _))) ?_ hw3; intro K hK; go_big_quiet_op; go_big_quiet_on)
  (refine wpG_val (v := .bool false) rfl rfl (fun u hu => neqb_op HR.out.1 HR.out.1 HEQ.out u rfl rfl) ?_ hw3; intro K hK; go_big_quiet_op; go_big_quiet_on)
  (refine wpG_op rfl rfl rfl ?_; intro K hK; go_big_quiet_op; go_big_quiet_on)
  (refine wpG_op rfl rfl rfl ?_; intro K hK; go_big_quiet_op; go_big_quiet_on)
  (refine wpG_val (v := idv root) rfl rfl (fun u hu => load_run_op u (box_load hu (List.Mem.tail _ (List.Mem.head _)) HR.out.1) rfl) ?_ hw3; intro K hK; go_big_quiet_op; go_big_quiet_on)
  (refine wpG_val (v := idv root) rfl rfl (fun u hu => load_run_op u (box_load hu (List.Mem.tail _ (List.Mem.head _)) HR.out.1) rfl) ?_ hw3; intro K hK; go_big_quiet_op; go_big_quiet_on)
  (refine wpG_call (f := 17) (args := #[idv root, .int .i64 1, .int .i64 0, idv root, .slice none 0 0]) (v := .bool true) rfl rfl rfl Tryd.func17 rfl rfl (fun u hu => HC1.out u (EnvX.sub hu (fun _ h => by cases h))) ?_ hw3; intro K hK; go_big_quiet_op; go_big_quiet_on)
  (refine wpG_op rfl rfl rfl ?_; intro K hK; go_big_quiet_op; go_big_quiet_on)
  (refine wpG_op rfl rfl rfl ?_; intro K hK; go_big_quiet_op; go_big_quiet_on)
  clear hone hw3
  refine wpG_nil ?_
  refine anyH_done (by kernel_rfl) ?_
  intro u5 E2'
  have EX4 := Lib.hid E2'
  clear E2'
  have EU : Hid (EnvX w1 u5 [(w.heap.size, Obj.cells (arrB 32 root) 29 (0, 0))]) := EnvX.sub EX4.out (fun x h => List.mem_cons_of_mem _ h)
  clear EX4 E1
  go_upto_region 9 with (fail)
  generalize u5 = U at *
  go_loopw [13, 14] (fun v j u => ∃ e : Nat, e ≤ 5 ∧ v = .int .i64 ((2 ^ e : Nat) : Int) ∧ j = .int .i64 e ∧ u = U) (fun _ j _ => 5 - (intOf j).toNat)
  case atStart => exact ⟨0, by omega, rfl, rfl, rfl⟩
  case round =>
    obtain ⟨e, he, rfl, rfl, rfl⟩ := hrel
    obtain ⟨P, hP0⟩ : ∃ P, 2 ^ e = P := ⟨_, rfl⟩
    have hP : Hid (P = 2 ^ e) := hP0.symm
    have h32 : P < 32 ↔ e < 5 := by
      rw [← hP0]
      exact Nat.pow_lt_pow_iff_right (a := 2) (n := e) (m := 5) (by decide)
    have hle : P ≤ 32 := by
      rw [← hP0]
      have := Nat.pow_le_pow_right (show 0 < 2 by decide) he
      omega
    have hps : Hid (2 ^ (e + 1) = 2 * P) := by show _ = _; rw [Nat.pow_succ, hP0, Nat.mul_comm]
    rw [hP0]
    clear hP0
    by_cases hek : (e : Int) < k
    · by_cases hp : P < 32
      · have hp2 : (P : Int) < 32 := by omega
        have he5 : e < 5 := h32.1 hp
        go_wp2
        go_roundw
        case rel => exact ⟨e + 1, by omega, by rw [hps.out]; go_num, by go_num, trivial⟩
        case measure => simp [intOf]; omega
      · have hp2 : ¬ (P : Int) < 32 := by omega
        go_upto_region 12 with (fail)
        by_cases c1 : n < P
        · have c1' : (n : Int) < (P : Int) := by omega
          go_wp2
          go_ret
          exact ⟨rfl, HB1.out.trans ((EnvX.bel EU.out).mono HB1.out.size)⟩
        · have c1' : ¬ (n : Int) < (P : Int) := by omega
          by_cases c2 : 2 * P < n
          · have c2' : 2 * (P : Int) < (n : Int) := by omega
            go_wp2
            go_ret
            exact ⟨rfl, HB1.out.trans ((EnvX.bel EU.out).mono HB1.out.size)⟩
          · have c2' : ¬ 2 * (P : Int) < (n : Int) := by omega
            by_cases c3 : n = P
            · have c3' : (n : Int) = (P : Int) := by omega
              go_wp2
              go_ret
              exact ⟨rfl, HB1.out.trans ((EnvX.bel EU.out).mono HB1.out.size)⟩
            · have c3' : ¬ (n : Int) = (P : Int) := by omega
              omega
    · go_upto_region 12 with (fail)
      by_cases c1 : n < P
      · have c1' : (n : Int) < (P : Int) := by omega
        go_wp2
        go_ret
        exact ⟨rfl, HB1.out.trans ((EnvX.bel EU.out).mono HB1.out.size)⟩
      · have c1' : ¬ (n : Int) < (P : Int) := by omega
        by_cases c2 : 2 * P < n
        · have c2' : 2 * (P : Int) < (n : Int) := by omega
          go_wp2
          go_ret
          exact ⟨rfl, HB1.out.trans ((EnvX.bel EU.out).mono HB1.out.size)⟩
        · have c2' : ¬ 2 * (P : Int) < (n : Int) := by omega
          by_cases c3 : n = P
          · have c3' : (n : Int) = (P : Int) := by omega
            go_wp2
            go_ret
            exact ⟨rfl, HB1.out.trans ((EnvX.bel EU.out).mono HB1.out.size)⟩
          · have c3' : ¬ (n : Int) = (P : Int) := by omega
            have HRH : Hid (rootT l = nodeT (rootT (l.take P)) (rootT (l.drop P))) := by
              show _ = _
              rw [hP.out]
              exact root_halves (by rw [HL.out, ← hP.out]; omega) (by rw [HL.out, ← hP.out]; omega)
            have l1 : (l.take P).length = P := by rw [List.length_take, HL.out]; omega
            have l2 : (l.drop P).length = n - P := by rw [List.length_drop, HL.out]
            have HR0 : Hid (∀ u, EnvX w1 u [] → Calls Tryd.prog 13 #[.slice A n c] u fun e w' => e = .returned (idv (rootT l)) ∧ Below u.heap.size u w') := fun u hu => HTREE.out.root l A n c u HL.out (by omega) hnc (by unfold maxLen; omega) HI.out.1 (HA1.out.up (EnvX.bel hu)) (HT1.out.below (EnvX.bel hu))
            have HR1 : Hid (∀ u, EnvX w1 u [] → Calls Tryd.prog 13 #[.slice A P c] u fun e w' => e = .returned (idv (rootT (l.take P))) ∧ Below u.heap.size u w') := fun u hu => HTREE.out.root (l.take P) A P c u l1 (by omega) (by omega) (by unfold maxLen; omega) (HI.out.1.take _) ((HA1.out.take HI.out.1 _).up (EnvX.bel hu)) (HT1.out.below (EnvX.bel hu))
            have HR2 : Hid (∀ u, EnvX w1 u [] → Calls Tryd.prog 13 #[.slice (cutI' A P c) (n - P) (c - P)] u fun e w' => e = .returned (idv (rootT (l.drop P))) ∧ Below u.heap.size u w') := fun u hu => HTREE.out.root (l.drop P) (cutI' A P c) (n - P) (c - P) u l2 (by omega) (by omega) (by unfold maxLen; omega) (HI.out.1.drop _) ((HA1.out.drop HI.out.1 _ c (by rw [HL.out]; omega)).up (EnvX.bel hu)) (HT1.out.below (EnvX.bel hu))
            have HRI := Lib.hid (root_id HI.out.1)
            have HND : Hid (∀ u, EnvX w1 u [] → Calls Tryd.prog 19 #[idv (rootT (l.take P)), idv (rootT (l.drop P))] u fun e w' => e = .returned (idv (rootT l)) ∧ Below u.heap.size u w') := fun u hu => by
              rw [HRH.out]
              exact HTREE.out.node _ _ u (root_id (HI.out.1.take _)) (root_id (HI.out.1.drop _)) (HT1.out.below (EnvX.bel hu))
            have HPC : Hid (P ≤ c) := by show _ ≤ _; omega
            have HPN : Hid (P ≤ n) := by show _ ≤ _; omega
            have HER : Hid (eqL (rootT l) (rootT l) = true) := by show _ = _; simp [eqL]
            clear l1 l2
            go_upto_region 14 with (fail)
            refine wp_region_H (w0 := w1) [(w.heap.size, Obj.cells (arrB 32 root) 29 (0, 0))] (by kernel_rfl) EU.out ?_
            refine anyH_phase [0, 1, 2, 3, 4, 5, 6, 7, 8, 9, 10, 11, 12] 0 rfl ⟨_, (EnvX.drew EU.out)⟩ (by kernel_rfl) ?_
            have hw36 : EnvX w1 _ [(w.heap.size, Obj.cells (arrB 32 root) 29 (0, 0))] := (EnvX.drew EU.out)
            have hone := @EnvC.one _ _ _ hw36
            (refine wpG_op rfl rfl rfl ?_; intro K hK; go_big_quiet_op; go_big_quiet_on)
            (refine wpG_call (f := 13) (args := #[.slice A n c]) (v := idv (rootT l)) rfl rfl rfl Tryd.func13 rfl rfl (fun u hu => HR0.out u (EnvX.sub hu (fun _ h => by cases h))) ?_ hw36; intro K hK; go_big_quiet_op; go_big_quiet_on)
            (refine wpG_op rfl rfl rfl ?_; intro K hK; go_big_quiet_op; go_big_quiet_on)
            (refine wpG_op rfl rfl rfl ?_; intro K hK; go_big_quiet_op; go_big_quiet_on)
            (refine wpG_val (v := .slice A P c) rfl rfl (fun u hu => cutIh_op u HPC.out rfl rfl) ?_ hw36; intro K hK; go_big_quiet_op; go_big_quiet_on)
            (refine wpG_call (f := 13) (args := #[.slice A P c]) (v := idv (rootT (l.take P))) rfl rfl rfl Tryd.func13 rfl rfl (fun u hu => HR1.out u (EnvX.sub hu (fun _ h => by cases h))) ?_ hw36; intro K hK; go_big_quiet_op; go_big_quiet_on)
            (refine wpG_op rfl rfl rfl ?_; intro K hK; go_big_quiet_op; go_big_quiet_on)
            (refine wpG_op rfl rfl rfl ?_; intro K hK; go_big_quiet_op; go_big_quiet_on)
            (refine wpG_val (v := (.slice (cutI' A P c) (n - P) (c - P))) rfl rfl (fun u hu => cutIl_op u HPN.out rfl rfl) ?_ hw36; intro K hK; go_big_quiet_op; go_big_quiet_on)
            (refine wpG_call (f := 13) (args := #[(.slice (cutI' A P c) (n - P) (c - P))]) (v := idv (rootT (l.drop P))) rfl rfl rfl Tryd.func13 rfl rfl (fun u hu => HR2.out u (EnvX.sub hu (fun _ h => by cases h))) ?_ hw36; intro K hK; go_big_quiet_op; go_big_quiet_on)
            (refine wpG_call (f := 19) (args := #[idv (rootT (l.take P)), idv (rootT (l.drop P))]) (v := idv (rootT l)) rfl rfl rfl Tryd.func19 rfl rfl (fun u hu => HND.out u (EnvX.sub hu (fun _ h => by cases h))) ?_ hw36; intro K hK; go_big_quiet_op; go_big_quiet_on)
            (refine wpG_val (v := .bool true) rfl rfl (fun u hu => eqlb_op HRI.out.1 HRI.out.1 HER.out u rfl rfl) ?_ hw36; intro K hK; go_big_quiet_op; go_big_quiet_on)
            (refine wpG_op rfl rfl rfl ?_; intro K hK; go_big_quiet_op; go_big_quiet_on)
            clear hone hw36
            refine wpG_nil ?_
            refine anyH_done (by kernel_rfl) ?_
            intro u38 E2'
            have EX37 := Lib.hid E2'
            clear E2'
            go_wp2
            go_ret
            exact ⟨rfl, HB1.out.trans ((EnvX.bel EX37.out).mono HB1.out.size)⟩
theorem law_halves (T : TreeC) (l : List (List Int)) (A : Option Addr) (n c : Nat) (k : Int) (root : List Int) (m i : Int) (w : World)
    (hr : isId root) (hl : l.length = n) (hnc : n ≤ c) (hcm : c ≤ maxLen) (hI : isIds l) (hA : IdsIn w w.heap.size A l) (hk : I64 k) (hm : I64 m) (hi : I64 i) (ht : Tables w) :
    Calls Tryd.prog 6 #[.slice A n c, .int .i64 k, idv root, .int .i64 m, .int .i64 i] w fun e w' => e = .returned (.bool true) ∧ Below w.heap.size w w' := by
  by_cases hn : n ≤ 32
  · by_cases c1 : m < 1
    · exact law_halves_1 T l A n c k root m i w hr hl hnc hcm hI hA hk hm hi ht hn c1
    · by_cases c2 : 64 < m
      · exact law_halves_2 T l A n c k root m i w hr hl hnc hcm hI hA hk hm hi ht hn c2
      · by_cases c3 : i < 0
        · exact law_halves_3 T l A n c k root m i w hr hl hnc hcm hI hA hk hm hi ht hn ⟨c1, c2, c3⟩
        · by_cases c4 : m ≤ i
          · exact law_halves_4 T l A n c k root m i w hr hl hnc hcm hI hA hk hm hi ht hn ⟨c1, c2, c3, c4⟩
          · exact law_halves_5 T l A n c k root m i w hr hl hnc hcm hI hA hk hm hi ht hn ⟨c1, c2, c3, c4⟩
  · exact law_halves_big T l A n c k root m i w hr hl hnc hcm hI hA hk hm hi ht hn
end Go.Proofs.YtgiacilkecoenaaDoor

/-
  PROVED: the law stepladderlaw05.TreeHalves answers true for every input, and leaves its arguments as they were.
  Conditions: the two package-level tables of package sha hold at the call what their initialisers lay; the card ties that to the text of the program (a pruned copy of the project: the packages that the roots of this seat load).
-/
namespace Go.Proofs.YtgiacilkecoenaaDoor.treeHalves
open Go.ChangeShapes Go.WideShapes Go.ChangeAt Go.RowKit

theorem contract (H : Type) (enc : TypeId × Value → H) (W : World) (base : Nat) (args : Array Value) (ds gs : List (DataW H)) (before : List MemPlace)
    (hval : ∀ (j : Nat) t v, Tryd.f6.params[j]? = some t → args[j]? = some v → Value.okWide Tryd.prog W .any base t v)
    (hW : DataW.Whole enc Tryd.prog Tryd.f6.params.toList Rows.treeHalvesSpec.vars false W args.toList ds gs before) (hL : laidMetH Tryd.prog Rows.treeHalvesRow.laid W) :
    Calls Tryd.prog 6 args W fun e W' => ∃ v, e = .returned v ∧ Rows.treeHalvesSpec.post enc Tryd.prog Tryd.f6 false true false false W args v W' := by
  have hW' := hW
  obtain ⟨p, q, hA0, hV, rfl, hfz, hnd⟩ := hW
  have hA : DataW.TrodAll enc Tryd.prog W 0 (fun _ => true) true Tryd.f6.params.toList args.toList ds p := hA0
  rw [Tryd.params6] at hA hval
  obtain ⟨v0, vs0, d0, ds0, p0, q0, hargs, rfl, rfl, h0, r0⟩ := trodAll_cons hA
  obtain ⟨v1, vs1, d1, ds1, p1, q1, rfl, rfl, rfl, h1, r1⟩ := trodAll_cons r0
  obtain ⟨v2, vs2, d2, ds2, p2, q2, rfl, rfl, rfl, h2, r2⟩ := trodAll_cons r1
  obtain ⟨v3, vs3, d3, ds3, p3, q3, rfl, rfl, rfl, h3, r3⟩ := trodAll_cons r2
  obtain ⟨v4, vs4, d4, ds4, p4, q4, rfl, rfl, rfl, h4, r4⟩ := trodAll_cons r3
  obtain ⟨rfl, rfl, rfl⟩ := trodAll_nil r4
  obtain rfl : args = #[v0, v1, v2, v3, v4] := by cases args; simp_all
  obtain ⟨rfl, rfl⟩ := trodVars_none hV
  have lt0 : ∀ x ∈ p0, x.block < W.heap.size := by obtain ⟨m, hm⟩ := h0; exact DataW.trod_lt m _ _ _ hm
  obtain ⟨a0, n0, c0, x0, rfl, lx0, nc0, cm0, ix0, px0⟩ := open_ids (hval 0 22 v0 rfl rfl) h0
  obtain ⟨x1, rfl, rfl, rfl, wx1⟩ := open_int Tryd.underlying3 (hval 1 3 v1 rfl rfl) h1
  have lt2 : ∀ x ∈ p2, x.block < W.heap.size := by obtain ⟨m, hm⟩ := h2; exact DataW.trod_lt m _ _ _ hm
  obtain ⟨x2, rfl, lx2, rx2⟩ := open_id (hval 2 29 v2 rfl rfl) h2
  obtain ⟨x3, rfl, rfl, rfl, wx3⟩ := open_int Tryd.underlying3 (hval 3 3 v3 rfl rfl) h3
  obtain ⟨x4, rfl, rfl, rfl, wx4⟩ := open_int Tryd.underlying3 (hval 4 3 v4 rfl rfl) h4
  clear hA0
  refine (law_halves treeC x0 a0 n0 c0 x1 x2 x3 x4 W ⟨lx2, rx2⟩ lx0 nc0 cm0 ix0 px0 (bounds_i64 wx1) (bounds_i64 wx3) (bounds_i64 wx4) (tables_of_laid hL)).mono fun e W' ⟨he, bel⟩ => ?_
  subst he
  exact ⟨_, rfl, _, _, _, [], _, [], hW', trodAll_mk1 (shut_bool Tryd.underlying4 _), (trodAll_cons_mk (Below.trod laidOut (by kernel_rfl) (of_decide_eq_true (by kernel_rfl)) h0 bel lt0) (trodAll_cons_mk (shut_int Tryd.underlying3 wx1) (trodAll_cons_mk (Below.trod laidOut (by kernel_rfl) (of_decide_eq_true (by kernel_rfl)) h2 bel lt2) (trodAll_cons_mk (shut_int Tryd.underlying3 wx3) (trodAll_cons_mk (shut_int Tryd.underlying3 wx4) trodAll_mk0))))), rfl, bel.frame _, fun h => by cases h⟩

def start : Array Value := #[.slice none 0 0, .int .i64 0, zeroId, .int .i64 0, .int .i64 0]
theorem reads (os : Os) {H : Type} (enc : TypeId × Value → H) : ∃ places, DataW.whole enc Tryd.prog ((laidWorld os).forCall (fun _ _ => 0) ⟨#[], start, []⟩).memory Tryd.f6.params.toList Rows.treeHalvesSpec.vars false start.toList 8 = some ([.nil, .lit (.int .i64 0), zeroD, .lit (.int .i64 0), .lit (.int .i64 0)], [], places) :=
  ⟨[], by kernel_rfl⟩

set_option maxRecDepth 100000 in
theorem lifted (os : Os) (started : os.Started) (H : Type) (enc : TypeId × Value → H) (F : Stop.Interp) :
    ReturnsInHanded {} Tryd.checked os 6 .any ((OpenSpec.ofChange Rows.treeHalvesSpec).preRow enc Tryd.prog Tryd.f6 Rows.treeHalvesRow.domain false Rows.treeHalvesRow.laid) (((OpenSpec.ofChange Rows.treeHalvesSpec).at F).post enc Tryd.prog Tryd.f6 false true false false) := by
  obtain ⟨places, hx⟩ := reads os enc
  refine returnsInHanded_of_row (C := Tryd.checked) (s := OpenSpec.ofChange Rows.treeHalvesSpec) own started (by kernel_rfl) Tryd.func6
    (witness_row_at (enc := enc) (C := Tryd.checked) false (laidWorld os) start rfl (by kernel_rfl) (by kernel_rfl) (by kernel_rfl)
      (OpenSpec.preRow_of_cond 8 hx (by kernel_rfl) (fun k hk => by cases hk) (by kernel_rfl) (laidMet_of_run' 8 (by kernel_rfl) (by kernel_rfl)))) ?_
  intro W base args ds gs before hval hW _ _ _ hL _ _
  exact contract H enc W base args ds gs before hval hW hL

theorem said : Rows.TreeHalvesSaid :=
  OpenClaim.holds_of_cond 6 Tryd.f6 rfl rfl rfl rfl rfl rfl rfl ⟨rfl, rfl, rfl, rfl, rfl⟩ rfl rfl rfl rfl rfl (by kernel_rfl) Tryd.func6 (by kernel_rfl)
    (of_decide_eq_true (by kernel_rfl)) (by unfold Func.isWrapper; first | (rw [if_pos (by decide +kernel)]; kernel_rfl) | (rw [if_neg (by decide +kernel)]; exact ⟨rfl, rfl⟩))
    (fun os started H enc _ F => by rw [OpenClaim.pre_eq_preRow]; exact lifted os started H enc F)

theorem plain (f : FuncId) (fn : Func) (hf : Tryd.pinned.checked.prog.funcNamed "stepladder/stepladderlaw05.TreeHalves" = some f) (hfn : Tryd.pinned.checked.prog.funcs[f]? = some fn) :
    false = Tryd.pinned.checked.prog.looks [] ∧ ∀ (j : Nat) t, fn.params[j]? = some t → Tryd.pinned.checked.prog.wantsStandIn t = false := by
  obtain rfl : f = 6 := Option.some.inj ((show Tryd.prog.funcNamed "stepladder/stepladderlaw05.TreeHalves" = some 6 by kernel_rfl).symm.trans hf) |>.symm
  obtain rfl : fn = Tryd.f6 := (Option.some.inj (Tryd.func6.symm.trans hfn)).symm
  refine ⟨by kernel_rfl, fun j t ht => ?_⟩
  rw [Tryd.params6] at ht
  have hm : t = 22 ∨ t = 3 ∨ t = 29 ∨ t = 3 ∨ t = 3 := by simpa using Array.mem_of_getElem? ht
  rcases hm with rfl | rfl | rfl | rfl | rfl
  · exact (show Tryd.prog.wantsStandIn 22 = false by kernel_rfl)
  · exact (show Tryd.prog.wantsStandIn 3 = false by kernel_rfl)
  · exact (show Tryd.prog.wantsStandIn 29 = false by kernel_rfl)
  · exact (show Tryd.prog.wantsStandIn 3 = false by kernel_rfl)
  · exact (show Tryd.prog.wantsStandIn 3 = false by kernel_rfl)
theorem card : Rows.TreeHalvesCardSaid :=
  Claim7.holds_tied_plain_at .later [] _ _ _ _ said (fun _ h => by cases h) (by kernel_rfl) (fun _ h => by cases h) treeHalves_row_tie rfl ⟨rfl, rfl⟩ (by kernel_rfl) rfl plain (by kernel_rfl)

end Go.Proofs.YtgiacilkecoenaaDoor.treeHalves
