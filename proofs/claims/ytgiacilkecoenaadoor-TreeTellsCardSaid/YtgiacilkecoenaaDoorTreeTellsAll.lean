/-
  PROVED: the law stepladderlaw05.TreeTells answers true for every input, and leaves its arguments as they were.
  Conditions: the two package-level tables of package sha hold at the call what their initialisers lay; the card ties that to the text of the program (a pruned copy of the project: the packages that the roots of this seat load).
-/
import Derived.Test.YtgiacilkecoenaaDoorCq
namespace Go.Proofs.YtgiacilkecoenaaDoor
open Go.RowKit

theorem size_id : (Tryd.prog.info? 29).map (·.size) = some 32 := by kernel_rfl
theorem pathR_facts {l : List (List Int)} (hI : isIds l) (i : Int) : isIds (pathR l i).1 ∧ (pathR l i).1.length ≤ 64 := by
  unfold pathR
  by_cases h : 0 ≤ i ∧ i < l.length ∧ l.length ≤ 64
  · rw [if_pos h]
    refine ⟨path_ids _ l _ rfl hI, ?_⟩
    show (pathT l _).length ≤ 64
    rw [path_len _ l _ rfl]
    exact Nat.le_trans (sides_le 6 l.length _ (by omega)) (by omega)
  · rw [if_neg h]
    exact ⟨fun x hx => (by cases hx), Nat.zero_le _⟩
section
variable {a : Act} {dst : Option Tmp} {x y : Operand} {ty : TypeId} {pos : String} {after : Array Edge} {gd : Option (Nat × Bool)}
theorem neqB_op {b : Bool} (u : World) (hx : a.eval x = .bool b) (hy : a.eval y = .bool b) :
    (execOp a.eval ⟨dst, .binOp .neq 4 x y 4, ty, pos, after, gd⟩).run Tryd.prog u = .ok (.value (.bool false)) u := by
  unfold execOp
  simp only [hx, hy]
  cases b <;> go_simp
theorem eqlB_op {b : Bool} (u : World) (hx : a.eval x = .bool b) (hy : a.eval y = .bool b) :
    (execOp a.eval ⟨dst, .binOp .eql 4 x y 4, ty, pos, after, gd⟩).run Tryd.prog u = .ok (.value (.bool true)) u := by
  unfold execOp
  simp only [hx, hy]
  cases b <;> go_simp
end
set_option maxHeartbeats 1000000 in
theorem law_tells_a (T : TreeC) (l q : List (List Int)) (xs : List Int) (A A2 A3 : Option Addr) (n c m c2 k c3 : Nat) (i x : Int) (w : World)
    (hl : l.length = n) (hq : q.length = m) (hk : xs.length = k) (hnc : n ≤ c) (hcm : c ≤ maxLen) (hmc : m ≤ c2) (hc2 : c2 ≤ maxLen) (hI : isIds l) (hA : IdsIn w w.heap.size A l) (hJ : isIds q) (hA2 : IdsIn w w.heap.size A2 q) (hB : Bytes w w.heap.size A3 xs) (hb : ∀ x ∈ xs, 0 ≤ x ∧ x ≤ 255) (hi : I64 i) (hx : I64 x) (ht : Tables w) (g0 : 70 < n) :
    Calls Tryd.prog 3 #[.slice A n c, .int .i64 i, .int .i64 x, .slice A2 m c2, .slice A3 k c3] w fun e w' => e = .returned (.bool true) ∧ Below w.heap.size w w' := by
  have g0' : (70 : Int) < (n : Int) := by omega
  unfold I64 at hi hx
  have HAW := Lib.hid (awake_any T w ht)
  have HT := Lib.hid ht
  have HTREE := Lib.hid T
  have HL := Lib.hid hl
  have HQ := Lib.hid hq
  have HK := Lib.hid hk
  have HI := Lib.hid (And.intro hI hA)
  have HJ := Lib.hid (And.intro hJ hA2)
  have HBY := Lib.hid (And.intro hB hb)
  have HCM := Lib.hid (And.intro hcm hc2)
  unfold maxLen at hcm hc2
  clear ht T hl hq hk hI hA hJ hA2 hB hb
  go_enter Tryd.func3, Tryd.ntmps3
  go_wp2_with fail
  refine HAW.out.mono ?_
  rintro e w1 ⟨rfl, hb1⟩
  have HB1 := Lib.hid hb1
  clear hb1 HAW
  go_wp2
  go_ret
  exact ⟨rfl, HB1.out⟩
set_option maxHeartbeats 1000000 in
theorem law_tells_b (T : TreeC) (l q : List (List Int)) (xs : List Int) (A A2 A3 : Option Addr) (n c m c2 k c3 : Nat) (i x : Int) (w : World)
    (hl : l.length = n) (hq : q.length = m) (hk : xs.length = k) (hnc : n ≤ c) (hcm : c ≤ maxLen) (hmc : m ≤ c2) (hc2 : c2 ≤ maxLen) (hI : isIds l) (hA : IdsIn w w.heap.size A l) (hJ : isIds q) (hA2 : IdsIn w w.heap.size A2 q) (hB : Bytes w w.heap.size A3 xs) (hb : ∀ x ∈ xs, 0 ≤ x ∧ x ≤ 255) (hi : I64 i) (hx : I64 x) (ht : Tables w) (g0 : n ≤ 70) (g1 : 12 < m) :
    Calls Tryd.prog 3 #[.slice A n c, .int .i64 i, .int .i64 x, .slice A2 m c2, .slice A3 k c3] w fun e w' => e = .returned (.bool true) ∧ Below w.heap.size w w' := by
  have g0' : ¬ (70 : Int) < (n : Int) := by omega
  have g1' : (12 : Int) < (m : Int) := by omega
  unfold I64 at hi hx
  have HAW := Lib.hid (awake_any T w ht)
  have HT := Lib.hid ht
  have HTREE := Lib.hid T
  have HL := Lib.hid hl
  have HQ := Lib.hid hq
  have HK := Lib.hid hk
  have HI := Lib.hid (And.intro hI hA)
  have HJ := Lib.hid (And.intro hJ hA2)
  have HBY := Lib.hid (And.intro hB hb)
  have HCM := Lib.hid (And.intro hcm hc2)
  unfold maxLen at hcm hc2
  clear ht T hl hq hk hI hA hJ hA2 hB hb
  go_enter Tryd.func3, Tryd.ntmps3
  go_wp2_with fail
  refine HAW.out.mono ?_
  rintro e w1 ⟨rfl, hb1⟩
  have HB1 := Lib.hid hb1
  clear hb1 HAW
  go_wp2
  go_ret
  exact ⟨rfl, HB1.out⟩
set_option maxHeartbeats 1000000 in
theorem law_tells_d (T : TreeC) (l q : List (List Int)) (xs : List Int) (A A2 A3 : Option Addr) (n c m c2 k c3 : Nat) (i x : Int) (w : World)
    (hl : l.length = n) (hq : q.length = m) (hk : xs.length = k) (hnc : n ≤ c) (hcm : c ≤ maxLen) (hmc : m ≤ c2) (hc2 : c2 ≤ maxLen) (hI : isIds l) (hA : IdsIn w w.heap.size A l) (hJ : isIds q) (hA2 : IdsIn w w.heap.size A2 q) (hB : Bytes w w.heap.size A3 xs) (hb : ∀ x ∈ xs, 0 ≤ x ∧ x ≤ 255) (hi : I64 i) (hx : I64 x) (ht : Tables w) (g0 : n ≤ 70) (g1 : m ≤ 12) (g2 : 200 < k) :
    Calls Tryd.prog 3 #[.slice A n c, .int .i64 i, .int .i64 x, .slice A2 m c2, .slice A3 k c3] w fun e w' => e = .returned (.bool true) ∧ Below w.heap.size w w' := by
  have g0' : ¬ (70 : Int) < (n : Int) := by omega
  have g1' : ¬ (12 : Int) < (m : Int) := by omega
  have g2' : (200 : Int) < (k : Int) := by omega
  unfold I64 at hi hx
  have HAW := Lib.hid (awake_any T w ht)
  have HT := Lib.hid ht
  have HTREE := Lib.hid T
  have HL := Lib.hid hl
  have HQ := Lib.hid hq
  have HK := Lib.hid hk
  have HI := Lib.hid (And.intro hI hA)
  have HJ := Lib.hid (And.intro hJ hA2)
  have HBY := Lib.hid (And.intro hB hb)
  have HCM := Lib.hid (And.intro hcm hc2)
  unfold maxLen at hcm hc2
  clear ht T hl hq hk hI hA hJ hA2 hB hb
  go_enter Tryd.func3, Tryd.ntmps3
  go_wp2_with fail
  refine HAW.out.mono ?_
  rintro e w1 ⟨rfl, hb1⟩
  have HB1 := Lib.hid hb1
  clear hb1 HAW
  go_wp2
  go_ret
  exact ⟨rfl, HB1.out⟩
set_option maxRecDepth 20000 in
set_option maxHeartbeats 4000000 in
theorem law_tells_e (T : TreeC) (l q : List (List Int)) (xs : List Int) (A A2 A3 : Option Addr) (n c m c2 k c3 : Nat) (i x : Int) (w : World)
    (hl : l.length = n) (hq : q.length = m) (hk : xs.length = k) (hnc : n ≤ c) (hcm : c ≤ maxLen) (hmc : m ≤ c2) (hc2 : c2 ≤ maxLen) (hI : isIds l) (hA : IdsIn w w.heap.size A l) (hJ : isIds q) (hA2 : IdsIn w w.heap.size A2 q) (hB : Bytes w w.heap.size A3 xs) (hb : ∀ x ∈ xs, 0 ≤ x ∧ x ≤ 255) (hi : I64 i) (hx : I64 x) (ht : Tables w) (g0 : n ≤ 70) (g1 : m ≤ 12) (g2 : k ≤ 200) (g3 : n = 0) :
    Calls Tryd.prog 3 #[.slice A n c, .int .i64 i, .int .i64 x, .slice A2 m c2, .slice A3 k c3] w fun e w' => e = .returned (.bool true) ∧ Below w.heap.size w w' := by
  have HG3 := Lib.hid g3
  clear g3
  have g0' : ¬ (70 : Int) < (n : Int) := by omega
  have g1' : ¬ (12 : Int) < (m : Int) := by omega
  have g2' : ¬ (200 : Int) < (k : Int) := by omega
  unfold I64 at hi hx
  have HAW := Lib.hid (awake_any T w ht)
  have HT := Lib.hid ht
  have HTREE := Lib.hid T
  have HL := Lib.hid hl
  have HQ := Lib.hid hq
  have HK := Lib.hid hk
  have HI := Lib.hid (And.intro hI hA)
  have HJ := Lib.hid (And.intro hJ hA2)
  have HBY := Lib.hid (And.intro hB hb)
  have HCM := Lib.hid (And.intro hcm hc2)
  unfold maxLen at hcm hc2
  clear ht T hl hq hk hI hA hJ hA2 hB hb
  go_enter Tryd.func3, Tryd.ntmps3
  go_wp2_with fail
  refine HAW.out.mono ?_
  rintro e w1 ⟨rfl, hb1⟩
  have HB1 := Lib.hid hb1
  clear hb1 HAW
  have HPF := Lib.hid (pathR_facts HI.out.1 i)
  have HP : Hid (Calls Tryd.prog 10 #[.slice A n c, .int .i64 i] w1 fun e w' => (∃ v, e = .returned (.tuple #[v, .bool (pathR l i).2]) ∧ OwnI w' w1.heap.size v (pathR l i).1) ∧ Below w1.heap.size w1 w') := HTREE.out.path l i A n c w1 HL.out (by omega) hnc HCM.out.1 hi HI.out.1 (HI.out.2.up HB1.out) (HT.out.below HB1.out)
  go_upto_region 4 with (fail)
  go_wp2_with fail
  refine HP.out.mono ?_
  rintro e w2 ⟨⟨v, rfl, hv⟩, hb⟩
  have HB2 := Lib.hid (HB1.out.trans (hb.mono HB1.out.size))
  obtain ⟨Av0, cv0, rfl, hv0, hm0⟩ := hv.form
  have HV0 := Lib.hid hv.ids
  have HM0 := Lib.hid (And.intro hv0 hm0)
  have HW0 := Lib.hid hb
  clear hb hv HP hv0 hm0
  have HP : Hid (Calls Tryd.prog 11 #[.slice A n c, .int .i64 i] w2 fun e w' => (∃ v, e = .returned (.tuple #[v, .bool (pathR l i).2]) ∧ OwnI w' w2.heap.size v (pathR l i).1) ∧ Below w2.heap.size w2 w') := rpath_all l i A n c w2 HL.out (by omega) hnc HCM.out.1 hi HI.out.1 (HI.out.2.up HB2.out)
  go_upto_region 5 with (fail)
  go_wp2_with fail
  refine HP.out.mono ?_
  rintro e w3 ⟨⟨v, rfl, hv⟩, hb⟩
  have HB3 := Lib.hid (HB2.out.trans (hb.mono HB2.out.size))
  obtain ⟨Av1, cv1, rfl, hv1, hm1⟩ := hv.form
  have HV1 := Lib.hid hv.ids
  have HM1 := Lib.hid (And.intro hv1 hm1)
  have HW1 := Lib.hid hb
  clear hb hv HP hv1 hm1
  obtain ⟨pp, hpp⟩ : ∃ pp, (pathR l i).1 = pp := ⟨_, rfl⟩
  obtain ⟨bb, hbb⟩ : ∃ bb, (pathR l i).2 = bb := ⟨_, rfl⟩
  rw [hpp] at HPF HV0 HV1 HM0 HM1 ⊢
  rw [hbb]
  clear hpp hbb
  obtain ⟨pn, hpn⟩ : ∃ pn, pp.length = pn := ⟨_, rfl⟩
  rw [hpn] at HM0 HM1 HPF ⊢
  have HPN := Lib.hid hpn
  clear hpn
  have hpn64 := HPF.out.2
  have HT3 := Lib.hid (HT.out.below HB3.out)
  have HA3 := Lib.hid (HI.out.2.up HB3.out)
  have HQ3 := Lib.hid (HJ.out.2.up HB3.out)
  have HY3 := Lib.hid (HBY.out.1.up HB3.out)
  have HV03 := Lib.hid (HV0.out.up HW1.out)
  have HID : Hid (Calls Tryd.prog 12 #[.slice Av0 pn cv0, .slice Av1 pn cv1] w3 fun e w' => e = .returned (.bool true) ∧ Below w3.heap.size w3 w') := by
    have h := rids_any pp pp Av0 Av1 pn cv0 pn cv1 w3 HPN.out HPN.out (by omega) (by omega) HM0.out.1 HM0.out.2 HM1.out.1 HM1.out.2 HPF.out.1 HPF.out.1 HV03.out HV1.out
    rwa [decide_eq_true rfl] at h
  go_upto_region 6 with (fail)
  go_wp2_with fail
  refine HID.out.mono ?_
  rintro e w4 ⟨rfl, hb⟩
  have H34 := Lib.hid hb
  have HB4 := Lib.hid (HB3.out.trans (hb.mono HB3.out.size))
  clear hb HID
  have E4 : Hid (EnvX w4 w4 []) := EnvX.start w4
  have HRI := Lib.hid (root_id HI.out.1)
  have HU3 : Hid (∀ u, EnvX w4 u [] → EnvX w3 u []) := fun u hu => ⟨H34.out.trans ((EnvX.bel hu).mono H34.out.size), fun _ _ h => by cases h⟩
  have HRT : Hid (∀ u, EnvX w3 u [] → Calls Tryd.prog 13 #[.slice A n c] u fun e w' => e = .returned (idv (rootT l)) ∧ Below u.heap.size u w') := fun u hu => HTREE.out.root l A n c u HL.out (by omega) hnc HCM.out.1 HI.out.1 (HA3.out.up (EnvX.bel hu)) (HT3.out.below (EnvX.bel hu))
  have HRR : Hid (∀ u, EnvX w3 u [] → Calls Tryd.prog 14 #[.slice A n c] u fun e w' => e = .returned (idv (rootT l)) ∧ Below u.heap.size u w') := fun u hu => rroot_any n l A c u HL.out (by omega) hnc HCM.out.1 HI.out.1 (HA3.out.up (EnvX.bel hu))
  have HLF : Hid (∀ u, EnvX w3 u [] → Calls Tryd.prog 15 #[.slice A3 k c3] u fun e w' => e = .returned (idv (leafT xs)) ∧ Below u.heap.size u w') := fun u hu => HTREE.out.leaf A3 k c3 xs u HK.out (by omega) (HY3.out.up (EnvX.bel hu)) HBY.out.2 (HT3.out.below (EnvX.bel hu))
  have HRL : Hid (∀ u, EnvX w3 u [] → Calls Tryd.prog 16 #[.slice A3 k c3] u fun e w' => e = .returned (idv (leafT xs)) ∧ Below u.heap.size u w') := fun u hu => rleaf_any A3 k c3 xs u HK.out (by omega) (HY3.out.up (EnvX.bel hu)) HBY.out.2
  have HLI : Hid ((leafT xs).length = 32) := sumL_len _
  have HEL : Hid ((!eqL (leafT xs) (leafT xs)) = false) := by show _ = _; simp [eqL]
  have HER : Hid ((!eqL (rootT l) (rootT l)) = false) := by show _ = _; simp [eqL]
  generalize hrr : rootT l = rr at *
  clear hrr
  go_upto_region 7 with (fail)
  refine wp_region_Hx (w0 := w4) [0, 1, 2, 3] [] rfl E4.out ?_
  refine lexH_phase [0, 1] [2, 3] ?_
  have hw1 : EnvX w4 _ [] := E4.out
  have hone := @EnvC.one _ _ _ hw1
  (refine wpG_op rfl rfl rfl ?_; intro K hK; go_big_quiet_op; go_big_quiet_on)
  (refine wpG_call (f := 13) (args := #[.slice A n c]) (v := idv rr) rfl rfl rfl Tryd.func13 rfl rfl (fun u hu => HRT.out u (HU3.out u (EnvX.sub hu (fun _ h => by cases h)))) ?_ hw1; intro K hK; go_big_quiet_op; go_big_quiet_on)
  clear hone hw1
  refine wpG_nil ?_
  refine (hOp_fresh (R := fun x N => ∃ g, x = .pointer (some ⟨g, 0, none⟩) ∧ N = [(g, Obj.cells (arrB 32 []) 29 (0, 0))]) (M0 := []) rfl rfl (fun _ h => h) (fun u hu => FAt_new (new_id _) u) ?_)
  rintro _ _ ⟨gr, rfl, rfl⟩ hf he2; intro K' hK'; go_big_quiet_op; go_big_quiet_on
  have HGgr := Lib.hid (hf _ (List.mem_singleton.2 rfl))
  clear hf
  change lexH _ _ _ _ _ _ [(gr, Obj.cells (arrB 32 []) 29 (0, 0))]
  refine (hOp_store rfl (gr) (arrB 32 rr) rfl rfl HGgr.out.1 29 ((arrB 32 [])) (List.Mem.head _) (info26 _ (arrB_size _ _ (by rw [HRI.out.1]; omega))) ((arrB_size _ _ (by simp)).trans (arrB_size _ _ (by rw [HRI.out.1]; omega)).symm) (arrB_one _ _) [(gr, Obj.cells (arrB 32 rr) 29 (0, 0))] (List.forall_mem_cons.2 ⟨.inl rfl, (fun _ h => by cases h)⟩) ?_)
  intro he3
  intro u5 E2'
  have EX4 := Lib.hid E2'
  clear E2'
  have HZU := Lib.hid (EnvX.bel EX4.out)
  have HLR : Hid (∀ u, EnvX u5 u [] → (loadVar 29 ⟨gr, 0, none⟩).run Tryd.prog u = .ok (idv rr) u) := fun u hu => box_load (EnvX.comb EX4.out hu) (List.mem_append_right _ (List.Mem.head _)) HRI.out.1
  have HU4 : Hid (∀ u, EnvX u5 u [] → EnvX w4 u []) := fun u hu => ⟨HZU.out.trans ((EnvX.bel hu).mono HZU.out.size), fun _ _ h => by cases h⟩
  have HBU := Lib.hid (HB4.out.trans (HZU.out.mono HB4.out.size))
  clear EX4 E4
  generalize u5 = U at *
  have EU : Hid (EnvX U U []) := EnvX.start U
  go_upto_region 8 with (fail)
  refine wp_region_H (w0 := U) [] (by kernel_rfl) EU.out ?_
  refine anyH_phaseN [0, 1, 2, 3, 4, 5, 6, 7, 8, 9, 10, 11, 12, 13, 14, 15, 16, 17, 18, 19] 0 rfl (by kernel_rfl) ?_
  have hw6 : EnvX U _ [] := EnvX.sub (EnvX.drew EU.out) (fun _ h => by cases h)
  have hone := @EnvC.one _ _ _ hw6
  (refine wpG_val (v := idv rr) rfl rfl (fun u hu => load_run_op u (HLR.out u hu) rfl) ?_ hw6; intro K hK; go_big_quiet_op; go_big_quiet_on)
  (refine wpG_op rfl rfl rfl ?_; intro K hK; go_big_quiet_op; go_big_quiet_on)
  (refine wpG_call (f := 14) (args := #[.slice A n c]) (v := idv rr) rfl rfl rfl Tryd.func14 rfl rfl (fun u hu => HRR.out u (HU3.out u (HU4.out u (EnvX.sub hu (fun _ h => by cases h))))) ?_ hw6; intro K hK; go_big_quiet_op; go_big_quiet_on)
  (refine wpG_val (v := .bool false) rfl rfl (fun u hu => neqb_op HRI.out.1 HRI.out.1 HER.out u rfl rfl) ?_ hw6; intro K hK; go_big_quiet_op; go_big_quiet_on)
  (refine wpG_op rfl rfl rfl ?_; intro K hK; go_big_quiet_op; go_big_quiet_on)
  (refine wpG_op rfl rfl rfl ?_; intro K hK; go_big_quiet_op; go_big_quiet_on)
  (refine wpG_op rfl rfl rfl ?_; intro K hK; go_big_quiet_op; go_big_quiet_on)
  (refine wpG_op rfl rfl rfl ?_; intro K hK; go_big_quiet_op; go_big_quiet_on)
  (refine wpG_op rfl rfl rfl ?_; intro K hK; go_big_quiet_op; go_big_quiet_on)
  (refine wpG_op rfl rfl rfl ?_; intro K hK; go_big_quiet_op; go_big_quiet_on)
  (refine wpG_op rfl rfl rfl ?_; intro K hK; go_big_quiet_op; go_big_quiet_on)
  (refine wpG_val (v := .bool false) rfl rfl (fun u hu => neqB_op u rfl rfl) ?_ hw6; intro K hK; go_big_quiet_op; go_big_quiet_on)
  (refine wpG_op rfl rfl rfl ?_; intro K hK; go_big_quiet_op; go_big_quiet_on)
  (refine wpG_op rfl rfl rfl ?_; intro K hK; go_big_quiet_op; go_big_quiet_on)
  (refine wpG_op rfl rfl rfl ?_; intro K hK; go_big_quiet_op; go_big_quiet_on)
  (refine wpG_call (f := 15) (args := #[.slice A3 k c3]) (v := idv (leafT xs)) rfl rfl rfl Tryd.func15 rfl rfl (fun u hu => HLF.out u (HU3.out u (HU4.out u (EnvX.sub hu (fun _ h => by cases h))))) ?_ hw6; intro K hK; go_big_quiet_op; go_big_quiet_on)
  (refine wpG_op rfl rfl rfl ?_; intro K hK; go_big_quiet_op; go_big_quiet_on)
  (refine wpG_call (f := 16) (args := #[.slice A3 k c3]) (v := idv (leafT xs)) rfl rfl rfl Tryd.func16 rfl rfl (fun u hu => HRL.out u (HU3.out u (HU4.out u (EnvX.sub hu (fun _ h => by cases h))))) ?_ hw6; intro K hK; go_big_quiet_op; go_big_quiet_on)
  (refine wpG_val (v := .bool false) rfl rfl (fun u hu => neqb_op HLI.out HLI.out HEL.out u rfl rfl) ?_ hw6; intro K hK; go_big_quiet_op; go_big_quiet_on)
  (refine wpG_op rfl rfl rfl ?_; intro K hK; go_big_quiet_op; go_big_quiet_on)
  clear hone hw6
  refine wpG_nil ?_
  refine anyH_done (by kernel_rfl) ?_
  intro u8 E2'
  have EX7 := Lib.hid E2'
  clear E2'
  have g3' := HG3.out
  subst g3'
  go_wp2
  go_ret
  exact ⟨rfl, HBU.out.trans ((EnvX.bel EX7.out).mono HBU.out.size)⟩
set_option maxRecDepth 20000 in
set_option maxHeartbeats 4000000 in
theorem law_tells_f (T : TreeC) (l q : List (List Int)) (xs : List Int) (A A2 A3 : Option Addr) (n c m c2 k c3 : Nat) (i x : Int) (w : World)
    (hl : l.length = n) (hq : q.length = m) (hk : xs.length = k) (hnc : n ≤ c) (hcm : c ≤ maxLen) (hmc : m ≤ c2) (hc2 : c2 ≤ maxLen) (hI : isIds l) (hA : IdsIn w w.heap.size A l) (hJ : isIds q) (hA2 : IdsIn w w.heap.size A2 q) (hB : Bytes w w.heap.size A3 xs) (hb : ∀ x ∈ xs, 0 ≤ x ∧ x ≤ 255) (hi : I64 i) (hx : I64 x) (ht : Tables w) (g0 : n ≤ 70) (g1 : m ≤ 12) (g2 : k ≤ 200) (g3 : 0 < n) :
    Calls Tryd.prog 3 #[.slice A n c, .int .i64 i, .int .i64 x, .slice A2 m c2, .slice A3 k c3] w fun e w' => e = .returned (.bool true) ∧ Below w.heap.size w w' := by
  have g3' : ¬ (n : Int) = 0 := by omega
  have g3'' : ¬ n = 0 := by omega
  have g0' : ¬ (70 : Int) < (n : Int) := by omega
  have g1' : ¬ (12 : Int) < (m : Int) := by omega
  have g2' : ¬ (200 : Int) < (k : Int) := by omega
  unfold I64 at hi hx
  have HAW := Lib.hid (awake_any T w ht)
  have HT := Lib.hid ht
  have HTREE := Lib.hid T
  have HL := Lib.hid hl
  have HQ := Lib.hid hq
  have HK := Lib.hid hk
  have HI := Lib.hid (And.intro hI hA)
  have HJ := Lib.hid (And.intro hJ hA2)
  have HBY := Lib.hid (And.intro hB hb)
  have HCM := Lib.hid (And.intro hcm hc2)
  unfold maxLen at hcm hc2
  clear ht T hl hq hk hI hA hJ hA2 hB hb
  go_enter Tryd.func3, Tryd.ntmps3
  go_wp2_with fail
  refine HAW.out.mono ?_
  rintro e w1 ⟨rfl, hb1⟩
  have HB1 := Lib.hid hb1
  clear hb1 HAW
  have HPF := Lib.hid (pathR_facts HI.out.1 i)
  have HP : Hid (Calls Tryd.prog 10 #[.slice A n c, .int .i64 i] w1 fun e w' => (∃ v, e = .returned (.tuple #[v, .bool (pathR l i).2]) ∧ OwnI w' w1.heap.size v (pathR l i).1) ∧ Below w1.heap.size w1 w') := HTREE.out.path l i A n c w1 HL.out (by omega) hnc HCM.out.1 hi HI.out.1 (HI.out.2.up HB1.out) (HT.out.below HB1.out)
  go_upto_region 4 with (fail)
  go_wp2_with fail
  refine HP.out.mono ?_
  rintro e w2 ⟨⟨v, rfl, hv⟩, hb⟩
  have HB2 := Lib.hid (HB1.out.trans (hb.mono HB1.out.size))
  obtain ⟨Av0, cv0, rfl, hv0, hm0⟩ := hv.form
  have HV0 := Lib.hid hv.ids
  have HM0 := Lib.hid (And.intro hv0 hm0)
  have HW0 := Lib.hid hb
  clear hb hv HP hv0 hm0
  have HP : Hid (Calls Tryd.prog 11 #[.slice A n c, .int .i64 i] w2 fun e w' => (∃ v, e = .returned (.tuple #[v, .bool (pathR l i).2]) ∧ OwnI w' w2.heap.size v (pathR l i).1) ∧ Below w2.heap.size w2 w') := rpath_all l i A n c w2 HL.out (by omega) hnc HCM.out.1 hi HI.out.1 (HI.out.2.up HB2.out)
  go_upto_region 5 with (fail)
  go_wp2_with fail
  refine HP.out.mono ?_
  rintro e w3 ⟨⟨v, rfl, hv⟩, hb⟩
  have HB3 := Lib.hid (HB2.out.trans (hb.mono HB2.out.size))
  obtain ⟨Av1, cv1, rfl, hv1, hm1⟩ := hv.form
  have HV1 := Lib.hid hv.ids
  have HM1 := Lib.hid (And.intro hv1 hm1)
  have HW1 := Lib.hid hb
  clear hb hv HP hv1 hm1
  obtain ⟨pp, hpp⟩ : ∃ pp, (pathR l i).1 = pp := ⟨_, rfl⟩
  obtain ⟨bb, hbb⟩ : ∃ bb, (pathR l i).2 = bb := ⟨_, rfl⟩
  rw [hpp] at HPF HV0 HV1 HM0 HM1 ⊢
  rw [hbb]
  clear hpp hbb
  obtain ⟨pn, hpn⟩ : ∃ pn, pp.length = pn := ⟨_, rfl⟩
  rw [hpn] at HM0 HM1 HPF ⊢
  have HPN := Lib.hid hpn
  clear hpn
  have hpn64 := HPF.out.2
  have HT3 := Lib.hid (HT.out.below HB3.out)
  have HA3 := Lib.hid (HI.out.2.up HB3.out)
  have HQ3 := Lib.hid (HJ.out.2.up HB3.out)
  have HY3 := Lib.hid (HBY.out.1.up HB3.out)
  have HV03 := Lib.hid (HV0.out.up HW1.out)
  have HID : Hid (Calls Tryd.prog 12 #[.slice Av0 pn cv0, .slice Av1 pn cv1] w3 fun e w' => e = .returned (.bool true) ∧ Below w3.heap.size w3 w') := by
    have h := rids_any pp pp Av0 Av1 pn cv0 pn cv1 w3 HPN.out HPN.out (by omega) (by omega) HM0.out.1 HM0.out.2 HM1.out.1 HM1.out.2 HPF.out.1 HPF.out.1 HV03.out HV1.out
    rwa [decide_eq_true rfl] at h
  go_upto_region 6 with (fail)
  go_wp2_with fail
  refine HID.out.mono ?_
  rintro e w4 ⟨rfl, hb⟩
  have H34 := Lib.hid hb
  have HB4 := Lib.hid (HB3.out.trans (hb.mono HB3.out.size))
  clear hb HID
  have E4 : Hid (EnvX w4 w4 []) := EnvX.start w4
  have HRI := Lib.hid (root_id HI.out.1)
  have HU3 : Hid (∀ u, EnvX w4 u [] → EnvX w3 u []) := fun u hu => ⟨H34.out.trans ((EnvX.bel hu).mono H34.out.size), fun _ _ h => by cases h⟩
  have HRT : Hid (∀ u, EnvX w3 u [] → Calls Tryd.prog 13 #[.slice A n c] u fun e w' => e = .returned (idv (rootT l)) ∧ Below u.heap.size u w') := fun u hu => HTREE.out.root l A n c u HL.out (by omega) hnc HCM.out.1 HI.out.1 (HA3.out.up (EnvX.bel hu)) (HT3.out.below (EnvX.bel hu))
  have HRR : Hid (∀ u, EnvX w3 u [] → Calls Tryd.prog 14 #[.slice A n c] u fun e w' => e = .returned (idv (rootT l)) ∧ Below u.heap.size u w') := fun u hu => rroot_any n l A c u HL.out (by omega) hnc HCM.out.1 HI.out.1 (HA3.out.up (EnvX.bel hu))
  have HLF : Hid (∀ u, EnvX w3 u [] → Calls Tryd.prog 15 #[.slice A3 k c3] u fun e w' => e = .returned (idv (leafT xs)) ∧ Below u.heap.size u w') := fun u hu => HTREE.out.leaf A3 k c3 xs u HK.out (by omega) (HY3.out.up (EnvX.bel hu)) HBY.out.2 (HT3.out.below (EnvX.bel hu))
  have HRL : Hid (∀ u, EnvX w3 u [] → Calls Tryd.prog 16 #[.slice A3 k c3] u fun e w' => e = .returned (idv (leafT xs)) ∧ Below u.heap.size u w') := fun u hu => rleaf_any A3 k c3 xs u HK.out (by omega) (HY3.out.up (EnvX.bel hu)) HBY.out.2
  have HLI : Hid ((leafT xs).length = 32) := sumL_len _
  have HEL : Hid ((!eqL (leafT xs) (leafT xs)) = false) := by show _ = _; simp [eqL]
  have HER : Hid ((!eqL (rootT l) (rootT l)) = false) := by show _ = _; simp [eqL]
  obtain ⟨a1, rfl, hl1⟩ := HA3.out.loads HI.out.1 (k := n - 1) (by rw [HL.out]; omega)
  obtain ⟨a2, ha2, hl0⟩ := HA3.out.loads HI.out.1 (k := 0) (by rw [HL.out]; omega)
  obtain rfl := Option.some.inj ha2
  have HL1 := Lib.hid hl1
  have HL0 := Lib.hid hl0
  have HY := Lib.hid (HI.out.1.get (i := n - 1) (by rw [HL.out]; omega))
  have HZ := Lib.hid (HI.out.1.get (i := 0) (by rw [HL.out]; omega))
  generalize l.getD (n - 1) [] = y at *
  generalize l.getD 0 [] = z at *
  clear hl1 hl0 ha2
  generalize hrr : rootT l = rr at *
  clear hrr
  have HC1 : Hid (∀ u, EnvX w3 u [] → Calls Tryd.prog 17 #[idv rr, .int .i64 x, .int .i64 i, idv y, .slice A2 m c2] u fun e w' => e = .returned (.bool (checkT rr x i y q)) ∧ Below u.heap.size u w') := fun u hu => HTREE.out.check rr y x i q A2 m c2 u HRI.out HY.out hx hi HQ.out (by omega) hmc HCM.out.2 HJ.out.1 (HQ3.out.up (EnvX.bel hu)) (HT3.out.below (EnvX.bel hu))
  have HC2 : Hid (∀ u, EnvX w3 u [] → Calls Tryd.prog 18 #[idv rr, .int .i64 x, .int .i64 i, idv y, .slice A2 m c2] u fun e w' => e = .returned (.bool (checkT rr x i y q)) ∧ Below u.heap.size u w') := fun u hu => rcheck_any rr y x i q A2 m c2 u hx.1 hx.2 hi.1 hi.2 HRI.out.1 HY.out HQ.out hmc HCM.out.2 HJ.out.1 (HQ3.out.up (EnvX.bel hu))
  have HN1 : Hid (∀ u, EnvX w3 u [] → Calls Tryd.prog 19 #[idv z, idv y] u fun e w' => e = .returned (idv (nodeT z y)) ∧ Below u.heap.size u w') := fun u hu => HTREE.out.node z y u HZ.out HY.out (HT3.out.below (EnvX.bel hu))
  have HN2 : Hid (∀ u, EnvX w3 u [] → Calls Tryd.prog 20 #[idv z, idv y] u fun e w' => e = .returned (idv (nodeT z y)) ∧ Below u.heap.size u w') := fun u hu => rnode_any z y u HZ.out.1 HY.out.1 HZ.out.2 HY.out.2
  have HC3 : Hid (∀ u, EnvX w3 u [] → Calls Tryd.prog 17 #[idv rr, .int .i64 n, .int .i64 i, idv y, .slice Av1 pn cv1] u fun e w' => e = .returned (.bool (checkT rr n i y pp)) ∧ Below u.heap.size u w') := fun u hu => HTREE.out.check rr y n i pp Av1 pn cv1 u HRI.out HY.out ⟨by omega, by omega⟩ hi HPN.out (by omega) HM1.out.1 HM1.out.2 HPF.out.1 (HV1.out.up (EnvX.bel hu)) (HT3.out.below (EnvX.bel hu))
  have HC4 : Hid (∀ u, EnvX w3 u [] → Calls Tryd.prog 18 #[idv rr, .int .i64 n, .int .i64 i, idv y, .slice Av1 pn cv1] u fun e w' => e = .returned (.bool (checkT rr n i y pp)) ∧ Below u.heap.size u w') := fun u hu => rcheck_any rr y n i pp Av1 pn cv1 u (by omega) (by omega) hi.1 hi.2 HRI.out.1 HY.out HPN.out HM1.out.1 HM1.out.2 HPF.out.1 (HV1.out.up (EnvX.bel hu))
  have HNI := Lib.hid (node_id z y)
  have HEN : Hid (eqL (nodeT z y) (nodeT z y) = true) := by show _ = _; simp [eqL]
  have HN1' : Hid ((n : Int) - 1 = ((n - 1 : Nat) : Int) ∧ InI ((n - 1 : Nat) : Int)) := ⟨by omega, by unfold InI; omega⟩
  have HNX : Hid (n - 1 < n) := by show _ < _; omega
  have HN0 : Hid (0 < n) := by show _ < _; omega
  go_upto_region 7 with (fail)
  refine wp_region_Hx (w0 := w4) [0, 1, 2, 3] [] rfl E4.out ?_
  refine lexH_phase [0, 1] [2, 3] ?_
  have hw1 : EnvX w4 _ [] := E4.out
  have hone := @EnvC.one _ _ _ hw1
  (refine wpG_op rfl rfl rfl ?_; intro K hK; go_big_quiet_op; go_big_quiet_on)
  (refine wpG_call (f := 13) (args := #[.slice (some a1) n c]) (v := idv rr) rfl rfl rfl Tryd.func13 rfl rfl (fun u hu => HRT.out u (HU3.out u (EnvX.sub hu (fun _ h => by cases h)))) ?_ hw1; intro K hK; go_big_quiet_op; go_big_quiet_on)
  clear hone hw1
  refine wpG_nil ?_
  refine (hOp_fresh (R := fun x N => ∃ g, x = .pointer (some ⟨g, 0, none⟩) ∧ N = [(g, Obj.cells (arrB 32 []) 29 (0, 0))]) (M0 := []) rfl rfl (fun _ h => h) (fun u hu => FAt_new (new_id _) u) ?_)
  rintro _ _ ⟨gr, rfl, rfl⟩ hf he2; intro K' hK'; go_big_quiet_op; go_big_quiet_on
  have HGgr := Lib.hid (hf _ (List.mem_singleton.2 rfl))
  clear hf
  change lexH _ _ _ _ _ _ [(gr, Obj.cells (arrB 32 []) 29 (0, 0))]
  refine (hOp_store rfl (gr) (arrB 32 rr) rfl rfl HGgr.out.1 29 ((arrB 32 [])) (List.Mem.head _) (info26 _ (arrB_size _ _ (by rw [HRI.out.1]; omega))) ((arrB_size _ _ (by simp)).trans (arrB_size _ _ (by rw [HRI.out.1]; omega)).symm) (arrB_one _ _) [(gr, Obj.cells (arrB 32 rr) 29 (0, 0))] (List.forall_mem_cons.2 ⟨.inl rfl, (fun _ h => by cases h)⟩) ?_)
  intro he3
  intro u5 E2'
  have EX4 := Lib.hid E2'
  clear E2'
  have HZU := Lib.hid (EnvX.bel EX4.out)
  have HLR : Hid (∀ u, EnvX u5 u [] → (loadVar 29 ⟨gr, 0, none⟩).run Tryd.prog u = .ok (idv rr) u) := fun u hu => box_load (EnvX.comb EX4.out hu) (List.mem_append_right _ (List.Mem.head _)) HRI.out.1
  have HU4 : Hid (∀ u, EnvX u5 u [] → EnvX w4 u []) := fun u hu => ⟨HZU.out.trans ((EnvX.bel hu).mono HZU.out.size), fun _ _ h => by cases h⟩
  have HBU := Lib.hid (HB4.out.trans (HZU.out.mono HB4.out.size))
  clear EX4 E4
  generalize u5 = U at *
  have EU : Hid (EnvX U U []) := EnvX.start U
  go_upto_region 8 with (fail)
  refine wp_region_H (w0 := U) [] (by kernel_rfl) EU.out ?_
  refine anyH_phaseN [0, 1, 2, 3, 4, 5, 6, 7, 8, 9, 10, 11, 12, 13, 14, 15, 16, 17, 18, 19] 0 rfl (by kernel_rfl) ?_
  have hw6 : EnvX U _ [] := EnvX.sub (EnvX.drew EU.out) (fun _ h => by cases h)
  have hone := @EnvC.one _ _ _ hw6
  (refine wpG_val (v := idv rr) rfl rfl (fun u hu => load_run_op u (HLR.out u hu) rfl) ?_ hw6; intro K hK; go_big_quiet_op; go_big_quiet_on)
  (refine wpG_op rfl rfl rfl ?_; intro K hK; go_big_quiet_op; go_big_quiet_on)
  (refine wpG_call (f := 14) (args := #[.slice (some a1) n c]) (v := idv rr) rfl rfl rfl Tryd.func14 rfl rfl (fun u hu => HRR.out u (HU3.out u (HU4.out u (EnvX.sub hu (fun _ h => by cases h))))) ?_ hw6; intro K hK; go_big_quiet_op; go_big_quiet_on)
  (refine wpG_val (v := .bool false) rfl rfl (fun u hu => neqb_op HRI.out.1 HRI.out.1 HER.out u rfl rfl) ?_ hw6; intro K hK; go_big_quiet_op; go_big_quiet_on)
  (refine wpG_op rfl rfl rfl ?_; intro K hK; go_big_quiet_op; go_big_quiet_on)
  (refine wpG_op rfl rfl rfl ?_; intro K hK; go_big_quiet_op; go_big_quiet_on)
  (refine wpG_op rfl rfl rfl ?_; intro K hK; go_big_quiet_op; go_big_quiet_on)
  (refine wpG_op rfl rfl rfl ?_; intro K hK; go_big_quiet_op; go_big_quiet_on)
  (refine wpG_op rfl rfl rfl ?_; intro K hK; go_big_quiet_op; go_big_quiet_on)
  (refine wpG_op rfl rfl rfl ?_; intro K hK; go_big_quiet_op; go_big_quiet_on)
  (refine wpG_op rfl rfl rfl ?_; intro K hK; go_big_quiet_op; go_big_quiet_on)
  (refine wpG_val (v := .bool false) rfl rfl (fun u hu => neqB_op u rfl rfl) ?_ hw6; intro K hK; go_big_quiet_op; go_big_quiet_on)
  (refine wpG_op rfl rfl rfl ?_; intro K hK; go_big_quiet_op; go_big_quiet_on)
  (refine wpG_op rfl rfl rfl ?_; intro K hK; go_big_quiet_op; go_big_quiet_on)
  (refine wpG_op rfl rfl rfl ?_; intro K hK; go_big_quiet_op; go_big_quiet_on)
  (refine wpG_call (f := 15) (args := #[.slice A3 k c3]) (v := idv (leafT xs)) rfl rfl rfl Tryd.func15 rfl rfl (fun u hu => HLF.out u (HU3.out u (HU4.out u (EnvX.sub hu (fun _ h => by cases h))))) ?_ hw6; intro K hK; go_big_quiet_op; go_big_quiet_on)
  (refine wpG_op rfl rfl rfl ?_; intro K hK; go_big_quiet_op; go_big_quiet_on)
  (refine wpG_call (f := 16) (args := #[.slice A3 k c3]) (v := idv (leafT xs)) rfl rfl rfl Tryd.func16 rfl rfl (fun u hu => HRL.out u (HU3.out u (HU4.out u (EnvX.sub hu (fun _ h => by cases h))))) ?_ hw6; intro K hK; go_big_quiet_op; go_big_quiet_on)
  (refine wpG_val (v := .bool false) rfl rfl (fun u hu => neqb_op HLI.out HLI.out HEL.out u rfl rfl) ?_ hw6; intro K hK; go_big_quiet_op; go_big_quiet_on)
  (refine wpG_op rfl rfl rfl ?_; intro K hK; go_big_quiet_op; go_big_quiet_on)
  clear hone hw6
  refine wpG_nil ?_
  refine anyH_done (by kernel_rfl) ?_
  intro u8 E2'
  have EX7 := Lib.hid E2'
  clear E2'
  go_upto_region 12 with (fail)
  refine wp_region_Hx (w0 := U) [0, 1, 2, 3, 4, 5, 6, 7] [] rfl EX7.out ?_
  refine lexH_phase [0, 1, 2, 3, 4, 5] [6, 7] ?_
  have hw9 : EnvX U _ [] := EX7.out
  have hone := @EnvC.one _ _ _ hw9
  (refine wpG_op rfl rfl rfl ?_; intro K hK; go_big_quiet_op; go_big_quiet_on)
  (refine wpG_op rfl rfl rfl ?_; intro K hK; go_big_quiet_op; go_big_quiet_on)
  (refine wpG_val (v := .int .i64 n) rfl rfl (fun u hu => lenI_op u rfl) ?_ hw9; intro K hK; go_big_quiet_op; go_big_quiet_on)
  (refine wpG_val (v := .int .i64 ((n - 1 : Nat) : Int)) rfl rfl (fun u hu => sub_op u HN1'.out.1 HN1'.out.2 rfl rfl) ?_ hw9; intro K hK; go_big_quiet_op; go_big_quiet_on)
  (refine wpG_val (v := .pointer (some (a1.add ((n - 1) * 32)))) rfl rfl (fun u hu => idxSl_op Tryd.underlying22 size_id HNX.out u rfl rfl) ?_ hw9; intro K hK; go_big_quiet_op; go_big_quiet_on)
  (refine wpG_val (v := idv y) rfl rfl (fun u hu => load_run_op u (HL1.out u (HU3.out u (HU4.out u (EnvX.sub hu (fun _ h => by cases h))))) rfl) ?_ hw9; intro K hK; go_big_quiet_op; go_big_quiet_on)
  clear hone hw9
  refine wpG_nil ?_
  refine (hOp_fresh (R := fun x N => ∃ g, x = .pointer (some ⟨g, 0, none⟩) ∧ N = [(g, Obj.cells (arrB 32 []) 29 (0, 0))]) (M0 := []) rfl rfl (fun _ h => h) (fun u hu => FAt_new (new_id _) u) ?_)
  rintro _ _ ⟨gl, rfl, rfl⟩ hf he10; intro K' hK'; go_big_quiet_op; go_big_quiet_on
  have HGgl := Lib.hid (hf _ (List.mem_singleton.2 rfl))
  clear hf
  change lexH _ _ _ _ _ _ [(gl, Obj.cells (arrB 32 []) 29 (0, 0))]
  refine (hOp_store rfl (gl) (arrB 32 y) rfl rfl HGgl.out.1 29 ((arrB 32 [])) (List.Mem.head _) (info26 _ (arrB_size _ _ (by rw [HY.out.1]; omega))) ((arrB_size _ _ (by simp)).trans (arrB_size _ _ (by rw [HY.out.1]; omega)).symm) (arrB_one _ _) [(gl, Obj.cells (arrB 32 y) 29 (0, 0))] (List.forall_mem_cons.2 ⟨.inl rfl, (fun _ h => by cases h)⟩) ?_)
  intro he11
  intro u13 E2'
  have EX12 := Lib.hid E2'
  clear E2'
  have HZV := Lib.hid (EnvX.bel EX12.out)
  have HLY : Hid (∀ u, EnvX u13 u [] → (loadVar 29 ⟨gl, 0, none⟩).run Tryd.prog u = .ok (idv y) u) := fun u hu => box_load (EnvX.comb EX12.out hu) (List.mem_append_right _ (List.Mem.head _)) HY.out.1
  have HU5 : Hid (∀ u, EnvX u13 u [] → EnvX U u []) := fun u hu => ⟨HZV.out.trans ((EnvX.bel hu).mono HZV.out.size), fun _ _ h => by cases h⟩
  have HBV := Lib.hid (HBU.out.trans (HZV.out.mono HBU.out.size))
  clear EX12 EU
  generalize u13 = V at *
  have EV : Hid (EnvX V V []) := EnvX.start V
  go_upto_region 13 with (fail)
  refine wp_region_H (w0 := V) [] (by kernel_rfl) EV.out ?_
  refine anyH_phaseN [0, 1, 2, 3, 4, 5, 6, 7, 8, 9, 10, 11, 12, 13] 0 rfl (by kernel_rfl) ?_
  have hw14 : EnvX V _ [] := EnvX.sub (EnvX.drew EV.out) (fun _ h => by cases h)
  have hone := @EnvC.one _ _ _ hw14
  (refine wpG_val (v := idv rr) rfl rfl (fun u hu => load_run_op u (HLR.out u (HU5.out u (EnvX.sub hu (fun _ h => by cases h)))) rfl) ?_ hw14; intro K hK; go_big_quiet_op; go_big_quiet_on)
  (refine wpG_op rfl rfl rfl ?_; intro K hK; go_big_quiet_op; go_big_quiet_on)
  (refine wpG_op rfl rfl rfl ?_; intro K hK; go_big_quiet_op; go_big_quiet_on)
  (refine wpG_val (v := idv y) rfl rfl (fun u hu => load_run_op u (HLY.out u (EnvX.sub hu (fun _ h => by cases h))) rfl) ?_ hw14; intro K hK; go_big_quiet_op; go_big_quiet_on)
  (refine wpG_op rfl rfl rfl ?_; intro K hK; go_big_quiet_op; go_big_quiet_on)
  (refine wpG_call (f := 17) (args := #[idv rr, .int .i64 x, .int .i64 i, idv y, .slice A2 m c2]) (v := .bool (checkT rr x i y q)) rfl rfl rfl Tryd.func17 rfl rfl (fun u hu => HC1.out u (HU3.out u (HU4.out u (HU5.out u (EnvX.sub hu (fun _ h => by cases h)))))) ?_ hw14; intro K hK; go_big_quiet_op; go_big_quiet_on)
  (refine wpG_val (v := idv rr) rfl rfl (fun u hu => load_run_op u (HLR.out u (HU5.out u (EnvX.sub hu (fun _ h => by cases h)))) rfl) ?_ hw14; intro K hK; go_big_quiet_op; go_big_quiet_on)
  (refine wpG_op rfl rfl rfl ?_; intro K hK; go_big_quiet_op; go_big_quiet_on)
  (refine wpG_op rfl rfl rfl ?_; intro K hK; go_big_quiet_op; go_big_quiet_on)
  (refine wpG_val (v := idv y) rfl rfl (fun u hu => load_run_op u (HLY.out u (EnvX.sub hu (fun _ h => by cases h))) rfl) ?_ hw14; intro K hK; go_big_quiet_op; go_big_quiet_on)
  (refine wpG_op rfl rfl rfl ?_; intro K hK; go_big_quiet_op; go_big_quiet_on)
  (refine wpG_call (f := 18) (args := #[idv rr, .int .i64 x, .int .i64 i, idv y, .slice A2 m c2]) (v := .bool (checkT rr x i y q)) rfl rfl rfl Tryd.func18 rfl rfl (fun u hu => HC2.out u (HU3.out u (HU4.out u (HU5.out u (EnvX.sub hu (fun _ h => by cases h)))))) ?_ hw14; intro K hK; go_big_quiet_op; go_big_quiet_on)
  (refine wpG_val (v := .bool true) rfl rfl (fun u hu => eqlB_op u rfl rfl) ?_ hw14; intro K hK; go_big_quiet_op; go_big_quiet_on)
  (refine wpG_op rfl rfl rfl ?_; intro K hK; go_big_quiet_op; go_big_quiet_on)
  clear hone hw14
  refine wpG_nil ?_
  refine anyH_done (by kernel_rfl) ?_
  intro u16 E2'
  have EX15 := Lib.hid E2'
  clear E2'
  go_upto_region 14 with (fail)
  refine wp_region_H (w0 := V) [] (by kernel_rfl) EX15.out ?_
  refine anyH_phaseN [0, 1, 2, 3, 4, 5, 6, 7, 8, 9, 10, 11, 12, 13, 14, 15, 16, 17, 18, 19, 20, 21, 22, 23, 24, 25, 26, 27, 28, 29, 30, 31] 0 rfl (by kernel_rfl) ?_
  have hw17 : EnvX V _ [] := EnvX.sub (EnvX.drew EX15.out) (fun _ h => by cases h)
  have hone := @EnvC.one _ _ _ hw17
  (refine wpG_op rfl rfl rfl ?_; intro K hK; go_big_quiet_op; go_big_quiet_on)
  (refine wpG_op rfl rfl rfl ?_; intro K hK; go_big_quiet_op; go_big_quiet_on)
  (refine wpG_op rfl rfl rfl ?_; intro K hK; go_big_quiet_op; go_big_quiet_on)
  (refine wpG_val (v := .pointer (some (a1.add (0 * 32)))) rfl rfl (fun u hu => idxSl_op (i := 0) Tryd.underlying22 size_id HN0.out u rfl rfl) ?_ hw17; intro K hK; go_big_quiet_op; go_big_quiet_on)
  (refine wpG_val (v := idv z) rfl rfl (fun u hu => load_run_op u (HL0.out u (HU3.out u (HU4.out u (HU5.out u (EnvX.sub hu (fun _ h => by cases h)))))) rfl) ?_ hw17; intro K hK; go_big_quiet_op; go_big_quiet_on)
  (refine wpG_val (v := idv y) rfl rfl (fun u hu => load_run_op u (HLY.out u (EnvX.sub hu (fun _ h => by cases h))) rfl) ?_ hw17; intro K hK; go_big_quiet_op; go_big_quiet_on)
  (refine wpG_call (f := 19) (args := #[idv z, idv y]) (v := idv (nodeT z y)) rfl rfl rfl Tryd.func19 rfl rfl (fun u hu => HN1.out u (HU3.out u (HU4.out u (HU5.out u (EnvX.sub hu (fun _ h => by cases h)))))) ?_ hw17; intro K hK; go_big_quiet_op; go_big_quiet_on)
  (refine wpG_op rfl rfl rfl ?_; intro K hK; go_big_quiet_op; go_big_quiet_on)
  (refine wpG_val (v := .pointer (some (a1.add (0 * 32)))) rfl rfl (fun u hu => idxSl_op (i := 0) Tryd.underlying22 size_id HN0.out u rfl rfl) ?_ hw17; intro K hK; go_big_quiet_op; go_big_quiet_on)
  (refine wpG_val (v := idv z) rfl rfl (fun u hu => load_run_op u (HL0.out u (HU3.out u (HU4.out u (HU5.out u (EnvX.sub hu (fun _ h => by cases h)))))) rfl) ?_ hw17; intro K hK; go_big_quiet_op; go_big_quiet_on)
  (refine wpG_val (v := idv y) rfl rfl (fun u hu => load_run_op u (HLY.out u (EnvX.sub hu (fun _ h => by cases h))) rfl) ?_ hw17; intro K hK; go_big_quiet_op; go_big_quiet_on)
  (refine wpG_call (f := 20) (args := #[idv z, idv y]) (v := idv (nodeT z y)) rfl rfl rfl Tryd.func20 rfl rfl (fun u hu => HN2.out u (HU3.out u (HU4.out u (HU5.out u (EnvX.sub hu (fun _ h => by cases h)))))) ?_ hw17; intro K hK; go_big_quiet_op; go_big_quiet_on)
  (refine wpG_val (v := .bool true) rfl rfl (fun u hu => eqlb_op HNI.out.1 HNI.out.1 HEN.out u rfl rfl) ?_ hw17; intro K hK; go_big_quiet_op; go_big_quiet_on)
  (refine wpG_op rfl rfl rfl ?_; intro K hK; go_big_quiet_op; go_big_quiet_on)
  (refine wpG_op rfl rfl rfl ?_; intro K hK; go_big_quiet_op; go_big_quiet_on)
  (refine wpG_val (v := idv rr) rfl rfl (fun u hu => load_run_op u (HLR.out u (HU5.out u (EnvX.sub hu (fun _ h => by cases h)))) rfl) ?_ hw17; intro K hK; go_big_quiet_op; go_big_quiet_on)
  (refine wpG_op rfl rfl rfl ?_; intro K hK; go_big_quiet_op; go_big_quiet_on)
  (refine wpG_val (v := .int .i64 n) rfl rfl (fun u hu => lenI_op u rfl) ?_ hw17; intro K hK; go_big_quiet_op; go_big_quiet_on)
  (refine wpG_op rfl rfl rfl ?_; intro K hK; go_big_quiet_op; go_big_quiet_on)
  (refine wpG_val (v := idv y) rfl rfl (fun u hu => load_run_op u (HLY.out u (EnvX.sub hu (fun _ h => by cases h))) rfl) ?_ hw17; intro K hK; go_big_quiet_op; go_big_quiet_on)
  (refine wpG_op rfl rfl rfl ?_; intro K hK; go_big_quiet_op; go_big_quiet_on)
  (refine wpG_call (f := 17) (args := #[idv rr, .int .i64 n, .int .i64 i, idv y, .slice Av1 pn cv1]) (v := .bool (checkT rr n i y pp)) rfl rfl rfl Tryd.func17 rfl rfl (fun u hu => HC3.out u (HU3.out u (HU4.out u (HU5.out u (EnvX.sub hu (fun _ h => by cases h)))))) ?_ hw17; intro K hK; go_big_quiet_op; go_big_quiet_on)
  (refine wpG_val (v := idv rr) rfl rfl (fun u hu => load_run_op u (HLR.out u (HU5.out u (EnvX.sub hu (fun _ h => by cases h)))) rfl) ?_ hw17; intro K hK; go_big_quiet_op; go_big_quiet_on)
  (refine wpG_op rfl rfl rfl ?_; intro K hK; go_big_quiet_op; go_big_quiet_on)
  (refine wpG_val (v := .int .i64 n) rfl rfl (fun u hu => lenI_op u rfl) ?_ hw17; intro K hK; go_big_quiet_op; go_big_quiet_on)
  (refine wpG_op rfl rfl rfl ?_; intro K hK; go_big_quiet_op; go_big_quiet_on)
  (refine wpG_val (v := idv y) rfl rfl (fun u hu => load_run_op u (HLY.out u (EnvX.sub hu (fun _ h => by cases h))) rfl) ?_ hw17; intro K hK; go_big_quiet_op; go_big_quiet_on)
  (refine wpG_op rfl rfl rfl ?_; intro K hK; go_big_quiet_op; go_big_quiet_on)
  (refine wpG_call (f := 18) (args := #[idv rr, .int .i64 n, .int .i64 i, idv y, .slice Av1 pn cv1]) (v := .bool (checkT rr n i y pp)) rfl rfl rfl Tryd.func18 rfl rfl (fun u hu => HC4.out u (HU3.out u (HU4.out u (HU5.out u (EnvX.sub hu (fun _ h => by cases h)))))) ?_ hw17; intro K hK; go_big_quiet_op; go_big_quiet_on)
  (refine wpG_val (v := .bool true) rfl rfl (fun u hu => eqlB_op u rfl rfl) ?_ hw17; intro K hK; go_big_quiet_op; go_big_quiet_on)
  (refine wpG_op rfl rfl rfl ?_; intro K hK; go_big_quiet_op; go_big_quiet_on)
  (refine wpG_op rfl rfl rfl ?_; intro K hK; go_big_quiet_op; go_big_quiet_on)
  clear hone hw17
  refine wpG_nil ?_
  refine anyH_done (by kernel_rfl) ?_
  intro u19 E2'
  have EX18 := Lib.hid E2'
  clear E2'
  go_wp2
  go_ret
  exact ⟨rfl, HBV.out.trans ((EnvX.bel EX18.out).mono HBV.out.size)⟩
theorem law_tells (T : TreeC) (l q : List (List Int)) (xs : List Int) (A A2 A3 : Option Addr) (n c m c2 k c3 : Nat) (i x : Int) (w : World)
    (hl : l.length = n) (hq : q.length = m) (hk : xs.length = k) (hnc : n ≤ c) (hcm : c ≤ maxLen) (hmc : m ≤ c2) (hc2 : c2 ≤ maxLen) (hI : isIds l) (hA : IdsIn w w.heap.size A l) (hJ : isIds q) (hA2 : IdsIn w w.heap.size A2 q) (hB : Bytes w w.heap.size A3 xs) (hb : ∀ x ∈ xs, 0 ≤ x ∧ x ≤ 255) (hi : I64 i) (hx : I64 x) (ht : Tables w) :
    Calls Tryd.prog 3 #[.slice A n c, .int .i64 i, .int .i64 x, .slice A2 m c2, .slice A3 k c3] w fun e w' => e = .returned (.bool true) ∧ Below w.heap.size w w' := by
  by_cases g0 : 70 < n
  · exact law_tells_a T l q xs A A2 A3 n c m c2 k c3 i x w hl hq hk hnc hcm hmc hc2 hI hA hJ hA2 hB hb hi hx ht g0
  · by_cases g1 : 12 < m
    · exact law_tells_b T l q xs A A2 A3 n c m c2 k c3 i x w hl hq hk hnc hcm hmc hc2 hI hA hJ hA2 hB hb hi hx ht (by omega) g1
    · by_cases g2 : 200 < k
      · exact law_tells_d T l q xs A A2 A3 n c m c2 k c3 i x w hl hq hk hnc hcm hmc hc2 hI hA hJ hA2 hB hb hi hx ht (by omega) (by omega) g2
      · by_cases g3 : n = 0
        · exact law_tells_e T l q xs A A2 A3 n c m c2 k c3 i x w hl hq hk hnc hcm hmc hc2 hI hA hJ hA2 hB hb hi hx ht (by omega) (by omega) (by omega) g3
        · exact law_tells_f T l q xs A A2 A3 n c m c2 k c3 i x w hl hq hk hnc hcm hmc hc2 hI hA hJ hA2 hB hb hi hx ht (by omega) (by omega) (by omega) (by omega)
end Go.Proofs.YtgiacilkecoenaaDoor

/-
  PROVED: the law stepladderlaw05.TreeTells answers true for every input, and leaves its arguments as they were.
  Conditions: the two package-level tables of package sha hold at the call what their initialisers lay; the card ties that to the text of the program (a pruned copy of the project: the packages that the roots of this seat load).
-/
namespace Go.Proofs.YtgiacilkecoenaaDoor.treeTells
open Go.ChangeShapes Go.WideShapes Go.ChangeAt Go.RowKit

theorem contract (H : Type) (enc : TypeId × Value → H) (W : World) (base : Nat) (args : Array Value) (ds gs : List (DataW H)) (before : List MemPlace)
    (hval : ∀ (j : Nat) t v, Tryd.f3.params[j]? = some t → args[j]? = some v → Value.okWide Tryd.prog W .any base t v)
    (hW : DataW.Whole enc Tryd.prog Tryd.f3.params.toList Rows.treeTellsSpec.vars false W args.toList ds gs before) (hL : laidMetH Tryd.prog Rows.treeTellsRow.laid W) :
    Calls Tryd.prog 3 args W fun e W' => ∃ v, e = .returned v ∧ Rows.treeTellsSpec.post enc Tryd.prog Tryd.f3 false true false false W args v W' := by
  have hW' := hW
  obtain ⟨p, q, hA0, hV, rfl, hfz, hnd⟩ := hW
  have hA : DataW.TrodAll enc Tryd.prog W 0 (fun _ => true) true Tryd.f3.params.toList args.toList ds p := hA0
  rw [Tryd.params3] at hA hval
  obtain ⟨v0, vs0, d0, ds0, p0, q0, hargs, rfl, rfl, h0, r0⟩ := trodAll_cons hA
  obtain ⟨v1, vs1, d1, ds1, p1, q1, rfl, rfl, rfl, h1, r1⟩ := trodAll_cons r0
  obtain ⟨v2, vs2, d2, ds2, p2, q2, rfl, rfl, rfl, h2, r2⟩ := trodAll_cons r1
  obtain ⟨v3, vs3, d3, ds3, p3, q3, rfl, rfl, rfl, h3, r3⟩ := trodAll_cons r2
  obtain ⟨v4, vs4, d4, ds4, p4, q4, rfl, rfl, rfl, h4, r4⟩ := trodAll_cons r3
  obtain ⟨rfl, rfl, rfl⟩ := trodAll_nil r4
  obtain rfl : args = #[v0, v1, v2, v3, v4] := by cases args; simp_all
  obtain ⟨rfl, rfl⟩ := trodVars_none hV
  have lt0 : ∀ x ∈ p0, x.block < W.heap.size := by obtain ⟨m, hm⟩ := h0; exact DataW.trod_lt m _ _ _ hm
  obtain ⟨a0, n0, c0, x0, rfl, lx0, nc0, cm0, ix0, px0⟩ := open_ids (hval 0 22 v0 rfl rfl) h0
  obtain ⟨x1, rfl, rfl, rfl, wx1⟩ := open_int Tryd.underlying3 (hval 1 3 v1 rfl rfl) h1
  obtain ⟨x2, rfl, rfl, rfl, wx2⟩ := open_int Tryd.underlying3 (hval 2 3 v2 rfl rfl) h2
  have lt3 : ∀ x ∈ p3, x.block < W.heap.size := by obtain ⟨m, hm⟩ := h3; exact DataW.trod_lt m _ _ _ hm
  obtain ⟨a3, n3, c3, x3, rfl, lx3, nc3, cm3, ix3, px3⟩ := open_ids (hval 3 22 v3 rfl rfl) h3
  have lt4 : ∀ x ∈ p4, x.block < W.heap.size := by obtain ⟨m, hm⟩ := h4; exact DataW.trod_lt m _ _ _ hm
  obtain ⟨a4, n4, c4, x4, rfl, lx4, nc4, cm4, bx4, px4⟩ := open_bytes (hval 4 23 v4 rfl rfl) h4
  clear hA0
  refine (law_tells treeC x0 x3 x4 a0 a3 a4 n0 c0 n3 c3 n4 c4 x1 x2 W lx0 lx3 lx4 nc0 cm0 nc3 cm3 ix0 px0 ix3 px3 px4 bx4 (bounds_i64 wx1) (bounds_i64 wx2) (tables_of_laid hL)).mono fun e W' ⟨he, bel⟩ => ?_
  subst he
  exact ⟨_, rfl, _, _, _, [], _, [], hW', trodAll_mk1 (shut_bool Tryd.underlying4 _), (trodAll_cons_mk (Below.trod laidOut (by kernel_rfl) (of_decide_eq_true (by kernel_rfl)) h0 bel lt0) (trodAll_cons_mk (shut_int Tryd.underlying3 wx1) (trodAll_cons_mk (shut_int Tryd.underlying3 wx2) (trodAll_cons_mk (Below.trod laidOut (by kernel_rfl) (of_decide_eq_true (by kernel_rfl)) h3 bel lt3) (trodAll_cons_mk (Below.trod laidOut (by kernel_rfl) (of_decide_eq_true (by kernel_rfl)) h4 bel lt4) trodAll_mk0))))), rfl, bel.frame _, fun h => by cases h⟩

def start : Array Value := #[.slice none 0 0, .int .i64 0, .int .i64 0, .slice none 0 0, .slice none 0 0]
theorem reads (os : Os) {H : Type} (enc : TypeId × Value → H) : ∃ places, DataW.whole enc Tryd.prog ((laidWorld os).forCall (fun _ _ => 0) ⟨#[], start, []⟩).memory Tryd.f3.params.toList Rows.treeTellsSpec.vars false start.toList 8 = some ([.nil, .lit (.int .i64 0), .lit (.int .i64 0), .nil, .nil], [], places) :=
  ⟨[], by kernel_rfl⟩

set_option maxRecDepth 100000 in
theorem lifted (os : Os) (started : os.Started) (H : Type) (enc : TypeId × Value → H) (F : Stop.Interp) :
    ReturnsInHanded {} Tryd.checked os 3 .any ((OpenSpec.ofChange Rows.treeTellsSpec).preRow enc Tryd.prog Tryd.f3 Rows.treeTellsRow.domain false Rows.treeTellsRow.laid) (((OpenSpec.ofChange Rows.treeTellsSpec).at F).post enc Tryd.prog Tryd.f3 false true false false) := by
  obtain ⟨places, hx⟩ := reads os enc
  refine returnsInHanded_of_row (C := Tryd.checked) (s := OpenSpec.ofChange Rows.treeTellsSpec) own started (by kernel_rfl) Tryd.func3
    (witness_row_at (enc := enc) (C := Tryd.checked) false (laidWorld os) start rfl (by kernel_rfl) (by kernel_rfl) (by kernel_rfl)
      (OpenSpec.preRow_of_cond 8 hx (by kernel_rfl) (fun k hk => by cases hk) (by kernel_rfl) (laidMet_of_run' 8 (by kernel_rfl) (by kernel_rfl)))) ?_
  intro W base args ds gs before hval hW _ _ _ hL _ _
  exact contract H enc W base args ds gs before hval hW hL

theorem said : Rows.TreeTellsSaid :=
  OpenClaim.holds_of_cond 3 Tryd.f3 rfl rfl rfl rfl rfl rfl rfl ⟨rfl, rfl, rfl, rfl, rfl⟩ rfl rfl rfl rfl rfl (by kernel_rfl) Tryd.func3 (by kernel_rfl)
    (of_decide_eq_true (by kernel_rfl)) (by unfold Func.isWrapper; first | (rw [if_pos (by decide +kernel)]; kernel_rfl) | (rw [if_neg (by decide +kernel)]; exact ⟨rfl, rfl⟩))
    (fun os started H enc _ F => by rw [OpenClaim.pre_eq_preRow]; exact lifted os started H enc F)

theorem plain (f : FuncId) (fn : Func) (hf : Tryd.pinned.checked.prog.funcNamed "stepladder/stepladderlaw05.TreeTells" = some f) (hfn : Tryd.pinned.checked.prog.funcs[f]? = some fn) :
    false = Tryd.pinned.checked.prog.looks [] ∧ ∀ (j : Nat) t, fn.params[j]? = some t → Tryd.pinned.checked.prog.wantsStandIn t = false := by
  obtain rfl : f = 3 := Option.some.inj ((show Tryd.prog.funcNamed "stepladder/stepladderlaw05.TreeTells" = some 3 by kernel_rfl).symm.trans hf) |>.symm
  obtain rfl : fn = Tryd.f3 := (Option.some.inj (Tryd.func3.symm.trans hfn)).symm
  refine ⟨by kernel_rfl, fun j t ht => ?_⟩
  rw [Tryd.params3] at ht
  have hm : t = 22 ∨ t = 3 ∨ t = 3 ∨ t = 22 ∨ t = 23 := by simpa using Array.mem_of_getElem? ht
  rcases hm with rfl | rfl | rfl | rfl | rfl
  · exact (show Tryd.prog.wantsStandIn 22 = false by kernel_rfl)
  · exact (show Tryd.prog.wantsStandIn 3 = false by kernel_rfl)
  · exact (show Tryd.prog.wantsStandIn 3 = false by kernel_rfl)
  · exact (show Tryd.prog.wantsStandIn 22 = false by kernel_rfl)
  · exact (show Tryd.prog.wantsStandIn 23 = false by kernel_rfl)
theorem card : Rows.TreeTellsCardSaid :=
  Claim7.holds_tied_plain_at .later [] _ _ _ _ said (fun _ h => by cases h) (by kernel_rfl) (fun _ h => by cases h) treeTells_row_tie rfl ⟨rfl, rfl⟩ (by kernel_rfl) rfl plain (by kernel_rfl)

end Go.Proofs.YtgiacilkecoenaaDoor.treeTells
