/-
  PROVED: the law stepladderlaw05.TreeClash answers true for every input, and leaves its arguments as they were.
  Conditions: the two package-level tables of package sha hold at the call what their initialisers lay; the card ties that to the text of the program (a pruned copy of the project: the packages that the roots of this seat load).
-/
import Derived.Test.YtgiacilkecoenaaDoorCq
namespace Go.Proofs.YtgiacilkecoenaaDoor
open Go.RowKit

/-- what Clash answers for another leaf that checks -/
theorem clash_texts {l p : List (List Int)} {i : Nat} {leaf : List Int} (hI : isIds l) (hJ : isIds p) (hx : isId leaf) (h64 : l.length ≤ 64) (hi : i < l.length) (hc : checkT (rootT l) l.length i leaf p = true) (hne : leaf ≠ l.getD i []) :
    ∃ a b, clashP l i leaf p = (a, b, true) ∧ a ≠ b ∧ sumL a = sumL b ∧ a.length = 65 ∧ b.length = 65 ∧ (∀ x ∈ a, 0 ≤ x ∧ x ≤ 255) ∧ ∀ x ∈ b, 0 ≤ x ∧ x ≤ 255 := by
  have hQI := hI.get (i := i) (by omega)
  have hp2 := path_ids l.length l i rfl hI
  have hpl : p.length = (sidesT l.length i).length := by
    have h := hc
    unfold checkT at h
    simp only [decide_eq_true_eq, Int.toNat_natCast] at h
    exact h.2.2.2.2.1
  obtain ⟨a, b, h1, h2, h3⟩ := clash_some (l := l) (i := (i : Int)) (by omega) hc (by simpa using hne) hx.1 (fun x hx => (hI x hx).1) (fun x hx => (hJ x hx).1) sumL_len
  obtain ⟨j, hj, h4, _, _⟩ := clash_meet (l := l) (i := i) (by omega) hc hne
  rw [h4] at h1
  have hlen := path_len l.length l i rfl
  have k1 := hJ.get (i := j) (by omega)
  have k2 := hp2.get (i := j) (by omega)
  have g1 := climb_id (sidesT l.length i) leaf p hx j
  have g2 := climb_id (sidesT l.length i) (l.getD i []) (pathT l i) hQI j
  have hst : ∀ (s : Bool) (x y : List Int), isId x → isId y → (stepText s x y).length = 65 ∧ ∀ b ∈ stepText s x y, 0 ≤ b ∧ b ≤ 255 := fun s x y hx hy => ⟨stepText_len s hx.1 hy.1, by
    cases s
    · exact textT_byte hy.2 hx.2
    · exact textT_byte hx.2 hy.2⟩
  have e := Option.some.inj h1
  have ea := congrArg Prod.fst e
  have eb := congrArg Prod.snd e
  simp only at ea eb
  have m1 := hst ((sidesT l.length i).getD j true) _ _ g1 k1
  have m2 := hst ((sidesT l.length i).getD j true) _ _ g2 k2
  refine ⟨a, b, ?_, h2, h3, by rw [← ea]; exact m1.1, by rw [← eb]; exact m2.1, by rw [← ea]; exact m1.2, by rw [← eb]; exact m2.2⟩
  unfold clashP
  rw [h4, ← ea, ← eb]
theorem clash_no {l p : List (List Int)} {i : Int} {leaf : List Int} (h : ¬ (checkT (rootT l) l.length i leaf p = true ∧ leaf ≠ l.getD i.toNat [])) : clashP l i leaf p = ([], [], false) := by
  unfold clashP clashT
  rw [if_neg h]
set_option maxHeartbeats 1000000 in
theorem law_clash_a (T : TreeC) (l p : List (List Int)) (A A2 : Option Addr) (n c m c2 : Nat) (i : Int) (leaf : List Int) (w : World)
    (hx : isId leaf) (hl : l.length = n) (hm : p.length = m) (hnc : n ≤ c) (hcm : c ≤ maxLen) (hmc : m ≤ c2) (hc2 : c2 ≤ maxLen) (hI : isIds l) (hA : IdsIn w w.heap.size A l) (hJ : isIds p) (hA2 : IdsIn w w.heap.size A2 p) (hi : I64 i) (ht : Tables w) (c0 : 64 < n) :
    Calls Tryd.prog 5 #[.slice A n c, .int .i64 i, idv leaf, .slice A2 m c2] w fun e w' => e = .returned (.bool true) ∧ Below w.heap.size w w' := by
  have c0' : (64 : Int) < (n : Int) := by omega
  unfold I64 at hi
  have HAW := Lib.hid (awake_any T (w.alloc (.cells (arrB 32 leaf) 29)) (ht.below ((Below.refl _ _).alloc (Nat.le_refl _) _)))
  have E0 : Hid (EnvX w (w.alloc (.cells (arrB 32 leaf) 29)) [(w.heap.size, Obj.cells (arrB 32 leaf) 29 (0, 0))]) := (EnvX.start w).new _
  have HT := Lib.hid ht
  have HTREE := Lib.hid T
  have HX := Lib.hid hx
  have HL := Lib.hid hl
  have HM := Lib.hid hm
  have HI := Lib.hid (And.intro hI hA)
  have HJ := Lib.hid (And.intro hJ hA2)
  have HCM := Lib.hid (And.intro hcm hc2)
  unfold maxLen at hcm hc2
  clear ht T hx hl hm hI hA hJ hA2
  unfold idv
  go_enter Tryd.func5, Tryd.ntmps5
  go_upto_region 1 with (fail)
  generalize w.alloc (.cells (arrB 32 leaf) 29) = W at *
  go_wp2_with fail
  refine HAW.out.mono ?_
  rintro e w1 ⟨rfl, hb1⟩
  have HB1 := Lib.hid (EnvX.below E0.out hb1).bel
  have E1 : Hid (EnvX w1 w1 [(w.heap.size, Obj.cells (arrB 32 leaf) 29 (0, 0))]) := ⟨Below.refl _ _, (EnvX.below E0.out hb1).box⟩
  have HT1 := Lib.hid (HT.out.below HB1.out)
  clear hb1 E0 HAW
  go_wp2
  go_ret
  exact ⟨rfl, HB1.out⟩
set_option maxHeartbeats 1000000 in
theorem law_clash_b (T : TreeC) (l p : List (List Int)) (A A2 : Option Addr) (n c m c2 : Nat) (i : Int) (leaf : List Int) (w : World)
    (hx : isId leaf) (hl : l.length = n) (hm : p.length = m) (hnc : n ≤ c) (hcm : c ≤ maxLen) (hmc : m ≤ c2) (hc2 : c2 ≤ maxLen) (hI : isIds l) (hA : IdsIn w w.heap.size A l) (hJ : isIds p) (hA2 : IdsIn w w.heap.size A2 p) (hi : I64 i) (ht : Tables w) (c0 : n ≤ 64 ∧ 12 < m) :
    Calls Tryd.prog 5 #[.slice A n c, .int .i64 i, idv leaf, .slice A2 m c2] w fun e w' => e = .returned (.bool true) ∧ Below w.heap.size w w' := by
  obtain ⟨c0, c1⟩ := c0
  have c0' : ¬ (64 : Int) < (n : Int) := by omega
  have c1' : (12 : Int) < (m : Int) := by omega
  unfold I64 at hi
  have HAW := Lib.hid (awake_any T (w.alloc (.cells (arrB 32 leaf) 29)) (ht.below ((Below.refl _ _).alloc (Nat.le_refl _) _)))
  have E0 : Hid (EnvX w (w.alloc (.cells (arrB 32 leaf) 29)) [(w.heap.size, Obj.cells (arrB 32 leaf) 29 (0, 0))]) := (EnvX.start w).new _
  have HT := Lib.hid ht
  have HTREE := Lib.hid T
  have HX := Lib.hid hx
  have HL := Lib.hid hl
  have HM := Lib.hid hm
  have HI := Lib.hid (And.intro hI hA)
  have HJ := Lib.hid (And.intro hJ hA2)
  have HCM := Lib.hid (And.intro hcm hc2)
  unfold maxLen at hcm hc2
  clear ht T hx hl hm hI hA hJ hA2
  unfold idv
  go_enter Tryd.func5, Tryd.ntmps5
  go_upto_region 1 with (fail)
  generalize w.alloc (.cells (arrB 32 leaf) 29) = W at *
  go_wp2_with fail
  refine HAW.out.mono ?_
  rintro e w1 ⟨rfl, hb1⟩
  have HB1 := Lib.hid (EnvX.below E0.out hb1).bel
  have E1 : Hid (EnvX w1 w1 [(w.heap.size, Obj.cells (arrB 32 leaf) 29 (0, 0))]) := ⟨Below.refl _ _, (EnvX.below E0.out hb1).box⟩
  have HT1 := Lib.hid (HT.out.below HB1.out)
  clear hb1 E0 HAW
  go_wp2
  go_ret
  exact ⟨rfl, HB1.out⟩
set_option maxRecDepth 20000 in
set_option maxHeartbeats 4000000 in
theorem law_clash_i (T : TreeC) (l p : List (List Int)) (A A2 : Option Addr) (n c m c2 : Nat) (i : Int) (leaf : List Int) (w : World)
    (hx : isId leaf) (hl : l.length = n) (hm : p.length = m) (hnc : n ≤ c) (hcm : c ≤ maxLen) (hmc : m ≤ c2) (hc2 : c2 ≤ maxLen) (hI : isIds l) (hA : IdsIn w w.heap.size A l) (hJ : isIds p) (hA2 : IdsIn w w.heap.size A2 p) (hi : I64 i) (ht : Tables w) (c0 : n ≤ 64) (c1 : m ≤ 12) (k2 : i < 0) :
    Calls Tryd.prog 5 #[.slice A n c, .int .i64 i, idv leaf, .slice A2 m c2] w fun e w' => e = .returned (.bool true) ∧ Below w.heap.size w w' := by
  obtain ⟨ta, tb, htx, htl⟩ : ∃ ta tb, clashP l i leaf p = (ta, tb, false) ∧ ta.length = 0 ∧ tb.length = 0 := ⟨[], [], clash_no (by rw [hl]; intro h; have h := h.1; unfold checkT at h; simp only [decide_eq_true_eq] at h; omega), rfl, rfl⟩
  have HTX := Lib.hid htx
  have HTL := Lib.hid htl
  clear htx htl
  have c0' : ¬ (64 : Int) < (n : Int) := by omega
  have c1' : ¬ (12 : Int) < (m : Int) := by omega
  unfold I64 at hi
  have HAW := Lib.hid (awake_any T (w.alloc (.cells (arrB 32 leaf) 29)) (ht.below ((Below.refl _ _).alloc (Nat.le_refl _) _)))
  have E0 : Hid (EnvX w (w.alloc (.cells (arrB 32 leaf) 29)) [(w.heap.size, Obj.cells (arrB 32 leaf) 29 (0, 0))]) := (EnvX.start w).new _
  have HT := Lib.hid ht
  have HTREE := Lib.hid T
  have HX := Lib.hid hx
  have HL := Lib.hid hl
  have HM := Lib.hid hm
  have HI := Lib.hid (And.intro hI hA)
  have HJ := Lib.hid (And.intro hJ hA2)
  have HCM := Lib.hid (And.intro hcm hc2)
  unfold maxLen at hcm hc2
  clear ht T hx hl hm hI hA hJ hA2
  unfold idv
  go_enter Tryd.func5, Tryd.ntmps5
  go_upto_region 1 with (fail)
  generalize w.alloc (.cells (arrB 32 leaf) 29) = W at *
  go_wp2_with fail
  refine HAW.out.mono ?_
  rintro e w1 ⟨rfl, hb1⟩
  have HB1 := Lib.hid (EnvX.below E0.out hb1).bel
  have E1 : Hid (EnvX w1 w1 [(w.heap.size, Obj.cells (arrB 32 leaf) 29 (0, 0))]) := ⟨Below.refl _ _, (EnvX.below E0.out hb1).box⟩
  have HT1 := Lib.hid (HT.out.below HB1.out)
  clear hb1 E0 HAW
  have HCL : Hid (Calls Tryd.prog 21 #[.slice A n c, .int .i64 i, idv leaf, .slice A2 m c2] w1 fun e w' => (∃ va vb, e = .returned (.tuple #[va, vb, .bool false]) ∧ OwnB w' w1.heap.size va ta ∧ OwnB w' w1.heap.size vb tb) ∧ Below w1.heap.size w1 w') := by
    have h := HTREE.out.clash l i leaf p A A2 n c m c2 w1 HL.out c0 hnc HCM.out.1 hi HM.out (by omega) hmc HCM.out.2 HI.out.1 (HI.out.2.up HB1.out) HJ.out.1 (HJ.out.2.up HB1.out) HX.out HT1.out
    rw [HTX.out] at h
    exact h
  have HLD : Hid ((loadVar 29 ⟨w.heap.size, 0, none⟩).run Tryd.prog w1 = .ok (idv leaf) w1) := box_load E1.out (List.Mem.head _) HX.out.1
  go_upto_region 4 with (fail)
  go_wp2_with ((with_reducible refine wpList_load_run (o := ⟨some 33, _, _, _, _, _⟩) ?_ 29 (.tmp 6) ?_ ⟨w.heap.size, 0, none⟩ ?_ HLD.out ?_); (rfl); (rfl); (rfl))
  refine HCL.out.mono ?_
  rintro e w2 ⟨⟨va, vb, rfl, hoa, hob⟩, hb0⟩
  obtain ⟨Aa0, ca0, rfl⟩ := hoa.form
  obtain ⟨Ab0, cb0, rfl⟩ := hob.form
  have HOA0 := Lib.hid hoa.up
  have HOB0 := Lib.hid hob.up
  rw [HTL.out.1, HTL.out.2]
  have HB2 := Lib.hid (HB1.out.trans (hb0.mono HB1.out.size))
  have E2 : Hid (EnvX w2 w2 [(w.heap.size, Obj.cells (arrB 32 leaf) 29 (0, 0))]) := ⟨Below.refl _ _, (EnvX.below E1.out hb0).box⟩
  have H20 := Lib.hid hb0
  clear hoa hob hb0 HCL HLD E1
  have HCL : Hid (Calls Tryd.prog 22 #[.slice A n c, .int .i64 i, idv leaf, .slice A2 m c2] w2 fun e w' => (∃ va vb, e = .returned (.tuple #[va, vb, .bool false]) ∧ OwnB w' w2.heap.size va ta ∧ OwnB w' w2.heap.size vb tb) ∧ Below w2.heap.size w2 w') := by
    have h := rclash_all l i leaf p A A2 n c m c2 w2 HL.out c0 hnc HCM.out.1 hi HM.out hmc HCM.out.2 HI.out.1 (HI.out.2.up HB2.out) HJ.out.1 (HJ.out.2.up HB2.out) HX.out
    rw [HTX.out] at h
    exact h
  have HLD : Hid ((loadVar 29 ⟨w.heap.size, 0, none⟩).run Tryd.prog w2 = .ok (idv leaf) w2) := box_load E2.out (List.Mem.head _) HX.out.1
  go_upto_region 5 with (fail)
  go_wp2_with ((with_reducible refine wpList_load_run (o := ⟨some 42, _, _, _, _, _⟩) ?_ 29 (.tmp 6) ?_ ⟨w.heap.size, 0, none⟩ ?_ HLD.out ?_); (rfl); (rfl); (rfl))
  refine HCL.out.mono ?_
  rintro e w3 ⟨⟨va, vb, rfl, hoa, hob⟩, hb1⟩
  obtain ⟨Aa1, ca1, rfl⟩ := hoa.form
  obtain ⟨Ab1, cb1, rfl⟩ := hob.form
  have HOA1 := Lib.hid hoa.up
  have HOB1 := Lib.hid hob.up
  rw [HTL.out.1, HTL.out.2]
  have HB3 := Lib.hid (HB2.out.trans (hb1.mono HB2.out.size))
  have E3 : Hid (EnvX w3 w3 [(w.heap.size, Obj.cells (arrB 32 leaf) 29 (0, 0))]) := ⟨Below.refl _ _, (EnvX.below E2.out hb1).box⟩
  have H21 := Lib.hid hb1
  clear hoa hob hb1 HCL HLD E2
  have HOA3 := Lib.hid (HOA0.out.up H21.out)
  have HOB3 := Lib.hid (HOB0.out.up H21.out)
  obtain ⟨s0, hs0⟩ : ∃ s, strOfNums ta = s := ⟨_, rfl⟩
  obtain ⟨s1, hs1⟩ : ∃ s, strOfNums tb = s := ⟨_, rfl⟩
  have HS0 := Lib.hid hs0
  have HS1 := Lib.hid hs1
  have HE0 : Hid ((!(s0.toList == s0.toList)) = false) := by show _ = _; simp
  have HE1 : Hid ((!(s1.toList == s1.toList)) = false) := by show _ = _; simp
  have HT3 := Lib.hid (HT.out.below HB3.out)
  clear hs0 hs1
  go_upto_region 6 with (fail)
  refine wp_region_Hx (w0 := w3) [0, 1, 2, 3, 4, 5, 6, 7, 8, 9, 10, 11, 12, 13, 14, 15, 16] [(w.heap.size, Obj.cells (arrB 32 leaf) 29 (0, 0))] rfl E3.out ?_
  refine lexH_phase [0, 1, 2, 3, 4, 5, 6, 7, 8, 9, 10, 11, 12, 13, 14, 15, 16] [] ?_
  have hw1 : EnvX w3 _ [(w.heap.size, Obj.cells (arrB 32 leaf) 29 (0, 0))] := E3.out
  have hone := @EnvC.one _ _ _ hw1
  (refine wpG_op rfl rfl rfl ?_; intro K hK; go_big_quiet_op; go_big_quiet_on)
  (refine wpG_op rfl rfl rfl ?_; intro K hK; go_big_quiet_op; go_big_quiet_on)
  (refine wpG_op rfl rfl rfl ?_; intro K hK; go_big_quiet_op; go_big_quiet_on)
  (refine wpG_op rfl rfl rfl ?_; intro K hK; go_big_quiet_op; go_big_quiet_on)
  (refine wpG_op rfl rfl rfl ?_; intro K hK; go_big_quiet_op; go_big_quiet_on)
  (refine wpG_val (v := .string s0) rfl rfl (fun u hu => conv_op u HTL.out.1 (HOA3.out.up (EnvX.bel hu)) HS0.out rfl) ?_ hw1; intro K hK; go_big_quiet_op; go_big_quiet_on)
  (refine wpG_op rfl rfl rfl ?_; intro K hK; go_big_quiet_op; go_big_quiet_on)
  (refine wpG_val (v := .string s0) rfl rfl (fun u hu => conv_op u HTL.out.1 (HOA1.out.up (EnvX.bel hu)) HS0.out rfl) ?_ hw1; intro K hK; go_big_quiet_op; go_big_quiet_on)
  (refine wpG_val (v := .bool false) rfl rfl (fun u hu => nes_op u HE0.out rfl rfl) ?_ hw1; intro K hK; go_big_quiet_op; go_big_quiet_on)
  (refine wpG_op rfl rfl rfl ?_; intro K hK; go_big_quiet_op; go_big_quiet_on)
  (refine wpG_op rfl rfl rfl ?_; intro K hK; go_big_quiet_op; go_big_quiet_on)
  (refine wpG_op rfl rfl rfl ?_; intro K hK; go_big_quiet_op; go_big_quiet_on)
  (refine wpG_val (v := .string s1) rfl rfl (fun u hu => conv_op u HTL.out.2 (HOB3.out.up (EnvX.bel hu)) HS1.out rfl) ?_ hw1; intro K hK; go_big_quiet_op; go_big_quiet_on)
  (refine wpG_op rfl rfl rfl ?_; intro K hK; go_big_quiet_op; go_big_quiet_on)
  (refine wpG_val (v := .string s1) rfl rfl (fun u hu => conv_op u HTL.out.2 (HOB1.out.up (EnvX.bel hu)) HS1.out rfl) ?_ hw1; intro K hK; go_big_quiet_op; go_big_quiet_on)
  (refine wpG_val (v := .bool false) rfl rfl (fun u hu => nes_op u HE1.out rfl rfl) ?_ hw1; intro K hK; go_big_quiet_op; go_big_quiet_on)
  (refine wpG_op rfl rfl rfl ?_; intro K hK; go_big_quiet_op; go_big_quiet_on)
  clear hone hw1
  refine wpG_nil ?_
  intro u3 E2'
  have EX2 := Lib.hid E2'
  clear E2'
  go_upto_region 10 with (fail)
  refine wp_region_H (w0 := w3) [(w.heap.size, Obj.cells (arrB 32 leaf) 29 (0, 0))] (by kernel_rfl) EX2.out ?_
  refine anyH_phase [0, 1, 2, 3, 4, 5, 6, 7, 8, 9, 10, 11, 12, 13, 14, 15, 16, 17, 18, 19, 20, 21, 22, 23, 24, 25, 26, 27] 0 rfl ⟨_, (EnvX.drew EX2.out)⟩ (by kernel_rfl) ?_
  have hw4 : EnvX w3 _ [(w.heap.size, Obj.cells (arrB 32 leaf) 29 (0, 0))] := (EnvX.drew EX2.out)
  have hone := @EnvC.one _ _ _ hw4
  (refine wpG_op rfl rfl rfl ?_; intro K hK; go_big_quiet_op; go_big_quiet_on)
  (refine wpG_op rfl rfl rfl ?_; intro K hK; go_big_quiet_op; go_big_quiet_on)
  (refine wpG_op rfl rfl rfl ?_; intro K hK; go_big_quiet_op; go_big_quiet_on)
  (refine wpG_skip rfl rfl ?_ hw4; intro K hK; go_big_quiet_op; go_big_quiet_on)
  (refine wpG_skip rfl rfl ?_ hw4; intro K hK; go_big_quiet_op; go_big_quiet_on)
  (refine wpG_skip rfl rfl ?_ hw4; intro K hK; go_big_quiet_op; go_big_quiet_on)
  (refine wpG_skip rfl rfl ?_ hw4; intro K hK; go_big_quiet_op; go_big_quiet_on)
  (refine wpG_op rfl rfl rfl ?_; intro K hK; go_big_quiet_op; go_big_quiet_on)
  (refine wpG_op rfl rfl rfl ?_; intro K hK; go_big_quiet_op; go_big_quiet_on)
  (refine wpG_skip rfl rfl ?_ hw4; intro K hK; go_big_quiet_op; go_big_quiet_on)
  (refine wpG_skip rfl rfl ?_ hw4; intro K hK; go_big_quiet_op; go_big_quiet_on)
  (refine wpG_skip rfl rfl ?_ hw4; intro K hK; go_big_quiet_op; go_big_quiet_on)
  (refine wpG_skip rfl rfl ?_ hw4; intro K hK; go_big_quiet_op; go_big_quiet_on)
  (refine wpG_skip rfl rfl ?_ hw4; intro K hK; go_big_quiet_op; go_big_quiet_on)
  (refine wpG_skip rfl rfl ?_ hw4; intro K hK; go_big_quiet_op; go_big_quiet_on)
  (refine wpG_op rfl rfl rfl ?_; intro K hK; go_big_quiet_op; go_big_quiet_on)
  (refine wpG_op rfl rfl rfl ?_; intro K hK; go_big_quiet_op; go_big_quiet_on)
  (refine wpG_skip rfl rfl ?_ hw4; intro K hK; go_big_quiet_op; go_big_quiet_on)
  (refine wpG_skip rfl rfl ?_ hw4; intro K hK; go_big_quiet_op; go_big_quiet_on)
  (refine wpG_skip rfl rfl ?_ hw4; intro K hK; go_big_quiet_op; go_big_quiet_on)
  (refine wpG_skip rfl rfl ?_ hw4; intro K hK; go_big_quiet_op; go_big_quiet_on)
  (refine wpG_skip rfl rfl ?_ hw4; intro K hK; go_big_quiet_op; go_big_quiet_on)
  (refine wpG_skip rfl rfl ?_ hw4; intro K hK; go_big_quiet_op; go_big_quiet_on)
  (refine wpG_skip rfl rfl ?_ hw4; intro K hK; go_big_quiet_op; go_big_quiet_on)
  (refine wpG_skip rfl rfl ?_ hw4; intro K hK; go_big_quiet_op; go_big_quiet_on)
  (refine wpG_skip rfl rfl ?_ hw4; intro K hK; go_big_quiet_op; go_big_quiet_on)
  (refine wpG_op rfl rfl rfl ?_; intro K hK; go_big_quiet_op; go_big_quiet_on)
  (refine wpG_op rfl rfl rfl ?_; intro K hK; go_big_quiet_op; go_big_quiet_on)
  clear hone hw4
  refine wpG_nil ?_
  refine anyH_done (by kernel_rfl) ?_
  intro u6 E2'
  have EX5 := Lib.hid E2'
  clear E2'
  go_wp2
  go_ret
  exact ⟨rfl, HB3.out.trans ((EnvX.bel EX5.out).mono HB3.out.size)⟩
set_option maxRecDepth 20000 in
set_option maxHeartbeats 4000000 in
theorem law_clash_o (T : TreeC) (l p : List (List Int)) (A A2 : Option Addr) (n c m c2 : Nat) (i : Nat) (leaf : List Int) (w : World)
    (hx : isId leaf) (hl : l.length = n) (hm : p.length = m) (hnc : n ≤ c) (hcm : c ≤ maxLen) (hmc : m ≤ c2) (hc2 : c2 ≤ maxLen) (hI : isIds l) (hA : IdsIn w w.heap.size A l) (hJ : isIds p) (hA2 : IdsIn w w.heap.size A2 p) (hi : I64 (i : Int)) (ht : Tables w) (c0 : n ≤ 64) (c1 : m ≤ 12) (c3 : n ≤ i) :
    Calls Tryd.prog 5 #[.slice A n c, .int .i64 i, idv leaf, .slice A2 m c2] w fun e w' => e = .returned (.bool true) ∧ Below w.heap.size w w' := by
  obtain ⟨ta, tb, htx, htl⟩ : ∃ ta tb, clashP l i leaf p = (ta, tb, false) ∧ ta.length = 0 ∧ tb.length = 0 := ⟨[], [], clash_no (by rw [hl]; intro h; have h := h.1; unfold checkT at h; simp only [decide_eq_true_eq] at h; omega), rfl, rfl⟩
  have HTX := Lib.hid htx
  have HTL := Lib.hid htl
  clear htx htl
  have c2' : ¬ (i : Int) < 0 := by omega
  have c3' : (n : Int) ≤ (i : Int) := by omega
  have c0' : ¬ (64 : Int) < (n : Int) := by omega
  have c1' : ¬ (12 : Int) < (m : Int) := by omega
  unfold I64 at hi
  have HAW := Lib.hid (awake_any T (w.alloc (.cells (arrB 32 leaf) 29)) (ht.below ((Below.refl _ _).alloc (Nat.le_refl _) _)))
  have E0 : Hid (EnvX w (w.alloc (.cells (arrB 32 leaf) 29)) [(w.heap.size, Obj.cells (arrB 32 leaf) 29 (0, 0))]) := (EnvX.start w).new _
  have HT := Lib.hid ht
  have HTREE := Lib.hid T
  have HX := Lib.hid hx
  have HL := Lib.hid hl
  have HM := Lib.hid hm
  have HI := Lib.hid (And.intro hI hA)
  have HJ := Lib.hid (And.intro hJ hA2)
  have HCM := Lib.hid (And.intro hcm hc2)
  unfold maxLen at hcm hc2
  clear ht T hx hl hm hI hA hJ hA2
  unfold idv
  go_enter Tryd.func5, Tryd.ntmps5
  go_upto_region 1 with (fail)
  generalize w.alloc (.cells (arrB 32 leaf) 29) = W at *
  go_wp2_with fail
  refine HAW.out.mono ?_
  rintro e w1 ⟨rfl, hb1⟩
  have HB1 := Lib.hid (EnvX.below E0.out hb1).bel
  have E1 : Hid (EnvX w1 w1 [(w.heap.size, Obj.cells (arrB 32 leaf) 29 (0, 0))]) := ⟨Below.refl _ _, (EnvX.below E0.out hb1).box⟩
  have HT1 := Lib.hid (HT.out.below HB1.out)
  clear hb1 E0 HAW
  have HCL : Hid (Calls Tryd.prog 21 #[.slice A n c, .int .i64 i, idv leaf, .slice A2 m c2] w1 fun e w' => (∃ va vb, e = .returned (.tuple #[va, vb, .bool false]) ∧ OwnB w' w1.heap.size va ta ∧ OwnB w' w1.heap.size vb tb) ∧ Below w1.heap.size w1 w') := by
    have h := HTREE.out.clash l i leaf p A A2 n c m c2 w1 HL.out c0 hnc HCM.out.1 hi HM.out (by omega) hmc HCM.out.2 HI.out.1 (HI.out.2.up HB1.out) HJ.out.1 (HJ.out.2.up HB1.out) HX.out HT1.out
    rw [HTX.out] at h
    exact h
  have HLD : Hid ((loadVar 29 ⟨w.heap.size, 0, none⟩).run Tryd.prog w1 = .ok (idv leaf) w1) := box_load E1.out (List.Mem.head _) HX.out.1
  go_upto_region 4 with (fail)
  go_wp2_with ((with_reducible refine wpList_load_run (o := ⟨some 33, _, _, _, _, _⟩) ?_ 29 (.tmp 6) ?_ ⟨w.heap.size, 0, none⟩ ?_ HLD.out ?_); (rfl); (rfl); (rfl))
  refine HCL.out.mono ?_
  rintro e w2 ⟨⟨va, vb, rfl, hoa, hob⟩, hb0⟩
  obtain ⟨Aa0, ca0, rfl⟩ := hoa.form
  obtain ⟨Ab0, cb0, rfl⟩ := hob.form
  have HOA0 := Lib.hid hoa.up
  have HOB0 := Lib.hid hob.up
  rw [HTL.out.1, HTL.out.2]
  have HB2 := Lib.hid (HB1.out.trans (hb0.mono HB1.out.size))
  have E2 : Hid (EnvX w2 w2 [(w.heap.size, Obj.cells (arrB 32 leaf) 29 (0, 0))]) := ⟨Below.refl _ _, (EnvX.below E1.out hb0).box⟩
  have H20 := Lib.hid hb0
  clear hoa hob hb0 HCL HLD E1
  have HCL : Hid (Calls Tryd.prog 22 #[.slice A n c, .int .i64 i, idv leaf, .slice A2 m c2] w2 fun e w' => (∃ va vb, e = .returned (.tuple #[va, vb, .bool false]) ∧ OwnB w' w2.heap.size va ta ∧ OwnB w' w2.heap.size vb tb) ∧ Below w2.heap.size w2 w') := by
    have h := rclash_all l i leaf p A A2 n c m c2 w2 HL.out c0 hnc HCM.out.1 hi HM.out hmc HCM.out.2 HI.out.1 (HI.out.2.up HB2.out) HJ.out.1 (HJ.out.2.up HB2.out) HX.out
    rw [HTX.out] at h
    exact h
  have HLD : Hid ((loadVar 29 ⟨w.heap.size, 0, none⟩).run Tryd.prog w2 = .ok (idv leaf) w2) := box_load E2.out (List.Mem.head _) HX.out.1
  go_upto_region 5 with (fail)
  go_wp2_with ((with_reducible refine wpList_load_run (o := ⟨some 42, _, _, _, _, _⟩) ?_ 29 (.tmp 6) ?_ ⟨w.heap.size, 0, none⟩ ?_ HLD.out ?_); (rfl); (rfl); (rfl))
  refine HCL.out.mono ?_
  rintro e w3 ⟨⟨va, vb, rfl, hoa, hob⟩, hb1⟩
  obtain ⟨Aa1, ca1, rfl⟩ := hoa.form
  obtain ⟨Ab1, cb1, rfl⟩ := hob.form
  have HOA1 := Lib.hid hoa.up
  have HOB1 := Lib.hid hob.up
  rw [HTL.out.1, HTL.out.2]
  have HB3 := Lib.hid (HB2.out.trans (hb1.mono HB2.out.size))
  have E3 : Hid (EnvX w3 w3 [(w.heap.size, Obj.cells (arrB 32 leaf) 29 (0, 0))]) := ⟨Below.refl _ _, (EnvX.below E2.out hb1).box⟩
  have H21 := Lib.hid hb1
  clear hoa hob hb1 HCL HLD E2
  have HOA3 := Lib.hid (HOA0.out.up H21.out)
  have HOB3 := Lib.hid (HOB0.out.up H21.out)
  obtain ⟨s0, hs0⟩ : ∃ s, strOfNums ta = s := ⟨_, rfl⟩
  obtain ⟨s1, hs1⟩ : ∃ s, strOfNums tb = s := ⟨_, rfl⟩
  have HS0 := Lib.hid hs0
  have HS1 := Lib.hid hs1
  have HE0 : Hid ((!(s0.toList == s0.toList)) = false) := by show _ = _; simp
  have HE1 : Hid ((!(s1.toList == s1.toList)) = false) := by show _ = _; simp
  have HT3 := Lib.hid (HT.out.below HB3.out)
  clear hs0 hs1
  go_upto_region 6 with (fail)
  refine wp_region_Hx (w0 := w3) [0, 1, 2, 3, 4, 5, 6, 7, 8, 9, 10, 11, 12, 13, 14, 15, 16] [(w.heap.size, Obj.cells (arrB 32 leaf) 29 (0, 0))] rfl E3.out ?_
  refine lexH_phase [0, 1, 2, 3, 4, 5, 6, 7, 8, 9, 10, 11, 12, 13, 14, 15, 16] [] ?_
  have hw1 : EnvX w3 _ [(w.heap.size, Obj.cells (arrB 32 leaf) 29 (0, 0))] := E3.out
  have hone := @EnvC.one _ _ _ hw1
  (refine wpG_op rfl rfl rfl ?_; intro K hK; go_big_quiet_op; go_big_quiet_on)
  (refine wpG_op rfl rfl rfl ?_; intro K hK; go_big_quiet_op; go_big_quiet_on)
  (refine wpG_op rfl rfl rfl ?_; intro K hK; go_big_quiet_op; go_big_quiet_on)
  (refine wpG_op rfl rfl rfl ?_; intro K hK; go_big_quiet_op; go_big_quiet_on)
  (refine wpG_op rfl rfl rfl ?_; intro K hK; go_big_quiet_op; go_big_quiet_on)
  (refine wpG_val (v := .string s0) rfl rfl (fun u hu => conv_op u HTL.out.1 (HOA3.out.up (EnvX.bel hu)) HS0.out rfl) ?_ hw1; intro K hK; go_big_quiet_op; go_big_quiet_on)
  (refine wpG_op rfl rfl rfl ?_; intro K hK; go_big_quiet_op; go_big_quiet_on)
  (refine wpG_val (v := .string s0) rfl rfl (fun u hu => conv_op u HTL.out.1 (HOA1.out.up (EnvX.bel hu)) HS0.out rfl) ?_ hw1; intro K hK; go_big_quiet_op; go_big_quiet_on)
  (refine wpG_val (v := .bool false) rfl rfl (fun u hu => nes_op u HE0.out rfl rfl) ?_ hw1; intro K hK; go_big_quiet_op; go_big_quiet_on)
  (refine wpG_op rfl rfl rfl ?_; intro K hK; go_big_quiet_op; go_big_quiet_on)
  (refine wpG_op rfl rfl rfl ?_; intro K hK; go_big_quiet_op; go_big_quiet_on)
  (refine wpG_op rfl rfl rfl ?_; intro K hK; go_big_quiet_op; go_big_quiet_on)
  (refine wpG_val (v := .string s1) rfl rfl (fun u hu => conv_op u HTL.out.2 (HOB3.out.up (EnvX.bel hu)) HS1.out rfl) ?_ hw1; intro K hK; go_big_quiet_op; go_big_quiet_on)
  (refine wpG_op rfl rfl rfl ?_; intro K hK; go_big_quiet_op; go_big_quiet_on)
  (refine wpG_val (v := .string s1) rfl rfl (fun u hu => conv_op u HTL.out.2 (HOB1.out.up (EnvX.bel hu)) HS1.out rfl) ?_ hw1; intro K hK; go_big_quiet_op; go_big_quiet_on)
  (refine wpG_val (v := .bool false) rfl rfl (fun u hu => nes_op u HE1.out rfl rfl) ?_ hw1; intro K hK; go_big_quiet_op; go_big_quiet_on)
  (refine wpG_op rfl rfl rfl ?_; intro K hK; go_big_quiet_op; go_big_quiet_on)
  clear hone hw1
  refine wpG_nil ?_
  intro u3 E2'
  have EX2 := Lib.hid E2'
  clear E2'
  go_upto_region 10 with (fail)
  refine wp_region_H (w0 := w3) [(w.heap.size, Obj.cells (arrB 32 leaf) 29 (0, 0))] (by kernel_rfl) EX2.out ?_
  refine anyH_phase [0, 1, 2, 3, 4, 5, 6, 7, 8, 9, 10, 11, 12, 13, 14, 15, 16, 17, 18, 19, 20, 21, 22, 23, 24, 25, 26, 27] 0 rfl ⟨_, (EnvX.drew EX2.out)⟩ (by kernel_rfl) ?_
  have hw4 : EnvX w3 _ [(w.heap.size, Obj.cells (arrB 32 leaf) 29 (0, 0))] := (EnvX.drew EX2.out)
  have hone := @EnvC.one _ _ _ hw4
  (refine wpG_op rfl rfl rfl ?_; intro K hK; go_big_quiet_op; go_big_quiet_on)
  (refine wpG_op rfl rfl rfl ?_; intro K hK; go_big_quiet_op; go_big_quiet_on)
  (refine wpG_op rfl rfl rfl ?_; intro K hK; go_big_quiet_op; go_big_quiet_on)
  (refine wpG_op rfl rfl rfl ?_; intro K hK; go_big_quiet_op; go_big_quiet_on)
  (refine wpG_op rfl rfl rfl ?_; intro K hK; go_big_quiet_op; go_big_quiet_on)
  (refine wpG_val (v := .int .i64 n) rfl rfl (fun u hu => lenI_op u rfl) ?_ hw4; intro K hK; go_big_quiet_op; go_big_quiet_on)
  (refine wpG_op rfl rfl rfl ?_; intro K hK; go_big_quiet_op; go_big_quiet_on)
  (refine wpG_op rfl rfl rfl ?_; intro K hK; go_big_quiet_op; go_big_quiet_on)
  (refine wpG_op rfl rfl rfl ?_; intro K hK; go_big_quiet_op; go_big_quiet_on)
  (refine wpG_skip rfl rfl ?_ hw4; intro K hK; go_big_quiet_op; go_big_quiet_on)
  (refine wpG_skip rfl rfl ?_ hw4; intro K hK; go_big_quiet_op; go_big_quiet_on)
  (refine wpG_skip rfl rfl ?_ hw4; intro K hK; go_big_quiet_op; go_big_quiet_on)
  (refine wpG_skip rfl rfl ?_ hw4; intro K hK; go_big_quiet_op; go_big_quiet_on)
  (refine wpG_skip rfl rfl ?_ hw4; intro K hK; go_big_quiet_op; go_big_quiet_on)
  (refine wpG_skip rfl rfl ?_ hw4; intro K hK; go_big_quiet_op; go_big_quiet_on)
  (refine wpG_op rfl rfl rfl ?_; intro K hK; go_big_quiet_op; go_big_quiet_on)
  (refine wpG_op rfl rfl rfl ?_; intro K hK; go_big_quiet_op; go_big_quiet_on)
  (refine wpG_skip rfl rfl ?_ hw4; intro K hK; go_big_quiet_op; go_big_quiet_on)
  (refine wpG_skip rfl rfl ?_ hw4; intro K hK; go_big_quiet_op; go_big_quiet_on)
  (refine wpG_skip rfl rfl ?_ hw4; intro K hK; go_big_quiet_op; go_big_quiet_on)
  (refine wpG_skip rfl rfl ?_ hw4; intro K hK; go_big_quiet_op; go_big_quiet_on)
  (refine wpG_skip rfl rfl ?_ hw4; intro K hK; go_big_quiet_op; go_big_quiet_on)
  (refine wpG_skip rfl rfl ?_ hw4; intro K hK; go_big_quiet_op; go_big_quiet_on)
  (refine wpG_skip rfl rfl ?_ hw4; intro K hK; go_big_quiet_op; go_big_quiet_on)
  (refine wpG_skip rfl rfl ?_ hw4; intro K hK; go_big_quiet_op; go_big_quiet_on)
  (refine wpG_skip rfl rfl ?_ hw4; intro K hK; go_big_quiet_op; go_big_quiet_on)
  (refine wpG_op rfl rfl rfl ?_; intro K hK; go_big_quiet_op; go_big_quiet_on)
  (refine wpG_op rfl rfl rfl ?_; intro K hK; go_big_quiet_op; go_big_quiet_on)
  clear hone hw4
  refine wpG_nil ?_
  refine anyH_done (by kernel_rfl) ?_
  intro u6 E2'
  have EX5 := Lib.hid E2'
  clear E2'
  go_wp2
  go_ret
  exact ⟨rfl, HB3.out.trans ((EnvX.bel EX5.out).mono HB3.out.size)⟩
set_option maxRecDepth 20000 in
set_option maxHeartbeats 4000000 in
theorem law_clash_e (T : TreeC) (l p : List (List Int)) (A A2 : Option Addr) (n c m c2 : Nat) (i : Nat) (leaf : List Int) (w : World)
    (hx : isId leaf) (hl : l.length = n) (hm : p.length = m) (hnc : n ≤ c) (hcm : c ≤ maxLen) (hmc : m ≤ c2) (hc2 : c2 ≤ maxLen) (hI : isIds l) (hA : IdsIn w w.heap.size A l) (hJ : isIds p) (hA2 : IdsIn w w.heap.size A2 p) (ht : Tables w) (c0 : n ≤ 64) (c1 : m ≤ 12) (c3 : i < n) (d0 : leaf = l.getD i []) :
    Calls Tryd.prog 5 #[.slice A n c, .int .i64 i, idv leaf, .slice A2 m c2] w fun e w' => e = .returned (.bool true) ∧ Below w.heap.size w w' := by
  have hi : I64 (i : Int) := ⟨by omega, by omega⟩
  obtain ⟨ta, tb, htx, htl⟩ : ∃ ta tb, clashP l i leaf p = (ta, tb, false) ∧ ta.length = 0 ∧ tb.length = 0 := ⟨[], [], clash_no (by rw [Int.toNat_natCast]; exact fun h => h.2 d0), rfl, rfl⟩
  have HTX := Lib.hid htx
  have HTL := Lib.hid htl
  clear htx htl
  have c2' : ¬ (i : Int) < 0 := by omega
  have c3' : ¬ (n : Int) ≤ (i : Int) := by omega
  have c4' : (i : Int) < (n : Int) := by omega
  have c5' : ¬ n ≤ i := by omega
  have HEQ : Hid (eqL leaf (l.getD i []) = true) := decide_eq_true d0
  clear d0
  have c0' : ¬ (64 : Int) < (n : Int) := by omega
  have c1' : ¬ (12 : Int) < (m : Int) := by omega
  unfold I64 at hi
  have HAW := Lib.hid (awake_any T (w.alloc (.cells (arrB 32 leaf) 29)) (ht.below ((Below.refl _ _).alloc (Nat.le_refl _) _)))
  have E0 : Hid (EnvX w (w.alloc (.cells (arrB 32 leaf) 29)) [(w.heap.size, Obj.cells (arrB 32 leaf) 29 (0, 0))]) := (EnvX.start w).new _
  have HT := Lib.hid ht
  have HTREE := Lib.hid T
  have HX := Lib.hid hx
  have HL := Lib.hid hl
  have HM := Lib.hid hm
  have HI := Lib.hid (And.intro hI hA)
  have HJ := Lib.hid (And.intro hJ hA2)
  have HCM := Lib.hid (And.intro hcm hc2)
  unfold maxLen at hcm hc2
  clear ht T hx hl hm hI hA hJ hA2
  unfold idv
  go_enter Tryd.func5, Tryd.ntmps5
  go_upto_region 1 with (fail)
  generalize w.alloc (.cells (arrB 32 leaf) 29) = W at *
  go_wp2_with fail
  refine HAW.out.mono ?_
  rintro e w1 ⟨rfl, hb1⟩
  have HB1 := Lib.hid (EnvX.below E0.out hb1).bel
  have E1 : Hid (EnvX w1 w1 [(w.heap.size, Obj.cells (arrB 32 leaf) 29 (0, 0))]) := ⟨Below.refl _ _, (EnvX.below E0.out hb1).box⟩
  have HT1 := Lib.hid (HT.out.below HB1.out)
  clear hb1 E0 HAW
  have HCL : Hid (Calls Tryd.prog 21 #[.slice A n c, .int .i64 i, idv leaf, .slice A2 m c2] w1 fun e w' => (∃ va vb, e = .returned (.tuple #[va, vb, .bool false]) ∧ OwnB w' w1.heap.size va ta ∧ OwnB w' w1.heap.size vb tb) ∧ Below w1.heap.size w1 w') := by
    have h := HTREE.out.clash l i leaf p A A2 n c m c2 w1 HL.out c0 hnc HCM.out.1 hi HM.out (by omega) hmc HCM.out.2 HI.out.1 (HI.out.2.up HB1.out) HJ.out.1 (HJ.out.2.up HB1.out) HX.out HT1.out
    rw [HTX.out] at h
    exact h
  have HLD : Hid ((loadVar 29 ⟨w.heap.size, 0, none⟩).run Tryd.prog w1 = .ok (idv leaf) w1) := box_load E1.out (List.Mem.head _) HX.out.1
  go_upto_region 4 with (fail)
  go_wp2_with ((with_reducible refine wpList_load_run (o := ⟨some 33, _, _, _, _, _⟩) ?_ 29 (.tmp 6) ?_ ⟨w.heap.size, 0, none⟩ ?_ HLD.out ?_); (rfl); (rfl); (rfl))
  refine HCL.out.mono ?_
  rintro e w2 ⟨⟨va, vb, rfl, hoa, hob⟩, hb0⟩
  obtain ⟨Aa0, ca0, rfl⟩ := hoa.form
  obtain ⟨Ab0, cb0, rfl⟩ := hob.form
  have HOA0 := Lib.hid hoa.up
  have HOB0 := Lib.hid hob.up
  rw [HTL.out.1, HTL.out.2]
  have HB2 := Lib.hid (HB1.out.trans (hb0.mono HB1.out.size))
  have E2 : Hid (EnvX w2 w2 [(w.heap.size, Obj.cells (arrB 32 leaf) 29 (0, 0))]) := ⟨Below.refl _ _, (EnvX.below E1.out hb0).box⟩
  have H20 := Lib.hid hb0
  clear hoa hob hb0 HCL HLD E1
  have HCL : Hid (Calls Tryd.prog 22 #[.slice A n c, .int .i64 i, idv leaf, .slice A2 m c2] w2 fun e w' => (∃ va vb, e = .returned (.tuple #[va, vb, .bool false]) ∧ OwnB w' w2.heap.size va ta ∧ OwnB w' w2.heap.size vb tb) ∧ Below w2.heap.size w2 w') := by
    have h := rclash_all l i leaf p A A2 n c m c2 w2 HL.out c0 hnc HCM.out.1 hi HM.out hmc HCM.out.2 HI.out.1 (HI.out.2.up HB2.out) HJ.out.1 (HJ.out.2.up HB2.out) HX.out
    rw [HTX.out] at h
    exact h
  have HLD : Hid ((loadVar 29 ⟨w.heap.size, 0, none⟩).run Tryd.prog w2 = .ok (idv leaf) w2) := box_load E2.out (List.Mem.head _) HX.out.1
  go_upto_region 5 with (fail)
  go_wp2_with ((with_reducible refine wpList_load_run (o := ⟨some 42, _, _, _, _, _⟩) ?_ 29 (.tmp 6) ?_ ⟨w.heap.size, 0, none⟩ ?_ HLD.out ?_); (rfl); (rfl); (rfl))
  refine HCL.out.mono ?_
  rintro e w3 ⟨⟨va, vb, rfl, hoa, hob⟩, hb1⟩
  obtain ⟨Aa1, ca1, rfl⟩ := hoa.form
  obtain ⟨Ab1, cb1, rfl⟩ := hob.form
  have HOA1 := Lib.hid hoa.up
  have HOB1 := Lib.hid hob.up
  rw [HTL.out.1, HTL.out.2]
  have HB3 := Lib.hid (HB2.out.trans (hb1.mono HB2.out.size))
  have E3 : Hid (EnvX w3 w3 [(w.heap.size, Obj.cells (arrB 32 leaf) 29 (0, 0))]) := ⟨Below.refl _ _, (EnvX.below E2.out hb1).box⟩
  have H21 := Lib.hid hb1
  clear hoa hob hb1 HCL HLD E2
  have HOA3 := Lib.hid (HOA0.out.up H21.out)
  have HOB3 := Lib.hid (HOB0.out.up H21.out)
  obtain ⟨s0, hs0⟩ : ∃ s, strOfNums ta = s := ⟨_, rfl⟩
  obtain ⟨s1, hs1⟩ : ∃ s, strOfNums tb = s := ⟨_, rfl⟩
  have HS0 := Lib.hid hs0
  have HS1 := Lib.hid hs1
  have HE0 : Hid ((!(s0.toList == s0.toList)) = false) := by show _ = _; simp
  have HE1 : Hid ((!(s1.toList == s1.toList)) = false) := by show _ = _; simp
  have HT3 := Lib.hid (HT.out.below HB3.out)
  clear hs0 hs1
  go_upto_region 6 with (fail)
  refine wp_region_Hx (w0 := w3) [0, 1, 2, 3, 4, 5, 6, 7, 8, 9, 10, 11, 12, 13, 14, 15, 16] [(w.heap.size, Obj.cells (arrB 32 leaf) 29 (0, 0))] rfl E3.out ?_
  refine lexH_phase [0, 1, 2, 3, 4, 5, 6, 7, 8, 9, 10, 11, 12, 13, 14, 15, 16] [] ?_
  have hw1 : EnvX w3 _ [(w.heap.size, Obj.cells (arrB 32 leaf) 29 (0, 0))] := E3.out
  have hone := @EnvC.one _ _ _ hw1
  (refine wpG_op rfl rfl rfl ?_; intro K hK; go_big_quiet_op; go_big_quiet_on)
  (refine wpG_op rfl rfl rfl ?_; intro K hK; go_big_quiet_op; go_big_quiet_on)
  (refine wpG_op rfl rfl rfl ?_; intro K hK; go_big_quiet_op; go_big_quiet_on)
  (refine wpG_op rfl rfl rfl ?_; intro K hK; go_big_quiet_op; go_big_quiet_on)
  (refine wpG_op rfl rfl rfl ?_; intro K hK; go_big_quiet_op; go_big_quiet_on)
  (refine wpG_val (v := .string s0) rfl rfl (fun u hu => conv_op u HTL.out.1 (HOA3.out.up (EnvX.bel hu)) HS0.out rfl) ?_ hw1; intro K hK; go_big_quiet_op; go_big_quiet_on)
  (refine wpG_op rfl rfl rfl ?_; intro K hK; go_big_quiet_op; go_big_quiet_on)
  (refine wpG_val (v := .string s0) rfl rfl (fun u hu => conv_op u HTL.out.1 (HOA1.out.up (EnvX.bel hu)) HS0.out rfl) ?_ hw1; intro K hK; go_big_quiet_op; go_big_quiet_on)
  (refine wpG_val (v := .bool false) rfl rfl (fun u hu => nes_op u HE0.out rfl rfl) ?_ hw1; intro K hK; go_big_quiet_op; go_big_quiet_on)
  (refine wpG_op rfl rfl rfl ?_; intro K hK; go_big_quiet_op; go_big_quiet_on)
  (refine wpG_op rfl rfl rfl ?_; intro K hK; go_big_quiet_op; go_big_quiet_on)
  (refine wpG_op rfl rfl rfl ?_; intro K hK; go_big_quiet_op; go_big_quiet_on)
  (refine wpG_val (v := .string s1) rfl rfl (fun u hu => conv_op u HTL.out.2 (HOB3.out.up (EnvX.bel hu)) HS1.out rfl) ?_ hw1; intro K hK; go_big_quiet_op; go_big_quiet_on)
  (refine wpG_op rfl rfl rfl ?_; intro K hK; go_big_quiet_op; go_big_quiet_on)
  (refine wpG_val (v := .string s1) rfl rfl (fun u hu => conv_op u HTL.out.2 (HOB1.out.up (EnvX.bel hu)) HS1.out rfl) ?_ hw1; intro K hK; go_big_quiet_op; go_big_quiet_on)
  (refine wpG_val (v := .bool false) rfl rfl (fun u hu => nes_op u HE1.out rfl rfl) ?_ hw1; intro K hK; go_big_quiet_op; go_big_quiet_on)
  (refine wpG_op rfl rfl rfl ?_; intro K hK; go_big_quiet_op; go_big_quiet_on)
  clear hone hw1
  refine wpG_nil ?_
  intro u3 E2'
  have EX2 := Lib.hid E2'
  clear E2'
  obtain ⟨a1, rfl, h1⟩ := (HI.out.2.up HB3.out).loads HI.out.1 (k := i) (by rw [HL.out]; exact c3)
  have H1 := Lib.hid h1
  have HY := Lib.hid (HI.out.1.get (i := i) (by rw [HL.out]; exact c3))
  clear h1
  go_upto_region 10 with (fail)
  refine wp_region_H (w0 := w3) [(w.heap.size, Obj.cells (arrB 32 leaf) 29 (0, 0))] (by kernel_rfl) EX2.out ?_
  refine anyH_phase [0, 1, 2, 3, 4, 5, 6, 7, 8, 9, 10, 11, 12, 13, 14, 15, 16, 17, 18, 19, 20, 21, 22, 23, 24, 25, 26, 27] 0 rfl ⟨_, (EnvX.drew EX2.out)⟩ (by kernel_rfl) ?_
  have hw4 : EnvX w3 _ [(w.heap.size, Obj.cells (arrB 32 leaf) 29 (0, 0))] := (EnvX.drew EX2.out)
  have hone := @EnvC.one _ _ _ hw4
  (refine wpG_op rfl rfl rfl ?_; intro K hK; go_big_quiet_op; go_big_quiet_on)
  (refine wpG_op rfl rfl rfl ?_; intro K hK; go_big_quiet_op; go_big_quiet_on)
  (refine wpG_op rfl rfl rfl ?_; intro K hK; go_big_quiet_op; go_big_quiet_on)
  (refine wpG_op rfl rfl rfl ?_; intro K hK; go_big_quiet_op; go_big_quiet_on)
  (refine wpG_op rfl rfl rfl ?_; intro K hK; go_big_quiet_op; go_big_quiet_on)
  (refine wpG_val (v := .int .i64 n) rfl rfl (fun u hu => lenI_op u rfl) ?_ hw4; intro K hK; go_big_quiet_op; go_big_quiet_on)
  (refine wpG_op rfl rfl rfl ?_; intro K hK; go_big_quiet_op; go_big_quiet_on)
  (refine wpG_op rfl rfl rfl ?_; intro K hK; go_big_quiet_op; go_big_quiet_on)
  (refine wpG_op rfl rfl rfl ?_; intro K hK; go_big_quiet_op; go_big_quiet_on)
  (refine wpG_val (v := idv leaf) rfl rfl (fun u hu => load_run_op u (box_load hu (List.Mem.head _) HX.out.1) rfl) ?_ hw4; intro K hK; go_big_quiet_op; go_big_quiet_on)
  (refine wpG_op rfl rfl rfl ?_; intro K hK; go_big_quiet_op; go_big_quiet_on)
  (refine wpG_op rfl rfl rfl ?_; intro K hK; go_big_quiet_op; go_big_quiet_on)
  (refine wpG_op rfl rfl rfl ?_; intro K hK; go_big_quiet_op; go_big_quiet_on)
  (refine wpG_val (v := idv (l.getD i [])) rfl rfl (fun u hu => load_run_op u (H1.out u (EnvX.sub hu (fun _ h => by cases h))) rfl) ?_ hw4; intro K hK; go_big_quiet_op; go_big_quiet_on)
  (refine wpG_val (v := .bool true) rfl rfl (fun u hu => eqlb_op HX.out.1 HY.out.1 HEQ.out u rfl rfl) ?_ hw4; intro K hK; go_big_quiet_op; go_big_quiet_on)
  (refine wpG_op rfl rfl rfl ?_; intro K hK; go_big_quiet_op; go_big_quiet_on)
  (refine wpG_op rfl rfl rfl ?_; intro K hK; go_big_quiet_op; go_big_quiet_on)
  (refine wpG_skip rfl rfl ?_ hw4; intro K hK; go_big_quiet_op; go_big_quiet_on)
  (refine wpG_skip rfl rfl ?_ hw4; intro K hK; go_big_quiet_op; go_big_quiet_on)
  (refine wpG_skip rfl rfl ?_ hw4; intro K hK; go_big_quiet_op; go_big_quiet_on)
  (refine wpG_skip rfl rfl ?_ hw4; intro K hK; go_big_quiet_op; go_big_quiet_on)
  (refine wpG_skip rfl rfl ?_ hw4; intro K hK; go_big_quiet_op; go_big_quiet_on)
  (refine wpG_skip rfl rfl ?_ hw4; intro K hK; go_big_quiet_op; go_big_quiet_on)
  (refine wpG_skip rfl rfl ?_ hw4; intro K hK; go_big_quiet_op; go_big_quiet_on)
  (refine wpG_skip rfl rfl ?_ hw4; intro K hK; go_big_quiet_op; go_big_quiet_on)
  (refine wpG_skip rfl rfl ?_ hw4; intro K hK; go_big_quiet_op; go_big_quiet_on)
  (refine wpG_op rfl rfl rfl ?_; intro K hK; go_big_quiet_op; go_big_quiet_on)
  (refine wpG_op rfl rfl rfl ?_; intro K hK; go_big_quiet_op; go_big_quiet_on)
  clear hone hw4
  refine wpG_nil ?_
  refine anyH_done (by kernel_rfl) ?_
  intro u6 E2'
  have EX5 := Lib.hid E2'
  clear E2'
  go_wp2
  go_ret
  exact ⟨rfl, HB3.out.trans ((EnvX.bel EX5.out).mono HB3.out.size)⟩
set_option maxRecDepth 20000 in
set_option maxHeartbeats 4000000 in
theorem law_clash_c (T : TreeC) (l p : List (List Int)) (A A2 : Option Addr) (n c m c2 : Nat) (i : Nat) (leaf : List Int) (w : World)
    (hx : isId leaf) (hl : l.length = n) (hm : p.length = m) (hnc : n ≤ c) (hcm : c ≤ maxLen) (hmc : m ≤ c2) (hc2 : c2 ≤ maxLen) (hI : isIds l) (hA : IdsIn w w.heap.size A l) (hJ : isIds p) (hA2 : IdsIn w w.heap.size A2 p) (ht : Tables w) (c0 : n ≤ 64) (c1 : m ≤ 12) (c3 : i < n) (d0 : leaf ≠ l.getD i []) (d1 : checkT (rootT l) n i leaf p = false) :
    Calls Tryd.prog 5 #[.slice A n c, .int .i64 i, idv leaf, .slice A2 m c2] w fun e w' => e = .returned (.bool true) ∧ Below w.heap.size w w' := by
  have hi : I64 (i : Int) := ⟨by omega, by omega⟩
  obtain ⟨ta, tb, htx, htl⟩ : ∃ ta tb, clashP l i leaf p = (ta, tb, false) ∧ ta.length = 0 ∧ tb.length = 0 := ⟨[], [], clash_no (by rw [hl, d1]; exact fun h => Bool.noConfusion h.1), rfl, rfl⟩
  have HTX := Lib.hid htx
  have HTL := Lib.hid htl
  clear htx htl
  have c2' : ¬ (i : Int) < 0 := by omega
  have c3' : ¬ (n : Int) ≤ (i : Int) := by omega
  have c4' : (i : Int) < (n : Int) := by omega
  have c5' : ¬ n ≤ i := by omega
  have HEQ : Hid (eqL leaf (l.getD i []) = false) := decide_eq_false d0
  have HC0 := Lib.hid d1
  clear d0 d1
  have c0' : ¬ (64 : Int) < (n : Int) := by omega
  have c1' : ¬ (12 : Int) < (m : Int) := by omega
  unfold I64 at hi
  have HAW := Lib.hid (awake_any T (w.alloc (.cells (arrB 32 leaf) 29)) (ht.below ((Below.refl _ _).alloc (Nat.le_refl _) _)))
  have E0 : Hid (EnvX w (w.alloc (.cells (arrB 32 leaf) 29)) [(w.heap.size, Obj.cells (arrB 32 leaf) 29 (0, 0))]) := (EnvX.start w).new _
  have HT := Lib.hid ht
  have HTREE := Lib.hid T
  have HX := Lib.hid hx
  have HL := Lib.hid hl
  have HM := Lib.hid hm
  have HI := Lib.hid (And.intro hI hA)
  have HJ := Lib.hid (And.intro hJ hA2)
  have HCM := Lib.hid (And.intro hcm hc2)
  unfold maxLen at hcm hc2
  clear ht T hx hl hm hI hA hJ hA2
  unfold idv
  go_enter Tryd.func5, Tryd.ntmps5
  go_upto_region 1 with (fail)
  generalize w.alloc (.cells (arrB 32 leaf) 29) = W at *
  go_wp2_with fail
  refine HAW.out.mono ?_
  rintro e w1 ⟨rfl, hb1⟩
  have HB1 := Lib.hid (EnvX.below E0.out hb1).bel
  have E1 : Hid (EnvX w1 w1 [(w.heap.size, Obj.cells (arrB 32 leaf) 29 (0, 0))]) := ⟨Below.refl _ _, (EnvX.below E0.out hb1).box⟩
  have HT1 := Lib.hid (HT.out.below HB1.out)
  clear hb1 E0 HAW
  have HCL : Hid (Calls Tryd.prog 21 #[.slice A n c, .int .i64 i, idv leaf, .slice A2 m c2] w1 fun e w' => (∃ va vb, e = .returned (.tuple #[va, vb, .bool false]) ∧ OwnB w' w1.heap.size va ta ∧ OwnB w' w1.heap.size vb tb) ∧ Below w1.heap.size w1 w') := by
    have h := HTREE.out.clash l i leaf p A A2 n c m c2 w1 HL.out c0 hnc HCM.out.1 hi HM.out (by omega) hmc HCM.out.2 HI.out.1 (HI.out.2.up HB1.out) HJ.out.1 (HJ.out.2.up HB1.out) HX.out HT1.out
    rw [HTX.out] at h
    exact h
  have HLD : Hid ((loadVar 29 ⟨w.heap.size, 0, none⟩).run Tryd.prog w1 = .ok (idv leaf) w1) := box_load E1.out (List.Mem.head _) HX.out.1
  go_upto_region 4 with (fail)
  go_wp2_with ((with_reducible refine wpList_load_run (o := ⟨some 33, _, _, _, _, _⟩) ?_ 29 (.tmp 6) ?_ ⟨w.heap.size, 0, none⟩ ?_ HLD.out ?_); (rfl); (rfl); (rfl))
  refine HCL.out.mono ?_
  rintro e w2 ⟨⟨va, vb, rfl, hoa, hob⟩, hb0⟩
  obtain ⟨Aa0, ca0, rfl⟩ := hoa.form
  obtain ⟨Ab0, cb0, rfl⟩ := hob.form
  have HOA0 := Lib.hid hoa.up
  have HOB0 := Lib.hid hob.up
  rw [HTL.out.1, HTL.out.2]
  have HB2 := Lib.hid (HB1.out.trans (hb0.mono HB1.out.size))
  have E2 : Hid (EnvX w2 w2 [(w.heap.size, Obj.cells (arrB 32 leaf) 29 (0, 0))]) := ⟨Below.refl _ _, (EnvX.below E1.out hb0).box⟩
  have H20 := Lib.hid hb0
  clear hoa hob hb0 HCL HLD E1
  have HCL : Hid (Calls Tryd.prog 22 #[.slice A n c, .int .i64 i, idv leaf, .slice A2 m c2] w2 fun e w' => (∃ va vb, e = .returned (.tuple #[va, vb, .bool false]) ∧ OwnB w' w2.heap.size va ta ∧ OwnB w' w2.heap.size vb tb) ∧ Below w2.heap.size w2 w') := by
    have h := rclash_all l i leaf p A A2 n c m c2 w2 HL.out c0 hnc HCM.out.1 hi HM.out hmc HCM.out.2 HI.out.1 (HI.out.2.up HB2.out) HJ.out.1 (HJ.out.2.up HB2.out) HX.out
    rw [HTX.out] at h
    exact h
  have HLD : Hid ((loadVar 29 ⟨w.heap.size, 0, none⟩).run Tryd.prog w2 = .ok (idv leaf) w2) := box_load E2.out (List.Mem.head _) HX.out.1
  go_upto_region 5 with (fail)
  go_wp2_with ((with_reducible refine wpList_load_run (o := ⟨some 42, _, _, _, _, _⟩) ?_ 29 (.tmp 6) ?_ ⟨w.heap.size, 0, none⟩ ?_ HLD.out ?_); (rfl); (rfl); (rfl))
  refine HCL.out.mono ?_
  rintro e w3 ⟨⟨va, vb, rfl, hoa, hob⟩, hb1⟩
  obtain ⟨Aa1, ca1, rfl⟩ := hoa.form
  obtain ⟨Ab1, cb1, rfl⟩ := hob.form
  have HOA1 := Lib.hid hoa.up
  have HOB1 := Lib.hid hob.up
  rw [HTL.out.1, HTL.out.2]
  have HB3 := Lib.hid (HB2.out.trans (hb1.mono HB2.out.size))
  have E3 : Hid (EnvX w3 w3 [(w.heap.size, Obj.cells (arrB 32 leaf) 29 (0, 0))]) := ⟨Below.refl _ _, (EnvX.below E2.out hb1).box⟩
  have H21 := Lib.hid hb1
  clear hoa hob hb1 HCL HLD E2
  have HOA3 := Lib.hid (HOA0.out.up H21.out)
  have HOB3 := Lib.hid (HOB0.out.up H21.out)
  obtain ⟨s0, hs0⟩ : ∃ s, strOfNums ta = s := ⟨_, rfl⟩
  obtain ⟨s1, hs1⟩ : ∃ s, strOfNums tb = s := ⟨_, rfl⟩
  have HS0 := Lib.hid hs0
  have HS1 := Lib.hid hs1
  have HE0 : Hid ((!(s0.toList == s0.toList)) = false) := by show _ = _; simp
  have HE1 : Hid ((!(s1.toList == s1.toList)) = false) := by show _ = _; simp
  have HT3 := Lib.hid (HT.out.below HB3.out)
  clear hs0 hs1
  go_upto_region 6 with (fail)
  refine wp_region_Hx (w0 := w3) [0, 1, 2, 3, 4, 5, 6, 7, 8, 9, 10, 11, 12, 13, 14, 15, 16] [(w.heap.size, Obj.cells (arrB 32 leaf) 29 (0, 0))] rfl E3.out ?_
  refine lexH_phase [0, 1, 2, 3, 4, 5, 6, 7, 8, 9, 10, 11, 12, 13, 14, 15, 16] [] ?_
  have hw1 : EnvX w3 _ [(w.heap.size, Obj.cells (arrB 32 leaf) 29 (0, 0))] := E3.out
  have hone := @EnvC.one _ _ _ hw1
  (refine wpG_op rfl rfl rfl ?_; intro K hK; go_big_quiet_op; go_big_quiet_on)
  (refine wpG_op rfl rfl rfl ?_; intro K hK; go_big_quiet_op; go_big_quiet_on)
  (refine wpG_op rfl rfl rfl ?_; intro K hK; go_big_quiet_op; go_big_quiet_on)
  (refine wpG_op rfl rfl rfl ?_; intro K hK; go_big_quiet_op; go_big_quiet_on)
  (refine wpG_op rfl rfl rfl ?_; intro K hK; go_big_quiet_op; go_big_quiet_on)
  (refine wpG_val (v := .string s0) rfl rfl (fun u hu => conv_op u HTL.out.1 (HOA3.out.up (EnvX.bel hu)) HS0.out rfl) ?_ hw1; intro K hK; go_big_quiet_op; go_big_quiet_on)
  (refine wpG_op rfl rfl rfl ?_; intro K hK; go_big_quiet_op; go_big_quiet_on)
  (refine wpG_val (v := .string s0) rfl rfl (fun u hu => conv_op u HTL.out.1 (HOA1.out.up (EnvX.bel hu)) HS0.out rfl) ?_ hw1; intro K hK; go_big_quiet_op; go_big_quiet_on)
  (refine wpG_val (v := .bool false) rfl rfl (fun u hu => nes_op u HE0.out rfl rfl) ?_ hw1; intro K hK; go_big_quiet_op; go_big_quiet_on)
  (refine wpG_op rfl rfl rfl ?_; intro K hK; go_big_quiet_op; go_big_quiet_on)
  (refine wpG_op rfl rfl rfl ?_; intro K hK; go_big_quiet_op; go_big_quiet_on)
  (refine wpG_op rfl rfl rfl ?_; intro K hK; go_big_quiet_op; go_big_quiet_on)
  (refine wpG_val (v := .string s1) rfl rfl (fun u hu => conv_op u HTL.out.2 (HOB3.out.up (EnvX.bel hu)) HS1.out rfl) ?_ hw1; intro K hK; go_big_quiet_op; go_big_quiet_on)
  (refine wpG_op rfl rfl rfl ?_; intro K hK; go_big_quiet_op; go_big_quiet_on)
  (refine wpG_val (v := .string s1) rfl rfl (fun u hu => conv_op u HTL.out.2 (HOB1.out.up (EnvX.bel hu)) HS1.out rfl) ?_ hw1; intro K hK; go_big_quiet_op; go_big_quiet_on)
  (refine wpG_val (v := .bool false) rfl rfl (fun u hu => nes_op u HE1.out rfl rfl) ?_ hw1; intro K hK; go_big_quiet_op; go_big_quiet_on)
  (refine wpG_op rfl rfl rfl ?_; intro K hK; go_big_quiet_op; go_big_quiet_on)
  clear hone hw1
  refine wpG_nil ?_
  intro u3 E2'
  have EX2 := Lib.hid E2'
  clear E2'
  obtain ⟨a1, rfl, h1⟩ := (HI.out.2.up HB3.out).loads HI.out.1 (k := i) (by rw [HL.out]; exact c3)
  have H1 := Lib.hid h1
  have HY := Lib.hid (HI.out.1.get (i := i) (by rw [HL.out]; exact c3))
  clear h1
  have HRT : Hid (∀ u, EnvX w3 u [] → Calls Tryd.prog 13 #[.slice (some a1) n c] u fun e w' => e = .returned (idv (rootT l)) ∧ Below u.heap.size u w') := fun u hu => HTREE.out.root l (some a1) n c u HL.out (by omega) hnc HCM.out.1 HI.out.1 ((HI.out.2.up HB3.out).up (EnvX.bel hu)) (HT3.out.below (EnvX.bel hu))
  have HRI := Lib.hid (root_id HI.out.1)
  have HCK : Hid (∀ u, EnvX w3 u [] → Calls Tryd.prog 17 #[idv (rootT l), .int .i64 n, .int .i64 i, idv leaf, .slice A2 m c2] u fun e w' => e = .returned (.bool false) ∧ Below u.heap.size u w') := fun u hu => by
    rw [← HC0.out]
    exact HTREE.out.check (rootT l) leaf n i p A2 m c2 u HRI.out HX.out ⟨by omega, by omega⟩ ⟨by omega, by omega⟩ HM.out (by omega) hmc HCM.out.2 HJ.out.1 ((HJ.out.2.up HB3.out).up (EnvX.bel hu)) (HT3.out.below (EnvX.bel hu))
  go_upto_region 10 with (fail)
  refine wp_region_H (w0 := w3) [(w.heap.size, Obj.cells (arrB 32 leaf) 29 (0, 0))] (by kernel_rfl) EX2.out ?_
  refine anyH_phase [0, 1, 2, 3, 4, 5, 6, 7, 8, 9, 10, 11, 12, 13, 14, 15, 16, 17, 18, 19, 20, 21, 22, 23, 24, 25, 26, 27] 0 rfl ⟨_, (EnvX.drew EX2.out)⟩ (by kernel_rfl) ?_
  have hw4 : EnvX w3 _ [(w.heap.size, Obj.cells (arrB 32 leaf) 29 (0, 0))] := (EnvX.drew EX2.out)
  have hone := @EnvC.one _ _ _ hw4
  (refine wpG_op rfl rfl rfl ?_; intro K hK; go_big_quiet_op; go_big_quiet_on)
  (refine wpG_op rfl rfl rfl ?_; intro K hK; go_big_quiet_op; go_big_quiet_on)
  (refine wpG_op rfl rfl rfl ?_; intro K hK; go_big_quiet_op; go_big_quiet_on)
  (refine wpG_op rfl rfl rfl ?_; intro K hK; go_big_quiet_op; go_big_quiet_on)
  (refine wpG_op rfl rfl rfl ?_; intro K hK; go_big_quiet_op; go_big_quiet_on)
  (refine wpG_val (v := .int .i64 n) rfl rfl (fun u hu => lenI_op u rfl) ?_ hw4; intro K hK; go_big_quiet_op; go_big_quiet_on)
  (refine wpG_op rfl rfl rfl ?_; intro K hK; go_big_quiet_op; go_big_quiet_on)
  (refine wpG_op rfl rfl rfl ?_; intro K hK; go_big_quiet_op; go_big_quiet_on)
  (refine wpG_op rfl rfl rfl ?_; intro K hK; go_big_quiet_op; go_big_quiet_on)
  (refine wpG_val (v := idv leaf) rfl rfl (fun u hu => load_run_op u (box_load hu (List.Mem.head _) HX.out.1) rfl) ?_ hw4; intro K hK; go_big_quiet_op; go_big_quiet_on)
  (refine wpG_op rfl rfl rfl ?_; intro K hK; go_big_quiet_op; go_big_quiet_on)
  (refine wpG_op rfl rfl rfl ?_; intro K hK; go_big_quiet_op; go_big_quiet_on)
  (refine wpG_op rfl rfl rfl ?_; intro K hK; go_big_quiet_op; go_big_quiet_on)
  (refine wpG_val (v := idv (l.getD i [])) rfl rfl (fun u hu => load_run_op u (H1.out u (EnvX.sub hu (fun _ h => by cases h))) rfl) ?_ hw4; intro K hK; go_big_quiet_op; go_big_quiet_on)
  (refine wpG_val (v := .bool false) rfl rfl (fun u hu => eqlb_op HX.out.1 HY.out.1 HEQ.out u rfl rfl) ?_ hw4; intro K hK; go_big_quiet_op; go_big_quiet_on)
  (refine wpG_op rfl rfl rfl ?_; intro K hK; go_big_quiet_op; go_big_quiet_on)
  (refine wpG_op rfl rfl rfl ?_; intro K hK; go_big_quiet_op; go_big_quiet_on)
  (refine wpG_op rfl rfl rfl ?_; intro K hK; go_big_quiet_op; go_big_quiet_on)
  (refine wpG_call (f := 13) (args := #[.slice (some a1) n c]) (v := idv (rootT l)) rfl rfl rfl Tryd.func13 rfl rfl (fun u hu => HRT.out u (EnvX.sub hu (fun _ h => by cases h))) ?_ hw4; intro K hK; go_big_quiet_op; go_big_quiet_on)
  (refine wpG_op rfl rfl rfl ?_; intro K hK; go_big_quiet_op; go_big_quiet_on)
  (refine wpG_val (v := .int .i64 n) rfl rfl (fun u hu => lenI_op u rfl) ?_ hw4; intro K hK; go_big_quiet_op; go_big_quiet_on)
  (refine wpG_op rfl rfl rfl ?_; intro K hK; go_big_quiet_op; go_big_quiet_on)
  (refine wpG_val (v := idv leaf) rfl rfl (fun u hu => load_run_op u (box_load hu (List.Mem.head _) HX.out.1) rfl) ?_ hw4; intro K hK; go_big_quiet_op; go_big_quiet_on)
  (refine wpG_op rfl rfl rfl ?_; intro K hK; go_big_quiet_op; go_big_quiet_on)
  (refine wpG_call (f := 17) (args := #[idv (rootT l), .int .i64 n, .int .i64 i, idv leaf, .slice A2 m c2]) (v := .bool false) rfl rfl rfl Tryd.func17 rfl rfl (fun u hu => HCK.out u (EnvX.sub hu (fun _ h => by cases h))) ?_ hw4; intro K hK; go_big_quiet_op; go_big_quiet_on)
  (refine wpG_op rfl rfl rfl ?_; intro K hK; go_big_quiet_op; go_big_quiet_on)
  (refine wpG_op rfl rfl rfl ?_; intro K hK; go_big_quiet_op; go_big_quiet_on)
  (refine wpG_op rfl rfl rfl ?_; intro K hK; go_big_quiet_op; go_big_quiet_on)
  clear hone hw4
  refine wpG_nil ?_
  refine anyH_done (by kernel_rfl) ?_
  intro u6 E2'
  have EX5 := Lib.hid E2'
  clear E2'
  go_wp2
  go_ret
  exact ⟨rfl, HB3.out.trans ((EnvX.bel EX5.out).mono HB3.out.size)⟩
set_option maxRecDepth 20000 in
set_option maxHeartbeats 4000000 in
theorem law_clash_y (T : TreeC) (l p : List (List Int)) (A A2 : Option Addr) (n c m c2 : Nat) (i : Nat) (leaf : List Int) (w : World)
    (hx : isId leaf) (hl : l.length = n) (hm : p.length = m) (hnc : n ≤ c) (hcm : c ≤ maxLen) (hmc : m ≤ c2) (hc2 : c2 ≤ maxLen) (hI : isIds l) (hA : IdsIn w w.heap.size A l) (hJ : isIds p) (hA2 : IdsIn w w.heap.size A2 p) (ht : Tables w) (c0 : n ≤ 64) (c1 : m ≤ 12) (c3 : i < n) (d0 : leaf ≠ l.getD i []) (d1 : checkT (rootT l) n i leaf p = true) :
    Calls Tryd.prog 5 #[.slice A n c, .int .i64 i, idv leaf, .slice A2 m c2] w fun e w' => e = .returned (.bool true) ∧ Below w.heap.size w w' := by
  have hi : I64 (i : Int) := ⟨by omega, by omega⟩
  obtain ⟨ta, tb, htx, htn, hts, hta, htb, hba, hbb⟩ := clash_texts (i := i) hI hJ hx (by omega) (by omega) (by rw [hl]; exact d1) d0
  have HTX := Lib.hid htx
  have HTN := Lib.hid htn
  have HTS := Lib.hid hts
  have HTL := Lib.hid (And.intro hta htb)
  have HTB := Lib.hid (And.intro hba hbb)
  clear htx htn hts hta htb hba hbb d0 d1
  have c0' : ¬ (64 : Int) < (n : Int) := by omega
  have c1' : ¬ (12 : Int) < (m : Int) := by omega
  unfold I64 at hi
  have HAW := Lib.hid (awake_any T (w.alloc (.cells (arrB 32 leaf) 29)) (ht.below ((Below.refl _ _).alloc (Nat.le_refl _) _)))
  have E0 : Hid (EnvX w (w.alloc (.cells (arrB 32 leaf) 29)) [(w.heap.size, Obj.cells (arrB 32 leaf) 29 (0, 0))]) := (EnvX.start w).new _
  have HT := Lib.hid ht
  have HTREE := Lib.hid T
  have HX := Lib.hid hx
  have HL := Lib.hid hl
  have HM := Lib.hid hm
  have HI := Lib.hid (And.intro hI hA)
  have HJ := Lib.hid (And.intro hJ hA2)
  have HCM := Lib.hid (And.intro hcm hc2)
  unfold maxLen at hcm hc2
  clear ht T hx hl hm hI hA hJ hA2
  unfold idv
  go_enter Tryd.func5, Tryd.ntmps5
  go_upto_region 1 with (fail)
  generalize w.alloc (.cells (arrB 32 leaf) 29) = W at *
  go_wp2_with fail
  refine HAW.out.mono ?_
  rintro e w1 ⟨rfl, hb1⟩
  have HB1 := Lib.hid (EnvX.below E0.out hb1).bel
  have E1 : Hid (EnvX w1 w1 [(w.heap.size, Obj.cells (arrB 32 leaf) 29 (0, 0))]) := ⟨Below.refl _ _, (EnvX.below E0.out hb1).box⟩
  have HT1 := Lib.hid (HT.out.below HB1.out)
  clear hb1 E0 HAW
  have HCL : Hid (Calls Tryd.prog 21 #[.slice A n c, .int .i64 i, idv leaf, .slice A2 m c2] w1 fun e w' => (∃ va vb, e = .returned (.tuple #[va, vb, .bool true]) ∧ OwnB w' w1.heap.size va ta ∧ OwnB w' w1.heap.size vb tb) ∧ Below w1.heap.size w1 w') := by
    have h := HTREE.out.clash l i leaf p A A2 n c m c2 w1 HL.out c0 hnc HCM.out.1 hi HM.out (by omega) hmc HCM.out.2 HI.out.1 (HI.out.2.up HB1.out) HJ.out.1 (HJ.out.2.up HB1.out) HX.out HT1.out
    rw [HTX.out] at h
    exact h
  have HLD : Hid ((loadVar 29 ⟨w.heap.size, 0, none⟩).run Tryd.prog w1 = .ok (idv leaf) w1) := box_load E1.out (List.Mem.head _) HX.out.1
  go_upto_region 4 with (fail)
  go_wp2_with ((with_reducible refine wpList_load_run (o := ⟨some 33, _, _, _, _, _⟩) ?_ 29 (.tmp 6) ?_ ⟨w.heap.size, 0, none⟩ ?_ HLD.out ?_); (rfl); (rfl); (rfl))
  refine HCL.out.mono ?_
  rintro e w2 ⟨⟨va, vb, rfl, hoa, hob⟩, hb0⟩
  obtain ⟨Aa0, ca0, rfl⟩ := hoa.form
  obtain ⟨Ab0, cb0, rfl⟩ := hob.form
  have HOA0 := Lib.hid hoa.up
  have HOB0 := Lib.hid hob.up
  rw [HTL.out.1, HTL.out.2]
  have HB2 := Lib.hid (HB1.out.trans (hb0.mono HB1.out.size))
  have E2 : Hid (EnvX w2 w2 [(w.heap.size, Obj.cells (arrB 32 leaf) 29 (0, 0))]) := ⟨Below.refl _ _, (EnvX.below E1.out hb0).box⟩
  have H20 := Lib.hid hb0
  clear hoa hob hb0 HCL HLD E1
  have HCL : Hid (Calls Tryd.prog 22 #[.slice A n c, .int .i64 i, idv leaf, .slice A2 m c2] w2 fun e w' => (∃ va vb, e = .returned (.tuple #[va, vb, .bool true]) ∧ OwnB w' w2.heap.size va ta ∧ OwnB w' w2.heap.size vb tb) ∧ Below w2.heap.size w2 w') := by
    have h := rclash_all l i leaf p A A2 n c m c2 w2 HL.out c0 hnc HCM.out.1 hi HM.out hmc HCM.out.2 HI.out.1 (HI.out.2.up HB2.out) HJ.out.1 (HJ.out.2.up HB2.out) HX.out
    rw [HTX.out] at h
    exact h
  have HLD : Hid ((loadVar 29 ⟨w.heap.size, 0, none⟩).run Tryd.prog w2 = .ok (idv leaf) w2) := box_load E2.out (List.Mem.head _) HX.out.1
  go_upto_region 5 with (fail)
  go_wp2_with ((with_reducible refine wpList_load_run (o := ⟨some 42, _, _, _, _, _⟩) ?_ 29 (.tmp 6) ?_ ⟨w.heap.size, 0, none⟩ ?_ HLD.out ?_); (rfl); (rfl); (rfl))
  refine HCL.out.mono ?_
  rintro e w3 ⟨⟨va, vb, rfl, hoa, hob⟩, hb1⟩
  obtain ⟨Aa1, ca1, rfl⟩ := hoa.form
  obtain ⟨Ab1, cb1, rfl⟩ := hob.form
  have HOA1 := Lib.hid hoa.up
  have HOB1 := Lib.hid hob.up
  rw [HTL.out.1, HTL.out.2]
  have HB3 := Lib.hid (HB2.out.trans (hb1.mono HB2.out.size))
  have E3 : Hid (EnvX w3 w3 [(w.heap.size, Obj.cells (arrB 32 leaf) 29 (0, 0))]) := ⟨Below.refl _ _, (EnvX.below E2.out hb1).box⟩
  have H21 := Lib.hid hb1
  clear hoa hob hb1 HCL HLD E2
  have HOA3 := Lib.hid (HOA0.out.up H21.out)
  have HOB3 := Lib.hid (HOB0.out.up H21.out)
  obtain ⟨s0, hs0⟩ : ∃ s, strOfNums ta = s := ⟨_, rfl⟩
  obtain ⟨s1, hs1⟩ : ∃ s, strOfNums tb = s := ⟨_, rfl⟩
  have HS0 := Lib.hid hs0
  have HS1 := Lib.hid hs1
  have HE0 : Hid ((!(s0.toList == s0.toList)) = false) := by show _ = _; simp
  have HE1 : Hid ((!(s1.toList == s1.toList)) = false) := by show _ = _; simp
  have HNS : Hid ((!(s0.toList == s1.toList)) = true) := by
    show _ = _
    rw [← hs0, ← hs1, strOf_beq HTB.out.1 HTB.out.2]
    simp [HTN.out]
  have HT3 := Lib.hid (HT.out.below HB3.out)
  clear hs0 hs1
  go_upto_region 6 with (fail)
  refine wp_region_Hx (w0 := w3) [0, 1, 2, 3, 4, 5, 6, 7, 8, 9, 10, 11, 12, 13, 14, 15, 16] [(w.heap.size, Obj.cells (arrB 32 leaf) 29 (0, 0))] rfl E3.out ?_
  refine lexH_phase [0, 1, 2, 3, 4, 5, 6, 7, 8, 9, 10, 11, 12, 13, 14, 15, 16] [] ?_
  have hw1 : EnvX w3 _ [(w.heap.size, Obj.cells (arrB 32 leaf) 29 (0, 0))] := E3.out
  have hone := @EnvC.one _ _ _ hw1
  (refine wpG_op rfl rfl rfl ?_; intro K hK; go_big_quiet_op; go_big_quiet_on)
  (refine wpG_op rfl rfl rfl ?_; intro K hK; go_big_quiet_op; go_big_quiet_on)
  (refine wpG_op rfl rfl rfl ?_; intro K hK; go_big_quiet_op; go_big_quiet_on)
  (refine wpG_op rfl rfl rfl ?_; intro K hK; go_big_quiet_op; go_big_quiet_on)
  (refine wpG_op rfl rfl rfl ?_; intro K hK; go_big_quiet_op; go_big_quiet_on)
  (refine wpG_val (v := .string s0) rfl rfl (fun u hu => conv_op u HTL.out.1 (HOA3.out.up (EnvX.bel hu)) HS0.out rfl) ?_ hw1; intro K hK; go_big_quiet_op; go_big_quiet_on)
  (refine wpG_op rfl rfl rfl ?_; intro K hK; go_big_quiet_op; go_big_quiet_on)
  (refine wpG_val (v := .string s0) rfl rfl (fun u hu => conv_op u HTL.out.1 (HOA1.out.up (EnvX.bel hu)) HS0.out rfl) ?_ hw1; intro K hK; go_big_quiet_op; go_big_quiet_on)
  (refine wpG_val (v := .bool false) rfl rfl (fun u hu => nes_op u HE0.out rfl rfl) ?_ hw1; intro K hK; go_big_quiet_op; go_big_quiet_on)
  (refine wpG_op rfl rfl rfl ?_; intro K hK; go_big_quiet_op; go_big_quiet_on)
  (refine wpG_op rfl rfl rfl ?_; intro K hK; go_big_quiet_op; go_big_quiet_on)
  (refine wpG_op rfl rfl rfl ?_; intro K hK; go_big_quiet_op; go_big_quiet_on)
  (refine wpG_val (v := .string s1) rfl rfl (fun u hu => conv_op u HTL.out.2 (HOB3.out.up (EnvX.bel hu)) HS1.out rfl) ?_ hw1; intro K hK; go_big_quiet_op; go_big_quiet_on)
  (refine wpG_op rfl rfl rfl ?_; intro K hK; go_big_quiet_op; go_big_quiet_on)
  (refine wpG_val (v := .string s1) rfl rfl (fun u hu => conv_op u HTL.out.2 (HOB1.out.up (EnvX.bel hu)) HS1.out rfl) ?_ hw1; intro K hK; go_big_quiet_op; go_big_quiet_on)
  (refine wpG_val (v := .bool false) rfl rfl (fun u hu => nes_op u HE1.out rfl rfl) ?_ hw1; intro K hK; go_big_quiet_op; go_big_quiet_on)
  (refine wpG_op rfl rfl rfl ?_; intro K hK; go_big_quiet_op; go_big_quiet_on)
  clear hone hw1
  refine wpG_nil ?_
  intro u3 E2'
  have EX2 := Lib.hid E2'
  clear E2'
  have HSA : Hid (∀ u, EnvX w3 u [] → Calls Tryd.prog 23 #[.slice Aa0 65 ca0] u fun e w' => e = .returned (idv (sumL ta)) ∧ Below u.heap.size u w') := fun u hu => sum_any Aa0 65 ca0 ta u HTL.out.1 (by omega) (HOA3.out.up (EnvX.bel hu)) HTB.out.1 (HT3.out.below (EnvX.bel hu))
  have HSB : Hid (∀ u, EnvX w3 u [] → Calls Tryd.prog 23 #[.slice Ab0 65 cb0] u fun e w' => e = .returned (idv (sumL tb)) ∧ Below u.heap.size u w') := fun u hu => sum_any Ab0 65 cb0 tb u HTL.out.2 (by omega) (HOB3.out.up (EnvX.bel hu)) HTB.out.2 (HT3.out.below (EnvX.bel hu))
  have HLA : Hid ((sumL ta).length = 32) := sumL_len _
  have HLB : Hid ((sumL tb).length = 32) := sumL_len _
  have HSE : Hid (eqL (sumL ta) (sumL tb) = true) := decide_eq_true HTS.out
  go_upto_region 9 with (fail)
  refine wp_region_Hx (w0 := w3) [0, 1, 2, 3, 4, 5, 6, 7, 8, 9, 10, 11, 12] [(w.heap.size, Obj.cells (arrB 32 leaf) 29 (0, 0))] rfl EX2.out ?_
  refine lexH_phase [0, 1, 2, 3, 4, 5, 6, 7, 8, 9, 10, 11, 12] [] ?_
  have hw4 : EnvX w3 _ [(w.heap.size, Obj.cells (arrB 32 leaf) 29 (0, 0))] := EX2.out
  have hone := @EnvC.one _ _ _ hw4
  (refine wpG_op rfl rfl rfl ?_; intro K hK; go_big_quiet_op; go_big_quiet_on)
  (refine wpG_val (v := .string s0) rfl rfl (fun u hu => conv_op u HTL.out.1 (HOA3.out.up (EnvX.bel hu)) HS0.out rfl) ?_ hw4; intro K hK; go_big_quiet_op; go_big_quiet_on)
  (refine wpG_op rfl rfl rfl ?_; intro K hK; go_big_quiet_op; go_big_quiet_on)
  (refine wpG_val (v := .string s1) rfl rfl (fun u hu => conv_op u HTL.out.2 (HOB3.out.up (EnvX.bel hu)) HS1.out rfl) ?_ hw4; intro K hK; go_big_quiet_op; go_big_quiet_on)
  (refine wpG_val (v := .bool true) rfl rfl (fun u hu => nes_op u HNS.out rfl rfl) ?_ hw4; intro K hK; go_big_quiet_op; go_big_quiet_on)
  (refine wpG_op rfl rfl rfl ?_; intro K hK; go_big_quiet_op; go_big_quiet_on)
  (refine wpG_op rfl rfl rfl ?_; intro K hK; go_big_quiet_op; go_big_quiet_on)
  (refine wpG_call (f := 23) (args := #[.slice Aa0 65 ca0]) (v := idv (sumL ta)) rfl rfl rfl Tryd.func23 rfl rfl (fun u hu => HSA.out u (EnvX.sub hu (fun _ h => by cases h))) ?_ hw4; intro K hK; go_big_quiet_op; go_big_quiet_on)
  (refine wpG_op rfl rfl rfl ?_; intro K hK; go_big_quiet_op; go_big_quiet_on)
  (refine wpG_call (f := 23) (args := #[.slice Ab0 65 cb0]) (v := idv (sumL tb)) rfl rfl rfl Tryd.func23 rfl rfl (fun u hu => HSB.out u (EnvX.sub hu (fun _ h => by cases h))) ?_ hw4; intro K hK; go_big_quiet_op; go_big_quiet_on)
  (refine wpG_val (v := .bool true) rfl rfl (fun u hu => eqlb_op HLA.out HLB.out HSE.out u rfl rfl) ?_ hw4; intro K hK; go_big_quiet_op; go_big_quiet_on)
  (refine wpG_op rfl rfl rfl ?_; intro K hK; go_big_quiet_op; go_big_quiet_on)
  (refine wpG_op rfl rfl rfl ?_; intro K hK; go_big_quiet_op; go_big_quiet_on)
  clear hone hw4
  refine wpG_nil ?_
  intro u6 E2'
  have EX5 := Lib.hid E2'
  clear E2'
  go_wp2
  go_ret
  exact ⟨rfl, HB3.out.trans ((EnvX.bel EX5.out).mono HB3.out.size)⟩
theorem law_clash (T : TreeC) (l p : List (List Int)) (A A2 : Option Addr) (n c m c2 : Nat) (i : Int) (leaf : List Int) (w : World)
    (hx : isId leaf) (hl : l.length = n) (hm : p.length = m) (hnc : n ≤ c) (hcm : c ≤ maxLen) (hmc : m ≤ c2) (hc2 : c2 ≤ maxLen) (hI : isIds l) (hA : IdsIn w w.heap.size A l) (hJ : isIds p) (hA2 : IdsIn w w.heap.size A2 p) (hi : I64 i) (ht : Tables w) :
    Calls Tryd.prog 5 #[.slice A n c, .int .i64 i, idv leaf, .slice A2 m c2] w fun e w' => e = .returned (.bool true) ∧ Below w.heap.size w w' := by
  by_cases c0 : 64 < n
  · exact law_clash_a T l p A A2 n c m c2 i leaf w hx hl hm hnc hcm hmc hc2 hI hA hJ hA2 hi ht c0
  · by_cases c1 : 12 < m
    · exact law_clash_b T l p A A2 n c m c2 i leaf w hx hl hm hnc hcm hmc hc2 hI hA hJ hA2 hi ht ⟨by omega, c1⟩
    · by_cases c2' : i < 0
      · exact law_clash_i T l p A A2 n c m c2 i leaf w hx hl hm hnc hcm hmc hc2 hI hA hJ hA2 hi ht (by omega) (by omega) c2'
      · by_cases c3 : n ≤ i
        · obtain ⟨j, rfl⟩ := Int.eq_ofNat_of_zero_le (by omega : 0 ≤ i)
          exact law_clash_o T l p A A2 n c m c2 j leaf w hx hl hm hnc hcm hmc hc2 hI hA hJ hA2 hi ht (by omega) (by omega) (by omega)
        · obtain ⟨j, rfl⟩ := Int.eq_ofNat_of_zero_le (by omega : 0 ≤ i)
          by_cases d0 : leaf = l.getD j []
          · exact law_clash_e T l p A A2 n c m c2 j leaf w hx hl hm hnc hcm hmc hc2 hI hA hJ hA2 ht (by omega) (by omega) (by omega) d0
          · cases d1 : checkT (rootT l) n j leaf p with
            | false => exact law_clash_c T l p A A2 n c m c2 j leaf w hx hl hm hnc hcm hmc hc2 hI hA hJ hA2 ht (by omega) (by omega) (by omega) d0 d1
            | true => exact law_clash_y T l p A A2 n c m c2 j leaf w hx hl hm hnc hcm hmc hc2 hI hA hJ hA2 ht (by omega) (by omega) (by omega) d0 d1
end Go.Proofs.YtgiacilkecoenaaDoor

/-
  PROVED: the law stepladderlaw05.TreeClash answers true for every input, and leaves its arguments as they were.
  Conditions: the two package-level tables of package sha hold at the call what their initialisers lay; the card ties that to the text of the program (a pruned copy of the project: the packages that the roots of this seat load).
-/
namespace Go.Proofs.YtgiacilkecoenaaDoor.treeClash
open Go.ChangeShapes Go.WideShapes Go.ChangeAt Go.RowKit

theorem contract (H : Type) (enc : TypeId × Value → H) (W : World) (base : Nat) (args : Array Value) (ds gs : List (DataW H)) (before : List MemPlace)
    (hval : ∀ (j : Nat) t v, Tryd.f5.params[j]? = some t → args[j]? = some v → Value.okWide Tryd.prog W .any base t v)
    (hW : DataW.Whole enc Tryd.prog Tryd.f5.params.toList Rows.treeClashSpec.vars false W args.toList ds gs before) (hL : laidMetH Tryd.prog Rows.treeClashRow.laid W) :
    Calls Tryd.prog 5 args W fun e W' => ∃ v, e = .returned v ∧ Rows.treeClashSpec.post enc Tryd.prog Tryd.f5 false true false false W args v W' := by
  have hW' := hW
  obtain ⟨p, q, hA0, hV, rfl, hfz, hnd⟩ := hW
  have hA : DataW.TrodAll enc Tryd.prog W 0 (fun _ => true) true Tryd.f5.params.toList args.toList ds p := hA0
  rw [Tryd.params5] at hA hval
  obtain ⟨v0, vs0, d0, ds0, p0, q0, hargs, rfl, rfl, h0, r0⟩ := trodAll_cons hA
  obtain ⟨v1, vs1, d1, ds1, p1, q1, rfl, rfl, rfl, h1, r1⟩ := trodAll_cons r0
  obtain ⟨v2, vs2, d2, ds2, p2, q2, rfl, rfl, rfl, h2, r2⟩ := trodAll_cons r1
  obtain ⟨v3, vs3, d3, ds3, p3, q3, rfl, rfl, rfl, h3, r3⟩ := trodAll_cons r2
  obtain ⟨rfl, rfl, rfl⟩ := trodAll_nil r3
  obtain rfl : args = #[v0, v1, v2, v3] := by cases args; simp_all
  obtain ⟨rfl, rfl⟩ := trodVars_none hV
  have lt0 : ∀ x ∈ p0, x.block < W.heap.size := by obtain ⟨m, hm⟩ := h0; exact DataW.trod_lt m _ _ _ hm
  obtain ⟨a0, n0, c0, x0, rfl, lx0, nc0, cm0, ix0, px0⟩ := open_ids (hval 0 22 v0 rfl rfl) h0
  obtain ⟨x1, rfl, rfl, rfl, wx1⟩ := open_int Tryd.underlying3 (hval 1 3 v1 rfl rfl) h1
  have lt2 : ∀ x ∈ p2, x.block < W.heap.size := by obtain ⟨m, hm⟩ := h2; exact DataW.trod_lt m _ _ _ hm
  obtain ⟨x2, rfl, lx2, rx2⟩ := open_id (hval 2 29 v2 rfl rfl) h2
  have lt3 : ∀ x ∈ p3, x.block < W.heap.size := by obtain ⟨m, hm⟩ := h3; exact DataW.trod_lt m _ _ _ hm
  obtain ⟨a3, n3, c3, x3, rfl, lx3, nc3, cm3, ix3, px3⟩ := open_ids (hval 3 22 v3 rfl rfl) h3
  clear hA0
  refine (law_clash treeC x0 x3 a0 a3 n0 c0 n3 c3 x1 x2 W ⟨lx2, rx2⟩ lx0 lx3 nc0 cm0 nc3 cm3 ix0 px0 ix3 px3 (bounds_i64 wx1) (tables_of_laid hL)).mono fun e W' ⟨he, bel⟩ => ?_
  subst he
  exact ⟨_, rfl, _, _, _, [], _, [], hW', trodAll_mk1 (shut_bool Tryd.underlying4 _), (trodAll_cons_mk (Below.trod laidOut (by kernel_rfl) (of_decide_eq_true (by kernel_rfl)) h0 bel lt0) (trodAll_cons_mk (shut_int Tryd.underlying3 wx1) (trodAll_cons_mk (Below.trod laidOut (by kernel_rfl) (of_decide_eq_true (by kernel_rfl)) h2 bel lt2) (trodAll_cons_mk (Below.trod laidOut (by kernel_rfl) (of_decide_eq_true (by kernel_rfl)) h3 bel lt3) trodAll_mk0)))), rfl, bel.frame _, fun h => by cases h⟩

def start : Array Value := #[.slice none 0 0, .int .i64 0, zeroId, .slice none 0 0]
theorem reads (os : Os) {H : Type} (enc : TypeId × Value → H) : ∃ places, DataW.whole enc Tryd.prog ((laidWorld os).forCall (fun _ _ => 0) ⟨#[], start, []⟩).memory Tryd.f5.params.toList Rows.treeClashSpec.vars false start.toList 8 = some ([.nil, .lit (.int .i64 0), zeroD, .nil], [], places) :=
  ⟨[], by kernel_rfl⟩

set_option maxRecDepth 100000 in
theorem lifted (os : Os) (started : os.Started) (H : Type) (enc : TypeId × Value → H) (F : Stop.Interp) :
    ReturnsInHanded {} Tryd.checked os 5 .any ((OpenSpec.ofChange Rows.treeClashSpec).preRow enc Tryd.prog Tryd.f5 Rows.treeClashRow.domain false Rows.treeClashRow.laid) (((OpenSpec.ofChange Rows.treeClashSpec).at F).post enc Tryd.prog Tryd.f5 false true false false) := by
  obtain ⟨places, hx⟩ := reads os enc
  refine returnsInHanded_of_row (C := Tryd.checked) (s := OpenSpec.ofChange Rows.treeClashSpec) own started (by kernel_rfl) Tryd.func5
    (witness_row_at (enc := enc) (C := Tryd.checked) false (laidWorld os) start rfl (by kernel_rfl) (by kernel_rfl) (by kernel_rfl)
      (OpenSpec.preRow_of_cond 8 hx (by kernel_rfl) (fun k hk => by cases hk) (by kernel_rfl) (laidMet_of_run' 8 (by kernel_rfl) (by kernel_rfl)))) ?_
  intro W base args ds gs before hval hW _ _ _ hL _ _
  exact contract H enc W base args ds gs before hval hW hL

theorem said : Rows.TreeClashSaid :=
  OpenClaim.holds_of_cond 5 Tryd.f5 rfl rfl rfl rfl rfl rfl rfl ⟨rfl, rfl, rfl, rfl, rfl⟩ rfl rfl rfl rfl rfl (by kernel_rfl) Tryd.func5 (by kernel_rfl)
    (of_decide_eq_true (by kernel_rfl)) (by unfold Func.isWrapper; first | (rw [if_pos (by decide +kernel)]; kernel_rfl) | (rw [if_neg (by decide +kernel)]; exact ⟨rfl, rfl⟩))
    (fun os started H enc _ F => by rw [OpenClaim.pre_eq_preRow]; exact lifted os started H enc F)

theorem plain (f : FuncId) (fn : Func) (hf : Tryd.pinned.checked.prog.funcNamed "stepladder/stepladderlaw05.TreeClash" = some f) (hfn : Tryd.pinned.checked.prog.funcs[f]? = some fn) :
    false = Tryd.pinned.checked.prog.looks [] ∧ ∀ (j : Nat) t, fn.params[j]? = some t → Tryd.pinned.checked.prog.wantsStandIn t = false := by
  obtain rfl : f = 5 := Option.some.inj ((show Tryd.prog.funcNamed "stepladder/stepladderlaw05.TreeClash" = some 5 by kernel_rfl).symm.trans hf) |>.symm
  obtain rfl : fn = Tryd.f5 := (Option.some.inj (Tryd.func5.symm.trans hfn)).symm
  refine ⟨by kernel_rfl, fun j t ht => ?_⟩
  rw [Tryd.params5] at ht
  have hm : t = 22 ∨ t = 3 ∨ t = 29 ∨ t = 22 := by simpa using Array.mem_of_getElem? ht
  rcases hm with rfl | rfl | rfl | rfl
  · exact (show Tryd.prog.wantsStandIn 22 = false by kernel_rfl)
  · exact (show Tryd.prog.wantsStandIn 3 = false by kernel_rfl)
  · exact (show Tryd.prog.wantsStandIn 29 = false by kernel_rfl)
  · exact (show Tryd.prog.wantsStandIn 22 = false by kernel_rfl)
theorem card : Rows.TreeClashCardSaid :=
  Claim7.holds_tied_plain_at .later [] _ _ _ _ said (fun _ h => by cases h) (by kernel_rfl) (fun _ h => by cases h) treeClash_row_tie rfl ⟨rfl, rfl⟩ (by kernel_rfl) rfl plain (by kernel_rfl)

end Go.Proofs.YtgiacilkecoenaaDoor.treeClash
