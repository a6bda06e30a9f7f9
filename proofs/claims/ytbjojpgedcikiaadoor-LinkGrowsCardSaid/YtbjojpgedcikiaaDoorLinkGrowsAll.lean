/-
  PROVED: the law stepladderlaw07.LinkGrows answers true for every input, and leaves its arguments as they were.
  Conditions: the two package-level tables of package sha hold at the call what their initialisers lay; the card ties that to the text of the program (a pruned copy of the project: the packages that the roots of this seat load).
-/
import Derived.Test.YtbjojpgedcikiaaDoorCl
namespace Go.Proofs.YtbjojpgedcikiaaDoor
set_option maxRecDepth 8000
open Go.RowKit

theorem isId_zero : isId z32 := ⟨rfl, fun y hy => by rw [List.eq_of_mem_replicate hy]; decide⟩
set_option maxRecDepth 20000 in
set_option maxHeartbeats 8000000 in
theorem law_grows_many (T : TreeC) (K : LinkC) (l : List (List Int)) (id : List Int) (lev n : Int) (A : Option Addr) (m c : Nat) (w : World) (hl : l.length = m) (hmc : m ≤ c) (hcm : c ≤ maxLen) (hI : isIds l) (hid : isId id) (hlev : I64 lev) (hn : I64 n) (hA : IdsIn w w.heap.size A l) (ht : Tables w) (k1 : 32 < m) :
    Calls Tryd.prog 4 #[.slice A m c, idv id, .int .i64 lev, .int .i64 n] w fun e w' => e = .returned (.bool true) ∧ Below w.heap.size w w' := by
  have k1' : (m : Int) > 32 := by omega
  have E0 : Hid (EnvX w (w.alloc (.cells (arrB 32 id) 24)) [(w.heap.size, Obj.cells (arrB 32 id) 24 (0, 0))]) := (EnvX.start w).new _
  have HAW := Lib.hid (lawake_any T K (w.alloc (.cells (arrB 32 id) 24)) (ht.below (EnvX.bel E0.out)))
  have HT := Lib.hid ht
  have HTR := Lib.hid T
  have HK := Lib.hid K
  clear ht T K
  unfold idv
  go_enter Tryd.func4, Tryd.ntmps4
  go_upto_region 1 with (fail)
  generalize (w.alloc (.cells (arrB 32 id) 24)) = W at *
  go_wp2_with fail
  refine HAW.out.mono ?_
  rintro e w1 ⟨rfl, hb1⟩
  have HB1 := Lib.hid (EnvX.below E0.out hb1).bel
  have E1 : Hid (EnvX w1 w1 [(w.heap.size, Obj.cells (arrB 32 id) 24 (0, 0))]) := ⟨Below.refl _ _, (EnvX.below E0.out hb1).box⟩
  have HT1 := Lib.hid (HT.out.below HB1.out)
  clear hb1 E0 HAW
  go_wp2
  go_ret
  exact ⟨rfl, HB1.out⟩
set_option maxRecDepth 20000 in
set_option maxHeartbeats 8000000 in
theorem law_grows_none (T : TreeC) (K : LinkC) (l : List (List Int)) (id : List Int) (lev n : Int) (A : Option Addr) (m c : Nat) (w : World) (hl : l.length = m) (hmc : m ≤ c) (hcm : c ≤ maxLen) (hI : isIds l) (hid : isId id) (hlev : I64 lev) (hn : I64 n) (hA : IdsIn w w.heap.size A l) (ht : Tables w) (k1 : m = 0) :
    Calls Tryd.prog 4 #[.slice A m c, idv id, .int .i64 lev, .int .i64 n] w fun e w' => e = .returned (.bool true) ∧ Below w.heap.size w w' := by
  have k1' : ¬ (m : Int) > 32 := by omega
  have k2' : (m : Int) = 0 := by omega
  have E0 : Hid (EnvX w (w.alloc (.cells (arrB 32 id) 24)) [(w.heap.size, Obj.cells (arrB 32 id) 24 (0, 0))]) := (EnvX.start w).new _
  have HAW := Lib.hid (lawake_any T K (w.alloc (.cells (arrB 32 id) 24)) (ht.below (EnvX.bel E0.out)))
  have HT := Lib.hid ht
  have HTR := Lib.hid T
  have HK := Lib.hid K
  clear ht T K
  unfold idv
  go_enter Tryd.func4, Tryd.ntmps4
  go_upto_region 1 with (fail)
  generalize (w.alloc (.cells (arrB 32 id) 24)) = W at *
  go_wp2_with fail
  refine HAW.out.mono ?_
  rintro e w1 ⟨rfl, hb1⟩
  have HB1 := Lib.hid (EnvX.below E0.out hb1).bel
  have E1 : Hid (EnvX w1 w1 [(w.heap.size, Obj.cells (arrB 32 id) 24 (0, 0))]) := ⟨Below.refl _ _, (EnvX.below E0.out hb1).box⟩
  have HT1 := Lib.hid (HT.out.below HB1.out)
  clear hb1 E0 HAW
  go_wp2
  go_ret
  exact ⟨rfl, HB1.out⟩
set_option maxRecDepth 20000 in
set_option maxHeartbeats 8000000 in
theorem law_grows_low (T : TreeC) (K : LinkC) (l : List (List Int)) (id : List Int) (lev n : Int) (A : Option Addr) (m c : Nat) (w : World) (hl : l.length = m) (hmc : m ≤ c) (hcm : c ≤ maxLen) (hI : isIds l) (hid : isId id) (hlev : I64 lev) (hn : I64 n) (hA : IdsIn w w.heap.size A l) (ht : Tables w) (x : List Int) (r : List (List Int)) (hxr : l = x :: r) (h32 : m ≤ 32) (n1 : n < 1) :
    Calls Tryd.prog 4 #[.slice A m c, idv id, .int .i64 lev, .int .i64 n] w fun e w' => e = .returned (.bool true) ∧ Below w.heap.size w w' := by
  have hrl : r.length + 1 = m := by rw [← hl, hxr]; rfl
  have HK1 : Hid (decide (32 < (m : Int)) = false) := decide_eq_false (by omega)
  have HK2 : Hid (decide ((m : Int) = 0) = false) := decide_eq_false (by omega)
  have HN1 : Hid (nextT l id lev = stepL x r id (lvN lev)) := by show _ = _; rw [hxr]; exact next_some (by omega)
  have HX : Hid (isId x) := hI x (by rw [hxr]; exact List.mem_cons_self ..)
  have HD := Lib.hid hid
  have HL := Lib.hid (And.intro hl (And.intro hmc hcm))
  have HIA := Lib.hid (And.intro hI hA)
  have HXR := Lib.hid hxr
  have HLV := Lib.hid hlev
  have HRL := Lib.hid hrl
  have hm0 : 0 < m := by omega
  unfold I64 at hn
  have C71 : Hid (decide (n < 1) = true) := decide_eq_true n1
  clear n1
  clear hl hI hid hA hlev hxr hrl hmc hcm
  have E0 : Hid (EnvX w (w.alloc (.cells (arrB 32 id) 24)) [(w.heap.size, Obj.cells (arrB 32 id) 24 (0, 0))]) := (EnvX.start w).new _
  have HAW := Lib.hid (lawake_any T K (w.alloc (.cells (arrB 32 id) 24)) (ht.below (EnvX.bel E0.out)))
  have HT := Lib.hid ht
  have HTR := Lib.hid T
  have HK := Lib.hid K
  clear ht T K
  unfold idv
  go_enter Tryd.func4, Tryd.ntmps4
  go_upto_region 1 with (fail)
  generalize (w.alloc (.cells (arrB 32 id) 24)) = W at *
  go_wp2_with fail
  refine HAW.out.mono ?_
  rintro e w1 ⟨rfl, hb1⟩
  have HB1 := Lib.hid (EnvX.below E0.out hb1).bel
  have E1 : Hid (EnvX w1 w1 [(w.heap.size, Obj.cells (arrB 32 id) 24 (0, 0))]) := ⟨Below.refl _ _, (EnvX.below E0.out hb1).box⟩
  have HT1 := Lib.hid (HT.out.below HB1.out)
  clear hb1 E0 HAW
  go_upto_region 2 with (fail)
  refine wp_region_Hx (w0 := w1) [0, 1, 2, 3, 4, 5, 6, 7, 8, 9, 10, 11] [(w.heap.size, Obj.cells (arrB 32 id) 24 (0, 0))] rfl E1.out ?_
  refine lexH_phase [0, 1, 2, 3, 4, 5, 6, 7, 8, 9, 10, 11] [] ?_
  have hw701 : EnvX w1 _ [(w.heap.size, Obj.cells (arrB 32 id) 24 (0, 0))] := E1.out
  have hone := @EnvC.one _ _ _ hw701
  (refine wpG_op rfl rfl rfl ?_; intro K hK; go_big_quiet_op; go_big_quiet_on)
  (refine wpG_op rfl rfl rfl ?_; intro K hK; go_big_quiet_op; go_big_quiet_on)
  (refine wpG_op rfl rfl rfl ?_; intro K hK; go_big_quiet_op; go_big_quiet_on)
  (refine wpG_op rfl rfl rfl ?_; intro K hK; go_big_quiet_op; go_big_quiet_on)
  (refine wpG_val (v := .int .i64 (m : Int)) rfl rfl (fun u hu => lenI_op u rfl) ?_ hw701; intro K hK; go_big_quiet_op; go_big_quiet_on)
  (refine wpG_val (v := .bool false) rfl rfl (fun u hu => gtZ_op u HK1.out rfl rfl) ?_ hw701; intro K hK; go_big_quiet_op; go_big_quiet_on)
  (refine wpG_op rfl rfl rfl ?_; intro K hK; go_big_quiet_op; go_big_quiet_on)
  (refine wpG_op rfl rfl rfl ?_; intro K hK; go_big_quiet_op; go_big_quiet_on)
  (refine wpG_op rfl rfl rfl ?_; intro K hK; go_big_quiet_op; go_big_quiet_on)
  (refine wpG_val (v := .int .i64 (m : Int)) rfl rfl (fun u hu => lenI_op u rfl) ?_ hw701; intro K hK; go_big_quiet_op; go_big_quiet_on)
  (refine wpG_val (v := .bool false) rfl rfl (fun u hu => eqlI_op u HK2.out rfl rfl) ?_ hw701; intro K hK; go_big_quiet_op; go_big_quiet_on)
  (refine wpG_op rfl rfl rfl ?_; intro K hK; go_big_quiet_op; go_big_quiet_on)
  clear hone hw701
  refine wpG_nil ?_
  intro u703 E2'
  have EX702 := Lib.hid E2'
  clear E2'
  have HB1 := Lib.hid (HB1.out.trans ((EnvX.bel EX702.out).mono HB1.out.size))
  have HT1 := Lib.hid (HT1.out.below (EnvX.bel EX702.out))
  have E1 : Hid (EnvX u703 u703 [(w.heap.size, Obj.cells (arrB 32 id) 24 (0, 0))]) := ⟨Below.refl _ _, EX702.out.box⟩
  clear EX702
  have HLD : Hid ((loadVar 24 ⟨w.heap.size, 0, none⟩).run Tryd.prog u703 = .ok (idv id) u703) := box_load E1.out (List.Mem.head _) HD.out.1
  have HC1 : Hid (Calls Tryd.prog 11 #[.slice A m c, idv id, .int .i64 lev] u703 fun e w' => (∃ v, e = .returned v ∧ OwnI w' u703.heap.size v (stepL x r id (lvN lev))) ∧ Below u703.heap.size u703 w') := by
    have h := HK.out.next l id lev A m c u703 HL.out.1 (by omega) HL.out.2.1 HL.out.2.2 HIA.out.1 HD.out HLV.out (HIA.out.2.up HB1.out) HT1.out
    rwa [HN1.out] at h
  go_upto_region 4 with (fail)
  go_wp2_with ((with_reducible refine wpList_load_run (o := ⟨some 26, _, _, _, _, _⟩) ?_ 24 (.tmp 5) ?_ ⟨w.heap.size, 0, none⟩ ?_ HLD.out ?_); (rfl); (rfl); (rfl))
  refine HC1.out.mono ?_
  rintro e w2 ⟨⟨va, rfl, hva⟩, hb2⟩
  have HB2 := Lib.hid (HB1.out.trans (hb2.mono HB1.out.size))
  have HT2 := Lib.hid (HT.out.below HB2.out)
  have HLI : Hid (∀ u, EnvX w2 u [] → (loadVar 24 ⟨w.heap.size, 0, none⟩).run Tryd.prog u = .ok (idv id) u) := fun u hu => box_load (EnvX.comb (EnvX.below E1.out hb2) hu) (List.mem_append_right [] (List.Mem.head _)) HD.out.1
  obtain ⟨Ab, cb, rfl, hb1, hb3⟩ := hva.form
  have HBB := Lib.hid hva.ids
  have hlen := step_len x r id (lvN lev)
  obtain ⟨bl, hbl⟩ : ∃ bl, (stepL x r id (lvN lev)).length = bl := ⟨_, rfl⟩
  have HBL := Lib.hid hbl
  have hids0 : isIds (stepL x r id (lvN lev)) := step_ids (by rw [← HXR.out]; exact HIA.out.1) HD.out
  have HI0 := Lib.hid hids0
  have HLL3 := lvN_le lev
  have HRL2 := HRL.out
  have HM : Hid (m ≤ bl ∧ bl ≤ 32 ∧ lvN lev < bl) := ⟨by omega, by omega, by omega⟩
  rw [hbl] at hlen hb1 ⊢
  have HCB := Lib.hid (And.intro hb1 hb3)
  have HL3 := Lib.hid (HIA.out.2.up HB2.out)
  have HB0 : Hid (0 < bl) := by have := HM.out; show 0 < bl; omega
  obtain ⟨ab, rfl, -⟩ := HBB.out.load hids0 (i := 0) (by rw [hbl]; exact HB0.out)
  obtain ⟨al, rfl, -⟩ := HL3.out.load HIA.out.1 (i := 0) (by rw [HL.out.1]; omega)
  have HLB : Hid (∀ k, k < bl → ∀ u, EnvX w2 u [] → (loadVar 24 (ab.add (k * 32))).run Tryd.prog u = .ok (idv ((stepL x r id (lvN lev)).getD k [])) u) := fun k hk u hu => by
    obtain ⟨a2, e, h⟩ := (HBB.out.up (EnvX.bel hu)).load HI0.out (i := k) (by rw [HBL.out]; exact hk)
    cases e
    exact h
  have HLL : Hid (∀ k, k < m → ∀ u, EnvX w2 u [] → (loadVar 24 (al.add (k * 32))).run Tryd.prog u = .ok (idv (l.getD k [])) u) := fun k hk u hu => by
    obtain ⟨a2, e, h⟩ := (HL3.out.up (EnvX.bel hu)).load HIA.out.1 (i := k) (by rw [HL.out.1]; exact hk)
    cases e
    exact h
  have HL0 : Hid (l.getD 0 [] = x) := by show _ = _; rw [HXR.out]; rfl
  have HX0 : Hid (∀ u, EnvX w2 u [] → (loadVar 24 (al.add (0 * 32))).run Tryd.prog u = .ok (idv x) u) := fun u hu => by have h := HLL.out 0 hm0 u hu; rw [HL0.out] at h; exact h
  have HLE : Hid (leadsT (stepL x r id (lvN lev)) z32 x = true) := decide_eq_true (.inr (List.mem_cons_self ..))
  have HLC : Hid (∀ u, EnvX w2 u [] → Calls Tryd.prog 18 #[.slice (some ab) bl cb, idv z32, idv x] u fun e w' => e = .returned (.bool true) ∧ Below u.heap.size u w') := fun u hu => by
    have h := HK.out.leads (stepL x r id (lvN lev)) z32 x (some ab) bl cb u HBL.out (by have := HM.out; omega) HCB.out.1 HCB.out.2 HI0.out isId_zero HX.out (HBB.out.up (EnvX.bel hu)) (HT2.out.below (EnvX.bel hu))
    rwa [HLE.out] at h
  have C4 : Hid (decide ((bl : Int) < (m : Int)) = false) := decide_eq_false (by have := HM.out; omega)
  have C8 : Hid (decide (32 < (bl : Int)) = false) := decide_eq_false (by have := HM.out; omega)
  have EU : Hid (EnvX w2 w2 []) := EnvX.start _
  have HM0 : Hid (0 < m) := by show _ < _; omega
  clear hva hb2 HLD HC1 E1 hlen hb1 hb3 hbl hids0 HLL3 HRL2 HT HT1 HB1 HL0
  go_upto_region 5 with (fail)
  refine wp_region_H (w0 := w2) [] (by kernel_rfl) EU.out ?_
  refine anyH_phaseN [0, 1, 2, 3, 4, 5, 6, 7, 8, 9, 10, 11, 12, 13, 14, 15, 16, 17, 18, 19, 20, 21, 22, 23, 24, 25, 26, 27] 0 rfl (by kernel_rfl) ?_
  have hw801 : EnvX w2 _ [] := EnvX.sub (EnvX.drew EU.out) (fun _ h => by cases h)
  have hone := @EnvC.one _ _ _ hw801
  (refine wpG_op rfl rfl rfl ?_; intro K hK; go_big_quiet_op; go_big_quiet_on)
  (refine wpG_val (v := .int .i64 (bl : Int)) rfl rfl (fun u hu => lenI_op u rfl) ?_ hw801; intro K hK; go_big_quiet_op; go_big_quiet_on)
  (refine wpG_op rfl rfl rfl ?_; intro K hK; go_big_quiet_op; go_big_quiet_on)
  (refine wpG_val (v := .int .i64 (m : Int)) rfl rfl (fun u hu => lenI_op u rfl) ?_ hw801; intro K hK; go_big_quiet_op; go_big_quiet_on)
  (refine wpG_val (v := .bool false) rfl rfl (fun u hu => ltZ_op u C4.out rfl rfl) ?_ hw801; intro K hK; go_big_quiet_op; go_big_quiet_on)
  (refine wpG_op rfl rfl rfl ?_; intro K hK; go_big_quiet_op; go_big_quiet_on)
  (refine wpG_op rfl rfl rfl ?_; intro K hK; go_big_quiet_op; go_big_quiet_on)
  (refine wpG_val (v := .int .i64 (bl : Int)) rfl rfl (fun u hu => lenI_op u rfl) ?_ hw801; intro K hK; go_big_quiet_op; go_big_quiet_on)
  (refine wpG_val (v := .bool false) rfl rfl (fun u hu => gtZ_op u C8.out rfl rfl) ?_ hw801; intro K hK; go_big_quiet_op; go_big_quiet_on)
  (refine wpG_op rfl rfl rfl ?_; intro K hK; go_big_quiet_op; go_big_quiet_on)
  (refine wpG_op rfl rfl rfl ?_; intro K hK; go_big_quiet_op; go_big_quiet_on)
  (refine wpG_op rfl rfl rfl ?_; intro K hK; go_big_quiet_op; go_big_quiet_on)
  (refine wpG_val (v := .pointer (some (ab.add (0 * 32)))) rfl rfl (fun u hu => idxSl_op (i := 0) Tryd.underlying22 aggIdT.size HB0.out u rfl rfl) ?_ hw801; intro K hK; go_big_quiet_op; go_big_quiet_on)
  (refine wpG_val (v := idv x) rfl rfl (fun u hu => load_any_op u (HLB.out 0 HB0.out u (EnvX.sub hu (fun _ h => by cases h))) rfl) ?_ hw801; intro K hK; go_big_quiet_op; go_big_quiet_on)
  (refine wpG_op rfl rfl rfl ?_; intro K hK; go_big_quiet_op; go_big_quiet_on)
  (refine wpG_val (v := .pointer (some (al.add (0 * 32)))) rfl rfl (fun u hu => idxSl_op (i := 0) Tryd.underlying22 aggIdT.size HM0.out u rfl rfl) ?_ hw801; intro K hK; go_big_quiet_op; go_big_quiet_on)
  (refine wpG_val (v := idv x) rfl rfl (fun u hu => load_any_op u (HX0.out u (EnvX.sub hu (fun _ h => by cases h))) rfl) ?_ hw801; intro K hK; go_big_quiet_op; go_big_quiet_on)
  (refine wpG_val (v := .bool false) rfl rfl (fun u hu => neqb_op HX.out.1 HX.out.1 (by simp [eqL]) u rfl rfl) ?_ hw801; intro K hK; go_big_quiet_op; go_big_quiet_on)
  (refine wpG_op rfl rfl rfl ?_; intro K hK; go_big_quiet_op; go_big_quiet_on)
  (refine wpG_op rfl rfl rfl ?_; intro K hK; go_big_quiet_op; go_big_quiet_on)
  (refine wpG_op rfl rfl rfl ?_; intro K hK; go_big_quiet_op; go_big_quiet_on)
  (refine wpG_val (v := idv z32) rfl rfl (fun u hu => build_op u built0 rfl) ?_ hw801; intro K hK; go_big_quiet_op; go_big_quiet_on)
  (refine wpG_op rfl rfl rfl ?_; intro K hK; go_big_quiet_op; go_big_quiet_on)
  (refine wpG_val (v := .pointer (some (al.add (0 * 32)))) rfl rfl (fun u hu => idxSl_op (i := 0) Tryd.underlying22 aggIdT.size HM0.out u rfl rfl) ?_ hw801; intro K hK; go_big_quiet_op; go_big_quiet_on)
  (refine wpG_val (v := idv x) rfl rfl (fun u hu => load_any_op u (HX0.out u (EnvX.sub hu (fun _ h => by cases h))) rfl) ?_ hw801; intro K hK; go_big_quiet_op; go_big_quiet_on)
  (refine wpG_call (f := 18) (args := #[.slice (some ab) bl cb, idv z32, idv x]) (v := .bool true) rfl rfl rfl Tryd.func18 rfl rfl (fun u hu => HLC.out u (EnvX.sub hu (fun _ h => by cases h))) ?_ hw801; intro K hK; go_big_quiet_op; go_big_quiet_on)
  (refine wpG_op rfl rfl rfl ?_; intro K hK; go_big_quiet_op; go_big_quiet_on)
  (refine wpG_op rfl rfl rfl ?_; intro K hK; go_big_quiet_op; go_big_quiet_on)
  clear hone hw801
  refine wpG_nil ?_
  refine anyH_done (by kernel_rfl) ?_
  intro u803 E2'
  have EX802 := Lib.hid E2'
  clear E2'
  go_upto_region 7 with (fail)
  refine wp_region_Hx (w0 := w2) [0, 1, 2, 3, 4, 5] [] rfl EX802.out ?_
  refine lexH_phase [0, 1, 2, 3, 4, 5] [] ?_
  have hw804 : EnvX w2 _ [] := EX802.out
  have hone := @EnvC.one _ _ _ hw804
  (refine wpG_op rfl rfl rfl ?_; intro K hK; go_big_quiet_op; go_big_quiet_on)
  (refine wpG_val (v := .bool true) rfl rfl (fun u hu => ltZ_op u C71.out rfl rfl) ?_ hw804; intro K hK; go_big_quiet_op; go_big_quiet_on)
  (refine wpG_op rfl rfl rfl ?_; intro K hK; go_big_quiet_op; go_big_quiet_on)
  (refine wpG_skip rfl rfl ?_ hw804; intro K hK; go_big_quiet_op; go_big_quiet_on)
  (refine wpG_skip rfl rfl ?_ hw804; intro K hK; go_big_quiet_op; go_big_quiet_on)
  (refine wpG_op rfl rfl rfl ?_; intro K hK; go_big_quiet_op; go_big_quiet_on)
  clear hone hw804
  refine wpG_nil ?_
  intro u806 E2'
  have EX805 := Lib.hid E2'
  clear E2'
  have HBE := Lib.hid (HB2.out.trans ((EnvX.bel EX805.out).mono HB2.out.size))
  go_wp2
  go_ret
  exact ⟨rfl, HBE.out⟩
set_option maxRecDepth 20000 in
set_option maxHeartbeats 8000000 in
theorem law_grows_high (T : TreeC) (K : LinkC) (l : List (List Int)) (id : List Int) (lev n : Int) (A : Option Addr) (m c : Nat) (w : World) (hl : l.length = m) (hmc : m ≤ c) (hcm : c ≤ maxLen) (hI : isIds l) (hid : isId id) (hlev : I64 lev) (hn : I64 n) (hA : IdsIn w w.heap.size A l) (ht : Tables w) (x : List Int) (r : List (List Int)) (hxr : l = x :: r) (h32 : m ≤ 32) (n1 : 31 < n) :
    Calls Tryd.prog 4 #[.slice A m c, idv id, .int .i64 lev, .int .i64 n] w fun e w' => e = .returned (.bool true) ∧ Below w.heap.size w w' := by
  have hrl : r.length + 1 = m := by rw [← hl, hxr]; rfl
  have HK1 : Hid (decide (32 < (m : Int)) = false) := decide_eq_false (by omega)
  have HK2 : Hid (decide ((m : Int) = 0) = false) := decide_eq_false (by omega)
  have HN1 : Hid (nextT l id lev = stepL x r id (lvN lev)) := by show _ = _; rw [hxr]; exact next_some (by omega)
  have HX : Hid (isId x) := hI x (by rw [hxr]; exact List.mem_cons_self ..)
  have HD := Lib.hid hid
  have HL := Lib.hid (And.intro hl (And.intro hmc hcm))
  have HIA := Lib.hid (And.intro hI hA)
  have HXR := Lib.hid hxr
  have HLV := Lib.hid hlev
  have HRL := Lib.hid hrl
  have hm0 : 0 < m := by omega
  unfold I64 at hn
  have C71 : Hid (decide (n < 1) = false) := decide_eq_false (by omega)
  have C74 : Hid (decide (31 < n) = true) := decide_eq_true n1
  clear n1
  clear hl hI hid hA hlev hxr hrl hmc hcm
  have E0 : Hid (EnvX w (w.alloc (.cells (arrB 32 id) 24)) [(w.heap.size, Obj.cells (arrB 32 id) 24 (0, 0))]) := (EnvX.start w).new _
  have HAW := Lib.hid (lawake_any T K (w.alloc (.cells (arrB 32 id) 24)) (ht.below (EnvX.bel E0.out)))
  have HT := Lib.hid ht
  have HTR := Lib.hid T
  have HK := Lib.hid K
  clear ht T K
  unfold idv
  go_enter Tryd.func4, Tryd.ntmps4
  go_upto_region 1 with (fail)
  generalize (w.alloc (.cells (arrB 32 id) 24)) = W at *
  go_wp2_with fail
  refine HAW.out.mono ?_
  rintro e w1 ⟨rfl, hb1⟩
  have HB1 := Lib.hid (EnvX.below E0.out hb1).bel
  have E1 : Hid (EnvX w1 w1 [(w.heap.size, Obj.cells (arrB 32 id) 24 (0, 0))]) := ⟨Below.refl _ _, (EnvX.below E0.out hb1).box⟩
  have HT1 := Lib.hid (HT.out.below HB1.out)
  clear hb1 E0 HAW
  go_upto_region 2 with (fail)
  refine wp_region_Hx (w0 := w1) [0, 1, 2, 3, 4, 5, 6, 7, 8, 9, 10, 11] [(w.heap.size, Obj.cells (arrB 32 id) 24 (0, 0))] rfl E1.out ?_
  refine lexH_phase [0, 1, 2, 3, 4, 5, 6, 7, 8, 9, 10, 11] [] ?_
  have hw701 : EnvX w1 _ [(w.heap.size, Obj.cells (arrB 32 id) 24 (0, 0))] := E1.out
  have hone := @EnvC.one _ _ _ hw701
  (refine wpG_op rfl rfl rfl ?_; intro K hK; go_big_quiet_op; go_big_quiet_on)
  (refine wpG_op rfl rfl rfl ?_; intro K hK; go_big_quiet_op; go_big_quiet_on)
  (refine wpG_op rfl rfl rfl ?_; intro K hK; go_big_quiet_op; go_big_quiet_on)
  (refine wpG_op rfl rfl rfl ?_; intro K hK; go_big_quiet_op; go_big_quiet_on)
  (refine wpG_val (v := .int .i64 (m : Int)) rfl rfl (fun u hu => lenI_op u rfl) ?_ hw701; intro K hK; go_big_quiet_op; go_big_quiet_on)
  (refine wpG_val (v := .bool false) rfl rfl (fun u hu => gtZ_op u HK1.out rfl rfl) ?_ hw701; intro K hK; go_big_quiet_op; go_big_quiet_on)
  (refine wpG_op rfl rfl rfl ?_; intro K hK; go_big_quiet_op; go_big_quiet_on)
  (refine wpG_op rfl rfl rfl ?_; intro K hK; go_big_quiet_op; go_big_quiet_on)
  (refine wpG_op rfl rfl rfl ?_; intro K hK; go_big_quiet_op; go_big_quiet_on)
  (refine wpG_val (v := .int .i64 (m : Int)) rfl rfl (fun u hu => lenI_op u rfl) ?_ hw701; intro K hK; go_big_quiet_op; go_big_quiet_on)
  (refine wpG_val (v := .bool false) rfl rfl (fun u hu => eqlI_op u HK2.out rfl rfl) ?_ hw701; intro K hK; go_big_quiet_op; go_big_quiet_on)
  (refine wpG_op rfl rfl rfl ?_; intro K hK; go_big_quiet_op; go_big_quiet_on)
  clear hone hw701
  refine wpG_nil ?_
  intro u703 E2'
  have EX702 := Lib.hid E2'
  clear E2'
  have HB1 := Lib.hid (HB1.out.trans ((EnvX.bel EX702.out).mono HB1.out.size))
  have HT1 := Lib.hid (HT1.out.below (EnvX.bel EX702.out))
  have E1 : Hid (EnvX u703 u703 [(w.heap.size, Obj.cells (arrB 32 id) 24 (0, 0))]) := ⟨Below.refl _ _, EX702.out.box⟩
  clear EX702
  have HLD : Hid ((loadVar 24 ⟨w.heap.size, 0, none⟩).run Tryd.prog u703 = .ok (idv id) u703) := box_load E1.out (List.Mem.head _) HD.out.1
  have HC1 : Hid (Calls Tryd.prog 11 #[.slice A m c, idv id, .int .i64 lev] u703 fun e w' => (∃ v, e = .returned v ∧ OwnI w' u703.heap.size v (stepL x r id (lvN lev))) ∧ Below u703.heap.size u703 w') := by
    have h := HK.out.next l id lev A m c u703 HL.out.1 (by omega) HL.out.2.1 HL.out.2.2 HIA.out.1 HD.out HLV.out (HIA.out.2.up HB1.out) HT1.out
    rwa [HN1.out] at h
  go_upto_region 4 with (fail)
  go_wp2_with ((with_reducible refine wpList_load_run (o := ⟨some 26, _, _, _, _, _⟩) ?_ 24 (.tmp 5) ?_ ⟨w.heap.size, 0, none⟩ ?_ HLD.out ?_); (rfl); (rfl); (rfl))
  refine HC1.out.mono ?_
  rintro e w2 ⟨⟨va, rfl, hva⟩, hb2⟩
  have HB2 := Lib.hid (HB1.out.trans (hb2.mono HB1.out.size))
  have HT2 := Lib.hid (HT.out.below HB2.out)
  have HLI : Hid (∀ u, EnvX w2 u [] → (loadVar 24 ⟨w.heap.size, 0, none⟩).run Tryd.prog u = .ok (idv id) u) := fun u hu => box_load (EnvX.comb (EnvX.below E1.out hb2) hu) (List.mem_append_right [] (List.Mem.head _)) HD.out.1
  obtain ⟨Ab, cb, rfl, hb1, hb3⟩ := hva.form
  have HBB := Lib.hid hva.ids
  have hlen := step_len x r id (lvN lev)
  obtain ⟨bl, hbl⟩ : ∃ bl, (stepL x r id (lvN lev)).length = bl := ⟨_, rfl⟩
  have HBL := Lib.hid hbl
  have hids0 : isIds (stepL x r id (lvN lev)) := step_ids (by rw [← HXR.out]; exact HIA.out.1) HD.out
  have HI0 := Lib.hid hids0
  have HLL3 := lvN_le lev
  have HRL2 := HRL.out
  have HM : Hid (m ≤ bl ∧ bl ≤ 32 ∧ lvN lev < bl) := ⟨by omega, by omega, by omega⟩
  rw [hbl] at hlen hb1 ⊢
  have HCB := Lib.hid (And.intro hb1 hb3)
  have HL3 := Lib.hid (HIA.out.2.up HB2.out)
  have HB0 : Hid (0 < bl) := by have := HM.out; show 0 < bl; omega
  obtain ⟨ab, rfl, -⟩ := HBB.out.load hids0 (i := 0) (by rw [hbl]; exact HB0.out)
  obtain ⟨al, rfl, -⟩ := HL3.out.load HIA.out.1 (i := 0) (by rw [HL.out.1]; omega)
  have HLB : Hid (∀ k, k < bl → ∀ u, EnvX w2 u [] → (loadVar 24 (ab.add (k * 32))).run Tryd.prog u = .ok (idv ((stepL x r id (lvN lev)).getD k [])) u) := fun k hk u hu => by
    obtain ⟨a2, e, h⟩ := (HBB.out.up (EnvX.bel hu)).load HI0.out (i := k) (by rw [HBL.out]; exact hk)
    cases e
    exact h
  have HLL : Hid (∀ k, k < m → ∀ u, EnvX w2 u [] → (loadVar 24 (al.add (k * 32))).run Tryd.prog u = .ok (idv (l.getD k [])) u) := fun k hk u hu => by
    obtain ⟨a2, e, h⟩ := (HL3.out.up (EnvX.bel hu)).load HIA.out.1 (i := k) (by rw [HL.out.1]; exact hk)
    cases e
    exact h
  have HL0 : Hid (l.getD 0 [] = x) := by show _ = _; rw [HXR.out]; rfl
  have HX0 : Hid (∀ u, EnvX w2 u [] → (loadVar 24 (al.add (0 * 32))).run Tryd.prog u = .ok (idv x) u) := fun u hu => by have h := HLL.out 0 hm0 u hu; rw [HL0.out] at h; exact h
  have HLE : Hid (leadsT (stepL x r id (lvN lev)) z32 x = true) := decide_eq_true (.inr (List.mem_cons_self ..))
  have HLC : Hid (∀ u, EnvX w2 u [] → Calls Tryd.prog 18 #[.slice (some ab) bl cb, idv z32, idv x] u fun e w' => e = .returned (.bool true) ∧ Below u.heap.size u w') := fun u hu => by
    have h := HK.out.leads (stepL x r id (lvN lev)) z32 x (some ab) bl cb u HBL.out (by have := HM.out; omega) HCB.out.1 HCB.out.2 HI0.out isId_zero HX.out (HBB.out.up (EnvX.bel hu)) (HT2.out.below (EnvX.bel hu))
    rwa [HLE.out] at h
  have C4 : Hid (decide ((bl : Int) < (m : Int)) = false) := decide_eq_false (by have := HM.out; omega)
  have C8 : Hid (decide (32 < (bl : Int)) = false) := decide_eq_false (by have := HM.out; omega)
  have EU : Hid (EnvX w2 w2 []) := EnvX.start _
  have HM0 : Hid (0 < m) := by show _ < _; omega
  clear hva hb2 HLD HC1 E1 hlen hb1 hb3 hbl hids0 HLL3 HRL2 HT HT1 HB1 HL0
  go_upto_region 5 with (fail)
  refine wp_region_H (w0 := w2) [] (by kernel_rfl) EU.out ?_
  refine anyH_phaseN [0, 1, 2, 3, 4, 5, 6, 7, 8, 9, 10, 11, 12, 13, 14, 15, 16, 17, 18, 19, 20, 21, 22, 23, 24, 25, 26, 27] 0 rfl (by kernel_rfl) ?_
  have hw801 : EnvX w2 _ [] := EnvX.sub (EnvX.drew EU.out) (fun _ h => by cases h)
  have hone := @EnvC.one _ _ _ hw801
  (refine wpG_op rfl rfl rfl ?_; intro K hK; go_big_quiet_op; go_big_quiet_on)
  (refine wpG_val (v := .int .i64 (bl : Int)) rfl rfl (fun u hu => lenI_op u rfl) ?_ hw801; intro K hK; go_big_quiet_op; go_big_quiet_on)
  (refine wpG_op rfl rfl rfl ?_; intro K hK; go_big_quiet_op; go_big_quiet_on)
  (refine wpG_val (v := .int .i64 (m : Int)) rfl rfl (fun u hu => lenI_op u rfl) ?_ hw801; intro K hK; go_big_quiet_op; go_big_quiet_on)
  (refine wpG_val (v := .bool false) rfl rfl (fun u hu => ltZ_op u C4.out rfl rfl) ?_ hw801; intro K hK; go_big_quiet_op; go_big_quiet_on)
  (refine wpG_op rfl rfl rfl ?_; intro K hK; go_big_quiet_op; go_big_quiet_on)
  (refine wpG_op rfl rfl rfl ?_; intro K hK; go_big_quiet_op; go_big_quiet_on)
  (refine wpG_val (v := .int .i64 (bl : Int)) rfl rfl (fun u hu => lenI_op u rfl) ?_ hw801; intro K hK; go_big_quiet_op; go_big_quiet_on)
  (refine wpG_val (v := .bool false) rfl rfl (fun u hu => gtZ_op u C8.out rfl rfl) ?_ hw801; intro K hK; go_big_quiet_op; go_big_quiet_on)
  (refine wpG_op rfl rfl rfl ?_; intro K hK; go_big_quiet_op; go_big_quiet_on)
  (refine wpG_op rfl rfl rfl ?_; intro K hK; go_big_quiet_op; go_big_quiet_on)
  (refine wpG_op rfl rfl rfl ?_; intro K hK; go_big_quiet_op; go_big_quiet_on)
  (refine wpG_val (v := .pointer (some (ab.add (0 * 32)))) rfl rfl (fun u hu => idxSl_op (i := 0) Tryd.underlying22 aggIdT.size HB0.out u rfl rfl) ?_ hw801; intro K hK; go_big_quiet_op; go_big_quiet_on)
  (refine wpG_val (v := idv x) rfl rfl (fun u hu => load_any_op u (HLB.out 0 HB0.out u (EnvX.sub hu (fun _ h => by cases h))) rfl) ?_ hw801; intro K hK; go_big_quiet_op; go_big_quiet_on)
  (refine wpG_op rfl rfl rfl ?_; intro K hK; go_big_quiet_op; go_big_quiet_on)
  (refine wpG_val (v := .pointer (some (al.add (0 * 32)))) rfl rfl (fun u hu => idxSl_op (i := 0) Tryd.underlying22 aggIdT.size HM0.out u rfl rfl) ?_ hw801; intro K hK; go_big_quiet_op; go_big_quiet_on)
  (refine wpG_val (v := idv x) rfl rfl (fun u hu => load_any_op u (HX0.out u (EnvX.sub hu (fun _ h => by cases h))) rfl) ?_ hw801; intro K hK; go_big_quiet_op; go_big_quiet_on)
  (refine wpG_val (v := .bool false) rfl rfl (fun u hu => neqb_op HX.out.1 HX.out.1 (by simp [eqL]) u rfl rfl) ?_ hw801; intro K hK; go_big_quiet_op; go_big_quiet_on)
  (refine wpG_op rfl rfl rfl ?_; intro K hK; go_big_quiet_op; go_big_quiet_on)
  (refine wpG_op rfl rfl rfl ?_; intro K hK; go_big_quiet_op; go_big_quiet_on)
  (refine wpG_op rfl rfl rfl ?_; intro K hK; go_big_quiet_op; go_big_quiet_on)
  (refine wpG_val (v := idv z32) rfl rfl (fun u hu => build_op u built0 rfl) ?_ hw801; intro K hK; go_big_quiet_op; go_big_quiet_on)
  (refine wpG_op rfl rfl rfl ?_; intro K hK; go_big_quiet_op; go_big_quiet_on)
  (refine wpG_val (v := .pointer (some (al.add (0 * 32)))) rfl rfl (fun u hu => idxSl_op (i := 0) Tryd.underlying22 aggIdT.size HM0.out u rfl rfl) ?_ hw801; intro K hK; go_big_quiet_op; go_big_quiet_on)
  (refine wpG_val (v := idv x) rfl rfl (fun u hu => load_any_op u (HX0.out u (EnvX.sub hu (fun _ h => by cases h))) rfl) ?_ hw801; intro K hK; go_big_quiet_op; go_big_quiet_on)
  (refine wpG_call (f := 18) (args := #[.slice (some ab) bl cb, idv z32, idv x]) (v := .bool true) rfl rfl rfl Tryd.func18 rfl rfl (fun u hu => HLC.out u (EnvX.sub hu (fun _ h => by cases h))) ?_ hw801; intro K hK; go_big_quiet_op; go_big_quiet_on)
  (refine wpG_op rfl rfl rfl ?_; intro K hK; go_big_quiet_op; go_big_quiet_on)
  (refine wpG_op rfl rfl rfl ?_; intro K hK; go_big_quiet_op; go_big_quiet_on)
  clear hone hw801
  refine wpG_nil ?_
  refine anyH_done (by kernel_rfl) ?_
  intro u803 E2'
  have EX802 := Lib.hid E2'
  clear E2'
  go_upto_region 7 with (fail)
  refine wp_region_Hx (w0 := w2) [0, 1, 2, 3, 4, 5] [] rfl EX802.out ?_
  refine lexH_phase [0, 1, 2, 3, 4, 5] [] ?_
  have hw804 : EnvX w2 _ [] := EX802.out
  have hone := @EnvC.one _ _ _ hw804
  (refine wpG_op rfl rfl rfl ?_; intro K hK; go_big_quiet_op; go_big_quiet_on)
  (refine wpG_val (v := .bool false) rfl rfl (fun u hu => ltZ_op u C71.out rfl rfl) ?_ hw804; intro K hK; go_big_quiet_op; go_big_quiet_on)
  (refine wpG_op rfl rfl rfl ?_; intro K hK; go_big_quiet_op; go_big_quiet_on)
  (refine wpG_op rfl rfl rfl ?_; intro K hK; go_big_quiet_op; go_big_quiet_on)
  (refine wpG_val (v := .bool true) rfl rfl (fun u hu => gtZ_op u C74.out rfl rfl) ?_ hw804; intro K hK; go_big_quiet_op; go_big_quiet_on)
  (refine wpG_op rfl rfl rfl ?_; intro K hK; go_big_quiet_op; go_big_quiet_on)
  clear hone hw804
  refine wpG_nil ?_
  intro u806 E2'
  have EX805 := Lib.hid E2'
  clear E2'
  have HBE := Lib.hid (HB2.out.trans ((EnvX.bel EX805.out).mono HB2.out.size))
  go_wp2
  go_ret
  exact ⟨rfl, HBE.out⟩
set_option maxRecDepth 20000 in
set_option maxHeartbeats 8000000 in
theorem law_grows_in (T : TreeC) (K : LinkC) (l : List (List Int)) (id : List Int) (lev n : Int) (A : Option Addr) (m c : Nat) (w : World) (hl : l.length = m) (hmc : m ≤ c) (hcm : c ≤ maxLen) (hI : isIds l) (hid : isId id) (hlev : I64 lev) (hn : I64 n) (hA : IdsIn w w.heap.size A l) (ht : Tables w) (x : List Int) (r : List (List Int)) (hxr : l = x :: r) (h32 : m ≤ 32) (j : Nat) (n1 : n = (j : Int)) (n2 : 1 ≤ j) (n3 : j ≤ 31) (n4 : (j : Int) ≤ lev) :
    Calls Tryd.prog 4 #[.slice A m c, idv id, .int .i64 lev, .int .i64 n] w fun e w' => e = .returned (.bool true) ∧ Below w.heap.size w w' := by
  have hrl : r.length + 1 = m := by rw [← hl, hxr]; rfl
  have HK1 : Hid (decide (32 < (m : Int)) = false) := decide_eq_false (by omega)
  have HK2 : Hid (decide ((m : Int) = 0) = false) := decide_eq_false (by omega)
  have HN1 : Hid (nextT l id lev = stepL x r id (lvN lev)) := by show _ = _; rw [hxr]; exact next_some (by omega)
  have HX : Hid (isId x) := hI x (by rw [hxr]; exact List.mem_cons_self ..)
  have HD := Lib.hid hid
  have HL := Lib.hid (And.intro hl (And.intro hmc hcm))
  have HIA := Lib.hid (And.intro hI hA)
  have HXR := Lib.hid hxr
  have HLV := Lib.hid hlev
  have HRL := Lib.hid hrl
  have hm0 : 0 < m := by omega
  unfold I64 at hn
  subst n1
  have C71 : Hid (decide ((j : Int) < 1) = false) := decide_eq_false (by omega)
  have C74 : Hid (decide (31 < (j : Int)) = false) := decide_eq_false (by omega)
  have C9 : Hid (decide ((j : Int) ≤ lev) = true) := decide_eq_true n4
  have HJ : Hid (1 ≤ j ∧ j ≤ lvN lev) := ⟨n2, by unfold lvN; omega⟩
  clear n2 n3 n4
  clear hl hI hid hA hlev hxr hrl hmc hcm
  have E0 : Hid (EnvX w (w.alloc (.cells (arrB 32 id) 24)) [(w.heap.size, Obj.cells (arrB 32 id) 24 (0, 0))]) := (EnvX.start w).new _
  have HAW := Lib.hid (lawake_any T K (w.alloc (.cells (arrB 32 id) 24)) (ht.below (EnvX.bel E0.out)))
  have HT := Lib.hid ht
  have HTR := Lib.hid T
  have HK := Lib.hid K
  clear ht T K
  unfold idv
  go_enter Tryd.func4, Tryd.ntmps4
  go_upto_region 1 with (fail)
  generalize (w.alloc (.cells (arrB 32 id) 24)) = W at *
  go_wp2_with fail
  refine HAW.out.mono ?_
  rintro e w1 ⟨rfl, hb1⟩
  have HB1 := Lib.hid (EnvX.below E0.out hb1).bel
  have E1 : Hid (EnvX w1 w1 [(w.heap.size, Obj.cells (arrB 32 id) 24 (0, 0))]) := ⟨Below.refl _ _, (EnvX.below E0.out hb1).box⟩
  have HT1 := Lib.hid (HT.out.below HB1.out)
  clear hb1 E0 HAW
  go_upto_region 2 with (fail)
  refine wp_region_Hx (w0 := w1) [0, 1, 2, 3, 4, 5, 6, 7, 8, 9, 10, 11] [(w.heap.size, Obj.cells (arrB 32 id) 24 (0, 0))] rfl E1.out ?_
  refine lexH_phase [0, 1, 2, 3, 4, 5, 6, 7, 8, 9, 10, 11] [] ?_
  have hw701 : EnvX w1 _ [(w.heap.size, Obj.cells (arrB 32 id) 24 (0, 0))] := E1.out
  have hone := @EnvC.one _ _ _ hw701
  (refine wpG_op rfl rfl rfl ?_; intro K hK; go_big_quiet_op; go_big_quiet_on)
  (refine wpG_op rfl rfl rfl ?_; intro K hK; go_big_quiet_op; go_big_quiet_on)
  (refine wpG_op rfl rfl rfl ?_; intro K hK; go_big_quiet_op; go_big_quiet_on)
  (refine wpG_op rfl rfl rfl ?_; intro K hK; go_big_quiet_op; go_big_quiet_on)
  (refine wpG_val (v := .int .i64 (m : Int)) rfl rfl (fun u hu => lenI_op u rfl) ?_ hw701; intro K hK; go_big_quiet_op; go_big_quiet_on)
  (refine wpG_val (v := .bool false) rfl rfl (fun u hu => gtZ_op u HK1.out rfl rfl) ?_ hw701; intro K hK; go_big_quiet_op; go_big_quiet_on)
  (refine wpG_op rfl rfl rfl ?_; intro K hK; go_big_quiet_op; go_big_quiet_on)
  (refine wpG_op rfl rfl rfl ?_; intro K hK; go_big_quiet_op; go_big_quiet_on)
  (refine wpG_op rfl rfl rfl ?_; intro K hK; go_big_quiet_op; go_big_quiet_on)
  (refine wpG_val (v := .int .i64 (m : Int)) rfl rfl (fun u hu => lenI_op u rfl) ?_ hw701; intro K hK; go_big_quiet_op; go_big_quiet_on)
  (refine wpG_val (v := .bool false) rfl rfl (fun u hu => eqlI_op u HK2.out rfl rfl) ?_ hw701; intro K hK; go_big_quiet_op; go_big_quiet_on)
  (refine wpG_op rfl rfl rfl ?_; intro K hK; go_big_quiet_op; go_big_quiet_on)
  clear hone hw701
  refine wpG_nil ?_
  intro u703 E2'
  have EX702 := Lib.hid E2'
  clear E2'
  have HB1 := Lib.hid (HB1.out.trans ((EnvX.bel EX702.out).mono HB1.out.size))
  have HT1 := Lib.hid (HT1.out.below (EnvX.bel EX702.out))
  have E1 : Hid (EnvX u703 u703 [(w.heap.size, Obj.cells (arrB 32 id) 24 (0, 0))]) := ⟨Below.refl _ _, EX702.out.box⟩
  clear EX702
  have HLD : Hid ((loadVar 24 ⟨w.heap.size, 0, none⟩).run Tryd.prog u703 = .ok (idv id) u703) := box_load E1.out (List.Mem.head _) HD.out.1
  have HC1 : Hid (Calls Tryd.prog 11 #[.slice A m c, idv id, .int .i64 lev] u703 fun e w' => (∃ v, e = .returned v ∧ OwnI w' u703.heap.size v (stepL x r id (lvN lev))) ∧ Below u703.heap.size u703 w') := by
    have h := HK.out.next l id lev A m c u703 HL.out.1 (by omega) HL.out.2.1 HL.out.2.2 HIA.out.1 HD.out HLV.out (HIA.out.2.up HB1.out) HT1.out
    rwa [HN1.out] at h
  go_upto_region 4 with (fail)
  go_wp2_with ((with_reducible refine wpList_load_run (o := ⟨some 26, _, _, _, _, _⟩) ?_ 24 (.tmp 5) ?_ ⟨w.heap.size, 0, none⟩ ?_ HLD.out ?_); (rfl); (rfl); (rfl))
  refine HC1.out.mono ?_
  rintro e w2 ⟨⟨va, rfl, hva⟩, hb2⟩
  have HB2 := Lib.hid (HB1.out.trans (hb2.mono HB1.out.size))
  have HT2 := Lib.hid (HT.out.below HB2.out)
  have HLI : Hid (∀ u, EnvX w2 u [] → (loadVar 24 ⟨w.heap.size, 0, none⟩).run Tryd.prog u = .ok (idv id) u) := fun u hu => box_load (EnvX.comb (EnvX.below E1.out hb2) hu) (List.mem_append_right [] (List.Mem.head _)) HD.out.1
  obtain ⟨Ab, cb, rfl, hb1, hb3⟩ := hva.form
  have HBB := Lib.hid hva.ids
  have hlen := step_len x r id (lvN lev)
  obtain ⟨bl, hbl⟩ : ∃ bl, (stepL x r id (lvN lev)).length = bl := ⟨_, rfl⟩
  have HBL := Lib.hid hbl
  have hids0 : isIds (stepL x r id (lvN lev)) := step_ids (by rw [← HXR.out]; exact HIA.out.1) HD.out
  have HI0 := Lib.hid hids0
  have HLL3 := lvN_le lev
  have HRL2 := HRL.out
  have HM : Hid (m ≤ bl ∧ bl ≤ 32 ∧ lvN lev < bl) := ⟨by omega, by omega, by omega⟩
  rw [hbl] at hlen hb1 ⊢
  have HCB := Lib.hid (And.intro hb1 hb3)
  have HL3 := Lib.hid (HIA.out.2.up HB2.out)
  have HB0 : Hid (0 < bl) := by have := HM.out; show 0 < bl; omega
  obtain ⟨ab, rfl, -⟩ := HBB.out.load hids0 (i := 0) (by rw [hbl]; exact HB0.out)
  obtain ⟨al, rfl, -⟩ := HL3.out.load HIA.out.1 (i := 0) (by rw [HL.out.1]; omega)
  have HLB : Hid (∀ k, k < bl → ∀ u, EnvX w2 u [] → (loadVar 24 (ab.add (k * 32))).run Tryd.prog u = .ok (idv ((stepL x r id (lvN lev)).getD k [])) u) := fun k hk u hu => by
    obtain ⟨a2, e, h⟩ := (HBB.out.up (EnvX.bel hu)).load HI0.out (i := k) (by rw [HBL.out]; exact hk)
    cases e
    exact h
  have HLL : Hid (∀ k, k < m → ∀ u, EnvX w2 u [] → (loadVar 24 (al.add (k * 32))).run Tryd.prog u = .ok (idv (l.getD k [])) u) := fun k hk u hu => by
    obtain ⟨a2, e, h⟩ := (HL3.out.up (EnvX.bel hu)).load HIA.out.1 (i := k) (by rw [HL.out.1]; exact hk)
    cases e
    exact h
  have HL0 : Hid (l.getD 0 [] = x) := by show _ = _; rw [HXR.out]; rfl
  have HX0 : Hid (∀ u, EnvX w2 u [] → (loadVar 24 (al.add (0 * 32))).run Tryd.prog u = .ok (idv x) u) := fun u hu => by have h := HLL.out 0 hm0 u hu; rw [HL0.out] at h; exact h
  have HLE : Hid (leadsT (stepL x r id (lvN lev)) z32 x = true) := decide_eq_true (.inr (List.mem_cons_self ..))
  have HLC : Hid (∀ u, EnvX w2 u [] → Calls Tryd.prog 18 #[.slice (some ab) bl cb, idv z32, idv x] u fun e w' => e = .returned (.bool true) ∧ Below u.heap.size u w') := fun u hu => by
    have h := HK.out.leads (stepL x r id (lvN lev)) z32 x (some ab) bl cb u HBL.out (by have := HM.out; omega) HCB.out.1 HCB.out.2 HI0.out isId_zero HX.out (HBB.out.up (EnvX.bel hu)) (HT2.out.below (EnvX.bel hu))
    rwa [HLE.out] at h
  have C4 : Hid (decide ((bl : Int) < (m : Int)) = false) := decide_eq_false (by have := HM.out; omega)
  have C8 : Hid (decide (32 < (bl : Int)) = false) := decide_eq_false (by have := HM.out; omega)
  have EU : Hid (EnvX w2 w2 []) := EnvX.start _
  have HM0 : Hid (0 < m) := by show _ < _; omega
  clear hva hb2 HLD HC1 E1 hlen hb1 hb3 hbl hids0 HLL3 HRL2 HT HT1 HB1 HL0
  go_upto_region 5 with (fail)
  refine wp_region_H (w0 := w2) [] (by kernel_rfl) EU.out ?_
  refine anyH_phaseN [0, 1, 2, 3, 4, 5, 6, 7, 8, 9, 10, 11, 12, 13, 14, 15, 16, 17, 18, 19, 20, 21, 22, 23, 24, 25, 26, 27] 0 rfl (by kernel_rfl) ?_
  have hw801 : EnvX w2 _ [] := EnvX.sub (EnvX.drew EU.out) (fun _ h => by cases h)
  have hone := @EnvC.one _ _ _ hw801
  (refine wpG_op rfl rfl rfl ?_; intro K hK; go_big_quiet_op; go_big_quiet_on)
  (refine wpG_val (v := .int .i64 (bl : Int)) rfl rfl (fun u hu => lenI_op u rfl) ?_ hw801; intro K hK; go_big_quiet_op; go_big_quiet_on)
  (refine wpG_op rfl rfl rfl ?_; intro K hK; go_big_quiet_op; go_big_quiet_on)
  (refine wpG_val (v := .int .i64 (m : Int)) rfl rfl (fun u hu => lenI_op u rfl) ?_ hw801; intro K hK; go_big_quiet_op; go_big_quiet_on)
  (refine wpG_val (v := .bool false) rfl rfl (fun u hu => ltZ_op u C4.out rfl rfl) ?_ hw801; intro K hK; go_big_quiet_op; go_big_quiet_on)
  (refine wpG_op rfl rfl rfl ?_; intro K hK; go_big_quiet_op; go_big_quiet_on)
  (refine wpG_op rfl rfl rfl ?_; intro K hK; go_big_quiet_op; go_big_quiet_on)
  (refine wpG_val (v := .int .i64 (bl : Int)) rfl rfl (fun u hu => lenI_op u rfl) ?_ hw801; intro K hK; go_big_quiet_op; go_big_quiet_on)
  (refine wpG_val (v := .bool false) rfl rfl (fun u hu => gtZ_op u C8.out rfl rfl) ?_ hw801; intro K hK; go_big_quiet_op; go_big_quiet_on)
  (refine wpG_op rfl rfl rfl ?_; intro K hK; go_big_quiet_op; go_big_quiet_on)
  (refine wpG_op rfl rfl rfl ?_; intro K hK; go_big_quiet_op; go_big_quiet_on)
  (refine wpG_op rfl rfl rfl ?_; intro K hK; go_big_quiet_op; go_big_quiet_on)
  (refine wpG_val (v := .pointer (some (ab.add (0 * 32)))) rfl rfl (fun u hu => idxSl_op (i := 0) Tryd.underlying22 aggIdT.size HB0.out u rfl rfl) ?_ hw801; intro K hK; go_big_quiet_op; go_big_quiet_on)
  (refine wpG_val (v := idv x) rfl rfl (fun u hu => load_any_op u (HLB.out 0 HB0.out u (EnvX.sub hu (fun _ h => by cases h))) rfl) ?_ hw801; intro K hK; go_big_quiet_op; go_big_quiet_on)
  (refine wpG_op rfl rfl rfl ?_; intro K hK; go_big_quiet_op; go_big_quiet_on)
  (refine wpG_val (v := .pointer (some (al.add (0 * 32)))) rfl rfl (fun u hu => idxSl_op (i := 0) Tryd.underlying22 aggIdT.size HM0.out u rfl rfl) ?_ hw801; intro K hK; go_big_quiet_op; go_big_quiet_on)
  (refine wpG_val (v := idv x) rfl rfl (fun u hu => load_any_op u (HX0.out u (EnvX.sub hu (fun _ h => by cases h))) rfl) ?_ hw801; intro K hK; go_big_quiet_op; go_big_quiet_on)
  (refine wpG_val (v := .bool false) rfl rfl (fun u hu => neqb_op HX.out.1 HX.out.1 (by simp [eqL]) u rfl rfl) ?_ hw801; intro K hK; go_big_quiet_op; go_big_quiet_on)
  (refine wpG_op rfl rfl rfl ?_; intro K hK; go_big_quiet_op; go_big_quiet_on)
  (refine wpG_op rfl rfl rfl ?_; intro K hK; go_big_quiet_op; go_big_quiet_on)
  (refine wpG_op rfl rfl rfl ?_; intro K hK; go_big_quiet_op; go_big_quiet_on)
  (refine wpG_val (v := idv z32) rfl rfl (fun u hu => build_op u built0 rfl) ?_ hw801; intro K hK; go_big_quiet_op; go_big_quiet_on)
  (refine wpG_op rfl rfl rfl ?_; intro K hK; go_big_quiet_op; go_big_quiet_on)
  (refine wpG_val (v := .pointer (some (al.add (0 * 32)))) rfl rfl (fun u hu => idxSl_op (i := 0) Tryd.underlying22 aggIdT.size HM0.out u rfl rfl) ?_ hw801; intro K hK; go_big_quiet_op; go_big_quiet_on)
  (refine wpG_val (v := idv x) rfl rfl (fun u hu => load_any_op u (HX0.out u (EnvX.sub hu (fun _ h => by cases h))) rfl) ?_ hw801; intro K hK; go_big_quiet_op; go_big_quiet_on)
  (refine wpG_call (f := 18) (args := #[.slice (some ab) bl cb, idv z32, idv x]) (v := .bool true) rfl rfl rfl Tryd.func18 rfl rfl (fun u hu => HLC.out u (EnvX.sub hu (fun _ h => by cases h))) ?_ hw801; intro K hK; go_big_quiet_op; go_big_quiet_on)
  (refine wpG_op rfl rfl rfl ?_; intro K hK; go_big_quiet_op; go_big_quiet_on)
  (refine wpG_op rfl rfl rfl ?_; intro K hK; go_big_quiet_op; go_big_quiet_on)
  clear hone hw801
  refine wpG_nil ?_
  refine anyH_done (by kernel_rfl) ?_
  intro u803 E2'
  have EX802 := Lib.hid E2'
  clear E2'
  go_upto_region 7 with (fail)
  refine wp_region_Hx (w0 := w2) [0, 1, 2, 3, 4, 5] [] rfl EX802.out ?_
  refine lexH_phase [0, 1, 2, 3, 4, 5] [] ?_
  have hw804 : EnvX w2 _ [] := EX802.out
  have hone := @EnvC.one _ _ _ hw804
  (refine wpG_op rfl rfl rfl ?_; intro K hK; go_big_quiet_op; go_big_quiet_on)
  (refine wpG_val (v := .bool false) rfl rfl (fun u hu => ltZ_op u C71.out rfl rfl) ?_ hw804; intro K hK; go_big_quiet_op; go_big_quiet_on)
  (refine wpG_op rfl rfl rfl ?_; intro K hK; go_big_quiet_op; go_big_quiet_on)
  (refine wpG_op rfl rfl rfl ?_; intro K hK; go_big_quiet_op; go_big_quiet_on)
  (refine wpG_val (v := .bool false) rfl rfl (fun u hu => gtZ_op u C74.out rfl rfl) ?_ hw804; intro K hK; go_big_quiet_op; go_big_quiet_on)
  (refine wpG_op rfl rfl rfl ?_; intro K hK; go_big_quiet_op; go_big_quiet_on)
  clear hone hw804
  refine wpG_nil ?_
  intro u806 E2'
  have EX805 := Lib.hid E2'
  clear E2'
  go_upto_region 9 with (fail)
  refine wp_region_Hx (w0 := w2) [0, 1, 2] [] rfl EX805.out ?_
  refine lexH_phase [0, 1, 2] [] ?_
  have hw807 : EnvX w2 _ [] := EX805.out
  have hone := @EnvC.one _ _ _ hw807
  (refine wpG_op rfl rfl rfl ?_; intro K hK; go_big_quiet_op; go_big_quiet_on)
  (refine wpG_op rfl rfl rfl ?_; intro K hK; go_big_quiet_op; go_big_quiet_on)
  (refine wpG_val (v := .bool true) rfl rfl (fun u hu => leZ_op u C9.out rfl rfl) ?_ hw807; intro K hK; go_big_quiet_op; go_big_quiet_on)
  clear hone hw807
  refine wpG_nil ?_
  intro u809 E2'
  have EX808 := Lib.hid E2'
  clear E2'
  go_upto_region 10 with (fail)
  refine wp_region_H (w0 := w2) [] (by kernel_rfl) EX808.out ?_
  refine anyH_phaseN [0, 1, 2, 3, 4, 5, 6, 7, 8, 9, 10, 11, 12] 0 rfl (by kernel_rfl) ?_
  have hw810 : EnvX w2 _ [] := EnvX.sub (EnvX.drew EX808.out) (fun _ h => by cases h)
  have hone := @EnvC.one _ _ _ hw810
  (refine wpG_op rfl rfl rfl ?_; intro K hK; go_big_quiet_op; go_big_quiet_on)
  (refine wpG_val (v := .int .i64 (bl : Int)) rfl rfl (fun u hu => lenI_op u rfl) ?_ hw810; intro K hK; go_big_quiet_op; go_big_quiet_on)
  (refine wpG_op rfl rfl rfl ?_; intro K hK; go_big_quiet_op; go_big_quiet_on)
  (refine wpG_val (v := .bool true) rfl rfl (fun u hu => gtZ_op u (decide_eq_true (by have := HM.out; have := HJ.out; omega)) rfl rfl) ?_ hw810; intro K hK; go_big_quiet_op; go_big_quiet_on)
  (refine wpG_op rfl rfl rfl ?_; intro K hK; go_big_quiet_op; go_big_quiet_on)
  (refine wpG_op rfl rfl rfl ?_; intro K hK; go_big_quiet_op; go_big_quiet_on)
  (refine wpG_op rfl rfl rfl ?_; intro K hK; go_big_quiet_op; go_big_quiet_on)
  (refine wpG_val (v := .pointer (some (ab.add (j * 32)))) rfl rfl (fun u hu => idxSl_op (i := j) Tryd.underlying22 aggIdT.size (by have := HM.out; have := HJ.out; omega) u rfl rfl) ?_ hw810; intro K hK; go_big_quiet_op; go_big_quiet_on)
  (refine wpG_val (v := idv id) rfl rfl (fun u hu => load_any_op u (by have h := HLB.out j (by have := HM.out; have := HJ.out; omega) u (EnvX.sub hu (fun _ h => by cases h)); rw [step_get HJ.out.1 HJ.out.2] at h; exact h) rfl) ?_ hw810; intro K hK; go_big_quiet_op; go_big_quiet_on)
  (refine wpG_val (v := idv id) rfl rfl (fun u hu => load_any_op u (HLI.out u (EnvX.sub hu (fun _ h => by cases h))) rfl) ?_ hw810; intro K hK; go_big_quiet_op; go_big_quiet_on)
  (refine wpG_val (v := .bool true) rfl rfl (fun u hu => eqlb_op HD.out.1 HD.out.1 (by simp [eqL]) u rfl rfl) ?_ hw810; intro K hK; go_big_quiet_op; go_big_quiet_on)
  (refine wpG_op rfl rfl rfl ?_; intro K hK; go_big_quiet_op; go_big_quiet_on)
  (refine wpG_op rfl rfl rfl ?_; intro K hK; go_big_quiet_op; go_big_quiet_on)
  clear hone hw810
  refine wpG_nil ?_
  refine anyH_done (by kernel_rfl) ?_
  intro u812 E2'
  have EX811 := Lib.hid E2'
  clear E2'
  have HBE := Lib.hid (HB2.out.trans ((EnvX.bel EX811.out).mono HB2.out.size))
  go_wp2
  go_ret
  exact ⟨rfl, HBE.out⟩
set_option maxRecDepth 20000 in
set_option maxHeartbeats 8000000 in
theorem law_grows_over (T : TreeC) (K : LinkC) (l : List (List Int)) (id : List Int) (lev n : Int) (A : Option Addr) (m c : Nat) (w : World) (hl : l.length = m) (hmc : m ≤ c) (hcm : c ≤ maxLen) (hI : isIds l) (hid : isId id) (hlev : I64 lev) (hn : I64 n) (hA : IdsIn w w.heap.size A l) (ht : Tables w) (x : List Int) (r : List (List Int)) (hxr : l = x :: r) (h32 : m ≤ 32) (j : Nat) (n1 : n = (j : Int)) (n2 : 1 ≤ j) (n3 : j ≤ 31) (n4 : lev < (j : Int)) (n5 : m ≤ j) :
    Calls Tryd.prog 4 #[.slice A m c, idv id, .int .i64 lev, .int .i64 n] w fun e w' => e = .returned (.bool true) ∧ Below w.heap.size w w' := by
  have hrl : r.length + 1 = m := by rw [← hl, hxr]; rfl
  have HK1 : Hid (decide (32 < (m : Int)) = false) := decide_eq_false (by omega)
  have HK2 : Hid (decide ((m : Int) = 0) = false) := decide_eq_false (by omega)
  have HN1 : Hid (nextT l id lev = stepL x r id (lvN lev)) := by show _ = _; rw [hxr]; exact next_some (by omega)
  have HX : Hid (isId x) := hI x (by rw [hxr]; exact List.mem_cons_self ..)
  have HD := Lib.hid hid
  have HL := Lib.hid (And.intro hl (And.intro hmc hcm))
  have HIA := Lib.hid (And.intro hI hA)
  have HXR := Lib.hid hxr
  have HLV := Lib.hid hlev
  have HRL := Lib.hid hrl
  have hm0 : 0 < m := by omega
  unfold I64 at hn
  subst n1
  have C71 : Hid (decide ((j : Int) < 1) = false) := decide_eq_false (by omega)
  have C74 : Hid (decide (31 < (j : Int)) = false) := decide_eq_false (by omega)
  have C9 : Hid (decide ((j : Int) ≤ lev) = false) := decide_eq_false (by omega)
  have C11 : Hid (decide ((m : Int) ≤ (j : Int)) = true) := decide_eq_true (by omega)
  clear n2 n3 n4 n5
  clear hl hI hid hA hlev hxr hrl hmc hcm
  have E0 : Hid (EnvX w (w.alloc (.cells (arrB 32 id) 24)) [(w.heap.size, Obj.cells (arrB 32 id) 24 (0, 0))]) := (EnvX.start w).new _
  have HAW := Lib.hid (lawake_any T K (w.alloc (.cells (arrB 32 id) 24)) (ht.below (EnvX.bel E0.out)))
  have HT := Lib.hid ht
  have HTR := Lib.hid T
  have HK := Lib.hid K
  clear ht T K
  unfold idv
  go_enter Tryd.func4, Tryd.ntmps4
  go_upto_region 1 with (fail)
  generalize (w.alloc (.cells (arrB 32 id) 24)) = W at *
  go_wp2_with fail
  refine HAW.out.mono ?_
  rintro e w1 ⟨rfl, hb1⟩
  have HB1 := Lib.hid (EnvX.below E0.out hb1).bel
  have E1 : Hid (EnvX w1 w1 [(w.heap.size, Obj.cells (arrB 32 id) 24 (0, 0))]) := ⟨Below.refl _ _, (EnvX.below E0.out hb1).box⟩
  have HT1 := Lib.hid (HT.out.below HB1.out)
  clear hb1 E0 HAW
  go_upto_region 2 with (fail)
  refine wp_region_Hx (w0 := w1) [0, 1, 2, 3, 4, 5, 6, 7, 8, 9, 10, 11] [(w.heap.size, Obj.cells (arrB 32 id) 24 (0, 0))] rfl E1.out ?_
  refine lexH_phase [0, 1, 2, 3, 4, 5, 6, 7, 8, 9, 10, 11] [] ?_
  have hw701 : EnvX w1 _ [(w.heap.size, Obj.cells (arrB 32 id) 24 (0, 0))] := E1.out
  have hone := @EnvC.one _ _ _ hw701
  (refine wpG_op rfl rfl rfl ?_; intro K hK; go_big_quiet_op; go_big_quiet_on)
  (refine wpG_op rfl rfl rfl ?_; intro K hK; go_big_quiet_op; go_big_quiet_on)
  (refine wpG_op rfl rfl rfl ?_; intro K hK; go_big_quiet_op; go_big_quiet_on)
  (refine wpG_op rfl rfl rfl ?_; intro K hK; go_big_quiet_op; go_big_quiet_on)
  (refine wpG_val (v := .int .i64 (m : Int)) rfl rfl (fun u hu => lenI_op u rfl) ?_ hw701; intro K hK; go_big_quiet_op; go_big_quiet_on)
  (refine wpG_val (v := .bool false) rfl rfl (fun u hu => gtZ_op u HK1.out rfl rfl) ?_ hw701; intro K hK; go_big_quiet_op; go_big_quiet_on)
  (refine wpG_op rfl rfl rfl ?_; intro K hK; go_big_quiet_op; go_big_quiet_on)
  (refine wpG_op rfl rfl rfl ?_; intro K hK; go_big_quiet_op; go_big_quiet_on)
  (refine wpG_op rfl rfl rfl ?_; intro K hK; go_big_quiet_op; go_big_quiet_on)
  (refine wpG_val (v := .int .i64 (m : Int)) rfl rfl (fun u hu => lenI_op u rfl) ?_ hw701; intro K hK; go_big_quiet_op; go_big_quiet_on)
  (refine wpG_val (v := .bool false) rfl rfl (fun u hu => eqlI_op u HK2.out rfl rfl) ?_ hw701; intro K hK; go_big_quiet_op; go_big_quiet_on)
  (refine wpG_op rfl rfl rfl ?_; intro K hK; go_big_quiet_op; go_big_quiet_on)
  clear hone hw701
  refine wpG_nil ?_
  intro u703 E2'
  have EX702 := Lib.hid E2'
  clear E2'
  have HB1 := Lib.hid (HB1.out.trans ((EnvX.bel EX702.out).mono HB1.out.size))
  have HT1 := Lib.hid (HT1.out.below (EnvX.bel EX702.out))
  have E1 : Hid (EnvX u703 u703 [(w.heap.size, Obj.cells (arrB 32 id) 24 (0, 0))]) := ⟨Below.refl _ _, EX702.out.box⟩
  clear EX702
  have HLD : Hid ((loadVar 24 ⟨w.heap.size, 0, none⟩).run Tryd.prog u703 = .ok (idv id) u703) := box_load E1.out (List.Mem.head _) HD.out.1
  have HC1 : Hid (Calls Tryd.prog 11 #[.slice A m c, idv id, .int .i64 lev] u703 fun e w' => (∃ v, e = .returned v ∧ OwnI w' u703.heap.size v (stepL x r id (lvN lev))) ∧ Below u703.heap.size u703 w') := by
    have h := HK.out.next l id lev A m c u703 HL.out.1 (by omega) HL.out.2.1 HL.out.2.2 HIA.out.1 HD.out HLV.out (HIA.out.2.up HB1.out) HT1.out
    rwa [HN1.out] at h
  go_upto_region 4 with (fail)
  go_wp2_with ((with_reducible refine wpList_load_run (o := ⟨some 26, _, _, _, _, _⟩) ?_ 24 (.tmp 5) ?_ ⟨w.heap.size, 0, none⟩ ?_ HLD.out ?_); (rfl); (rfl); (rfl))
  refine HC1.out.mono ?_
  rintro e w2 ⟨⟨va, rfl, hva⟩, hb2⟩
  have HB2 := Lib.hid (HB1.out.trans (hb2.mono HB1.out.size))
  have HT2 := Lib.hid (HT.out.below HB2.out)
  have HLI : Hid (∀ u, EnvX w2 u [] → (loadVar 24 ⟨w.heap.size, 0, none⟩).run Tryd.prog u = .ok (idv id) u) := fun u hu => box_load (EnvX.comb (EnvX.below E1.out hb2) hu) (List.mem_append_right [] (List.Mem.head _)) HD.out.1
  obtain ⟨Ab, cb, rfl, hb1, hb3⟩ := hva.form
  have HBB := Lib.hid hva.ids
  have hlen := step_len x r id (lvN lev)
  obtain ⟨bl, hbl⟩ : ∃ bl, (stepL x r id (lvN lev)).length = bl := ⟨_, rfl⟩
  have HBL := Lib.hid hbl
  have hids0 : isIds (stepL x r id (lvN lev)) := step_ids (by rw [← HXR.out]; exact HIA.out.1) HD.out
  have HI0 := Lib.hid hids0
  have HLL3 := lvN_le lev
  have HRL2 := HRL.out
  have HM : Hid (m ≤ bl ∧ bl ≤ 32 ∧ lvN lev < bl) := ⟨by omega, by omega, by omega⟩
  rw [hbl] at hlen hb1 ⊢
  have HCB := Lib.hid (And.intro hb1 hb3)
  have HL3 := Lib.hid (HIA.out.2.up HB2.out)
  have HB0 : Hid (0 < bl) := by have := HM.out; show 0 < bl; omega
  obtain ⟨ab, rfl, -⟩ := HBB.out.load hids0 (i := 0) (by rw [hbl]; exact HB0.out)
  obtain ⟨al, rfl, -⟩ := HL3.out.load HIA.out.1 (i := 0) (by rw [HL.out.1]; omega)
  have HLB : Hid (∀ k, k < bl → ∀ u, EnvX w2 u [] → (loadVar 24 (ab.add (k * 32))).run Tryd.prog u = .ok (idv ((stepL x r id (lvN lev)).getD k [])) u) := fun k hk u hu => by
    obtain ⟨a2, e, h⟩ := (HBB.out.up (EnvX.bel hu)).load HI0.out (i := k) (by rw [HBL.out]; exact hk)
    cases e
    exact h
  have HLL : Hid (∀ k, k < m → ∀ u, EnvX w2 u [] → (loadVar 24 (al.add (k * 32))).run Tryd.prog u = .ok (idv (l.getD k [])) u) := fun k hk u hu => by
    obtain ⟨a2, e, h⟩ := (HL3.out.up (EnvX.bel hu)).load HIA.out.1 (i := k) (by rw [HL.out.1]; exact hk)
    cases e
    exact h
  have HL0 : Hid (l.getD 0 [] = x) := by show _ = _; rw [HXR.out]; rfl
  have HX0 : Hid (∀ u, EnvX w2 u [] → (loadVar 24 (al.add (0 * 32))).run Tryd.prog u = .ok (idv x) u) := fun u hu => by have h := HLL.out 0 hm0 u hu; rw [HL0.out] at h; exact h
  have HLE : Hid (leadsT (stepL x r id (lvN lev)) z32 x = true) := decide_eq_true (.inr (List.mem_cons_self ..))
  have HLC : Hid (∀ u, EnvX w2 u [] → Calls Tryd.prog 18 #[.slice (some ab) bl cb, idv z32, idv x] u fun e w' => e = .returned (.bool true) ∧ Below u.heap.size u w') := fun u hu => by
    have h := HK.out.leads (stepL x r id (lvN lev)) z32 x (some ab) bl cb u HBL.out (by have := HM.out; omega) HCB.out.1 HCB.out.2 HI0.out isId_zero HX.out (HBB.out.up (EnvX.bel hu)) (HT2.out.below (EnvX.bel hu))
    rwa [HLE.out] at h
  have C4 : Hid (decide ((bl : Int) < (m : Int)) = false) := decide_eq_false (by have := HM.out; omega)
  have C8 : Hid (decide (32 < (bl : Int)) = false) := decide_eq_false (by have := HM.out; omega)
  have EU : Hid (EnvX w2 w2 []) := EnvX.start _
  have HM0 : Hid (0 < m) := by show _ < _; omega
  clear hva hb2 HLD HC1 E1 hlen hb1 hb3 hbl hids0 HLL3 HRL2 HT HT1 HB1 HL0
  go_upto_region 5 with (fail)
  refine wp_region_H (w0 := w2) [] (by kernel_rfl) EU.out ?_
  refine anyH_phaseN [0, 1, 2, 3, 4, 5, 6, 7, 8, 9, 10, 11, 12, 13, 14, 15, 16, 17, 18, 19, 20, 21, 22, 23, 24, 25, 26, 27] 0 rfl (by kernel_rfl) ?_
  have hw801 : EnvX w2 _ [] := EnvX.sub (EnvX.drew EU.out) (fun _ h => by cases h)
  have hone := @EnvC.one _ _ _ hw801
  (refine wpG_op rfl rfl rfl ?_; intro K hK; go_big_quiet_op; go_big_quiet_on)
  (refine wpG_val (v := .int .i64 (bl : Int)) rfl rfl (fun u hu => lenI_op u rfl) ?_ hw801; intro K hK; go_big_quiet_op; go_big_quiet_on)
  (refine wpG_op rfl rfl rfl ?_; intro K hK; go_big_quiet_op; go_big_quiet_on)
  (refine wpG_val (v := .int .i64 (m : Int)) rfl rfl (fun u hu => lenI_op u rfl) ?_ hw801; intro K hK; go_big_quiet_op; go_big_quiet_on)
  (refine wpG_val (v := .bool false) rfl rfl (fun u hu => ltZ_op u C4.out rfl rfl) ?_ hw801; intro K hK; go_big_quiet_op; go_big_quiet_on)
  (refine wpG_op rfl rfl rfl ?_; intro K hK; go_big_quiet_op; go_big_quiet_on)
  (refine wpG_op rfl rfl rfl ?_; intro K hK; go_big_quiet_op; go_big_quiet_on)
  (refine wpG_val (v := .int .i64 (bl : Int)) rfl rfl (fun u hu => lenI_op u rfl) ?_ hw801; intro K hK; go_big_quiet_op; go_big_quiet_on)
  (refine wpG_val (v := .bool false) rfl rfl (fun u hu => gtZ_op u C8.out rfl rfl) ?_ hw801; intro K hK; go_big_quiet_op; go_big_quiet_on)
  (refine wpG_op rfl rfl rfl ?_; intro K hK; go_big_quiet_op; go_big_quiet_on)
  (refine wpG_op rfl rfl rfl ?_; intro K hK; go_big_quiet_op; go_big_quiet_on)
  (refine wpG_op rfl rfl rfl ?_; intro K hK; go_big_quiet_op; go_big_quiet_on)
  (refine wpG_val (v := .pointer (some (ab.add (0 * 32)))) rfl rfl (fun u hu => idxSl_op (i := 0) Tryd.underlying22 aggIdT.size HB0.out u rfl rfl) ?_ hw801; intro K hK; go_big_quiet_op; go_big_quiet_on)
  (refine wpG_val (v := idv x) rfl rfl (fun u hu => load_any_op u (HLB.out 0 HB0.out u (EnvX.sub hu (fun _ h => by cases h))) rfl) ?_ hw801; intro K hK; go_big_quiet_op; go_big_quiet_on)
  (refine wpG_op rfl rfl rfl ?_; intro K hK; go_big_quiet_op; go_big_quiet_on)
  (refine wpG_val (v := .pointer (some (al.add (0 * 32)))) rfl rfl (fun u hu => idxSl_op (i := 0) Tryd.underlying22 aggIdT.size HM0.out u rfl rfl) ?_ hw801; intro K hK; go_big_quiet_op; go_big_quiet_on)
  (refine wpG_val (v := idv x) rfl rfl (fun u hu => load_any_op u (HX0.out u (EnvX.sub hu (fun _ h => by cases h))) rfl) ?_ hw801; intro K hK; go_big_quiet_op; go_big_quiet_on)
  (refine wpG_val (v := .bool false) rfl rfl (fun u hu => neqb_op HX.out.1 HX.out.1 (by simp [eqL]) u rfl rfl) ?_ hw801; intro K hK; go_big_quiet_op; go_big_quiet_on)
  (refine wpG_op rfl rfl rfl ?_; intro K hK; go_big_quiet_op; go_big_quiet_on)
  (refine wpG_op rfl rfl rfl ?_; intro K hK; go_big_quiet_op; go_big_quiet_on)
  (refine wpG_op rfl rfl rfl ?_; intro K hK; go_big_quiet_op; go_big_quiet_on)
  (refine wpG_val (v := idv z32) rfl rfl (fun u hu => build_op u built0 rfl) ?_ hw801; intro K hK; go_big_quiet_op; go_big_quiet_on)
  (refine wpG_op rfl rfl rfl ?_; intro K hK; go_big_quiet_op; go_big_quiet_on)
  (refine wpG_val (v := .pointer (some (al.add (0 * 32)))) rfl rfl (fun u hu => idxSl_op (i := 0) Tryd.underlying22 aggIdT.size HM0.out u rfl rfl) ?_ hw801; intro K hK; go_big_quiet_op; go_big_quiet_on)
  (refine wpG_val (v := idv x) rfl rfl (fun u hu => load_any_op u (HX0.out u (EnvX.sub hu (fun _ h => by cases h))) rfl) ?_ hw801; intro K hK; go_big_quiet_op; go_big_quiet_on)
  (refine wpG_call (f := 18) (args := #[.slice (some ab) bl cb, idv z32, idv x]) (v := .bool true) rfl rfl rfl Tryd.func18 rfl rfl (fun u hu => HLC.out u (EnvX.sub hu (fun _ h => by cases h))) ?_ hw801; intro K hK; go_big_quiet_op; go_big_quiet_on)
  (refine wpG_op rfl rfl rfl ?_; intro K hK; go_big_quiet_op; go_big_quiet_on)
  (refine wpG_op rfl rfl rfl ?_; intro K hK; go_big_quiet_op; go_big_quiet_on)
  clear hone hw801
  refine wpG_nil ?_
  refine anyH_done (by kernel_rfl) ?_
  intro u803 E2'
  have EX802 := Lib.hid E2'
  clear E2'
  go_upto_region 7 with (fail)
  refine wp_region_Hx (w0 := w2) [0, 1, 2, 3, 4, 5] [] rfl EX802.out ?_
  refine lexH_phase [0, 1, 2, 3, 4, 5] [] ?_
  have hw804 : EnvX w2 _ [] := EX802.out
  have hone := @EnvC.one _ _ _ hw804
  (refine wpG_op rfl rfl rfl ?_; intro K hK; go_big_quiet_op; go_big_quiet_on)
  (refine wpG_val (v := .bool false) rfl rfl (fun u hu => ltZ_op u C71.out rfl rfl) ?_ hw804; intro K hK; go_big_quiet_op; go_big_quiet_on)
  (refine wpG_op rfl rfl rfl ?_; intro K hK; go_big_quiet_op; go_big_quiet_on)
  (refine wpG_op rfl rfl rfl ?_; intro K hK; go_big_quiet_op; go_big_quiet_on)
  (refine wpG_val (v := .bool false) rfl rfl (fun u hu => gtZ_op u C74.out rfl rfl) ?_ hw804; intro K hK; go_big_quiet_op; go_big_quiet_on)
  (refine wpG_op rfl rfl rfl ?_; intro K hK; go_big_quiet_op; go_big_quiet_on)
  clear hone hw804
  refine wpG_nil ?_
  intro u806 E2'
  have EX805 := Lib.hid E2'
  clear E2'
  go_upto_region 9 with (fail)
  refine wp_region_Hx (w0 := w2) [0, 1, 2] [] rfl EX805.out ?_
  refine lexH_phase [0, 1, 2] [] ?_
  have hw807 : EnvX w2 _ [] := EX805.out
  have hone := @EnvC.one _ _ _ hw807
  (refine wpG_op rfl rfl rfl ?_; intro K hK; go_big_quiet_op; go_big_quiet_on)
  (refine wpG_op rfl rfl rfl ?_; intro K hK; go_big_quiet_op; go_big_quiet_on)
  (refine wpG_val (v := .bool false) rfl rfl (fun u hu => leZ_op u C9.out rfl rfl) ?_ hw807; intro K hK; go_big_quiet_op; go_big_quiet_on)
  clear hone hw807
  refine wpG_nil ?_
  intro u809 E2'
  have EX808 := Lib.hid E2'
  clear E2'
  go_upto_region 11 with (fail)
  refine wp_region_H (w0 := w2) [] (by kernel_rfl) EX808.out ?_
  refine anyH_phaseN [0, 1, 2, 3, 4, 5, 6, 7, 8, 9, 10, 11, 12, 13, 14, 15] 0 rfl (by kernel_rfl) ?_
  have hw810 : EnvX w2 _ [] := EnvX.sub (EnvX.drew EX808.out) (fun _ h => by cases h)
  have hone := @EnvC.one _ _ _ hw810
  (refine wpG_op rfl rfl rfl ?_; intro K hK; go_big_quiet_op; go_big_quiet_on)
  (refine wpG_op rfl rfl rfl ?_; intro K hK; go_big_quiet_op; go_big_quiet_on)
  (refine wpG_val (v := .int .i64 (m : Int)) rfl rfl (fun u hu => lenI_op u rfl) ?_ hw810; intro K hK; go_big_quiet_op; go_big_quiet_on)
  (refine wpG_val (v := .bool true) rfl rfl (fun u hu => geq_op u C11.out rfl rfl) ?_ hw810; intro K hK; go_big_quiet_op; go_big_quiet_on)
  (refine wpG_op rfl rfl rfl ?_; intro K hK; go_big_quiet_op; go_big_quiet_on)
  (refine wpG_skip rfl rfl ?_ hw810; intro K hK; go_big_quiet_op; go_big_quiet_on)
  (refine wpG_skip rfl rfl ?_ hw810; intro K hK; go_big_quiet_op; go_big_quiet_on)
  (refine wpG_skip rfl rfl ?_ hw810; intro K hK; go_big_quiet_op; go_big_quiet_on)
  (refine wpG_skip rfl rfl ?_ hw810; intro K hK; go_big_quiet_op; go_big_quiet_on)
  (refine wpG_skip rfl rfl ?_ hw810; intro K hK; go_big_quiet_op; go_big_quiet_on)
  (refine wpG_skip rfl rfl ?_ hw810; intro K hK; go_big_quiet_op; go_big_quiet_on)
  (refine wpG_skip rfl rfl ?_ hw810; intro K hK; go_big_quiet_op; go_big_quiet_on)
  (refine wpG_skip rfl rfl ?_ hw810; intro K hK; go_big_quiet_op; go_big_quiet_on)
  (refine wpG_skip rfl rfl ?_ hw810; intro K hK; go_big_quiet_op; go_big_quiet_on)
  (refine wpG_op rfl rfl rfl ?_; intro K hK; go_big_quiet_op; go_big_quiet_on)
  (refine wpG_op rfl rfl rfl ?_; intro K hK; go_big_quiet_op; go_big_quiet_on)
  clear hone hw810
  refine wpG_nil ?_
  refine anyH_done (by kernel_rfl) ?_
  intro u812 E2'
  have EX811 := Lib.hid E2'
  clear E2'
  have HBE := Lib.hid (HB2.out.trans ((EnvX.bel EX811.out).mono HB2.out.size))
  go_wp2
  go_ret
  exact ⟨rfl, HBE.out⟩
set_option maxRecDepth 20000 in
set_option maxHeartbeats 8000000 in
theorem law_grows_above (T : TreeC) (K : LinkC) (l : List (List Int)) (id : List Int) (lev n : Int) (A : Option Addr) (m c : Nat) (w : World) (hl : l.length = m) (hmc : m ≤ c) (hcm : c ≤ maxLen) (hI : isIds l) (hid : isId id) (hlev : I64 lev) (hn : I64 n) (hA : IdsIn w w.heap.size A l) (ht : Tables w) (x : List Int) (r : List (List Int)) (hxr : l = x :: r) (h32 : m ≤ 32) (j : Nat) (n1 : n = (j : Int)) (n2 : 1 ≤ j) (n3 : j ≤ 31) (n4 : lev < (j : Int)) (n5 : j < m) :
    Calls Tryd.prog 4 #[.slice A m c, idv id, .int .i64 lev, .int .i64 n] w fun e w' => e = .returned (.bool true) ∧ Below w.heap.size w w' := by
  have hrl : r.length + 1 = m := by rw [← hl, hxr]; rfl
  have HK1 : Hid (decide (32 < (m : Int)) = false) := decide_eq_false (by omega)
  have HK2 : Hid (decide ((m : Int) = 0) = false) := decide_eq_false (by omega)
  have HN1 : Hid (nextT l id lev = stepL x r id (lvN lev)) := by show _ = _; rw [hxr]; exact next_some (by omega)
  have HX : Hid (isId x) := hI x (by rw [hxr]; exact List.mem_cons_self ..)
  have HD := Lib.hid hid
  have HL := Lib.hid (And.intro hl (And.intro hmc hcm))
  have HIA := Lib.hid (And.intro hI hA)
  have HXR := Lib.hid hxr
  have HLV := Lib.hid hlev
  have HRL := Lib.hid hrl
  have hm0 : 0 < m := by omega
  unfold I64 at hn
  subst n1
  have C71 : Hid (decide ((j : Int) < 1) = false) := decide_eq_false (by omega)
  have C74 : Hid (decide (31 < (j : Int)) = false) := decide_eq_false (by omega)
  have C9 : Hid (decide ((j : Int) ≤ lev) = false) := decide_eq_false (by omega)
  have C11 : Hid (decide ((m : Int) ≤ (j : Int)) = false) := decide_eq_false (by omega)
  have HJ : Hid (lvN lev < j ∧ j < m) := ⟨by unfold lvN; omega, n5⟩
  have HY := Lib.hid (hI.get (i := j) (by rw [hl]; exact n5))
  clear n2 n3 n4 n5
  clear hl hI hid hA hlev hxr hrl hmc hcm
  have E0 : Hid (EnvX w (w.alloc (.cells (arrB 32 id) 24)) [(w.heap.size, Obj.cells (arrB 32 id) 24 (0, 0))]) := (EnvX.start w).new _
  have HAW := Lib.hid (lawake_any T K (w.alloc (.cells (arrB 32 id) 24)) (ht.below (EnvX.bel E0.out)))
  have HT := Lib.hid ht
  have HTR := Lib.hid T
  have HK := Lib.hid K
  clear ht T K
  unfold idv
  go_enter Tryd.func4, Tryd.ntmps4
  go_upto_region 1 with (fail)
  generalize (w.alloc (.cells (arrB 32 id) 24)) = W at *
  go_wp2_with fail
  refine HAW.out.mono ?_
  rintro e w1 ⟨rfl, hb1⟩
  have HB1 := Lib.hid (EnvX.below E0.out hb1).bel
  have E1 : Hid (EnvX w1 w1 [(w.heap.size, Obj.cells (arrB 32 id) 24 (0, 0))]) := ⟨Below.refl _ _, (EnvX.below E0.out hb1).box⟩
  have HT1 := Lib.hid (HT.out.below HB1.out)
  clear hb1 E0 HAW
  go_upto_region 2 with (fail)
  refine wp_region_Hx (w0 := w1) [0, 1, 2, 3, 4, 5, 6, 7, 8, 9, 10, 11] [(w.heap.size, Obj.cells (arrB 32 id) 24 (0, 0))] rfl E1.out ?_
  refine lexH_phase [0, 1, 2, 3, 4, 5, 6, 7, 8, 9, 10, 11] [] ?_
  have hw701 : EnvX w1 _ [(w.heap.size, Obj.cells (arrB 32 id) 24 (0, 0))] := E1.out
  have hone := @EnvC.one _ _ _ hw701
  (refine wpG_op rfl rfl rfl ?_; intro K hK; go_big_quiet_op; go_big_quiet_on)
  (refine wpG_op rfl rfl rfl ?_; intro K hK; go_big_quiet_op; go_big_quiet_on)
  (refine wpG_op rfl rfl rfl ?_; intro K hK; go_big_quiet_op; go_big_quiet_on)
  (refine wpG_op rfl rfl rfl ?_; intro K hK; go_big_quiet_op; go_big_quiet_on)
  (refine wpG_val (v := .int .i64 (m : Int)) rfl rfl (fun u hu => lenI_op u rfl) ?_ hw701; intro K hK; go_big_quiet_op; go_big_quiet_on)
  (refine wpG_val (v := .bool false) rfl rfl (fun u hu => gtZ_op u HK1.out rfl rfl) ?_ hw701; intro K hK; go_big_quiet_op; go_big_quiet_on)
  (refine wpG_op rfl rfl rfl ?_; intro K hK; go_big_quiet_op; go_big_quiet_on)
  (refine wpG_op rfl rfl rfl ?_; intro K hK; go_big_quiet_op; go_big_quiet_on)
  (refine wpG_op rfl rfl rfl ?_; intro K hK; go_big_quiet_op; go_big_quiet_on)
  (refine wpG_val (v := .int .i64 (m : Int)) rfl rfl (fun u hu => lenI_op u rfl) ?_ hw701; intro K hK; go_big_quiet_op; go_big_quiet_on)
  (refine wpG_val (v := .bool false) rfl rfl (fun u hu => eqlI_op u HK2.out rfl rfl) ?_ hw701; intro K hK; go_big_quiet_op; go_big_quiet_on)
  (refine wpG_op rfl rfl rfl ?_; intro K hK; go_big_quiet_op; go_big_quiet_on)
  clear hone hw701
  refine wpG_nil ?_
  intro u703 E2'
  have EX702 := Lib.hid E2'
  clear E2'
  have HB1 := Lib.hid (HB1.out.trans ((EnvX.bel EX702.out).mono HB1.out.size))
  have HT1 := Lib.hid (HT1.out.below (EnvX.bel EX702.out))
  have E1 : Hid (EnvX u703 u703 [(w.heap.size, Obj.cells (arrB 32 id) 24 (0, 0))]) := ⟨Below.refl _ _, EX702.out.box⟩
  clear EX702
  have HLD : Hid ((loadVar 24 ⟨w.heap.size, 0, none⟩).run Tryd.prog u703 = .ok (idv id) u703) := box_load E1.out (List.Mem.head _) HD.out.1
  have HC1 : Hid (Calls Tryd.prog 11 #[.slice A m c, idv id, .int .i64 lev] u703 fun e w' => (∃ v, e = .returned v ∧ OwnI w' u703.heap.size v (stepL x r id (lvN lev))) ∧ Below u703.heap.size u703 w') := by
    have h := HK.out.next l id lev A m c u703 HL.out.1 (by omega) HL.out.2.1 HL.out.2.2 HIA.out.1 HD.out HLV.out (HIA.out.2.up HB1.out) HT1.out
    rwa [HN1.out] at h
  go_upto_region 4 with (fail)
  go_wp2_with ((with_reducible refine wpList_load_run (o := ⟨some 26, _, _, _, _, _⟩) ?_ 24 (.tmp 5) ?_ ⟨w.heap.size, 0, none⟩ ?_ HLD.out ?_); (rfl); (rfl); (rfl))
  refine HC1.out.mono ?_
  rintro e w2 ⟨⟨va, rfl, hva⟩, hb2⟩
  have HB2 := Lib.hid (HB1.out.trans (hb2.mono HB1.out.size))
  have HT2 := Lib.hid (HT.out.below HB2.out)
  have HLI : Hid (∀ u, EnvX w2 u [] → (loadVar 24 ⟨w.heap.size, 0, none⟩).run Tryd.prog u = .ok (idv id) u) := fun u hu => box_load (EnvX.comb (EnvX.below E1.out hb2) hu) (List.mem_append_right [] (List.Mem.head _)) HD.out.1
  obtain ⟨Ab, cb, rfl, hb1, hb3⟩ := hva.form
  have HBB := Lib.hid hva.ids
  have hlen := step_len x r id (lvN lev)
  obtain ⟨bl, hbl⟩ : ∃ bl, (stepL x r id (lvN lev)).length = bl := ⟨_, rfl⟩
  have HBL := Lib.hid hbl
  have hids0 : isIds (stepL x r id (lvN lev)) := step_ids (by rw [← HXR.out]; exact HIA.out.1) HD.out
  have HI0 := Lib.hid hids0
  have HLL3 := lvN_le lev
  have HRL2 := HRL.out
  have HM : Hid (m ≤ bl ∧ bl ≤ 32 ∧ lvN lev < bl) := ⟨by omega, by omega, by omega⟩
  rw [hbl] at hlen hb1 ⊢
  have HCB := Lib.hid (And.intro hb1 hb3)
  have HL3 := Lib.hid (HIA.out.2.up HB2.out)
  have HB0 : Hid (0 < bl) := by have := HM.out; show 0 < bl; omega
  obtain ⟨ab, rfl, -⟩ := HBB.out.load hids0 (i := 0) (by rw [hbl]; exact HB0.out)
  obtain ⟨al, rfl, -⟩ := HL3.out.load HIA.out.1 (i := 0) (by rw [HL.out.1]; omega)
  have HLB : Hid (∀ k, k < bl → ∀ u, EnvX w2 u [] → (loadVar 24 (ab.add (k * 32))).run Tryd.prog u = .ok (idv ((stepL x r id (lvN lev)).getD k [])) u) := fun k hk u hu => by
    obtain ⟨a2, e, h⟩ := (HBB.out.up (EnvX.bel hu)).load HI0.out (i := k) (by rw [HBL.out]; exact hk)
    cases e
    exact h
  have HLL : Hid (∀ k, k < m → ∀ u, EnvX w2 u [] → (loadVar 24 (al.add (k * 32))).run Tryd.prog u = .ok (idv (l.getD k [])) u) := fun k hk u hu => by
    obtain ⟨a2, e, h⟩ := (HL3.out.up (EnvX.bel hu)).load HIA.out.1 (i := k) (by rw [HL.out.1]; exact hk)
    cases e
    exact h
  have HL0 : Hid (l.getD 0 [] = x) := by show _ = _; rw [HXR.out]; rfl
  have HX0 : Hid (∀ u, EnvX w2 u [] → (loadVar 24 (al.add (0 * 32))).run Tryd.prog u = .ok (idv x) u) := fun u hu => by have h := HLL.out 0 hm0 u hu; rw [HL0.out] at h; exact h
  have HLE : Hid (leadsT (stepL x r id (lvN lev)) z32 x = true) := decide_eq_true (.inr (List.mem_cons_self ..))
  have HLC : Hid (∀ u, EnvX w2 u [] → Calls Tryd.prog 18 #[.slice (some ab) bl cb, idv z32, idv x] u fun e w' => e = .returned (.bool true) ∧ Below u.heap.size u w') := fun u hu => by
    have h := HK.out.leads (stepL x r id (lvN lev)) z32 x (some ab) bl cb u HBL.out (by have := HM.out; omega) HCB.out.1 HCB.out.2 HI0.out isId_zero HX.out (HBB.out.up (EnvX.bel hu)) (HT2.out.below (EnvX.bel hu))
    rwa [HLE.out] at h
  have C4 : Hid (decide ((bl : Int) < (m : Int)) = false) := decide_eq_false (by have := HM.out; omega)
  have C8 : Hid (decide (32 < (bl : Int)) = false) := decide_eq_false (by have := HM.out; omega)
  have EU : Hid (EnvX w2 w2 []) := EnvX.start _
  have HM0 : Hid (0 < m) := by show _ < _; omega
  clear hva hb2 HLD HC1 E1 hlen hb1 hb3 hbl hids0 HLL3 HRL2 HT HT1 HB1 HL0
  go_upto_region 5 with (fail)
  refine wp_region_H (w0 := w2) [] (by kernel_rfl) EU.out ?_
  refine anyH_phaseN [0, 1, 2, 3, 4, 5, 6, 7, 8, 9, 10, 11, 12, 13, 14, 15, 16, 17, 18, 19, 20, 21, 22, 23, 24, 25, 26, 27] 0 rfl (by kernel_rfl) ?_
  have hw801 : EnvX w2 _ [] := EnvX.sub (EnvX.drew EU.out) (fun _ h => by cases h)
  have hone := @EnvC.one _ _ _ hw801
  (refine wpG_op rfl rfl rfl ?_; intro K hK; go_big_quiet_op; go_big_quiet_on)
  (refine wpG_val (v := .int .i64 (bl : Int)) rfl rfl (fun u hu => lenI_op u rfl) ?_ hw801; intro K hK; go_big_quiet_op; go_big_quiet_on)
  (refine wpG_op rfl rfl rfl ?_; intro K hK; go_big_quiet_op; go_big_quiet_on)
  (refine wpG_val (v := .int .i64 (m : Int)) rfl rfl (fun u hu => lenI_op u rfl) ?_ hw801; intro K hK; go_big_quiet_op; go_big_quiet_on)
  (refine wpG_val (v := .bool false) rfl rfl (fun u hu => ltZ_op u C4.out rfl rfl) ?_ hw801; intro K hK; go_big_quiet_op; go_big_quiet_on)
  (refine wpG_op rfl rfl rfl ?_; intro K hK; go_big_quiet_op; go_big_quiet_on)
  (refine wpG_op rfl rfl rfl ?_; intro K hK; go_big_quiet_op; go_big_quiet_on)
  (refine wpG_val (v := .int .i64 (bl : Int)) rfl rfl (fun u hu => lenI_op u rfl) ?_ hw801; intro K hK; go_big_quiet_op; go_big_quiet_on)
  (refine wpG_val (v := .bool false) rfl rfl (fun u hu => gtZ_op u C8.out rfl rfl) ?_ hw801; intro K hK; go_big_quiet_op; go_big_quiet_on)
  (refine wpG_op rfl rfl rfl ?_; intro K hK; go_big_quiet_op; go_big_quiet_on)
  (refine wpG_op rfl rfl rfl ?_; intro K hK; go_big_quiet_op; go_big_quiet_on)
  (refine wpG_op rfl rfl rfl ?_; intro K hK; go_big_quiet_op; go_big_quiet_on)
  (refine wpG_val (v := .pointer (some (ab.add (0 * 32)))) rfl rfl (fun u hu => idxSl_op (i := 0) Tryd.underlying22 aggIdT.size HB0.out u rfl rfl) ?_ hw801; intro K hK; go_big_quiet_op; go_big_quiet_on)
  (refine wpG_val (v := idv x) rfl rfl (fun u hu => load_any_op u (HLB.out 0 HB0.out u (EnvX.sub hu (fun _ h => by cases h))) rfl) ?_ hw801; intro K hK; go_big_quiet_op; go_big_quiet_on)
  (refine wpG_op rfl rfl rfl ?_; intro K hK; go_big_quiet_op; go_big_quiet_on)
  (refine wpG_val (v := .pointer (some (al.add (0 * 32)))) rfl rfl (fun u hu => idxSl_op (i := 0) Tryd.underlying22 aggIdT.size HM0.out u rfl rfl) ?_ hw801; intro K hK; go_big_quiet_op; go_big_quiet_on)
  (refine wpG_val (v := idv x) rfl rfl (fun u hu => load_any_op u (HX0.out u (EnvX.sub hu (fun _ h => by cases h))) rfl) ?_ hw801; intro K hK; go_big_quiet_op; go_big_quiet_on)
  (refine wpG_val (v := .bool false) rfl rfl (fun u hu => neqb_op HX.out.1 HX.out.1 (by simp [eqL]) u rfl rfl) ?_ hw801; intro K hK; go_big_quiet_op; go_big_quiet_on)
  (refine wpG_op rfl rfl rfl ?_; intro K hK; go_big_quiet_op; go_big_quiet_on)
  (refine wpG_op rfl rfl rfl ?_; intro K hK; go_big_quiet_op; go_big_quiet_on)
  (refine wpG_op rfl rfl rfl ?_; intro K hK; go_big_quiet_op; go_big_quiet_on)
  (refine wpG_val (v := idv z32) rfl rfl (fun u hu => build_op u built0 rfl) ?_ hw801; intro K hK; go_big_quiet_op; go_big_quiet_on)
  (refine wpG_op rfl rfl rfl ?_; intro K hK; go_big_quiet_op; go_big_quiet_on)
  (refine wpG_val (v := .pointer (some (al.add (0 * 32)))) rfl rfl (fun u hu => idxSl_op (i := 0) Tryd.underlying22 aggIdT.size HM0.out u rfl rfl) ?_ hw801; intro K hK; go_big_quiet_op; go_big_quiet_on)
  (refine wpG_val (v := idv x) rfl rfl (fun u hu => load_any_op u (HX0.out u (EnvX.sub hu (fun _ h => by cases h))) rfl) ?_ hw801; intro K hK; go_big_quiet_op; go_big_quiet_on)
  (refine wpG_call (f := 18) (args := #[.slice (some ab) bl cb, idv z32, idv x]) (v := .bool true) rfl rfl rfl Tryd.func18 rfl rfl (fun u hu => HLC.out u (EnvX.sub hu (fun _ h => by cases h))) ?_ hw801; intro K hK; go_big_quiet_op; go_big_quiet_on)
  (refine wpG_op rfl rfl rfl ?_; intro K hK; go_big_quiet_op; go_big_quiet_on)
  (refine wpG_op rfl rfl rfl ?_; intro K hK; go_big_quiet_op; go_big_quiet_on)
  clear hone hw801
  refine wpG_nil ?_
  refine anyH_done (by kernel_rfl) ?_
  intro u803 E2'
  have EX802 := Lib.hid E2'
  clear E2'
  go_upto_region 7 with (fail)
  refine wp_region_Hx (w0 := w2) [0, 1, 2, 3, 4, 5] [] rfl EX802.out ?_
  refine lexH_phase [0, 1, 2, 3, 4, 5] [] ?_
  have hw804 : EnvX w2 _ [] := EX802.out
  have hone := @EnvC.one _ _ _ hw804
  (refine wpG_op rfl rfl rfl ?_; intro K hK; go_big_quiet_op; go_big_quiet_on)
  (refine wpG_val (v := .bool false) rfl rfl (fun u hu => ltZ_op u C71.out rfl rfl) ?_ hw804; intro K hK; go_big_quiet_op; go_big_quiet_on)
  (refine wpG_op rfl rfl rfl ?_; intro K hK; go_big_quiet_op; go_big_quiet_on)
  (refine wpG_op rfl rfl rfl ?_; intro K hK; go_big_quiet_op; go_big_quiet_on)
  (refine wpG_val (v := .bool false) rfl rfl (fun u hu => gtZ_op u C74.out rfl rfl) ?_ hw804; intro K hK; go_big_quiet_op; go_big_quiet_on)
  (refine wpG_op rfl rfl rfl ?_; intro K hK; go_big_quiet_op; go_big_quiet_on)
  clear hone hw804
  refine wpG_nil ?_
  intro u806 E2'
  have EX805 := Lib.hid E2'
  clear E2'
  go_upto_region 9 with (fail)
  refine wp_region_Hx (w0 := w2) [0, 1, 2] [] rfl EX805.out ?_
  refine lexH_phase [0, 1, 2] [] ?_
  have hw807 : EnvX w2 _ [] := EX805.out
  have hone := @EnvC.one _ _ _ hw807
  (refine wpG_op rfl rfl rfl ?_; intro K hK; go_big_quiet_op; go_big_quiet_on)
  (refine wpG_op rfl rfl rfl ?_; intro K hK; go_big_quiet_op; go_big_quiet_on)
  (refine wpG_val (v := .bool false) rfl rfl (fun u hu => leZ_op u C9.out rfl rfl) ?_ hw807; intro K hK; go_big_quiet_op; go_big_quiet_on)
  clear hone hw807
  refine wpG_nil ?_
  intro u809 E2'
  have EX808 := Lib.hid E2'
  clear E2'
  go_upto_region 11 with (fail)
  refine wp_region_H (w0 := w2) [] (by kernel_rfl) EX808.out ?_
  refine anyH_phaseN [0, 1, 2, 3, 4, 5, 6, 7, 8, 9, 10, 11, 12, 13, 14, 15] 0 rfl (by kernel_rfl) ?_
  have hw810 : EnvX w2 _ [] := EnvX.sub (EnvX.drew EX808.out) (fun _ h => by cases h)
  have hone := @EnvC.one _ _ _ hw810
  (refine wpG_op rfl rfl rfl ?_; intro K hK; go_big_quiet_op; go_big_quiet_on)
  (refine wpG_op rfl rfl rfl ?_; intro K hK; go_big_quiet_op; go_big_quiet_on)
  (refine wpG_val (v := .int .i64 (m : Int)) rfl rfl (fun u hu => lenI_op u rfl) ?_ hw810; intro K hK; go_big_quiet_op; go_big_quiet_on)
  (refine wpG_val (v := .bool false) rfl rfl (fun u hu => geq_op u C11.out rfl rfl) ?_ hw810; intro K hK; go_big_quiet_op; go_big_quiet_on)
  (refine wpG_op rfl rfl rfl ?_; intro K hK; go_big_quiet_op; go_big_quiet_on)
  (refine wpG_op rfl rfl rfl ?_; intro K hK; go_big_quiet_op; go_big_quiet_on)
  (refine wpG_op rfl rfl rfl ?_; intro K hK; go_big_quiet_op; go_big_quiet_on)
  (refine wpG_val (v := .pointer (some (ab.add (j * 32)))) rfl rfl (fun u hu => idxSl_op (i := j) Tryd.underlying22 aggIdT.size (by have := HM.out; have := HJ.out; omega) u rfl rfl) ?_ hw810; intro K hK; go_big_quiet_op; go_big_quiet_on)
  (refine wpG_val (v := idv (l.getD j [])) rfl rfl (fun u hu => load_any_op u (by have h := HLB.out j (by have := HM.out; have := HJ.out; omega) u (EnvX.sub hu (fun _ h => by cases h)); rw [step_above HJ.out.1, ← HXR.out] at h; exact h) rfl) ?_ hw810; intro K hK; go_big_quiet_op; go_big_quiet_on)
  (refine wpG_op rfl rfl rfl ?_; intro K hK; go_big_quiet_op; go_big_quiet_on)
  (refine wpG_op rfl rfl rfl ?_; intro K hK; go_big_quiet_op; go_big_quiet_on)
  (refine wpG_val (v := .pointer (some (al.add (j * 32)))) rfl rfl (fun u hu => idxSl_op (i := j) Tryd.underlying22 aggIdT.size HJ.out.2 u rfl rfl) ?_ hw810; intro K hK; go_big_quiet_op; go_big_quiet_on)
  (refine wpG_val (v := idv (l.getD j [])) rfl rfl (fun u hu => load_any_op u (HLL.out j HJ.out.2 u (EnvX.sub hu (fun _ h => by cases h))) rfl) ?_ hw810; intro K hK; go_big_quiet_op; go_big_quiet_on)
  (refine wpG_val (v := .bool true) rfl rfl (fun u hu => eqlb_op HY.out.1 HY.out.1 (by simp [eqL]) u rfl rfl) ?_ hw810; intro K hK; go_big_quiet_op; go_big_quiet_on)
  (refine wpG_op rfl rfl rfl ?_; intro K hK; go_big_quiet_op; go_big_quiet_on)
  (refine wpG_op rfl rfl rfl ?_; intro K hK; go_big_quiet_op; go_big_quiet_on)
  clear hone hw810
  refine wpG_nil ?_
  refine anyH_done (by kernel_rfl) ?_
  intro u812 E2'
  have EX811 := Lib.hid E2'
  clear E2'
  have HBE := Lib.hid (HB2.out.trans ((EnvX.bel EX811.out).mono HB2.out.size))
  go_wp2
  go_ret
  exact ⟨rfl, HBE.out⟩
theorem law_grows (T : TreeC) (K : LinkC) (l : List (List Int)) (id : List Int) (lev n : Int) (A : Option Addr) (m c : Nat) (w : World) (hl : l.length = m) (hmc : m ≤ c) (hcm : c ≤ maxLen) (hI : isIds l) (hid : isId id) (hlev : I64 lev) (hn : I64 n) (hA : IdsIn w w.heap.size A l) (ht : Tables w) :
    Calls Tryd.prog 4 #[.slice A m c, idv id, .int .i64 lev, .int .i64 n] w fun e w' => e = .returned (.bool true) ∧ Below w.heap.size w w' := by
  by_cases k1 : 32 < m
  · exact law_grows_many T K l id lev n A m c w hl hmc hcm hI hid hlev hn hA ht k1
  · match l, hl, hI, hA with
    | [], hl, hI, hA => exact law_grows_none T K [] id lev n A m c w hl hmc hcm hI hid hlev hn hA ht hl.symm
    | x :: r, hl, hI, hA =>
      by_cases n1 : n < 1
      · exact law_grows_low T K (x :: r) id lev n A m c w hl hmc hcm hI hid hlev hn hA ht x r rfl (by omega) n1
      · by_cases n2 : 31 < n
        · exact law_grows_high T K (x :: r) id lev n A m c w hl hmc hcm hI hid hlev hn hA ht x r rfl (by omega) n2
        · obtain ⟨j, rfl⟩ := Int.eq_ofNat_of_zero_le (by omega : 0 ≤ n)
          by_cases n4 : (j : Int) ≤ lev
          · exact law_grows_in T K (x :: r) id lev j A m c w hl hmc hcm hI hid hlev hn hA ht x r rfl (by omega) j rfl (by omega) (by omega) n4
          · by_cases n5 : j < m
            · exact law_grows_above T K (x :: r) id lev j A m c w hl hmc hcm hI hid hlev hn hA ht x r rfl (by omega) j rfl (by omega) (by omega) (by omega) n5
            · exact law_grows_over T K (x :: r) id lev j A m c w hl hmc hcm hI hid hlev hn hA ht x r rfl (by omega) j rfl (by omega) (by omega) (by omega) (by omega)
end Go.Proofs.YtbjojpgedcikiaaDoor

namespace Go.Proofs.YtbjojpgedcikiaaDoor.linkGrows
set_option maxRecDepth 8000
open Go.ChangeShapes Go.WideShapes Go.ChangeAt Go.RowKit

theorem contract (H : Type) (enc : TypeId × Value → H) (W : World) (base : Nat) (args : Array Value) (ds gs : List (DataW H)) (before : List MemPlace)
    (hval : ∀ (j : Nat) t v, Tryd.f4.params[j]? = some t → args[j]? = some v → Value.okWide Tryd.prog W .any base t v)
    (hW : DataW.Whole enc Tryd.prog Tryd.f4.params.toList Rows.linkGrowsSpec.vars false W args.toList ds gs before) (hL : laidMetH Tryd.prog Rows.linkGrowsRow.laid W) :
    Calls Tryd.prog 4 args W fun e W' => ∃ v, e = .returned v ∧ Rows.linkGrowsSpec.post enc Tryd.prog Tryd.f4 false true false false W args v W' := by
  have hW' := hW
  obtain ⟨p, q, hA0, hV, rfl, hfz, hnd⟩ := hW
  have hA : DataW.TrodAll enc Tryd.prog W 0 (fun _ => true) true Tryd.f4.params.toList args.toList ds p := hA0
  rw [Tryd.params4] at hA hval
  obtain ⟨v0, vs0, d0, ds0, p0, q0, hargs, rfl, rfl, h0, r0⟩ := trodAll_cons hA
  obtain ⟨v1, vs1, d1, ds1, p1, q1, rfl, rfl, rfl, h1, r1⟩ := trodAll_cons r0
  obtain ⟨v2, vs2, d2, ds2, p2, q2, rfl, rfl, rfl, h2, r2⟩ := trodAll_cons r1
  obtain ⟨v3, vs3, d3, ds3, p3, q3, rfl, rfl, rfl, h3, r3⟩ := trodAll_cons r2
  obtain ⟨rfl, rfl, rfl⟩ := trodAll_nil r3
  obtain rfl : args = #[v0, v1, v2, v3] := by cases args; simp_all
  obtain ⟨rfl, rfl⟩ := trodVars_none hV
  have lt0 : ∀ x ∈ p0, x.block < W.heap.size := by obtain ⟨m, hm⟩ := h0; exact DataW.trod_lt m _ _ _ hm
  obtain ⟨a0, n0, c0, x0, rfl, lx0, nc0, cm0, ix0, px0⟩ := open_ids (hval 0 22 v0 rfl rfl) h0
  have lt1 : ∀ x ∈ p1, x.block < W.heap.size := by obtain ⟨m, hm⟩ := h1; exact DataW.trod_lt m _ _ _ hm
  obtain ⟨x1, rfl, lx1, rx1⟩ := open_id (hval 1 24 v1 rfl rfl) h1
  obtain ⟨x2, rfl, rfl, rfl, wx2⟩ := open_int Tryd.underlying3 (hval 2 3 v2 rfl rfl) h2
  obtain ⟨x3, rfl, rfl, rfl, wx3⟩ := open_int Tryd.underlying3 (hval 3 3 v3 rfl rfl) h3
  clear hA0
  refine (law_grows treeC linkC x0 x1 x2 x3 a0 n0 c0 W lx0 nc0 cm0 ix0 ⟨lx1, rx1⟩ (bounds_i64 wx2) (bounds_i64 wx3) px0 (tables_of_laid hL)).mono fun e W' ⟨he, bel⟩ => ?_
  subst he
  exact ⟨_, rfl, _, _, _, [], _, [], hW', trodAll_mk1 (shut_bool Tryd.underlying4 _), (trodAll_cons_mk (Below.trod laidOut (by kernel_rfl) (of_decide_eq_true (by kernel_rfl)) h0 bel lt0) (trodAll_cons_mk (Below.trod laidOut (by kernel_rfl) (of_decide_eq_true (by kernel_rfl)) h1 bel lt1) (trodAll_cons_mk (shut_int Tryd.underlying3 wx2) (trodAll_cons_mk (shut_int Tryd.underlying3 wx3) trodAll_mk0)))), rfl, bel.frame _, fun h => by cases h⟩

def start : Array Value := #[.slice none 0 0, zeroId, .int .i64 0, .int .i64 0]
theorem reads (os : Os) {H : Type} (enc : TypeId × Value → H) : ∃ places, DataW.whole enc Tryd.prog ((laidWorld os).forCall (fun _ _ => 0) ⟨#[], start, []⟩).memory Tryd.f4.params.toList Rows.linkGrowsSpec.vars false start.toList 8 = some ([.nil, zeroD, .lit (.int .i64 0), .lit (.int .i64 0)], [], places) :=
  ⟨[], by kernel_rfl⟩

set_option maxRecDepth 100000 in
theorem lifted (os : Os) (started : os.Started) (H : Type) (enc : TypeId × Value → H) (F : Stop.Interp) :
    ReturnsInHanded {} Tryd.checked os 4 .any ((OpenSpec.ofChange Rows.linkGrowsSpec).preRow enc Tryd.prog Tryd.f4 Rows.linkGrowsRow.domain false Rows.linkGrowsRow.laid) (((OpenSpec.ofChange Rows.linkGrowsSpec).at F).post enc Tryd.prog Tryd.f4 false true false false) := by
  obtain ⟨places, hx⟩ := reads os enc
  refine returnsInHanded_of_row (C := Tryd.checked) (s := OpenSpec.ofChange Rows.linkGrowsSpec) own started (by kernel_rfl) Tryd.func4
    (witness_row_at (enc := enc) (C := Tryd.checked) false (laidWorld os) start rfl (by kernel_rfl) (by kernel_rfl) (by kernel_rfl)
      (OpenSpec.preRow_of_cond 8 hx (by kernel_rfl) (fun k hk => by cases hk) (by kernel_rfl) (laidMet_of_run' 8 (by kernel_rfl) (by kernel_rfl)))) ?_
  intro W base args ds gs before hval hW _ _ _ hL _ _
  exact contract H enc W base args ds gs before hval hW hL

theorem said : Rows.LinkGrowsSaid :=
  OpenClaim.holds_of_cond 4 Tryd.f4 rfl rfl rfl rfl rfl rfl rfl ⟨rfl, rfl, rfl, rfl, rfl⟩ rfl rfl rfl rfl rfl (by kernel_rfl) Tryd.func4 (by kernel_rfl)
    (of_decide_eq_true (by kernel_rfl)) (by unfold Func.isWrapper; first | (rw [if_pos (by decide +kernel)]; kernel_rfl) | (rw [if_neg (by decide +kernel)]; exact ⟨rfl, rfl⟩))
    (fun os started H enc _ F => by rw [OpenClaim.pre_eq_preRow]; exact lifted os started H enc F)

theorem plain (f : FuncId) (fn : Func) (hf : Tryd.pinned.checked.prog.funcNamed "stepladder/stepladderlaw07.LinkGrows" = some f) (hfn : Tryd.pinned.checked.prog.funcs[f]? = some fn) :
    false = Tryd.pinned.checked.prog.looks [] ∧ ∀ (j : Nat) t, fn.params[j]? = some t → Tryd.pinned.checked.prog.wantsStandIn t = false := by
  obtain rfl : f = 4 := Option.some.inj ((show Tryd.prog.funcNamed "stepladder/stepladderlaw07.LinkGrows" = some 4 by kernel_rfl).symm.trans hf) |>.symm
  obtain rfl : fn = Tryd.f4 := (Option.some.inj (Tryd.func4.symm.trans hfn)).symm
  refine ⟨by kernel_rfl, fun j t ht => ?_⟩
  rw [Tryd.params4] at ht
  have hm : t = 22 ∨ t = 24 ∨ t = 3 ∨ t = 3 := by simpa using Array.mem_of_getElem? ht
  rcases hm with rfl | rfl | rfl | rfl
  · exact (show Tryd.prog.wantsStandIn 22 = false by kernel_rfl)
  · exact (show Tryd.prog.wantsStandIn 24 = false by kernel_rfl)
  · exact (show Tryd.prog.wantsStandIn 3 = false by kernel_rfl)
  · exact (show Tryd.prog.wantsStandIn 3 = false by kernel_rfl)
theorem card : Rows.LinkGrowsCardSaid :=
  Claim7.holds_tied_plain_at .later [] _ _ _ _ said (fun _ h => by cases h) (by kernel_rfl) (fun _ h => by cases h) linkGrows_row_tie rfl ⟨rfl, rfl⟩ (by kernel_rfl) rfl plain (by kernel_rfl)

end Go.Proofs.YtbjojpgedcikiaaDoor.linkGrows
