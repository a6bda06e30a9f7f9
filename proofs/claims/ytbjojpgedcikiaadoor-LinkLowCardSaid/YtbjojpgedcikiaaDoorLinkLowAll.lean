/-
  PROVED: the law stepladderlaw07.LinkLow answers true for every input, and leaves its arguments as they were.
  Conditions: the two package-level tables of package sha hold at the call what their initialisers lay; the card ties that to the text of the program (a pruned copy of the project: the packages that the roots of this seat load).
-/
import Derived.Test.YtbjojpgedcikiaaDoorCl
namespace Go.Proofs.YtbjojpgedcikiaaDoor
set_option maxRecDepth 8000

theorem lvN_low {lev : Int} (h : lev < 1) : lvN lev = 0 := by unfold lvN; omega
end Go.Proofs.YtbjojpgedcikiaaDoor

namespace Go.Proofs.YtbjojpgedcikiaaDoor
set_option maxRecDepth 8000
open Go.RowKit

section
variable {a : Act} {dst : Option Tmp} {x y : Operand} {ty : TypeId} {pos : String} {after : Array Edge} {gd : Option (Nat × Bool)}
theorem neZ_op {m k : Int} {b : Bool} (u : World) (hb : decide (m ≠ k) = b) (hx : a.eval x = .int .i64 m) (hy : a.eval y = .int .i64 k) :
    (execOp a.eval ⟨dst, .binOp .neq 3 x y 3, ty, pos, after, gd⟩).run Tryd.prog u = .ok (.value (.bool b)) u := by
  have e : (m != k) = b := by rw [← hb]; by_cases h : m = k <;> simp [h]
  subst e
  unfold execOp
  simp only [hx, hy]
  go_simp
end
end Go.Proofs.YtbjojpgedcikiaaDoor

namespace Go.Proofs.YtbjojpgedcikiaaDoor
set_option maxRecDepth 8000
open Go.RowKit

set_option maxRecDepth 20000 in
set_option maxHeartbeats 8000000 in
theorem law_low_many (T : TreeC) (K : LinkC) (l : List (List Int)) (id : List Int) (lev n : Int) (A : Option Addr) (m c : Nat) (w : World) (hl : l.length = m) (hmc : m ≤ c) (hcm : c ≤ maxLen) (hI : isIds l) (hid : isId id) (hlev : I64 lev) (hn : I64 n) (hA : IdsIn w w.heap.size A l) (ht : Tables w) (k1 : 32 < m) :
    Calls Tryd.prog 8 #[.slice A m c, idv id, .int .i64 lev, .int .i64 n] w fun e w' => e = .returned (.bool true) ∧ Below w.heap.size w w' := by
  have k1' : (m : Int) > 32 := by omega
  have E0 : Hid (EnvX w (w.alloc (.cells (arrB 32 id) 24)) [(w.heap.size, Obj.cells (arrB 32 id) 24 (0, 0))]) := (EnvX.start w).new _
  have HAW := Lib.hid (lawake_any T K (w.alloc (.cells (arrB 32 id) 24)) (ht.below (EnvX.bel E0.out)))
  have HT := Lib.hid ht
  have HTR := Lib.hid T
  have HK := Lib.hid K
  clear ht T K
  unfold idv
  go_enter Tryd.func8, Tryd.ntmps8
  go_upto_region 1 with (fail)
  generalize (w.alloc (.cells (arrB 32 id) 24)) = W at *
  go_wp2_with fail
  refine HAW.out.mono ?_
  rintro e w1 ⟨rfl, hb1⟩
  have HB1 := Lib.hid (EnvX.below E0.out hb1).bel
  have E1 : Hid (EnvX w1 w1 [(w.heap.size, Obj.cells (arrB 32 id) 24 (0, 0))]) := ⟨Below.refl _ _, (EnvX.below E0.out hb1).box⟩
  have HT1 := Lib.hid (HT.out.below HB1.out)
  clear hb1 E0 HAW
  go_wp2
  go_ret
  exact ⟨rfl, HB1.out⟩
set_option maxRecDepth 20000 in
set_option maxHeartbeats 8000000 in
theorem law_low_none (T : TreeC) (K : LinkC) (l : List (List Int)) (id : List Int) (lev n : Int) (A : Option Addr) (m c : Nat) (w : World) (hl : l.length = m) (hmc : m ≤ c) (hcm : c ≤ maxLen) (hI : isIds l) (hid : isId id) (hlev : I64 lev) (hn : I64 n) (hA : IdsIn w w.heap.size A l) (ht : Tables w) (k1 : m = 0) :
    Calls Tryd.prog 8 #[.slice A m c, idv id, .int .i64 lev, .int .i64 n] w fun e w' => e = .returned (.bool true) ∧ Below w.heap.size w w' := by
  have k1' : ¬ (m : Int) > 32 := by omega
  have k2' : (m : Int) = 0 := by omega
  have E0 : Hid (EnvX w (w.alloc (.cells (arrB 32 id) 24)) [(w.heap.size, Obj.cells (arrB 32 id) 24 (0, 0))]) := (EnvX.start w).new _
  have HAW := Lib.hid (lawake_any T K (w.alloc (.cells (arrB 32 id) 24)) (ht.below (EnvX.bel E0.out)))
  have HT := Lib.hid ht
  have HTR := Lib.hid T
  have HK := Lib.hid K
  clear ht T K
  unfold idv
  go_enter Tryd.func8, Tryd.ntmps8
  go_upto_region 1 with (fail)
  generalize (w.alloc (.cells (arrB 32 id) 24)) = W at *
  go_wp2_with fail
  refine HAW.out.mono ?_
  rintro e w1 ⟨rfl, hb1⟩
  have HB1 := Lib.hid (EnvX.below E0.out hb1).bel
  have E1 : Hid (EnvX w1 w1 [(w.heap.size, Obj.cells (arrB 32 id) 24 (0, 0))]) := ⟨Below.refl _ _, (EnvX.below E0.out hb1).box⟩
  have HT1 := Lib.hid (HT.out.below HB1.out)
  clear hb1 E0 HAW
  go_wp2
  go_ret
  exact ⟨rfl, HB1.out⟩
set_option maxRecDepth 20000 in
set_option maxHeartbeats 8000000 in
theorem law_low_a (T : TreeC) (K : LinkC) (l : List (List Int)) (id : List Int) (lev n : Int) (A : Option Addr) (m c : Nat) (w : World) (hl : l.length = m) (hmc : m ≤ c) (hcm : c ≤ maxLen) (hI : isIds l) (hid : isId id) (hlev : I64 lev) (hn : I64 n) (hA : IdsIn w w.heap.size A l) (ht : Tables w) (x : List Int) (r : List (List Int)) (hxr : l = x :: r) (h32 : m ≤ 32) (n1 : ¬ 1 ≤ n) :
    Calls Tryd.prog 8 #[.slice A m c, idv id, .int .i64 lev, .int .i64 n] w fun e w' => e = .returned (.bool true) ∧ Below w.heap.size w w' := by
  have hrl : r.length + 1 = m := by rw [← hl, hxr]; rfl
  have HK1 : Hid (decide (32 < (m : Int)) = false) := decide_eq_false (by omega)
  have HK2 : Hid (decide ((m : Int) = 0) = false) := decide_eq_false (by omega)
  have HN1 : Hid (nextT l id lev = stepL x r id (lvN lev)) := by show _ = _; rw [hxr]; exact next_some (by omega)
  have HN2 : Hid (nextT l id 31 = stepL x r id 31) := by show _ = _; rw [hxr]; exact next_some (by omega)
  have HX : Hid (isId x) := hI x (by rw [hxr]; exact List.mem_cons_self ..)
  have HD := Lib.hid hid
  have HL := Lib.hid (And.intro hl (And.intro hmc hcm))
  have HIA := Lib.hid (And.intro hI hA)
  have HXR := Lib.hid hxr
  have HLV := Lib.hid hlev
  have HRL := Lib.hid hrl
  have hm0 : 0 < m := by omega
  unfold I64 at hn
  have C14 : Hid (decide (1 ≤ n) = false) := decide_eq_false n1
  clear n1
  clear hl hI hid hA hlev hxr hrl hmc hcm
  have E0 : Hid (EnvX w (w.alloc (.cells (arrB 32 id) 24)) [(w.heap.size, Obj.cells (arrB 32 id) 24 (0, 0))]) := (EnvX.start w).new _
  have HAW := Lib.hid (lawake_any T K (w.alloc (.cells (arrB 32 id) 24)) (ht.below (EnvX.bel E0.out)))
  have HT := Lib.hid ht
  have HTR := Lib.hid T
  have HK := Lib.hid K
  clear ht T K
  unfold idv
  go_enter Tryd.func8, Tryd.ntmps8
  go_upto_region 1 with (fail)
  generalize (w.alloc (.cells (arrB 32 id) 24)) = W at *
  go_wp2_with fail
  refine HAW.out.mono ?_
  rintro e w1 ⟨rfl, hb1⟩
  have HB1 := Lib.hid (EnvX.below E0.out hb1).bel
  have E1 : Hid (EnvX w1 w1 [(w.heap.size, Obj.cells (arrB 32 id) 24 (0, 0))]) := ⟨Below.refl _ _, (EnvX.below E0.out hb1).box⟩
  have HT1 := Lib.hid (HT.out.below HB1.out)
  clear hb1 E0 HAW
  go_upto_region 2 with (fail)
  refine wp_region_Hx (w0 := w1) [0, 1, 2, 3, 4, 5, 6, 7, 8, 9, 10, 11] [(w.heap.size, Obj.cells (arrB 32 id) 24 (0, 0))] rfl E1.out ?_
  refine lexH_phase [0, 1, 2, 3, 4, 5, 6, 7, 8, 9, 10, 11] [] ?_
  have hw701 : EnvX w1 _ [(w.heap.size, Obj.cells (arrB 32 id) 24 (0, 0))] := E1.out
  have hone := @EnvC.one _ _ _ hw701
  (refine wpG_op rfl rfl rfl ?_; intro K hK; go_big_quiet_op; go_big_quiet_on)
  (refine wpG_op rfl rfl rfl ?_; intro K hK; go_big_quiet_op; go_big_quiet_on)
  (refine wpG_op rfl rfl rfl ?_; intro K hK; go_big_quiet_op; go_big_quiet_on)
  (refine wpG_op rfl rfl rfl ?_; intro K hK; go_big_quiet_op; go_big_quiet_on)
  (refine wpG_val (v := .int .i64 (m : Int)) rfl rfl (fun u hu => lenI_op u rfl) ?_ hw701; intro K hK; go_big_quiet_op; go_big_quiet_on)
  (refine wpG_val (v := .bool false) rfl rfl (fun u hu => gtZ_op u HK1.out rfl rfl) ?_ hw701; intro K hK; go_big_quiet_op; go_big_quiet_on)
  (refine wpG_op rfl rfl rfl ?_; intro K hK; go_big_quiet_op; go_big_quiet_on)
  (refine wpG_op rfl rfl rfl ?_; intro K hK; go_big_quiet_op; go_big_quiet_on)
  (refine wpG_op rfl rfl rfl ?_; intro K hK; go_big_quiet_op; go_big_quiet_on)
  (refine wpG_val (v := .int .i64 (m : Int)) rfl rfl (fun u hu => lenI_op u rfl) ?_ hw701; intro K hK; go_big_quiet_op; go_big_quiet_on)
  (refine wpG_val (v := .bool false) rfl rfl (fun u hu => eqlI_op u HK2.out rfl rfl) ?_ hw701; intro K hK; go_big_quiet_op; go_big_quiet_on)
  (refine wpG_op rfl rfl rfl ?_; intro K hK; go_big_quiet_op; go_big_quiet_on)
  clear hone hw701
  refine wpG_nil ?_
  intro u703 E2'
  have EX702 := Lib.hid E2'
  clear E2'
  have HB1 := Lib.hid (HB1.out.trans ((EnvX.bel EX702.out).mono HB1.out.size))
  have HT1 := Lib.hid (HT1.out.below (EnvX.bel EX702.out))
  have E1 : Hid (EnvX u703 u703 [(w.heap.size, Obj.cells (arrB 32 id) 24 (0, 0))]) := ⟨Below.refl _ _, EX702.out.box⟩
  clear EX702
  have HLD : Hid ((loadVar 24 ⟨w.heap.size, 0, none⟩).run Tryd.prog u703 = .ok (idv id) u703) := box_load E1.out (List.Mem.head _) HD.out.1
  have HC1 : Hid (Calls Tryd.prog 11 #[.slice A m c, idv id, .int .i64 lev] u703 fun e w' => (∃ v, e = .returned v ∧ OwnI w' u703.heap.size v (stepL x r id (lvN lev))) ∧ Below u703.heap.size u703 w') := by
    have h := HK.out.next l id lev A m c u703 HL.out.1 (by omega) HL.out.2.1 HL.out.2.2 HIA.out.1 HD.out HLV.out (HIA.out.2.up HB1.out) HT1.out
    rwa [HN1.out] at h
  go_upto_region 4 with (fail)
  go_wp2_with ((with_reducible refine wpList_load_run (o := ⟨some 28, _, _, _, _, _⟩) ?_ 24 (.tmp 5) ?_ ⟨w.heap.size, 0, none⟩ ?_ HLD.out ?_); (rfl); (rfl); (rfl))
  refine HC1.out.mono ?_
  rintro e w2 ⟨⟨va, rfl, hva⟩, hb2⟩
  have HB2 := Lib.hid (HB1.out.trans (hb2.mono HB1.out.size))
  have E2 : Hid (EnvX w2 w2 [(w.heap.size, Obj.cells (arrB 32 id) 24 (0, 0))]) := ⟨Below.refl _ _, (EnvX.below E1.out hb2).box⟩
  obtain ⟨Aa, ca, rfl, ha1, ha2⟩ := hva.form
  have HA2 := Lib.hid hva.ids
  clear hva hb2 HLD HC1 E1 ha1 ha2
  have HLD : Hid ((loadVar 24 ⟨w.heap.size, 0, none⟩).run Tryd.prog w2 = .ok (idv id) w2) := box_load E2.out (List.Mem.head _) HD.out.1
  have HC1 : Hid (Calls Tryd.prog 11 #[.slice A m c, idv id, .int .i64 31] w2 fun e w' => (∃ v, e = .returned v ∧ OwnI w' w2.heap.size v (stepL x r id 31)) ∧ Below w2.heap.size w2 w') := by
    have h := HK.out.next l id 31 A m c w2 HL.out.1 (by omega) HL.out.2.1 HL.out.2.2 HIA.out.1 HD.out ⟨by omega, by omega⟩ (HIA.out.2.up HB2.out) (HT.out.below HB2.out)
    rwa [HN2.out] at h
  go_upto_region 5 with (fail)
  go_wp2_with ((with_reducible refine wpList_load_run (o := ⟨some 32, _, _, _, _, _⟩) ?_ 24 (.tmp 5) ?_ ⟨w.heap.size, 0, none⟩ ?_ HLD.out ?_); (rfl); (rfl); (rfl))
  refine HC1.out.mono ?_
  rintro e w3 ⟨⟨vb, rfl, hvb⟩, hb3⟩
  have HB3 := Lib.hid (HB2.out.trans (hb3.mono HB2.out.size))
  have E3 : Hid (EnvX w3 w3 [(w.heap.size, Obj.cells (arrB 32 id) 24 (0, 0))]) := ⟨Below.refl _ _, (EnvX.below E2.out hb3).box⟩
  have hlb : (stepL x r id 31).length = 32 := by rw [step_len]; have := HRL.out; omega
  obtain ⟨Ab, cb, rfl, -, -⟩ := hvb.form
  have HBB := Lib.hid hvb.ids
  have HAA := Lib.hid (HA2.out.up hb3)
  have hids1 : isIds (stepL x r id 31) := step_ids (by rw [← HXR.out]; exact HIA.out.1) HD.out
  have hids0 : isIds (stepL x r id (lvN lev)) := step_ids (by rw [← HXR.out]; exact HIA.out.1) HD.out
  have HL3 := Lib.hid (HIA.out.2.up HB3.out)
  obtain ⟨ab, rfl, -⟩ := HBB.out.load hids1 (i := 0) (by omega)
  obtain ⟨al, rfl, -⟩ := HL3.out.load HIA.out.1 (i := 0) (by rw [HL.out.1]; omega)
  have HLB : Hid (∀ k, k < 32 → ∀ u, EnvX w3 u [] → (loadVar 24 (ab.add (k * 32))).run Tryd.prog u = .ok (idv ((stepL x r id 31).getD k [])) u) := fun k hk u hu => by
    obtain ⟨a2, e, h⟩ := (HBB.out.up (EnvX.bel hu)).load hids1 (i := k) (by omega)
    cases e
    exact h
  have HLL : Hid (∀ k, k < m → ∀ u, EnvX w3 u [] → (loadVar 24 (al.add (k * 32))).run Tryd.prog u = .ok (idv (l.getD k [])) u) := fun k hk u hu => by
    obtain ⟨a2, e, h⟩ := (HL3.out.up (EnvX.bel hu)).load HIA.out.1 (i := k) (by rw [HL.out.1]; exact hk)
    cases e
    exact h
  have HLI : Hid (∀ u, EnvX w3 u [] → (loadVar 24 ⟨w.heap.size, 0, none⟩).run Tryd.prog u = .ok (idv id) u) := fun u hu => box_load (EnvX.comb E3.out hu) (List.mem_append_right [] (List.Mem.head _)) HD.out.1
  have HL0 : Hid (l.getD 0 [] = x) := by show _ = _; rw [HXR.out]; rfl
  have EU : Hid (EnvX w3 w3 []) := EnvX.start _
  have HM0 : Hid (0 < m) := by show _ < _; omega
  have H32 : Hid (decide (((32 : Nat) : Int) ≠ 32) = false) := Lib.hid (by decide : decide (((32 : Nat) : Int) ≠ 32) = false)
  rw [hlb]
  clear hvb hb3 HLD HC1 E2 E3 HA2 hlb HT HT1 HB2
  go_upto_region 6 with (fail)
  refine wp_region_H (w0 := w3) [] (by kernel_rfl) EU.out ?_
  refine anyH_phaseN [0, 1, 2, 3, 4, 5, 6, 7, 8, 9, 10, 11, 12, 13, 14, 15, 16, 17, 18, 19, 20, 21, 22, 23, 24, 25, 26, 27] 0 rfl (by kernel_rfl) ?_
  have hw1 : EnvX w3 _ [] := EnvX.sub (EnvX.drew EU.out) (fun _ h => by cases h)
  have hone := @EnvC.one _ _ _ hw1
  (refine wpG_op rfl rfl rfl ?_; intro K hK; go_big_quiet_op; go_big_quiet_on)
  (refine wpG_val (v := .int .i64 ((32 : Nat) : Int)) rfl rfl (fun u hu => lenI_op (n := 32) u rfl) ?_ hw1; intro K hK; go_big_quiet_op; go_big_quiet_on)
  (refine wpG_val (v := .bool false) rfl rfl (fun u hu => neZ_op u H32.out rfl rfl) ?_ hw1; intro K hK; go_big_quiet_op; go_big_quiet_on)
  (refine wpG_op rfl rfl rfl ?_; intro K hK; go_big_quiet_op; go_big_quiet_on)
  (refine wpG_op rfl rfl rfl ?_; intro K hK; go_big_quiet_op; go_big_quiet_on)
  (refine wpG_val (v := .pointer (some (ab.add (0 * 32)))) rfl rfl (fun u hu => idxSl_op (i := 0) Tryd.underlying22 aggIdT.size (by decide) u rfl rfl) ?_ hw1; intro K hK; go_big_quiet_op; go_big_quiet_on)
  (refine wpG_val (v := idv x) rfl rfl (fun u hu => load_any_op u (HLB.out 0 (by decide) u (EnvX.sub hu (fun _ h => by cases h))) rfl) ?_ hw1; intro K hK; go_big_quiet_op; go_big_quiet_on)
  (refine wpG_op rfl rfl rfl ?_; intro K hK; go_big_quiet_op; go_big_quiet_on)
  (refine wpG_val (v := .pointer (some (al.add (0 * 32)))) rfl rfl (fun u hu => idxSl_op (i := 0) Tryd.underlying22 aggIdT.size HM0.out u rfl rfl) ?_ hw1; intro K hK; go_big_quiet_op; go_big_quiet_on)
  (refine wpG_val (v := idv x) rfl rfl (fun u hu => load_any_op u (by have h := HLL.out 0 HM0.out u (EnvX.sub hu (fun _ h => by cases h)); rw [HL0.out] at h; exact h) rfl) ?_ hw1; intro K hK; go_big_quiet_op; go_big_quiet_on)
  (refine wpG_val (v := .bool false) rfl rfl (fun u hu => neqb_op HX.out.1 HX.out.1 (by simp [eqL]) u rfl rfl) ?_ hw1; intro K hK; go_big_quiet_op; go_big_quiet_on)
  (refine wpG_op rfl rfl rfl ?_; intro K hK; go_big_quiet_op; go_big_quiet_on)
  (refine wpG_op rfl rfl rfl ?_; intro K hK; go_big_quiet_op; go_big_quiet_on)
  (refine wpG_op rfl rfl rfl ?_; intro K hK; go_big_quiet_op; go_big_quiet_on)
  (refine wpG_val (v := .bool false) rfl rfl (fun u hu => geq_op u C14.out rfl rfl) ?_ hw1; intro K hK; go_big_quiet_op; go_big_quiet_on)
  (refine wpG_op rfl rfl rfl ?_; intro K hK; go_big_quiet_op; go_big_quiet_on)
  (refine wpG_skip rfl rfl ?_ hw1; intro K hK; go_big_quiet_op; go_big_quiet_on)
  (refine wpG_skip rfl rfl ?_ hw1; intro K hK; go_big_quiet_op; go_big_quiet_on)
  (refine wpG_op rfl rfl rfl ?_; intro K hK; go_big_quiet_op; go_big_quiet_on)
  (refine wpG_op rfl rfl rfl ?_; intro K hK; go_big_quiet_op; go_big_quiet_on)
  (refine wpG_skip rfl rfl ?_ hw1; intro K hK; go_big_quiet_op; go_big_quiet_on)
  (refine wpG_skip rfl rfl ?_ hw1; intro K hK; go_big_quiet_op; go_big_quiet_on)
  (refine wpG_skip rfl rfl ?_ hw1; intro K hK; go_big_quiet_op; go_big_quiet_on)
  (refine wpG_skip rfl rfl ?_ hw1; intro K hK; go_big_quiet_op; go_big_quiet_on)
  (refine wpG_skip rfl rfl ?_ hw1; intro K hK; go_big_quiet_op; go_big_quiet_on)
  (refine wpG_skip rfl rfl ?_ hw1; intro K hK; go_big_quiet_op; go_big_quiet_on)
  (refine wpG_op rfl rfl rfl ?_; intro K hK; go_big_quiet_op; go_big_quiet_on)
  (refine wpG_op rfl rfl rfl ?_; intro K hK; go_big_quiet_op; go_big_quiet_on)
  clear hone hw1
  refine wpG_nil ?_
  refine anyH_done (by kernel_rfl) ?_
  intro u3 E2'
  have EX2 := Lib.hid E2'
  clear E2'
  by_cases hlv : lev > 0
  · have HBE := Lib.hid (HB3.out.trans ((EnvX.bel EX2.out).mono HB3.out.size))
    go_wp2
    go_ret
    exact ⟨rfl, HBE.out⟩
  · have h0 : lvN lev = 0 := lvN_low (by omega)
    rw [h0, step_zero, ← HXR.out] at HAA hids0
    have hla : (stepL x r id (lvN lev)).length = m := by rw [h0, step_zero, ← HXR.out]; exact HL.out.1
    rw [hla]
    obtain ⟨aa, rfl, -⟩ := HAA.out.load hids0 (i := 0) (by rw [HL.out.1]; omega)
    have HLA : Hid (∀ k, k < m → ∀ u, EnvX w3 u [] → (loadVar 24 (aa.add (k * 32))).run Tryd.prog u = .ok (idv (l.getD k [])) u) := fun k hk u hu => by
      obtain ⟨a2, e, h⟩ := (HAA.out.up (EnvX.bel hu)).load hids0 (i := k) (by rw [HL.out.1]; exact hk)
      cases e
      exact h
    have EL : Hid (EnvX w3 u3 []) := EX2.out
    clear h0 hla
    go_upto_region 11 with (fail)
    go_loopw [12] (fun iv u => ∃ k : Nat, k ≤ m ∧ iv = .int .i64 (k : Int) ∧ Hid (EnvX w3 u [])) (fun iv _ => m - (intOf iv).toNat)
    case atStart => exact ⟨0, by omega, rfl, EL⟩
    case round =>
      obtain ⟨k, hk, rfl, EK⟩ := hrel
      clear EL EX2
      by_cases hlt : k < m
      · have hlt2 : (k : Int) < (m : Int) := by omega
        have HKM := Lib.hid hlt
        have HY := Lib.hid (HIA.out.1.get (i := k) (by rw [HL.out.1]; exact hlt))
        have HKA := Lib.hid (HLA.out k hlt)
        have HKL := Lib.hid (HLL.out k hlt)
        have HMM : Hid (decide ((m : Int) ≠ (m : Int)) = false) := decide_eq_false (fun h => h rfl)
        generalize l.getD k [] = y at *
        go_upto_region 13 with (fail)
        refine wp_region_H (w0 := w3) [] (by kernel_rfl) EK.out ?_
        refine anyH_phaseN [0, 1, 2, 3, 4, 5, 6, 7, 8, 9, 10, 11, 12, 13, 14, 15] 0 rfl (by kernel_rfl) ?_
        have hw101 : EnvX w3 _ [] := EnvX.sub (EnvX.drew EK.out) (fun _ h => by cases h)
        have hone := @EnvC.one _ _ _ hw101
        (refine wpG_op rfl rfl rfl ?_; intro K hK; go_big_quiet_op; go_big_quiet_on)
        (refine wpG_val (v := .int .i64 (m : Int)) rfl rfl (fun u hu => lenI_op u rfl) ?_ hw101; intro K hK; go_big_quiet_op; go_big_quiet_on)
        (refine wpG_op rfl rfl rfl ?_; intro K hK; go_big_quiet_op; go_big_quiet_on)
        (refine wpG_val (v := .int .i64 (m : Int)) rfl rfl (fun u hu => lenI_op u rfl) ?_ hw101; intro K hK; go_big_quiet_op; go_big_quiet_on)
        (refine wpG_val (v := .bool false) rfl rfl (fun u hu => neZ_op u HMM.out rfl rfl) ?_ hw101; intro K hK; go_big_quiet_op; go_big_quiet_on)
        (refine wpG_op rfl rfl rfl ?_; intro K hK; go_big_quiet_op; go_big_quiet_on)
        (refine wpG_op rfl rfl rfl ?_; intro K hK; go_big_quiet_op; go_big_quiet_on)
        (refine wpG_op rfl rfl rfl ?_; intro K hK; go_big_quiet_op; go_big_quiet_on)
        (refine wpG_val (v := .pointer (some (aa.add (k * 32)))) rfl rfl (fun u hu => idxSl_op Tryd.underlying22 aggIdT.size HKM.out u rfl rfl) ?_ hw101; intro K hK; go_big_quiet_op; go_big_quiet_on)
        (refine wpG_val (v := idv y) rfl rfl (fun u hu => load_any_op u (HKA.out u (EnvX.sub hu (fun _ h => by cases h))) rfl) ?_ hw101; intro K hK; go_big_quiet_op; go_big_quiet_on)
        (refine wpG_op rfl rfl rfl ?_; intro K hK; go_big_quiet_op; go_big_quiet_on)
        (refine wpG_op rfl rfl rfl ?_; intro K hK; go_big_quiet_op; go_big_quiet_on)
        (refine wpG_val (v := .pointer (some (al.add (k * 32)))) rfl rfl (fun u hu => idxSl_op Tryd.underlying22 aggIdT.size HKM.out u rfl rfl) ?_ hw101; intro K hK; go_big_quiet_op; go_big_quiet_on)
        (refine wpG_val (v := idv y) rfl rfl (fun u hu => load_any_op u (HKL.out u (EnvX.sub hu (fun _ h => by cases h))) rfl) ?_ hw101; intro K hK; go_big_quiet_op; go_big_quiet_on)
        (refine wpG_val (v := .bool false) rfl rfl (fun u hu => neqb_op HY.out.1 HY.out.1 (by simp [eqL]) u rfl rfl) ?_ hw101; intro K hK; go_big_quiet_op; go_big_quiet_on)
        (refine wpG_op rfl rfl rfl ?_; intro K hK; go_big_quiet_op; go_big_quiet_on)
        clear hone hw101
        refine wpG_nil ?_
        refine anyH_done (by kernel_rfl) ?_
        intro u103 E2'
        have EX102 := Lib.hid E2'
        clear E2'
        go_wp2
        go_roundw
        case rel => exact ⟨k + 1, by omega, by go_num, EX102.out⟩
        case measure => simp [intOf]; omega
      · obtain rfl : k = m := by omega
        have hge : ¬ (k : Int) < (k : Int) := by omega
        have HBE := Lib.hid (HB3.out.trans ((EnvX.bel EK.out).mono HB3.out.size))
        go_wp2
        go_ret
        exact ⟨rfl, HBE.out⟩
set_option maxRecDepth 20000 in
set_option maxHeartbeats 8000000 in
theorem law_low_b (T : TreeC) (K : LinkC) (l : List (List Int)) (id : List Int) (lev n : Int) (A : Option Addr) (m c : Nat) (w : World) (hl : l.length = m) (hmc : m ≤ c) (hcm : c ≤ maxLen) (hI : isIds l) (hid : isId id) (hlev : I64 lev) (hn : I64 n) (hA : IdsIn w w.heap.size A l) (ht : Tables w) (x : List Int) (r : List (List Int)) (hxr : l = x :: r) (h32 : m ≤ 32) (j : Nat) (n1 : n = (j : Int)) (n2 : 1 ≤ j) (n3 : j < 32) :
    Calls Tryd.prog 8 #[.slice A m c, idv id, .int .i64 lev, .int .i64 n] w fun e w' => e = .returned (.bool true) ∧ Below w.heap.size w w' := by
  have hrl : r.length + 1 = m := by rw [← hl, hxr]; rfl
  have HK1 : Hid (decide (32 < (m : Int)) = false) := decide_eq_false (by omega)
  have HK2 : Hid (decide ((m : Int) = 0) = false) := decide_eq_false (by omega)
  have HN1 : Hid (nextT l id lev = stepL x r id (lvN lev)) := by show _ = _; rw [hxr]; exact next_some (by omega)
  have HN2 : Hid (nextT l id 31 = stepL x r id 31) := by show _ = _; rw [hxr]; exact next_some (by omega)
  have HX : Hid (isId x) := hI x (by rw [hxr]; exact List.mem_cons_self ..)
  have HD := Lib.hid hid
  have HL := Lib.hid (And.intro hl (And.intro hmc hcm))
  have HIA := Lib.hid (And.intro hI hA)
  have HXR := Lib.hid hxr
  have HLV := Lib.hid hlev
  have HRL := Lib.hid hrl
  have hm0 : 0 < m := by omega
  unfold I64 at hn
  subst n1
  have C14 : Hid (decide ((1 : Int) ≤ (j : Int)) = true) := decide_eq_true (by omega)
  have C17 : Hid (decide ((j : Int) < 32) = true) := decide_eq_true (by omega)
  have HJ : Hid (1 ≤ j ∧ j < 32) := ⟨n2, n3⟩
  clear n2 n3
  clear hl hI hid hA hlev hxr hrl hmc hcm
  have E0 : Hid (EnvX w (w.alloc (.cells (arrB 32 id) 24)) [(w.heap.size, Obj.cells (arrB 32 id) 24 (0, 0))]) := (EnvX.start w).new _
  have HAW := Lib.hid (lawake_any T K (w.alloc (.cells (arrB 32 id) 24)) (ht.below (EnvX.bel E0.out)))
  have HT := Lib.hid ht
  have HTR := Lib.hid T
  have HK := Lib.hid K
  clear ht T K
  unfold idv
  go_enter Tryd.func8, Tryd.ntmps8
  go_upto_region 1 with (fail)
  generalize (w.alloc (.cells (arrB 32 id) 24)) = W at *
  go_wp2_with fail
  refine HAW.out.mono ?_
  rintro e w1 ⟨rfl, hb1⟩
  have HB1 := Lib.hid (EnvX.below E0.out hb1).bel
  have E1 : Hid (EnvX w1 w1 [(w.heap.size, Obj.cells (arrB 32 id) 24 (0, 0))]) := ⟨Below.refl _ _, (EnvX.below E0.out hb1).box⟩
  have HT1 := Lib.hid (HT.out.below HB1.out)
  clear hb1 E0 HAW
  go_upto_region 2 with (fail)
  refine wp_region_Hx (w0 := w1) [0, 1, 2, 3, 4, 5, 6, 7, 8, 9, 10, 11] [(w.heap.size, Obj.cells (arrB 32 id) 24 (0, 0))] rfl E1.out ?_
  refine lexH_phase [0, 1, 2, 3, 4, 5, 6, 7, 8, 9, 10, 11] [] ?_
  have hw701 : EnvX w1 _ [(w.heap.size, Obj.cells (arrB 32 id) 24 (0, 0))] := E1.out
  have hone := @EnvC.one _ _ _ hw701
  (refine wpG_op rfl rfl rfl ?_; intro K hK; go_big_quiet_op; go_big_quiet_on)
  (refine wpG_op rfl rfl rfl ?_; intro K hK; go_big_quiet_op; go_big_quiet_on)
  (refine wpG_op rfl rfl rfl ?_; intro K hK; go_big_quiet_op; go_big_quiet_on)
  (refine wpG_op rfl rfl rfl ?_; intro K hK; go_big_quiet_op; go_big_quiet_on)
  (refine wpG_val (v := .int .i64 (m : Int)) rfl rfl (fun u hu => lenI_op u rfl) ?_ hw701; intro K hK; go_big_quiet_op; go_big_quiet_on)
  (refine wpG_val (v := .bool false) rfl rfl (fun u hu => gtZ_op u HK1.out rfl rfl) ?_ hw701; intro K hK; go_big_quiet_op; go_big_quiet_on)
  (refine wpG_op rfl rfl rfl ?_; intro K hK; go_big_quiet_op; go_big_quiet_on)
  (refine wpG_op rfl rfl rfl ?_; intro K hK; go_big_quiet_op; go_big_quiet_on)
  (refine wpG_op rfl rfl rfl ?_; intro K hK; go_big_quiet_op; go_big_quiet_on)
  (refine wpG_val (v := .int .i64 (m : Int)) rfl rfl (fun u hu => lenI_op u rfl) ?_ hw701; intro K hK; go_big_quiet_op; go_big_quiet_on)
  (refine wpG_val (v := .bool false) rfl rfl (fun u hu => eqlI_op u HK2.out rfl rfl) ?_ hw701; intro K hK; go_big_quiet_op; go_big_quiet_on)
  (refine wpG_op rfl rfl rfl ?_; intro K hK; go_big_quiet_op; go_big_quiet_on)
  clear hone hw701
  refine wpG_nil ?_
  intro u703 E2'
  have EX702 := Lib.hid E2'
  clear E2'
  have HB1 := Lib.hid (HB1.out.trans ((EnvX.bel EX702.out).mono HB1.out.size))
  have HT1 := Lib.hid (HT1.out.below (EnvX.bel EX702.out))
  have E1 : Hid (EnvX u703 u703 [(w.heap.size, Obj.cells (arrB 32 id) 24 (0, 0))]) := ⟨Below.refl _ _, EX702.out.box⟩
  clear EX702
  have HLD : Hid ((loadVar 24 ⟨w.heap.size, 0, none⟩).run Tryd.prog u703 = .ok (idv id) u703) := box_load E1.out (List.Mem.head _) HD.out.1
  have HC1 : Hid (Calls Tryd.prog 11 #[.slice A m c, idv id, .int .i64 lev] u703 fun e w' => (∃ v, e = .returned v ∧ OwnI w' u703.heap.size v (stepL x r id (lvN lev))) ∧ Below u703.heap.size u703 w') := by
    have h := HK.out.next l id lev A m c u703 HL.out.1 (by omega) HL.out.2.1 HL.out.2.2 HIA.out.1 HD.out HLV.out (HIA.out.2.up HB1.out) HT1.out
    rwa [HN1.out] at h
  go_upto_region 4 with (fail)
  go_wp2_with ((with_reducible refine wpList_load_run (o := ⟨some 28, _, _, _, _, _⟩) ?_ 24 (.tmp 5) ?_ ⟨w.heap.size, 0, none⟩ ?_ HLD.out ?_); (rfl); (rfl); (rfl))
  refine HC1.out.mono ?_
  rintro e w2 ⟨⟨va, rfl, hva⟩, hb2⟩
  have HB2 := Lib.hid (HB1.out.trans (hb2.mono HB1.out.size))
  have E2 : Hid (EnvX w2 w2 [(w.heap.size, Obj.cells (arrB 32 id) 24 (0, 0))]) := ⟨Below.refl _ _, (EnvX.below E1.out hb2).box⟩
  obtain ⟨Aa, ca, rfl, ha1, ha2⟩ := hva.form
  have HA2 := Lib.hid hva.ids
  clear hva hb2 HLD HC1 E1 ha1 ha2
  have HLD : Hid ((loadVar 24 ⟨w.heap.size, 0, none⟩).run Tryd.prog w2 = .ok (idv id) w2) := box_load E2.out (List.Mem.head _) HD.out.1
  have HC1 : Hid (Calls Tryd.prog 11 #[.slice A m c, idv id, .int .i64 31] w2 fun e w' => (∃ v, e = .returned v ∧ OwnI w' w2.heap.size v (stepL x r id 31)) ∧ Below w2.heap.size w2 w') := by
    have h := HK.out.next l id 31 A m c w2 HL.out.1 (by omega) HL.out.2.1 HL.out.2.2 HIA.out.1 HD.out ⟨by omega, by omega⟩ (HIA.out.2.up HB2.out) (HT.out.below HB2.out)
    rwa [HN2.out] at h
  go_upto_region 5 with (fail)
  go_wp2_with ((with_reducible refine wpList_load_run (o := ⟨some 32, _, _, _, _, _⟩) ?_ 24 (.tmp 5) ?_ ⟨w.heap.size, 0, none⟩ ?_ HLD.out ?_); (rfl); (rfl); (rfl))
  refine HC1.out.mono ?_
  rintro e w3 ⟨⟨vb, rfl, hvb⟩, hb3⟩
  have HB3 := Lib.hid (HB2.out.trans (hb3.mono HB2.out.size))
  have E3 : Hid (EnvX w3 w3 [(w.heap.size, Obj.cells (arrB 32 id) 24 (0, 0))]) := ⟨Below.refl _ _, (EnvX.below E2.out hb3).box⟩
  have hlb : (stepL x r id 31).length = 32 := by rw [step_len]; have := HRL.out; omega
  obtain ⟨Ab, cb, rfl, -, -⟩ := hvb.form
  have HBB := Lib.hid hvb.ids
  have HAA := Lib.hid (HA2.out.up hb3)
  have hids1 : isIds (stepL x r id 31) := step_ids (by rw [← HXR.out]; exact HIA.out.1) HD.out
  have hids0 : isIds (stepL x r id (lvN lev)) := step_ids (by rw [← HXR.out]; exact HIA.out.1) HD.out
  have HL3 := Lib.hid (HIA.out.2.up HB3.out)
  obtain ⟨ab, rfl, -⟩ := HBB.out.load hids1 (i := 0) (by omega)
  obtain ⟨al, rfl, -⟩ := HL3.out.load HIA.out.1 (i := 0) (by rw [HL.out.1]; omega)
  have HLB : Hid (∀ k, k < 32 → ∀ u, EnvX w3 u [] → (loadVar 24 (ab.add (k * 32))).run Tryd.prog u = .ok (idv ((stepL x r id 31).getD k [])) u) := fun k hk u hu => by
    obtain ⟨a2, e, h⟩ := (HBB.out.up (EnvX.bel hu)).load hids1 (i := k) (by omega)
    cases e
    exact h
  have HLL : Hid (∀ k, k < m → ∀ u, EnvX w3 u [] → (loadVar 24 (al.add (k * 32))).run Tryd.prog u = .ok (idv (l.getD k [])) u) := fun k hk u hu => by
    obtain ⟨a2, e, h⟩ := (HL3.out.up (EnvX.bel hu)).load HIA.out.1 (i := k) (by rw [HL.out.1]; exact hk)
    cases e
    exact h
  have HLI : Hid (∀ u, EnvX w3 u [] → (loadVar 24 ⟨w.heap.size, 0, none⟩).run Tryd.prog u = .ok (idv id) u) := fun u hu => box_load (EnvX.comb E3.out hu) (List.mem_append_right [] (List.Mem.head _)) HD.out.1
  have HL0 : Hid (l.getD 0 [] = x) := by show _ = _; rw [HXR.out]; rfl
  have EU : Hid (EnvX w3 w3 []) := EnvX.start _
  have HM0 : Hid (0 < m) := by show _ < _; omega
  have H32 : Hid (decide (((32 : Nat) : Int) ≠ 32) = false) := Lib.hid (by decide : decide (((32 : Nat) : Int) ≠ 32) = false)
  rw [hlb]
  clear hvb hb3 HLD HC1 E2 E3 HA2 hlb HT HT1 HB2
  go_upto_region 6 with (fail)
  refine wp_region_H (w0 := w3) [] (by kernel_rfl) EU.out ?_
  refine anyH_phaseN [0, 1, 2, 3, 4, 5, 6, 7, 8, 9, 10, 11, 12, 13, 14, 15, 16, 17, 18, 19, 20, 21, 22, 23, 24, 25, 26, 27] 0 rfl (by kernel_rfl) ?_
  have hw1 : EnvX w3 _ [] := EnvX.sub (EnvX.drew EU.out) (fun _ h => by cases h)
  have hone := @EnvC.one _ _ _ hw1
  (refine wpG_op rfl rfl rfl ?_; intro K hK; go_big_quiet_op; go_big_quiet_on)
  (refine wpG_val (v := .int .i64 ((32 : Nat) : Int)) rfl rfl (fun u hu => lenI_op (n := 32) u rfl) ?_ hw1; intro K hK; go_big_quiet_op; go_big_quiet_on)
  (refine wpG_val (v := .bool false) rfl rfl (fun u hu => neZ_op u H32.out rfl rfl) ?_ hw1; intro K hK; go_big_quiet_op; go_big_quiet_on)
  (refine wpG_op rfl rfl rfl ?_; intro K hK; go_big_quiet_op; go_big_quiet_on)
  (refine wpG_op rfl rfl rfl ?_; intro K hK; go_big_quiet_op; go_big_quiet_on)
  (refine wpG_val (v := .pointer (some (ab.add (0 * 32)))) rfl rfl (fun u hu => idxSl_op (i := 0) Tryd.underlying22 aggIdT.size (by decide) u rfl rfl) ?_ hw1; intro K hK; go_big_quiet_op; go_big_quiet_on)
  (refine wpG_val (v := idv x) rfl rfl (fun u hu => load_any_op u (HLB.out 0 (by decide) u (EnvX.sub hu (fun _ h => by cases h))) rfl) ?_ hw1; intro K hK; go_big_quiet_op; go_big_quiet_on)
  (refine wpG_op rfl rfl rfl ?_; intro K hK; go_big_quiet_op; go_big_quiet_on)
  (refine wpG_val (v := .pointer (some (al.add (0 * 32)))) rfl rfl (fun u hu => idxSl_op (i := 0) Tryd.underlying22 aggIdT.size HM0.out u rfl rfl) ?_ hw1; intro K hK; go_big_quiet_op; go_big_quiet_on)
  (refine wpG_val (v := idv x) rfl rfl (fun u hu => load_any_op u (by have h := HLL.out 0 HM0.out u (EnvX.sub hu (fun _ h => by cases h)); rw [HL0.out] at h; exact h) rfl) ?_ hw1; intro K hK; go_big_quiet_op; go_big_quiet_on)
  (refine wpG_val (v := .bool false) rfl rfl (fun u hu => neqb_op HX.out.1 HX.out.1 (by simp [eqL]) u rfl rfl) ?_ hw1; intro K hK; go_big_quiet_op; go_big_quiet_on)
  (refine wpG_op rfl rfl rfl ?_; intro K hK; go_big_quiet_op; go_big_quiet_on)
  (refine wpG_op rfl rfl rfl ?_; intro K hK; go_big_quiet_op; go_big_quiet_on)
  (refine wpG_op rfl rfl rfl ?_; intro K hK; go_big_quiet_op; go_big_quiet_on)
  (refine wpG_val (v := .bool true) rfl rfl (fun u hu => geq_op u C14.out rfl rfl) ?_ hw1; intro K hK; go_big_quiet_op; go_big_quiet_on)
  (refine wpG_op rfl rfl rfl ?_; intro K hK; go_big_quiet_op; go_big_quiet_on)
  (refine wpG_op rfl rfl rfl ?_; intro K hK; go_big_quiet_op; go_big_quiet_on)
  (refine wpG_val (v := .bool true) rfl rfl (fun u hu => ltZ_op u C17.out rfl rfl) ?_ hw1; intro K hK; go_big_quiet_op; go_big_quiet_on)
  (refine wpG_op rfl rfl rfl ?_; intro K hK; go_big_quiet_op; go_big_quiet_on)
  (refine wpG_op rfl rfl rfl ?_; intro K hK; go_big_quiet_op; go_big_quiet_on)
  (refine wpG_op rfl rfl rfl ?_; intro K hK; go_big_quiet_op; go_big_quiet_on)
  (refine wpG_op rfl rfl rfl ?_; intro K hK; go_big_quiet_op; go_big_quiet_on)
  (refine wpG_val (v := .pointer (some (ab.add (j * 32)))) rfl rfl (fun u hu => idxSl_op Tryd.underlying22 aggIdT.size HJ.out.2 u rfl rfl) ?_ hw1; intro K hK; go_big_quiet_op; go_big_quiet_on)
  (refine wpG_val (v := idv id) rfl rfl (fun u hu => load_any_op u (by have h := HLB.out j HJ.out.2 u (EnvX.sub hu (fun _ h => by cases h)); rw [step_get HJ.out.1 (by have := HJ.out.2; omega)] at h; exact h) rfl) ?_ hw1; intro K hK; go_big_quiet_op; go_big_quiet_on)
  (refine wpG_val (v := idv id) rfl rfl (fun u hu => load_any_op u (HLI.out u (EnvX.sub hu (fun _ h => by cases h))) rfl) ?_ hw1; intro K hK; go_big_quiet_op; go_big_quiet_on)
  (refine wpG_val (v := .bool false) rfl rfl (fun u hu => neqb_op HD.out.1 HD.out.1 (by simp [eqL]) u rfl rfl) ?_ hw1; intro K hK; go_big_quiet_op; go_big_quiet_on)
  (refine wpG_op rfl rfl rfl ?_; intro K hK; go_big_quiet_op; go_big_quiet_on)
  (refine wpG_op rfl rfl rfl ?_; intro K hK; go_big_quiet_op; go_big_quiet_on)
  clear hone hw1
  refine wpG_nil ?_
  refine anyH_done (by kernel_rfl) ?_
  intro u3 E2'
  have EX2 := Lib.hid E2'
  clear E2'
  by_cases hlv : lev > 0
  · have HBE := Lib.hid (HB3.out.trans ((EnvX.bel EX2.out).mono HB3.out.size))
    go_wp2
    go_ret
    exact ⟨rfl, HBE.out⟩
  · have h0 : lvN lev = 0 := lvN_low (by omega)
    rw [h0, step_zero, ← HXR.out] at HAA hids0
    have hla : (stepL x r id (lvN lev)).length = m := by rw [h0, step_zero, ← HXR.out]; exact HL.out.1
    rw [hla]
    obtain ⟨aa, rfl, -⟩ := HAA.out.load hids0 (i := 0) (by rw [HL.out.1]; omega)
    have HLA : Hid (∀ k, k < m → ∀ u, EnvX w3 u [] → (loadVar 24 (aa.add (k * 32))).run Tryd.prog u = .ok (idv (l.getD k [])) u) := fun k hk u hu => by
      obtain ⟨a2, e, h⟩ := (HAA.out.up (EnvX.bel hu)).load hids0 (i := k) (by rw [HL.out.1]; exact hk)
      cases e
      exact h
    have EL : Hid (EnvX w3 u3 []) := EX2.out
    clear h0 hla
    go_upto_region 11 with (fail)
    go_loopw [12] (fun iv u => ∃ k : Nat, k ≤ m ∧ iv = .int .i64 (k : Int) ∧ Hid (EnvX w3 u [])) (fun iv _ => m - (intOf iv).toNat)
    case atStart => exact ⟨0, by omega, rfl, EL⟩
    case round =>
      obtain ⟨k, hk, rfl, EK⟩ := hrel
      clear EL EX2
      by_cases hlt : k < m
      · have hlt2 : (k : Int) < (m : Int) := by omega
        have HKM := Lib.hid hlt
        have HY := Lib.hid (HIA.out.1.get (i := k) (by rw [HL.out.1]; exact hlt))
        have HKA := Lib.hid (HLA.out k hlt)
        have HKL := Lib.hid (HLL.out k hlt)
        have HMM : Hid (decide ((m : Int) ≠ (m : Int)) = false) := decide_eq_false (fun h => h rfl)
        generalize l.getD k [] = y at *
        go_upto_region 13 with (fail)
        refine wp_region_H (w0 := w3) [] (by kernel_rfl) EK.out ?_
        refine anyH_phaseN [0, 1, 2, 3, 4, 5, 6, 7, 8, 9, 10, 11, 12, 13, 14, 15] 0 rfl (by kernel_rfl) ?_
        have hw101 : EnvX w3 _ [] := EnvX.sub (EnvX.drew EK.out) (fun _ h => by cases h)
        have hone := @EnvC.one _ _ _ hw101
        (refine wpG_op rfl rfl rfl ?_; intro K hK; go_big_quiet_op; go_big_quiet_on)
        (refine wpG_val (v := .int .i64 (m : Int)) rfl rfl (fun u hu => lenI_op u rfl) ?_ hw101; intro K hK; go_big_quiet_op; go_big_quiet_on)
        (refine wpG_op rfl rfl rfl ?_; intro K hK; go_big_quiet_op; go_big_quiet_on)
        (refine wpG_val (v := .int .i64 (m : Int)) rfl rfl (fun u hu => lenI_op u rfl) ?_ hw101; intro K hK; go_big_quiet_op; go_big_quiet_on)
        (refine wpG_val (v := .bool false) rfl rfl (fun u hu => neZ_op u HMM.out rfl rfl) ?_ hw101; intro K hK; go_big_quiet_op; go_big_quiet_on)
        (refine wpG_op rfl rfl rfl ?_; intro K hK; go_big_quiet_op; go_big_quiet_on)
        (refine wpG_op rfl rfl rfl ?_; intro K hK; go_big_quiet_op; go_big_quiet_on)
        (refine wpG_op rfl rfl rfl ?_; intro K hK; go_big_quiet_op; go_big_quiet_on)
        (refine wpG_val (v := .pointer (some (aa.add (k * 32)))) rfl rfl (fun u hu => idxSl_op Tryd.underlying22 aggIdT.size HKM.out u rfl rfl) ?_ hw101; intro K hK; go_big_quiet_op; go_big_quiet_on)
        (refine wpG_val (v := idv y) rfl rfl (fun u hu => load_any_op u (HKA.out u (EnvX.sub hu (fun _ h => by cases h))) rfl) ?_ hw101; intro K hK; go_big_quiet_op; go_big_quiet_on)
        (refine wpG_op rfl rfl rfl ?_; intro K hK; go_big_quiet_op; go_big_quiet_on)
        (refine wpG_op rfl rfl rfl ?_; intro K hK; go_big_quiet_op; go_big_quiet_on)
        (refine wpG_val (v := .pointer (some (al.add (k * 32)))) rfl rfl (fun u hu => idxSl_op Tryd.underlying22 aggIdT.size HKM.out u rfl rfl) ?_ hw101; intro K hK; go_big_quiet_op; go_big_quiet_on)
        (refine wpG_val (v := idv y) rfl rfl (fun u hu => load_any_op u (HKL.out u (EnvX.sub hu (fun _ h => by cases h))) rfl) ?_ hw101; intro K hK; go_big_quiet_op; go_big_quiet_on)
        (refine wpG_val (v := .bool false) rfl rfl (fun u hu => neqb_op HY.out.1 HY.out.1 (by simp [eqL]) u rfl rfl) ?_ hw101; intro K hK; go_big_quiet_op; go_big_quiet_on)
        (refine wpG_op rfl rfl rfl ?_; intro K hK; go_big_quiet_op; go_big_quiet_on)
        clear hone hw101
        refine wpG_nil ?_
        refine anyH_done (by kernel_rfl) ?_
        intro u103 E2'
        have EX102 := Lib.hid E2'
        clear E2'
        go_wp2
        go_roundw
        case rel => exact ⟨k + 1, by omega, by go_num, EX102.out⟩
        case measure => simp [intOf]; omega
      · obtain rfl : k = m := by omega
        have hge : ¬ (k : Int) < (k : Int) := by omega
        have HBE := Lib.hid (HB3.out.trans ((EnvX.bel EK.out).mono HB3.out.size))
        go_wp2
        go_ret
        exact ⟨rfl, HBE.out⟩
set_option maxRecDepth 20000 in
set_option maxHeartbeats 8000000 in
theorem law_low_c (T : TreeC) (K : LinkC) (l : List (List Int)) (id : List Int) (lev n : Int) (A : Option Addr) (m c : Nat) (w : World) (hl : l.length = m) (hmc : m ≤ c) (hcm : c ≤ maxLen) (hI : isIds l) (hid : isId id) (hlev : I64 lev) (hn : I64 n) (hA : IdsIn w w.heap.size A l) (ht : Tables w) (x : List Int) (r : List (List Int)) (hxr : l = x :: r) (h32 : m ≤ 32) (n1 : 32 ≤ n) :
    Calls Tryd.prog 8 #[.slice A m c, idv id, .int .i64 lev, .int .i64 n] w fun e w' => e = .returned (.bool true) ∧ Below w.heap.size w w' := by
  have hrl : r.length + 1 = m := by rw [← hl, hxr]; rfl
  have HK1 : Hid (decide (32 < (m : Int)) = false) := decide_eq_false (by omega)
  have HK2 : Hid (decide ((m : Int) = 0) = false) := decide_eq_false (by omega)
  have HN1 : Hid (nextT l id lev = stepL x r id (lvN lev)) := by show _ = _; rw [hxr]; exact next_some (by omega)
  have HN2 : Hid (nextT l id 31 = stepL x r id 31) := by show _ = _; rw [hxr]; exact next_some (by omega)
  have HX : Hid (isId x) := hI x (by rw [hxr]; exact List.mem_cons_self ..)
  have HD := Lib.hid hid
  have HL := Lib.hid (And.intro hl (And.intro hmc hcm))
  have HIA := Lib.hid (And.intro hI hA)
  have HXR := Lib.hid hxr
  have HLV := Lib.hid hlev
  have HRL := Lib.hid hrl
  have hm0 : 0 < m := by omega
  unfold I64 at hn
  have C14 : Hid (decide (1 ≤ n) = true) := decide_eq_true (by omega)
  have C17 : Hid (decide (n < 32) = false) := decide_eq_false (by omega)
  clear n1
  clear hl hI hid hA hlev hxr hrl hmc hcm
  have E0 : Hid (EnvX w (w.alloc (.cells (arrB 32 id) 24)) [(w.heap.size, Obj.cells (arrB 32 id) 24 (0, 0))]) := (EnvX.start w).new _
  have HAW := Lib.hid (lawake_any T K (w.alloc (.cells (arrB 32 id) 24)) (ht.below (EnvX.bel E0.out)))
  have HT := Lib.hid ht
  have HTR := Lib.hid T
  have HK := Lib.hid K
  clear ht T K
  unfold idv
  go_enter Tryd.func8, Tryd.ntmps8
  go_upto_region 1 with (fail)
  generalize (w.alloc (.cells (arrB 32 id) 24)) = W at *
  go_wp2_with fail
  refine HAW.out.mono ?_
  rintro e w1 ⟨rfl, hb1⟩
  have HB1 := Lib.hid (EnvX.below E0.out hb1).bel
  have E1 : Hid (EnvX w1 w1 [(w.heap.size, Obj.cells (arrB 32 id) 24 (0, 0))]) := ⟨Below.refl _ _, (EnvX.below E0.out hb1).box⟩
  have HT1 := Lib.hid (HT.out.below HB1.out)
  clear hb1 E0 HAW
  go_upto_region 2 with (fail)
  refine wp_region_Hx (w0 := w1) [0, 1, 2, 3, 4, 5, 6, 7, 8, 9, 10, 11] [(w.heap.size, Obj.cells (arrB 32 id) 24 (0, 0))] rfl E1.out ?_
  refine lexH_phase [0, 1, 2, 3, 4, 5, 6, 7, 8, 9, 10, 11] [] ?_
  have hw701 : EnvX w1 _ [(w.heap.size, Obj.cells (arrB 32 id) 24 (0, 0))] := E1.out
  have hone := @EnvC.one _ _ _ hw701
  (refine wpG_op rfl rfl rfl ?_; intro K hK; go_big_quiet_op; go_big_quiet_on)
  (refine wpG_op rfl rfl rfl ?_; intro K hK; go_big_quiet_op; go_big_quiet_on)
  (refine wpG_op rfl rfl rfl ?_; intro K hK; go_big_quiet_op; go_big_quiet_on)
  (refine wpG_op rfl rfl rfl ?_; intro K hK; go_big_quiet_op; go_big_quiet_on)
  (refine wpG_val (v := .int .i64 (m : Int)) rfl rfl (fun u hu => lenI_op u rfl) ?_ hw701; intro K hK; go_big_quiet_op; go_big_quiet_on)
  (refine wpG_val (v := .bool false) rfl rfl (fun u hu => gtZ_op u HK1.out rfl rfl) ?_ hw701; intro K hK; go_big_quiet_op; go_big_quiet_on)
  (refine wpG_op rfl rfl rfl ?_; intro K hK; go_big_quiet_op; go_big_quiet_on)
  (refine wpG_op rfl rfl rfl ?_; intro K hK; go_big_quiet_op; go_big_quiet_on)
  (refine wpG_op rfl rfl rfl ?_; intro K hK; go_big_quiet_op; go_big_quiet_on)
  (refine wpG_val (v := .int .i64 (m : Int)) rfl rfl (fun u hu => lenI_op u rfl) ?_ hw701; intro K hK; go_big_quiet_op; go_big_quiet_on)
  (refine wpG_val (v := .bool false) rfl rfl (fun u hu => eqlI_op u HK2.out rfl rfl) ?_ hw701; intro K hK; go_big_quiet_op; go_big_quiet_on)
  (refine wpG_op rfl rfl rfl ?_; intro K hK; go_big_quiet_op; go_big_quiet_on)
  clear hone hw701
  refine wpG_nil ?_
  intro u703 E2'
  have EX702 := Lib.hid E2'
  clear E2'
  have HB1 := Lib.hid (HB1.out.trans ((EnvX.bel EX702.out).mono HB1.out.size))
  have HT1 := Lib.hid (HT1.out.below (EnvX.bel EX702.out))
  have E1 : Hid (EnvX u703 u703 [(w.heap.size, Obj.cells (arrB 32 id) 24 (0, 0))]) := ⟨Below.refl _ _, EX702.out.box⟩
  clear EX702
  have HLD : Hid ((loadVar 24 ⟨w.heap.size, 0, none⟩).run Tryd.prog u703 = .ok (idv id) u703) := box_load E1.out (List.Mem.head _) HD.out.1
  have HC1 : Hid (Calls Tryd.prog 11 #[.slice A m c, idv id, .int .i64 lev] u703 fun e w' => (∃ v, e = .returned v ∧ OwnI w' u703.heap.size v (stepL x r id (lvN lev))) ∧ Below u703.heap.size u703 w') := by
    have h := HK.out.next l id lev A m c u703 HL.out.1 (by omega) HL.out.2.1 HL.out.2.2 HIA.out.1 HD.out HLV.out (HIA.out.2.up HB1.out) HT1.out
    rwa [HN1.out] at h
  go_upto_region 4 with (fail)
  go_wp2_with ((with_reducible refine wpList_load_run (o := ⟨some 28, _, _, _, _, _⟩) ?_ 24 (.tmp 5) ?_ ⟨w.heap.size, 0, none⟩ ?_ HLD.out ?_); (rfl); (rfl); (rfl))
  refine HC1.out.mono ?_
  rintro e w2 ⟨⟨va, rfl, hva⟩, hb2⟩
  have HB2 := Lib.hid (HB1.out.trans (hb2.mono HB1.out.size))
  have E2 : Hid (EnvX w2 w2 [(w.heap.size, Obj.cells (arrB 32 id) 24 (0, 0))]) := ⟨Below.refl _ _, (EnvX.below E1.out hb2).box⟩
  obtain ⟨Aa, ca, rfl, ha1, ha2⟩ := hva.form
  have HA2 := Lib.hid hva.ids
  clear hva hb2 HLD HC1 E1 ha1 ha2
  have HLD : Hid ((loadVar 24 ⟨w.heap.size, 0, none⟩).run Tryd.prog w2 = .ok (idv id) w2) := box_load E2.out (List.Mem.head _) HD.out.1
  have HC1 : Hid (Calls Tryd.prog 11 #[.slice A m c, idv id, .int .i64 31] w2 fun e w' => (∃ v, e = .returned v ∧ OwnI w' w2.heap.size v (stepL x r id 31)) ∧ Below w2.heap.size w2 w') := by
    have h := HK.out.next l id 31 A m c w2 HL.out.1 (by omega) HL.out.2.1 HL.out.2.2 HIA.out.1 HD.out ⟨by omega, by omega⟩ (HIA.out.2.up HB2.out) (HT.out.below HB2.out)
    rwa [HN2.out] at h
  go_upto_region 5 with (fail)
  go_wp2_with ((with_reducible refine wpList_load_run (o := ⟨some 32, _, _, _, _, _⟩) ?_ 24 (.tmp 5) ?_ ⟨w.heap.size, 0, none⟩ ?_ HLD.out ?_); (rfl); (rfl); (rfl))
  refine HC1.out.mono ?_
  rintro e w3 ⟨⟨vb, rfl, hvb⟩, hb3⟩
  have HB3 := Lib.hid (HB2.out.trans (hb3.mono HB2.out.size))
  have E3 : Hid (EnvX w3 w3 [(w.heap.size, Obj.cells (arrB 32 id) 24 (0, 0))]) := ⟨Below.refl _ _, (EnvX.below E2.out hb3).box⟩
  have hlb : (stepL x r id 31).length = 32 := by rw [step_len]; have := HRL.out; omega
  obtain ⟨Ab, cb, rfl, -, -⟩ := hvb.form
  have HBB := Lib.hid hvb.ids
  have HAA := Lib.hid (HA2.out.up hb3)
  have hids1 : isIds (stepL x r id 31) := step_ids (by rw [← HXR.out]; exact HIA.out.1) HD.out
  have hids0 : isIds (stepL x r id (lvN lev)) := step_ids (by rw [← HXR.out]; exact HIA.out.1) HD.out
  have HL3 := Lib.hid (HIA.out.2.up HB3.out)
  obtain ⟨ab, rfl, -⟩ := HBB.out.load hids1 (i := 0) (by omega)
  obtain ⟨al, rfl, -⟩ := HL3.out.load HIA.out.1 (i := 0) (by rw [HL.out.1]; omega)
  have HLB : Hid (∀ k, k < 32 → ∀ u, EnvX w3 u [] → (loadVar 24 (ab.add (k * 32))).run Tryd.prog u = .ok (idv ((stepL x r id 31).getD k [])) u) := fun k hk u hu => by
    obtain ⟨a2, e, h⟩ := (HBB.out.up (EnvX.bel hu)).load hids1 (i := k) (by omega)
    cases e
    exact h
  have HLL : Hid (∀ k, k < m → ∀ u, EnvX w3 u [] → (loadVar 24 (al.add (k * 32))).run Tryd.prog u = .ok (idv (l.getD k [])) u) := fun k hk u hu => by
    obtain ⟨a2, e, h⟩ := (HL3.out.up (EnvX.bel hu)).load HIA.out.1 (i := k) (by rw [HL.out.1]; exact hk)
    cases e
    exact h
  have HLI : Hid (∀ u, EnvX w3 u [] → (loadVar 24 ⟨w.heap.size, 0, none⟩).run Tryd.prog u = .ok (idv id) u) := fun u hu => box_load (EnvX.comb E3.out hu) (List.mem_append_right [] (List.Mem.head _)) HD.out.1
  have HL0 : Hid (l.getD 0 [] = x) := by show _ = _; rw [HXR.out]; rfl
  have EU : Hid (EnvX w3 w3 []) := EnvX.start _
  have HM0 : Hid (0 < m) := by show _ < _; omega
  have H32 : Hid (decide (((32 : Nat) : Int) ≠ 32) = false) := Lib.hid (by decide : decide (((32 : Nat) : Int) ≠ 32) = false)
  rw [hlb]
  clear hvb hb3 HLD HC1 E2 E3 HA2 hlb HT HT1 HB2
  go_upto_region 6 with (fail)
  refine wp_region_H (w0 := w3) [] (by kernel_rfl) EU.out ?_
  refine anyH_phaseN [0, 1, 2, 3, 4, 5, 6, 7, 8, 9, 10, 11, 12, 13, 14, 15, 16, 17, 18, 19, 20, 21, 22, 23, 24, 25, 26, 27] 0 rfl (by kernel_rfl) ?_
  have hw1 : EnvX w3 _ [] := EnvX.sub (EnvX.drew EU.out) (fun _ h => by cases h)
  have hone := @EnvC.one _ _ _ hw1
  (refine wpG_op rfl rfl rfl ?_; intro K hK; go_big_quiet_op; go_big_quiet_on)
  (refine wpG_val (v := .int .i64 ((32 : Nat) : Int)) rfl rfl (fun u hu => lenI_op (n := 32) u rfl) ?_ hw1; intro K hK; go_big_quiet_op; go_big_quiet_on)
  (refine wpG_val (v := .bool false) rfl rfl (fun u hu => neZ_op u H32.out rfl rfl) ?_ hw1; intro K hK; go_big_quiet_op; go_big_quiet_on)
  (refine wpG_op rfl rfl rfl ?_; intro K hK; go_big_quiet_op; go_big_quiet_on)
  (refine wpG_op rfl rfl rfl ?_; intro K hK; go_big_quiet_op; go_big_quiet_on)
  (refine wpG_val (v := .pointer (some (ab.add (0 * 32)))) rfl rfl (fun u hu => idxSl_op (i := 0) Tryd.underlying22 aggIdT.size (by decide) u rfl rfl) ?_ hw1; intro K hK; go_big_quiet_op; go_big_quiet_on)
  (refine wpG_val (v := idv x) rfl rfl (fun u hu => load_any_op u (HLB.out 0 (by decide) u (EnvX.sub hu (fun _ h => by cases h))) rfl) ?_ hw1; intro K hK; go_big_quiet_op; go_big_quiet_on)
  (refine wpG_op rfl rfl rfl ?_; intro K hK; go_big_quiet_op; go_big_quiet_on)
  (refine wpG_val (v := .pointer (some (al.add (0 * 32)))) rfl rfl (fun u hu => idxSl_op (i := 0) Tryd.underlying22 aggIdT.size HM0.out u rfl rfl) ?_ hw1; intro K hK; go_big_quiet_op; go_big_quiet_on)
  (refine wpG_val (v := idv x) rfl rfl (fun u hu => load_any_op u (by have h := HLL.out 0 HM0.out u (EnvX.sub hu (fun _ h => by cases h)); rw [HL0.out] at h; exact h) rfl) ?_ hw1; intro K hK; go_big_quiet_op; go_big_quiet_on)
  (refine wpG_val (v := .bool false) rfl rfl (fun u hu => neqb_op HX.out.1 HX.out.1 (by simp [eqL]) u rfl rfl) ?_ hw1; intro K hK; go_big_quiet_op; go_big_quiet_on)
  (refine wpG_op rfl rfl rfl ?_; intro K hK; go_big_quiet_op; go_big_quiet_on)
  (refine wpG_op rfl rfl rfl ?_; intro K hK; go_big_quiet_op; go_big_quiet_on)
  (refine wpG_op rfl rfl rfl ?_; intro K hK; go_big_quiet_op; go_big_quiet_on)
  (refine wpG_val (v := .bool true) rfl rfl (fun u hu => geq_op u C14.out rfl rfl) ?_ hw1; intro K hK; go_big_quiet_op; go_big_quiet_on)
  (refine wpG_op rfl rfl rfl ?_; intro K hK; go_big_quiet_op; go_big_quiet_on)
  (refine wpG_op rfl rfl rfl ?_; intro K hK; go_big_quiet_op; go_big_quiet_on)
  (refine wpG_val (v := .bool false) rfl rfl (fun u hu => ltZ_op u C17.out rfl rfl) ?_ hw1; intro K hK; go_big_quiet_op; go_big_quiet_on)
  (refine wpG_op rfl rfl rfl ?_; intro K hK; go_big_quiet_op; go_big_quiet_on)
  (refine wpG_op rfl rfl rfl ?_; intro K hK; go_big_quiet_op; go_big_quiet_on)
  (refine wpG_skip rfl rfl ?_ hw1; intro K hK; go_big_quiet_op; go_big_quiet_on)
  (refine wpG_skip rfl rfl ?_ hw1; intro K hK; go_big_quiet_op; go_big_quiet_on)
  (refine wpG_skip rfl rfl ?_ hw1; intro K hK; go_big_quiet_op; go_big_quiet_on)
  (refine wpG_skip rfl rfl ?_ hw1; intro K hK; go_big_quiet_op; go_big_quiet_on)
  (refine wpG_skip rfl rfl ?_ hw1; intro K hK; go_big_quiet_op; go_big_quiet_on)
  (refine wpG_skip rfl rfl ?_ hw1; intro K hK; go_big_quiet_op; go_big_quiet_on)
  (refine wpG_op rfl rfl rfl ?_; intro K hK; go_big_quiet_op; go_big_quiet_on)
  (refine wpG_op rfl rfl rfl ?_; intro K hK; go_big_quiet_op; go_big_quiet_on)
  clear hone hw1
  refine wpG_nil ?_
  refine anyH_done (by kernel_rfl) ?_
  intro u3 E2'
  have EX2 := Lib.hid E2'
  clear E2'
  by_cases hlv : lev > 0
  · have HBE := Lib.hid (HB3.out.trans ((EnvX.bel EX2.out).mono HB3.out.size))
    go_wp2
    go_ret
    exact ⟨rfl, HBE.out⟩
  · have h0 : lvN lev = 0 := lvN_low (by omega)
    rw [h0, step_zero, ← HXR.out] at HAA hids0
    have hla : (stepL x r id (lvN lev)).length = m := by rw [h0, step_zero, ← HXR.out]; exact HL.out.1
    rw [hla]
    obtain ⟨aa, rfl, -⟩ := HAA.out.load hids0 (i := 0) (by rw [HL.out.1]; omega)
    have HLA : Hid (∀ k, k < m → ∀ u, EnvX w3 u [] → (loadVar 24 (aa.add (k * 32))).run Tryd.prog u = .ok (idv (l.getD k [])) u) := fun k hk u hu => by
      obtain ⟨a2, e, h⟩ := (HAA.out.up (EnvX.bel hu)).load hids0 (i := k) (by rw [HL.out.1]; exact hk)
      cases e
      exact h
    have EL : Hid (EnvX w3 u3 []) := EX2.out
    clear h0 hla
    go_upto_region 11 with (fail)
    go_loopw [12] (fun iv u => ∃ k : Nat, k ≤ m ∧ iv = .int .i64 (k : Int) ∧ Hid (EnvX w3 u [])) (fun iv _ => m - (intOf iv).toNat)
    case atStart => exact ⟨0, by omega, rfl, EL⟩
    case round =>
      obtain ⟨k, hk, rfl, EK⟩ := hrel
      clear EL EX2
      by_cases hlt : k < m
      · have hlt2 : (k : Int) < (m : Int) := by omega
        have HKM := Lib.hid hlt
        have HY := Lib.hid (HIA.out.1.get (i := k) (by rw [HL.out.1]; exact hlt))
        have HKA := Lib.hid (HLA.out k hlt)
        have HKL := Lib.hid (HLL.out k hlt)
        have HMM : Hid (decide ((m : Int) ≠ (m : Int)) = false) := decide_eq_false (fun h => h rfl)
        generalize l.getD k [] = y at *
        go_upto_region 13 with (fail)
        refine wp_region_H (w0 := w3) [] (by kernel_rfl) EK.out ?_
        refine anyH_phaseN [0, 1, 2, 3, 4, 5, 6, 7, 8, 9, 10, 11, 12, 13, 14, 15] 0 rfl (by kernel_rfl) ?_
        have hw101 : EnvX w3 _ [] := EnvX.sub (EnvX.drew EK.out) (fun _ h => by cases h)
        have hone := @EnvC.one _ _ _ hw101
        (refine wpG_op rfl rfl rfl ?_; intro K hK; go_big_quiet_op; go_big_quiet_on)
        (refine wpG_val (v := .int .i64 (m : Int)) rfl rfl (fun u hu => lenI_op u rfl) ?_ hw101; intro K hK; go_big_quiet_op; go_big_quiet_on)
        (refine wpG_op rfl rfl rfl ?_; intro K hK; go_big_quiet_op; go_big_quiet_on)
        (refine wpG_val (v := .int .i64 (m : Int)) rfl rfl (fun u hu => lenI_op u rfl) ?_ hw101; intro K hK; go_big_quiet_op; go_big_quiet_on)
        (refine wpG_val (v := .bool false) rfl rfl (fun u hu => neZ_op u HMM.out rfl rfl) ?_ hw101; intro K hK; go_big_quiet_op; go_big_quiet_on)
        (refine wpG_op rfl rfl rfl ?_; intro K hK; go_big_quiet_op; go_big_quiet_on)
        (refine wpG_op rfl rfl rfl ?_; intro K hK; go_big_quiet_op; go_big_quiet_on)
        (refine wpG_op rfl rfl rfl ?_; intro K hK; go_big_quiet_op; go_big_quiet_on)
        (refine wpG_val (v := .pointer (some (aa.add (k * 32)))) rfl rfl (fun u hu => idxSl_op Tryd.underlying22 aggIdT.size HKM.out u rfl rfl) ?_ hw101; intro K hK; go_big_quiet_op; go_big_quiet_on)
        (refine wpG_val (v := idv y) rfl rfl (fun u hu => load_any_op u (HKA.out u (EnvX.sub hu (fun _ h => by cases h))) rfl) ?_ hw101; intro K hK; go_big_quiet_op; go_big_quiet_on)
        (refine wpG_op rfl rfl rfl ?_; intro K hK; go_big_quiet_op; go_big_quiet_on)
        (refine wpG_op rfl rfl rfl ?_; intro K hK; go_big_quiet_op; go_big_quiet_on)
        (refine wpG_val (v := .pointer (some (al.add (k * 32)))) rfl rfl (fun u hu => idxSl_op Tryd.underlying22 aggIdT.size HKM.out u rfl rfl) ?_ hw101; intro K hK; go_big_quiet_op; go_big_quiet_on)
        (refine wpG_val (v := idv y) rfl rfl (fun u hu => load_any_op u (HKL.out u (EnvX.sub hu (fun _ h => by cases h))) rfl) ?_ hw101; intro K hK; go_big_quiet_op; go_big_quiet_on)
        (refine wpG_val (v := .bool false) rfl rfl (fun u hu => neqb_op HY.out.1 HY.out.1 (by simp [eqL]) u rfl rfl) ?_ hw101; intro K hK; go_big_quiet_op; go_big_quiet_on)
        (refine wpG_op rfl rfl rfl ?_; intro K hK; go_big_quiet_op; go_big_quiet_on)
        clear hone hw101
        refine wpG_nil ?_
        refine anyH_done (by kernel_rfl) ?_
        intro u103 E2'
        have EX102 := Lib.hid E2'
        clear E2'
        go_wp2
        go_roundw
        case rel => exact ⟨k + 1, by omega, by go_num, EX102.out⟩
        case measure => simp [intOf]; omega
      · obtain rfl : k = m := by omega
        have hge : ¬ (k : Int) < (k : Int) := by omega
        have HBE := Lib.hid (HB3.out.trans ((EnvX.bel EK.out).mono HB3.out.size))
        go_wp2
        go_ret
        exact ⟨rfl, HBE.out⟩
theorem law_low (T : TreeC) (K : LinkC) (l : List (List Int)) (id : List Int) (lev n : Int) (A : Option Addr) (m c : Nat) (w : World) (hl : l.length = m) (hmc : m ≤ c) (hcm : c ≤ maxLen) (hI : isIds l) (hid : isId id) (hlev : I64 lev) (hn : I64 n) (hA : IdsIn w w.heap.size A l) (ht : Tables w) :
    Calls Tryd.prog 8 #[.slice A m c, idv id, .int .i64 lev, .int .i64 n] w fun e w' => e = .returned (.bool true) ∧ Below w.heap.size w w' := by
  by_cases k1 : 32 < m
  · exact law_low_many T K l id lev n A m c w hl hmc hcm hI hid hlev hn hA ht k1
  · match l, hl, hI, hA with
    | [], hl, hI, hA => exact law_low_none T K [] id lev n A m c w hl hmc hcm hI hid hlev hn hA ht hl.symm
    | x :: r, hl, hI, hA =>
      by_cases n1 : 1 ≤ n
      · by_cases n2 : n < 32
        · obtain ⟨j, rfl⟩ := Int.eq_ofNat_of_zero_le (by omega : 0 ≤ n)
          exact law_low_b T K (x :: r) id lev j A m c w hl hmc hcm hI hid hlev hn hA ht x r rfl (by omega) j rfl (by omega) (by omega)
        · exact law_low_c T K (x :: r) id lev n A m c w hl hmc hcm hI hid hlev hn hA ht x r rfl (by omega) (by omega)
      · exact law_low_a T K (x :: r) id lev n A m c w hl hmc hcm hI hid hlev hn hA ht x r rfl (by omega) n1
end Go.Proofs.YtbjojpgedcikiaaDoor

namespace Go.Proofs.YtbjojpgedcikiaaDoor.linkLow
set_option maxRecDepth 8000
open Go.ChangeShapes Go.WideShapes Go.ChangeAt Go.RowKit

theorem contract (H : Type) (enc : TypeId × Value → H) (W : World) (base : Nat) (args : Array Value) (ds gs : List (DataW H)) (before : List MemPlace)
    (hval : ∀ (j : Nat) t v, Tryd.f8.params[j]? = some t → args[j]? = some v → Value.okWide Tryd.prog W .any base t v)
    (hW : DataW.Whole enc Tryd.prog Tryd.f8.params.toList Rows.linkLowSpec.vars false W args.toList ds gs before) (hL : laidMetH Tryd.prog Rows.linkLowRow.laid W) :
    Calls Tryd.prog 8 args W fun e W' => ∃ v, e = .returned v ∧ Rows.linkLowSpec.post enc Tryd.prog Tryd.f8 false true false false W args v W' := by
  have hW' := hW
  obtain ⟨p, q, hA0, hV, rfl, hfz, hnd⟩ := hW
  have hA : DataW.TrodAll enc Tryd.prog W 0 (fun _ => true) true Tryd.f8.params.toList args.toList ds p := hA0
  rw [Tryd.params8] at hA hval
  obtain ⟨v0, vs0, d0, ds0, p0, q0, hargs, rfl, rfl, h0, r0⟩ := trodAll_cons hA
  obtain ⟨v1, vs1, d1, ds1, p1, q1, rfl, rfl, rfl, h1, r1⟩ := trodAll_cons r0
  obtain ⟨v2, vs2, d2, ds2, p2, q2, rfl, rfl, rfl, h2, r2⟩ := trodAll_cons r1
  obtain ⟨v3, vs3, d3, ds3, p3, q3, rfl, rfl, rfl, h3, r3⟩ := trodAll_cons r2
  obtain ⟨rfl, rfl, rfl⟩ := trodAll_nil r3
  obtain rfl : args = #[v0, v1, v2, v3] := by cases args; simp_all
  obtain ⟨rfl, rfl⟩ := trodVars_none hV
  have lt0 : ∀ x ∈ p0, x.block < W.heap.size := by obtain ⟨m, hm⟩ := h0; exact DataW.trod_lt m _ _ _ hm
  obtain ⟨a0, n0, c0, x0, rfl, lx0, nc0, cm0, ix0, px0⟩ := open_ids (hval 0 22 v0 rfl rfl) h0
  have lt1 : ∀ x ∈ p1, x.block < W.heap.size := by obtain ⟨m, hm⟩ := h1; exact DataW.trod_lt m _ _ _ hm
  obtain ⟨x1, rfl, lx1, rx1⟩ := open_id (hval 1 24 v1 rfl rfl) h1
  obtain ⟨x2, rfl, rfl, rfl, wx2⟩ := open_int Tryd.underlying3 (hval 2 3 v2 rfl rfl) h2
  obtain ⟨x3, rfl, rfl, rfl, wx3⟩ := open_int Tryd.underlying3 (hval 3 3 v3 rfl rfl) h3
  clear hA0
  refine (law_low treeC linkC x0 x1 x2 x3 a0 n0 c0 W lx0 nc0 cm0 ix0 ⟨lx1, rx1⟩ (bounds_i64 wx2) (bounds_i64 wx3) px0 (tables_of_laid hL)).mono fun e W' ⟨he, bel⟩ => ?_
  subst he
  exact ⟨_, rfl, _, _, _, [], _, [], hW', trodAll_mk1 (shut_bool Tryd.underlying4 _), (trodAll_cons_mk (Below.trod laidOut (by kernel_rfl) (of_decide_eq_true (by kernel_rfl)) h0 bel lt0) (trodAll_cons_mk (Below.trod laidOut (by kernel_rfl) (of_decide_eq_true (by kernel_rfl)) h1 bel lt1) (trodAll_cons_mk (shut_int Tryd.underlying3 wx2) (trodAll_cons_mk (shut_int Tryd.underlying3 wx3) trodAll_mk0)))), rfl, bel.frame _, fun h => by cases h⟩

def start : Array Value := #[.slice none 0 0, zeroId, .int .i64 0, .int .i64 0]
theorem reads (os : Os) {H : Type} (enc : TypeId × Value → H) : ∃ places, DataW.whole enc Tryd.prog ((laidWorld os).forCall (fun _ _ => 0) ⟨#[], start, []⟩).memory Tryd.f8.params.toList Rows.linkLowSpec.vars false start.toList 8 = some ([.nil, zeroD, .lit (.int .i64 0), .lit (.int .i64 0)], [], places) :=
  ⟨[], by kernel_rfl⟩

set_option maxRecDepth 100000 in
theorem lifted (os : Os) (started : os.Started) (H : Type) (enc : TypeId × Value → H) (F : Stop.Interp) :
    ReturnsInHanded {} Tryd.checked os 8 .any ((OpenSpec.ofChange Rows.linkLowSpec).preRow enc Tryd.prog Tryd.f8 Rows.linkLowRow.domain false Rows.linkLowRow.laid) (((OpenSpec.ofChange Rows.linkLowSpec).at F).post enc Tryd.prog Tryd.f8 false true false false) := by
  obtain ⟨places, hx⟩ := reads os enc
  refine returnsInHanded_of_row (C := Tryd.checked) (s := OpenSpec.ofChange Rows.linkLowSpec) own started (by kernel_rfl) Tryd.func8
    (witness_row_at (enc := enc) (C := Tryd.checked) false (laidWorld os) start rfl (by kernel_rfl) (by kernel_rfl) (by kernel_rfl)
      (OpenSpec.preRow_of_cond 8 hx (by kernel_rfl) (fun k hk => by cases hk) (by kernel_rfl) (laidMet_of_run' 8 (by kernel_rfl) (by kernel_rfl)))) ?_
  intro W base args ds gs before hval hW _ _ _ hL _ _
  exact contract H enc W base args ds gs before hval hW hL

theorem said : Rows.LinkLowSaid :=
  OpenClaim.holds_of_cond 8 Tryd.f8 rfl rfl rfl rfl rfl rfl rfl ⟨rfl, rfl, rfl, rfl, rfl⟩ rfl rfl rfl rfl rfl (by kernel_rfl) Tryd.func8 (by kernel_rfl)
    (of_decide_eq_true (by kernel_rfl)) (by unfold Func.isWrapper; first | (rw [if_pos (by decide +kernel)]; kernel_rfl) | (rw [if_neg (by decide +kernel)]; exact ⟨rfl, rfl⟩))
    (fun os started H enc _ F => by rw [OpenClaim.pre_eq_preRow]; exact lifted os started H enc F)

theorem plain (f : FuncId) (fn : Func) (hf : Tryd.pinned.checked.prog.funcNamed "stepladder/stepladderlaw07.LinkLow" = some f) (hfn : Tryd.pinned.checked.prog.funcs[f]? = some fn) :
    false = Tryd.pinned.checked.prog.looks [] ∧ ∀ (j : Nat) t, fn.params[j]? = some t → Tryd.pinned.checked.prog.wantsStandIn t = false := by
  obtain rfl : f = 8 := Option.some.inj ((show Tryd.prog.funcNamed "stepladder/stepladderlaw07.LinkLow" = some 8 by kernel_rfl).symm.trans hf) |>.symm
  obtain rfl : fn = Tryd.f8 := (Option.some.inj (Tryd.func8.symm.trans hfn)).symm
  refine ⟨by kernel_rfl, fun j t ht => ?_⟩
  rw [Tryd.params8] at ht
  have hm : t = 22 ∨ t = 24 ∨ t = 3 ∨ t = 3 := by simpa using Array.mem_of_getElem? ht
  rcases hm with rfl | rfl | rfl | rfl
  · exact (show Tryd.prog.wantsStandIn 22 = false by kernel_rfl)
  · exact (show Tryd.prog.wantsStandIn 24 = false by kernel_rfl)
  · exact (show Tryd.prog.wantsStandIn 3 = false by kernel_rfl)
  · exact (show Tryd.prog.wantsStandIn 3 = false by kernel_rfl)
theorem card : Rows.LinkLowCardSaid :=
  Claim7.holds_tied_plain_at .later [] _ _ _ _ said (fun _ h => by cases h) (by kernel_rfl) (fun _ h => by cases h) linkLow_row_tie rfl ⟨rfl, rfl⟩ (by kernel_rfl) rfl plain (by kernel_rfl)

end Go.Proofs.YtbjojpgedcikiaaDoor.linkLow
