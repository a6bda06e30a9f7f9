/-
  PROVED: the law stepladderlaw09.CoinCut answers true for every input, and leaves its arguments as they were.
  Conditions: the two package-level tables of package sha hold at the call what their initialisers lay; the card ties that to the text of the program (a pruned copy of the project: the packages that the roots of this seat load).
-/
import Derived.Test.YtcodmedgkboohaaDoorCn
namespace Go.Proofs.YtcodmedgkboohaaDoor
set_option maxRecDepth 8000

/-- nothing shorter is one's bytes -/
theorem read_cutX {t : TxR} (h : okX t) {k : Nat} (hk : k < (bodyX t).length) : mayReadX ((bodyX t).take k) = false := by
  have hp := lenOK_iff.1 (body_lenOK h)
  have : lenOK ((bodyX t).take k) = false := by
    rw [← Bool.not_eq_true, lenOK_iff]
    rintro ⟨h0, h1, h2⟩
    rw [List.length_take] at h0 h1 h2
    have g : ∀ i, i < k → ((bodyX t).take k).getD i 0 = (bodyX t).getD i 0 := fun i hi => by
      rw [List.getD_eq_getElem?_getD, List.getElem?_take_of_lt hi, ← List.getD_eq_getElem?_getD]
    have e1 : nIn ((bodyX t).take k) = nIn (bodyX t) := by unfold nIn; rw [g 0 (by omega)]
    have e2 : atO ((bodyX t).take k) = atO (bodyX t) := by unfold atO; rw [e1]
    have e3 : nOut ((bodyX t).take k) = nOut (bodyX t) := by unfold nOut; rw [e2, g _ (by omega)]
    rw [e2, e3] at h2
    omega
  unfold mayReadX
  rw [this]
  rfl
/-- .. and nothing longer -/
theorem read_moreX {t : TxR} (h : okX t) (hm : mayX t = true) (m : List Int) : mayReadX (bodyX t ++ m) = decide (m.length = 0) := by
  by_cases e : m.length = 0
  · rw [List.eq_nil_of_length_eq_zero e, List.append_nil]
    have := congrArg Prod.snd (read_bodyX h hm)
    rw [readX_snd] at this
    rw [this]
    rfl
  · have hp := lenOK_iff.1 (body_lenOK h)
    have : lenOK (bodyX t ++ m) = false := by
      rw [← Bool.not_eq_true, lenOK_iff]
      rintro ⟨h0, h1, h2⟩
      rw [List.length_append] at h0 h1 h2
      have g : ∀ i, i < (bodyX t).length → (bodyX t ++ m).getD i 0 = (bodyX t).getD i 0 := fun i hi => by
        rw [List.getD_eq_getElem?_getD, List.getElem?_append_left hi, ← List.getD_eq_getElem?_getD]
      have e1 : nIn (bodyX t ++ m) = nIn (bodyX t) := by unfold nIn; rw [g 0 (by omega)]
      have e2 : atO (bodyX t ++ m) = atO (bodyX t) := by unfold atO; rw [e1]
      have e3 : nOut (bodyX t ++ m) = nOut (bodyX t) := by unfold nOut; rw [e2, g _ (by omega)]
      rw [e2, e3] at h2
      omega
    unfold mayReadX
    rw [this, decide_eq_false e]
    rfl
end Go.Proofs.YtcodmedgkboohaaDoor

namespace Go.Proofs.YtcodmedgkboohaaDoor
set_option maxRecDepth 8000
open Go.RowKit

section
variable {a : Act} {dst : Option Tmp} {x y : Operand} {ty : TypeId} {pos : String} {after : Array Edge} {gd : Option (Nat × Bool)}
theorem eqlBc_op {p q b : Bool} (u : World) (hb : (p == q) = b) (hx : a.eval x = .bool p) (hy : a.eval y = .bool q) :
    (execOp a.eval ⟨dst, .binOp .eql 4 x y 4, ty, pos, after, gd⟩).run Tryd.prog u = .ok (.value (.bool b)) u := by
  subst hb
  unfold execOp
  simp only [hx, hy]
  cases p <;> cases q <;> go_simp
end
theorem wpList_exec {P : Program} {ops : Array Oper} {rest : List Oper} {o : Oper} {a : Act} {w w' : World} {Q : Exit → Act → World → Prop} {v : Value} (hgd : o.guard = none) (hrun : (execOp a.eval o).run P w = .ok (.value v) w') (h : wpList P ops Q rest (a.put o.dst v) w') : wpList P ops Q (o :: rest) a w :=
  wpList_plain hgd fun _ hK => by
    unfold Oper.wp
    rw [hrun]
    exact hK _ _ h
theorem Bytes.takeN {w : World} {B : Nat} {A : Option Addr} {xs : List Int} (h : Bytes w B A xs) (k : Nat) : Bytes w B A (xs.take k) := fun hp => by
  have hp' : 0 < xs.length := by rw [List.length_take] at hp; omega
  obtain ⟨ad, e, hlt, hc⟩ := h hp'
  refine ⟨ad, e, hlt, fun j v hv => hc j v ?_⟩
  rw [List.map_take, List.getElem?_take] at hv
  split at hv
  · exact hv
  · cases hv
set_option maxRecDepth 20000 in
set_option maxHeartbeats 8000000 in
theorem law_cutX_few (H : CoinC) (t : TxM) (q : Int) (b : List Int) (A : Option Addr) (n c : Nat) (w : World) (kt : TxOk w t) (hq : I64 q) (hl : b.length = n) (hnc : n ≤ c) (hcm : c ≤ maxLen) (hB : isB b) (hx : Bytes w w.heap.size A b) (ht : Tables w) (k1 : fewX t.r = false) :
    Calls Tryd.prog 6 #[txV t, .int .i64 q, .slice A n c] w fun e w' => e = .returned (.bool true) ∧ Below w.heap.size w w' := by
  have HN63 : Hid (n < 9223372036854775808) := by show _ < _; unfold maxLen at hcm; omega
  have HF_t : Hid (fewX t.r = false) := k1
  clear k1
  have E0 : Hid (EnvX w (w.alloc (.cells (txA t) 25)) [(w.heap.size, Obj.cells (txA t) 25 (0, 0))]) := (EnvX.start w).new _
  have HAW := Lib.hid (cawake_any H (w.alloc (.cells (txA t) 25)) (ht.below (EnvX.bel E0.out)))
  have HT := Lib.hid ht
  have HH := Lib.hid H
  have J_kt := Lib.hid kt
  have J_hx := Lib.hid hx
  clear ht H kt hx hq hl hnc hcm hB
  unfold txV
  go_enter Tryd.func6, Tryd.ntmps6
  go_upto_region 1 with (fail)
  generalize (w.alloc (.cells (txA t) 25)) = W at *
  go_wp2_with fail
  refine HAW.out.mono ?_
  rintro e w1 ⟨rfl, hb1⟩
  have HB1 := Lib.hid (EnvX.below E0.out hb1).bel
  have E1 : Hid (EnvX w1 w1 [(w.heap.size, Obj.cells (txA t) 25 (0, 0))]) := ⟨Below.refl _ _, (EnvX.below E0.out hb1).box⟩
  have HT1 := Lib.hid (HT.out.below HB1.out)
  have K_kt := Lib.hid (J_kt.out.up HB1.out)
  have K_hx := Lib.hid (J_hx.out.up HB1.out)
  clear hb1 E0 HAW HT J_kt J_hx
  go_upto_region 2 with (fail)
  refine wp_region_Hx (w0 := w1) [0, 1, 2] [(w.heap.size, Obj.cells (txA t) 25 (0, 0))] rfl E1.out ?_
  refine lexH_phase [0, 1, 2] [] ?_
  have hw1 : EnvX w1 _ [(w.heap.size, Obj.cells (txA t) 25 (0, 0))] := E1.out
  have hone := @EnvC.one _ _ _ hw1
  (refine wpG_val (v := txV t) rfl rfl (fun u hu => load_any_op u (box_tx hu (List.Mem.head _)) rfl) ?_ hw1; intro K hK; go_big_quiet_op; go_big_quiet_on)
  (refine wpG_call (f := 10) (args := #[txV t]) (v := .bool false) rfl rfl rfl Tryd.func10 rfl rfl (fun u hu => by have h1 := few_any t u (K_kt.out.up (EnvX.bel hu)); rwa [HF_t.out] at h1) ?_ hw1; intro K hK; go_big_quiet_op; go_big_quiet_on)
  (refine wpG_op rfl rfl rfl ?_; intro K hK; go_big_quiet_op; go_big_quiet_on)
  clear hone hw1
  refine wpG_nil ?_
  intro u3 E2'
  have EX2 := Lib.hid E2'
  clear E2'
  have HLD : Hid ((loadVar 25 ⟨w.heap.size, 0, none⟩).run Tryd.prog u3 = .ok (.agg (txA t)) u3) := box_tx EX2.out (List.Mem.head _)
  have HPT : Hid (Calls Tryd.prog 12 #[.agg (txA t)] u3 fun e w' => (∃ v, e = .returned (.tuple #[v, .bool (mayX t.r)]) ∧ OwnB w' u3.heap.size v (putX t.r).1) ∧ Below u3.heap.size u3 w') := by
    have h1 := HH.out.put t u3 (K_kt.out.up EX2.out.bel) (HT1.out.below (EnvX.bel EX2.out))
    rwa [putX_2] at h1
  go_upto_region 3 with (fail)
  go_wp2_with ((with_reducible refine wpList_load_run (o := ⟨some 19, _, _, _, _, _⟩) ?_ 25 (.tmp 3) ?_ ⟨w.heap.size, 0, none⟩ ?_ HLD.out ?_); (rfl); (rfl); (rfl))
  refine HPT.out.mono ?_
  rintro e w2 ⟨⟨v3, rfl, hv⟩, hb⟩
  obtain ⟨Ap, cp, rfl⟩ := hv.form
  have HB_xs := Lib.hid hv.bytes.2
  have HC_xs := Lib.hid hv.cap
  have hbb := (EnvX.below EX2.out hb).bel
  have E2 : Hid (EnvX w2 w2 [(w.heap.size, Obj.cells (txA t) 25 (0, 0))]) := ⟨Below.refl _ _, (EnvX.below EX2.out hb).box⟩
  have HB2 := Lib.hid (HB1.out.trans (hbb.mono HB1.out.size))
  have HT2 := Lib.hid (HT1.out.below hbb)
  have K_kt := Lib.hid (K_kt.out.up hbb)
  have K_hx := Lib.hid (K_hx.out.up hbb)
  clear hv hb HLD HPT hbb EX2
  obtain ⟨np, hnp⟩ : ∃ np, (putX t.r).1.length = np := ⟨_, rfl⟩
  obtain ⟨xs, hxs⟩ : ∃ xs, (putX t.r).1 = xs := ⟨_, rfl⟩
  have HN_xs := Lib.hid hnp
  have HX_xs := Lib.hid hxs
  rw [hnp] at HC_xs ⊢
  rw [hxs] at HB_xs HN_xs
  clear hnp hxs
  go_upto_region 4 with (fail)
  refine wp_region_Hx (w0 := w2) [0, 1, 2, 3, 4, 5, 6, 7, 8, 9, 10, 11, 12, 13, 14] [(w.heap.size, Obj.cells (txA t) 25 (0, 0))] rfl E2.out ?_
  refine lexH_phase [0, 1, 2, 3, 4, 5, 6, 7, 8, 9, 10, 11, 12, 13, 14] [] ?_
  have hw501 : EnvX w2 _ [(w.heap.size, Obj.cells (txA t) 25 (0, 0))] := E2.out
  have hone := @EnvC.one _ _ _ hw501
  (refine wpG_op rfl rfl rfl ?_; intro K hK; go_big_quiet_op; go_big_quiet_on)
  (refine wpG_op rfl rfl rfl ?_; intro K hK; go_big_quiet_op; go_big_quiet_on)
  (refine wpG_op rfl rfl rfl ?_; intro K hK; go_big_quiet_op; go_big_quiet_on)
  (refine wpG_op rfl rfl rfl ?_; intro K hK; go_big_quiet_op; go_big_quiet_on)
  (refine wpG_op rfl rfl rfl ?_; intro K hK; go_big_quiet_op; go_big_quiet_on)
  (refine wpG_op rfl rfl rfl ?_; intro K hK; go_big_quiet_op; go_big_quiet_on)
  (refine wpG_op rfl rfl rfl ?_; intro K hK; go_big_quiet_op; go_big_quiet_on)
  (refine wpG_skip rfl rfl ?_ hw501; intro K hK; go_big_quiet_op; go_big_quiet_on)
  (refine wpG_skip rfl rfl ?_ hw501; intro K hK; go_big_quiet_op; go_big_quiet_on)
  (refine wpG_op rfl rfl rfl ?_; intro K hK; go_big_quiet_op; go_big_quiet_on)
  (refine wpG_op rfl rfl rfl ?_; intro K hK; go_big_quiet_op; go_big_quiet_on)
  (refine wpG_skip rfl rfl ?_ hw501; intro K hK; go_big_quiet_op; go_big_quiet_on)
  (refine wpG_skip rfl rfl ?_ hw501; intro K hK; go_big_quiet_op; go_big_quiet_on)
  (refine wpG_skip rfl rfl ?_ hw501; intro K hK; go_big_quiet_op; go_big_quiet_on)
  (refine wpG_op rfl rfl rfl ?_; intro K hK; go_big_quiet_op; go_big_quiet_on)
  clear hone hw501
  refine wpG_nil ?_
  intro u503 E2'
  have EX502 := Lib.hid E2'
  clear E2'
  have HBE := Lib.hid (HB2.out.trans ((EnvX.bel EX502.out).mono HB2.out.size))
  go_wp2
  go_ret
  exact ⟨rfl, HBE.out⟩
set_option maxRecDepth 20000 in
set_option maxHeartbeats 8000000 in
theorem law_cutX_may (H : CoinC) (t : TxM) (q : Int) (b : List Int) (A : Option Addr) (n c : Nat) (w : World) (kt : TxOk w t) (hq : I64 q) (hl : b.length = n) (hnc : n ≤ c) (hcm : c ≤ maxLen) (hB : isB b) (hx : Bytes w w.heap.size A b) (ht : Tables w) (k1 : fewX t.r = true) (k2 : mayX t.r = false) :
    Calls Tryd.prog 6 #[txV t, .int .i64 q, .slice A n c] w fun e w' => e = .returned (.bool true) ∧ Below w.heap.size w w' := by
  have HN63 : Hid (n < 9223372036854775808) := by show _ < _; unfold maxLen at hcm; omega
  have HF_t : Hid (fewX t.r = true) := k1
  have HP_t : Hid ((putX t.r).2 = false) := (putX_2 _).trans k2
  clear k1 k2
  have E0 : Hid (EnvX w (w.alloc (.cells (txA t) 25)) [(w.heap.size, Obj.cells (txA t) 25 (0, 0))]) := (EnvX.start w).new _
  have HAW := Lib.hid (cawake_any H (w.alloc (.cells (txA t) 25)) (ht.below (EnvX.bel E0.out)))
  have HT := Lib.hid ht
  have HH := Lib.hid H
  have J_kt := Lib.hid kt
  have J_hx := Lib.hid hx
  clear ht H kt hx hq hl hnc hcm hB
  unfold txV
  go_enter Tryd.func6, Tryd.ntmps6
  go_upto_region 1 with (fail)
  generalize (w.alloc (.cells (txA t) 25)) = W at *
  go_wp2_with fail
  refine HAW.out.mono ?_
  rintro e w1 ⟨rfl, hb1⟩
  have HB1 := Lib.hid (EnvX.below E0.out hb1).bel
  have E1 : Hid (EnvX w1 w1 [(w.heap.size, Obj.cells (txA t) 25 (0, 0))]) := ⟨Below.refl _ _, (EnvX.below E0.out hb1).box⟩
  have HT1 := Lib.hid (HT.out.below HB1.out)
  have K_kt := Lib.hid (J_kt.out.up HB1.out)
  have K_hx := Lib.hid (J_hx.out.up HB1.out)
  clear hb1 E0 HAW HT J_kt J_hx
  go_upto_region 2 with (fail)
  refine wp_region_Hx (w0 := w1) [0, 1, 2] [(w.heap.size, Obj.cells (txA t) 25 (0, 0))] rfl E1.out ?_
  refine lexH_phase [0, 1, 2] [] ?_
  have hw1 : EnvX w1 _ [(w.heap.size, Obj.cells (txA t) 25 (0, 0))] := E1.out
  have hone := @EnvC.one _ _ _ hw1
  (refine wpG_val (v := txV t) rfl rfl (fun u hu => load_any_op u (box_tx hu (List.Mem.head _)) rfl) ?_ hw1; intro K hK; go_big_quiet_op; go_big_quiet_on)
  (refine wpG_call (f := 10) (args := #[txV t]) (v := .bool true) rfl rfl rfl Tryd.func10 rfl rfl (fun u hu => by have h1 := few_any t u (K_kt.out.up (EnvX.bel hu)); rwa [HF_t.out] at h1) ?_ hw1; intro K hK; go_big_quiet_op; go_big_quiet_on)
  (refine wpG_op rfl rfl rfl ?_; intro K hK; go_big_quiet_op; go_big_quiet_on)
  clear hone hw1
  refine wpG_nil ?_
  intro u3 E2'
  have EX2 := Lib.hid E2'
  clear E2'
  have HLD : Hid ((loadVar 25 ⟨w.heap.size, 0, none⟩).run Tryd.prog u3 = .ok (.agg (txA t)) u3) := box_tx EX2.out (List.Mem.head _)
  have HPT : Hid (Calls Tryd.prog 12 #[.agg (txA t)] u3 fun e w' => (∃ v, e = .returned (.tuple #[v, .bool false]) ∧ OwnB w' u3.heap.size v (putX t.r).1) ∧ Below u3.heap.size u3 w') := by
    have h1 := HH.out.put t u3 (K_kt.out.up EX2.out.bel) (HT1.out.below (EnvX.bel EX2.out))
    rwa [HP_t.out] at h1
  go_upto_region 3 with (fail)
  go_wp2_with ((with_reducible refine wpList_load_run (o := ⟨some 19, _, _, _, _, _⟩) ?_ 25 (.tmp 3) ?_ ⟨w.heap.size, 0, none⟩ ?_ HLD.out ?_); (rfl); (rfl); (rfl))
  refine HPT.out.mono ?_
  rintro e w2 ⟨⟨v3, rfl, hv⟩, hb⟩
  obtain ⟨Ap, cp, rfl⟩ := hv.form
  have HB_xs := Lib.hid hv.bytes.2
  have HC_xs := Lib.hid hv.cap
  have hbb := (EnvX.below EX2.out hb).bel
  have E2 : Hid (EnvX w2 w2 [(w.heap.size, Obj.cells (txA t) 25 (0, 0))]) := ⟨Below.refl _ _, (EnvX.below EX2.out hb).box⟩
  have HB2 := Lib.hid (HB1.out.trans (hbb.mono HB1.out.size))
  have HT2 := Lib.hid (HT1.out.below hbb)
  have K_kt := Lib.hid (K_kt.out.up hbb)
  have K_hx := Lib.hid (K_hx.out.up hbb)
  clear hv hb HLD HPT hbb EX2
  obtain ⟨np, hnp⟩ : ∃ np, (putX t.r).1.length = np := ⟨_, rfl⟩
  obtain ⟨xs, hxs⟩ : ∃ xs, (putX t.r).1 = xs := ⟨_, rfl⟩
  have HN_xs := Lib.hid hnp
  have HX_xs := Lib.hid hxs
  rw [hnp] at HC_xs ⊢
  rw [hxs] at HB_xs HN_xs
  clear hnp hxs
  go_upto_region 4 with (fail)
  refine wp_region_Hx (w0 := w2) [0, 1, 2, 3, 4, 5, 6, 7, 8, 9, 10, 11, 12, 13, 14] [(w.heap.size, Obj.cells (txA t) 25 (0, 0))] rfl E2.out ?_
  refine lexH_phase [0, 1, 2, 3, 4, 5, 6, 7, 8, 9, 10, 11, 12, 13, 14] [] ?_
  have hw501 : EnvX w2 _ [(w.heap.size, Obj.cells (txA t) 25 (0, 0))] := E2.out
  have hone := @EnvC.one _ _ _ hw501
  (refine wpG_op rfl rfl rfl ?_; intro K hK; go_big_quiet_op; go_big_quiet_on)
  (refine wpG_op rfl rfl rfl ?_; intro K hK; go_big_quiet_op; go_big_quiet_on)
  (refine wpG_op rfl rfl rfl ?_; intro K hK; go_big_quiet_op; go_big_quiet_on)
  (refine wpG_op rfl rfl rfl ?_; intro K hK; go_big_quiet_op; go_big_quiet_on)
  (refine wpG_op rfl rfl rfl ?_; intro K hK; go_big_quiet_op; go_big_quiet_on)
  (refine wpG_op rfl rfl rfl ?_; intro K hK; go_big_quiet_op; go_big_quiet_on)
  (refine wpG_op rfl rfl rfl ?_; intro K hK; go_big_quiet_op; go_big_quiet_on)
  (refine wpG_op rfl rfl rfl ?_; intro K hK; go_big_quiet_op; go_big_quiet_on)
  (refine wpG_op rfl rfl rfl ?_; intro K hK; go_big_quiet_op; go_big_quiet_on)
  (refine wpG_op rfl rfl rfl ?_; intro K hK; go_big_quiet_op; go_big_quiet_on)
  (refine wpG_op rfl rfl rfl ?_; intro K hK; go_big_quiet_op; go_big_quiet_on)
  (refine wpG_skip rfl rfl ?_ hw501; intro K hK; go_big_quiet_op; go_big_quiet_on)
  (refine wpG_skip rfl rfl ?_ hw501; intro K hK; go_big_quiet_op; go_big_quiet_on)
  (refine wpG_skip rfl rfl ?_ hw501; intro K hK; go_big_quiet_op; go_big_quiet_on)
  (refine wpG_op rfl rfl rfl ?_; intro K hK; go_big_quiet_op; go_big_quiet_on)
  clear hone hw501
  refine wpG_nil ?_
  intro u503 E2'
  have EX502 := Lib.hid E2'
  clear E2'
  have HBE := Lib.hid (HB2.out.trans ((EnvX.bel EX502.out).mono HB2.out.size))
  go_wp2
  go_ret
  exact ⟨rfl, HBE.out⟩
set_option maxRecDepth 20000 in
set_option maxHeartbeats 8000000 in
theorem law_cutX_many (H : CoinC) (t : TxM) (q : Int) (b : List Int) (A : Option Addr) (n c : Nat) (w : World) (kt : TxOk w t) (hq : I64 q) (hl : b.length = n) (hnc : n ≤ c) (hcm : c ≤ maxLen) (hB : isB b) (hx : Bytes w w.heap.size A b) (ht : Tables w) (k1 : fewX t.r = true) (k2 : mayX t.r = true) (k3 : 100 < n) :
    Calls Tryd.prog 6 #[txV t, .int .i64 q, .slice A n c] w fun e w' => e = .returned (.bool true) ∧ Below w.heap.size w w' := by
  have HN63 : Hid (n < 9223372036854775808) := by show _ < _; unfold maxLen at hcm; omega
  have HF_t : Hid (fewX t.r = true) := k1
  have HP_t : Hid ((putX t.r).2 = true) := (putX_2 _).trans k2
  have C12 : Hid (decide ((100 : Int) < (n : Int)) = true) := decide_eq_true (by omega)
  clear k1 k2 k3
  have E0 : Hid (EnvX w (w.alloc (.cells (txA t) 25)) [(w.heap.size, Obj.cells (txA t) 25 (0, 0))]) := (EnvX.start w).new _
  have HAW := Lib.hid (cawake_any H (w.alloc (.cells (txA t) 25)) (ht.below (EnvX.bel E0.out)))
  have HT := Lib.hid ht
  have HH := Lib.hid H
  have J_kt := Lib.hid kt
  have J_hx := Lib.hid hx
  clear ht H kt hx hq hl hnc hcm hB
  unfold txV
  go_enter Tryd.func6, Tryd.ntmps6
  go_upto_region 1 with (fail)
  generalize (w.alloc (.cells (txA t) 25)) = W at *
  go_wp2_with fail
  refine HAW.out.mono ?_
  rintro e w1 ⟨rfl, hb1⟩
  have HB1 := Lib.hid (EnvX.below E0.out hb1).bel
  have E1 : Hid (EnvX w1 w1 [(w.heap.size, Obj.cells (txA t) 25 (0, 0))]) := ⟨Below.refl _ _, (EnvX.below E0.out hb1).box⟩
  have HT1 := Lib.hid (HT.out.below HB1.out)
  have K_kt := Lib.hid (J_kt.out.up HB1.out)
  have K_hx := Lib.hid (J_hx.out.up HB1.out)
  clear hb1 E0 HAW HT J_kt J_hx
  go_upto_region 2 with (fail)
  refine wp_region_Hx (w0 := w1) [0, 1, 2] [(w.heap.size, Obj.cells (txA t) 25 (0, 0))] rfl E1.out ?_
  refine lexH_phase [0, 1, 2] [] ?_
  have hw1 : EnvX w1 _ [(w.heap.size, Obj.cells (txA t) 25 (0, 0))] := E1.out
  have hone := @EnvC.one _ _ _ hw1
  (refine wpG_val (v := txV t) rfl rfl (fun u hu => load_any_op u (box_tx hu (List.Mem.head _)) rfl) ?_ hw1; intro K hK; go_big_quiet_op; go_big_quiet_on)
  (refine wpG_call (f := 10) (args := #[txV t]) (v := .bool true) rfl rfl rfl Tryd.func10 rfl rfl (fun u hu => by have h1 := few_any t u (K_kt.out.up (EnvX.bel hu)); rwa [HF_t.out] at h1) ?_ hw1; intro K hK; go_big_quiet_op; go_big_quiet_on)
  (refine wpG_op rfl rfl rfl ?_; intro K hK; go_big_quiet_op; go_big_quiet_on)
  clear hone hw1
  refine wpG_nil ?_
  intro u3 E2'
  have EX2 := Lib.hid E2'
  clear E2'
  have HLD : Hid ((loadVar 25 ⟨w.heap.size, 0, none⟩).run Tryd.prog u3 = .ok (.agg (txA t)) u3) := box_tx EX2.out (List.Mem.head _)
  have HPT : Hid (Calls Tryd.prog 12 #[.agg (txA t)] u3 fun e w' => (∃ v, e = .returned (.tuple #[v, .bool true]) ∧ OwnB w' u3.heap.size v (putX t.r).1) ∧ Below u3.heap.size u3 w') := by
    have h1 := HH.out.put t u3 (K_kt.out.up EX2.out.bel) (HT1.out.below (EnvX.bel EX2.out))
    rwa [HP_t.out] at h1
  go_upto_region 3 with (fail)
  go_wp2_with ((with_reducible refine wpList_load_run (o := ⟨some 19, _, _, _, _, _⟩) ?_ 25 (.tmp 3) ?_ ⟨w.heap.size, 0, none⟩ ?_ HLD.out ?_); (rfl); (rfl); (rfl))
  refine HPT.out.mono ?_
  rintro e w2 ⟨⟨v3, rfl, hv⟩, hb⟩
  obtain ⟨Ap, cp, rfl⟩ := hv.form
  have HB_xs := Lib.hid hv.bytes.2
  have HC_xs := Lib.hid hv.cap
  have hbb := (EnvX.below EX2.out hb).bel
  have E2 : Hid (EnvX w2 w2 [(w.heap.size, Obj.cells (txA t) 25 (0, 0))]) := ⟨Below.refl _ _, (EnvX.below EX2.out hb).box⟩
  have HB2 := Lib.hid (HB1.out.trans (hbb.mono HB1.out.size))
  have HT2 := Lib.hid (HT1.out.below hbb)
  have K_kt := Lib.hid (K_kt.out.up hbb)
  have K_hx := Lib.hid (K_hx.out.up hbb)
  clear hv hb HLD HPT hbb EX2
  obtain ⟨np, hnp⟩ : ∃ np, (putX t.r).1.length = np := ⟨_, rfl⟩
  obtain ⟨xs, hxs⟩ : ∃ xs, (putX t.r).1 = xs := ⟨_, rfl⟩
  have HN_xs := Lib.hid hnp
  have HX_xs := Lib.hid hxs
  rw [hnp] at HC_xs ⊢
  rw [hxs] at HB_xs HN_xs
  clear hnp hxs
  go_upto_region 4 with (fail)
  refine wp_region_Hx (w0 := w2) [0, 1, 2, 3, 4, 5, 6, 7, 8, 9, 10, 11, 12, 13, 14] [(w.heap.size, Obj.cells (txA t) 25 (0, 0))] rfl E2.out ?_
  refine lexH_phase [0, 1, 2, 3, 4, 5, 6, 7, 8, 9, 10, 11, 12, 13, 14] [] ?_
  have hw501 : EnvX w2 _ [(w.heap.size, Obj.cells (txA t) 25 (0, 0))] := E2.out
  have hone := @EnvC.one _ _ _ hw501
  (refine wpG_op rfl rfl rfl ?_; intro K hK; go_big_quiet_op; go_big_quiet_on)
  (refine wpG_op rfl rfl rfl ?_; intro K hK; go_big_quiet_op; go_big_quiet_on)
  (refine wpG_op rfl rfl rfl ?_; intro K hK; go_big_quiet_op; go_big_quiet_on)
  (refine wpG_op rfl rfl rfl ?_; intro K hK; go_big_quiet_op; go_big_quiet_on)
  (refine wpG_op rfl rfl rfl ?_; intro K hK; go_big_quiet_op; go_big_quiet_on)
  (refine wpG_op rfl rfl rfl ?_; intro K hK; go_big_quiet_op; go_big_quiet_on)
  (refine wpG_op rfl rfl rfl ?_; intro K hK; go_big_quiet_op; go_big_quiet_on)
  (refine wpG_op rfl rfl rfl ?_; intro K hK; go_big_quiet_op; go_big_quiet_on)
  (refine wpG_op rfl rfl rfl ?_; intro K hK; go_big_quiet_op; go_big_quiet_on)
  (refine wpG_op rfl rfl rfl ?_; intro K hK; go_big_quiet_op; go_big_quiet_on)
  (refine wpG_op rfl rfl rfl ?_; intro K hK; go_big_quiet_op; go_big_quiet_on)
  (refine wpG_op rfl rfl rfl ?_; intro K hK; go_big_quiet_op; go_big_quiet_on)
  (refine wpG_val (v := .int .i64 (n : Int)) rfl rfl (fun u hu => len_op Tryd.underlying26 HN63.out u rfl) ?_ hw501; intro K hK; go_big_quiet_op; go_big_quiet_on)
  (refine wpG_val (v := .bool true) rfl rfl (fun u hu => gtZ_op u C12.out rfl rfl) ?_ hw501; intro K hK; go_big_quiet_op; go_big_quiet_on)
  (refine wpG_op rfl rfl rfl ?_; intro K hK; go_big_quiet_op; go_big_quiet_on)
  clear hone hw501
  refine wpG_nil ?_
  intro u503 E2'
  have EX502 := Lib.hid E2'
  clear E2'
  have HBE := Lib.hid (HB2.out.trans ((EnvX.bel EX502.out).mono HB2.out.size))
  go_wp2
  go_ret
  exact ⟨rfl, HBE.out⟩
set_option maxRecDepth 20000 in
set_option maxHeartbeats 8000000 in
theorem law_cutX_none (H : CoinC) (t : TxM) (q : Int) (b : List Int) (A : Option Addr) (n c : Nat) (w : World) (kt : TxOk w t) (hq : I64 q) (hl : b.length = n) (hnc : n ≤ c) (hcm : c ≤ maxLen) (hB : isB b) (hx : Bytes w w.heap.size A b) (ht : Tables w) (k1 : fewX t.r = true) (k2 : mayX t.r = true) (k3 : n ≤ 100) (k4 : n = 0) :
    Calls Tryd.prog 6 #[txV t, .int .i64 q, .slice A n c] w fun e w' => e = .returned (.bool true) ∧ Below w.heap.size w w' := by
  have HN63 : Hid (n < 9223372036854775808) := by show _ < _; unfold maxLen at hcm; omega
  have HF_t : Hid (fewX t.r = true) := k1
  have HP_t : Hid ((putX t.r).2 = true) := (putX_2 _).trans k2
  have C12 : Hid (decide ((100 : Int) < (n : Int)) = false) := decide_eq_false (by omega)
  have C3 : Hid (decide ((n : Int) = 0) = true) := decide_eq_true (by omega)
  have HQ := Lib.hid hq
  have HBM := Lib.hid (And.intro hl hB)
  have HN1 := Lib.hid k3
  have HPX : Hid ((putX t.r).1.length ≤ 122 ∧ isB (putX t.r).1 ∧ (∀ m, (readX ((putX t.r).1 ++ m)).2 = decide (m.length = 0)) ∧ ∀ k, k < (putX t.r).1.length → (readX ((putX t.r).1.take k)).2 = false) := by
    refine ⟨putX_len kt.ok, putX_byte kt.ok, fun m => ?_, fun k hk => ?_⟩
    · rw [putX_yes k2, readX_snd]; exact read_moreX kt.ok k2 m
    · rw [putX_yes k2] at hk ⊢; rw [readX_snd]; exact read_cutX kt.ok hk
  have HDZ : Hid (decide (b.length = 0) = true) := decide_eq_true (by omega)
  clear k1 k2 k3 k4
  have E0 : Hid (EnvX w (w.alloc (.cells (txA t) 25)) [(w.heap.size, Obj.cells (txA t) 25 (0, 0))]) := (EnvX.start w).new _
  have HAW := Lib.hid (cawake_any H (w.alloc (.cells (txA t) 25)) (ht.below (EnvX.bel E0.out)))
  have HT := Lib.hid ht
  have HH := Lib.hid H
  have J_kt := Lib.hid kt
  have J_hx := Lib.hid hx
  clear ht H kt hx hq hl hnc hcm hB
  unfold txV
  go_enter Tryd.func6, Tryd.ntmps6
  go_upto_region 1 with (fail)
  generalize (w.alloc (.cells (txA t) 25)) = W at *
  go_wp2_with fail
  refine HAW.out.mono ?_
  rintro e w1 ⟨rfl, hb1⟩
  have HB1 := Lib.hid (EnvX.below E0.out hb1).bel
  have E1 : Hid (EnvX w1 w1 [(w.heap.size, Obj.cells (txA t) 25 (0, 0))]) := ⟨Below.refl _ _, (EnvX.below E0.out hb1).box⟩
  have HT1 := Lib.hid (HT.out.below HB1.out)
  have K_kt := Lib.hid (J_kt.out.up HB1.out)
  have K_hx := Lib.hid (J_hx.out.up HB1.out)
  clear hb1 E0 HAW HT J_kt J_hx
  go_upto_region 2 with (fail)
  refine wp_region_Hx (w0 := w1) [0, 1, 2] [(w.heap.size, Obj.cells (txA t) 25 (0, 0))] rfl E1.out ?_
  refine lexH_phase [0, 1, 2] [] ?_
  have hw1 : EnvX w1 _ [(w.heap.size, Obj.cells (txA t) 25 (0, 0))] := E1.out
  have hone := @EnvC.one _ _ _ hw1
  (refine wpG_val (v := txV t) rfl rfl (fun u hu => load_any_op u (box_tx hu (List.Mem.head _)) rfl) ?_ hw1; intro K hK; go_big_quiet_op; go_big_quiet_on)
  (refine wpG_call (f := 10) (args := #[txV t]) (v := .bool true) rfl rfl rfl Tryd.func10 rfl rfl (fun u hu => by have h1 := few_any t u (K_kt.out.up (EnvX.bel hu)); rwa [HF_t.out] at h1) ?_ hw1; intro K hK; go_big_quiet_op; go_big_quiet_on)
  (refine wpG_op rfl rfl rfl ?_; intro K hK; go_big_quiet_op; go_big_quiet_on)
  clear hone hw1
  refine wpG_nil ?_
  intro u3 E2'
  have EX2 := Lib.hid E2'
  clear E2'
  have HLD : Hid ((loadVar 25 ⟨w.heap.size, 0, none⟩).run Tryd.prog u3 = .ok (.agg (txA t)) u3) := box_tx EX2.out (List.Mem.head _)
  have HPT : Hid (Calls Tryd.prog 12 #[.agg (txA t)] u3 fun e w' => (∃ v, e = .returned (.tuple #[v, .bool true]) ∧ OwnB w' u3.heap.size v (putX t.r).1) ∧ Below u3.heap.size u3 w') := by
    have h1 := HH.out.put t u3 (K_kt.out.up EX2.out.bel) (HT1.out.below (EnvX.bel EX2.out))
    rwa [HP_t.out] at h1
  go_upto_region 3 with (fail)
  go_wp2_with ((with_reducible refine wpList_load_run (o := ⟨some 19, _, _, _, _, _⟩) ?_ 25 (.tmp 3) ?_ ⟨w.heap.size, 0, none⟩ ?_ HLD.out ?_); (rfl); (rfl); (rfl))
  refine HPT.out.mono ?_
  rintro e w2 ⟨⟨v3, rfl, hv⟩, hb⟩
  obtain ⟨Ap, cp, rfl⟩ := hv.form
  have HB_xs := Lib.hid hv.bytes.2
  have HC_xs := Lib.hid hv.cap
  have hbb := (EnvX.below EX2.out hb).bel
  have E2 : Hid (EnvX w2 w2 [(w.heap.size, Obj.cells (txA t) 25 (0, 0))]) := ⟨Below.refl _ _, (EnvX.below EX2.out hb).box⟩
  have HB2 := Lib.hid (HB1.out.trans (hbb.mono HB1.out.size))
  have HT2 := Lib.hid (HT1.out.below hbb)
  have K_kt := Lib.hid (K_kt.out.up hbb)
  have K_hx := Lib.hid (K_hx.out.up hbb)
  clear hv hb HLD HPT hbb EX2
  obtain ⟨np, hnp⟩ : ∃ np, (putX t.r).1.length = np := ⟨_, rfl⟩
  obtain ⟨xs, hxs⟩ : ∃ xs, (putX t.r).1 = xs := ⟨_, rfl⟩
  have HN_xs := Lib.hid hnp
  have HX_xs := Lib.hid hxs
  rw [hnp] at HC_xs ⊢
  rw [hxs] at HB_xs HN_xs
  clear hnp hxs
  go_upto_region 4 with (fail)
  refine wp_region_Hx (w0 := w2) [0, 1, 2, 3, 4, 5, 6, 7, 8, 9, 10, 11, 12, 13, 14] [(w.heap.size, Obj.cells (txA t) 25 (0, 0))] rfl E2.out ?_
  refine lexH_phase [0, 1, 2, 3, 4, 5, 6, 7, 8, 9, 10, 11, 12, 13, 14] [] ?_
  have hw501 : EnvX w2 _ [(w.heap.size, Obj.cells (txA t) 25 (0, 0))] := E2.out
  have hone := @EnvC.one _ _ _ hw501
  (refine wpG_op rfl rfl rfl ?_; intro K hK; go_big_quiet_op; go_big_quiet_on)
  (refine wpG_op rfl rfl rfl ?_; intro K hK; go_big_quiet_op; go_big_quiet_on)
  (refine wpG_op rfl rfl rfl ?_; intro K hK; go_big_quiet_op; go_big_quiet_on)
  (refine wpG_op rfl rfl rfl ?_; intro K hK; go_big_quiet_op; go_big_quiet_on)
  (refine wpG_op rfl rfl rfl ?_; intro K hK; go_big_quiet_op; go_big_quiet_on)
  (refine wpG_op rfl rfl rfl ?_; intro K hK; go_big_quiet_op; go_big_quiet_on)
  (refine wpG_op rfl rfl rfl ?_; intro K hK; go_big_quiet_op; go_big_quiet_on)
  (refine wpG_op rfl rfl rfl ?_; intro K hK; go_big_quiet_op; go_big_quiet_on)
  (refine wpG_op rfl rfl rfl ?_; intro K hK; go_big_quiet_op; go_big_quiet_on)
  (refine wpG_op rfl rfl rfl ?_; intro K hK; go_big_quiet_op; go_big_quiet_on)
  (refine wpG_op rfl rfl rfl ?_; intro K hK; go_big_quiet_op; go_big_quiet_on)
  (refine wpG_op rfl rfl rfl ?_; intro K hK; go_big_quiet_op; go_big_quiet_on)
  (refine wpG_val (v := .int .i64 (n : Int)) rfl rfl (fun u hu => len_op Tryd.underlying26 HN63.out u rfl) ?_ hw501; intro K hK; go_big_quiet_op; go_big_quiet_on)
  (refine wpG_val (v := .bool false) rfl rfl (fun u hu => gtZ_op u C12.out rfl rfl) ?_ hw501; intro K hK; go_big_quiet_op; go_big_quiet_on)
  (refine wpG_op rfl rfl rfl ?_; intro K hK; go_big_quiet_op; go_big_quiet_on)
  clear hone hw501
  refine wpG_nil ?_
  intro u503 E2'
  have EX502 := Lib.hid E2'
  clear E2'
  go_upto_region 6 with (fail)
  have hE := EX502.out
  obtain ⟨v1, wa, hr1, ho1, hb1⟩ := (OwnB.nil u503 u503.heap.size).append (c := cp) HN_xs.out (HB_xs.out.up (EnvX.bel hE)) (by have := HPX.out.1; rw [HX_xs.out, HN_xs.out] at this; simp only [List.length_nil]; omega) (Nat.le_refl _)
  obtain ⟨v2, wb, hr2, ho2, hb2⟩ := ho1.append (c := c) HBM.out.1 ((K_hx.out.up (EnvX.bel hE)).below hb1) (by have h1 := HPX.out.1; have h2 := HN1.out; rw [HX_xs.out] at h1; simp only [List.nil_append]; omega) hb1.size
  have HR1 := Lib.hid hr1
  have HR2 := Lib.hid hr2
  have EA : Hid (EnvX w2 wb [(w.heap.size, Obj.cells (txA t) 25 (0, 0))]) := EnvX.below hE (hb1.trans hb2)
  obtain ⟨Al, cl, rfl⟩ := ho2.form
  have HBL := Lib.hid ho2.bytes.2
  have HCL := Lib.hid ho2.cap
  have hll : ((([] : List Int) ++ xs) ++ b).length = np + n := by rw [List.nil_append, List.length_append, HN_xs.out, HBM.out.1]
  rw [hll] at HCL HR2
  have HLL := Lib.hid hll
  clear hE hr1 hr2 ho1 ho2 hb1 hb2 hll EX502
  generalize u503 = U at *
  have HRC := Lib.hid (show Calls Tryd.prog 14 #[.slice Al (np + n) cl] wb fun e w' => (∃ t : TxM, e = .returned (.tuple #[txV t, .bool true]) ∧ t.r = (readX (([] ++ xs) ++ b)).1 ∧ TxOk w' t) ∧ Below wb.heap.size wb w' from by
      have h0 := HPX.out
      rw [HX_xs.out, HN_xs.out] at h0
      have h1 := HH.out.read Al (np + n) cl (([] ++ xs) ++ b) wb HLL.out (by have := HN1.out; omega) HCL.out.1 HCL.out.2 (by rw [List.nil_append, isB_append]; exact ⟨h0.2.1, HBM.out.2⟩) HBL.out (HT2.out.below EA.out.bel)
      have h2 := h0.2.2.1 b
      rw [HDZ.out] at h2
      rw [List.nil_append] at h1 ⊢
      rwa [h2] at h1)
  go_wp2_with (first | (at_builtin; (with_reducible refine wpList_append_run (o := ⟨some 41, _, _, _, _, _⟩) ?_ (.const (.slice none 0 0)) (.tmp 40) ?_ ?_ ?_ ?_ HR1.out ?_); (rfl); (rfl); (rfl); (rfl); (rfl)) | (at_builtin; (with_reducible refine wpList_append_run (o := ⟨some 43, _, _, _, _, _⟩) ?_ (.tmp 41) (.tmp 42) ?_ ?_ ?_ ?_ HR2.out ?_); (rfl); (rfl); (rfl); (rfl); (rfl)))
  refine HRC.out.mono ?_
  rintro e w3 ⟨⟨xr, rfl, hr0, hk0⟩, hb⟩
  have HR_xr := Lib.hid hr0
  have K_xr := Lib.hid hk0
  have hbb := (EnvX.below EA.out hb).bel
  have E3 : Hid (EnvX w3 w3 [(w.heap.size, Obj.cells (txA t) 25 (0, 0))]) := ⟨Below.refl _ _, (EnvX.below EA.out hb).box⟩
  have HB3 := Lib.hid (HB2.out.trans (hbb.mono HB2.out.size))
  have HT3 := Lib.hid (HT2.out.below hbb)
  have K_kt := Lib.hid (K_kt.out.up hbb)
  have HB_xs := Lib.hid (HB_xs.out.up hbb)
  clear hr0 hk0 hb hbb EA HRC
  have E3b : Hid (EnvX w3 (w3.alloc (.cells (txA xr) 25)) ((w3.heap.size, Obj.cells (txA xr) 25 (0, 0)) :: [(w.heap.size, Obj.cells (txA t) 25 (0, 0))])) := EnvX.new E3.out _
  unfold txV
  go_upto_region 7 with ((with_reducible refine wpList_store_row (o := ⟨none, .store 25 _ _, _, _, _, _⟩) ?_ 25 (.tmp 11) (.tmp 45) ?_ w3.heap.size (txA xr) ?_ ?_ 25 _ (heap_alloc_last w3 _) (infoTx _ rfl) ?_ (txA_one _) ?_); (rfl); (rfl); (rfl); (rfl); (rfl); rw [World.setRow_alloc_new])
  clear E3
  have HNP : Hid (np ≤ 122) := by have h1 := HPX.out.1; rw [HX_xs.out, HN_xs.out] at h1; exact h1
  have HP63 : Hid (np < 9223372036854775808) := by show _ < _; have := HNP.out; omega
  by_cases d7 : q < 0
  · have D7 : Hid (decide (q < 0) = true) := decide_eq_true d7
    clear d7
    go_upto_region 7 with (fail)
    refine wp_region_Hx (w0 := w3) [0, 1, 2, 3, 4, 5, 6, 7, 8, 9, 10, 11, 12, 13, 14] [(w3.heap.size, Obj.cells (txA xr) 25 (0, 0)), (w.heap.size, Obj.cells (txA t) 25 (0, 0))] rfl E3b.out ?_
    refine lexH_phase [0, 1, 2, 3, 4, 5, 6, 7, 8, 9, 10, 11, 12, 13, 14] [] ?_
    have hw801 : EnvX w3 _ [(w3.heap.size, Obj.cells (txA xr) 25 (0, 0)), (w.heap.size, Obj.cells (txA t) 25 (0, 0))] := E3b.out
    have hone := @EnvC.one _ _ _ hw801
    (refine wpG_op rfl rfl rfl ?_; intro K hK; go_big_quiet_op; go_big_quiet_on)
    (refine wpG_op rfl rfl rfl ?_; intro K hK; go_big_quiet_op; go_big_quiet_on)
    (refine wpG_val (v := .int .i64 (n : Int)) rfl rfl (fun u hu => len_op Tryd.underlying26 HN63.out u rfl) ?_ hw801; intro K hK; go_big_quiet_op; go_big_quiet_on)
    (refine wpG_val (v := .bool true) rfl rfl (fun u hu => eqlI_op u C3.out rfl rfl) ?_ hw801; intro K hK; go_big_quiet_op; go_big_quiet_on)
    (refine wpG_val (v := .bool false) rfl rfl (fun u hu => neqBc_op u rfl rfl rfl) ?_ hw801; intro K hK; go_big_quiet_op; go_big_quiet_on)
    (refine wpG_op rfl rfl rfl ?_; intro K hK; go_big_quiet_op; go_big_quiet_on)
    (refine wpG_op rfl rfl rfl ?_; intro K hK; go_big_quiet_op; go_big_quiet_on)
    (refine wpG_val (v := .bool true) rfl rfl (fun u hu => ltZ_op u D7.out rfl rfl) ?_ hw801; intro K hK; go_big_quiet_op; go_big_quiet_on)
    (refine wpG_op rfl rfl rfl ?_; intro K hK; go_big_quiet_op; go_big_quiet_on)
    (refine wpG_op rfl rfl rfl ?_; intro K hK; go_big_quiet_op; go_big_quiet_on)
    (refine wpG_skip rfl rfl ?_ hw801; intro K hK; go_big_quiet_op; go_big_quiet_on)
    (refine wpG_skip rfl rfl ?_ hw801; intro K hK; go_big_quiet_op; go_big_quiet_on)
    (refine wpG_skip rfl rfl ?_ hw801; intro K hK; go_big_quiet_op; go_big_quiet_on)
    (refine wpG_skip rfl rfl ?_ hw801; intro K hK; go_big_quiet_op; go_big_quiet_on)
    (refine wpG_op rfl rfl rfl ?_; intro K hK; go_big_quiet_op; go_big_quiet_on)
    clear hone hw801
    refine wpG_nil ?_
    intro u803 E2'
    have EX802 := Lib.hid E2'
    clear E2'
    go_upto_region 8 with (fail)
    refine wp_region_Hx (w0 := w3) [0, 1, 2, 3, 4, 5] [(w3.heap.size, Obj.cells (txA xr) 25 (0, 0)), (w.heap.size, Obj.cells (txA t) 25 (0, 0))] rfl EX802.out ?_
    refine lexH_phase [0, 1, 2, 3, 4, 5] [] ?_
    have hw804 : EnvX w3 _ [(w3.heap.size, Obj.cells (txA xr) 25 (0, 0)), (w.heap.size, Obj.cells (txA t) 25 (0, 0))] := EX802.out
    have hone := @EnvC.one _ _ _ hw804
    (refine wpG_op rfl rfl rfl ?_; intro K hK; go_big_quiet_op; go_big_quiet_on)
    (refine wpG_op rfl rfl rfl ?_; intro K hK; go_big_quiet_op; go_big_quiet_on)
    (refine wpG_val (v := .int .i64 (n : Int)) rfl rfl (fun u hu => len_op Tryd.underlying26 HN63.out u rfl) ?_ hw804; intro K hK; go_big_quiet_op; go_big_quiet_on)
    (refine wpG_val (v := .bool true) rfl rfl (fun u hu => eqlI_op u C3.out rfl rfl) ?_ hw804; intro K hK; go_big_quiet_op; go_big_quiet_on)
    (refine wpG_val (v := .bool true) rfl rfl (fun u hu => eqlBc_op u rfl rfl rfl) ?_ hw804; intro K hK; go_big_quiet_op; go_big_quiet_on)
    (refine wpG_op rfl rfl rfl ?_; intro K hK; go_big_quiet_op; go_big_quiet_on)
    clear hone hw804
    refine wpG_nil ?_
    intro u806 E2'
    have EX805 := Lib.hid E2'
    clear E2'
    have HBE := Lib.hid (HB3.out.trans ((EnvX.bel EX805.out).mono HB3.out.size))
    go_wp2
    go_ret
    exact ⟨rfl, HBE.out⟩
  have D7 : Hid (decide (q < 0) = false) := decide_eq_false d7
  by_cases d12 : (np : Int) ≤ q
  · have D12 : Hid (decide ((np : Int) ≤ q) = true) := decide_eq_true d12
    clear d7 d12
    go_upto_region 7 with (fail)
    refine wp_region_Hx (w0 := w3) [0, 1, 2, 3, 4, 5, 6, 7, 8, 9, 10, 11, 12, 13, 14] [(w3.heap.size, Obj.cells (txA xr) 25 (0, 0)), (w.heap.size, Obj.cells (txA t) 25 (0, 0))] rfl E3b.out ?_
    refine lexH_phase [0, 1, 2, 3, 4, 5, 6, 7, 8, 9, 10, 11, 12, 13, 14] [] ?_
    have hw801 : EnvX w3 _ [(w3.heap.size, Obj.cells (txA xr) 25 (0, 0)), (w.heap.size, Obj.cells (txA t) 25 (0, 0))] := E3b.out
    have hone := @EnvC.one _ _ _ hw801
    (refine wpG_op rfl rfl rfl ?_; intro K hK; go_big_quiet_op; go_big_quiet_on)
    (refine wpG_op rfl rfl rfl ?_; intro K hK; go_big_quiet_op; go_big_quiet_on)
    (refine wpG_val (v := .int .i64 (n : Int)) rfl rfl (fun u hu => len_op Tryd.underlying26 HN63.out u rfl) ?_ hw801; intro K hK; go_big_quiet_op; go_big_quiet_on)
    (refine wpG_val (v := .bool true) rfl rfl (fun u hu => eqlI_op u C3.out rfl rfl) ?_ hw801; intro K hK; go_big_quiet_op; go_big_quiet_on)
    (refine wpG_val (v := .bool false) rfl rfl (fun u hu => neqBc_op u rfl rfl rfl) ?_ hw801; intro K hK; go_big_quiet_op; go_big_quiet_on)
    (refine wpG_op rfl rfl rfl ?_; intro K hK; go_big_quiet_op; go_big_quiet_on)
    (refine wpG_op rfl rfl rfl ?_; intro K hK; go_big_quiet_op; go_big_quiet_on)
    (refine wpG_val (v := .bool false) rfl rfl (fun u hu => ltZ_op u D7.out rfl rfl) ?_ hw801; intro K hK; go_big_quiet_op; go_big_quiet_on)
    (refine wpG_op rfl rfl rfl ?_; intro K hK; go_big_quiet_op; go_big_quiet_on)
    (refine wpG_op rfl rfl rfl ?_; intro K hK; go_big_quiet_op; go_big_quiet_on)
    (refine wpG_op rfl rfl rfl ?_; intro K hK; go_big_quiet_op; go_big_quiet_on)
    (refine wpG_op rfl rfl rfl ?_; intro K hK; go_big_quiet_op; go_big_quiet_on)
    (refine wpG_val (v := .int .i64 (np : Int)) rfl rfl (fun u hu => len_op Tryd.underlying26 HP63.out u rfl) ?_ hw801; intro K hK; go_big_quiet_op; go_big_quiet_on)
    (refine wpG_val (v := .bool true) rfl rfl (fun u hu => geZ_op u D12.out rfl rfl) ?_ hw801; intro K hK; go_big_quiet_op; go_big_quiet_on)
    (refine wpG_op rfl rfl rfl ?_; intro K hK; go_big_quiet_op; go_big_quiet_on)
    clear hone hw801
    refine wpG_nil ?_
    intro u803 E2'
    have EX802 := Lib.hid E2'
    clear E2'
    go_upto_region 8 with (fail)
    refine wp_region_Hx (w0 := w3) [0, 1, 2, 3, 4, 5] [(w3.heap.size, Obj.cells (txA xr) 25 (0, 0)), (w.heap.size, Obj.cells (txA t) 25 (0, 0))] rfl EX802.out ?_
    refine lexH_phase [0, 1, 2, 3, 4, 5] [] ?_
    have hw804 : EnvX w3 _ [(w3.heap.size, Obj.cells (txA xr) 25 (0, 0)), (w.heap.size, Obj.cells (txA t) 25 (0, 0))] := EX802.out
    have hone := @EnvC.one _ _ _ hw804
    (refine wpG_op rfl rfl rfl ?_; intro K hK; go_big_quiet_op; go_big_quiet_on)
    (refine wpG_op rfl rfl rfl ?_; intro K hK; go_big_quiet_op; go_big_quiet_on)
    (refine wpG_val (v := .int .i64 (n : Int)) rfl rfl (fun u hu => len_op Tryd.underlying26 HN63.out u rfl) ?_ hw804; intro K hK; go_big_quiet_op; go_big_quiet_on)
    (refine wpG_val (v := .bool true) rfl rfl (fun u hu => eqlI_op u C3.out rfl rfl) ?_ hw804; intro K hK; go_big_quiet_op; go_big_quiet_on)
    (refine wpG_val (v := .bool true) rfl rfl (fun u hu => eqlBc_op u rfl rfl rfl) ?_ hw804; intro K hK; go_big_quiet_op; go_big_quiet_on)
    (refine wpG_op rfl rfl rfl ?_; intro K hK; go_big_quiet_op; go_big_quiet_on)
    clear hone hw804
    refine wpG_nil ?_
    intro u806 E2'
    have EX805 := Lib.hid E2'
    clear E2'
    have HBE := Lib.hid (HB3.out.trans ((EnvX.bel EX805.out).mono HB3.out.size))
    go_wp2
    go_ret
    exact ⟨rfl, HBE.out⟩
  have D12 : Hid (decide ((np : Int) ≤ q) = false) := decide_eq_false d12
  obtain ⟨j, rfl⟩ := Int.eq_ofNat_of_zero_le (show 0 ≤ q by omega)
  have HJ : Hid (j < np) := by show _ < _; omega
  clear d7 d12
  go_upto_region 7 with (fail)
  refine wp_region_Hx (w0 := w3) [0, 1, 2, 3, 4, 5, 6, 7, 8, 9, 10, 11, 12, 13, 14] [(w3.heap.size, Obj.cells (txA xr) 25 (0, 0)), (w.heap.size, Obj.cells (txA t) 25 (0, 0))] rfl E3b.out ?_
  refine lexH_phase [0, 1, 2, 3, 4, 5, 6, 7, 8, 9, 10, 11, 12, 13, 14] [] ?_
  have hw801 : EnvX w3 _ [(w3.heap.size, Obj.cells (txA xr) 25 (0, 0)), (w.heap.size, Obj.cells (txA t) 25 (0, 0))] := E3b.out
  have hone := @EnvC.one _ _ _ hw801
  (refine wpG_op rfl rfl rfl ?_; intro K hK; go_big_quiet_op; go_big_quiet_on)
  (refine wpG_op rfl rfl rfl ?_; intro K hK; go_big_quiet_op; go_big_quiet_on)
  (refine wpG_val (v := .int .i64 (n : Int)) rfl rfl (fun u hu => len_op Tryd.underlying26 HN63.out u rfl) ?_ hw801; intro K hK; go_big_quiet_op; go_big_quiet_on)
  (refine wpG_val (v := .bool true) rfl rfl (fun u hu => eqlI_op u C3.out rfl rfl) ?_ hw801; intro K hK; go_big_quiet_op; go_big_quiet_on)
  (refine wpG_val (v := .bool false) rfl rfl (fun u hu => neqBc_op u rfl rfl rfl) ?_ hw801; intro K hK; go_big_quiet_op; go_big_quiet_on)
  (refine wpG_op rfl rfl rfl ?_; intro K hK; go_big_quiet_op; go_big_quiet_on)
  (refine wpG_op rfl rfl rfl ?_; intro K hK; go_big_quiet_op; go_big_quiet_on)
  (refine wpG_val (v := .bool false) rfl rfl (fun u hu => ltZ_op u D7.out rfl rfl) ?_ hw801; intro K hK; go_big_quiet_op; go_big_quiet_on)
  (refine wpG_op rfl rfl rfl ?_; intro K hK; go_big_quiet_op; go_big_quiet_on)
  (refine wpG_op rfl rfl rfl ?_; intro K hK; go_big_quiet_op; go_big_quiet_on)
  (refine wpG_op rfl rfl rfl ?_; intro K hK; go_big_quiet_op; go_big_quiet_on)
  (refine wpG_op rfl rfl rfl ?_; intro K hK; go_big_quiet_op; go_big_quiet_on)
  (refine wpG_val (v := .int .i64 (np : Int)) rfl rfl (fun u hu => len_op Tryd.underlying26 HP63.out u rfl) ?_ hw801; intro K hK; go_big_quiet_op; go_big_quiet_on)
  (refine wpG_val (v := .bool false) rfl rfl (fun u hu => geZ_op u D12.out rfl rfl) ?_ hw801; intro K hK; go_big_quiet_op; go_big_quiet_on)
  (refine wpG_op rfl rfl rfl ?_; intro K hK; go_big_quiet_op; go_big_quiet_on)
  clear hone hw801
  refine wpG_nil ?_
  intro u803 E2'
  have EX802 := Lib.hid E2'
  clear E2'
  have HJC : Hid (j ≤ cp) := by show _ ≤ _; have h1 := HJ.out; have h2 := HC_xs.out.1; omega
  go_upto_region 9 with (fail)
  have HRC := Lib.hid (show Calls Tryd.prog 14 #[.slice Ap j cp] u803 fun e w' => (∃ t : TxM, e = .returned (.tuple #[txV t, .bool false]) ∧ t.r = (readX (xs.take j)).1 ∧ TxOk w' t) ∧ Below u803.heap.size u803 w' from by
      have h0 := HPX.out
      have hj := HJ.out
      have hn := HNP.out
      rw [HX_xs.out, HN_xs.out] at h0
      have h1 := HH.out.read Ap j cp (xs.take j) u803 (by rw [List.length_take, HN_xs.out]; omega) (by omega) (by have := HC_xs.out.1; omega) HC_xs.out.2 (fun y hy => h0.2.1 y (List.mem_of_mem_take hy)) ((HB_xs.out.up (EnvX.bel EX802.out)).takeN j) (HT3.out.below EX802.out.bel)
      rwa [h0.2.2.2 j hj] at h1)
  go_wp2_with ((with_reducible refine wpList_exec (o := ⟨some 70, _, _, _, _, _⟩) ?_ ?_ ?_); (rfl); (exact cutXh_op elB _ HJC.out rfl rfl))
  refine HRC.out.mono ?_
  rintro e w4 ⟨⟨yr, rfl, hr0, hk0⟩, hb⟩
  have HR_yr := Lib.hid hr0
  have K_yr := Lib.hid hk0
  have hbb := (EnvX.below EX802.out hb).bel
  have E4 : Hid (EnvX w4 w4 [(w3.heap.size, Obj.cells (txA xr) 25 (0, 0)), (w.heap.size, Obj.cells (txA t) 25 (0, 0))]) := ⟨Below.refl _ _, (EnvX.below EX802.out hb).box⟩
  have HB4 := Lib.hid (HB3.out.trans (hbb.mono HB3.out.size))
  have HT4 := Lib.hid (HT3.out.below hbb)
  clear hr0 hk0 hb hbb EX802 HRC
  have E4b : Hid (EnvX w4 (w4.alloc (.cells (txA yr) 25)) ((w4.heap.size, Obj.cells (txA yr) 25 (0, 0)) :: [(w3.heap.size, Obj.cells (txA xr) 25 (0, 0)), (w.heap.size, Obj.cells (txA t) 25 (0, 0))])) := EnvX.new E4.out _
  unfold txV
  go_upto_region 10 with ((with_reducible refine wpList_store_row (o := ⟨none, .store 25 _ _, _, _, _, _⟩) ?_ 25 (.tmp 13) (.tmp 72) ?_ w4.heap.size (txA yr) ?_ ?_ 25 _ (heap_alloc_last w4 _) (infoTx _ rfl) ?_ (txA_one _) ?_); (rfl); (rfl); (rfl); (rfl); (rfl); rw [World.setRow_alloc_new])
  clear E4
  go_upto_region 10 with (fail)
  refine wp_region_Hx (w0 := w4) [0, 1, 2] [(w4.heap.size, Obj.cells (txA yr) 25 (0, 0)), (w3.heap.size, Obj.cells (txA xr) 25 (0, 0)), (w.heap.size, Obj.cells (txA t) 25 (0, 0))] rfl E4b.out ?_
  refine lexH_phase [0, 1, 2] [] ?_
  have hw951 : EnvX w4 _ [(w4.heap.size, Obj.cells (txA yr) 25 (0, 0)), (w3.heap.size, Obj.cells (txA xr) 25 (0, 0)), (w.heap.size, Obj.cells (txA t) 25 (0, 0))] := E4b.out
  have hone := @EnvC.one _ _ _ hw951
  (refine wpG_op rfl rfl rfl ?_; intro K hK; go_big_quiet_op; go_big_quiet_on)
  (refine wpG_op rfl rfl rfl ?_; intro K hK; go_big_quiet_op; go_big_quiet_on)
  (refine wpG_op rfl rfl rfl ?_; intro K hK; go_big_quiet_op; go_big_quiet_on)
  clear hone hw951
  refine wpG_nil ?_
  intro u953 E2'
  have EX952 := Lib.hid E2'
  clear E2'
  have HBE := Lib.hid (HB4.out.trans ((EnvX.bel EX952.out).mono HB4.out.size))
  go_wp2
  go_ret
  exact ⟨rfl, HBE.out⟩
set_option maxRecDepth 20000 in
set_option maxHeartbeats 8000000 in
theorem law_cutX_some (H : CoinC) (t : TxM) (q : Int) (b : List Int) (A : Option Addr) (n c : Nat) (w : World) (kt : TxOk w t) (hq : I64 q) (hl : b.length = n) (hnc : n ≤ c) (hcm : c ≤ maxLen) (hB : isB b) (hx : Bytes w w.heap.size A b) (ht : Tables w) (k1 : fewX t.r = true) (k2 : mayX t.r = true) (k3 : n ≤ 100) (k4 : n ≠ 0) :
    Calls Tryd.prog 6 #[txV t, .int .i64 q, .slice A n c] w fun e w' => e = .returned (.bool true) ∧ Below w.heap.size w w' := by
  have HN63 : Hid (n < 9223372036854775808) := by show _ < _; unfold maxLen at hcm; omega
  have HF_t : Hid (fewX t.r = true) := k1
  have HP_t : Hid ((putX t.r).2 = true) := (putX_2 _).trans k2
  have C12 : Hid (decide ((100 : Int) < (n : Int)) = false) := decide_eq_false (by omega)
  have C3 : Hid (decide ((n : Int) = 0) = false) := decide_eq_false (by omega)
  have HQ := Lib.hid hq
  have HBM := Lib.hid (And.intro hl hB)
  have HN1 := Lib.hid k3
  have HPX : Hid ((putX t.r).1.length ≤ 122 ∧ isB (putX t.r).1 ∧ (∀ m, (readX ((putX t.r).1 ++ m)).2 = decide (m.length = 0)) ∧ ∀ k, k < (putX t.r).1.length → (readX ((putX t.r).1.take k)).2 = false) := by
    refine ⟨putX_len kt.ok, putX_byte kt.ok, fun m => ?_, fun k hk => ?_⟩
    · rw [putX_yes k2, readX_snd]; exact read_moreX kt.ok k2 m
    · rw [putX_yes k2] at hk ⊢; rw [readX_snd]; exact read_cutX kt.ok hk
  have HDZ : Hid (decide (b.length = 0) = false) := decide_eq_false (by omega)
  clear k1 k2 k3 k4
  have E0 : Hid (EnvX w (w.alloc (.cells (txA t) 25)) [(w.heap.size, Obj.cells (txA t) 25 (0, 0))]) := (EnvX.start w).new _
  have HAW := Lib.hid (cawake_any H (w.alloc (.cells (txA t) 25)) (ht.below (EnvX.bel E0.out)))
  have HT := Lib.hid ht
  have HH := Lib.hid H
  have J_kt := Lib.hid kt
  have J_hx := Lib.hid hx
  clear ht H kt hx hq hl hnc hcm hB
  unfold txV
  go_enter Tryd.func6, Tryd.ntmps6
  go_upto_region 1 with (fail)
  generalize (w.alloc (.cells (txA t) 25)) = W at *
  go_wp2_with fail
  refine HAW.out.mono ?_
  rintro e w1 ⟨rfl, hb1⟩
  have HB1 := Lib.hid (EnvX.below E0.out hb1).bel
  have E1 : Hid (EnvX w1 w1 [(w.heap.size, Obj.cells (txA t) 25 (0, 0))]) := ⟨Below.refl _ _, (EnvX.below E0.out hb1).box⟩
  have HT1 := Lib.hid (HT.out.below HB1.out)
  have K_kt := Lib.hid (J_kt.out.up HB1.out)
  have K_hx := Lib.hid (J_hx.out.up HB1.out)
  clear hb1 E0 HAW HT J_kt J_hx
  go_upto_region 2 with (fail)
  refine wp_region_Hx (w0 := w1) [0, 1, 2] [(w.heap.size, Obj.cells (txA t) 25 (0, 0))] rfl E1.out ?_
  refine lexH_phase [0, 1, 2] [] ?_
  have hw1 : EnvX w1 _ [(w.heap.size, Obj.cells (txA t) 25 (0, 0))] := E1.out
  have hone := @EnvC.one _ _ _ hw1
  (refine wpG_val (v := txV t) rfl rfl (fun u hu => load_any_op u (box_tx hu (List.Mem.head _)) rfl) ?_ hw1; intro K hK; go_big_quiet_op; go_big_quiet_on)
  (refine wpG_call (f := 10) (args := #[txV t]) (v := .bool true) rfl rfl rfl Tryd.func10 rfl rfl (fun u hu => by have h1 := few_any t u (K_kt.out.up (EnvX.bel hu)); rwa [HF_t.out] at h1) ?_ hw1; intro K hK; go_big_quiet_op; go_big_quiet_on)
  (refine wpG_op rfl rfl rfl ?_; intro K hK; go_big_quiet_op; go_big_quiet_on)
  clear hone hw1
  refine wpG_nil ?_
  intro u3 E2'
  have EX2 := Lib.hid E2'
  clear E2'
  have HLD : Hid ((loadVar 25 ⟨w.heap.size, 0, none⟩).run Tryd.prog u3 = .ok (.agg (txA t)) u3) := box_tx EX2.out (List.Mem.head _)
  have HPT : Hid (Calls Tryd.prog 12 #[.agg (txA t)] u3 fun e w' => (∃ v, e = .returned (.tuple #[v, .bool true]) ∧ OwnB w' u3.heap.size v (putX t.r).1) ∧ Below u3.heap.size u3 w') := by
    have h1 := HH.out.put t u3 (K_kt.out.up EX2.out.bel) (HT1.out.below (EnvX.bel EX2.out))
    rwa [HP_t.out] at h1
  go_upto_region 3 with (fail)
  go_wp2_with ((with_reducible refine wpList_load_run (o := ⟨some 19, _, _, _, _, _⟩) ?_ 25 (.tmp 3) ?_ ⟨w.heap.size, 0, none⟩ ?_ HLD.out ?_); (rfl); (rfl); (rfl))
  refine HPT.out.mono ?_
  rintro e w2 ⟨⟨v3, rfl, hv⟩, hb⟩
  obtain ⟨Ap, cp, rfl⟩ := hv.form
  have HB_xs := Lib.hid hv.bytes.2
  have HC_xs := Lib.hid hv.cap
  have hbb := (EnvX.below EX2.out hb).bel
  have E2 : Hid (EnvX w2 w2 [(w.heap.size, Obj.cells (txA t) 25 (0, 0))]) := ⟨Below.refl _ _, (EnvX.below EX2.out hb).box⟩
  have HB2 := Lib.hid (HB1.out.trans (hbb.mono HB1.out.size))
  have HT2 := Lib.hid (HT1.out.below hbb)
  have K_kt := Lib.hid (K_kt.out.up hbb)
  have K_hx := Lib.hid (K_hx.out.up hbb)
  clear hv hb HLD HPT hbb EX2
  obtain ⟨np, hnp⟩ : ∃ np, (putX t.r).1.length = np := ⟨_, rfl⟩
  obtain ⟨xs, hxs⟩ : ∃ xs, (putX t.r).1 = xs := ⟨_, rfl⟩
  have HN_xs := Lib.hid hnp
  have HX_xs := Lib.hid hxs
  rw [hnp] at HC_xs ⊢
  rw [hxs] at HB_xs HN_xs
  clear hnp hxs
  go_upto_region 4 with (fail)
  refine wp_region_Hx (w0 := w2) [0, 1, 2, 3, 4, 5, 6, 7, 8, 9, 10, 11, 12, 13, 14] [(w.heap.size, Obj.cells (txA t) 25 (0, 0))] rfl E2.out ?_
  refine lexH_phase [0, 1, 2, 3, 4, 5, 6, 7, 8, 9, 10, 11, 12, 13, 14] [] ?_
  have hw501 : EnvX w2 _ [(w.heap.size, Obj.cells (txA t) 25 (0, 0))] := E2.out
  have hone := @EnvC.one _ _ _ hw501
  (refine wpG_op rfl rfl rfl ?_; intro K hK; go_big_quiet_op; go_big_quiet_on)
  (refine wpG_op rfl rfl rfl ?_; intro K hK; go_big_quiet_op; go_big_quiet_on)
  (refine wpG_op rfl rfl rfl ?_; intro K hK; go_big_quiet_op; go_big_quiet_on)
  (refine wpG_op rfl rfl rfl ?_; intro K hK; go_big_quiet_op; go_big_quiet_on)
  (refine wpG_op rfl rfl rfl ?_; intro K hK; go_big_quiet_op; go_big_quiet_on)
  (refine wpG_op rfl rfl rfl ?_; intro K hK; go_big_quiet_op; go_big_quiet_on)
  (refine wpG_op rfl rfl rfl ?_; intro K hK; go_big_quiet_op; go_big_quiet_on)
  (refine wpG_op rfl rfl rfl ?_; intro K hK; go_big_quiet_op; go_big_quiet_on)
  (refine wpG_op rfl rfl rfl ?_; intro K hK; go_big_quiet_op; go_big_quiet_on)
  (refine wpG_op rfl rfl rfl ?_; intro K hK; go_big_quiet_op; go_big_quiet_on)
  (refine wpG_op rfl rfl rfl ?_; intro K hK; go_big_quiet_op; go_big_quiet_on)
  (refine wpG_op rfl rfl rfl ?_; intro K hK; go_big_quiet_op; go_big_quiet_on)
  (refine wpG_val (v := .int .i64 (n : Int)) rfl rfl (fun u hu => len_op Tryd.underlying26 HN63.out u rfl) ?_ hw501; intro K hK; go_big_quiet_op; go_big_quiet_on)
  (refine wpG_val (v := .bool false) rfl rfl (fun u hu => gtZ_op u C12.out rfl rfl) ?_ hw501; intro K hK; go_big_quiet_op; go_big_quiet_on)
  (refine wpG_op rfl rfl rfl ?_; intro K hK; go_big_quiet_op; go_big_quiet_on)
  clear hone hw501
  refine wpG_nil ?_
  intro u503 E2'
  have EX502 := Lib.hid E2'
  clear E2'
  go_upto_region 6 with (fail)
  have hE := EX502.out
  obtain ⟨v1, wa, hr1, ho1, hb1⟩ := (OwnB.nil u503 u503.heap.size).append (c := cp) HN_xs.out (HB_xs.out.up (EnvX.bel hE)) (by have := HPX.out.1; rw [HX_xs.out, HN_xs.out] at this; simp only [List.length_nil]; omega) (Nat.le_refl _)
  obtain ⟨v2, wb, hr2, ho2, hb2⟩ := ho1.append (c := c) HBM.out.1 ((K_hx.out.up (EnvX.bel hE)).below hb1) (by have h1 := HPX.out.1; have h2 := HN1.out; rw [HX_xs.out] at h1; simp only [List.nil_append]; omega) hb1.size
  have HR1 := Lib.hid hr1
  have HR2 := Lib.hid hr2
  have EA : Hid (EnvX w2 wb [(w.heap.size, Obj.cells (txA t) 25 (0, 0))]) := EnvX.below hE (hb1.trans hb2)
  obtain ⟨Al, cl, rfl⟩ := ho2.form
  have HBL := Lib.hid ho2.bytes.2
  have HCL := Lib.hid ho2.cap
  have hll : ((([] : List Int) ++ xs) ++ b).length = np + n := by rw [List.nil_append, List.length_append, HN_xs.out, HBM.out.1]
  rw [hll] at HCL HR2
  have HLL := Lib.hid hll
  clear hE hr1 hr2 ho1 ho2 hb1 hb2 hll EX502
  generalize u503 = U at *
  have HRC := Lib.hid (show Calls Tryd.prog 14 #[.slice Al (np + n) cl] wb fun e w' => (∃ t : TxM, e = .returned (.tuple #[txV t, .bool false]) ∧ t.r = (readX (([] ++ xs) ++ b)).1 ∧ TxOk w' t) ∧ Below wb.heap.size wb w' from by
      have h0 := HPX.out
      rw [HX_xs.out, HN_xs.out] at h0
      have h1 := HH.out.read Al (np + n) cl (([] ++ xs) ++ b) wb HLL.out (by have := HN1.out; omega) HCL.out.1 HCL.out.2 (by rw [List.nil_append, isB_append]; exact ⟨h0.2.1, HBM.out.2⟩) HBL.out (HT2.out.below EA.out.bel)
      have h2 := h0.2.2.1 b
      rw [HDZ.out] at h2
      rw [List.nil_append] at h1 ⊢
      rwa [h2] at h1)
  go_wp2_with (first | (at_builtin; (with_reducible refine wpList_append_run (o := ⟨some 41, _, _, _, _, _⟩) ?_ (.const (.slice none 0 0)) (.tmp 40) ?_ ?_ ?_ ?_ HR1.out ?_); (rfl); (rfl); (rfl); (rfl); (rfl)) | (at_builtin; (with_reducible refine wpList_append_run (o := ⟨some 43, _, _, _, _, _⟩) ?_ (.tmp 41) (.tmp 42) ?_ ?_ ?_ ?_ HR2.out ?_); (rfl); (rfl); (rfl); (rfl); (rfl)))
  refine HRC.out.mono ?_
  rintro e w3 ⟨⟨xr, rfl, hr0, hk0⟩, hb⟩
  have HR_xr := Lib.hid hr0
  have K_xr := Lib.hid hk0
  have hbb := (EnvX.below EA.out hb).bel
  have E3 : Hid (EnvX w3 w3 [(w.heap.size, Obj.cells (txA t) 25 (0, 0))]) := ⟨Below.refl _ _, (EnvX.below EA.out hb).box⟩
  have HB3 := Lib.hid (HB2.out.trans (hbb.mono HB2.out.size))
  have HT3 := Lib.hid (HT2.out.below hbb)
  have K_kt := Lib.hid (K_kt.out.up hbb)
  have HB_xs := Lib.hid (HB_xs.out.up hbb)
  clear hr0 hk0 hb hbb EA HRC
  have E3b : Hid (EnvX w3 (w3.alloc (.cells (txA xr) 25)) ((w3.heap.size, Obj.cells (txA xr) 25 (0, 0)) :: [(w.heap.size, Obj.cells (txA t) 25 (0, 0))])) := EnvX.new E3.out _
  unfold txV
  go_upto_region 7 with ((with_reducible refine wpList_store_row (o := ⟨none, .store 25 _ _, _, _, _, _⟩) ?_ 25 (.tmp 11) (.tmp 45) ?_ w3.heap.size (txA xr) ?_ ?_ 25 _ (heap_alloc_last w3 _) (infoTx _ rfl) ?_ (txA_one _) ?_); (rfl); (rfl); (rfl); (rfl); (rfl); rw [World.setRow_alloc_new])
  clear E3
  have HNP : Hid (np ≤ 122) := by have h1 := HPX.out.1; rw [HX_xs.out, HN_xs.out] at h1; exact h1
  have HP63 : Hid (np < 9223372036854775808) := by show _ < _; have := HNP.out; omega
  by_cases d7 : q < 0
  · have D7 : Hid (decide (q < 0) = true) := decide_eq_true d7
    clear d7
    go_upto_region 7 with (fail)
    refine wp_region_Hx (w0 := w3) [0, 1, 2, 3, 4, 5, 6, 7, 8, 9, 10, 11, 12, 13, 14] [(w3.heap.size, Obj.cells (txA xr) 25 (0, 0)), (w.heap.size, Obj.cells (txA t) 25 (0, 0))] rfl E3b.out ?_
    refine lexH_phase [0, 1, 2, 3, 4, 5, 6, 7, 8, 9, 10, 11, 12, 13, 14] [] ?_
    have hw801 : EnvX w3 _ [(w3.heap.size, Obj.cells (txA xr) 25 (0, 0)), (w.heap.size, Obj.cells (txA t) 25 (0, 0))] := E3b.out
    have hone := @EnvC.one _ _ _ hw801
    (refine wpG_op rfl rfl rfl ?_; intro K hK; go_big_quiet_op; go_big_quiet_on)
    (refine wpG_op rfl rfl rfl ?_; intro K hK; go_big_quiet_op; go_big_quiet_on)
    (refine wpG_val (v := .int .i64 (n : Int)) rfl rfl (fun u hu => len_op Tryd.underlying26 HN63.out u rfl) ?_ hw801; intro K hK; go_big_quiet_op; go_big_quiet_on)
    (refine wpG_val (v := .bool false) rfl rfl (fun u hu => eqlI_op u C3.out rfl rfl) ?_ hw801; intro K hK; go_big_quiet_op; go_big_quiet_on)
    (refine wpG_val (v := .bool false) rfl rfl (fun u hu => neqBc_op u rfl rfl rfl) ?_ hw801; intro K hK; go_big_quiet_op; go_big_quiet_on)
    (refine wpG_op rfl rfl rfl ?_; intro K hK; go_big_quiet_op; go_big_quiet_on)
    (refine wpG_op rfl rfl rfl ?_; intro K hK; go_big_quiet_op; go_big_quiet_on)
    (refine wpG_val (v := .bool true) rfl rfl (fun u hu => ltZ_op u D7.out rfl rfl) ?_ hw801; intro K hK; go_big_quiet_op; go_big_quiet_on)
    (refine wpG_op rfl rfl rfl ?_; intro K hK; go_big_quiet_op; go_big_quiet_on)
    (refine wpG_op rfl rfl rfl ?_; intro K hK; go_big_quiet_op; go_big_quiet_on)
    (refine wpG_skip rfl rfl ?_ hw801; intro K hK; go_big_quiet_op; go_big_quiet_on)
    (refine wpG_skip rfl rfl ?_ hw801; intro K hK; go_big_quiet_op; go_big_quiet_on)
    (refine wpG_skip rfl rfl ?_ hw801; intro K hK; go_big_quiet_op; go_big_quiet_on)
    (refine wpG_skip rfl rfl ?_ hw801; intro K hK; go_big_quiet_op; go_big_quiet_on)
    (refine wpG_op rfl rfl rfl ?_; intro K hK; go_big_quiet_op; go_big_quiet_on)
    clear hone hw801
    refine wpG_nil ?_
    intro u803 E2'
    have EX802 := Lib.hid E2'
    clear E2'
    go_upto_region 8 with (fail)
    refine wp_region_Hx (w0 := w3) [0, 1, 2, 3, 4, 5] [(w3.heap.size, Obj.cells (txA xr) 25 (0, 0)), (w.heap.size, Obj.cells (txA t) 25 (0, 0))] rfl EX802.out ?_
    refine lexH_phase [0, 1, 2, 3, 4, 5] [] ?_
    have hw804 : EnvX w3 _ [(w3.heap.size, Obj.cells (txA xr) 25 (0, 0)), (w.heap.size, Obj.cells (txA t) 25 (0, 0))] := EX802.out
    have hone := @EnvC.one _ _ _ hw804
    (refine wpG_op rfl rfl rfl ?_; intro K hK; go_big_quiet_op; go_big_quiet_on)
    (refine wpG_op rfl rfl rfl ?_; intro K hK; go_big_quiet_op; go_big_quiet_on)
    (refine wpG_val (v := .int .i64 (n : Int)) rfl rfl (fun u hu => len_op Tryd.underlying26 HN63.out u rfl) ?_ hw804; intro K hK; go_big_quiet_op; go_big_quiet_on)
    (refine wpG_val (v := .bool false) rfl rfl (fun u hu => eqlI_op u C3.out rfl rfl) ?_ hw804; intro K hK; go_big_quiet_op; go_big_quiet_on)
    (refine wpG_val (v := .bool true) rfl rfl (fun u hu => eqlBc_op u rfl rfl rfl) ?_ hw804; intro K hK; go_big_quiet_op; go_big_quiet_on)
    (refine wpG_op rfl rfl rfl ?_; intro K hK; go_big_quiet_op; go_big_quiet_on)
    clear hone hw804
    refine wpG_nil ?_
    intro u806 E2'
    have EX805 := Lib.hid E2'
    clear E2'
    have HBE := Lib.hid (HB3.out.trans ((EnvX.bel EX805.out).mono HB3.out.size))
    go_wp2
    go_ret
    exact ⟨rfl, HBE.out⟩
  have D7 : Hid (decide (q < 0) = false) := decide_eq_false d7
  by_cases d12 : (np : Int) ≤ q
  · have D12 : Hid (decide ((np : Int) ≤ q) = true) := decide_eq_true d12
    clear d7 d12
    go_upto_region 7 with (fail)
    refine wp_region_Hx (w0 := w3) [0, 1, 2, 3, 4, 5, 6, 7, 8, 9, 10, 11, 12, 13, 14] [(w3.heap.size, Obj.cells (txA xr) 25 (0, 0)), (w.heap.size, Obj.cells (txA t) 25 (0, 0))] rfl E3b.out ?_
    refine lexH_phase [0, 1, 2, 3, 4, 5, 6, 7, 8, 9, 10, 11, 12, 13, 14] [] ?_
    have hw801 : EnvX w3 _ [(w3.heap.size, Obj.cells (txA xr) 25 (0, 0)), (w.heap.size, Obj.cells (txA t) 25 (0, 0))] := E3b.out
    have hone := @EnvC.one _ _ _ hw801
    (refine wpG_op rfl rfl rfl ?_; intro K hK; go_big_quiet_op; go_big_quiet_on)
    (refine wpG_op rfl rfl rfl ?_; intro K hK; go_big_quiet_op; go_big_quiet_on)
    (refine wpG_val (v := .int .i64 (n : Int)) rfl rfl (fun u hu => len_op Tryd.underlying26 HN63.out u rfl) ?_ hw801; intro K hK; go_big_quiet_op; go_big_quiet_on)
    (refine wpG_val (v := .bool false) rfl rfl (fun u hu => eqlI_op u C3.out rfl rfl) ?_ hw801; intro K hK; go_big_quiet_op; go_big_quiet_on)
    (refine wpG_val (v := .bool false) rfl rfl (fun u hu => neqBc_op u rfl rfl rfl) ?_ hw801; intro K hK; go_big_quiet_op; go_big_quiet_on)
    (refine wpG_op rfl rfl rfl ?_; intro K hK; go_big_quiet_op; go_big_quiet_on)
    (refine wpG_op rfl rfl rfl ?_; intro K hK; go_big_quiet_op; go_big_quiet_on)
    (refine wpG_val (v := .bool false) rfl rfl (fun u hu => ltZ_op u D7.out rfl rfl) ?_ hw801; intro K hK; go_big_quiet_op; go_big_quiet_on)
    (refine wpG_op rfl rfl rfl ?_; intro K hK; go_big_quiet_op; go_big_quiet_on)
    (refine wpG_op rfl rfl rfl ?_; intro K hK; go_big_quiet_op; go_big_quiet_on)
    (refine wpG_op rfl rfl rfl ?_; intro K hK; go_big_quiet_op; go_big_quiet_on)
    (refine wpG_op rfl rfl rfl ?_; intro K hK; go_big_quiet_op; go_big_quiet_on)
    (refine wpG_val (v := .int .i64 (np : Int)) rfl rfl (fun u hu => len_op Tryd.underlying26 HP63.out u rfl) ?_ hw801; intro K hK; go_big_quiet_op; go_big_quiet_on)
    (refine wpG_val (v := .bool true) rfl rfl (fun u hu => geZ_op u D12.out rfl rfl) ?_ hw801; intro K hK; go_big_quiet_op; go_big_quiet_on)
    (refine wpG_op rfl rfl rfl ?_; intro K hK; go_big_quiet_op; go_big_quiet_on)
    clear hone hw801
    refine wpG_nil ?_
    intro u803 E2'
    have EX802 := Lib.hid E2'
    clear E2'
    go_upto_region 8 with (fail)
    refine wp_region_Hx (w0 := w3) [0, 1, 2, 3, 4, 5] [(w3.heap.size, Obj.cells (txA xr) 25 (0, 0)), (w.heap.size, Obj.cells (txA t) 25 (0, 0))] rfl EX802.out ?_
    refine lexH_phase [0, 1, 2, 3, 4, 5] [] ?_
    have hw804 : EnvX w3 _ [(w3.heap.size, Obj.cells (txA xr) 25 (0, 0)), (w.heap.size, Obj.cells (txA t) 25 (0, 0))] := EX802.out
    have hone := @EnvC.one _ _ _ hw804
    (refine wpG_op rfl rfl rfl ?_; intro K hK; go_big_quiet_op; go_big_quiet_on)
    (refine wpG_op rfl rfl rfl ?_; intro K hK; go_big_quiet_op; go_big_quiet_on)
    (refine wpG_val (v := .int .i64 (n : Int)) rfl rfl (fun u hu => len_op Tryd.underlying26 HN63.out u rfl) ?_ hw804; intro K hK; go_big_quiet_op; go_big_quiet_on)
    (refine wpG_val (v := .bool false) rfl rfl (fun u hu => eqlI_op u C3.out rfl rfl) ?_ hw804; intro K hK; go_big_quiet_op; go_big_quiet_on)
    (refine wpG_val (v := .bool true) rfl rfl (fun u hu => eqlBc_op u rfl rfl rfl) ?_ hw804; intro K hK; go_big_quiet_op; go_big_quiet_on)
    (refine wpG_op rfl rfl rfl ?_; intro K hK; go_big_quiet_op; go_big_quiet_on)
    clear hone hw804
    refine wpG_nil ?_
    intro u806 E2'
    have EX805 := Lib.hid E2'
    clear E2'
    have HBE := Lib.hid (HB3.out.trans ((EnvX.bel EX805.out).mono HB3.out.size))
    go_wp2
    go_ret
    exact ⟨rfl, HBE.out⟩
  have D12 : Hid (decide ((np : Int) ≤ q) = false) := decide_eq_false d12
  obtain ⟨j, rfl⟩ := Int.eq_ofNat_of_zero_le (show 0 ≤ q by omega)
  have HJ : Hid (j < np) := by show _ < _; omega
  clear d7 d12
  go_upto_region 7 with (fail)
  refine wp_region_Hx (w0 := w3) [0, 1, 2, 3, 4, 5, 6, 7, 8, 9, 10, 11, 12, 13, 14] [(w3.heap.size, Obj.cells (txA xr) 25 (0, 0)), (w.heap.size, Obj.cells (txA t) 25 (0, 0))] rfl E3b.out ?_
  refine lexH_phase [0, 1, 2, 3, 4, 5, 6, 7, 8, 9, 10, 11, 12, 13, 14] [] ?_
  have hw801 : EnvX w3 _ [(w3.heap.size, Obj.cells (txA xr) 25 (0, 0)), (w.heap.size, Obj.cells (txA t) 25 (0, 0))] := E3b.out
  have hone := @EnvC.one _ _ _ hw801
  (refine wpG_op rfl rfl rfl ?_; intro K hK; go_big_quiet_op; go_big_quiet_on)
  (refine wpG_op rfl rfl rfl ?_; intro K hK; go_big_quiet_op; go_big_quiet_on)
  (refine wpG_val (v := .int .i64 (n : Int)) rfl rfl (fun u hu => len_op Tryd.underlying26 HN63.out u rfl) ?_ hw801; intro K hK; go_big_quiet_op; go_big_quiet_on)
  (refine wpG_val (v := .bool false) rfl rfl (fun u hu => eqlI_op u C3.out rfl rfl) ?_ hw801; intro K hK; go_big_quiet_op; go_big_quiet_on)
  (refine wpG_val (v := .bool false) rfl rfl (fun u hu => neqBc_op u rfl rfl rfl) ?_ hw801; intro K hK; go_big_quiet_op; go_big_quiet_on)
  (refine wpG_op rfl rfl rfl ?_; intro K hK; go_big_quiet_op; go_big_quiet_on)
  (refine wpG_op rfl rfl rfl ?_; intro K hK; go_big_quiet_op; go_big_quiet_on)
  (refine wpG_val (v := .bool false) rfl rfl (fun u hu => ltZ_op u D7.out rfl rfl) ?_ hw801; intro K hK; go_big_quiet_op; go_big_quiet_on)
  (refine wpG_op rfl rfl rfl ?_; intro K hK; go_big_quiet_op; go_big_quiet_on)
  (refine wpG_op rfl rfl rfl ?_; intro K hK; go_big_quiet_op; go_big_quiet_on)
  (refine wpG_op rfl rfl rfl ?_; intro K hK; go_big_quiet_op; go_big_quiet_on)
  (refine wpG_op rfl rfl rfl ?_; intro K hK; go_big_quiet_op; go_big_quiet_on)
  (refine wpG_val (v := .int .i64 (np : Int)) rfl rfl (fun u hu => len_op Tryd.underlying26 HP63.out u rfl) ?_ hw801; intro K hK; go_big_quiet_op; go_big_quiet_on)
  (refine wpG_val (v := .bool false) rfl rfl (fun u hu => geZ_op u D12.out rfl rfl) ?_ hw801; intro K hK; go_big_quiet_op; go_big_quiet_on)
  (refine wpG_op rfl rfl rfl ?_; intro K hK; go_big_quiet_op; go_big_quiet_on)
  clear hone hw801
  refine wpG_nil ?_
  intro u803 E2'
  have EX802 := Lib.hid E2'
  clear E2'
  have HJC : Hid (j ≤ cp) := by show _ ≤ _; have h1 := HJ.out; have h2 := HC_xs.out.1; omega
  go_upto_region 9 with (fail)
  have HRC := Lib.hid (show Calls Tryd.prog 14 #[.slice Ap j cp] u803 fun e w' => (∃ t : TxM, e = .returned (.tuple #[txV t, .bool false]) ∧ t.r = (readX (xs.take j)).1 ∧ TxOk w' t) ∧ Below u803.heap.size u803 w' from by
      have h0 := HPX.out
      have hj := HJ.out
      have hn := HNP.out
      rw [HX_xs.out, HN_xs.out] at h0
      have h1 := HH.out.read Ap j cp (xs.take j) u803 (by rw [List.length_take, HN_xs.out]; omega) (by omega) (by have := HC_xs.out.1; omega) HC_xs.out.2 (fun y hy => h0.2.1 y (List.mem_of_mem_take hy)) ((HB_xs.out.up (EnvX.bel EX802.out)).takeN j) (HT3.out.below EX802.out.bel)
      rwa [h0.2.2.2 j hj] at h1)
  go_wp2_with ((with_reducible refine wpList_exec (o := ⟨some 70, _, _, _, _, _⟩) ?_ ?_ ?_); (rfl); (exact cutXh_op elB _ HJC.out rfl rfl))
  refine HRC.out.mono ?_
  rintro e w4 ⟨⟨yr, rfl, hr0, hk0⟩, hb⟩
  have HR_yr := Lib.hid hr0
  have K_yr := Lib.hid hk0
  have hbb := (EnvX.below EX802.out hb).bel
  have E4 : Hid (EnvX w4 w4 [(w3.heap.size, Obj.cells (txA xr) 25 (0, 0)), (w.heap.size, Obj.cells (txA t) 25 (0, 0))]) := ⟨Below.refl _ _, (EnvX.below EX802.out hb).box⟩
  have HB4 := Lib.hid (HB3.out.trans (hbb.mono HB3.out.size))
  have HT4 := Lib.hid (HT3.out.below hbb)
  clear hr0 hk0 hb hbb EX802 HRC
  have E4b : Hid (EnvX w4 (w4.alloc (.cells (txA yr) 25)) ((w4.heap.size, Obj.cells (txA yr) 25 (0, 0)) :: [(w3.heap.size, Obj.cells (txA xr) 25 (0, 0)), (w.heap.size, Obj.cells (txA t) 25 (0, 0))])) := EnvX.new E4.out _
  unfold txV
  go_upto_region 10 with ((with_reducible refine wpList_store_row (o := ⟨none, .store 25 _ _, _, _, _, _⟩) ?_ 25 (.tmp 13) (.tmp 72) ?_ w4.heap.size (txA yr) ?_ ?_ 25 _ (heap_alloc_last w4 _) (infoTx _ rfl) ?_ (txA_one _) ?_); (rfl); (rfl); (rfl); (rfl); (rfl); rw [World.setRow_alloc_new])
  clear E4
  go_upto_region 10 with (fail)
  refine wp_region_Hx (w0 := w4) [0, 1, 2] [(w4.heap.size, Obj.cells (txA yr) 25 (0, 0)), (w3.heap.size, Obj.cells (txA xr) 25 (0, 0)), (w.heap.size, Obj.cells (txA t) 25 (0, 0))] rfl E4b.out ?_
  refine lexH_phase [0, 1, 2] [] ?_
  have hw951 : EnvX w4 _ [(w4.heap.size, Obj.cells (txA yr) 25 (0, 0)), (w3.heap.size, Obj.cells (txA xr) 25 (0, 0)), (w.heap.size, Obj.cells (txA t) 25 (0, 0))] := E4b.out
  have hone := @EnvC.one _ _ _ hw951
  (refine wpG_op rfl rfl rfl ?_; intro K hK; go_big_quiet_op; go_big_quiet_on)
  (refine wpG_op rfl rfl rfl ?_; intro K hK; go_big_quiet_op; go_big_quiet_on)
  (refine wpG_op rfl rfl rfl ?_; intro K hK; go_big_quiet_op; go_big_quiet_on)
  clear hone hw951
  refine wpG_nil ?_
  intro u953 E2'
  have EX952 := Lib.hid E2'
  clear E2'
  have HBE := Lib.hid (HB4.out.trans ((EnvX.bel EX952.out).mono HB4.out.size))
  go_wp2
  go_ret
  exact ⟨rfl, HBE.out⟩
theorem law_cutX (H : CoinC) (t : TxM) (q : Int) (b : List Int) (A : Option Addr) (n c : Nat) (w : World) (kt : TxOk w t) (hq : I64 q) (hl : b.length = n) (hnc : n ≤ c) (hcm : c ≤ maxLen) (hB : isB b) (hx : Bytes w w.heap.size A b) (ht : Tables w) :
    Calls Tryd.prog 6 #[txV t, .int .i64 q, .slice A n c] w fun e w' => e = .returned (.bool true) ∧ Below w.heap.size w w' := by
  cases k1 : fewX t.r with
  | false => exact law_cutX_few H t q b A n c w kt hq hl hnc hcm hB hx ht k1
  | true =>
    cases k2 : mayX t.r with
    | false => exact law_cutX_may H t q b A n c w kt hq hl hnc hcm hB hx ht k1 k2
    | true =>
      by_cases k3 : 100 < n
      · exact law_cutX_many H t q b A n c w kt hq hl hnc hcm hB hx ht k1 k2 k3
      · by_cases k4 : n = 0
        · exact law_cutX_none H t q b A n c w kt hq hl hnc hcm hB hx ht k1 k2 (by omega) k4
        · exact law_cutX_some H t q b A n c w kt hq hl hnc hcm hB hx ht k1 k2 (by omega) k4
end Go.Proofs.YtcodmedgkboohaaDoor

namespace Go.Proofs.YtcodmedgkboohaaDoor.coinCut
set_option maxRecDepth 8000
open Go.ChangeShapes Go.WideShapes Go.ChangeAt Go.RowKit

theorem contract (H : Type) (enc : TypeId × Value → H) (W : World) (base : Nat) (args : Array Value) (ds gs : List (DataW H)) (before : List MemPlace)
    (hval : ∀ (j : Nat) t v, Tryd.f6.params[j]? = some t → args[j]? = some v → Value.okWide Tryd.prog W .any base t v)
    (hW : DataW.Whole enc Tryd.prog Tryd.f6.params.toList Rows.coinCutSpec.vars false W args.toList ds gs before) (hL : laidMetH Tryd.prog Rows.coinCutRow.laid W) :
    Calls Tryd.prog 6 args W fun e W' => ∃ v, e = .returned v ∧ Rows.coinCutSpec.post enc Tryd.prog Tryd.f6 false true false false W args v W' := by
  have hW' := hW
  obtain ⟨p, q, hA0, hV, rfl, hfz, hnd⟩ := hW
  have hA : DataW.TrodAll enc Tryd.prog W 0 (fun _ => true) true Tryd.f6.params.toList args.toList ds p := hA0
  rw [Tryd.params6] at hA hval
  obtain ⟨v0, vs0, d0, ds0, p0, q0, hargs, rfl, rfl, h0, r0⟩ := trodAll_cons hA
  obtain ⟨v1, vs1, d1, ds1, p1, q1, rfl, rfl, rfl, h1, r1⟩ := trodAll_cons r0
  obtain ⟨v2, vs2, d2, ds2, p2, q2, rfl, rfl, rfl, h2, r2⟩ := trodAll_cons r1
  obtain ⟨rfl, rfl, rfl⟩ := trodAll_nil r2
  obtain rfl : args = #[v0, v1, v2] := by cases args; simp_all
  obtain ⟨rfl, rfl⟩ := trodVars_none hV
  have lt0 : ∀ x ∈ p0, x.block < W.heap.size := by obtain ⟨m, hm⟩ := h0; exact DataW.trod_lt m _ _ _ hm
  obtain ⟨x0, rfl, kx0⟩ := open_tx (hval 0 25 v0 rfl rfl) h0
  obtain ⟨x1, rfl, rfl, rfl, wx1⟩ := open_int Tryd.underlying3 (hval 1 3 v1 rfl rfl) h1
  have lt2 : ∀ x ∈ p2, x.block < W.heap.size := by obtain ⟨m, hm⟩ := h2; exact DataW.trod_lt m _ _ _ hm
  obtain ⟨a2, n2, c2, x2, rfl, lx2, nc2, cm2, bx2, px2⟩ := open_bytes (hval 2 26 v2 rfl rfl) h2
  clear hA0
  refine (law_cutX coinC x0 x1 x2 a2 n2 c2 W kx0 (bounds_i64 wx1) lx2 nc2 cm2 bx2 px2 (tables_of_laid hL)).mono fun e W' ⟨he, bel⟩ => ?_
  subst he
  exact ⟨_, rfl, _, _, _, [], _, [], hW', trodAll_mk1 (shut_bool Tryd.underlying4 _), (trodAll_cons_mk (Below.trod laidOut (by kernel_rfl) (of_decide_eq_true (by kernel_rfl)) h0 bel lt0) (trodAll_cons_mk (shut_int Tryd.underlying3 wx1) (trodAll_cons_mk (Below.trod laidOut (by kernel_rfl) (of_decide_eq_true (by kernel_rfl)) h2 bel lt2) trodAll_mk0))), rfl, bel.frame _, fun h => by cases h⟩

def start : Array Value := #[zeroX, .int .i64 0, .slice none 0 0]
theorem reads (os : Os) {H : Type} (enc : TypeId × Value → H) : ∃ places, DataW.whole enc Tryd.prog ((laidWorld os).forCall (fun _ _ => 0) ⟨#[], start, []⟩).memory Tryd.f6.params.toList Rows.coinCutSpec.vars false start.toList 8 = some ([zeroXD, .lit (.int .i64 0), .nil], [], places) :=
  ⟨[], by kernel_rfl⟩

set_option maxRecDepth 100000 in
theorem lifted (os : Os) (started : os.Started) (H : Type) (enc : TypeId × Value → H) (F : Stop.Interp) :
    ReturnsInHanded {} Tryd.checked os 6 .any ((OpenSpec.ofChange Rows.coinCutSpec).preRow enc Tryd.prog Tryd.f6 Rows.coinCutRow.domain false Rows.coinCutRow.laid) (((OpenSpec.ofChange Rows.coinCutSpec).at F).post enc Tryd.prog Tryd.f6 false true false false) := by
  obtain ⟨places, hx⟩ := reads os enc
  refine returnsInHanded_of_row (C := Tryd.checked) (s := OpenSpec.ofChange Rows.coinCutSpec) own started (by kernel_rfl) Tryd.func6
    (witness_row_at (enc := enc) (C := Tryd.checked) false (laidWorld os) start rfl (by kernel_rfl) (by kernel_rfl) (by kernel_rfl)
      (OpenSpec.preRow_of_cond 8 hx (by kernel_rfl) (fun k hk => by cases hk) (by kernel_rfl) (laidMet_of_run' 8 (by kernel_rfl) (by kernel_rfl)))) ?_
  intro W base args ds gs before hval hW _ _ _ hL _ _
  exact contract H enc W base args ds gs before hval hW hL

theorem said : Rows.CoinCutSaid :=
  OpenClaim.holds_of_cond 6 Tryd.f6 rfl rfl rfl rfl rfl rfl rfl ⟨rfl, rfl, rfl, rfl, rfl⟩ rfl rfl rfl rfl rfl (by kernel_rfl) Tryd.func6 (by kernel_rfl)
    (of_decide_eq_true (by kernel_rfl)) (by unfold Func.isWrapper; first | (rw [if_pos (by decide +kernel)]; kernel_rfl) | (rw [if_neg (by decide +kernel)]; exact ⟨rfl, rfl⟩))
    (fun os started H enc _ F => by rw [OpenClaim.pre_eq_preRow]; exact lifted os started H enc F)

theorem plain (f : FuncId) (fn : Func) (hf : Tryd.pinned.checked.prog.funcNamed "stepladder/stepladderlaw09.CoinCut" = some f) (hfn : Tryd.pinned.checked.prog.funcs[f]? = some fn) :
    false = Tryd.pinned.checked.prog.looks [] ∧ ∀ (j : Nat) t, fn.params[j]? = some t → Tryd.pinned.checked.prog.wantsStandIn t = false := by
  obtain rfl : f = 6 := Option.some.inj ((show Tryd.prog.funcNamed "stepladder/stepladderlaw09.CoinCut" = some 6 by kernel_rfl).symm.trans hf) |>.symm
  obtain rfl : fn = Tryd.f6 := (Option.some.inj (Tryd.func6.symm.trans hfn)).symm
  refine ⟨by kernel_rfl, fun j t ht => ?_⟩
  rw [Tryd.params6] at ht
  have hm : t = 25 ∨ t = 3 ∨ t = 26 := by simpa using Array.mem_of_getElem? ht
  rcases hm with rfl | rfl | rfl
  · exact (show Tryd.prog.wantsStandIn 25 = false by kernel_rfl)
  · exact (show Tryd.prog.wantsStandIn 3 = false by kernel_rfl)
  · exact (show Tryd.prog.wantsStandIn 26 = false by kernel_rfl)
theorem card : Rows.CoinCutCardSaid :=
  Claim7.holds_tied_plain_at .later [] _ _ _ _ said (fun _ h => by cases h) (by kernel_rfl) (fun _ h => by cases h) coinCut_row_tie rfl ⟨rfl, rfl⟩ (by kernel_rfl) rfl plain (by kernel_rfl)

end Go.Proofs.YtcodmedgkboohaaDoor.coinCut
