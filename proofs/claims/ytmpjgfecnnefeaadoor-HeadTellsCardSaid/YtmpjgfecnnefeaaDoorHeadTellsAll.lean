/-
  PROVED: the law stepladderlaw08.HeadTells answers true for every input, and leaves its arguments as they were.
  Conditions: the two package-level tables of package sha hold at the call what their initialisers lay; the card ties that to the text of the program (a pruned copy of the project: the packages that the roots of this seat load).
-/
import Derived.Test.YtmpjgfecnnefeaaDoorHeadTellsPc
namespace Go.Proofs.YtmpjgfecnnefeaaDoor
set_option maxRecDepth 8000
open Go.RowKit

section
variable {a : Act} {dst : Option Tmp} {x y : Operand} {ty : TypeId} {pos : String} {after : Array Edge} {gd : Option (Nat × Bool)}
theorem eqlTTh_op {b : Bool} (u : World) (hx : a.eval x = .bool b) (hy : a.eval y = .bool b) :
    (execOp a.eval ⟨dst, .binOp .eql 4 x y 4, ty, pos, after, gd⟩).run Tryd.prog u = .ok (.value (.bool true)) u := by
  unfold execOp
  simp only [hx, hy]
  cases b <;> go_simp
end
theorem okHd_mine {h : Hd} (hh : okHd h) (tries : Int) : okHd (mineH h tries).1 := by
  unfold mineH
  split
  · exact okHd_nonce hh _
  · exact hh
set_option maxRecDepth 20000 in
set_option maxHeartbeats 8000000 in
theorem law_tellsH_many (H : HeadC) (h : Hd) (tries : Int) (b : List Int) (A : Option Addr) (n c : Nat) (w : World) (hh : okHd h) (htr : I64 tries) (hl : b.length = n) (hnc : n ≤ c) (hcm : c ≤ maxLen) (hB : isB b) (hx : Bytes w w.heap.size A b) (ht : Tables w) (h4 : 400 < n) :
    Calls Tryd.prog 3 #[hdV h, .slice A n c, .int .i64 tries] w fun e w' => e = .returned (.bool true) ∧ Below w.heap.size w w' := by
  have HN63 : Hid (n < 9223372036854775808) := by show _ < _; unfold maxLen at hcm; omega
  have C5 : Hid (decide ((400 : Int) < (n : Int)) = true) := decide_eq_true (by omega)
  clear h4 hl hnc hcm hB hx htr
  have E0 : Hid (EnvX w (w.alloc (.cells (hdA h) 29)) [(w.heap.size, Obj.cells (hdA h) 29 (0, 0))]) := (EnvX.start w).new _
  have HAW := Lib.hid (hawake_any H (w.alloc (.cells (hdA h) 29)) (ht.below (EnvX.bel E0.out)))
  have HT := Lib.hid ht
  have HH := Lib.hid H
  clear ht H hh
  unfold hdV
  go_enter Tryd.func3, Tryd.ntmps3
  go_upto_region 1 with (fail)
  generalize (w.alloc (.cells (hdA h) 29)) = W at *
  go_wp2_with fail
  refine HAW.out.mono ?_
  rintro e w1 ⟨rfl, hb1⟩
  have HB1 := Lib.hid (EnvX.below E0.out hb1).bel
  have E1 : Hid (EnvX w1 w1 [(w.heap.size, Obj.cells (hdA h) 29 (0, 0))]) := ⟨Below.refl _ _, (EnvX.below E0.out hb1).box⟩
  have HT1 := Lib.hid (HT.out.below HB1.out)
  clear hb1 E0 HAW
  go_upto_region 2 with (fail)
  refine wp_region_Hx (w0 := w1) [0, 1, 2, 3, 4, 5, 6, 7, 8, 9, 10] [(w.heap.size, Obj.cells (hdA h) 29 (0, 0))] rfl E1.out ?_
  refine lexH_phase [0, 1, 2, 3, 4, 5, 6, 7, 8, 9, 10] [] ?_
  have hw1 : EnvX w1 _ [(w.heap.size, Obj.cells (hdA h) 29 (0, 0))] := E1.out
  have hone := @EnvC.one _ _ _ hw1
  (refine wpG_op rfl rfl rfl ?_; intro K hK; go_big_quiet_op; go_big_quiet_on)
  (refine wpG_op rfl rfl rfl ?_; intro K hK; go_big_quiet_op; go_big_quiet_on)
  (refine wpG_op rfl rfl rfl ?_; intro K hK; go_big_quiet_op; go_big_quiet_on)
  (refine wpG_op rfl rfl rfl ?_; intro K hK; go_big_quiet_op; go_big_quiet_on)
  (refine wpG_val (v := .int .i64 (n : Int)) rfl rfl (fun u hu => len_op Tryd.underlying30 HN63.out u rfl) ?_ hw1; intro K hK; go_big_quiet_op; go_big_quiet_on)
  (refine wpG_val (v := .bool true) rfl rfl (fun u hu => gtZ_op u C5.out rfl rfl) ?_ hw1; intro K hK; go_big_quiet_op; go_big_quiet_on)
  (refine wpG_op rfl rfl rfl ?_; intro K hK; go_big_quiet_op; go_big_quiet_on)
  (refine wpG_op rfl rfl rfl ?_; intro K hK; go_big_quiet_op; go_big_quiet_on)
  (refine wpG_skip rfl rfl ?_ hw1; intro K hK; go_big_quiet_op; go_big_quiet_on)
  (refine wpG_skip rfl rfl ?_ hw1; intro K hK; go_big_quiet_op; go_big_quiet_on)
  (refine wpG_op rfl rfl rfl ?_; intro K hK; go_big_quiet_op; go_big_quiet_on)
  clear hone hw1
  refine wpG_nil ?_
  intro u3 E2'
  have EX2 := Lib.hid E2'
  clear E2'
  have HBE := Lib.hid (HB1.out.trans ((EnvX.bel EX2.out).mono HB1.out.size))
  go_wp2
  go_ret
  exact ⟨rfl, HBE.out⟩
set_option maxRecDepth 20000 in
set_option maxHeartbeats 8000000 in
theorem law_tellsH_over (H : HeadC) (h : Hd) (tries : Int) (b : List Int) (A : Option Addr) (n c : Nat) (w : World) (hh : okHd h) (htr : I64 tries) (hl : b.length = n) (hnc : n ≤ c) (hcm : c ≤ maxLen) (hB : isB b) (hx : Bytes w w.heap.size A b) (ht : Tables w) (h4 : ¬ 400 < n) (h3 : 30 < tries) :
    Calls Tryd.prog 3 #[hdV h, .slice A n c, .int .i64 tries] w fun e w' => e = .returned (.bool true) ∧ Below w.heap.size w w' := by
  have HN63 : Hid (n < 9223372036854775808) := by show _ < _; unfold maxLen at hcm; omega
  have C5 : Hid (decide ((400 : Int) < (n : Int)) = false) := decide_eq_false (by omega)
  have C9 : Hid (decide (30 < tries) = true) := decide_eq_true h3
  clear h4 hl hnc hcm hB hx htr h3
  have E0 : Hid (EnvX w (w.alloc (.cells (hdA h) 29)) [(w.heap.size, Obj.cells (hdA h) 29 (0, 0))]) := (EnvX.start w).new _
  have HAW := Lib.hid (hawake_any H (w.alloc (.cells (hdA h) 29)) (ht.below (EnvX.bel E0.out)))
  have HT := Lib.hid ht
  have HH := Lib.hid H
  clear ht H hh
  unfold hdV
  go_enter Tryd.func3, Tryd.ntmps3
  go_upto_region 1 with (fail)
  generalize (w.alloc (.cells (hdA h) 29)) = W at *
  go_wp2_with fail
  refine HAW.out.mono ?_
  rintro e w1 ⟨rfl, hb1⟩
  have HB1 := Lib.hid (EnvX.below E0.out hb1).bel
  have E1 : Hid (EnvX w1 w1 [(w.heap.size, Obj.cells (hdA h) 29 (0, 0))]) := ⟨Below.refl _ _, (EnvX.below E0.out hb1).box⟩
  have HT1 := Lib.hid (HT.out.below HB1.out)
  clear hb1 E0 HAW
  go_upto_region 2 with (fail)
  refine wp_region_Hx (w0 := w1) [0, 1, 2, 3, 4, 5, 6, 7, 8, 9, 10] [(w.heap.size, Obj.cells (hdA h) 29 (0, 0))] rfl E1.out ?_
  refine lexH_phase [0, 1, 2, 3, 4, 5, 6, 7, 8, 9, 10] [] ?_
  have hw1 : EnvX w1 _ [(w.heap.size, Obj.cells (hdA h) 29 (0, 0))] := E1.out
  have hone := @EnvC.one _ _ _ hw1
  (refine wpG_op rfl rfl rfl ?_; intro K hK; go_big_quiet_op; go_big_quiet_on)
  (refine wpG_op rfl rfl rfl ?_; intro K hK; go_big_quiet_op; go_big_quiet_on)
  (refine wpG_op rfl rfl rfl ?_; intro K hK; go_big_quiet_op; go_big_quiet_on)
  (refine wpG_op rfl rfl rfl ?_; intro K hK; go_big_quiet_op; go_big_quiet_on)
  (refine wpG_val (v := .int .i64 (n : Int)) rfl rfl (fun u hu => len_op Tryd.underlying30 HN63.out u rfl) ?_ hw1; intro K hK; go_big_quiet_op; go_big_quiet_on)
  (refine wpG_val (v := .bool false) rfl rfl (fun u hu => gtZ_op u C5.out rfl rfl) ?_ hw1; intro K hK; go_big_quiet_op; go_big_quiet_on)
  (refine wpG_op rfl rfl rfl ?_; intro K hK; go_big_quiet_op; go_big_quiet_on)
  (refine wpG_op rfl rfl rfl ?_; intro K hK; go_big_quiet_op; go_big_quiet_on)
  (refine wpG_op rfl rfl rfl ?_; intro K hK; go_big_quiet_op; go_big_quiet_on)
  (refine wpG_val (v := .bool true) rfl rfl (fun u hu => gtZ_op u C9.out rfl rfl) ?_ hw1; intro K hK; go_big_quiet_op; go_big_quiet_on)
  (refine wpG_op rfl rfl rfl ?_; intro K hK; go_big_quiet_op; go_big_quiet_on)
  clear hone hw1
  refine wpG_nil ?_
  intro u3 E2'
  have EX2 := Lib.hid E2'
  clear E2'
  have HBE := Lib.hid (HB1.out.trans ((EnvX.bel EX2.out).mono HB1.out.size))
  go_wp2
  go_ret
  exact ⟨rfl, HBE.out⟩
set_option maxRecDepth 20000 in
set_option maxHeartbeats 8000000 in
theorem law_tellsH_main (H : HeadC) (h : Hd) (tries : Int) (b : List Int) (A : Option Addr) (n c : Nat) (w : World) (hh : okHd h) (htr : I64 tries) (hl : b.length = n) (hnc : n ≤ c) (hcm : c ≤ maxLen) (hB : isB b) (hx : Bytes w w.heap.size A b) (ht : Tables w) (h4 : ¬ 400 < n) (h3 : ¬ 30 < tries) :
    Calls Tryd.prog 3 #[hdV h, .slice A n c, .int .i64 tries] w fun e w' => e = .returned (.bool true) ∧ Below w.heap.size w w' := by
  have HN63 : Hid (n < 9223372036854775808) := by show _ < _; unfold maxLen at hcm; omega
  have C5 : Hid (decide ((400 : Int) < (n : Int)) = false) := decide_eq_false (by omega)
  have C9 : Hid (decide (30 < tries) = false) := decide_eq_false h3
  obtain ⟨mp, hmp⟩ : ∃ mp, (putH h).2 = mp := ⟨_, rfl⟩
  obtain ⟨mr, hmr⟩ : ∃ mr, (readH b).2 = mr := ⟨_, rfl⟩
  obtain ⟨mm, hmm⟩ : ∃ mm, (mineH h tries).2 = mm := ⟨_, rfl⟩
  have HP1 := Lib.hid hmp
  have HRD : Hid (∀ u, Below w.heap.size w u → Tables u → Calls Tryd.prog 12 #[.slice A n c] u fun e w' => e = .returned (.tuple #[hdV (readH b).1, .bool mr]) ∧ Below u.heap.size u w') := fun u hb hu => by
    have h1 := H.read A n c b u hl (by omega) hnc hcm hB (hx.up hb) hu
    rwa [hmr] at h1
  have HRR : Hid (∀ u, Below w.heap.size w u → Calls Tryd.prog 13 #[.slice A n c] u fun e w' => e = .returned (.tuple #[hdV (readH b).1, .bool mr]) ∧ Below u.heap.size u w') := fun u hb => by
    have h1 := rread_any A n c b u hl hnc hcm hB (hx.up hb)
    rwa [hmr] at h1
  have HMI : Hid (∀ u, Tables u → Calls Tryd.prog 14 #[hdV h, .int .i64 tries] u fun e w' => e = .returned (.tuple #[hdV (mineH h tries).1, .bool mm]) ∧ Below u.heap.size u w') := fun u hu => by
    have h1 := H.mine h tries u hh htr hu
    rwa [hmm] at h1
  have HMR : Hid (∀ u, Calls Tryd.prog 15 #[hdV h, .int .i64 tries] u fun e w' => e = .returned (.tuple #[hdV (mineH h tries).1, .bool mm]) ∧ Below u.heap.size u w') := fun u => by
    have h1 := rhmine_any h tries u hh htr
    rwa [hmm] at h1
  have HOX : Hid (okHd (readH b).1) := okHd_read hB
  have HOM : Hid (okHd (mineH h tries).1) := okHd_mine hh tries
  generalize (readH b).1 = X at *
  generalize (mineH h tries).1 = Y at *
  have HL := Lib.hid hh.len
  have HOK := Lib.hid hh
  have HXB := Lib.hid (put_byte hh)
  have HWB := Lib.hid (work_big h)
  have HIL := Lib.hid (id_len h)
  have CX : Hid ((!eqH X X) = false) := by show _ = _; simp [eqH]
  have CY : Hid ((!eqH Y Y) = false) := by show _ = _; simp [eqH]
  have CID : Hid (eqL (idH h) (idH h) = true) := decide_eq_true rfl
  have CWK : Hid (eqN (workH h) (workH h) = true) := by show _ = _; simp [eqN]
  clear h4 h3 hl hnc hcm hB hx htr hmp hmr hmm
  have E0 : Hid (EnvX w (w.alloc (.cells (hdA h) 29)) [(w.heap.size, Obj.cells (hdA h) 29 (0, 0))]) := (EnvX.start w).new _
  have HAW := Lib.hid (hawake_any H (w.alloc (.cells (hdA h) 29)) (ht.below (EnvX.bel E0.out)))
  have HT := Lib.hid ht
  have HH := Lib.hid H
  clear ht H hh
  unfold hdV
  go_enter Tryd.func3, Tryd.ntmps3
  go_upto_region 1 with (fail)
  generalize (w.alloc (.cells (hdA h) 29)) = W at *
  go_wp2_with fail
  refine HAW.out.mono ?_
  rintro e w1 ⟨rfl, hb1⟩
  have HB1 := Lib.hid (EnvX.below E0.out hb1).bel
  have E1 : Hid (EnvX w1 w1 [(w.heap.size, Obj.cells (hdA h) 29 (0, 0))]) := ⟨Below.refl _ _, (EnvX.below E0.out hb1).box⟩
  have HT1 := Lib.hid (HT.out.below HB1.out)
  clear hb1 E0 HAW
  go_upto_region 2 with (fail)
  refine wp_region_Hx (w0 := w1) [0, 1, 2, 3, 4, 5, 6, 7, 8, 9, 10] [(w.heap.size, Obj.cells (hdA h) 29 (0, 0))] rfl E1.out ?_
  refine lexH_phase [0, 1, 2, 3, 4, 5, 6, 7, 8, 9, 10] [] ?_
  have hw1 : EnvX w1 _ [(w.heap.size, Obj.cells (hdA h) 29 (0, 0))] := E1.out
  have hone := @EnvC.one _ _ _ hw1
  (refine wpG_op rfl rfl rfl ?_; intro K hK; go_big_quiet_op; go_big_quiet_on)
  (refine wpG_op rfl rfl rfl ?_; intro K hK; go_big_quiet_op; go_big_quiet_on)
  (refine wpG_op rfl rfl rfl ?_; intro K hK; go_big_quiet_op; go_big_quiet_on)
  (refine wpG_op rfl rfl rfl ?_; intro K hK; go_big_quiet_op; go_big_quiet_on)
  (refine wpG_val (v := .int .i64 (n : Int)) rfl rfl (fun u hu => len_op Tryd.underlying30 HN63.out u rfl) ?_ hw1; intro K hK; go_big_quiet_op; go_big_quiet_on)
  (refine wpG_val (v := .bool false) rfl rfl (fun u hu => gtZ_op u C5.out rfl rfl) ?_ hw1; intro K hK; go_big_quiet_op; go_big_quiet_on)
  (refine wpG_op rfl rfl rfl ?_; intro K hK; go_big_quiet_op; go_big_quiet_on)
  (refine wpG_op rfl rfl rfl ?_; intro K hK; go_big_quiet_op; go_big_quiet_on)
  (refine wpG_op rfl rfl rfl ?_; intro K hK; go_big_quiet_op; go_big_quiet_on)
  (refine wpG_val (v := .bool false) rfl rfl (fun u hu => gtZ_op u C9.out rfl rfl) ?_ hw1; intro K hK; go_big_quiet_op; go_big_quiet_on)
  (refine wpG_op rfl rfl rfl ?_; intro K hK; go_big_quiet_op; go_big_quiet_on)
  clear hone hw1
  refine wpG_nil ?_
  intro u3 E2'
  have EX2 := Lib.hid E2'
  clear E2'
  have HLD : Hid ((loadVar 29 ⟨w.heap.size, 0, none⟩).run Tryd.prog u3 = .ok (.agg (hdA h)) u3) := box_hd EX2.out (List.Mem.head _) HL.out
  have HPT : Hid (Calls Tryd.prog 10 #[.agg (hdA h)] u3 fun e w' => (∃ v, e = .returned (.tuple #[v, .bool mp]) ∧ OwnB w' u3.heap.size v (putH h).1) ∧ Below u3.heap.size u3 w') := by
    have h1 := HH.out.put h u3 HOK.out (HT1.out.below (EnvX.bel EX2.out))
    rwa [HP1.out] at h1
  go_upto_region 4 with (fail)
  go_wp2_with ((with_reducible refine wpList_load_run (o := ⟨some 35, _, _, _, _, _⟩) ?_ 29 (.tmp 3) ?_ ⟨w.heap.size, 0, none⟩ ?_ HLD.out ?_); (rfl); (rfl); (rfl))
  refine HPT.out.mono ?_
  rintro e w2 ⟨⟨v4, rfl, hv⟩, hb⟩
  obtain ⟨Ap, cp, rfl⟩ := hv.form
  have HB_xs := Lib.hid hv.bytes.2
  have HC_xs := Lib.hid hv.cap
  have hbb := (EnvX.below EX2.out hb).bel
  have E2 : Hid (EnvX w2 w2 [(w.heap.size, Obj.cells (hdA h) 29 (0, 0))]) := ⟨Below.refl _ _, (EnvX.below EX2.out hb).box⟩
  have HB2 := Lib.hid (HB1.out.trans (hbb.mono HB1.out.size))
  have HT2 := Lib.hid (HT1.out.below hbb)
  clear hv hb HLD HPT hbb EX2
  obtain ⟨np, hnp⟩ : ∃ np, (putH h).1.length = np := ⟨_, rfl⟩
  obtain ⟨xs, hxs⟩ : ∃ xs, (putH h).1 = xs := ⟨_, rfl⟩
  have HN_xs := Lib.hid hnp
  have HX_xs := Lib.hid hxs
  rw [hnp] at HC_xs ⊢
  rw [hxs] at HB_xs HN_xs
  clear hnp hxs
  have HXE := HX_xs
  have HNE := HN_xs
  have HLD : Hid ((loadVar 29 ⟨w.heap.size, 0, none⟩).run Tryd.prog w2 = .ok (.agg (hdA h)) w2) := box_hd E2.out (List.Mem.head _) HL.out
  have HPT : Hid (Calls Tryd.prog 11 #[.agg (hdA h)] w2 fun e w' => (∃ v, e = .returned (.tuple #[v, .bool mp]) ∧ OwnB w' w2.heap.size v (putH h).1) ∧ Below w2.heap.size w2 w') := by
    have h1 := rhput_any h w2 HOK.out
    rwa [HP1.out] at h1
  go_upto_region 5 with (fail)
  go_wp2_with ((with_reducible refine wpList_load_run (o := ⟨some 40, _, _, _, _, _⟩) ?_ 29 (.tmp 3) ?_ ⟨w.heap.size, 0, none⟩ ?_ HLD.out ?_); (rfl); (rfl); (rfl))
  refine HPT.out.mono ?_
  rintro e w3 ⟨⟨v5, rfl, hv⟩, hb⟩
  obtain ⟨Aq, cq, rfl⟩ := hv.form
  have HB_ys := Lib.hid hv.bytes.2
  have HC_ys := Lib.hid hv.cap
  have hbb := (EnvX.below E2.out hb).bel
  have E3 : Hid (EnvX w3 w3 [(w.heap.size, Obj.cells (hdA h) 29 (0, 0))]) := ⟨Below.refl _ _, (EnvX.below E2.out hb).box⟩
  have HB3 := Lib.hid (HB2.out.trans (hbb.mono HB2.out.size))
  have HT3 := Lib.hid (HT2.out.below hbb)
  have HB_xs := Lib.hid (HB_xs.out.up hbb)
  clear hv hb HLD HPT hbb E2
  obtain ⟨nq, hnp⟩ : ∃ np, (putH h).1.length = np := ⟨_, rfl⟩
  obtain ⟨ys, hxs⟩ : ∃ xs, (putH h).1 = xs := ⟨_, rfl⟩
  have HN_ys := Lib.hid hnp
  have HX_ys := Lib.hid hxs
  rw [hnp] at HC_ys ⊢
  rw [hxs] at HB_ys HN_ys
  clear hnp hxs
  go_upto_region 6 with (fail)
  refine wp_region_Hx (w0 := w3) [0, 1, 2, 3, 4, 5, 6, 7] [(w.heap.size, Obj.cells (hdA h) 29 (0, 0))] rfl E3.out ?_
  refine lexH_phase [0, 1, 2, 3, 4] [5, 6, 7] ?_
  have hw4 : EnvX w3 _ [(w.heap.size, Obj.cells (hdA h) 29 (0, 0))] := E3.out
  have hone := @EnvC.one _ _ _ hw4
  (refine wpG_op rfl rfl rfl ?_; intro K hK; go_big_quiet_op; go_big_quiet_on)
  (refine wpG_call (f := 12) (args := #[.slice A n c]) (v := .tuple #[hdV X, .bool mr]) rfl rfl rfl Tryd.func12 rfl rfl (fun u hu => HRD.out u (HB3.out.trans ((EnvX.bel hu).mono HB3.out.size)) (HT3.out.below (EnvX.bel hu))) ?_ hw4; intro K hK; go_big_quiet_op; go_big_quiet_on)
  (refine wpG_op rfl rfl rfl ?_; intro K hK; go_big_quiet_op; go_big_quiet_on)
  (refine wpG_op rfl rfl rfl ?_; intro K hK; go_big_quiet_op; go_big_quiet_on)
  (refine wpG_op rfl rfl rfl ?_; intro K hK; go_big_quiet_op; go_big_quiet_on)
  clear hone hw4
  refine wpG_nil ?_
  refine (hOp_fresh (R := fun x N => ∃ g, x = .pointer (some ⟨g, 0, none⟩) ∧ N = [(g, Obj.cells (hdA noHd) 29 (0, 0))]) (M0 := [(w.heap.size, Obj.cells (hdA h) 29 (0, 0))]) rfl rfl (fun _ h => h) (fun u hu => FAt_new (new_hd _) u) ?_)
  rintro _ _ ⟨g12, rfl, rfl⟩ hf he5; intro K' hK'; go_big_quiet_op; go_big_quiet_on
  have HG12 := Lib.hid (hf _ (List.mem_singleton.2 rfl))
  clear hf
  change lexH _ _ _ _ _ _ [(g12, Obj.cells (hdA noHd) 29 (0, 0)), (w.heap.size, Obj.cells (hdA h) 29 (0, 0))]
  refine (hOp_store rfl (g12) (hdA X) rfl rfl HG12.out.1 29 ((hdA noHd)) (List.Mem.head _) (infoHd _ (hdA_size HOX.out.len)) ((hdA_size (show lenH noHd from ⟨rfl, rfl, rfl, rfl⟩)).trans (hdA_size HOX.out.len).symm) (hdA_one _) [(g12, Obj.cells (hdA X) 29 (0, 0)), (w.heap.size, Obj.cells (hdA h) 29 (0, 0))] (List.forall_mem_cons.2 ⟨.inl rfl, fun y hy => .inr ⟨List.mem_cons_of_mem _ hy, HG12.out.2 y hy⟩⟩) ?_)
  intro he6
  refine lexH_phase [7] [] ?_
  have hw7 : EnvX w3 _ [(g12, Obj.cells (hdA X) 29 (0, 0)), (w.heap.size, Obj.cells (hdA h) 29 (0, 0))] := he6.choose_spec
  have hone := @EnvC.one _ _ _ hw7
  (refine wpG_op rfl rfl rfl ?_; intro K hK; go_big_quiet_op; go_big_quiet_on)
  clear hone hw7
  refine wpG_nil ?_
  intro u9 E2'
  have EX8 := Lib.hid E2'
  clear E2'
  go_upto_region 7 with (fail)
  refine wp_region_Hx (w0 := w3) [0, 1, 2, 3, 4, 5, 6, 7] [(g12, Obj.cells (hdA X) 29 (0, 0)), (w.heap.size, Obj.cells (hdA h) 29 (0, 0))] rfl EX8.out ?_
  refine lexH_phase [0, 1, 2, 3, 4] [5, 6, 7] ?_
  have hw10 : EnvX w3 _ [(g12, Obj.cells (hdA X) 29 (0, 0)), (w.heap.size, Obj.cells (hdA h) 29 (0, 0))] := EX8.out
  have hone := @EnvC.one _ _ _ hw10
  (refine wpG_op rfl rfl rfl ?_; intro K hK; go_big_quiet_op; go_big_quiet_on)
  (refine wpG_call (f := 13) (args := #[.slice A n c]) (v := .tuple #[hdV X, .bool mr]) rfl rfl rfl Tryd.func13 rfl rfl (fun u hu => HRR.out u (HB3.out.trans ((EnvX.bel hu).mono HB3.out.size))) ?_ hw10; intro K hK; go_big_quiet_op; go_big_quiet_on)
  (refine wpG_op rfl rfl rfl ?_; intro K hK; go_big_quiet_op; go_big_quiet_on)
  (refine wpG_op rfl rfl rfl ?_; intro K hK; go_big_quiet_op; go_big_quiet_on)
  (refine wpG_op rfl rfl rfl ?_; intro K hK; go_big_quiet_op; go_big_quiet_on)
  clear hone hw10
  refine wpG_nil ?_
  refine (hOp_fresh (R := fun x N => ∃ g, x = .pointer (some ⟨g, 0, none⟩) ∧ N = [(g, Obj.cells (hdA noHd) 29 (0, 0))]) (M0 := [(g12, Obj.cells (hdA X) 29 (0, 0)), (w.heap.size, Obj.cells (hdA h) 29 (0, 0))]) rfl rfl (fun _ h => h) (fun u hu => FAt_new (new_hd _) u) ?_)
  rintro _ _ ⟨g14, rfl, rfl⟩ hf he11; intro K' hK'; go_big_quiet_op; go_big_quiet_on
  have HG14 := Lib.hid (hf _ (List.mem_singleton.2 rfl))
  clear hf
  change lexH _ _ _ _ _ _ [(g14, Obj.cells (hdA noHd) 29 (0, 0)), (g12, Obj.cells (hdA X) 29 (0, 0)), (w.heap.size, Obj.cells (hdA h) 29 (0, 0))]
  refine (hOp_store rfl (g14) (hdA X) rfl rfl HG14.out.1 29 ((hdA noHd)) (List.Mem.head _) (infoHd _ (hdA_size HOX.out.len)) ((hdA_size (show lenH noHd from ⟨rfl, rfl, rfl, rfl⟩)).trans (hdA_size HOX.out.len).symm) (hdA_one _) [(g14, Obj.cells (hdA X) 29 (0, 0)), (g12, Obj.cells (hdA X) 29 (0, 0)), (w.heap.size, Obj.cells (hdA h) 29 (0, 0))] (List.forall_mem_cons.2 ⟨.inl rfl, fun y hy => .inr ⟨List.mem_cons_of_mem _ hy, HG14.out.2 y hy⟩⟩) ?_)
  intro he12
  refine lexH_phase [7] [] ?_
  have hw13 : EnvX w3 _ [(g14, Obj.cells (hdA X) 29 (0, 0)), (g12, Obj.cells (hdA X) 29 (0, 0)), (w.heap.size, Obj.cells (hdA h) 29 (0, 0))] := he12.choose_spec
  have hone := @EnvC.one _ _ _ hw13
  (refine wpG_op rfl rfl rfl ?_; intro K hK; go_big_quiet_op; go_big_quiet_on)
  clear hone hw13
  refine wpG_nil ?_
  intro u15 E2'
  have EX14 := Lib.hid E2'
  clear E2'
  go_upto_region 8 with (fail)
  refine wp_region_Hx (w0 := w3) [0, 1, 2, 3, 4, 5, 6, 7, 8] [(g14, Obj.cells (hdA X) 29 (0, 0)), (g12, Obj.cells (hdA X) 29 (0, 0)), (w.heap.size, Obj.cells (hdA h) 29 (0, 0))] rfl EX14.out ?_
  refine lexH_phase [0, 1, 2, 3, 4, 5] [6, 7, 8] ?_
  have hw16 : EnvX w3 _ [(g14, Obj.cells (hdA X) 29 (0, 0)), (g12, Obj.cells (hdA X) 29 (0, 0)), (w.heap.size, Obj.cells (hdA h) 29 (0, 0))] := EX14.out
  have hone := @EnvC.one _ _ _ hw16
  (refine wpG_val (v := hdV h) rfl rfl (fun u hu => load_any_op u (box_hd hu (List.Mem.tail _ (List.Mem.tail _ (List.Mem.head _))) HL.out) rfl) ?_ hw16; intro K hK; go_big_quiet_op; go_big_quiet_on)
  (refine wpG_op rfl rfl rfl ?_; intro K hK; go_big_quiet_op; go_big_quiet_on)
  (refine wpG_call (f := 14) (args := #[hdV h, .int .i64 tries]) (v := .tuple #[hdV Y, .bool mm]) rfl rfl rfl Tryd.func14 rfl rfl (fun u hu => HMI.out u (HT3.out.below (EnvX.bel hu))) ?_ hw16; intro K hK; go_big_quiet_op; go_big_quiet_on)
  (refine wpG_op rfl rfl rfl ?_; intro K hK; go_big_quiet_op; go_big_quiet_on)
  (refine wpG_op rfl rfl rfl ?_; intro K hK; go_big_quiet_op; go_big_quiet_on)
  (refine wpG_op rfl rfl rfl ?_; intro K hK; go_big_quiet_op; go_big_quiet_on)
  clear hone hw16
  refine wpG_nil ?_
  refine (hOp_fresh (R := fun x N => ∃ g, x = .pointer (some ⟨g, 0, none⟩) ∧ N = [(g, Obj.cells (hdA noHd) 29 (0, 0))]) (M0 := [(g14, Obj.cells (hdA X) 29 (0, 0)), (g12, Obj.cells (hdA X) 29 (0, 0)), (w.heap.size, Obj.cells (hdA h) 29 (0, 0))]) rfl rfl (fun _ h => h) (fun u hu => FAt_new (new_hd _) u) ?_)
  rintro _ _ ⟨g16, rfl, rfl⟩ hf he17; intro K' hK'; go_big_quiet_op; go_big_quiet_on
  have HG16 := Lib.hid (hf _ (List.mem_singleton.2 rfl))
  clear hf
  change lexH _ _ _ _ _ _ [(g16, Obj.cells (hdA noHd) 29 (0, 0)), (g14, Obj.cells (hdA X) 29 (0, 0)), (g12, Obj.cells (hdA X) 29 (0, 0)), (w.heap.size, Obj.cells (hdA h) 29 (0, 0))]
  refine (hOp_store rfl (g16) (hdA Y) rfl rfl HG16.out.1 29 ((hdA noHd)) (List.Mem.head _) (infoHd _ (hdA_size HOM.out.len)) ((hdA_size (show lenH noHd from ⟨rfl, rfl, rfl, rfl⟩)).trans (hdA_size HOM.out.len).symm) (hdA_one _) [(g16, Obj.cells (hdA Y) 29 (0, 0)), (g14, Obj.cells (hdA X) 29 (0, 0)), (g12, Obj.cells (hdA X) 29 (0, 0)), (w.heap.size, Obj.cells (hdA h) 29 (0, 0))] (List.forall_mem_cons.2 ⟨.inl rfl, fun y hy => .inr ⟨List.mem_cons_of_mem _ hy, HG16.out.2 y hy⟩⟩) ?_)
  intro he18
  refine lexH_phase [8] [] ?_
  have hw19 : EnvX w3 _ [(g16, Obj.cells (hdA Y) 29 (0, 0)), (g14, Obj.cells (hdA X) 29 (0, 0)), (g12, Obj.cells (hdA X) 29 (0, 0)), (w.heap.size, Obj.cells (hdA h) 29 (0, 0))] := he18.choose_spec
  have hone := @EnvC.one _ _ _ hw19
  (refine wpG_op rfl rfl rfl ?_; intro K hK; go_big_quiet_op; go_big_quiet_on)
  clear hone hw19
  refine wpG_nil ?_
  intro u21 E2'
  have EX20 := Lib.hid E2'
  clear E2'
  go_upto_region 9 with (fail)
  refine wp_region_Hx (w0 := w3) [0, 1, 2, 3, 4, 5, 6, 7, 8] [(g16, Obj.cells (hdA Y) 29 (0, 0)), (g14, Obj.cells (hdA X) 29 (0, 0)), (g12, Obj.cells (hdA X) 29 (0, 0)), (w.heap.size, Obj.cells (hdA h) 29 (0, 0))] rfl EX20.out ?_
  refine lexH_phase [0, 1, 2, 3, 4, 5] [6, 7, 8] ?_
  have hw22 : EnvX w3 _ [(g16, Obj.cells (hdA Y) 29 (0, 0)), (g14, Obj.cells (hdA X) 29 (0, 0)), (g12, Obj.cells (hdA X) 29 (0, 0)), (w.heap.size, Obj.cells (hdA h) 29 (0, 0))] := EX20.out
  have hone := @EnvC.one _ _ _ hw22
  (refine wpG_val (v := hdV h) rfl rfl (fun u hu => load_any_op u (box_hd hu (List.Mem.tail _ (List.Mem.tail _ (List.Mem.tail _ (List.Mem.head _)))) HL.out) rfl) ?_ hw22; intro K hK; go_big_quiet_op; go_big_quiet_on)
  (refine wpG_op rfl rfl rfl ?_; intro K hK; go_big_quiet_op; go_big_quiet_on)
  (refine wpG_call (f := 15) (args := #[hdV h, .int .i64 tries]) (v := .tuple #[hdV Y, .bool mm]) rfl rfl rfl Tryd.func15 rfl rfl (fun u hu => HMR.out u) ?_ hw22; intro K hK; go_big_quiet_op; go_big_quiet_on)
  (refine wpG_op rfl rfl rfl ?_; intro K hK; go_big_quiet_op; go_big_quiet_on)
  (refine wpG_op rfl rfl rfl ?_; intro K hK; go_big_quiet_op; go_big_quiet_on)
  (refine wpG_op rfl rfl rfl ?_; intro K hK; go_big_quiet_op; go_big_quiet_on)
  clear hone hw22
  refine wpG_nil ?_
  refine (hOp_fresh (R := fun x N => ∃ g, x = .pointer (some ⟨g, 0, none⟩) ∧ N = [(g, Obj.cells (hdA noHd) 29 (0, 0))]) (M0 := [(g16, Obj.cells (hdA Y) 29 (0, 0)), (g14, Obj.cells (hdA X) 29 (0, 0)), (g12, Obj.cells (hdA X) 29 (0, 0)), (w.heap.size, Obj.cells (hdA h) 29 (0, 0))]) rfl rfl (fun _ h => h) (fun u hu => FAt_new (new_hd _) u) ?_)
  rintro _ _ ⟨g18, rfl, rfl⟩ hf he23; intro K' hK'; go_big_quiet_op; go_big_quiet_on
  have HG18 := Lib.hid (hf _ (List.mem_singleton.2 rfl))
  clear hf
  change lexH _ _ _ _ _ _ [(g18, Obj.cells (hdA noHd) 29 (0, 0)), (g16, Obj.cells (hdA Y) 29 (0, 0)), (g14, Obj.cells (hdA X) 29 (0, 0)), (g12, Obj.cells (hdA X) 29 (0, 0)), (w.heap.size, Obj.cells (hdA h) 29 (0, 0))]
  refine (hOp_store rfl (g18) (hdA Y) rfl rfl HG18.out.1 29 ((hdA noHd)) (List.Mem.head _) (infoHd _ (hdA_size HOM.out.len)) ((hdA_size (show lenH noHd from ⟨rfl, rfl, rfl, rfl⟩)).trans (hdA_size HOM.out.len).symm) (hdA_one _) [(g18, Obj.cells (hdA Y) 29 (0, 0)), (g16, Obj.cells (hdA Y) 29 (0, 0)), (g14, Obj.cells (hdA X) 29 (0, 0)), (g12, Obj.cells (hdA X) 29 (0, 0)), (w.heap.size, Obj.cells (hdA h) 29 (0, 0))] (List.forall_mem_cons.2 ⟨.inl rfl, fun y hy => .inr ⟨List.mem_cons_of_mem _ hy, HG18.out.2 y hy⟩⟩) ?_)
  intro he24
  refine lexH_phase [8] [] ?_
  have hw25 : EnvX w3 _ [(g18, Obj.cells (hdA Y) 29 (0, 0)), (g16, Obj.cells (hdA Y) 29 (0, 0)), (g14, Obj.cells (hdA X) 29 (0, 0)), (g12, Obj.cells (hdA X) 29 (0, 0)), (w.heap.size, Obj.cells (hdA h) 29 (0, 0))] := he24.choose_spec
  have hone := @EnvC.one _ _ _ hw25
  (refine wpG_op rfl rfl rfl ?_; intro K hK; go_big_quiet_op; go_big_quiet_on)
  clear hone hw25
  refine wpG_nil ?_
  intro u27 E2'
  have EX26 := Lib.hid E2'
  clear E2'
  go_upto_region 10 with (fail)
  refine wp_region_Hx (w0 := w3) [0, 1, 2] [(g18, Obj.cells (hdA Y) 29 (0, 0)), (g16, Obj.cells (hdA Y) 29 (0, 0)), (g14, Obj.cells (hdA X) 29 (0, 0)), (g12, Obj.cells (hdA X) 29 (0, 0)), (w.heap.size, Obj.cells (hdA h) 29 (0, 0))] rfl EX26.out ?_
  refine lexH_phase [0, 1, 2] [] ?_
  have hw28 : EnvX w3 _ [(g18, Obj.cells (hdA Y) 29 (0, 0)), (g16, Obj.cells (hdA Y) 29 (0, 0)), (g14, Obj.cells (hdA X) 29 (0, 0)), (g12, Obj.cells (hdA X) 29 (0, 0)), (w.heap.size, Obj.cells (hdA h) 29 (0, 0))] := EX26.out
  have hone := @EnvC.one _ _ _ hw28
  (refine wpG_val (v := hdV h) rfl rfl (fun u hu => load_any_op u (box_hd hu (List.Mem.tail _ (List.Mem.tail _ (List.Mem.tail _ (List.Mem.tail _ (List.Mem.head _))))) HL.out) rfl) ?_ hw28; intro K hK; go_big_quiet_op; go_big_quiet_on)
  (refine wpG_call (f := 16) (args := #[hdV h]) (v := .bool (mayH h)) rfl rfl rfl Tryd.func16 rfl rfl (fun u hu => rhmay_any h u HOK.out) ?_ hw28; intro K hK; go_big_quiet_op; go_big_quiet_on)
  (refine wpG_op rfl rfl rfl ?_; intro K hK; go_big_quiet_op; go_big_quiet_on)
  clear hone hw28
  refine wpG_nil ?_
  intro u30 E2'
  have EX29 := Lib.hid E2'
  clear E2'
  have hyx : ys = xs := HX_ys.out.symm.trans HX_xs.out
  obtain ⟨s0, hs0⟩ : ∃ s, strOfNums xs = s := ⟨_, rfl⟩
  have HS0 := Lib.hid hs0
  have HS1 : Hid (strOfNums ys = s0) := by show _ = _; rw [hyx]; exact hs0
  have HES : Hid ((!(s0.toList == s0.toList)) = false) := by show _ = _; rw [beq_self_eq_true]; rfl
  clear hyx hs0
  go_upto_region 11 with (fail)
  refine wp_region_Hx (w0 := w3) [0, 1, 2, 3, 4, 5, 6, 7, 8, 9, 10, 11, 12, 13, 14, 15, 16, 17, 18, 19, 20, 21, 22, 23, 24, 25, 26, 27, 28, 29] [(g18, Obj.cells (hdA Y) 29 (0, 0)), (g16, Obj.cells (hdA Y) 29 (0, 0)), (g14, Obj.cells (hdA X) 29 (0, 0)), (g12, Obj.cells (hdA X) 29 (0, 0)), (w.heap.size, Obj.cells (hdA h) 29 (0, 0))] rfl EX29.out ?_
  refine lexH_phase [0, 1, 2, 3, 4, 5, 6, 7, 8, 9, 10, 11, 12, 13, 14, 15, 16, 17, 18, 19, 20, 21, 22, 23, 24, 25, 26, 27, 28, 29] [] ?_
  have hw31 : EnvX w3 _ [(g18, Obj.cells (hdA Y) 29 (0, 0)), (g16, Obj.cells (hdA Y) 29 (0, 0)), (g14, Obj.cells (hdA X) 29 (0, 0)), (g12, Obj.cells (hdA X) 29 (0, 0)), (w.heap.size, Obj.cells (hdA h) 29 (0, 0))] := EX29.out
  have hone := @EnvC.one _ _ _ hw31
  (refine wpG_op rfl rfl rfl ?_; intro K hK; go_big_quiet_op; go_big_quiet_on)
  (refine wpG_val (v := .string s0) rfl rfl (fun u hu => conv_op u HN_xs.out (HB_xs.out.up (EnvX.bel hu)) HS0.out rfl) ?_ hw31; intro K hK; go_big_quiet_op; go_big_quiet_on)
  (refine wpG_op rfl rfl rfl ?_; intro K hK; go_big_quiet_op; go_big_quiet_on)
  (refine wpG_val (v := .string s0) rfl rfl (fun u hu => conv_op u HN_ys.out (HB_ys.out.up (EnvX.bel hu)) HS1.out rfl) ?_ hw31; intro K hK; go_big_quiet_op; go_big_quiet_on)
  (refine wpG_val (v := .bool false) rfl rfl (fun u hu => nes_op u HES.out rfl rfl) ?_ hw31; intro K hK; go_big_quiet_op; go_big_quiet_on)
  (refine wpG_op rfl rfl rfl ?_; intro K hK; go_big_quiet_op; go_big_quiet_on)
  (refine wpG_op rfl rfl rfl ?_; intro K hK; go_big_quiet_op; go_big_quiet_on)
  (refine wpG_op rfl rfl rfl ?_; intro K hK; go_big_quiet_op; go_big_quiet_on)
  (refine wpG_val (v := .bool false) rfl rfl (fun u hu => neqTTh_op u rfl rfl) ?_ hw31; intro K hK; go_big_quiet_op; go_big_quiet_on)
  (refine wpG_op rfl rfl rfl ?_; intro K hK; go_big_quiet_op; go_big_quiet_on)
  (refine wpG_op rfl rfl rfl ?_; intro K hK; go_big_quiet_op; go_big_quiet_on)
  (refine wpG_val (v := hdV X) rfl rfl (fun u hu => load_any_op u (box_hd hu (List.Mem.tail _ (List.Mem.tail _ (List.Mem.tail _ (List.Mem.head _)))) HOX.out.len) rfl) ?_ hw31; intro K hK; go_big_quiet_op; go_big_quiet_on)
  (refine wpG_val (v := hdV X) rfl rfl (fun u hu => load_any_op u (box_hd hu (List.Mem.tail _ (List.Mem.tail _ (List.Mem.head _))) HOX.out.len) rfl) ?_ hw31; intro K hK; go_big_quiet_op; go_big_quiet_on)
  (refine wpG_val (v := .bool false) rfl rfl (fun u hu => neqHd_op HOX.out HOX.out CX.out u rfl rfl) ?_ hw31; intro K hK; go_big_quiet_op; go_big_quiet_on)
  (refine wpG_op rfl rfl rfl ?_; intro K hK; go_big_quiet_op; go_big_quiet_on)
  (refine wpG_op rfl rfl rfl ?_; intro K hK; go_big_quiet_op; go_big_quiet_on)
  (refine wpG_op rfl rfl rfl ?_; intro K hK; go_big_quiet_op; go_big_quiet_on)
  (refine wpG_op rfl rfl rfl ?_; intro K hK; go_big_quiet_op; go_big_quiet_on)
  (refine wpG_val (v := .bool false) rfl rfl (fun u hu => neqTTh_op u rfl rfl) ?_ hw31; intro K hK; go_big_quiet_op; go_big_quiet_on)
  (refine wpG_op rfl rfl rfl ?_; intro K hK; go_big_quiet_op; go_big_quiet_on)
  (refine wpG_op rfl rfl rfl ?_; intro K hK; go_big_quiet_op; go_big_quiet_on)
  (refine wpG_val (v := hdV Y) rfl rfl (fun u hu => load_any_op u (box_hd hu (List.Mem.tail _ (List.Mem.head _)) HOM.out.len) rfl) ?_ hw31; intro K hK; go_big_quiet_op; go_big_quiet_on)
  (refine wpG_val (v := hdV Y) rfl rfl (fun u hu => load_any_op u (box_hd hu (List.Mem.head _) HOM.out.len) rfl) ?_ hw31; intro K hK; go_big_quiet_op; go_big_quiet_on)
  (refine wpG_val (v := .bool false) rfl rfl (fun u hu => neqHd_op HOM.out HOM.out CY.out u rfl rfl) ?_ hw31; intro K hK; go_big_quiet_op; go_big_quiet_on)
  (refine wpG_op rfl rfl rfl ?_; intro K hK; go_big_quiet_op; go_big_quiet_on)
  (refine wpG_op rfl rfl rfl ?_; intro K hK; go_big_quiet_op; go_big_quiet_on)
  (refine wpG_op rfl rfl rfl ?_; intro K hK; go_big_quiet_op; go_big_quiet_on)
  (refine wpG_op rfl rfl rfl ?_; intro K hK; go_big_quiet_op; go_big_quiet_on)
  (refine wpG_val (v := .bool false) rfl rfl (fun u hu => neqTTh_op u rfl rfl) ?_ hw31; intro K hK; go_big_quiet_op; go_big_quiet_on)
  (refine wpG_op rfl rfl rfl ?_; intro K hK; go_big_quiet_op; go_big_quiet_on)
  clear hone hw31
  refine wpG_nil ?_
  intro u33 E2'
  have EX32 := Lib.hid E2'
  clear E2'
  go_upto_region 13 with (fail)
  refine wp_region_H (w0 := w3) [(g18, Obj.cells (hdA Y) 29 (0, 0)), (g16, Obj.cells (hdA Y) 29 (0, 0)), (g14, Obj.cells (hdA X) 29 (0, 0)), (g12, Obj.cells (hdA X) 29 (0, 0)), (w.heap.size, Obj.cells (hdA h) 29 (0, 0))] (by kernel_rfl) EX32.out ?_
  refine anyH_phase [0, 1, 2, 3, 4, 5, 6, 7, 8, 9, 10, 11, 12, 13, 14, 15, 16, 17, 18, 19, 20, 21, 22, 23, 24, 25] 0 rfl ⟨_, (EnvX.drew EX32.out)⟩ (by kernel_rfl) ?_
  have hw34 : EnvX w3 _ [(g18, Obj.cells (hdA Y) 29 (0, 0)), (g16, Obj.cells (hdA Y) 29 (0, 0)), (g14, Obj.cells (hdA X) 29 (0, 0)), (g12, Obj.cells (hdA X) 29 (0, 0)), (w.heap.size, Obj.cells (hdA h) 29 (0, 0))] := (EnvX.drew EX32.out)
  have hone := @EnvC.one _ _ _ hw34
  (refine wpG_val (v := hdV h) rfl rfl (fun u hu => load_any_op u (box_hd hu (List.Mem.tail _ (List.Mem.tail _ (List.Mem.tail _ (List.Mem.tail _ (List.Mem.head _))))) HL.out) rfl) ?_ hw34; intro K hK; go_big_quiet_op; go_big_quiet_on)
  (refine wpG_call (f := 17) (args := #[hdV h]) (v := idv (idH h)) rfl rfl rfl Tryd.func17 rfl rfl (fun u hu => HH.out.id h u HOK.out (HT3.out.below (EnvX.bel hu))) ?_ hw34; intro K hK; go_big_quiet_op; go_big_quiet_on)
  (refine wpG_val (v := hdV h) rfl rfl (fun u hu => load_any_op u (box_hd hu (List.Mem.tail _ (List.Mem.tail _ (List.Mem.tail _ (List.Mem.tail _ (List.Mem.head _))))) HL.out) rfl) ?_ hw34; intro K hK; go_big_quiet_op; go_big_quiet_on)
  (refine wpG_call (f := 18) (args := #[hdV h]) (v := idv (idH h)) rfl rfl rfl Tryd.func18 rfl rfl (fun u hu => rhid_any h u HOK.out) ?_ hw34; intro K hK; go_big_quiet_op; go_big_quiet_on)
  (refine wpG_val (v := .bool true) rfl rfl (fun u hu => eqlb_op HIL.out HIL.out CID.out u rfl rfl) ?_ hw34; intro K hK; go_big_quiet_op; go_big_quiet_on)
  (refine wpG_op rfl rfl rfl ?_; intro K hK; go_big_quiet_op; go_big_quiet_on)
  (refine wpG_val (v := hdV h) rfl rfl (fun u hu => load_any_op u (box_hd hu (List.Mem.tail _ (List.Mem.tail _ (List.Mem.tail _ (List.Mem.tail _ (List.Mem.head _))))) HL.out) rfl) ?_ hw34; intro K hK; go_big_quiet_op; go_big_quiet_on)
  (refine wpG_call (f := 19) (args := #[hdV h]) (v := .int .i64 (levelH h)) rfl rfl rfl Tryd.func19 rfl rfl (fun u hu => HH.out.level h u HOK.out (HT3.out.below (EnvX.bel hu))) ?_ hw34; intro K hK; go_big_quiet_op; go_big_quiet_on)
  (refine wpG_val (v := hdV h) rfl rfl (fun u hu => load_any_op u (box_hd hu (List.Mem.tail _ (List.Mem.tail _ (List.Mem.tail _ (List.Mem.tail _ (List.Mem.head _))))) HL.out) rfl) ?_ hw34; intro K hK; go_big_quiet_op; go_big_quiet_on)
  (refine wpG_call (f := 20) (args := #[hdV h]) (v := .int .i64 (levelH h)) rfl rfl rfl Tryd.func20 rfl rfl (fun u hu => rhlevel_any h u HOK.out) ?_ hw34; intro K hK; go_big_quiet_op; go_big_quiet_on)
  (refine wpG_val (v := .bool true) rfl rfl (fun u hu => eqlI_op u (decide_eq_true rfl) rfl rfl) ?_ hw34; intro K hK; go_big_quiet_op; go_big_quiet_on)
  (refine wpG_op rfl rfl rfl ?_; intro K hK; go_big_quiet_op; go_big_quiet_on)
  (refine wpG_op rfl rfl rfl ?_; intro K hK; go_big_quiet_op; go_big_quiet_on)
  (refine wpG_val (v := hdV h) rfl rfl (fun u hu => load_any_op u (box_hd hu (List.Mem.tail _ (List.Mem.tail _ (List.Mem.tail _ (List.Mem.tail _ (List.Mem.head _))))) HL.out) rfl) ?_ hw34; intro K hK; go_big_quiet_op; go_big_quiet_on)
  (refine wpG_call (f := 21) (args := #[hdV h]) (v := .agg (wcs (workH h))) rfl rfl rfl Tryd.func21 rfl rfl (fun u hu => HH.out.work h u HOK.out (HT3.out.below (EnvX.bel hu))) ?_ hw34; intro K hK; go_big_quiet_op; go_big_quiet_on)
  (refine wpG_val (v := hdV h) rfl rfl (fun u hu => load_any_op u (box_hd hu (List.Mem.tail _ (List.Mem.tail _ (List.Mem.tail _ (List.Mem.tail _ (List.Mem.head _))))) HL.out) rfl) ?_ hw34; intro K hK; go_big_quiet_op; go_big_quiet_on)
  (refine wpG_call (f := 22) (args := #[hdV h]) (v := .agg (wcs (workH h))) rfl rfl rfl Tryd.func22 rfl rfl (fun u hu => rhwork_any h u HOK.out) ?_ hw34; intro K hK; go_big_quiet_op; go_big_quiet_on)
  (refine wpG_val (v := .bool true) rfl rfl (fun u hu => eqlWh_op HWB.out HWB.out CWK.out u rfl rfl) ?_ hw34; intro K hK; go_big_quiet_op; go_big_quiet_on)
  (refine wpG_op rfl rfl rfl ?_; intro K hK; go_big_quiet_op; go_big_quiet_on)
  (refine wpG_op rfl rfl rfl ?_; intro K hK; go_big_quiet_op; go_big_quiet_on)
  (refine wpG_val (v := hdV h) rfl rfl (fun u hu => load_any_op u (box_hd hu (List.Mem.tail _ (List.Mem.tail _ (List.Mem.tail _ (List.Mem.tail _ (List.Mem.head _))))) HL.out) rfl) ?_ hw34; intro K hK; go_big_quiet_op; go_big_quiet_on)
  (refine wpG_call (f := 23) (args := #[hdV h]) (v := .bool (mayH h)) rfl rfl rfl Tryd.func23 rfl rfl (fun u hu => HH.out.may h u HOK.out (HT3.out.below (EnvX.bel hu))) ?_ hw34; intro K hK; go_big_quiet_op; go_big_quiet_on)
  (refine wpG_op rfl rfl rfl ?_; intro K hK; go_big_quiet_op; go_big_quiet_on)
  (refine wpG_val (v := .bool true) rfl rfl (fun u hu => eqlTTh_op u rfl rfl) ?_ hw34; intro K hK; go_big_quiet_op; go_big_quiet_on)
  (refine wpG_op rfl rfl rfl ?_; intro K hK; go_big_quiet_op; go_big_quiet_on)
  (refine wpG_op rfl rfl rfl ?_; intro K hK; go_big_quiet_op; go_big_quiet_on)
  clear hone hw34
  refine wpG_nil ?_
  refine anyH_done (by kernel_rfl) ?_
  intro u36 E2'
  have EX35 := Lib.hid E2'
  clear E2'
  have HBE := Lib.hid (HB3.out.trans ((EnvX.bel EX35.out).mono HB3.out.size))
  go_wp2
  go_ret
  exact ⟨rfl, HBE.out⟩
theorem law_tellsH (H : HeadC) (h : Hd) (tries : Int) (b : List Int) (A : Option Addr) (n c : Nat) (w : World) (hh : okHd h) (htr : I64 tries) (hl : b.length = n) (hnc : n ≤ c) (hcm : c ≤ maxLen) (hB : isB b) (hx : Bytes w w.heap.size A b) (ht : Tables w) :
    Calls Tryd.prog 3 #[hdV h, .slice A n c, .int .i64 tries] w fun e w' => e = .returned (.bool true) ∧ Below w.heap.size w w' := by
  by_cases h4 : 400 < n
  · exact law_tellsH_many H h tries b A n c w hh htr hl hnc hcm hB hx ht h4
  · by_cases h3 : 30 < tries
    · exact law_tellsH_over H h tries b A n c w hh htr hl hnc hcm hB hx ht h4 h3
    · exact law_tellsH_main H h tries b A n c w hh htr hl hnc hcm hB hx ht h4 h3
end Go.Proofs.YtmpjgfecnnefeaaDoor

namespace Go.Proofs.YtmpjgfecnnefeaaDoor.headTells
set_option maxRecDepth 8000
open Go.ChangeShapes Go.WideShapes Go.ChangeAt Go.RowKit

theorem contract (H : Type) (enc : TypeId × Value → H) (W : World) (base : Nat) (args : Array Value) (ds gs : List (DataW H)) (before : List MemPlace)
    (hval : ∀ (j : Nat) t v, Tryd.f3.params[j]? = some t → args[j]? = some v → Value.okWide Tryd.prog W .any base t v)
    (hW : DataW.Whole enc Tryd.prog Tryd.f3.params.toList Rows.headTellsSpec.vars false W args.toList ds gs before) (hL : laidMetH Tryd.prog Rows.headTellsRow.laid W) :
    Calls Tryd.prog 3 args W fun e W' => ∃ v, e = .returned v ∧ Rows.headTellsSpec.post enc Tryd.prog Tryd.f3 false true false false W args v W' := by
  have hW' := hW
  obtain ⟨p, q, hA0, hV, rfl, hfz, hnd⟩ := hW
  have hA : DataW.TrodAll enc Tryd.prog W 0 (fun _ => true) true Tryd.f3.params.toList args.toList ds p := hA0
  rw [Tryd.params3] at hA hval
  obtain ⟨v0, vs0, d0, ds0, p0, q0, hargs, rfl, rfl, h0, r0⟩ := trodAll_cons hA
  obtain ⟨v1, vs1, d1, ds1, p1, q1, rfl, rfl, rfl, h1, r1⟩ := trodAll_cons r0
  obtain ⟨v2, vs2, d2, ds2, p2, q2, rfl, rfl, rfl, h2, r2⟩ := trodAll_cons r1
  obtain ⟨rfl, rfl, rfl⟩ := trodAll_nil r2
  obtain rfl : args = #[v0, v1, v2] := by cases args; simp_all
  obtain ⟨rfl, rfl⟩ := trodVars_none hV
  have lt0 : ∀ x ∈ p0, x.block < W.heap.size := by obtain ⟨m, hm⟩ := h0; exact DataW.trod_lt m _ _ _ hm
  obtain ⟨x0, rfl, kx0⟩ := open_head (hval 0 29 v0 rfl rfl) h0
  have lt1 : ∀ x ∈ p1, x.block < W.heap.size := by obtain ⟨m, hm⟩ := h1; exact DataW.trod_lt m _ _ _ hm
  obtain ⟨a1, n1, c1, x1, rfl, lx1, nc1, cm1, bx1, px1⟩ := open_bytes (hval 1 30 v1 rfl rfl) h1
  obtain ⟨x2, rfl, rfl, rfl, wx2⟩ := open_int Tryd.underlying3 (hval 2 3 v2 rfl rfl) h2
  clear hA0
  refine (law_tellsH headC x0 x2 x1 a1 n1 c1 W kx0 (bounds_i64 wx2) lx1 nc1 cm1 bx1 px1 (tables_of_laid hL)).mono fun e W' ⟨he, bel⟩ => ?_
  subst he
  exact ⟨_, rfl, _, _, _, [], _, [], hW', trodAll_mk1 (shut_bool Tryd.underlying4 _), (trodAll_cons_mk (Below.trod laidOut (by kernel_rfl) (of_decide_eq_true (by kernel_rfl)) h0 bel lt0) (trodAll_cons_mk (Below.trod laidOut (by kernel_rfl) (of_decide_eq_true (by kernel_rfl)) h1 bel lt1) (trodAll_cons_mk (shut_int Tryd.underlying3 wx2) trodAll_mk0))), rfl, bel.frame _, fun h => by cases h⟩

def start : Array Value := #[zeroH, .slice none 0 0, .int .i64 0]
theorem reads (os : Os) {H : Type} (enc : TypeId × Value → H) : ∃ places, DataW.whole enc Tryd.prog ((laidWorld os).forCall (fun _ _ => 0) ⟨#[], start, []⟩).memory Tryd.f3.params.toList Rows.headTellsSpec.vars false start.toList 8 = some ([zeroHD, .nil, .lit (.int .i64 0)], [], places) :=
  ⟨[], by kernel_rfl⟩

set_option maxRecDepth 100000 in
theorem lifted (os : Os) (started : os.Started) (H : Type) (enc : TypeId × Value → H) (F : Stop.Interp) :
    ReturnsInHanded {} Tryd.checked os 3 .any ((OpenSpec.ofChange Rows.headTellsSpec).preRow enc Tryd.prog Tryd.f3 Rows.headTellsRow.domain false Rows.headTellsRow.laid) (((OpenSpec.ofChange Rows.headTellsSpec).at F).post enc Tryd.prog Tryd.f3 false true false false) := by
  obtain ⟨places, hx⟩ := reads os enc
  refine returnsInHanded_of_row (C := Tryd.checked) (s := OpenSpec.ofChange Rows.headTellsSpec) own started (by kernel_rfl) Tryd.func3
    (witness_row_at (enc := enc) (C := Tryd.checked) false (laidWorld os) start rfl (by kernel_rfl) (by kernel_rfl) (by kernel_rfl)
      (OpenSpec.preRow_of_cond 8 hx (by kernel_rfl) (fun k hk => by cases hk) (by kernel_rfl) (laidMet_of_run' 8 (by kernel_rfl) (by kernel_rfl)))) ?_
  intro W base args ds gs before hval hW _ _ _ hL _ _
  exact contract H enc W base args ds gs before hval hW hL

theorem said : Rows.HeadTellsSaid :=
  OpenClaim.holds_of_cond 3 Tryd.f3 rfl rfl rfl rfl rfl rfl rfl ⟨rfl, rfl, rfl, rfl, rfl⟩ rfl rfl rfl rfl rfl (by kernel_rfl) Tryd.func3 (by kernel_rfl)
    (of_decide_eq_true (by kernel_rfl)) (by unfold Func.isWrapper; first | (rw [if_pos (by decide +kernel)]; kernel_rfl) | (rw [if_neg (by decide +kernel)]; exact ⟨rfl, rfl⟩))
    (fun os started H enc _ F => by rw [OpenClaim.pre_eq_preRow]; exact lifted os started H enc F)

theorem plain (f : FuncId) (fn : Func) (hf : Tryd.pinned.checked.prog.funcNamed "stepladder/stepladderlaw08.HeadTells" = some f) (hfn : Tryd.pinned.checked.prog.funcs[f]? = some fn) :
    false = Tryd.pinned.checked.prog.looks [] ∧ ∀ (j : Nat) t, fn.params[j]? = some t → Tryd.pinned.checked.prog.wantsStandIn t = false := by
  obtain rfl : f = 3 := Option.some.inj ((show Tryd.prog.funcNamed "stepladder/stepladderlaw08.HeadTells" = some 3 by kernel_rfl).symm.trans hf) |>.symm
  obtain rfl : fn = Tryd.f3 := (Option.some.inj (Tryd.func3.symm.trans hfn)).symm
  refine ⟨by kernel_rfl, fun j t ht => ?_⟩
  rw [Tryd.params3] at ht
  have hm : t = 29 ∨ t = 30 ∨ t = 3 := by simpa using Array.mem_of_getElem? ht
  rcases hm with rfl | rfl | rfl
  · exact (show Tryd.prog.wantsStandIn 29 = false by kernel_rfl)
  · exact (show Tryd.prog.wantsStandIn 30 = false by kernel_rfl)
  · exact (show Tryd.prog.wantsStandIn 3 = false by kernel_rfl)
theorem card : Rows.HeadTellsCardSaid :=
  Claim7.holds_tied_plain_at .later [] _ _ _ _ said (fun _ h => by cases h) (by kernel_rfl) (fun _ h => by cases h) headTells_row_tie rfl ⟨rfl, rfl⟩ (by kernel_rfl) rfl plain (by kernel_rfl)

end Go.Proofs.YtmpjgfecnnefeaaDoor.headTells
