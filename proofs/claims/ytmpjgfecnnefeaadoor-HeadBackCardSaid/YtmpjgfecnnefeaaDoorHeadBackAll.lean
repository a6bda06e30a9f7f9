/-
  PROVED: the law stepladderlaw08.HeadBack answers true for every input, and leaves its arguments as they were.
  Conditions: the two package-level tables of package sha hold at the call what their initialisers lay; the card ties that to the text of the program (a pruned copy of the project: the packages that the roots of this seat load).
-/
import Derived.Test.YtmpjgfecnnefeaaDoorCj
namespace Go.Proofs.YtmpjgfecnnefeaaDoor
set_option maxRecDepth 8000
open Go.RowKit

section
variable {a : Act} {dst : Option Tmp} {x l h : Operand} {ty : TypeId} {pos : String} {after : Array Edge} {gd : Option (Nat × Bool)}
theorem eqs_op {s s' : ByteArray} {b : Bool} (u : World) (hb : (s.toList == s'.toList) = b) (hx : a.eval x = .string s) (hy : a.eval l = .string s') :
    (execOp a.eval ⟨dst, .binOp .eql 9 x l 9, ty, pos, after, gd⟩).run Tryd.prog u = .ok (.value (.bool b)) u := by
  subst hb
  unfold execOp
  simp only [hx, hy]
  go_simp
end
end Go.Proofs.YtmpjgfecnnefeaaDoor

namespace Go.Proofs.YtmpjgfecnnefeaaDoor
set_option maxRecDepth 8000
open Go.RowKit

section
variable {a : Act} {dst : Option Tmp} {x y : Operand} {ty : TypeId} {pos : String} {after : Array Edge} {gd : Option (Nat × Bool)}
theorem leZ_op {m k : Int} {b : Bool} (u : World) (hb : decide (m ≤ k) = b) (hx : a.eval x = .int .i64 m) (hy : a.eval y = .int .i64 k) :
    (execOp a.eval ⟨dst, .binOp .leq 3 x y 3, ty, pos, after, gd⟩).run Tryd.prog u = .ok (.value (.bool b)) u := by
  subst hb
  unfold execOp
  simp only [hx, hy]
  go_simp
end
end Go.Proofs.YtmpjgfecnnefeaaDoor

namespace Go.Proofs.YtmpjgfecnnefeaaDoor
set_option maxRecDepth 8000
open Go.RowKit

theorem put_no : mayPut noHd = true := by decide
theorem read_put {b : List Int} (hB : isB b) : mayPut (readH b).1 = true := by
  cases h : mayRead b with
  | false => rw [read_no h]; exact put_no
  | true => unfold readH; rw [if_pos h]; exact (read_ok hB h).2.1
set_option maxRecDepth 20000 in
set_option maxHeartbeats 8000000 in
theorem law_back_many (H : HeadC) (h g : Hd) (b : List Int) (A : Option Addr) (n c : Nat) (w : World) (hh : okHd h) (hg : okHd g) (hl : b.length = n) (hnc : n ≤ c) (hcm : c ≤ maxLen) (hB : isB b) (hx : Bytes w w.heap.size A b) (ht : Tables w) (h4 : 400 < n) :
    Calls Tryd.prog 4 #[hdV h, hdV g, .slice A n c] w fun e w' => e = .returned (.bool true) ∧ Below w.heap.size w w' := by
  have HN63 : Hid (n < 9223372036854775808) := by show _ < _; unfold maxLen at hcm; omega
  have C5 : Hid (decide ((400 : Int) < (n : Int)) = true) := decide_eq_true (by omega)
  clear h4 hl hnc hcm hB hx
  have E0 : Hid (EnvX w ((w.alloc (.cells (hdA h) 29)).alloc (.cells (hdA g) 29)) [(w.heap.size + 1, Obj.cells (hdA g) 29 (0, 0)), (w.heap.size, Obj.cells (hdA h) 29 (0, 0))]) := (EnvX.start w).two _ _
  have HAW := Lib.hid (hawake_any H ((w.alloc (.cells (hdA h) 29)).alloc (.cells (hdA g) 29)) (ht.below (EnvX.bel E0.out)))
  have HT := Lib.hid ht
  have HH := Lib.hid H
  clear ht H hh hg
  unfold hdV
  go_enter Tryd.func4, Tryd.ntmps4
  go_upto_region 1 with (fail)
  generalize ((w.alloc (.cells (hdA h) 29)).alloc (.cells (hdA g) 29)) = W at *
  go_wp2_with fail
  refine HAW.out.mono ?_
  rintro e w1 ⟨rfl, hb1⟩
  have HB1 := Lib.hid (EnvX.below E0.out hb1).bel
  have E1 : Hid (EnvX w1 w1 [(w.heap.size + 1, Obj.cells (hdA g) 29 (0, 0)), (w.heap.size, Obj.cells (hdA h) 29 (0, 0))]) := ⟨Below.refl _ _, (EnvX.below E0.out hb1).box⟩
  have HT1 := Lib.hid (HT.out.below HB1.out)
  clear hb1 E0 HAW
  go_upto_region 2 with (fail)
  refine wp_region_Hx (w0 := w1) [0, 1, 2, 3, 4, 5, 6] [(w.heap.size + 1, Obj.cells (hdA g) 29 (0, 0)), (w.heap.size, Obj.cells (hdA h) 29 (0, 0))] rfl E1.out ?_
  refine lexH_phase [0, 1, 2, 3, 4, 5, 6] [] ?_
  have hw1 : EnvX w1 _ [(w.heap.size + 1, Obj.cells (hdA g) 29 (0, 0)), (w.heap.size, Obj.cells (hdA h) 29 (0, 0))] := E1.out
  have hone := @EnvC.one _ _ _ hw1
  (refine wpG_op rfl rfl rfl ?_; intro K hK; go_big_quiet_op; go_big_quiet_on)
  (refine wpG_op rfl rfl rfl ?_; intro K hK; go_big_quiet_op; go_big_quiet_on)
  (refine wpG_op rfl rfl rfl ?_; intro K hK; go_big_quiet_op; go_big_quiet_on)
  (refine wpG_op rfl rfl rfl ?_; intro K hK; go_big_quiet_op; go_big_quiet_on)
  (refine wpG_val (v := .int .i64 (n : Int)) rfl rfl (fun u hu => len_op Tryd.underlying30 HN63.out u rfl) ?_ hw1; intro K hK; go_big_quiet_op; go_big_quiet_on)
  (refine wpG_val (v := .bool true) rfl rfl (fun u hu => gtZ_op u C5.out rfl rfl) ?_ hw1; intro K hK; go_big_quiet_op; go_big_quiet_on)
  (refine wpG_op rfl rfl rfl ?_; intro K hK; go_big_quiet_op; go_big_quiet_on)
  clear hone hw1
  refine wpG_nil ?_
  intro u3 E2'
  have EX2 := Lib.hid E2'
  clear E2'
  have HBE := Lib.hid (HB1.out.trans ((EnvX.bel EX2.out).mono HB1.out.size))
  go_wp2
  go_ret
  exact ⟨rfl, HBE.out⟩
set_option maxRecDepth 20000 in
set_option maxHeartbeats 8000000 in
theorem law_back_tt (H : HeadC) (h g : Hd) (b : List Int) (A : Option Addr) (n c : Nat) (w : World) (hh : okHd h) (hg : okHd g) (hl : b.length = n) (hnc : n ≤ c) (hcm : c ≤ maxLen) (hB : isB b) (hx : Bytes w w.heap.size A b) (ht : Tables w) (k1 : mayPut h = true) (k2 : mayPut g = true) (k3 : decide (0 ≤ h.height) = true ∧ decide (h.height ≤ 1048576) = true) (h4 : ¬ 400 < n) :
    Calls Tryd.prog 4 #[hdV h, hdV g, .slice A n c] w fun e w' => e = .returned (.bool true) ∧ Below w.heap.size w w' := by
  have HN63 : Hid (n < 9223372036854775808) := by show _ < _; omega
  have C5 : Hid (decide ((400 : Int) < (n : Int)) = false) := decide_eq_false (by omega)
  have HNX : Hid ((putH h).1.length = 176 ∧ isB (putH h).1 ∧ readH (putH h).1 = (h, true)) := by
    unfold putH
    rw [k1]
    exact ⟨body_len hh, body_byte hh, read_body hh k1⟩
  have HBG : Hid (mayPut g = true → (putH g).1 = bodyH g) := fun e => by unfold putH; rw [e]; rfl
  have HBH : Hid (mayPut h = true → (putH h).1 = bodyH h) := fun e => by unfold putH; rw [e]; rfl
  have HGY : Hid (isB (putH g).1) := put_byte hg
  have HRD : Hid (∀ u, Below w.heap.size w u → Tables u → Calls Tryd.prog 12 #[.slice A n c] u fun e w' => e = .returned (.tuple #[hdV (readH b).1, .bool (mayRead b)]) ∧ Below u.heap.size u w') := fun u hb hu => by
    have h1 := H.read A n c b u hl (by omega) hnc hcm hB (hx.up hb) hu
    rwa [read_snd] at h1
  have HRP : Hid (∀ (ys : List Int) (A : Option Addr) (m c : Nat) (u : World), ys = (putH h).1 → ys.length = m → m ≤ c → c ≤ maxLen → Bytes u u.heap.size A ys → Tables u → Calls Tryd.prog 12 #[.slice A m c] u fun e w' => e = .returned (.tuple #[hdV h, .bool true]) ∧ Below u.heap.size u w') := fun ys A m c u h1 h2 h4 h5 h7 h8 => by
    have hy := HNX.out
    rw [← h1] at hy
    have h9 := H.read A m c ys u h2 (by omega) h4 h5 hy.2.1 h7 h8
    rwa [hy.2.2] at h9
  have HXL : Hid (okHd (readH b).1) := okHd_read hB
  have HXP : Hid (mayPut (readH b).1 = true) := read_put hB
  have HXB : Hid ((putH (readH b).1).1 = bodyH (readH b).1 ∧ (bodyH (readH b).1).length = 176 ∧ isB (bodyH (readH b).1)) := ⟨by unfold putH; rw [HXP.out]; rfl, body_len HXL.out, body_byte HXL.out⟩
  have HX0 : Hid (mayRead b = false → (readH b).1 = noHd) := fun e => by rw [read_no e]
  have HX1 : Hid (mayRead b = true → bodyH (readH b).1 = b) := fun e => by unfold readH; rw [if_pos e]; exact (read_ok hB e).2.2
  have HBB := Lib.hid (And.intro hl hB)
  have HBX := Lib.hid hx
  have HL := Lib.hid hh.len
  have HLG := Lib.hid hg.len
  have HOK := Lib.hid (And.intro hh hg)
  have HP1 : Hid ((putH h).2 = true) := by show _ = _; unfold putH; rw [k1]; rfl
  have HP2 : Hid ((putH g).2 = true) := by show _ = _; unfold putH; rw [k2]; rfl
  have HP3 : Hid ((putH (readH b).1).2 = true) := by show _ = _; unfold putH; rw [HXP.out]; rfl
  have HK2 := Lib.hid k2
  have C9 := Lib.hid k3
  have HIJ : Hid (decide (bodyH h = bodyH g) = eqH h g) := decide_eq_decide.2 ⟨fun e => body_inj hh hg k1 k2 e, fun e => by rw [e]⟩
  generalize (readH b).1 = X at *
  obtain ⟨mr, hmr⟩ : ∃ mr, mayRead b = mr := ⟨_, rfl⟩
  rw [hmr] at HRD HX0 HX1
  clear h4 hl hnc hcm hB hx k3 hmr
  have E0 : Hid (EnvX w ((w.alloc (.cells (hdA h) 29)).alloc (.cells (hdA g) 29)) [(w.heap.size + 1, Obj.cells (hdA g) 29 (0, 0)), (w.heap.size, Obj.cells (hdA h) 29 (0, 0))]) := (EnvX.start w).two _ _
  have HAW := Lib.hid (hawake_any H ((w.alloc (.cells (hdA h) 29)).alloc (.cells (hdA g) 29)) (ht.below (EnvX.bel E0.out)))
  have HT := Lib.hid ht
  have HH := Lib.hid H
  clear ht H hh hg k1 k2
  unfold hdV
  go_enter Tryd.func4, Tryd.ntmps4
  go_upto_region 1 with (fail)
  generalize ((w.alloc (.cells (hdA h) 29)).alloc (.cells (hdA g) 29)) = W at *
  go_wp2_with fail
  refine HAW.out.mono ?_
  rintro e w1 ⟨rfl, hb1⟩
  have HB1 := Lib.hid (EnvX.below E0.out hb1).bel
  have E1 : Hid (EnvX w1 w1 [(w.heap.size + 1, Obj.cells (hdA g) 29 (0, 0)), (w.heap.size, Obj.cells (hdA h) 29 (0, 0))]) := ⟨Below.refl _ _, (EnvX.below E0.out hb1).box⟩
  have HT1 := Lib.hid (HT.out.below HB1.out)
  clear hb1 E0 HAW
  go_upto_region 2 with (fail)
  refine wp_region_Hx (w0 := w1) [0, 1, 2, 3, 4, 5, 6] [(w.heap.size + 1, Obj.cells (hdA g) 29 (0, 0)), (w.heap.size, Obj.cells (hdA h) 29 (0, 0))] rfl E1.out ?_
  refine lexH_phase [0, 1, 2, 3, 4, 5, 6] [] ?_
  have hw1 : EnvX w1 _ [(w.heap.size + 1, Obj.cells (hdA g) 29 (0, 0)), (w.heap.size, Obj.cells (hdA h) 29 (0, 0))] := E1.out
  have hone := @EnvC.one _ _ _ hw1
  (refine wpG_op rfl rfl rfl ?_; intro K hK; go_big_quiet_op; go_big_quiet_on)
  (refine wpG_op rfl rfl rfl ?_; intro K hK; go_big_quiet_op; go_big_quiet_on)
  (refine wpG_op rfl rfl rfl ?_; intro K hK; go_big_quiet_op; go_big_quiet_on)
  (refine wpG_op rfl rfl rfl ?_; intro K hK; go_big_quiet_op; go_big_quiet_on)
  (refine wpG_val (v := .int .i64 (n : Int)) rfl rfl (fun u hu => len_op Tryd.underlying30 HN63.out u rfl) ?_ hw1; intro K hK; go_big_quiet_op; go_big_quiet_on)
  (refine wpG_val (v := .bool false) rfl rfl (fun u hu => gtZ_op u C5.out rfl rfl) ?_ hw1; intro K hK; go_big_quiet_op; go_big_quiet_on)
  (refine wpG_op rfl rfl rfl ?_; intro K hK; go_big_quiet_op; go_big_quiet_on)
  clear hone hw1
  refine wpG_nil ?_
  intro u3 E2'
  have EX2 := Lib.hid E2'
  clear E2'
  have HLD : Hid ((loadVar 29 ⟨w.heap.size, 0, none⟩).run Tryd.prog u3 = .ok (.agg (hdA h)) u3) := box_hd EX2.out (List.Mem.tail _ (List.Mem.head _)) HL.out
  have HPT : Hid (Calls Tryd.prog 10 #[.agg (hdA h)] u3 fun e w' => (∃ v, e = .returned (.tuple #[v, .bool true]) ∧ OwnB w' u3.heap.size v (putH h).1) ∧ Below u3.heap.size u3 w') := by
    have h1 := HH.out.put h u3 HOK.out.1 (HT1.out.below (EnvX.bel EX2.out))
    rwa [HP1.out] at h1
  go_upto_region 4 with (fail)
  go_wp2_with ((with_reducible refine wpList_load_run (o := ⟨some 28, _, _, _, _, _⟩) ?_ 29 (.tmp 3) ?_ ⟨w.heap.size, 0, none⟩ ?_ HLD.out ?_); (rfl); (rfl); (rfl))
  refine HPT.out.mono ?_
  rintro e w2 ⟨⟨v4, rfl, hv⟩, hb⟩
  obtain ⟨Ap, cp, rfl⟩ := hv.form
  have HB_xs := Lib.hid hv.bytes.2
  have HC_xs := Lib.hid hv.cap
  have hbb := (EnvX.below EX2.out hb).bel
  have E2 : Hid (EnvX w2 w2 [(w.heap.size + 1, Obj.cells (hdA g) 29 (0, 0)), (w.heap.size, Obj.cells (hdA h) 29 (0, 0))]) := ⟨Below.refl _ _, (EnvX.below EX2.out hb).box⟩
  have HB2 := Lib.hid (HB1.out.trans (hbb.mono HB1.out.size))
  have HT2 := Lib.hid (HT1.out.below hbb)
  clear hv hb HLD HPT hbb EX2
  obtain ⟨np, hnp⟩ : ∃ np, (putH h).1.length = np := ⟨_, rfl⟩
  obtain ⟨xs, hxs⟩ : ∃ xs, (putH h).1 = xs := ⟨_, rfl⟩
  have HN_xs := Lib.hid hnp
  have HX_xs := Lib.hid hxs
  rw [hnp] at HC_xs ⊢
  rw [hxs] at HB_xs HN_xs
  clear hnp hxs
  have HLD : Hid ((loadVar 29 ⟨w.heap.size + 1, 0, none⟩).run Tryd.prog w2 = .ok (.agg (hdA g)) w2) := box_hd E2.out (List.Mem.head _) HLG.out
  have HPT : Hid (Calls Tryd.prog 10 #[.agg (hdA g)] w2 fun e w' => (∃ v, e = .returned (.tuple #[v, .bool true]) ∧ OwnB w' w2.heap.size v (putH g).1) ∧ Below w2.heap.size w2 w') := by
    have h1 := HH.out.put g w2 HOK.out.2 (HT2.out.below (EnvX.bel E2.out))
    rwa [HP2.out] at h1
  go_upto_region 5 with (fail)
  go_wp2_with ((with_reducible refine wpList_load_run (o := ⟨some 33, _, _, _, _, _⟩) ?_ 29 (.tmp 4) ?_ ⟨w.heap.size + 1, 0, none⟩ ?_ HLD.out ?_); (rfl); (rfl); (rfl))
  refine HPT.out.mono ?_
  rintro e w3 ⟨⟨v5, rfl, hv⟩, hb⟩
  obtain ⟨Aq, cq, rfl⟩ := hv.form
  have HB_ys := Lib.hid hv.bytes.2
  have HC_ys := Lib.hid hv.cap
  have hbb := (EnvX.below E2.out hb).bel
  have E3 : Hid (EnvX w3 w3 [(w.heap.size + 1, Obj.cells (hdA g) 29 (0, 0)), (w.heap.size, Obj.cells (hdA h) 29 (0, 0))]) := ⟨Below.refl _ _, (EnvX.below E2.out hb).box⟩
  have HB3 := Lib.hid (HB2.out.trans (hbb.mono HB2.out.size))
  have HT3 := Lib.hid (HT2.out.below hbb)
  have HB_xs := Lib.hid (HB_xs.out.up hbb)
  clear hv hb HLD HPT hbb E2
  obtain ⟨nq, hnp⟩ : ∃ np, (putH g).1.length = np := ⟨_, rfl⟩
  obtain ⟨ys, hxs⟩ : ∃ xs, (putH g).1 = xs := ⟨_, rfl⟩
  have HN_ys := Lib.hid hnp
  have HX_ys := Lib.hid hxs
  rw [hnp] at HC_ys ⊢
  rw [hxs] at HB_ys HN_ys
  clear hnp hxs
  go_upto_region 6 with (fail)
  have HLP : Hid (lenH h) := HL.out
  refine wp_region_Hx (w0 := w3) [0, 1, 2, 3, 4, 5, 6, 7] [(w.heap.size + 1, Obj.cells (hdA g) 29 (0, 0)), (w.heap.size, Obj.cells (hdA h) 29 (0, 0))] rfl E3.out ?_
  refine lexH_phase [0, 1, 2, 3, 4] [5, 6, 7] ?_
  have hw4 : EnvX w3 _ [(w.heap.size + 1, Obj.cells (hdA g) 29 (0, 0)), (w.heap.size, Obj.cells (hdA h) 29 (0, 0))] := E3.out
  have hone := @EnvC.one _ _ _ hw4
  (refine wpG_op rfl rfl rfl ?_; intro K hK; go_big_quiet_op; go_big_quiet_on)
  (refine wpG_call (f := 12) (args := #[.slice Ap np cp]) (v := .tuple #[hdV h, .bool true]) rfl rfl rfl Tryd.func12 rfl rfl (fun u hu => HRP.out xs _ np cp u HX_xs.out.symm HN_xs.out HC_xs.out.1 HC_xs.out.2 (HB_xs.out.up (EnvX.bel hu)) (HT3.out.below (EnvX.bel hu))) ?_ hw4; intro K hK; go_big_quiet_op; go_big_quiet_on)
  (refine wpG_op rfl rfl rfl ?_; intro K hK; go_big_quiet_op; go_big_quiet_on)
  (refine wpG_op rfl rfl rfl ?_; intro K hK; go_big_quiet_op; go_big_quiet_on)
  (refine wpG_op rfl rfl rfl ?_; intro K hK; go_big_quiet_op; go_big_quiet_on)
  clear hone hw4
  refine wpG_nil ?_
  refine (hOp_fresh (R := fun x N => ∃ g, x = .pointer (some ⟨g, 0, none⟩) ∧ N = [(g, Obj.cells (hdA noHd) 29 (0, 0))]) (M0 := [(w.heap.size + 1, Obj.cells (hdA g) 29 (0, 0)), (w.heap.size, Obj.cells (hdA h) 29 (0, 0))]) rfl rfl (fun _ h => h) (fun u hu => FAt_new (new_hd _) u) ?_)
  rintro _ _ ⟨g12, rfl, rfl⟩ hf he5; intro K' hK'; go_big_quiet_op; go_big_quiet_on
  have HG12 := Lib.hid (hf _ (List.mem_singleton.2 rfl))
  clear hf
  change lexH _ _ _ _ _ _ [(g12, Obj.cells (hdA noHd) 29 (0, 0)), (w.heap.size + 1, Obj.cells (hdA g) 29 (0, 0)), (w.heap.size, Obj.cells (hdA h) 29 (0, 0))]
  refine (hOp_store rfl (g12) (hdA h) rfl rfl HG12.out.1 29 ((hdA noHd)) (List.Mem.head _) (infoHd _ (hdA_size HLP.out)) ((hdA_size (show lenH noHd from ⟨rfl, rfl, rfl, rfl⟩)).trans (hdA_size HLP.out).symm) (hdA_one _) [(g12, Obj.cells (hdA h) 29 (0, 0)), (w.heap.size + 1, Obj.cells (hdA g) 29 (0, 0)), (w.heap.size, Obj.cells (hdA h) 29 (0, 0))] (List.forall_mem_cons.2 ⟨.inl rfl, fun y hy => .inr ⟨List.mem_cons_of_mem _ hy, HG12.out.2 y hy⟩⟩) ?_)
  intro he6
  refine lexH_phase [7] [] ?_
  have hw7 : EnvX w3 _ [(g12, Obj.cells (hdA h) 29 (0, 0)), (w.heap.size + 1, Obj.cells (hdA g) 29 (0, 0)), (w.heap.size, Obj.cells (hdA h) 29 (0, 0))] := he6.choose_spec
  have hone := @EnvC.one _ _ _ hw7
  (refine wpG_op rfl rfl rfl ?_; intro K hK; go_big_quiet_op; go_big_quiet_on)
  clear hone hw7
  refine wpG_nil ?_
  intro u9 E2'
  have EX8 := Lib.hid E2'
  clear E2'
  go_upto_region 7 with (fail)
  refine wp_region_Hx (w0 := w3) [0, 1, 2, 3, 4, 5, 6, 7] [(g12, Obj.cells (hdA h) 29 (0, 0)), (w.heap.size + 1, Obj.cells (hdA g) 29 (0, 0)), (w.heap.size, Obj.cells (hdA h) 29 (0, 0))] rfl EX8.out ?_
  refine lexH_phase [0, 1, 2, 3, 4] [5, 6, 7] ?_
  have hw10 : EnvX w3 _ [(g12, Obj.cells (hdA h) 29 (0, 0)), (w.heap.size + 1, Obj.cells (hdA g) 29 (0, 0)), (w.heap.size, Obj.cells (hdA h) 29 (0, 0))] := EX8.out
  have hone := @EnvC.one _ _ _ hw10
  (refine wpG_op rfl rfl rfl ?_; intro K hK; go_big_quiet_op; go_big_quiet_on)
  (refine wpG_call (f := 12) (args := #[.slice A n c]) (v := .tuple #[hdV X, .bool mr]) rfl rfl rfl Tryd.func12 rfl rfl (fun u hu => HRD.out u (HB3.out.trans ((EnvX.bel hu).mono HB3.out.size)) (HT3.out.below (EnvX.bel hu))) ?_ hw10; intro K hK; go_big_quiet_op; go_big_quiet_on)
  (refine wpG_op rfl rfl rfl ?_; intro K hK; go_big_quiet_op; go_big_quiet_on)
  (refine wpG_op rfl rfl rfl ?_; intro K hK; go_big_quiet_op; go_big_quiet_on)
  (refine wpG_op rfl rfl rfl ?_; intro K hK; go_big_quiet_op; go_big_quiet_on)
  clear hone hw10
  refine wpG_nil ?_
  refine (hOp_fresh (R := fun x N => ∃ g, x = .pointer (some ⟨g, 0, none⟩) ∧ N = [(g, Obj.cells (hdA noHd) 29 (0, 0))]) (M0 := [(g12, Obj.cells (hdA h) 29 (0, 0)), (w.heap.size + 1, Obj.cells (hdA g) 29 (0, 0)), (w.heap.size, Obj.cells (hdA h) 29 (0, 0))]) rfl rfl (fun _ h => h) (fun u hu => FAt_new (new_hd _) u) ?_)
  rintro _ _ ⟨g14, rfl, rfl⟩ hf he11; intro K' hK'; go_big_quiet_op; go_big_quiet_on
  have HG14 := Lib.hid (hf _ (List.mem_singleton.2 rfl))
  clear hf
  change lexH _ _ _ _ _ _ [(g14, Obj.cells (hdA noHd) 29 (0, 0)), (g12, Obj.cells (hdA h) 29 (0, 0)), (w.heap.size + 1, Obj.cells (hdA g) 29 (0, 0)), (w.heap.size, Obj.cells (hdA h) 29 (0, 0))]
  refine (hOp_store rfl (g14) (hdA X) rfl rfl HG14.out.1 29 ((hdA noHd)) (List.Mem.head _) (infoHd _ (hdA_size HXL.out.len)) ((hdA_size (show lenH noHd from ⟨rfl, rfl, rfl, rfl⟩)).trans (hdA_size HXL.out.len).symm) (hdA_one _) [(g14, Obj.cells (hdA X) 29 (0, 0)), (g12, Obj.cells (hdA h) 29 (0, 0)), (w.heap.size + 1, Obj.cells (hdA g) 29 (0, 0)), (w.heap.size, Obj.cells (hdA h) 29 (0, 0))] (List.forall_mem_cons.2 ⟨.inl rfl, fun y hy => .inr ⟨List.mem_cons_of_mem _ hy, HG14.out.2 y hy⟩⟩) ?_)
  intro he12
  refine lexH_phase [7] [] ?_
  have hw13 : EnvX w3 _ [(g14, Obj.cells (hdA X) 29 (0, 0)), (g12, Obj.cells (hdA h) 29 (0, 0)), (w.heap.size + 1, Obj.cells (hdA g) 29 (0, 0)), (w.heap.size, Obj.cells (hdA h) 29 (0, 0))] := he12.choose_spec
  have hone := @EnvC.one _ _ _ hw13
  (refine wpG_op rfl rfl rfl ?_; intro K hK; go_big_quiet_op; go_big_quiet_on)
  clear hone hw13
  refine wpG_nil ?_
  intro u15 E2'
  have EX14 := Lib.hid E2'
  clear E2'
  have HLD : Hid ((loadVar 29 ⟨g14, 0, none⟩).run Tryd.prog u15 = .ok (.agg (hdA X)) u15) := box_hd EX14.out (List.Mem.head _) HXL.out.len
  have HPT : Hid (Calls Tryd.prog 10 #[.agg (hdA X)] u15 fun e w' => (∃ v, e = .returned (.tuple #[v, .bool true]) ∧ OwnB w' u15.heap.size v (putH X).1) ∧ Below u15.heap.size u15 w') := by
    have h1 := HH.out.put X u15 HXL.out (HT3.out.below (EnvX.bel EX14.out))
    rwa [HP3.out] at h1
  go_upto_region 8 with (fail)
  go_wp2_with ((with_reducible refine wpList_load_run (o := ⟨some 48, _, _, _, _, _⟩) ?_ 29 (.tmp 14) ?_ ⟨g14, 0, none⟩ ?_ HLD.out ?_); (rfl); (rfl); (rfl))
  refine HPT.out.mono ?_
  rintro e w4 ⟨⟨v8, rfl, hv⟩, hb⟩
  obtain ⟨Ar, cr, rfl⟩ := hv.form
  have HB_zs := Lib.hid hv.bytes.2
  have HC_zs := Lib.hid hv.cap
  have hbb := (EnvX.below EX14.out hb).bel
  have E4 : Hid (EnvX w4 w4 [(g14, Obj.cells (hdA X) 29 (0, 0)), (g12, Obj.cells (hdA h) 29 (0, 0)), (w.heap.size + 1, Obj.cells (hdA g) 29 (0, 0)), (w.heap.size, Obj.cells (hdA h) 29 (0, 0))]) := ⟨Below.refl _ _, (EnvX.below EX14.out hb).box⟩
  have HB4 := Lib.hid (HB3.out.trans (hbb.mono HB3.out.size))
  have HT4 := Lib.hid (HT3.out.below hbb)
  have HB_xs := Lib.hid (HB_xs.out.up hbb)
  have HB_ys := Lib.hid (HB_ys.out.up hbb)
  clear hv hb HLD HPT hbb EX14
  obtain ⟨nr, hnp⟩ : ∃ np, (putH X).1.length = np := ⟨_, rfl⟩
  obtain ⟨zs, hxs⟩ : ∃ xs, (putH X).1 = xs := ⟨_, rfl⟩
  have HN_zs := Lib.hid hnp
  have HX_zs := Lib.hid hxs
  rw [hnp] at HC_zs ⊢
  rw [hxs] at HB_zs HN_zs
  clear hnp hxs
  have HP63 : Hid (np < 9223372036854775808) := by show _ < _; have h1 := HN_xs.out; have h2 := HNX.out.1; rw [HX_xs.out] at h2; omega
  have C18 : Hid ((!eqH h h) = false) := by show _ = _; simp [eqH]
  rw [HX_xs.out] at HBH HNX
  rw [HX_ys.out] at HBG HGY
  rw [HX_zs.out] at HXB
  have C23 : Hid (decide ((np : Int) ≠ 176) = false) := decide_eq_false (by have h1 := HN_xs.out; have h2 := HNX.out.1; omega)
  obtain ⟨s0, hs0⟩ : ∃ s, strOfNums xs = s := ⟨_, rfl⟩
  obtain ⟨s1, hs1⟩ : ∃ s, strOfNums ys = s := ⟨_, rfl⟩
  have HS0 := Lib.hid hs0
  have HS1 := Lib.hid hs1
  have HES : Hid ((s0.toList == s1.toList) = eqH h g) := by
    show _ = _
    rw [← hs0, ← hs1, strOf_beq HNX.out.2.1 HGY.out, ← HIJ.out]
    have e1 := HBH.out (by have := HP1.out; unfold putH at this; cases hm : mayPut h with | true => rfl | false => rw [hm] at this; cases this)
    have e2 := HBG.out HK2.out
    rw [e1, e2]
  clear hs0 hs1
  go_upto_region 9 with (fail)
  refine wp_region_H (w0 := w4) [(g14, Obj.cells (hdA X) 29 (0, 0)), (g12, Obj.cells (hdA h) 29 (0, 0)), (w.heap.size + 1, Obj.cells (hdA g) 29 (0, 0)), (w.heap.size, Obj.cells (hdA h) 29 (0, 0))] (by kernel_rfl) E4.out ?_
  refine anyH_phase [0, 1, 2, 3, 4, 5, 6, 7, 8, 9, 10, 11, 12, 13, 14, 15, 16, 17, 18, 19, 20, 21, 22, 23, 24, 25, 26, 27, 28, 29, 30, 31, 32, 33, 34, 35, 36, 37, 38, 39, 40, 41, 42, 43] 0 rfl ⟨_, (EnvX.drew E4.out)⟩ (by kernel_rfl) ?_
  have hw16 : EnvX w4 _ [(g14, Obj.cells (hdA X) 29 (0, 0)), (g12, Obj.cells (hdA h) 29 (0, 0)), (w.heap.size + 1, Obj.cells (hdA g) 29 (0, 0)), (w.heap.size, Obj.cells (hdA h) 29 (0, 0))] := (EnvX.drew E4.out)
  have hone := @EnvC.one _ _ _ hw16
  (refine wpG_op rfl rfl rfl ?_; intro K hK; go_big_quiet_op; go_big_quiet_on)
  (refine wpG_op rfl rfl rfl ?_; intro K hK; go_big_quiet_op; go_big_quiet_on)
  (refine wpG_val (v := .int .i64 h.height) rfl rfl (fun u hu => load_any_op u (box_hd_height hu (List.Mem.tail _ (List.Mem.tail _ (List.Mem.tail _ (List.Mem.head _))))) rfl) ?_ hw16; intro K hK; go_big_quiet_op; go_big_quiet_on)
  (refine wpG_val (v := .bool true) rfl rfl (fun u hu => geZ_op u C9.out.1 rfl rfl) ?_ hw16; intro K hK; go_big_quiet_op; go_big_quiet_on)
  (refine wpG_op rfl rfl rfl ?_; intro K hK; go_big_quiet_op; go_big_quiet_on)
  (refine wpG_op rfl rfl rfl ?_; intro K hK; go_big_quiet_op; go_big_quiet_on)
  (refine wpG_val (v := .int .i64 h.height) rfl rfl (fun u hu => load_any_op u (box_hd_height hu (List.Mem.tail _ (List.Mem.tail _ (List.Mem.tail _ (List.Mem.head _))))) rfl) ?_ hw16; intro K hK; go_big_quiet_op; go_big_quiet_on)
  (refine wpG_val (v := .bool true) rfl rfl (fun u hu => leZ_op u C9.out.2 rfl rfl) ?_ hw16; intro K hK; go_big_quiet_op; go_big_quiet_on)
  (refine wpG_op rfl rfl rfl ?_; intro K hK; go_big_quiet_op; go_big_quiet_on)
  (refine wpG_val (v := .bool false) rfl rfl (fun u hu => neqTTh_op u rfl rfl) ?_ hw16; intro K hK; go_big_quiet_op; go_big_quiet_on)
  (refine wpG_op rfl rfl rfl ?_; intro K hK; go_big_quiet_op; go_big_quiet_on)
  (refine wpG_op rfl rfl rfl ?_; intro K hK; go_big_quiet_op; go_big_quiet_on)
  (refine wpG_op rfl rfl rfl ?_; intro K hK; go_big_quiet_op; go_big_quiet_on)
  (refine wpG_op rfl rfl rfl ?_; intro K hK; go_big_quiet_op; go_big_quiet_on)
  (refine wpG_op rfl rfl rfl ?_; intro K hK; go_big_quiet_op; go_big_quiet_on)
  (refine wpG_op rfl rfl rfl ?_; intro K hK; go_big_quiet_op; go_big_quiet_on)
  (refine wpG_val (v := hdV h) rfl rfl (fun u hu => load_any_op u (box_hd hu (List.Mem.tail _ (List.Mem.head _)) HL.out) rfl) ?_ hw16; intro K hK; go_big_quiet_op; go_big_quiet_on)
  (refine wpG_val (v := hdV h) rfl rfl (fun u hu => load_any_op u (box_hd hu (List.Mem.tail _ (List.Mem.tail _ (List.Mem.tail _ (List.Mem.head _)))) HL.out) rfl) ?_ hw16; intro K hK; go_big_quiet_op; go_big_quiet_on)
  (refine wpG_val (v := .bool false) rfl rfl (fun u hu => neqHd_op HOK.out.1 HOK.out.1 C18.out u rfl rfl) ?_ hw16; intro K hK; go_big_quiet_op; go_big_quiet_on)
  (refine wpG_op rfl rfl rfl ?_; intro K hK; go_big_quiet_op; go_big_quiet_on)
  (refine wpG_op rfl rfl rfl ?_; intro K hK; go_big_quiet_op; go_big_quiet_on)
  (refine wpG_op rfl rfl rfl ?_; intro K hK; go_big_quiet_op; go_big_quiet_on)
  (refine wpG_val (v := .int .i64 (np : Int)) rfl rfl (fun u hu => len_op Tryd.underlying30 HP63.out u rfl) ?_ hw16; intro K hK; go_big_quiet_op; go_big_quiet_on)
  (refine wpG_val (v := .bool false) rfl rfl (fun u hu => neZ_op u C23.out rfl rfl) ?_ hw16; intro K hK; go_big_quiet_op; go_big_quiet_on)
  (refine wpG_op rfl rfl rfl ?_; intro K hK; go_big_quiet_op; go_big_quiet_on)
  (refine wpG_op rfl rfl rfl ?_; intro K hK; go_big_quiet_op; go_big_quiet_on)
  (refine wpG_op rfl rfl rfl ?_; intro K hK; go_big_quiet_op; go_big_quiet_on)
  (refine wpG_op rfl rfl rfl ?_; intro K hK; go_big_quiet_op; go_big_quiet_on)
  (refine wpG_op rfl rfl rfl ?_; intro K hK; go_big_quiet_op; go_big_quiet_on)
  (refine wpG_op rfl rfl rfl ?_; intro K hK; go_big_quiet_op; go_big_quiet_on)
  (refine wpG_op rfl rfl rfl ?_; intro K hK; go_big_quiet_op; go_big_quiet_on)
  (refine wpG_op rfl rfl rfl ?_; intro K hK; go_big_quiet_op; go_big_quiet_on)
  (refine wpG_op rfl rfl rfl ?_; intro K hK; go_big_quiet_op; go_big_quiet_on)
  (refine wpG_op rfl rfl rfl ?_; intro K hK; go_big_quiet_op; go_big_quiet_on)
  (refine wpG_val (v := .string s0) rfl rfl (fun u hu => conv_op u HN_xs.out (HB_xs.out.up (EnvX.bel hu)) HS0.out rfl) ?_ hw16; intro K hK; go_big_quiet_op; go_big_quiet_on)
  (refine wpG_op rfl rfl rfl ?_; intro K hK; go_big_quiet_op; go_big_quiet_on)
  (refine wpG_val (v := .string s1) rfl rfl (fun u hu => conv_op u HN_ys.out (HB_ys.out.up (EnvX.bel hu)) HS1.out rfl) ?_ hw16; intro K hK; go_big_quiet_op; go_big_quiet_on)
  (refine wpG_val (v := .bool (eqH h g)) rfl rfl (fun u hu => eqs_op u HES.out rfl rfl) ?_ hw16; intro K hK; go_big_quiet_op; go_big_quiet_on)
  (refine wpG_val (v := hdV h) rfl rfl (fun u hu => load_any_op u (box_hd hu (List.Mem.tail _ (List.Mem.tail _ (List.Mem.tail _ (List.Mem.head _)))) HL.out) rfl) ?_ hw16; intro K hK; go_big_quiet_op; go_big_quiet_on)
  (refine wpG_val (v := hdV g) rfl rfl (fun u hu => load_any_op u (box_hd hu (List.Mem.tail _ (List.Mem.tail _ (List.Mem.head _))) HLG.out) rfl) ?_ hw16; intro K hK; go_big_quiet_op; go_big_quiet_on)
  (refine wpG_val (v := .bool (eqH h g)) rfl rfl (fun u hu => eqlHd_op HOK.out.1 HOK.out.2 rfl u rfl rfl) ?_ hw16; intro K hK; go_big_quiet_op; go_big_quiet_on)
  (refine wpG_val (v := .bool false) rfl rfl (fun u hu => neqTTh_op u rfl rfl) ?_ hw16; intro K hK; go_big_quiet_op; go_big_quiet_on)
  (refine wpG_op rfl rfl rfl ?_; intro K hK; go_big_quiet_op; go_big_quiet_on)
  (refine wpG_op rfl rfl rfl ?_; intro K hK; go_big_quiet_op; go_big_quiet_on)
  clear hone hw16
  refine wpG_nil ?_
  refine anyH_done (by kernel_rfl) ?_
  intro u18 E2'
  have EX17 := Lib.hid E2'
  clear E2'
  cases mr with
  | false =>
    have HEX : Hid (eqH X noHd = true) := decide_eq_true (HX0.out rfl)
    go_upto_region 11 with (fail)
    refine wp_region_Hx (w0 := w4) [0, 1, 2, 3, 4, 5, 6, 7, 8, 9, 10, 11, 12, 13, 14, 15, 16, 17, 18, 19, 20] [(g14, Obj.cells (hdA X) 29 (0, 0)), (g12, Obj.cells (hdA h) 29 (0, 0)), (w.heap.size + 1, Obj.cells (hdA g) 29 (0, 0)), (w.heap.size, Obj.cells (hdA h) 29 (0, 0))] rfl EX17.out ?_
    refine lexH_phase [0, 1, 2, 3, 4, 5, 6, 7, 8, 9, 10, 11, 12, 13, 14, 15, 16, 17, 18, 19, 20] [] ?_
    have hw19 : EnvX w4 _ [(g14, Obj.cells (hdA X) 29 (0, 0)), (g12, Obj.cells (hdA h) 29 (0, 0)), (w.heap.size + 1, Obj.cells (hdA g) 29 (0, 0)), (w.heap.size, Obj.cells (hdA h) 29 (0, 0))] := EX17.out
    have hone := @EnvC.one _ _ _ hw19
    (refine wpG_op rfl rfl rfl ?_; intro K hK; go_big_quiet_op; go_big_quiet_on)
    (refine wpG_op rfl rfl rfl ?_; intro K hK; go_big_quiet_op; go_big_quiet_on)
    (refine wpG_op rfl rfl rfl ?_; intro K hK; go_big_quiet_op; go_big_quiet_on)
    (refine wpG_val (v := hdV X) rfl rfl (fun u hu => load_any_op u (box_hd hu (List.Mem.head _) HXL.out.len) rfl) ?_ hw19; intro K hK; go_big_quiet_op; go_big_quiet_on)
    (refine wpG_val (v := hdV noHd) rfl rfl (fun u hu => buildA_op u built_no) ?_ hw19; intro K hK; go_big_quiet_op; go_big_quiet_on)
    (refine wpG_val (v := .bool true) rfl rfl (fun u hu => eqlHd_op HXL.out okHd_no HEX.out u rfl rfl) ?_ hw19; intro K hK; go_big_quiet_op; go_big_quiet_on)
    (refine wpG_op rfl rfl rfl ?_; intro K hK; go_big_quiet_op; go_big_quiet_on)
    (refine wpG_op rfl rfl rfl ?_; intro K hK; go_big_quiet_op; go_big_quiet_on)
    (refine wpG_skip rfl rfl ?_ hw19; intro K hK; go_big_quiet_op; go_big_quiet_on)
    (refine wpG_skip rfl rfl ?_ hw19; intro K hK; go_big_quiet_op; go_big_quiet_on)
    (refine wpG_skip rfl rfl ?_ hw19; intro K hK; go_big_quiet_op; go_big_quiet_on)
    (refine wpG_skip rfl rfl ?_ hw19; intro K hK; go_big_quiet_op; go_big_quiet_on)
    (refine wpG_skip rfl rfl ?_ hw19; intro K hK; go_big_quiet_op; go_big_quiet_on)
    (refine wpG_skip rfl rfl ?_ hw19; intro K hK; go_big_quiet_op; go_big_quiet_on)
    (refine wpG_skip rfl rfl ?_ hw19; intro K hK; go_big_quiet_op; go_big_quiet_on)
    (refine wpG_skip rfl rfl ?_ hw19; intro K hK; go_big_quiet_op; go_big_quiet_on)
    (refine wpG_skip rfl rfl ?_ hw19; intro K hK; go_big_quiet_op; go_big_quiet_on)
    (refine wpG_skip rfl rfl ?_ hw19; intro K hK; go_big_quiet_op; go_big_quiet_on)
    (refine wpG_skip rfl rfl ?_ hw19; intro K hK; go_big_quiet_op; go_big_quiet_on)
    (refine wpG_op rfl rfl rfl ?_; intro K hK; go_big_quiet_op; go_big_quiet_on)
    (refine wpG_op rfl rfl rfl ?_; intro K hK; go_big_quiet_op; go_big_quiet_on)
    clear hone hw19
    refine wpG_nil ?_
    intro u21 E2'
    have EX20 := Lib.hid E2'
    clear E2'
    have HBE := Lib.hid (HB4.out.trans ((EnvX.bel EX20.out).mono HB4.out.size))
    go_wp2
    go_ret
    exact ⟨rfl, HBE.out⟩
  | true =>
    have hzb : zs = b := by rw [HXB.out.1]; exact HX1.out rfl
    obtain ⟨s2, hs2⟩ : ∃ s, strOfNums zs = s := ⟨_, rfl⟩
    have HS2 := Lib.hid hs2
    have HS3 : Hid (strOfNums b = s2) := by show _ = _; rw [← hzb]; exact hs2
    have HE2 : Hid ((s2.toList == s2.toList) = true) := beq_self_eq_true _
    clear hzb hs2
    go_upto_region 11 with (fail)
    refine wp_region_Hx (w0 := w4) [0, 1, 2, 3, 4, 5, 6, 7, 8, 9, 10, 11, 12, 13, 14, 15, 16, 17, 18, 19, 20] [(g14, Obj.cells (hdA X) 29 (0, 0)), (g12, Obj.cells (hdA h) 29 (0, 0)), (w.heap.size + 1, Obj.cells (hdA g) 29 (0, 0)), (w.heap.size, Obj.cells (hdA h) 29 (0, 0))] rfl EX17.out ?_
    refine lexH_phase [0, 1, 2, 3, 4, 5, 6, 7, 8, 9, 10, 11, 12, 13, 14, 15, 16, 17, 18, 19, 20] [] ?_
    have hw19 : EnvX w4 _ [(g14, Obj.cells (hdA X) 29 (0, 0)), (g12, Obj.cells (hdA h) 29 (0, 0)), (w.heap.size + 1, Obj.cells (hdA g) 29 (0, 0)), (w.heap.size, Obj.cells (hdA h) 29 (0, 0))] := EX17.out
    have hone := @EnvC.one _ _ _ hw19
    (refine wpG_op rfl rfl rfl ?_; intro K hK; go_big_quiet_op; go_big_quiet_on)
    (refine wpG_op rfl rfl rfl ?_; intro K hK; go_big_quiet_op; go_big_quiet_on)
    (refine wpG_op rfl rfl rfl ?_; intro K hK; go_big_quiet_op; go_big_quiet_on)
    (refine wpG_skip rfl rfl ?_ hw19; intro K hK; go_big_quiet_op; go_big_quiet_on)
    (refine wpG_skip rfl rfl ?_ hw19; intro K hK; go_big_quiet_op; go_big_quiet_on)
    (refine wpG_skip rfl rfl ?_ hw19; intro K hK; go_big_quiet_op; go_big_quiet_on)
    (refine wpG_op rfl rfl rfl ?_; intro K hK; go_big_quiet_op; go_big_quiet_on)
    (refine wpG_op rfl rfl rfl ?_; intro K hK; go_big_quiet_op; go_big_quiet_on)
    (refine wpG_op rfl rfl rfl ?_; intro K hK; go_big_quiet_op; go_big_quiet_on)
    (refine wpG_op rfl rfl rfl ?_; intro K hK; go_big_quiet_op; go_big_quiet_on)
    (refine wpG_op rfl rfl rfl ?_; intro K hK; go_big_quiet_op; go_big_quiet_on)
    (refine wpG_op rfl rfl rfl ?_; intro K hK; go_big_quiet_op; go_big_quiet_on)
    (refine wpG_op rfl rfl rfl ?_; intro K hK; go_big_quiet_op; go_big_quiet_on)
    (refine wpG_op rfl rfl rfl ?_; intro K hK; go_big_quiet_op; go_big_quiet_on)
    (refine wpG_val (v := .string s2) rfl rfl (fun u hu => conv_op u HN_zs.out (HB_zs.out.up (EnvX.bel hu)) HS2.out rfl) ?_ hw19; intro K hK; go_big_quiet_op; go_big_quiet_on)
    (refine wpG_op rfl rfl rfl ?_; intro K hK; go_big_quiet_op; go_big_quiet_on)
    (refine wpG_val (v := .string s2) rfl rfl (fun u hu => conv_op u HBB.out.1 (HBX.out.up (HB4.out.trans ((EnvX.bel hu).mono HB4.out.size))) HS3.out rfl) ?_ hw19; intro K hK; go_big_quiet_op; go_big_quiet_on)
    (refine wpG_val (v := .bool true) rfl rfl (fun u hu => eqs_op u HE2.out rfl rfl) ?_ hw19; intro K hK; go_big_quiet_op; go_big_quiet_on)
    (refine wpG_op rfl rfl rfl ?_; intro K hK; go_big_quiet_op; go_big_quiet_on)
    (refine wpG_op rfl rfl rfl ?_; intro K hK; go_big_quiet_op; go_big_quiet_on)
    (refine wpG_op rfl rfl rfl ?_; intro K hK; go_big_quiet_op; go_big_quiet_on)
    clear hone hw19
    refine wpG_nil ?_
    intro u21 E2'
    have EX20 := Lib.hid E2'
    clear E2'
    have HBE := Lib.hid (HB4.out.trans ((EnvX.bel EX20.out).mono HB4.out.size))
    go_wp2
    go_ret
    exact ⟨rfl, HBE.out⟩
set_option maxRecDepth 20000 in
set_option maxHeartbeats 8000000 in
theorem law_back_tf (H : HeadC) (h g : Hd) (b : List Int) (A : Option Addr) (n c : Nat) (w : World) (hh : okHd h) (hg : okHd g) (hl : b.length = n) (hnc : n ≤ c) (hcm : c ≤ maxLen) (hB : isB b) (hx : Bytes w w.heap.size A b) (ht : Tables w) (k1 : mayPut h = true) (k2 : mayPut g = false) (k3 : decide (0 ≤ h.height) = true ∧ decide (h.height ≤ 1048576) = true) (h4 : ¬ 400 < n) :
    Calls Tryd.prog 4 #[hdV h, hdV g, .slice A n c] w fun e w' => e = .returned (.bool true) ∧ Below w.heap.size w w' := by
  have HN63 : Hid (n < 9223372036854775808) := by show _ < _; omega
  have C5 : Hid (decide ((400 : Int) < (n : Int)) = false) := decide_eq_false (by omega)
  have HNX : Hid ((putH h).1.length = 176 ∧ isB (putH h).1 ∧ readH (putH h).1 = (h, true)) := by
    unfold putH
    rw [k1]
    exact ⟨body_len hh, body_byte hh, read_body hh k1⟩
  have HBG : Hid (mayPut g = true → (putH g).1 = bodyH g) := fun e => by unfold putH; rw [e]; rfl
  have HBH : Hid (mayPut h = true → (putH h).1 = bodyH h) := fun e => by unfold putH; rw [e]; rfl
  have HGY : Hid (isB (putH g).1) := put_byte hg
  have HRD : Hid (∀ u, Below w.heap.size w u → Tables u → Calls Tryd.prog 12 #[.slice A n c] u fun e w' => e = .returned (.tuple #[hdV (readH b).1, .bool (mayRead b)]) ∧ Below u.heap.size u w') := fun u hb hu => by
    have h1 := H.read A n c b u hl (by omega) hnc hcm hB (hx.up hb) hu
    rwa [read_snd] at h1
  have HRP : Hid (∀ (ys : List Int) (A : Option Addr) (m c : Nat) (u : World), ys = (putH h).1 → ys.length = m → m ≤ c → c ≤ maxLen → Bytes u u.heap.size A ys → Tables u → Calls Tryd.prog 12 #[.slice A m c] u fun e w' => e = .returned (.tuple #[hdV h, .bool true]) ∧ Below u.heap.size u w') := fun ys A m c u h1 h2 h4 h5 h7 h8 => by
    have hy := HNX.out
    rw [← h1] at hy
    have h9 := H.read A m c ys u h2 (by omega) h4 h5 hy.2.1 h7 h8
    rwa [hy.2.2] at h9
  have HXL : Hid (okHd (readH b).1) := okHd_read hB
  have HXP : Hid (mayPut (readH b).1 = true) := read_put hB
  have HXB : Hid ((putH (readH b).1).1 = bodyH (readH b).1 ∧ (bodyH (readH b).1).length = 176 ∧ isB (bodyH (readH b).1)) := ⟨by unfold putH; rw [HXP.out]; rfl, body_len HXL.out, body_byte HXL.out⟩
  have HX0 : Hid (mayRead b = false → (readH b).1 = noHd) := fun e => by rw [read_no e]
  have HX1 : Hid (mayRead b = true → bodyH (readH b).1 = b) := fun e => by unfold readH; rw [if_pos e]; exact (read_ok hB e).2.2
  have HBB := Lib.hid (And.intro hl hB)
  have HBX := Lib.hid hx
  have HL := Lib.hid hh.len
  have HLG := Lib.hid hg.len
  have HOK := Lib.hid (And.intro hh hg)
  have HP1 : Hid ((putH h).2 = true) := by show _ = _; unfold putH; rw [k1]; rfl
  have HP2 : Hid ((putH g).2 = false) := by show _ = _; unfold putH; rw [k2]; rfl
  have HP3 : Hid ((putH (readH b).1).2 = true) := by show _ = _; unfold putH; rw [HXP.out]; rfl
  have HK2 := Lib.hid k2
  have C9 := Lib.hid k3
  generalize (readH b).1 = X at *
  obtain ⟨mr, hmr⟩ : ∃ mr, mayRead b = mr := ⟨_, rfl⟩
  rw [hmr] at HRD HX0 HX1
  clear h4 hl hnc hcm hB hx k3 hmr
  have E0 : Hid (EnvX w ((w.alloc (.cells (hdA h) 29)).alloc (.cells (hdA g) 29)) [(w.heap.size + 1, Obj.cells (hdA g) 29 (0, 0)), (w.heap.size, Obj.cells (hdA h) 29 (0, 0))]) := (EnvX.start w).two _ _
  have HAW := Lib.hid (hawake_any H ((w.alloc (.cells (hdA h) 29)).alloc (.cells (hdA g) 29)) (ht.below (EnvX.bel E0.out)))
  have HT := Lib.hid ht
  have HH := Lib.hid H
  clear ht H hh hg k1 k2
  unfold hdV
  go_enter Tryd.func4, Tryd.ntmps4
  go_upto_region 1 with (fail)
  generalize ((w.alloc (.cells (hdA h) 29)).alloc (.cells (hdA g) 29)) = W at *
  go_wp2_with fail
  refine HAW.out.mono ?_
  rintro e w1 ⟨rfl, hb1⟩
  have HB1 := Lib.hid (EnvX.below E0.out hb1).bel
  have E1 : Hid (EnvX w1 w1 [(w.heap.size + 1, Obj.cells (hdA g) 29 (0, 0)), (w.heap.size, Obj.cells (hdA h) 29 (0, 0))]) := ⟨Below.refl _ _, (EnvX.below E0.out hb1).box⟩
  have HT1 := Lib.hid (HT.out.below HB1.out)
  clear hb1 E0 HAW
  go_upto_region 2 with (fail)
  refine wp_region_Hx (w0 := w1) [0, 1, 2, 3, 4, 5, 6] [(w.heap.size + 1, Obj.cells (hdA g) 29 (0, 0)), (w.heap.size, Obj.cells (hdA h) 29 (0, 0))] rfl E1.out ?_
  refine lexH_phase [0, 1, 2, 3, 4, 5, 6] [] ?_
  have hw1 : EnvX w1 _ [(w.heap.size + 1, Obj.cells (hdA g) 29 (0, 0)), (w.heap.size, Obj.cells (hdA h) 29 (0, 0))] := E1.out
  have hone := @EnvC.one _ _ _ hw1
  (refine wpG_op rfl rfl rfl ?_; intro K hK; go_big_quiet_op; go_big_quiet_on)
  (refine wpG_op rfl rfl rfl ?_; intro K hK; go_big_quiet_op; go_big_quiet_on)
  (refine wpG_op rfl rfl rfl ?_; intro K hK; go_big_quiet_op; go_big_quiet_on)
  (refine wpG_op rfl rfl rfl ?_; intro K hK; go_big_quiet_op; go_big_quiet_on)
  (refine wpG_val (v := .int .i64 (n : Int)) rfl rfl (fun u hu => len_op Tryd.underlying30 HN63.out u rfl) ?_ hw1; intro K hK; go_big_quiet_op; go_big_quiet_on)
  (refine wpG_val (v := .bool false) rfl rfl (fun u hu => gtZ_op u C5.out rfl rfl) ?_ hw1; intro K hK; go_big_quiet_op; go_big_quiet_on)
  (refine wpG_op rfl rfl rfl ?_; intro K hK; go_big_quiet_op; go_big_quiet_on)
  clear hone hw1
  refine wpG_nil ?_
  intro u3 E2'
  have EX2 := Lib.hid E2'
  clear E2'
  have HLD : Hid ((loadVar 29 ⟨w.heap.size, 0, none⟩).run Tryd.prog u3 = .ok (.agg (hdA h)) u3) := box_hd EX2.out (List.Mem.tail _ (List.Mem.head _)) HL.out
  have HPT : Hid (Calls Tryd.prog 10 #[.agg (hdA h)] u3 fun e w' => (∃ v, e = .returned (.tuple #[v, .bool true]) ∧ OwnB w' u3.heap.size v (putH h).1) ∧ Below u3.heap.size u3 w') := by
    have h1 := HH.out.put h u3 HOK.out.1 (HT1.out.below (EnvX.bel EX2.out))
    rwa [HP1.out] at h1
  go_upto_region 4 with (fail)
  go_wp2_with ((with_reducible refine wpList_load_run (o := ⟨some 28, _, _, _, _, _⟩) ?_ 29 (.tmp 3) ?_ ⟨w.heap.size, 0, none⟩ ?_ HLD.out ?_); (rfl); (rfl); (rfl))
  refine HPT.out.mono ?_
  rintro e w2 ⟨⟨v4, rfl, hv⟩, hb⟩
  obtain ⟨Ap, cp, rfl⟩ := hv.form
  have HB_xs := Lib.hid hv.bytes.2
  have HC_xs := Lib.hid hv.cap
  have hbb := (EnvX.below EX2.out hb).bel
  have E2 : Hid (EnvX w2 w2 [(w.heap.size + 1, Obj.cells (hdA g) 29 (0, 0)), (w.heap.size, Obj.cells (hdA h) 29 (0, 0))]) := ⟨Below.refl _ _, (EnvX.below EX2.out hb).box⟩
  have HB2 := Lib.hid (HB1.out.trans (hbb.mono HB1.out.size))
  have HT2 := Lib.hid (HT1.out.below hbb)
  clear hv hb HLD HPT hbb EX2
  obtain ⟨np, hnp⟩ : ∃ np, (putH h).1.length = np := ⟨_, rfl⟩
  obtain ⟨xs, hxs⟩ : ∃ xs, (putH h).1 = xs := ⟨_, rfl⟩
  have HN_xs := Lib.hid hnp
  have HX_xs := Lib.hid hxs
  rw [hnp] at HC_xs ⊢
  rw [hxs] at HB_xs HN_xs
  clear hnp hxs
  have HLD : Hid ((loadVar 29 ⟨w.heap.size + 1, 0, none⟩).run Tryd.prog w2 = .ok (.agg (hdA g)) w2) := box_hd E2.out (List.Mem.head _) HLG.out
  have HPT : Hid (Calls Tryd.prog 10 #[.agg (hdA g)] w2 fun e w' => (∃ v, e = .returned (.tuple #[v, .bool false]) ∧ OwnB w' w2.heap.size v (putH g).1) ∧ Below w2.heap.size w2 w') := by
    have h1 := HH.out.put g w2 HOK.out.2 (HT2.out.below (EnvX.bel E2.out))
    rwa [HP2.out] at h1
  go_upto_region 5 with (fail)
  go_wp2_with ((with_reducible refine wpList_load_run (o := ⟨some 33, _, _, _, _, _⟩) ?_ 29 (.tmp 4) ?_ ⟨w.heap.size + 1, 0, none⟩ ?_ HLD.out ?_); (rfl); (rfl); (rfl))
  refine HPT.out.mono ?_
  rintro e w3 ⟨⟨v5, rfl, hv⟩, hb⟩
  obtain ⟨Aq, cq, rfl⟩ := hv.form
  have HB_ys := Lib.hid hv.bytes.2
  have HC_ys := Lib.hid hv.cap
  have hbb := (EnvX.below E2.out hb).bel
  have E3 : Hid (EnvX w3 w3 [(w.heap.size + 1, Obj.cells (hdA g) 29 (0, 0)), (w.heap.size, Obj.cells (hdA h) 29 (0, 0))]) := ⟨Below.refl _ _, (EnvX.below E2.out hb).box⟩
  have HB3 := Lib.hid (HB2.out.trans (hbb.mono HB2.out.size))
  have HT3 := Lib.hid (HT2.out.below hbb)
  have HB_xs := Lib.hid (HB_xs.out.up hbb)
  clear hv hb HLD HPT hbb E2
  obtain ⟨nq, hnp⟩ : ∃ np, (putH g).1.length = np := ⟨_, rfl⟩
  obtain ⟨ys, hxs⟩ : ∃ xs, (putH g).1 = xs := ⟨_, rfl⟩
  have HN_ys := Lib.hid hnp
  have HX_ys := Lib.hid hxs
  rw [hnp] at HC_ys ⊢
  rw [hxs] at HB_ys HN_ys
  clear hnp hxs
  go_upto_region 6 with (fail)
  have HLP : Hid (lenH h) := HL.out
  refine wp_region_Hx (w0 := w3) [0, 1, 2, 3, 4, 5, 6, 7] [(w.heap.size + 1, Obj.cells (hdA g) 29 (0, 0)), (w.heap.size, Obj.cells (hdA h) 29 (0, 0))] rfl E3.out ?_
  refine lexH_phase [0, 1, 2, 3, 4] [5, 6, 7] ?_
  have hw4 : EnvX w3 _ [(w.heap.size + 1, Obj.cells (hdA g) 29 (0, 0)), (w.heap.size, Obj.cells (hdA h) 29 (0, 0))] := E3.out
  have hone := @EnvC.one _ _ _ hw4
  (refine wpG_op rfl rfl rfl ?_; intro K hK; go_big_quiet_op; go_big_quiet_on)
  (refine wpG_call (f := 12) (args := #[.slice Ap np cp]) (v := .tuple #[hdV h, .bool true]) rfl rfl rfl Tryd.func12 rfl rfl (fun u hu => HRP.out xs _ np cp u HX_xs.out.symm HN_xs.out HC_xs.out.1 HC_xs.out.2 (HB_xs.out.up (EnvX.bel hu)) (HT3.out.below (EnvX.bel hu))) ?_ hw4; intro K hK; go_big_quiet_op; go_big_quiet_on)
  (refine wpG_op rfl rfl rfl ?_; intro K hK; go_big_quiet_op; go_big_quiet_on)
  (refine wpG_op rfl rfl rfl ?_; intro K hK; go_big_quiet_op; go_big_quiet_on)
  (refine wpG_op rfl rfl rfl ?_; intro K hK; go_big_quiet_op; go_big_quiet_on)
  clear hone hw4
  refine wpG_nil ?_
  refine (hOp_fresh (R := fun x N => ∃ g, x = .pointer (some ⟨g, 0, none⟩) ∧ N = [(g, Obj.cells (hdA noHd) 29 (0, 0))]) (M0 := [(w.heap.size + 1, Obj.cells (hdA g) 29 (0, 0)), (w.heap.size, Obj.cells (hdA h) 29 (0, 0))]) rfl rfl (fun _ h => h) (fun u hu => FAt_new (new_hd _) u) ?_)
  rintro _ _ ⟨g12, rfl, rfl⟩ hf he5; intro K' hK'; go_big_quiet_op; go_big_quiet_on
  have HG12 := Lib.hid (hf _ (List.mem_singleton.2 rfl))
  clear hf
  change lexH _ _ _ _ _ _ [(g12, Obj.cells (hdA noHd) 29 (0, 0)), (w.heap.size + 1, Obj.cells (hdA g) 29 (0, 0)), (w.heap.size, Obj.cells (hdA h) 29 (0, 0))]
  refine (hOp_store rfl (g12) (hdA h) rfl rfl HG12.out.1 29 ((hdA noHd)) (List.Mem.head _) (infoHd _ (hdA_size HLP.out)) ((hdA_size (show lenH noHd from ⟨rfl, rfl, rfl, rfl⟩)).trans (hdA_size HLP.out).symm) (hdA_one _) [(g12, Obj.cells (hdA h) 29 (0, 0)), (w.heap.size + 1, Obj.cells (hdA g) 29 (0, 0)), (w.heap.size, Obj.cells (hdA h) 29 (0, 0))] (List.forall_mem_cons.2 ⟨.inl rfl, fun y hy => .inr ⟨List.mem_cons_of_mem _ hy, HG12.out.2 y hy⟩⟩) ?_)
  intro he6
  refine lexH_phase [7] [] ?_
  have hw7 : EnvX w3 _ [(g12, Obj.cells (hdA h) 29 (0, 0)), (w.heap.size + 1, Obj.cells (hdA g) 29 (0, 0)), (w.heap.size, Obj.cells (hdA h) 29 (0, 0))] := he6.choose_spec
  have hone := @EnvC.one _ _ _ hw7
  (refine wpG_op rfl rfl rfl ?_; intro K hK; go_big_quiet_op; go_big_quiet_on)
  clear hone hw7
  refine wpG_nil ?_
  intro u9 E2'
  have EX8 := Lib.hid E2'
  clear E2'
  go_upto_region 7 with (fail)
  refine wp_region_Hx (w0 := w3) [0, 1, 2, 3, 4, 5, 6, 7] [(g12, Obj.cells (hdA h) 29 (0, 0)), (w.heap.size + 1, Obj.cells (hdA g) 29 (0, 0)), (w.heap.size, Obj.cells (hdA h) 29 (0, 0))] rfl EX8.out ?_
  refine lexH_phase [0, 1, 2, 3, 4] [5, 6, 7] ?_
  have hw10 : EnvX w3 _ [(g12, Obj.cells (hdA h) 29 (0, 0)), (w.heap.size + 1, Obj.cells (hdA g) 29 (0, 0)), (w.heap.size, Obj.cells (hdA h) 29 (0, 0))] := EX8.out
  have hone := @EnvC.one _ _ _ hw10
  (refine wpG_op rfl rfl rfl ?_; intro K hK; go_big_quiet_op; go_big_quiet_on)
  (refine wpG_call (f := 12) (args := #[.slice A n c]) (v := .tuple #[hdV X, .bool mr]) rfl rfl rfl Tryd.func12 rfl rfl (fun u hu => HRD.out u (HB3.out.trans ((EnvX.bel hu).mono HB3.out.size)) (HT3.out.below (EnvX.bel hu))) ?_ hw10; intro K hK; go_big_quiet_op; go_big_quiet_on)
  (refine wpG_op rfl rfl rfl ?_; intro K hK; go_big_quiet_op; go_big_quiet_on)
  (refine wpG_op rfl rfl rfl ?_; intro K hK; go_big_quiet_op; go_big_quiet_on)
  (refine wpG_op rfl rfl rfl ?_; intro K hK; go_big_quiet_op; go_big_quiet_on)
  clear hone hw10
  refine wpG_nil ?_
  refine (hOp_fresh (R := fun x N => ∃ g, x = .pointer (some ⟨g, 0, none⟩) ∧ N = [(g, Obj.cells (hdA noHd) 29 (0, 0))]) (M0 := [(g12, Obj.cells (hdA h) 29 (0, 0)), (w.heap.size + 1, Obj.cells (hdA g) 29 (0, 0)), (w.heap.size, Obj.cells (hdA h) 29 (0, 0))]) rfl rfl (fun _ h => h) (fun u hu => FAt_new (new_hd _) u) ?_)
  rintro _ _ ⟨g14, rfl, rfl⟩ hf he11; intro K' hK'; go_big_quiet_op; go_big_quiet_on
  have HG14 := Lib.hid (hf _ (List.mem_singleton.2 rfl))
  clear hf
  change lexH _ _ _ _ _ _ [(g14, Obj.cells (hdA noHd) 29 (0, 0)), (g12, Obj.cells (hdA h) 29 (0, 0)), (w.heap.size + 1, Obj.cells (hdA g) 29 (0, 0)), (w.heap.size, Obj.cells (hdA h) 29 (0, 0))]
  refine (hOp_store rfl (g14) (hdA X) rfl rfl HG14.out.1 29 ((hdA noHd)) (List.Mem.head _) (infoHd _ (hdA_size HXL.out.len)) ((hdA_size (show lenH noHd from ⟨rfl, rfl, rfl, rfl⟩)).trans (hdA_size HXL.out.len).symm) (hdA_one _) [(g14, Obj.cells (hdA X) 29 (0, 0)), (g12, Obj.cells (hdA h) 29 (0, 0)), (w.heap.size + 1, Obj.cells (hdA g) 29 (0, 0)), (w.heap.size, Obj.cells (hdA h) 29 (0, 0))] (List.forall_mem_cons.2 ⟨.inl rfl, fun y hy => .inr ⟨List.mem_cons_of_mem _ hy, HG14.out.2 y hy⟩⟩) ?_)
  intro he12
  refine lexH_phase [7] [] ?_
  have hw13 : EnvX w3 _ [(g14, Obj.cells (hdA X) 29 (0, 0)), (g12, Obj.cells (hdA h) 29 (0, 0)), (w.heap.size + 1, Obj.cells (hdA g) 29 (0, 0)), (w.heap.size, Obj.cells (hdA h) 29 (0, 0))] := he12.choose_spec
  have hone := @EnvC.one _ _ _ hw13
  (refine wpG_op rfl rfl rfl ?_; intro K hK; go_big_quiet_op; go_big_quiet_on)
  clear hone hw13
  refine wpG_nil ?_
  intro u15 E2'
  have EX14 := Lib.hid E2'
  clear E2'
  have HLD : Hid ((loadVar 29 ⟨g14, 0, none⟩).run Tryd.prog u15 = .ok (.agg (hdA X)) u15) := box_hd EX14.out (List.Mem.head _) HXL.out.len
  have HPT : Hid (Calls Tryd.prog 10 #[.agg (hdA X)] u15 fun e w' => (∃ v, e = .returned (.tuple #[v, .bool true]) ∧ OwnB w' u15.heap.size v (putH X).1) ∧ Below u15.heap.size u15 w') := by
    have h1 := HH.out.put X u15 HXL.out (HT3.out.below (EnvX.bel EX14.out))
    rwa [HP3.out] at h1
  go_upto_region 8 with (fail)
  go_wp2_with ((with_reducible refine wpList_load_run (o := ⟨some 48, _, _, _, _, _⟩) ?_ 29 (.tmp 14) ?_ ⟨g14, 0, none⟩ ?_ HLD.out ?_); (rfl); (rfl); (rfl))
  refine HPT.out.mono ?_
  rintro e w4 ⟨⟨v8, rfl, hv⟩, hb⟩
  obtain ⟨Ar, cr, rfl⟩ := hv.form
  have HB_zs := Lib.hid hv.bytes.2
  have HC_zs := Lib.hid hv.cap
  have hbb := (EnvX.below EX14.out hb).bel
  have E4 : Hid (EnvX w4 w4 [(g14, Obj.cells (hdA X) 29 (0, 0)), (g12, Obj.cells (hdA h) 29 (0, 0)), (w.heap.size + 1, Obj.cells (hdA g) 29 (0, 0)), (w.heap.size, Obj.cells (hdA h) 29 (0, 0))]) := ⟨Below.refl _ _, (EnvX.below EX14.out hb).box⟩
  have HB4 := Lib.hid (HB3.out.trans (hbb.mono HB3.out.size))
  have HT4 := Lib.hid (HT3.out.below hbb)
  have HB_xs := Lib.hid (HB_xs.out.up hbb)
  have HB_ys := Lib.hid (HB_ys.out.up hbb)
  clear hv hb HLD HPT hbb EX14
  obtain ⟨nr, hnp⟩ : ∃ np, (putH X).1.length = np := ⟨_, rfl⟩
  obtain ⟨zs, hxs⟩ : ∃ xs, (putH X).1 = xs := ⟨_, rfl⟩
  have HN_zs := Lib.hid hnp
  have HX_zs := Lib.hid hxs
  rw [hnp] at HC_zs ⊢
  rw [hxs] at HB_zs HN_zs
  clear hnp hxs
  have HP63 : Hid (np < 9223372036854775808) := by show _ < _; have h1 := HN_xs.out; have h2 := HNX.out.1; rw [HX_xs.out] at h2; omega
  have C18 : Hid ((!eqH h h) = false) := by show _ = _; simp [eqH]
  rw [HX_xs.out] at HBH HNX
  rw [HX_ys.out] at HBG HGY
  rw [HX_zs.out] at HXB
  have C23 : Hid (decide ((np : Int) ≠ 176) = false) := decide_eq_false (by have h1 := HN_xs.out; have h2 := HNX.out.1; omega)
  go_upto_region 9 with (fail)
  refine wp_region_H (w0 := w4) [(g14, Obj.cells (hdA X) 29 (0, 0)), (g12, Obj.cells (hdA h) 29 (0, 0)), (w.heap.size + 1, Obj.cells (hdA g) 29 (0, 0)), (w.heap.size, Obj.cells (hdA h) 29 (0, 0))] (by kernel_rfl) E4.out ?_
  refine anyH_phase [0, 1, 2, 3, 4, 5, 6, 7, 8, 9, 10, 11, 12, 13, 14, 15, 16, 17, 18, 19, 20, 21, 22, 23, 24, 25, 26, 27, 28, 29, 30, 31, 32, 33, 34, 35, 36, 37, 38, 39, 40, 41, 42, 43] 0 rfl ⟨_, (EnvX.drew E4.out)⟩ (by kernel_rfl) ?_
  have hw16 : EnvX w4 _ [(g14, Obj.cells (hdA X) 29 (0, 0)), (g12, Obj.cells (hdA h) 29 (0, 0)), (w.heap.size + 1, Obj.cells (hdA g) 29 (0, 0)), (w.heap.size, Obj.cells (hdA h) 29 (0, 0))] := (EnvX.drew E4.out)
  have hone := @EnvC.one _ _ _ hw16
  (refine wpG_op rfl rfl rfl ?_; intro K hK; go_big_quiet_op; go_big_quiet_on)
  (refine wpG_op rfl rfl rfl ?_; intro K hK; go_big_quiet_op; go_big_quiet_on)
  (refine wpG_val (v := .int .i64 h.height) rfl rfl (fun u hu => load_any_op u (box_hd_height hu (List.Mem.tail _ (List.Mem.tail _ (List.Mem.tail _ (List.Mem.head _))))) rfl) ?_ hw16; intro K hK; go_big_quiet_op; go_big_quiet_on)
  (refine wpG_val (v := .bool true) rfl rfl (fun u hu => geZ_op u C9.out.1 rfl rfl) ?_ hw16; intro K hK; go_big_quiet_op; go_big_quiet_on)
  (refine wpG_op rfl rfl rfl ?_; intro K hK; go_big_quiet_op; go_big_quiet_on)
  (refine wpG_op rfl rfl rfl ?_; intro K hK; go_big_quiet_op; go_big_quiet_on)
  (refine wpG_val (v := .int .i64 h.height) rfl rfl (fun u hu => load_any_op u (box_hd_height hu (List.Mem.tail _ (List.Mem.tail _ (List.Mem.tail _ (List.Mem.head _))))) rfl) ?_ hw16; intro K hK; go_big_quiet_op; go_big_quiet_on)
  (refine wpG_val (v := .bool true) rfl rfl (fun u hu => leZ_op u C9.out.2 rfl rfl) ?_ hw16; intro K hK; go_big_quiet_op; go_big_quiet_on)
  (refine wpG_op rfl rfl rfl ?_; intro K hK; go_big_quiet_op; go_big_quiet_on)
  (refine wpG_val (v := .bool false) rfl rfl (fun u hu => neqTTh_op u rfl rfl) ?_ hw16; intro K hK; go_big_quiet_op; go_big_quiet_on)
  (refine wpG_op rfl rfl rfl ?_; intro K hK; go_big_quiet_op; go_big_quiet_on)
  (refine wpG_op rfl rfl rfl ?_; intro K hK; go_big_quiet_op; go_big_quiet_on)
  (refine wpG_op rfl rfl rfl ?_; intro K hK; go_big_quiet_op; go_big_quiet_on)
  (refine wpG_op rfl rfl rfl ?_; intro K hK; go_big_quiet_op; go_big_quiet_on)
  (refine wpG_op rfl rfl rfl ?_; intro K hK; go_big_quiet_op; go_big_quiet_on)
  (refine wpG_op rfl rfl rfl ?_; intro K hK; go_big_quiet_op; go_big_quiet_on)
  (refine wpG_val (v := hdV h) rfl rfl (fun u hu => load_any_op u (box_hd hu (List.Mem.tail _ (List.Mem.head _)) HL.out) rfl) ?_ hw16; intro K hK; go_big_quiet_op; go_big_quiet_on)
  (refine wpG_val (v := hdV h) rfl rfl (fun u hu => load_any_op u (box_hd hu (List.Mem.tail _ (List.Mem.tail _ (List.Mem.tail _ (List.Mem.head _)))) HL.out) rfl) ?_ hw16; intro K hK; go_big_quiet_op; go_big_quiet_on)
  (refine wpG_val (v := .bool false) rfl rfl (fun u hu => neqHd_op HOK.out.1 HOK.out.1 C18.out u rfl rfl) ?_ hw16; intro K hK; go_big_quiet_op; go_big_quiet_on)
  (refine wpG_op rfl rfl rfl ?_; intro K hK; go_big_quiet_op; go_big_quiet_on)
  (refine wpG_op rfl rfl rfl ?_; intro K hK; go_big_quiet_op; go_big_quiet_on)
  (refine wpG_op rfl rfl rfl ?_; intro K hK; go_big_quiet_op; go_big_quiet_on)
  (refine wpG_val (v := .int .i64 (np : Int)) rfl rfl (fun u hu => len_op Tryd.underlying30 HP63.out u rfl) ?_ hw16; intro K hK; go_big_quiet_op; go_big_quiet_on)
  (refine wpG_val (v := .bool false) rfl rfl (fun u hu => neZ_op u C23.out rfl rfl) ?_ hw16; intro K hK; go_big_quiet_op; go_big_quiet_on)
  (refine wpG_op rfl rfl rfl ?_; intro K hK; go_big_quiet_op; go_big_quiet_on)
  (refine wpG_op rfl rfl rfl ?_; intro K hK; go_big_quiet_op; go_big_quiet_on)
  (refine wpG_op rfl rfl rfl ?_; intro K hK; go_big_quiet_op; go_big_quiet_on)
  (refine wpG_op rfl rfl rfl ?_; intro K hK; go_big_quiet_op; go_big_quiet_on)
  (refine wpG_op rfl rfl rfl ?_; intro K hK; go_big_quiet_op; go_big_quiet_on)
  (refine wpG_op rfl rfl rfl ?_; intro K hK; go_big_quiet_op; go_big_quiet_on)
  (refine wpG_op rfl rfl rfl ?_; intro K hK; go_big_quiet_op; go_big_quiet_on)
  (refine wpG_op rfl rfl rfl ?_; intro K hK; go_big_quiet_op; go_big_quiet_on)
  (refine wpG_op rfl rfl rfl ?_; intro K hK; go_big_quiet_op; go_big_quiet_on)
  (refine wpG_skip rfl rfl ?_ hw16; intro K hK; go_big_quiet_op; go_big_quiet_on)
  (refine wpG_skip rfl rfl ?_ hw16; intro K hK; go_big_quiet_op; go_big_quiet_on)
  (refine wpG_skip rfl rfl ?_ hw16; intro K hK; go_big_quiet_op; go_big_quiet_on)
  (refine wpG_skip rfl rfl ?_ hw16; intro K hK; go_big_quiet_op; go_big_quiet_on)
  (refine wpG_skip rfl rfl ?_ hw16; intro K hK; go_big_quiet_op; go_big_quiet_on)
  (refine wpG_skip rfl rfl ?_ hw16; intro K hK; go_big_quiet_op; go_big_quiet_on)
  (refine wpG_skip rfl rfl ?_ hw16; intro K hK; go_big_quiet_op; go_big_quiet_on)
  (refine wpG_skip rfl rfl ?_ hw16; intro K hK; go_big_quiet_op; go_big_quiet_on)
  (refine wpG_skip rfl rfl ?_ hw16; intro K hK; go_big_quiet_op; go_big_quiet_on)
  (refine wpG_op rfl rfl rfl ?_; intro K hK; go_big_quiet_op; go_big_quiet_on)
  (refine wpG_op rfl rfl rfl ?_; intro K hK; go_big_quiet_op; go_big_quiet_on)
  clear hone hw16
  refine wpG_nil ?_
  refine anyH_done (by kernel_rfl) ?_
  intro u18 E2'
  have EX17 := Lib.hid E2'
  clear E2'
  cases mr with
  | false =>
    have HEX : Hid (eqH X noHd = true) := decide_eq_true (HX0.out rfl)
    go_upto_region 11 with (fail)
    refine wp_region_Hx (w0 := w4) [0, 1, 2, 3, 4, 5, 6, 7, 8, 9, 10, 11, 12, 13, 14, 15, 16, 17, 18, 19, 20] [(g14, Obj.cells (hdA X) 29 (0, 0)), (g12, Obj.cells (hdA h) 29 (0, 0)), (w.heap.size + 1, Obj.cells (hdA g) 29 (0, 0)), (w.heap.size, Obj.cells (hdA h) 29 (0, 0))] rfl EX17.out ?_
    refine lexH_phase [0, 1, 2, 3, 4, 5, 6, 7, 8, 9, 10, 11, 12, 13, 14, 15, 16, 17, 18, 19, 20] [] ?_
    have hw19 : EnvX w4 _ [(g14, Obj.cells (hdA X) 29 (0, 0)), (g12, Obj.cells (hdA h) 29 (0, 0)), (w.heap.size + 1, Obj.cells (hdA g) 29 (0, 0)), (w.heap.size, Obj.cells (hdA h) 29 (0, 0))] := EX17.out
    have hone := @EnvC.one _ _ _ hw19
    (refine wpG_op rfl rfl rfl ?_; intro K hK; go_big_quiet_op; go_big_quiet_on)
    (refine wpG_op rfl rfl rfl ?_; intro K hK; go_big_quiet_op; go_big_quiet_on)
    (refine wpG_op rfl rfl rfl ?_; intro K hK; go_big_quiet_op; go_big_quiet_on)
    (refine wpG_val (v := hdV X) rfl rfl (fun u hu => load_any_op u (box_hd hu (List.Mem.head _) HXL.out.len) rfl) ?_ hw19; intro K hK; go_big_quiet_op; go_big_quiet_on)
    (refine wpG_val (v := hdV noHd) rfl rfl (fun u hu => buildA_op u built_no) ?_ hw19; intro K hK; go_big_quiet_op; go_big_quiet_on)
    (refine wpG_val (v := .bool true) rfl rfl (fun u hu => eqlHd_op HXL.out okHd_no HEX.out u rfl rfl) ?_ hw19; intro K hK; go_big_quiet_op; go_big_quiet_on)
    (refine wpG_op rfl rfl rfl ?_; intro K hK; go_big_quiet_op; go_big_quiet_on)
    (refine wpG_op rfl rfl rfl ?_; intro K hK; go_big_quiet_op; go_big_quiet_on)
    (refine wpG_skip rfl rfl ?_ hw19; intro K hK; go_big_quiet_op; go_big_quiet_on)
    (refine wpG_skip rfl rfl ?_ hw19; intro K hK; go_big_quiet_op; go_big_quiet_on)
    (refine wpG_skip rfl rfl ?_ hw19; intro K hK; go_big_quiet_op; go_big_quiet_on)
    (refine wpG_skip rfl rfl ?_ hw19; intro K hK; go_big_quiet_op; go_big_quiet_on)
    (refine wpG_skip rfl rfl ?_ hw19; intro K hK; go_big_quiet_op; go_big_quiet_on)
    (refine wpG_skip rfl rfl ?_ hw19; intro K hK; go_big_quiet_op; go_big_quiet_on)
    (refine wpG_skip rfl rfl ?_ hw19; intro K hK; go_big_quiet_op; go_big_quiet_on)
    (refine wpG_skip rfl rfl ?_ hw19; intro K hK; go_big_quiet_op; go_big_quiet_on)
    (refine wpG_skip rfl rfl ?_ hw19; intro K hK; go_big_quiet_op; go_big_quiet_on)
    (refine wpG_skip rfl rfl ?_ hw19; intro K hK; go_big_quiet_op; go_big_quiet_on)
    (refine wpG_skip rfl rfl ?_ hw19; intro K hK; go_big_quiet_op; go_big_quiet_on)
    (refine wpG_op rfl rfl rfl ?_; intro K hK; go_big_quiet_op; go_big_quiet_on)
    (refine wpG_op rfl rfl rfl ?_; intro K hK; go_big_quiet_op; go_big_quiet_on)
    clear hone hw19
    refine wpG_nil ?_
    intro u21 E2'
    have EX20 := Lib.hid E2'
    clear E2'
    have HBE := Lib.hid (HB4.out.trans ((EnvX.bel EX20.out).mono HB4.out.size))
    go_wp2
    go_ret
    exact ⟨rfl, HBE.out⟩
  | true =>
    have hzb : zs = b := by rw [HXB.out.1]; exact HX1.out rfl
    obtain ⟨s2, hs2⟩ : ∃ s, strOfNums zs = s := ⟨_, rfl⟩
    have HS2 := Lib.hid hs2
    have HS3 : Hid (strOfNums b = s2) := by show _ = _; rw [← hzb]; exact hs2
    have HE2 : Hid ((s2.toList == s2.toList) = true) := beq_self_eq_true _
    clear hzb hs2
    go_upto_region 11 with (fail)
    refine wp_region_Hx (w0 := w4) [0, 1, 2, 3, 4, 5, 6, 7, 8, 9, 10, 11, 12, 13, 14, 15, 16, 17, 18, 19, 20] [(g14, Obj.cells (hdA X) 29 (0, 0)), (g12, Obj.cells (hdA h) 29 (0, 0)), (w.heap.size + 1, Obj.cells (hdA g) 29 (0, 0)), (w.heap.size, Obj.cells (hdA h) 29 (0, 0))] rfl EX17.out ?_
    refine lexH_phase [0, 1, 2, 3, 4, 5, 6, 7, 8, 9, 10, 11, 12, 13, 14, 15, 16, 17, 18, 19, 20] [] ?_
    have hw19 : EnvX w4 _ [(g14, Obj.cells (hdA X) 29 (0, 0)), (g12, Obj.cells (hdA h) 29 (0, 0)), (w.heap.size + 1, Obj.cells (hdA g) 29 (0, 0)), (w.heap.size, Obj.cells (hdA h) 29 (0, 0))] := EX17.out
    have hone := @EnvC.one _ _ _ hw19
    (refine wpG_op rfl rfl rfl ?_; intro K hK; go_big_quiet_op; go_big_quiet_on)
    (refine wpG_op rfl rfl rfl ?_; intro K hK; go_big_quiet_op; go_big_quiet_on)
    (refine wpG_op rfl rfl rfl ?_; intro K hK; go_big_quiet_op; go_big_quiet_on)
    (refine wpG_skip rfl rfl ?_ hw19; intro K hK; go_big_quiet_op; go_big_quiet_on)
    (refine wpG_skip rfl rfl ?_ hw19; intro K hK; go_big_quiet_op; go_big_quiet_on)
    (refine wpG_skip rfl rfl ?_ hw19; intro K hK; go_big_quiet_op; go_big_quiet_on)
    (refine wpG_op rfl rfl rfl ?_; intro K hK; go_big_quiet_op; go_big_quiet_on)
    (refine wpG_op rfl rfl rfl ?_; intro K hK; go_big_quiet_op; go_big_quiet_on)
    (refine wpG_op rfl rfl rfl ?_; intro K hK; go_big_quiet_op; go_big_quiet_on)
    (refine wpG_op rfl rfl rfl ?_; intro K hK; go_big_quiet_op; go_big_quiet_on)
    (refine wpG_op rfl rfl rfl ?_; intro K hK; go_big_quiet_op; go_big_quiet_on)
    (refine wpG_op rfl rfl rfl ?_; intro K hK; go_big_quiet_op; go_big_quiet_on)
    (refine wpG_op rfl rfl rfl ?_; intro K hK; go_big_quiet_op; go_big_quiet_on)
    (refine wpG_op rfl rfl rfl ?_; intro K hK; go_big_quiet_op; go_big_quiet_on)
    (refine wpG_val (v := .string s2) rfl rfl (fun u hu => conv_op u HN_zs.out (HB_zs.out.up (EnvX.bel hu)) HS2.out rfl) ?_ hw19; intro K hK; go_big_quiet_op; go_big_quiet_on)
    (refine wpG_op rfl rfl rfl ?_; intro K hK; go_big_quiet_op; go_big_quiet_on)
    (refine wpG_val (v := .string s2) rfl rfl (fun u hu => conv_op u HBB.out.1 (HBX.out.up (HB4.out.trans ((EnvX.bel hu).mono HB4.out.size))) HS3.out rfl) ?_ hw19; intro K hK; go_big_quiet_op; go_big_quiet_on)
    (refine wpG_val (v := .bool true) rfl rfl (fun u hu => eqs_op u HE2.out rfl rfl) ?_ hw19; intro K hK; go_big_quiet_op; go_big_quiet_on)
    (refine wpG_op rfl rfl rfl ?_; intro K hK; go_big_quiet_op; go_big_quiet_on)
    (refine wpG_op rfl rfl rfl ?_; intro K hK; go_big_quiet_op; go_big_quiet_on)
    (refine wpG_op rfl rfl rfl ?_; intro K hK; go_big_quiet_op; go_big_quiet_on)
    clear hone hw19
    refine wpG_nil ?_
    intro u21 E2'
    have EX20 := Lib.hid E2'
    clear E2'
    have HBE := Lib.hid (HB4.out.trans ((EnvX.bel EX20.out).mono HB4.out.size))
    go_wp2
    go_ret
    exact ⟨rfl, HBE.out⟩
set_option maxRecDepth 20000 in
set_option maxHeartbeats 8000000 in
theorem law_back_low (H : HeadC) (h g : Hd) (b : List Int) (A : Option Addr) (n c : Nat) (w : World) (hh : okHd h) (hg : okHd g) (hl : b.length = n) (hnc : n ≤ c) (hcm : c ≤ maxLen) (hB : isB b) (hx : Bytes w w.heap.size A b) (ht : Tables w) (k1 : mayPut h = false) (mg : Bool) (k2 : mayPut g = mg) (k3 : decide (0 ≤ h.height) = false ∧ decide (h.height ≤ 1048576) = true) (h4 : ¬ 400 < n) :
    Calls Tryd.prog 4 #[hdV h, hdV g, .slice A n c] w fun e w' => e = .returned (.bool true) ∧ Below w.heap.size w w' := by
  have HN63 : Hid (n < 9223372036854775808) := by show _ < _; omega
  have C5 : Hid (decide ((400 : Int) < (n : Int)) = false) := decide_eq_false (by omega)
  have HNX : Hid ((putH h).1.length = 0 ∧ isB (putH h).1 ∧ readH (putH h).1 = (noHd, false)) := by
    unfold putH
    rw [k1]
    exact ⟨rfl, fun y hy => (by cases hy), read_len (b := []) (by decide)⟩
  have HBG : Hid (mayPut g = true → (putH g).1 = bodyH g) := fun e => by unfold putH; rw [e]; rfl
  have HBH : Hid (mayPut h = true → (putH h).1 = bodyH h) := fun e => by unfold putH; rw [e]; rfl
  have HGY : Hid (isB (putH g).1) := put_byte hg
  have HRD : Hid (∀ u, Below w.heap.size w u → Tables u → Calls Tryd.prog 12 #[.slice A n c] u fun e w' => e = .returned (.tuple #[hdV (readH b).1, .bool (mayRead b)]) ∧ Below u.heap.size u w') := fun u hb hu => by
    have h1 := H.read A n c b u hl (by omega) hnc hcm hB (hx.up hb) hu
    rwa [read_snd] at h1
  have HRP : Hid (∀ (ys : List Int) (A : Option Addr) (m c : Nat) (u : World), ys = (putH h).1 → ys.length = m → m ≤ c → c ≤ maxLen → Bytes u u.heap.size A ys → Tables u → Calls Tryd.prog 12 #[.slice A m c] u fun e w' => e = .returned (.tuple #[hdV noHd, .bool false]) ∧ Below u.heap.size u w') := fun ys A m c u h1 h2 h4 h5 h7 h8 => by
    have hy := HNX.out
    rw [← h1] at hy
    have h9 := H.read A m c ys u h2 (by omega) h4 h5 hy.2.1 h7 h8
    rwa [hy.2.2] at h9
  have HXL : Hid (okHd (readH b).1) := okHd_read hB
  have HXP : Hid (mayPut (readH b).1 = true) := read_put hB
  have HXB : Hid ((putH (readH b).1).1 = bodyH (readH b).1 ∧ (bodyH (readH b).1).length = 176 ∧ isB (bodyH (readH b).1)) := ⟨by unfold putH; rw [HXP.out]; rfl, body_len HXL.out, body_byte HXL.out⟩
  have HX0 : Hid (mayRead b = false → (readH b).1 = noHd) := fun e => by rw [read_no e]
  have HX1 : Hid (mayRead b = true → bodyH (readH b).1 = b) := fun e => by unfold readH; rw [if_pos e]; exact (read_ok hB e).2.2
  have HBB := Lib.hid (And.intro hl hB)
  have HBX := Lib.hid hx
  have HL := Lib.hid hh.len
  have HLG := Lib.hid hg.len
  have HOK := Lib.hid (And.intro hh hg)
  have HP1 : Hid ((putH h).2 = false) := by show _ = _; unfold putH; rw [k1]; rfl
  have HP2 : Hid ((putH g).2 = mg) := by show _ = _; unfold putH; rw [k2]; cases mg <;> rfl
  have HP3 : Hid ((putH (readH b).1).2 = true) := by show _ = _; unfold putH; rw [HXP.out]; rfl
  have HK2 := Lib.hid k2
  have C9 := Lib.hid k3
  generalize (readH b).1 = X at *
  obtain ⟨mr, hmr⟩ : ∃ mr, mayRead b = mr := ⟨_, rfl⟩
  rw [hmr] at HRD HX0 HX1
  clear h4 hl hnc hcm hB hx k3 hmr
  have E0 : Hid (EnvX w ((w.alloc (.cells (hdA h) 29)).alloc (.cells (hdA g) 29)) [(w.heap.size + 1, Obj.cells (hdA g) 29 (0, 0)), (w.heap.size, Obj.cells (hdA h) 29 (0, 0))]) := (EnvX.start w).two _ _
  have HAW := Lib.hid (hawake_any H ((w.alloc (.cells (hdA h) 29)).alloc (.cells (hdA g) 29)) (ht.below (EnvX.bel E0.out)))
  have HT := Lib.hid ht
  have HH := Lib.hid H
  clear ht H hh hg k1 k2
  unfold hdV
  go_enter Tryd.func4, Tryd.ntmps4
  go_upto_region 1 with (fail)
  generalize ((w.alloc (.cells (hdA h) 29)).alloc (.cells (hdA g) 29)) = W at *
  go_wp2_with fail
  refine HAW.out.mono ?_
  rintro e w1 ⟨rfl, hb1⟩
  have HB1 := Lib.hid (EnvX.below E0.out hb1).bel
  have E1 : Hid (EnvX w1 w1 [(w.heap.size + 1, Obj.cells (hdA g) 29 (0, 0)), (w.heap.size, Obj.cells (hdA h) 29 (0, 0))]) := ⟨Below.refl _ _, (EnvX.below E0.out hb1).box⟩
  have HT1 := Lib.hid (HT.out.below HB1.out)
  clear hb1 E0 HAW
  go_upto_region 2 with (fail)
  refine wp_region_Hx (w0 := w1) [0, 1, 2, 3, 4, 5, 6] [(w.heap.size + 1, Obj.cells (hdA g) 29 (0, 0)), (w.heap.size, Obj.cells (hdA h) 29 (0, 0))] rfl E1.out ?_
  refine lexH_phase [0, 1, 2, 3, 4, 5, 6] [] ?_
  have hw1 : EnvX w1 _ [(w.heap.size + 1, Obj.cells (hdA g) 29 (0, 0)), (w.heap.size, Obj.cells (hdA h) 29 (0, 0))] := E1.out
  have hone := @EnvC.one _ _ _ hw1
  (refine wpG_op rfl rfl rfl ?_; intro K hK; go_big_quiet_op; go_big_quiet_on)
  (refine wpG_op rfl rfl rfl ?_; intro K hK; go_big_quiet_op; go_big_quiet_on)
  (refine wpG_op rfl rfl rfl ?_; intro K hK; go_big_quiet_op; go_big_quiet_on)
  (refine wpG_op rfl rfl rfl ?_; intro K hK; go_big_quiet_op; go_big_quiet_on)
  (refine wpG_val (v := .int .i64 (n : Int)) rfl rfl (fun u hu => len_op Tryd.underlying30 HN63.out u rfl) ?_ hw1; intro K hK; go_big_quiet_op; go_big_quiet_on)
  (refine wpG_val (v := .bool false) rfl rfl (fun u hu => gtZ_op u C5.out rfl rfl) ?_ hw1; intro K hK; go_big_quiet_op; go_big_quiet_on)
  (refine wpG_op rfl rfl rfl ?_; intro K hK; go_big_quiet_op; go_big_quiet_on)
  clear hone hw1
  refine wpG_nil ?_
  intro u3 E2'
  have EX2 := Lib.hid E2'
  clear E2'
  have HLD : Hid ((loadVar 29 ⟨w.heap.size, 0, none⟩).run Tryd.prog u3 = .ok (.agg (hdA h)) u3) := box_hd EX2.out (List.Mem.tail _ (List.Mem.head _)) HL.out
  have HPT : Hid (Calls Tryd.prog 10 #[.agg (hdA h)] u3 fun e w' => (∃ v, e = .returned (.tuple #[v, .bool false]) ∧ OwnB w' u3.heap.size v (putH h).1) ∧ Below u3.heap.size u3 w') := by
    have h1 := HH.out.put h u3 HOK.out.1 (HT1.out.below (EnvX.bel EX2.out))
    rwa [HP1.out] at h1
  go_upto_region 4 with (fail)
  go_wp2_with ((with_reducible refine wpList_load_run (o := ⟨some 28, _, _, _, _, _⟩) ?_ 29 (.tmp 3) ?_ ⟨w.heap.size, 0, none⟩ ?_ HLD.out ?_); (rfl); (rfl); (rfl))
  refine HPT.out.mono ?_
  rintro e w2 ⟨⟨v4, rfl, hv⟩, hb⟩
  obtain ⟨Ap, cp, rfl⟩ := hv.form
  have HB_xs := Lib.hid hv.bytes.2
  have HC_xs := Lib.hid hv.cap
  have hbb := (EnvX.below EX2.out hb).bel
  have E2 : Hid (EnvX w2 w2 [(w.heap.size + 1, Obj.cells (hdA g) 29 (0, 0)), (w.heap.size, Obj.cells (hdA h) 29 (0, 0))]) := ⟨Below.refl _ _, (EnvX.below EX2.out hb).box⟩
  have HB2 := Lib.hid (HB1.out.trans (hbb.mono HB1.out.size))
  have HT2 := Lib.hid (HT1.out.below hbb)
  clear hv hb HLD HPT hbb EX2
  obtain ⟨np, hnp⟩ : ∃ np, (putH h).1.length = np := ⟨_, rfl⟩
  obtain ⟨xs, hxs⟩ : ∃ xs, (putH h).1 = xs := ⟨_, rfl⟩
  have HN_xs := Lib.hid hnp
  have HX_xs := Lib.hid hxs
  rw [hnp] at HC_xs ⊢
  rw [hxs] at HB_xs HN_xs
  clear hnp hxs
  have HLD : Hid ((loadVar 29 ⟨w.heap.size + 1, 0, none⟩).run Tryd.prog w2 = .ok (.agg (hdA g)) w2) := box_hd E2.out (List.Mem.head _) HLG.out
  have HPT : Hid (Calls Tryd.prog 10 #[.agg (hdA g)] w2 fun e w' => (∃ v, e = .returned (.tuple #[v, .bool mg]) ∧ OwnB w' w2.heap.size v (putH g).1) ∧ Below w2.heap.size w2 w') := by
    have h1 := HH.out.put g w2 HOK.out.2 (HT2.out.below (EnvX.bel E2.out))
    rwa [HP2.out] at h1
  go_upto_region 5 with (fail)
  go_wp2_with ((with_reducible refine wpList_load_run (o := ⟨some 33, _, _, _, _, _⟩) ?_ 29 (.tmp 4) ?_ ⟨w.heap.size + 1, 0, none⟩ ?_ HLD.out ?_); (rfl); (rfl); (rfl))
  refine HPT.out.mono ?_
  rintro e w3 ⟨⟨v5, rfl, hv⟩, hb⟩
  obtain ⟨Aq, cq, rfl⟩ := hv.form
  have HB_ys := Lib.hid hv.bytes.2
  have HC_ys := Lib.hid hv.cap
  have hbb := (EnvX.below E2.out hb).bel
  have E3 : Hid (EnvX w3 w3 [(w.heap.size + 1, Obj.cells (hdA g) 29 (0, 0)), (w.heap.size, Obj.cells (hdA h) 29 (0, 0))]) := ⟨Below.refl _ _, (EnvX.below E2.out hb).box⟩
  have HB3 := Lib.hid (HB2.out.trans (hbb.mono HB2.out.size))
  have HT3 := Lib.hid (HT2.out.below hbb)
  have HB_xs := Lib.hid (HB_xs.out.up hbb)
  clear hv hb HLD HPT hbb E2
  obtain ⟨nq, hnp⟩ : ∃ np, (putH g).1.length = np := ⟨_, rfl⟩
  obtain ⟨ys, hxs⟩ : ∃ xs, (putH g).1 = xs := ⟨_, rfl⟩
  have HN_ys := Lib.hid hnp
  have HX_ys := Lib.hid hxs
  rw [hnp] at HC_ys ⊢
  rw [hxs] at HB_ys HN_ys
  clear hnp hxs
  go_upto_region 6 with (fail)
  have HLP : Hid (lenH noHd) := ⟨rfl, rfl, rfl, rfl⟩
  refine wp_region_Hx (w0 := w3) [0, 1, 2, 3, 4, 5, 6, 7] [(w.heap.size + 1, Obj.cells (hdA g) 29 (0, 0)), (w.heap.size, Obj.cells (hdA h) 29 (0, 0))] rfl E3.out ?_
  refine lexH_phase [0, 1, 2, 3, 4] [5, 6, 7] ?_
  have hw4 : EnvX w3 _ [(w.heap.size + 1, Obj.cells (hdA g) 29 (0, 0)), (w.heap.size, Obj.cells (hdA h) 29 (0, 0))] := E3.out
  have hone := @EnvC.one _ _ _ hw4
  (refine wpG_op rfl rfl rfl ?_; intro K hK; go_big_quiet_op; go_big_quiet_on)
  (refine wpG_call (f := 12) (args := #[.slice Ap np cp]) (v := .tuple #[hdV noHd, .bool false]) rfl rfl rfl Tryd.func12 rfl rfl (fun u hu => HRP.out xs _ np cp u HX_xs.out.symm HN_xs.out HC_xs.out.1 HC_xs.out.2 (HB_xs.out.up (EnvX.bel hu)) (HT3.out.below (EnvX.bel hu))) ?_ hw4; intro K hK; go_big_quiet_op; go_big_quiet_on)
  (refine wpG_op rfl rfl rfl ?_; intro K hK; go_big_quiet_op; go_big_quiet_on)
  (refine wpG_op rfl rfl rfl ?_; intro K hK; go_big_quiet_op; go_big_quiet_on)
  (refine wpG_op rfl rfl rfl ?_; intro K hK; go_big_quiet_op; go_big_quiet_on)
  clear hone hw4
  refine wpG_nil ?_
  refine (hOp_fresh (R := fun x N => ∃ g, x = .pointer (some ⟨g, 0, none⟩) ∧ N = [(g, Obj.cells (hdA noHd) 29 (0, 0))]) (M0 := [(w.heap.size + 1, Obj.cells (hdA g) 29 (0, 0)), (w.heap.size, Obj.cells (hdA h) 29 (0, 0))]) rfl rfl (fun _ h => h) (fun u hu => FAt_new (new_hd _) u) ?_)
  rintro _ _ ⟨g12, rfl, rfl⟩ hf he5; intro K' hK'; go_big_quiet_op; go_big_quiet_on
  have HG12 := Lib.hid (hf _ (List.mem_singleton.2 rfl))
  clear hf
  change lexH _ _ _ _ _ _ [(g12, Obj.cells (hdA noHd) 29 (0, 0)), (w.heap.size + 1, Obj.cells (hdA g) 29 (0, 0)), (w.heap.size, Obj.cells (hdA h) 29 (0, 0))]
  refine (hOp_store rfl (g12) (hdA noHd) rfl rfl HG12.out.1 29 ((hdA noHd)) (List.Mem.head _) (infoHd _ (hdA_size HLP.out)) ((hdA_size (show lenH noHd from ⟨rfl, rfl, rfl, rfl⟩)).trans (hdA_size HLP.out).symm) (hdA_one _) [(g12, Obj.cells (hdA noHd) 29 (0, 0)), (w.heap.size + 1, Obj.cells (hdA g) 29 (0, 0)), (w.heap.size, Obj.cells (hdA h) 29 (0, 0))] (List.forall_mem_cons.2 ⟨.inl rfl, fun y hy => .inr ⟨List.mem_cons_of_mem _ hy, HG12.out.2 y hy⟩⟩) ?_)
  intro he6
  refine lexH_phase [7] [] ?_
  have hw7 : EnvX w3 _ [(g12, Obj.cells (hdA noHd) 29 (0, 0)), (w.heap.size + 1, Obj.cells (hdA g) 29 (0, 0)), (w.heap.size, Obj.cells (hdA h) 29 (0, 0))] := he6.choose_spec
  have hone := @EnvC.one _ _ _ hw7
  (refine wpG_op rfl rfl rfl ?_; intro K hK; go_big_quiet_op; go_big_quiet_on)
  clear hone hw7
  refine wpG_nil ?_
  intro u9 E2'
  have EX8 := Lib.hid E2'
  clear E2'
  go_upto_region 7 with (fail)
  refine wp_region_Hx (w0 := w3) [0, 1, 2, 3, 4, 5, 6, 7] [(g12, Obj.cells (hdA noHd) 29 (0, 0)), (w.heap.size + 1, Obj.cells (hdA g) 29 (0, 0)), (w.heap.size, Obj.cells (hdA h) 29 (0, 0))] rfl EX8.out ?_
  refine lexH_phase [0, 1, 2, 3, 4] [5, 6, 7] ?_
  have hw10 : EnvX w3 _ [(g12, Obj.cells (hdA noHd) 29 (0, 0)), (w.heap.size + 1, Obj.cells (hdA g) 29 (0, 0)), (w.heap.size, Obj.cells (hdA h) 29 (0, 0))] := EX8.out
  have hone := @EnvC.one _ _ _ hw10
  (refine wpG_op rfl rfl rfl ?_; intro K hK; go_big_quiet_op; go_big_quiet_on)
  (refine wpG_call (f := 12) (args := #[.slice A n c]) (v := .tuple #[hdV X, .bool mr]) rfl rfl rfl Tryd.func12 rfl rfl (fun u hu => HRD.out u (HB3.out.trans ((EnvX.bel hu).mono HB3.out.size)) (HT3.out.below (EnvX.bel hu))) ?_ hw10; intro K hK; go_big_quiet_op; go_big_quiet_on)
  (refine wpG_op rfl rfl rfl ?_; intro K hK; go_big_quiet_op; go_big_quiet_on)
  (refine wpG_op rfl rfl rfl ?_; intro K hK; go_big_quiet_op; go_big_quiet_on)
  (refine wpG_op rfl rfl rfl ?_; intro K hK; go_big_quiet_op; go_big_quiet_on)
  clear hone hw10
  refine wpG_nil ?_
  refine (hOp_fresh (R := fun x N => ∃ g, x = .pointer (some ⟨g, 0, none⟩) ∧ N = [(g, Obj.cells (hdA noHd) 29 (0, 0))]) (M0 := [(g12, Obj.cells (hdA noHd) 29 (0, 0)), (w.heap.size + 1, Obj.cells (hdA g) 29 (0, 0)), (w.heap.size, Obj.cells (hdA h) 29 (0, 0))]) rfl rfl (fun _ h => h) (fun u hu => FAt_new (new_hd _) u) ?_)
  rintro _ _ ⟨g14, rfl, rfl⟩ hf he11; intro K' hK'; go_big_quiet_op; go_big_quiet_on
  have HG14 := Lib.hid (hf _ (List.mem_singleton.2 rfl))
  clear hf
  change lexH _ _ _ _ _ _ [(g14, Obj.cells (hdA noHd) 29 (0, 0)), (g12, Obj.cells (hdA noHd) 29 (0, 0)), (w.heap.size + 1, Obj.cells (hdA g) 29 (0, 0)), (w.heap.size, Obj.cells (hdA h) 29 (0, 0))]
  refine (hOp_store rfl (g14) (hdA X) rfl rfl HG14.out.1 29 ((hdA noHd)) (List.Mem.head _) (infoHd _ (hdA_size HXL.out.len)) ((hdA_size (show lenH noHd from ⟨rfl, rfl, rfl, rfl⟩)).trans (hdA_size HXL.out.len).symm) (hdA_one _) [(g14, Obj.cells (hdA X) 29 (0, 0)), (g12, Obj.cells (hdA noHd) 29 (0, 0)), (w.heap.size + 1, Obj.cells (hdA g) 29 (0, 0)), (w.heap.size, Obj.cells (hdA h) 29 (0, 0))] (List.forall_mem_cons.2 ⟨.inl rfl, fun y hy => .inr ⟨List.mem_cons_of_mem _ hy, HG14.out.2 y hy⟩⟩) ?_)
  intro he12
  refine lexH_phase [7] [] ?_
  have hw13 : EnvX w3 _ [(g14, Obj.cells (hdA X) 29 (0, 0)), (g12, Obj.cells (hdA noHd) 29 (0, 0)), (w.heap.size + 1, Obj.cells (hdA g) 29 (0, 0)), (w.heap.size, Obj.cells (hdA h) 29 (0, 0))] := he12.choose_spec
  have hone := @EnvC.one _ _ _ hw13
  (refine wpG_op rfl rfl rfl ?_; intro K hK; go_big_quiet_op; go_big_quiet_on)
  clear hone hw13
  refine wpG_nil ?_
  intro u15 E2'
  have EX14 := Lib.hid E2'
  clear E2'
  have HLD : Hid ((loadVar 29 ⟨g14, 0, none⟩).run Tryd.prog u15 = .ok (.agg (hdA X)) u15) := box_hd EX14.out (List.Mem.head _) HXL.out.len
  have HPT : Hid (Calls Tryd.prog 10 #[.agg (hdA X)] u15 fun e w' => (∃ v, e = .returned (.tuple #[v, .bool true]) ∧ OwnB w' u15.heap.size v (putH X).1) ∧ Below u15.heap.size u15 w') := by
    have h1 := HH.out.put X u15 HXL.out (HT3.out.below (EnvX.bel EX14.out))
    rwa [HP3.out] at h1
  go_upto_region 8 with (fail)
  go_wp2_with ((with_reducible refine wpList_load_run (o := ⟨some 48, _, _, _, _, _⟩) ?_ 29 (.tmp 14) ?_ ⟨g14, 0, none⟩ ?_ HLD.out ?_); (rfl); (rfl); (rfl))
  refine HPT.out.mono ?_
  rintro e w4 ⟨⟨v8, rfl, hv⟩, hb⟩
  obtain ⟨Ar, cr, rfl⟩ := hv.form
  have HB_zs := Lib.hid hv.bytes.2
  have HC_zs := Lib.hid hv.cap
  have hbb := (EnvX.below EX14.out hb).bel
  have E4 : Hid (EnvX w4 w4 [(g14, Obj.cells (hdA X) 29 (0, 0)), (g12, Obj.cells (hdA noHd) 29 (0, 0)), (w.heap.size + 1, Obj.cells (hdA g) 29 (0, 0)), (w.heap.size, Obj.cells (hdA h) 29 (0, 0))]) := ⟨Below.refl _ _, (EnvX.below EX14.out hb).box⟩
  have HB4 := Lib.hid (HB3.out.trans (hbb.mono HB3.out.size))
  have HT4 := Lib.hid (HT3.out.below hbb)
  have HB_xs := Lib.hid (HB_xs.out.up hbb)
  have HB_ys := Lib.hid (HB_ys.out.up hbb)
  clear hv hb HLD HPT hbb EX14
  obtain ⟨nr, hnp⟩ : ∃ np, (putH X).1.length = np := ⟨_, rfl⟩
  obtain ⟨zs, hxs⟩ : ∃ xs, (putH X).1 = xs := ⟨_, rfl⟩
  have HN_zs := Lib.hid hnp
  have HX_zs := Lib.hid hxs
  rw [hnp] at HC_zs ⊢
  rw [hxs] at HB_zs HN_zs
  clear hnp hxs
  have HP63 : Hid (np < 9223372036854775808) := by show _ < _; have h1 := HN_xs.out; have h2 := HNX.out.1; rw [HX_xs.out] at h2; omega
  have C18 : Hid ((!eqH h h) = false) := by show _ = _; simp [eqH]
  rw [HX_xs.out] at HBH HNX
  rw [HX_ys.out] at HBG HGY
  rw [HX_zs.out] at HXB
  go_upto_region 9 with (fail)
  refine wp_region_H (w0 := w4) [(g14, Obj.cells (hdA X) 29 (0, 0)), (g12, Obj.cells (hdA noHd) 29 (0, 0)), (w.heap.size + 1, Obj.cells (hdA g) 29 (0, 0)), (w.heap.size, Obj.cells (hdA h) 29 (0, 0))] (by kernel_rfl) E4.out ?_
  refine anyH_phase [0, 1, 2, 3, 4, 5, 6, 7, 8, 9, 10, 11, 12, 13, 14, 15, 16, 17, 18, 19, 20, 21, 22, 23, 24, 25, 26, 27, 28, 29, 30, 31, 32, 33, 34, 35, 36, 37, 38, 39, 40, 41, 42, 43] 0 rfl ⟨_, (EnvX.drew E4.out)⟩ (by kernel_rfl) ?_
  have hw16 : EnvX w4 _ [(g14, Obj.cells (hdA X) 29 (0, 0)), (g12, Obj.cells (hdA noHd) 29 (0, 0)), (w.heap.size + 1, Obj.cells (hdA g) 29 (0, 0)), (w.heap.size, Obj.cells (hdA h) 29 (0, 0))] := (EnvX.drew E4.out)
  have hone := @EnvC.one _ _ _ hw16
  (refine wpG_op rfl rfl rfl ?_; intro K hK; go_big_quiet_op; go_big_quiet_on)
  (refine wpG_op rfl rfl rfl ?_; intro K hK; go_big_quiet_op; go_big_quiet_on)
  (refine wpG_val (v := .int .i64 h.height) rfl rfl (fun u hu => load_any_op u (box_hd_height hu (List.Mem.tail _ (List.Mem.tail _ (List.Mem.tail _ (List.Mem.head _))))) rfl) ?_ hw16; intro K hK; go_big_quiet_op; go_big_quiet_on)
  (refine wpG_val (v := .bool false) rfl rfl (fun u hu => geZ_op u C9.out.1 rfl rfl) ?_ hw16; intro K hK; go_big_quiet_op; go_big_quiet_on)
  (refine wpG_op rfl rfl rfl ?_; intro K hK; go_big_quiet_op; go_big_quiet_on)
  (refine wpG_skip rfl rfl ?_ hw16; intro K hK; go_big_quiet_op; go_big_quiet_on)
  (refine wpG_skip rfl rfl ?_ hw16; intro K hK; go_big_quiet_op; go_big_quiet_on)
  (refine wpG_skip rfl rfl ?_ hw16; intro K hK; go_big_quiet_op; go_big_quiet_on)
  (refine wpG_op rfl rfl rfl ?_; intro K hK; go_big_quiet_op; go_big_quiet_on)
  (refine wpG_val (v := .bool false) rfl rfl (fun u hu => neqTTh_op u rfl rfl) ?_ hw16; intro K hK; go_big_quiet_op; go_big_quiet_on)
  (refine wpG_op rfl rfl rfl ?_; intro K hK; go_big_quiet_op; go_big_quiet_on)
  (refine wpG_op rfl rfl rfl ?_; intro K hK; go_big_quiet_op; go_big_quiet_on)
  (refine wpG_op rfl rfl rfl ?_; intro K hK; go_big_quiet_op; go_big_quiet_on)
  (refine wpG_skip rfl rfl ?_ hw16; intro K hK; go_big_quiet_op; go_big_quiet_on)
  (refine wpG_skip rfl rfl ?_ hw16; intro K hK; go_big_quiet_op; go_big_quiet_on)
  (refine wpG_skip rfl rfl ?_ hw16; intro K hK; go_big_quiet_op; go_big_quiet_on)
  (refine wpG_skip rfl rfl ?_ hw16; intro K hK; go_big_quiet_op; go_big_quiet_on)
  (refine wpG_skip rfl rfl ?_ hw16; intro K hK; go_big_quiet_op; go_big_quiet_on)
  (refine wpG_skip rfl rfl ?_ hw16; intro K hK; go_big_quiet_op; go_big_quiet_on)
  (refine wpG_skip rfl rfl ?_ hw16; intro K hK; go_big_quiet_op; go_big_quiet_on)
  (refine wpG_skip rfl rfl ?_ hw16; intro K hK; go_big_quiet_op; go_big_quiet_on)
  (refine wpG_skip rfl rfl ?_ hw16; intro K hK; go_big_quiet_op; go_big_quiet_on)
  (refine wpG_skip rfl rfl ?_ hw16; intro K hK; go_big_quiet_op; go_big_quiet_on)
  (refine wpG_skip rfl rfl ?_ hw16; intro K hK; go_big_quiet_op; go_big_quiet_on)
  (refine wpG_skip rfl rfl ?_ hw16; intro K hK; go_big_quiet_op; go_big_quiet_on)
  (refine wpG_op rfl rfl rfl ?_; intro K hK; go_big_quiet_op; go_big_quiet_on)
  (refine wpG_op rfl rfl rfl ?_; intro K hK; go_big_quiet_op; go_big_quiet_on)
  (refine wpG_op rfl rfl rfl ?_; intro K hK; go_big_quiet_op; go_big_quiet_on)
  (refine wpG_op rfl rfl rfl ?_; intro K hK; go_big_quiet_op; go_big_quiet_on)
  (refine wpG_op rfl rfl rfl ?_; intro K hK; go_big_quiet_op; go_big_quiet_on)
  (refine wpG_skip rfl rfl ?_ hw16; intro K hK; go_big_quiet_op; go_big_quiet_on)
  (refine wpG_op rfl rfl rfl ?_; intro K hK; go_big_quiet_op; go_big_quiet_on)
  (refine wpG_op rfl rfl rfl ?_; intro K hK; go_big_quiet_op; go_big_quiet_on)
  (refine wpG_skip rfl rfl ?_ hw16; intro K hK; go_big_quiet_op; go_big_quiet_on)
  (refine wpG_skip rfl rfl ?_ hw16; intro K hK; go_big_quiet_op; go_big_quiet_on)
  (refine wpG_skip rfl rfl ?_ hw16; intro K hK; go_big_quiet_op; go_big_quiet_on)
  (refine wpG_skip rfl rfl ?_ hw16; intro K hK; go_big_quiet_op; go_big_quiet_on)
  (refine wpG_skip rfl rfl ?_ hw16; intro K hK; go_big_quiet_op; go_big_quiet_on)
  (refine wpG_skip rfl rfl ?_ hw16; intro K hK; go_big_quiet_op; go_big_quiet_on)
  (refine wpG_skip rfl rfl ?_ hw16; intro K hK; go_big_quiet_op; go_big_quiet_on)
  (refine wpG_skip rfl rfl ?_ hw16; intro K hK; go_big_quiet_op; go_big_quiet_on)
  (refine wpG_skip rfl rfl ?_ hw16; intro K hK; go_big_quiet_op; go_big_quiet_on)
  (refine wpG_op rfl rfl rfl ?_; intro K hK; go_big_quiet_op; go_big_quiet_on)
  (refine wpG_op rfl rfl rfl ?_; intro K hK; go_big_quiet_op; go_big_quiet_on)
  clear hone hw16
  refine wpG_nil ?_
  refine anyH_done (by kernel_rfl) ?_
  intro u18 E2'
  have EX17 := Lib.hid E2'
  clear E2'
  cases mr with
  | false =>
    have HEX : Hid (eqH X noHd = true) := decide_eq_true (HX0.out rfl)
    go_upto_region 11 with (fail)
    refine wp_region_Hx (w0 := w4) [0, 1, 2, 3, 4, 5, 6, 7, 8, 9, 10, 11, 12, 13, 14, 15, 16, 17, 18, 19, 20] [(g14, Obj.cells (hdA X) 29 (0, 0)), (g12, Obj.cells (hdA noHd) 29 (0, 0)), (w.heap.size + 1, Obj.cells (hdA g) 29 (0, 0)), (w.heap.size, Obj.cells (hdA h) 29 (0, 0))] rfl EX17.out ?_
    refine lexH_phase [0, 1, 2, 3, 4, 5, 6, 7, 8, 9, 10, 11, 12, 13, 14, 15, 16, 17, 18, 19, 20] [] ?_
    have hw19 : EnvX w4 _ [(g14, Obj.cells (hdA X) 29 (0, 0)), (g12, Obj.cells (hdA noHd) 29 (0, 0)), (w.heap.size + 1, Obj.cells (hdA g) 29 (0, 0)), (w.heap.size, Obj.cells (hdA h) 29 (0, 0))] := EX17.out
    have hone := @EnvC.one _ _ _ hw19
    (refine wpG_op rfl rfl rfl ?_; intro K hK; go_big_quiet_op; go_big_quiet_on)
    (refine wpG_op rfl rfl rfl ?_; intro K hK; go_big_quiet_op; go_big_quiet_on)
    (refine wpG_op rfl rfl rfl ?_; intro K hK; go_big_quiet_op; go_big_quiet_on)
    (refine wpG_val (v := hdV X) rfl rfl (fun u hu => load_any_op u (box_hd hu (List.Mem.head _) HXL.out.len) rfl) ?_ hw19; intro K hK; go_big_quiet_op; go_big_quiet_on)
    (refine wpG_val (v := hdV noHd) rfl rfl (fun u hu => buildA_op u built_no) ?_ hw19; intro K hK; go_big_quiet_op; go_big_quiet_on)
    (refine wpG_val (v := .bool true) rfl rfl (fun u hu => eqlHd_op HXL.out okHd_no HEX.out u rfl rfl) ?_ hw19; intro K hK; go_big_quiet_op; go_big_quiet_on)
    (refine wpG_op rfl rfl rfl ?_; intro K hK; go_big_quiet_op; go_big_quiet_on)
    (refine wpG_op rfl rfl rfl ?_; intro K hK; go_big_quiet_op; go_big_quiet_on)
    (refine wpG_skip rfl rfl ?_ hw19; intro K hK; go_big_quiet_op; go_big_quiet_on)
    (refine wpG_skip rfl rfl ?_ hw19; intro K hK; go_big_quiet_op; go_big_quiet_on)
    (refine wpG_skip rfl rfl ?_ hw19; intro K hK; go_big_quiet_op; go_big_quiet_on)
    (refine wpG_skip rfl rfl ?_ hw19; intro K hK; go_big_quiet_op; go_big_quiet_on)
    (refine wpG_skip rfl rfl ?_ hw19; intro K hK; go_big_quiet_op; go_big_quiet_on)
    (refine wpG_skip rfl rfl ?_ hw19; intro K hK; go_big_quiet_op; go_big_quiet_on)
    (refine wpG_skip rfl rfl ?_ hw19; intro K hK; go_big_quiet_op; go_big_quiet_on)
    (refine wpG_skip rfl rfl ?_ hw19; intro K hK; go_big_quiet_op; go_big_quiet_on)
    (refine wpG_skip rfl rfl ?_ hw19; intro K hK; go_big_quiet_op; go_big_quiet_on)
    (refine wpG_skip rfl rfl ?_ hw19; intro K hK; go_big_quiet_op; go_big_quiet_on)
    (refine wpG_skip rfl rfl ?_ hw19; intro K hK; go_big_quiet_op; go_big_quiet_on)
    (refine wpG_op rfl rfl rfl ?_; intro K hK; go_big_quiet_op; go_big_quiet_on)
    (refine wpG_op rfl rfl rfl ?_; intro K hK; go_big_quiet_op; go_big_quiet_on)
    clear hone hw19
    refine wpG_nil ?_
    intro u21 E2'
    have EX20 := Lib.hid E2'
    clear E2'
    have HBE := Lib.hid (HB4.out.trans ((EnvX.bel EX20.out).mono HB4.out.size))
    go_wp2
    go_ret
    exact ⟨rfl, HBE.out⟩
  | true =>
    have hzb : zs = b := by rw [HXB.out.1]; exact HX1.out rfl
    obtain ⟨s2, hs2⟩ : ∃ s, strOfNums zs = s := ⟨_, rfl⟩
    have HS2 := Lib.hid hs2
    have HS3 : Hid (strOfNums b = s2) := by show _ = _; rw [← hzb]; exact hs2
    have HE2 : Hid ((s2.toList == s2.toList) = true) := beq_self_eq_true _
    clear hzb hs2
    go_upto_region 11 with (fail)
    refine wp_region_Hx (w0 := w4) [0, 1, 2, 3, 4, 5, 6, 7, 8, 9, 10, 11, 12, 13, 14, 15, 16, 17, 18, 19, 20] [(g14, Obj.cells (hdA X) 29 (0, 0)), (g12, Obj.cells (hdA noHd) 29 (0, 0)), (w.heap.size + 1, Obj.cells (hdA g) 29 (0, 0)), (w.heap.size, Obj.cells (hdA h) 29 (0, 0))] rfl EX17.out ?_
    refine lexH_phase [0, 1, 2, 3, 4, 5, 6, 7, 8, 9, 10, 11, 12, 13, 14, 15, 16, 17, 18, 19, 20] [] ?_
    have hw19 : EnvX w4 _ [(g14, Obj.cells (hdA X) 29 (0, 0)), (g12, Obj.cells (hdA noHd) 29 (0, 0)), (w.heap.size + 1, Obj.cells (hdA g) 29 (0, 0)), (w.heap.size, Obj.cells (hdA h) 29 (0, 0))] := EX17.out
    have hone := @EnvC.one _ _ _ hw19
    (refine wpG_op rfl rfl rfl ?_; intro K hK; go_big_quiet_op; go_big_quiet_on)
    (refine wpG_op rfl rfl rfl ?_; intro K hK; go_big_quiet_op; go_big_quiet_on)
    (refine wpG_op rfl rfl rfl ?_; intro K hK; go_big_quiet_op; go_big_quiet_on)
    (refine wpG_skip rfl rfl ?_ hw19; intro K hK; go_big_quiet_op; go_big_quiet_on)
    (refine wpG_skip rfl rfl ?_ hw19; intro K hK; go_big_quiet_op; go_big_quiet_on)
    (refine wpG_skip rfl rfl ?_ hw19; intro K hK; go_big_quiet_op; go_big_quiet_on)
    (refine wpG_op rfl rfl rfl ?_; intro K hK; go_big_quiet_op; go_big_quiet_on)
    (refine wpG_op rfl rfl rfl ?_; intro K hK; go_big_quiet_op; go_big_quiet_on)
    (refine wpG_op rfl rfl rfl ?_; intro K hK; go_big_quiet_op; go_big_quiet_on)
    (refine wpG_op rfl rfl rfl ?_; intro K hK; go_big_quiet_op; go_big_quiet_on)
    (refine wpG_op rfl rfl rfl ?_; intro K hK; go_big_quiet_op; go_big_quiet_on)
    (refine wpG_op rfl rfl rfl ?_; intro K hK; go_big_quiet_op; go_big_quiet_on)
    (refine wpG_op rfl rfl rfl ?_; intro K hK; go_big_quiet_op; go_big_quiet_on)
    (refine wpG_op rfl rfl rfl ?_; intro K hK; go_big_quiet_op; go_big_quiet_on)
    (refine wpG_val (v := .string s2) rfl rfl (fun u hu => conv_op u HN_zs.out (HB_zs.out.up (EnvX.bel hu)) HS2.out rfl) ?_ hw19; intro K hK; go_big_quiet_op; go_big_quiet_on)
    (refine wpG_op rfl rfl rfl ?_; intro K hK; go_big_quiet_op; go_big_quiet_on)
    (refine wpG_val (v := .string s2) rfl rfl (fun u hu => conv_op u HBB.out.1 (HBX.out.up (HB4.out.trans ((EnvX.bel hu).mono HB4.out.size))) HS3.out rfl) ?_ hw19; intro K hK; go_big_quiet_op; go_big_quiet_on)
    (refine wpG_val (v := .bool true) rfl rfl (fun u hu => eqs_op u HE2.out rfl rfl) ?_ hw19; intro K hK; go_big_quiet_op; go_big_quiet_on)
    (refine wpG_op rfl rfl rfl ?_; intro K hK; go_big_quiet_op; go_big_quiet_on)
    (refine wpG_op rfl rfl rfl ?_; intro K hK; go_big_quiet_op; go_big_quiet_on)
    (refine wpG_op rfl rfl rfl ?_; intro K hK; go_big_quiet_op; go_big_quiet_on)
    clear hone hw19
    refine wpG_nil ?_
    intro u21 E2'
    have EX20 := Lib.hid E2'
    clear E2'
    have HBE := Lib.hid (HB4.out.trans ((EnvX.bel EX20.out).mono HB4.out.size))
    go_wp2
    go_ret
    exact ⟨rfl, HBE.out⟩
set_option maxRecDepth 20000 in
set_option maxHeartbeats 8000000 in
theorem law_back_high (H : HeadC) (h g : Hd) (b : List Int) (A : Option Addr) (n c : Nat) (w : World) (hh : okHd h) (hg : okHd g) (hl : b.length = n) (hnc : n ≤ c) (hcm : c ≤ maxLen) (hB : isB b) (hx : Bytes w w.heap.size A b) (ht : Tables w) (k1 : mayPut h = false) (mg : Bool) (k2 : mayPut g = mg) (k3 : decide (0 ≤ h.height) = true ∧ decide (h.height ≤ 1048576) = false) (h4 : ¬ 400 < n) :
    Calls Tryd.prog 4 #[hdV h, hdV g, .slice A n c] w fun e w' => e = .returned (.bool true) ∧ Below w.heap.size w w' := by
  have HN63 : Hid (n < 9223372036854775808) := by show _ < _; omega
  have C5 : Hid (decide ((400 : Int) < (n : Int)) = false) := decide_eq_false (by omega)
  have HNX : Hid ((putH h).1.length = 0 ∧ isB (putH h).1 ∧ readH (putH h).1 = (noHd, false)) := by
    unfold putH
    rw [k1]
    exact ⟨rfl, fun y hy => (by cases hy), read_len (b := []) (by decide)⟩
  have HBG : Hid (mayPut g = true → (putH g).1 = bodyH g) := fun e => by unfold putH; rw [e]; rfl
  have HBH : Hid (mayPut h = true → (putH h).1 = bodyH h) := fun e => by unfold putH; rw [e]; rfl
  have HGY : Hid (isB (putH g).1) := put_byte hg
  have HRD : Hid (∀ u, Below w.heap.size w u → Tables u → Calls Tryd.prog 12 #[.slice A n c] u fun e w' => e = .returned (.tuple #[hdV (readH b).1, .bool (mayRead b)]) ∧ Below u.heap.size u w') := fun u hb hu => by
    have h1 := H.read A n c b u hl (by omega) hnc hcm hB (hx.up hb) hu
    rwa [read_snd] at h1
  have HRP : Hid (∀ (ys : List Int) (A : Option Addr) (m c : Nat) (u : World), ys = (putH h).1 → ys.length = m → m ≤ c → c ≤ maxLen → Bytes u u.heap.size A ys → Tables u → Calls Tryd.prog 12 #[.slice A m c] u fun e w' => e = .returned (.tuple #[hdV noHd, .bool false]) ∧ Below u.heap.size u w') := fun ys A m c u h1 h2 h4 h5 h7 h8 => by
    have hy := HNX.out
    rw [← h1] at hy
    have h9 := H.read A m c ys u h2 (by omega) h4 h5 hy.2.1 h7 h8
    rwa [hy.2.2] at h9
  have HXL : Hid (okHd (readH b).1) := okHd_read hB
  have HXP : Hid (mayPut (readH b).1 = true) := read_put hB
  have HXB : Hid ((putH (readH b).1).1 = bodyH (readH b).1 ∧ (bodyH (readH b).1).length = 176 ∧ isB (bodyH (readH b).1)) := ⟨by unfold putH; rw [HXP.out]; rfl, body_len HXL.out, body_byte HXL.out⟩
  have HX0 : Hid (mayRead b = false → (readH b).1 = noHd) := fun e => by rw [read_no e]
  have HX1 : Hid (mayRead b = true → bodyH (readH b).1 = b) := fun e => by unfold readH; rw [if_pos e]; exact (read_ok hB e).2.2
  have HBB := Lib.hid (And.intro hl hB)
  have HBX := Lib.hid hx
  have HL := Lib.hid hh.len
  have HLG := Lib.hid hg.len
  have HOK := Lib.hid (And.intro hh hg)
  have HP1 : Hid ((putH h).2 = false) := by show _ = _; unfold putH; rw [k1]; rfl
  have HP2 : Hid ((putH g).2 = mg) := by show _ = _; unfold putH; rw [k2]; cases mg <;> rfl
  have HP3 : Hid ((putH (readH b).1).2 = true) := by show _ = _; unfold putH; rw [HXP.out]; rfl
  have HK2 := Lib.hid k2
  have C9 := Lib.hid k3
  generalize (readH b).1 = X at *
  obtain ⟨mr, hmr⟩ : ∃ mr, mayRead b = mr := ⟨_, rfl⟩
  rw [hmr] at HRD HX0 HX1
  clear h4 hl hnc hcm hB hx k3 hmr
  have E0 : Hid (EnvX w ((w.alloc (.cells (hdA h) 29)).alloc (.cells (hdA g) 29)) [(w.heap.size + 1, Obj.cells (hdA g) 29 (0, 0)), (w.heap.size, Obj.cells (hdA h) 29 (0, 0))]) := (EnvX.start w).two _ _
  have HAW := Lib.hid (hawake_any H ((w.alloc (.cells (hdA h) 29)).alloc (.cells (hdA g) 29)) (ht.below (EnvX.bel E0.out)))
  have HT := Lib.hid ht
  have HH := Lib.hid H
  clear ht H hh hg k1 k2
  unfold hdV
  go_enter Tryd.func4, Tryd.ntmps4
  go_upto_region 1 with (fail)
  generalize ((w.alloc (.cells (hdA h) 29)).alloc (.cells (hdA g) 29)) = W at *
  go_wp2_with fail
  refine HAW.out.mono ?_
  rintro e w1 ⟨rfl, hb1⟩
  have HB1 := Lib.hid (EnvX.below E0.out hb1).bel
  have E1 : Hid (EnvX w1 w1 [(w.heap.size + 1, Obj.cells (hdA g) 29 (0, 0)), (w.heap.size, Obj.cells (hdA h) 29 (0, 0))]) := ⟨Below.refl _ _, (EnvX.below E0.out hb1).box⟩
  have HT1 := Lib.hid (HT.out.below HB1.out)
  clear hb1 E0 HAW
  go_upto_region 2 with (fail)
  refine wp_region_Hx (w0 := w1) [0, 1, 2, 3, 4, 5, 6] [(w.heap.size + 1, Obj.cells (hdA g) 29 (0, 0)), (w.heap.size, Obj.cells (hdA h) 29 (0, 0))] rfl E1.out ?_
  refine lexH_phase [0, 1, 2, 3, 4, 5, 6] [] ?_
  have hw1 : EnvX w1 _ [(w.heap.size + 1, Obj.cells (hdA g) 29 (0, 0)), (w.heap.size, Obj.cells (hdA h) 29 (0, 0))] := E1.out
  have hone := @EnvC.one _ _ _ hw1
  (refine wpG_op rfl rfl rfl ?_; intro K hK; go_big_quiet_op; go_big_quiet_on)
  (refine wpG_op rfl rfl rfl ?_; intro K hK; go_big_quiet_op; go_big_quiet_on)
  (refine wpG_op rfl rfl rfl ?_; intro K hK; go_big_quiet_op; go_big_quiet_on)
  (refine wpG_op rfl rfl rfl ?_; intro K hK; go_big_quiet_op; go_big_quiet_on)
  (refine wpG_val (v := .int .i64 (n : Int)) rfl rfl (fun u hu => len_op Tryd.underlying30 HN63.out u rfl) ?_ hw1; intro K hK; go_big_quiet_op; go_big_quiet_on)
  (refine wpG_val (v := .bool false) rfl rfl (fun u hu => gtZ_op u C5.out rfl rfl) ?_ hw1; intro K hK; go_big_quiet_op; go_big_quiet_on)
  (refine wpG_op rfl rfl rfl ?_; intro K hK; go_big_quiet_op; go_big_quiet_on)
  clear hone hw1
  refine wpG_nil ?_
  intro u3 E2'
  have EX2 := Lib.hid E2'
  clear E2'
  have HLD : Hid ((loadVar 29 ⟨w.heap.size, 0, none⟩).run Tryd.prog u3 = .ok (.agg (hdA h)) u3) := box_hd EX2.out (List.Mem.tail _ (List.Mem.head _)) HL.out
  have HPT : Hid (Calls Tryd.prog 10 #[.agg (hdA h)] u3 fun e w' => (∃ v, e = .returned (.tuple #[v, .bool false]) ∧ OwnB w' u3.heap.size v (putH h).1) ∧ Below u3.heap.size u3 w') := by
    have h1 := HH.out.put h u3 HOK.out.1 (HT1.out.below (EnvX.bel EX2.out))
    rwa [HP1.out] at h1
  go_upto_region 4 with (fail)
  go_wp2_with ((with_reducible refine wpList_load_run (o := ⟨some 28, _, _, _, _, _⟩) ?_ 29 (.tmp 3) ?_ ⟨w.heap.size, 0, none⟩ ?_ HLD.out ?_); (rfl); (rfl); (rfl))
  refine HPT.out.mono ?_
  rintro e w2 ⟨⟨v4, rfl, hv⟩, hb⟩
  obtain ⟨Ap, cp, rfl⟩ := hv.form
  have HB_xs := Lib.hid hv.bytes.2
  have HC_xs := Lib.hid hv.cap
  have hbb := (EnvX.below EX2.out hb).bel
  have E2 : Hid (EnvX w2 w2 [(w.heap.size + 1, Obj.cells (hdA g) 29 (0, 0)), (w.heap.size, Obj.cells (hdA h) 29 (0, 0))]) := ⟨Below.refl _ _, (EnvX.below EX2.out hb).box⟩
  have HB2 := Lib.hid (HB1.out.trans (hbb.mono HB1.out.size))
  have HT2 := Lib.hid (HT1.out.below hbb)
  clear hv hb HLD HPT hbb EX2
  obtain ⟨np, hnp⟩ : ∃ np, (putH h).1.length = np := ⟨_, rfl⟩
  obtain ⟨xs, hxs⟩ : ∃ xs, (putH h).1 = xs := ⟨_, rfl⟩
  have HN_xs := Lib.hid hnp
  have HX_xs := Lib.hid hxs
  rw [hnp] at HC_xs ⊢
  rw [hxs] at HB_xs HN_xs
  clear hnp hxs
  have HLD : Hid ((loadVar 29 ⟨w.heap.size + 1, 0, none⟩).run Tryd.prog w2 = .ok (.agg (hdA g)) w2) := box_hd E2.out (List.Mem.head _) HLG.out
  have HPT : Hid (Calls Tryd.prog 10 #[.agg (hdA g)] w2 fun e w' => (∃ v, e = .returned (.tuple #[v, .bool mg]) ∧ OwnB w' w2.heap.size v (putH g).1) ∧ Below w2.heap.size w2 w') := by
    have h1 := HH.out.put g w2 HOK.out.2 (HT2.out.below (EnvX.bel E2.out))
    rwa [HP2.out] at h1
  go_upto_region 5 with (fail)
  go_wp2_with ((with_reducible refine wpList_load_run (o := ⟨some 33, _, _, _, _, _⟩) ?_ 29 (.tmp 4) ?_ ⟨w.heap.size + 1, 0, none⟩ ?_ HLD.out ?_); (rfl); (rfl); (rfl))
  refine HPT.out.mono ?_
  rintro e w3 ⟨⟨v5, rfl, hv⟩, hb⟩
  obtain ⟨Aq, cq, rfl⟩ := hv.form
  have HB_ys := Lib.hid hv.bytes.2
  have HC_ys := Lib.hid hv.cap
  have hbb := (EnvX.below E2.out hb).bel
  have E3 : Hid (EnvX w3 w3 [(w.heap.size + 1, Obj.cells (hdA g) 29 (0, 0)), (w.heap.size, Obj.cells (hdA h) 29 (0, 0))]) := ⟨Below.refl _ _, (EnvX.below E2.out hb).box⟩
  have HB3 := Lib.hid (HB2.out.trans (hbb.mono HB2.out.size))
  have HT3 := Lib.hid (HT2.out.below hbb)
  have HB_xs := Lib.hid (HB_xs.out.up hbb)
  clear hv hb HLD HPT hbb E2
  obtain ⟨nq, hnp⟩ : ∃ np, (putH g).1.length = np := ⟨_, rfl⟩
  obtain ⟨ys, hxs⟩ : ∃ xs, (putH g).1 = xs := ⟨_, rfl⟩
  have HN_ys := Lib.hid hnp
  have HX_ys := Lib.hid hxs
  rw [hnp] at HC_ys ⊢
  rw [hxs] at HB_ys HN_ys
  clear hnp hxs
  go_upto_region 6 with (fail)
  have HLP : Hid (lenH noHd) := ⟨rfl, rfl, rfl, rfl⟩
  refine wp_region_Hx (w0 := w3) [0, 1, 2, 3, 4, 5, 6, 7] [(w.heap.size + 1, Obj.cells (hdA g) 29 (0, 0)), (w.heap.size, Obj.cells (hdA h) 29 (0, 0))] rfl E3.out ?_
  refine lexH_phase [0, 1, 2, 3, 4] [5, 6, 7] ?_
  have hw4 : EnvX w3 _ [(w.heap.size + 1, Obj.cells (hdA g) 29 (0, 0)), (w.heap.size, Obj.cells (hdA h) 29 (0, 0))] := E3.out
  have hone := @EnvC.one _ _ _ hw4
  (refine wpG_op rfl rfl rfl ?_; intro K hK; go_big_quiet_op; go_big_quiet_on)
  (refine wpG_call (f := 12) (args := #[.slice Ap np cp]) (v := .tuple #[hdV noHd, .bool false]) rfl rfl rfl Tryd.func12 rfl rfl (fun u hu => HRP.out xs _ np cp u HX_xs.out.symm HN_xs.out HC_xs.out.1 HC_xs.out.2 (HB_xs.out.up (EnvX.bel hu)) (HT3.out.below (EnvX.bel hu))) ?_ hw4; intro K hK; go_big_quiet_op; go_big_quiet_on)
  (refine wpG_op rfl rfl rfl ?_; intro K hK; go_big_quiet_op; go_big_quiet_on)
  (refine wpG_op rfl rfl rfl ?_; intro K hK; go_big_quiet_op; go_big_quiet_on)
  (refine wpG_op rfl rfl rfl ?_; intro K hK; go_big_quiet_op; go_big_quiet_on)
  clear hone hw4
  refine wpG_nil ?_
  refine (hOp_fresh (R := fun x N => ∃ g, x = .pointer (some ⟨g, 0, none⟩) ∧ N = [(g, Obj.cells (hdA noHd) 29 (0, 0))]) (M0 := [(w.heap.size + 1, Obj.cells (hdA g) 29 (0, 0)), (w.heap.size, Obj.cells (hdA h) 29 (0, 0))]) rfl rfl (fun _ h => h) (fun u hu => FAt_new (new_hd _) u) ?_)
  rintro _ _ ⟨g12, rfl, rfl⟩ hf he5; intro K' hK'; go_big_quiet_op; go_big_quiet_on
  have HG12 := Lib.hid (hf _ (List.mem_singleton.2 rfl))
  clear hf
  change lexH _ _ _ _ _ _ [(g12, Obj.cells (hdA noHd) 29 (0, 0)), (w.heap.size + 1, Obj.cells (hdA g) 29 (0, 0)), (w.heap.size, Obj.cells (hdA h) 29 (0, 0))]
  refine (hOp_store rfl (g12) (hdA noHd) rfl rfl HG12.out.1 29 ((hdA noHd)) (List.Mem.head _) (infoHd _ (hdA_size HLP.out)) ((hdA_size (show lenH noHd from ⟨rfl, rfl, rfl, rfl⟩)).trans (hdA_size HLP.out).symm) (hdA_one _) [(g12, Obj.cells (hdA noHd) 29 (0, 0)), (w.heap.size + 1, Obj.cells (hdA g) 29 (0, 0)), (w.heap.size, Obj.cells (hdA h) 29 (0, 0))] (List.forall_mem_cons.2 ⟨.inl rfl, fun y hy => .inr ⟨List.mem_cons_of_mem _ hy, HG12.out.2 y hy⟩⟩) ?_)
  intro he6
  refine lexH_phase [7] [] ?_
  have hw7 : EnvX w3 _ [(g12, Obj.cells (hdA noHd) 29 (0, 0)), (w.heap.size + 1, Obj.cells (hdA g) 29 (0, 0)), (w.heap.size, Obj.cells (hdA h) 29 (0, 0))] := he6.choose_spec
  have hone := @EnvC.one _ _ _ hw7
  (refine wpG_op rfl rfl rfl ?_; intro K hK; go_big_quiet_op; go_big_quiet_on)
  clear hone hw7
  refine wpG_nil ?_
  intro u9 E2'
  have EX8 := Lib.hid E2'
  clear E2'
  go_upto_region 7 with (fail)
  refine wp_region_Hx (w0 := w3) [0, 1, 2, 3, 4, 5, 6, 7] [(g12, Obj.cells (hdA noHd) 29 (0, 0)), (w.heap.size + 1, Obj.cells (hdA g) 29 (0, 0)), (w.heap.size, Obj.cells (hdA h) 29 (0, 0))] rfl EX8.out ?_
  refine lexH_phase [0, 1, 2, 3, 4] [5, 6, 7] ?_
  have hw10 : EnvX w3 _ [(g12, Obj.cells (hdA noHd) 29 (0, 0)), (w.heap.size + 1, Obj.cells (hdA g) 29 (0, 0)), (w.heap.size, Obj.cells (hdA h) 29 (0, 0))] := EX8.out
  have hone := @EnvC.one _ _ _ hw10
  (refine wpG_op rfl rfl rfl ?_; intro K hK; go_big_quiet_op; go_big_quiet_on)
  (refine wpG_call (f := 12) (args := #[.slice A n c]) (v := .tuple #[hdV X, .bool mr]) rfl rfl rfl Tryd.func12 rfl rfl (fun u hu => HRD.out u (HB3.out.trans ((EnvX.bel hu).mono HB3.out.size)) (HT3.out.below (EnvX.bel hu))) ?_ hw10; intro K hK; go_big_quiet_op; go_big_quiet_on)
  (refine wpG_op rfl rfl rfl ?_; intro K hK; go_big_quiet_op; go_big_quiet_on)
  (refine wpG_op rfl rfl rfl ?_; intro K hK; go_big_quiet_op; go_big_quiet_on)
  (refine wpG_op rfl rfl rfl ?_; intro K hK; go_big_quiet_op; go_big_quiet_on)
  clear hone hw10
  refine wpG_nil ?_
  refine (hOp_fresh (R := fun x N => ∃ g, x = .pointer (some ⟨g, 0, none⟩) ∧ N = [(g, Obj.cells (hdA noHd) 29 (0, 0))]) (M0 := [(g12, Obj.cells (hdA noHd) 29 (0, 0)), (w.heap.size + 1, Obj.cells (hdA g) 29 (0, 0)), (w.heap.size, Obj.cells (hdA h) 29 (0, 0))]) rfl rfl (fun _ h => h) (fun u hu => FAt_new (new_hd _) u) ?_)
  rintro _ _ ⟨g14, rfl, rfl⟩ hf he11; intro K' hK'; go_big_quiet_op; go_big_quiet_on
  have HG14 := Lib.hid (hf _ (List.mem_singleton.2 rfl))
  clear hf
  change lexH _ _ _ _ _ _ [(g14, Obj.cells (hdA noHd) 29 (0, 0)), (g12, Obj.cells (hdA noHd) 29 (0, 0)), (w.heap.size + 1, Obj.cells (hdA g) 29 (0, 0)), (w.heap.size, Obj.cells (hdA h) 29 (0, 0))]
  refine (hOp_store rfl (g14) (hdA X) rfl rfl HG14.out.1 29 ((hdA noHd)) (List.Mem.head _) (infoHd _ (hdA_size HXL.out.len)) ((hdA_size (show lenH noHd from ⟨rfl, rfl, rfl, rfl⟩)).trans (hdA_size HXL.out.len).symm) (hdA_one _) [(g14, Obj.cells (hdA X) 29 (0, 0)), (g12, Obj.cells (hdA noHd) 29 (0, 0)), (w.heap.size + 1, Obj.cells (hdA g) 29 (0, 0)), (w.heap.size, Obj.cells (hdA h) 29 (0, 0))] (List.forall_mem_cons.2 ⟨.inl rfl, fun y hy => .inr ⟨List.mem_cons_of_mem _ hy, HG14.out.2 y hy⟩⟩) ?_)
  intro he12
  refine lexH_phase [7] [] ?_
  have hw13 : EnvX w3 _ [(g14, Obj.cells (hdA X) 29 (0, 0)), (g12, Obj.cells (hdA noHd) 29 (0, 0)), (w.heap.size + 1, Obj.cells (hdA g) 29 (0, 0)), (w.heap.size, Obj.cells (hdA h) 29 (0, 0))] := he12.choose_spec
  have hone := @EnvC.one _ _ _ hw13
  (refine wpG_op rfl rfl rfl ?_; intro K hK; go_big_quiet_op; go_big_quiet_on)
  clear hone hw13
  refine wpG_nil ?_
  intro u15 E2'
  have EX14 := Lib.hid E2'
  clear E2'
  have HLD : Hid ((loadVar 29 ⟨g14, 0, none⟩).run Tryd.prog u15 = .ok (.agg (hdA X)) u15) := box_hd EX14.out (List.Mem.head _) HXL.out.len
  have HPT : Hid (Calls Tryd.prog 10 #[.agg (hdA X)] u15 fun e w' => (∃ v, e = .returned (.tuple #[v, .bool true]) ∧ OwnB w' u15.heap.size v (putH X).1) ∧ Below u15.heap.size u15 w') := by
    have h1 := HH.out.put X u15 HXL.out (HT3.out.below (EnvX.bel EX14.out))
    rwa [HP3.out] at h1
  go_upto_region 8 with (fail)
  go_wp2_with ((with_reducible refine wpList_load_run (o := ⟨some 48, _, _, _, _, _⟩) ?_ 29 (.tmp 14) ?_ ⟨g14, 0, none⟩ ?_ HLD.out ?_); (rfl); (rfl); (rfl))
  refine HPT.out.mono ?_
  rintro e w4 ⟨⟨v8, rfl, hv⟩, hb⟩
  obtain ⟨Ar, cr, rfl⟩ := hv.form
  have HB_zs := Lib.hid hv.bytes.2
  have HC_zs := Lib.hid hv.cap
  have hbb := (EnvX.below EX14.out hb).bel
  have E4 : Hid (EnvX w4 w4 [(g14, Obj.cells (hdA X) 29 (0, 0)), (g12, Obj.cells (hdA noHd) 29 (0, 0)), (w.heap.size + 1, Obj.cells (hdA g) 29 (0, 0)), (w.heap.size, Obj.cells (hdA h) 29 (0, 0))]) := ⟨Below.refl _ _, (EnvX.below EX14.out hb).box⟩
  have HB4 := Lib.hid (HB3.out.trans (hbb.mono HB3.out.size))
  have HT4 := Lib.hid (HT3.out.below hbb)
  have HB_xs := Lib.hid (HB_xs.out.up hbb)
  have HB_ys := Lib.hid (HB_ys.out.up hbb)
  clear hv hb HLD HPT hbb EX14
  obtain ⟨nr, hnp⟩ : ∃ np, (putH X).1.length = np := ⟨_, rfl⟩
  obtain ⟨zs, hxs⟩ : ∃ xs, (putH X).1 = xs := ⟨_, rfl⟩
  have HN_zs := Lib.hid hnp
  have HX_zs := Lib.hid hxs
  rw [hnp] at HC_zs ⊢
  rw [hxs] at HB_zs HN_zs
  clear hnp hxs
  have HP63 : Hid (np < 9223372036854775808) := by show _ < _; have h1 := HN_xs.out; have h2 := HNX.out.1; rw [HX_xs.out] at h2; omega
  have C18 : Hid ((!eqH h h) = false) := by show _ = _; simp [eqH]
  rw [HX_xs.out] at HBH HNX
  rw [HX_ys.out] at HBG HGY
  rw [HX_zs.out] at HXB
  go_upto_region 9 with (fail)
  refine wp_region_H (w0 := w4) [(g14, Obj.cells (hdA X) 29 (0, 0)), (g12, Obj.cells (hdA noHd) 29 (0, 0)), (w.heap.size + 1, Obj.cells (hdA g) 29 (0, 0)), (w.heap.size, Obj.cells (hdA h) 29 (0, 0))] (by kernel_rfl) E4.out ?_
  refine anyH_phase [0, 1, 2, 3, 4, 5, 6, 7, 8, 9, 10, 11, 12, 13, 14, 15, 16, 17, 18, 19, 20, 21, 22, 23, 24, 25, 26, 27, 28, 29, 30, 31, 32, 33, 34, 35, 36, 37, 38, 39, 40, 41, 42, 43] 0 rfl ⟨_, (EnvX.drew E4.out)⟩ (by kernel_rfl) ?_
  have hw16 : EnvX w4 _ [(g14, Obj.cells (hdA X) 29 (0, 0)), (g12, Obj.cells (hdA noHd) 29 (0, 0)), (w.heap.size + 1, Obj.cells (hdA g) 29 (0, 0)), (w.heap.size, Obj.cells (hdA h) 29 (0, 0))] := (EnvX.drew E4.out)
  have hone := @EnvC.one _ _ _ hw16
  (refine wpG_op rfl rfl rfl ?_; intro K hK; go_big_quiet_op; go_big_quiet_on)
  (refine wpG_op rfl rfl rfl ?_; intro K hK; go_big_quiet_op; go_big_quiet_on)
  (refine wpG_val (v := .int .i64 h.height) rfl rfl (fun u hu => load_any_op u (box_hd_height hu (List.Mem.tail _ (List.Mem.tail _ (List.Mem.tail _ (List.Mem.head _))))) rfl) ?_ hw16; intro K hK; go_big_quiet_op; go_big_quiet_on)
  (refine wpG_val (v := .bool true) rfl rfl (fun u hu => geZ_op u C9.out.1 rfl rfl) ?_ hw16; intro K hK; go_big_quiet_op; go_big_quiet_on)
  (refine wpG_op rfl rfl rfl ?_; intro K hK; go_big_quiet_op; go_big_quiet_on)
  (refine wpG_op rfl rfl rfl ?_; intro K hK; go_big_quiet_op; go_big_quiet_on)
  (refine wpG_val (v := .int .i64 h.height) rfl rfl (fun u hu => load_any_op u (box_hd_height hu (List.Mem.tail _ (List.Mem.tail _ (List.Mem.tail _ (List.Mem.head _))))) rfl) ?_ hw16; intro K hK; go_big_quiet_op; go_big_quiet_on)
  (refine wpG_val (v := .bool false) rfl rfl (fun u hu => leZ_op u C9.out.2 rfl rfl) ?_ hw16; intro K hK; go_big_quiet_op; go_big_quiet_on)
  (refine wpG_op rfl rfl rfl ?_; intro K hK; go_big_quiet_op; go_big_quiet_on)
  (refine wpG_val (v := .bool false) rfl rfl (fun u hu => neqTTh_op u rfl rfl) ?_ hw16; intro K hK; go_big_quiet_op; go_big_quiet_on)
  (refine wpG_op rfl rfl rfl ?_; intro K hK; go_big_quiet_op; go_big_quiet_on)
  (refine wpG_op rfl rfl rfl ?_; intro K hK; go_big_quiet_op; go_big_quiet_on)
  (refine wpG_op rfl rfl rfl ?_; intro K hK; go_big_quiet_op; go_big_quiet_on)
  (refine wpG_skip rfl rfl ?_ hw16; intro K hK; go_big_quiet_op; go_big_quiet_on)
  (refine wpG_skip rfl rfl ?_ hw16; intro K hK; go_big_quiet_op; go_big_quiet_on)
  (refine wpG_skip rfl rfl ?_ hw16; intro K hK; go_big_quiet_op; go_big_quiet_on)
  (refine wpG_skip rfl rfl ?_ hw16; intro K hK; go_big_quiet_op; go_big_quiet_on)
  (refine wpG_skip rfl rfl ?_ hw16; intro K hK; go_big_quiet_op; go_big_quiet_on)
  (refine wpG_skip rfl rfl ?_ hw16; intro K hK; go_big_quiet_op; go_big_quiet_on)
  (refine wpG_skip rfl rfl ?_ hw16; intro K hK; go_big_quiet_op; go_big_quiet_on)
  (refine wpG_skip rfl rfl ?_ hw16; intro K hK; go_big_quiet_op; go_big_quiet_on)
  (refine wpG_skip rfl rfl ?_ hw16; intro K hK; go_big_quiet_op; go_big_quiet_on)
  (refine wpG_skip rfl rfl ?_ hw16; intro K hK; go_big_quiet_op; go_big_quiet_on)
  (refine wpG_skip rfl rfl ?_ hw16; intro K hK; go_big_quiet_op; go_big_quiet_on)
  (refine wpG_skip rfl rfl ?_ hw16; intro K hK; go_big_quiet_op; go_big_quiet_on)
  (refine wpG_op rfl rfl rfl ?_; intro K hK; go_big_quiet_op; go_big_quiet_on)
  (refine wpG_op rfl rfl rfl ?_; intro K hK; go_big_quiet_op; go_big_quiet_on)
  (refine wpG_op rfl rfl rfl ?_; intro K hK; go_big_quiet_op; go_big_quiet_on)
  (refine wpG_op rfl rfl rfl ?_; intro K hK; go_big_quiet_op; go_big_quiet_on)
  (refine wpG_op rfl rfl rfl ?_; intro K hK; go_big_quiet_op; go_big_quiet_on)
  (refine wpG_skip rfl rfl ?_ hw16; intro K hK; go_big_quiet_op; go_big_quiet_on)
  (refine wpG_op rfl rfl rfl ?_; intro K hK; go_big_quiet_op; go_big_quiet_on)
  (refine wpG_op rfl rfl rfl ?_; intro K hK; go_big_quiet_op; go_big_quiet_on)
  (refine wpG_skip rfl rfl ?_ hw16; intro K hK; go_big_quiet_op; go_big_quiet_on)
  (refine wpG_skip rfl rfl ?_ hw16; intro K hK; go_big_quiet_op; go_big_quiet_on)
  (refine wpG_skip rfl rfl ?_ hw16; intro K hK; go_big_quiet_op; go_big_quiet_on)
  (refine wpG_skip rfl rfl ?_ hw16; intro K hK; go_big_quiet_op; go_big_quiet_on)
  (refine wpG_skip rfl rfl ?_ hw16; intro K hK; go_big_quiet_op; go_big_quiet_on)
  (refine wpG_skip rfl rfl ?_ hw16; intro K hK; go_big_quiet_op; go_big_quiet_on)
  (refine wpG_skip rfl rfl ?_ hw16; intro K hK; go_big_quiet_op; go_big_quiet_on)
  (refine wpG_skip rfl rfl ?_ hw16; intro K hK; go_big_quiet_op; go_big_quiet_on)
  (refine wpG_skip rfl rfl ?_ hw16; intro K hK; go_big_quiet_op; go_big_quiet_on)
  (refine wpG_op rfl rfl rfl ?_; intro K hK; go_big_quiet_op; go_big_quiet_on)
  (refine wpG_op rfl rfl rfl ?_; intro K hK; go_big_quiet_op; go_big_quiet_on)
  clear hone hw16
  refine wpG_nil ?_
  refine anyH_done (by kernel_rfl) ?_
  intro u18 E2'
  have EX17 := Lib.hid E2'
  clear E2'
  cases mr with
  | false =>
    have HEX : Hid (eqH X noHd = true) := decide_eq_true (HX0.out rfl)
    go_upto_region 11 with (fail)
    refine wp_region_Hx (w0 := w4) [0, 1, 2, 3, 4, 5, 6, 7, 8, 9, 10, 11, 12, 13, 14, 15, 16, 17, 18, 19, 20] [(g14, Obj.cells (hdA X) 29 (0, 0)), (g12, Obj.cells (hdA noHd) 29 (0, 0)), (w.heap.size + 1, Obj.cells (hdA g) 29 (0, 0)), (w.heap.size, Obj.cells (hdA h) 29 (0, 0))] rfl EX17.out ?_
    refine lexH_phase [0, 1, 2, 3, 4, 5, 6, 7, 8, 9, 10, 11, 12, 13, 14, 15, 16, 17, 18, 19, 20] [] ?_
    have hw19 : EnvX w4 _ [(g14, Obj.cells (hdA X) 29 (0, 0)), (g12, Obj.cells (hdA noHd) 29 (0, 0)), (w.heap.size + 1, Obj.cells (hdA g) 29 (0, 0)), (w.heap.size, Obj.cells (hdA h) 29 (0, 0))] := EX17.out
    have hone := @EnvC.one _ _ _ hw19
    (refine wpG_op rfl rfl rfl ?_; intro K hK; go_big_quiet_op; go_big_quiet_on)
    (refine wpG_op rfl rfl rfl ?_; intro K hK; go_big_quiet_op; go_big_quiet_on)
    (refine wpG_op rfl rfl rfl ?_; intro K hK; go_big_quiet_op; go_big_quiet_on)
    (refine wpG_val (v := hdV X) rfl rfl (fun u hu => load_any_op u (box_hd hu (List.Mem.head _) HXL.out.len) rfl) ?_ hw19; intro K hK; go_big_quiet_op; go_big_quiet_on)
    (refine wpG_val (v := hdV noHd) rfl rfl (fun u hu => buildA_op u built_no) ?_ hw19; intro K hK; go_big_quiet_op; go_big_quiet_on)
    (refine wpG_val (v := .bool true) rfl rfl (fun u hu => eqlHd_op HXL.out okHd_no HEX.out u rfl rfl) ?_ hw19; intro K hK; go_big_quiet_op; go_big_quiet_on)
    (refine wpG_op rfl rfl rfl ?_; intro K hK; go_big_quiet_op; go_big_quiet_on)
    (refine wpG_op rfl rfl rfl ?_; intro K hK; go_big_quiet_op; go_big_quiet_on)
    (refine wpG_skip rfl rfl ?_ hw19; intro K hK; go_big_quiet_op; go_big_quiet_on)
    (refine wpG_skip rfl rfl ?_ hw19; intro K hK; go_big_quiet_op; go_big_quiet_on)
    (refine wpG_skip rfl rfl ?_ hw19; intro K hK; go_big_quiet_op; go_big_quiet_on)
    (refine wpG_skip rfl rfl ?_ hw19; intro K hK; go_big_quiet_op; go_big_quiet_on)
    (refine wpG_skip rfl rfl ?_ hw19; intro K hK; go_big_quiet_op; go_big_quiet_on)
    (refine wpG_skip rfl rfl ?_ hw19; intro K hK; go_big_quiet_op; go_big_quiet_on)
    (refine wpG_skip rfl rfl ?_ hw19; intro K hK; go_big_quiet_op; go_big_quiet_on)
    (refine wpG_skip rfl rfl ?_ hw19; intro K hK; go_big_quiet_op; go_big_quiet_on)
    (refine wpG_skip rfl rfl ?_ hw19; intro K hK; go_big_quiet_op; go_big_quiet_on)
    (refine wpG_skip rfl rfl ?_ hw19; intro K hK; go_big_quiet_op; go_big_quiet_on)
    (refine wpG_skip rfl rfl ?_ hw19; intro K hK; go_big_quiet_op; go_big_quiet_on)
    (refine wpG_op rfl rfl rfl ?_; intro K hK; go_big_quiet_op; go_big_quiet_on)
    (refine wpG_op rfl rfl rfl ?_; intro K hK; go_big_quiet_op; go_big_quiet_on)
    clear hone hw19
    refine wpG_nil ?_
    intro u21 E2'
    have EX20 := Lib.hid E2'
    clear E2'
    have HBE := Lib.hid (HB4.out.trans ((EnvX.bel EX20.out).mono HB4.out.size))
    go_wp2
    go_ret
    exact ⟨rfl, HBE.out⟩
  | true =>
    have hzb : zs = b := by rw [HXB.out.1]; exact HX1.out rfl
    obtain ⟨s2, hs2⟩ : ∃ s, strOfNums zs = s := ⟨_, rfl⟩
    have HS2 := Lib.hid hs2
    have HS3 : Hid (strOfNums b = s2) := by show _ = _; rw [← hzb]; exact hs2
    have HE2 : Hid ((s2.toList == s2.toList) = true) := beq_self_eq_true _
    clear hzb hs2
    go_upto_region 11 with (fail)
    refine wp_region_Hx (w0 := w4) [0, 1, 2, 3, 4, 5, 6, 7, 8, 9, 10, 11, 12, 13, 14, 15, 16, 17, 18, 19, 20] [(g14, Obj.cells (hdA X) 29 (0, 0)), (g12, Obj.cells (hdA noHd) 29 (0, 0)), (w.heap.size + 1, Obj.cells (hdA g) 29 (0, 0)), (w.heap.size, Obj.cells (hdA h) 29 (0, 0))] rfl EX17.out ?_
    refine lexH_phase [0, 1, 2, 3, 4, 5, 6, 7, 8, 9, 10, 11, 12, 13, 14, 15, 16, 17, 18, 19, 20] [] ?_
    have hw19 : EnvX w4 _ [(g14, Obj.cells (hdA X) 29 (0, 0)), (g12, Obj.cells (hdA noHd) 29 (0, 0)), (w.heap.size + 1, Obj.cells (hdA g) 29 (0, 0)), (w.heap.size, Obj.cells (hdA h) 29 (0, 0))] := EX17.out
    have hone := @EnvC.one _ _ _ hw19
    (refine wpG_op rfl rfl rfl ?_; intro K hK; go_big_quiet_op; go_big_quiet_on)
    (refine wpG_op rfl rfl rfl ?_; intro K hK; go_big_quiet_op; go_big_quiet_on)
    (refine wpG_op rfl rfl rfl ?_; intro K hK; go_big_quiet_op; go_big_quiet_on)
    (refine wpG_skip rfl rfl ?_ hw19; intro K hK; go_big_quiet_op; go_big_quiet_on)
    (refine wpG_skip rfl rfl ?_ hw19; intro K hK; go_big_quiet_op; go_big_quiet_on)
    (refine wpG_skip rfl rfl ?_ hw19; intro K hK; go_big_quiet_op; go_big_quiet_on)
    (refine wpG_op rfl rfl rfl ?_; intro K hK; go_big_quiet_op; go_big_quiet_on)
    (refine wpG_op rfl rfl rfl ?_; intro K hK; go_big_quiet_op; go_big_quiet_on)
    (refine wpG_op rfl rfl rfl ?_; intro K hK; go_big_quiet_op; go_big_quiet_on)
    (refine wpG_op rfl rfl rfl ?_; intro K hK; go_big_quiet_op; go_big_quiet_on)
    (refine wpG_op rfl rfl rfl ?_; intro K hK; go_big_quiet_op; go_big_quiet_on)
    (refine wpG_op rfl rfl rfl ?_; intro K hK; go_big_quiet_op; go_big_quiet_on)
    (refine wpG_op rfl rfl rfl ?_; intro K hK; go_big_quiet_op; go_big_quiet_on)
    (refine wpG_op rfl rfl rfl ?_; intro K hK; go_big_quiet_op; go_big_quiet_on)
    (refine wpG_val (v := .string s2) rfl rfl (fun u hu => conv_op u HN_zs.out (HB_zs.out.up (EnvX.bel hu)) HS2.out rfl) ?_ hw19; intro K hK; go_big_quiet_op; go_big_quiet_on)
    (refine wpG_op rfl rfl rfl ?_; intro K hK; go_big_quiet_op; go_big_quiet_on)
    (refine wpG_val (v := .string s2) rfl rfl (fun u hu => conv_op u HBB.out.1 (HBX.out.up (HB4.out.trans ((EnvX.bel hu).mono HB4.out.size))) HS3.out rfl) ?_ hw19; intro K hK; go_big_quiet_op; go_big_quiet_on)
    (refine wpG_val (v := .bool true) rfl rfl (fun u hu => eqs_op u HE2.out rfl rfl) ?_ hw19; intro K hK; go_big_quiet_op; go_big_quiet_on)
    (refine wpG_op rfl rfl rfl ?_; intro K hK; go_big_quiet_op; go_big_quiet_on)
    (refine wpG_op rfl rfl rfl ?_; intro K hK; go_big_quiet_op; go_big_quiet_on)
    (refine wpG_op rfl rfl rfl ?_; intro K hK; go_big_quiet_op; go_big_quiet_on)
    clear hone hw19
    refine wpG_nil ?_
    intro u21 E2'
    have EX20 := Lib.hid E2'
    clear E2'
    have HBE := Lib.hid (HB4.out.trans ((EnvX.bel EX20.out).mono HB4.out.size))
    go_wp2
    go_ret
    exact ⟨rfl, HBE.out⟩
theorem law_back (H : HeadC) (h g : Hd) (b : List Int) (A : Option Addr) (n c : Nat) (w : World) (hh : okHd h) (hg : okHd g) (hl : b.length = n) (hnc : n ≤ c) (hcm : c ≤ maxLen) (hB : isB b) (hx : Bytes w w.heap.size A b) (ht : Tables w) :
    Calls Tryd.prog 4 #[hdV h, hdV g, .slice A n c] w fun e w' => e = .returned (.bool true) ∧ Below w.heap.size w w' := by
  by_cases h4 : 400 < n
  · exact law_back_many H h g b A n c w hh hg hl hnc hcm hB hx ht h4
  · cases k1 : mayPut h with
    | true =>
      have k := k1
      unfold mayPut at k
      rw [decide_eq_true_eq] at k
      have k3 : decide (0 ≤ h.height) = true ∧ decide (h.height ≤ 1048576) = true := ⟨decide_eq_true k.1, decide_eq_true k.2⟩
      cases k2 : mayPut g with
      | true => exact law_back_tt H h g b A n c w hh hg hl hnc hcm hB hx ht k1 k2 k3 h4
      | false => exact law_back_tf H h g b A n c w hh hg hl hnc hcm hB hx ht k1 k2 k3 h4
    | false =>
      have k := k1
      unfold mayPut at k
      rw [decide_eq_false_iff_not] at k
      by_cases h0 : 0 ≤ h.height
      · exact law_back_high H h g b A n c w hh hg hl hnc hcm hB hx ht k1 _ rfl ⟨decide_eq_true h0, decide_eq_false (by omega)⟩ h4
      · exact law_back_low H h g b A n c w hh hg hl hnc hcm hB hx ht k1 _ rfl ⟨decide_eq_false h0, decide_eq_true (by omega)⟩ h4
end Go.Proofs.YtmpjgfecnnefeaaDoor

namespace Go.Proofs.YtmpjgfecnnefeaaDoor.headBack
set_option maxRecDepth 8000
open Go.ChangeShapes Go.WideShapes Go.ChangeAt Go.RowKit

theorem contract (H : Type) (enc : TypeId × Value → H) (W : World) (base : Nat) (args : Array Value) (ds gs : List (DataW H)) (before : List MemPlace)
    (hval : ∀ (j : Nat) t v, Tryd.f4.params[j]? = some t → args[j]? = some v → Value.okWide Tryd.prog W .any base t v)
    (hW : DataW.Whole enc Tryd.prog Tryd.f4.params.toList Rows.headBackSpec.vars false W args.toList ds gs before) (hL : laidMetH Tryd.prog Rows.headBackRow.laid W) :
    Calls Tryd.prog 4 args W fun e W' => ∃ v, e = .returned v ∧ Rows.headBackSpec.post enc Tryd.prog Tryd.f4 false true false false W args v W' := by
  have hW' := hW
  obtain ⟨p, q, hA0, hV, rfl, hfz, hnd⟩ := hW
  have hA : DataW.TrodAll enc Tryd.prog W 0 (fun _ => true) true Tryd.f4.params.toList args.toList ds p := hA0
  rw [Tryd.params4] at hA hval
  obtain ⟨v0, vs0, d0, ds0, p0, q0, hargs, rfl, rfl, h0, r0⟩ := trodAll_cons hA
  obtain ⟨v1, vs1, d1, ds1, p1, q1, rfl, rfl, rfl, h1, r1⟩ := trodAll_cons r0
  obtain ⟨v2, vs2, d2, ds2, p2, q2, rfl, rfl, rfl, h2, r2⟩ := trodAll_cons r1
  obtain ⟨rfl, rfl, rfl⟩ := trodAll_nil r2
  obtain rfl : args = #[v0, v1, v2] := by cases args; simp_all
  obtain ⟨rfl, rfl⟩ := trodVars_none hV
  have lt0 : ∀ x ∈ p0, x.block < W.heap.size := by obtain ⟨m, hm⟩ := h0; exact DataW.trod_lt m _ _ _ hm
  obtain ⟨x0, rfl, kx0⟩ := open_head (hval 0 29 v0 rfl rfl) h0
  have lt1 : ∀ x ∈ p1, x.block < W.heap.size := by obtain ⟨m, hm⟩ := h1; exact DataW.trod_lt m _ _ _ hm
  obtain ⟨x1, rfl, kx1⟩ := open_head (hval 1 29 v1 rfl rfl) h1
  have lt2 : ∀ x ∈ p2, x.block < W.heap.size := by obtain ⟨m, hm⟩ := h2; exact DataW.trod_lt m _ _ _ hm
  obtain ⟨a2, n2, c2, x2, rfl, lx2, nc2, cm2, bx2, px2⟩ := open_bytes (hval 2 30 v2 rfl rfl) h2
  clear hA0
  refine (law_back headC x0 x1 x2 a2 n2 c2 W kx0 kx1 lx2 nc2 cm2 bx2 px2 (tables_of_laid hL)).mono fun e W' ⟨he, bel⟩ => ?_
  subst he
  exact ⟨_, rfl, _, _, _, [], _, [], hW', trodAll_mk1 (shut_bool Tryd.underlying4 _), (trodAll_cons_mk (Below.trod laidOut (by kernel_rfl) (of_decide_eq_true (by kernel_rfl)) h0 bel lt0) (trodAll_cons_mk (Below.trod laidOut (by kernel_rfl) (of_decide_eq_true (by kernel_rfl)) h1 bel lt1) (trodAll_cons_mk (Below.trod laidOut (by kernel_rfl) (of_decide_eq_true (by kernel_rfl)) h2 bel lt2) trodAll_mk0))), rfl, bel.frame _, fun h => by cases h⟩

def start : Array Value := #[zeroH, zeroH, .slice none 0 0]
theorem reads (os : Os) {H : Type} (enc : TypeId × Value → H) : ∃ places, DataW.whole enc Tryd.prog ((laidWorld os).forCall (fun _ _ => 0) ⟨#[], start, []⟩).memory Tryd.f4.params.toList Rows.headBackSpec.vars false start.toList 8 = some ([zeroHD, zeroHD, .nil], [], places) :=
  ⟨[], by kernel_rfl⟩

set_option maxRecDepth 100000 in
theorem lifted (os : Os) (started : os.Started) (H : Type) (enc : TypeId × Value → H) (F : Stop.Interp) :
    ReturnsInHanded {} Tryd.checked os 4 .any ((OpenSpec.ofChange Rows.headBackSpec).preRow enc Tryd.prog Tryd.f4 Rows.headBackRow.domain false Rows.headBackRow.laid) (((OpenSpec.ofChange Rows.headBackSpec).at F).post enc Tryd.prog Tryd.f4 false true false false) := by
  obtain ⟨places, hx⟩ := reads os enc
  refine returnsInHanded_of_row (C := Tryd.checked) (s := OpenSpec.ofChange Rows.headBackSpec) own started (by kernel_rfl) Tryd.func4
    (witness_row_at (enc := enc) (C := Tryd.checked) false (laidWorld os) start rfl (by kernel_rfl) (by kernel_rfl) (by kernel_rfl)
      (OpenSpec.preRow_of_cond 8 hx (by kernel_rfl) (fun k hk => by cases hk) (by kernel_rfl) (laidMet_of_run' 8 (by kernel_rfl) (by kernel_rfl)))) ?_
  intro W base args ds gs before hval hW _ _ _ hL _ _
  exact contract H enc W base args ds gs before hval hW hL

theorem said : Rows.HeadBackSaid :=
  OpenClaim.holds_of_cond 4 Tryd.f4 rfl rfl rfl rfl rfl rfl rfl ⟨rfl, rfl, rfl, rfl, rfl⟩ rfl rfl rfl rfl rfl (by kernel_rfl) Tryd.func4 (by kernel_rfl)
    (of_decide_eq_true (by kernel_rfl)) (by unfold Func.isWrapper; first | (rw [if_pos (by decide +kernel)]; kernel_rfl) | (rw [if_neg (by decide +kernel)]; exact ⟨rfl, rfl⟩))
    (fun os started H enc _ F => by rw [OpenClaim.pre_eq_preRow]; exact lifted os started H enc F)

theorem plain (f : FuncId) (fn : Func) (hf : Tryd.pinned.checked.prog.funcNamed "stepladder/stepladderlaw08.HeadBack" = some f) (hfn : Tryd.pinned.checked.prog.funcs[f]? = some fn) :
    false = Tryd.pinned.checked.prog.looks [] ∧ ∀ (j : Nat) t, fn.params[j]? = some t → Tryd.pinned.checked.prog.wantsStandIn t = false := by
  obtain rfl : f = 4 := Option.some.inj ((show Tryd.prog.funcNamed "stepladder/stepladderlaw08.HeadBack" = some 4 by kernel_rfl).symm.trans hf) |>.symm
  obtain rfl : fn = Tryd.f4 := (Option.some.inj (Tryd.func4.symm.trans hfn)).symm
  refine ⟨by kernel_rfl, fun j t ht => ?_⟩
  rw [Tryd.params4] at ht
  have hm : t = 29 ∨ t = 29 ∨ t = 30 := by simpa using Array.mem_of_getElem? ht
  rcases hm with rfl | rfl | rfl
  · exact (show Tryd.prog.wantsStandIn 29 = false by kernel_rfl)
  · exact (show Tryd.prog.wantsStandIn 29 = false by kernel_rfl)
  · exact (show Tryd.prog.wantsStandIn 30 = false by kernel_rfl)
theorem card : Rows.HeadBackCardSaid :=
  Claim7.holds_tied_plain_at .later [] _ _ _ _ said (fun _ h => by cases h) (by kernel_rfl) (fun _ h => by cases h) headBack_row_tie rfl ⟨rfl, rfl⟩ (by kernel_rfl) rfl plain (by kernel_rfl)

end Go.Proofs.YtmpjgfecnnefeaaDoor.headBack
