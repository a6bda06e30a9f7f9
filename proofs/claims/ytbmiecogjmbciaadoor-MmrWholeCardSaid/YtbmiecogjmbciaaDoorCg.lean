/- Part of a proof. -/
import Derived.Test.YtbmiecogjmbciaaDoorCf
namespace Go.Proofs.YtbmiecogjmbciaaDoor
set_option maxRecDepth 8000
open Go.RowKit

set_option maxRecDepth 20000 in
set_option maxHeartbeats 1000000 in
theorem rsof_any (A : Option Addr) (n c : Nat) (xss : List (List Int)) (w : World) (hl : xss.length = n) (hx : Parts w w.heap.size A xss) (hn : n ≤ 9223372036854775807) (hs : xss.flatten.length ≤ 70368744177) :
    Calls Tryd.prog 47 #[.slice A n c] w fun e w' => e = .returned (.agg (arrB 32 (sumL xss.flatten))) ∧ Below w.heap.size w w' := by
  have HL := Lib.hid hl
  have HX := Lib.hid hx
  clear hl hx
  go_enter Tryd.func47, Tryd.ntmps47
  go_wp2_with fail
  go_loopw [3, 4] (fun v i u => ∃ k : Nat, k ≤ n ∧ i = .int .i64 k ∧ Below w.heap.size w u ∧ Hid (Row u w.heap.size 24 (arrB 32 []) ∧ u.ownsRow (w.heap.size + 1) 5 1 v (xss.take k).flatten.length ((xss.take k).flatten.map u8v))) (fun _ i _ => n - (intOf i).toNat)
  case atStart => exact ⟨0, by omega, rfl, by go_grown, Row.new w 24 _, World.ownsRow_nil _ _ _ _⟩
  case round =>
    obtain ⟨k, hk, rfl, hbl, hrows⟩ := hrel
    obtain ⟨r0, hown⟩ := hrows.out
    have s0 := r0.lt
    by_cases hlt : k < n
    · have hg := List.getElem?_eq_getElem (by rw [HL.out]; exact hlt : k < xss.length)
      have hst := Lib.hid (flat_step xss k _ hg)
      obtain ⟨b, o, a, c1, rfl, hb, hc, hy, hr⟩ := HX.out k _ hg
      have hle : (xss.take k).flatten.length + (xss[k]'(by rw [HL.out]; exact hlt)).length ≤ xss.flatten.length := by
        have e := congrArg List.length hst.out
        rw [List.length_append] at e
        have h2 : (xss.take (k + 1)).flatten.length ≤ xss.flatten.length := by
          conv => rhs; rw [← List.take_append_drop (k + 1) xss, List.flatten_append, List.length_append]
          omega
        omega
      generalize xss[k]'(by rw [HL.out]; exact hlt) = ys at *
      obtain ⟨v', w', hrun, hown', hgr⟩ := append_bytes _ _ _ _ wr hown a ys.length c1 w.heap.size ys rfl (hy.below hbl) (by omega) (by omega)
      have hcell := (hbl.cell (p := ⟨b, o + k, none⟩) hb).trans hc
      have hb2 := below_of_grown (B := w.heap.size + 1) hgr (fun g hg => (hown.lt g hg).1) (by omega)
      have R0 := Lib.hid (r0.below hb2 (by omega))
      have BB := Lib.hid (hbl.trans (hb2.mono (by omega)))
      have OO := Lib.hid hown'
      clear r0 hown hrows hg hc hy hr hgr hb2 hown' hle
      have hk2 : (k : Int) < (n : Int) := by omega
      have HRUN := Lib.hid hrun
      clear hrun
      go_wp2_with (at_builtin; (with_reducible refine wpList_append_run (o := ⟨some 16, _, _, _, _, _⟩) ?_ (.tmp 11) (.tmp 15) ?_ ?_ ?_ ?_ HRUN.out ?_); (rfl); (rfl); (rfl); (rfl); (rfl))
      go_roundw
      case rel =>
        refine ⟨k + 1, by omega, by go_num, BB.out, R0.out, ?_⟩
        rw [hst.out, List.length_append, List.map_append]
        exact OO.out
      case measure => simp [intOf]; omega
    · obtain rfl : k = n := by omega
      have hT : xss.take k = xss := List.take_of_length_le (by rw [HL.out]; exact Nat.le_refl _)
      rw [hT] at hown
      obtain ⟨A1, c1, rfl⟩ := own_form hown
      have hr : ∀ x ∈ xss.flatten, 0 ≤ x ∧ x ≤ 255 := by
        intro x hx
        obtain ⟨l, hl, hxl⟩ := List.mem_flatten.1 hx
        obtain ⟨j, hj, rfl⟩ := List.getElem_of_mem hl
        obtain ⟨_, _, _, _, _, _, _, _, hr⟩ := HX.out j _ (List.getElem?_eq_getElem hj)
        exact hr x hxl
      have hby := own_bytes hown
      have R0 := Lib.hid r0
      clear hown r0 hrows hT
      have HRR := Lib.hid hr
      have HBY := Lib.hid hby
      clear hr hby
      generalize hFL : xss.flatten = fl at *
      have HFL := Lib.hid hFL
      clear hFL
      obtain ⟨q, hq⟩ : ∃ q, fl.length = q := ⟨_, rfl⟩
      rw [hq]
      have HQ := Lib.hid hq
      have hs2 : q ≤ 70368744177 := by omega
      clear hq
      go_wp2_with fail
      refine (rsum_any A1 q c1 fl wr HQ.out hs2 HBY.out HRR.out).mono ?_
      rintro e w3 ⟨rfl, hb3⟩
      have hsz : Hid ((arrB 32 (sumL fl)).size = 32 ∧ (arrB 32 []).size = (arrB 32 (sumL fl)).size ∧ (arrB 32 (sumL fl)).all (·.oneCell') = true) :=
        Lib.hid ⟨arrB_size _ _ (by rw [sumL_len]; omega), by rw [arrB_size 32 (sumL fl) (by rw [sumL_len]; omega), arrB_size 32 [] (by simp)], arrB_one _ _⟩
      have Q0 : Hid (w3.heap[w.heap.size]? = some (.cells (arrB 32 []) 24 (0, 0))) := R0.out.below hb3 R0.out.lt
      have bl3 : Below w.heap.size w w3 := hbl.trans (hb3.mono hbl.size)
      clear hb3 R0
      generalize hE : arrB 32 (sumL fl) = cs at *
      have HE := Lib.hid hE
      clear hE
      generalize arrB 32 [] = zs at *
      go_wp2_with (first
        | ((with_reducible refine wpList_store_row (o := ⟨none, .store 24 _ _, _, _, _, _⟩) ?_ 24 (.tmp 2) (.tmp 18) ?_ w.heap.size cs ?_ ?_ 24 zs Q0.out (info26 cs hsz.out.1) hsz.out.2.1 hsz.out.2.2 ?_); (rfl); (rfl); (rfl); (rfl))
        | ((with_reducible refine bodyPost_ret (v := .agg cs) ?_ ?_ ?_); (exact results_cell_row (p := 2) (ty := 24) Tryd.results47 _ _ w.heap.size 24 cs (0, 0) _ rfl (setRow_heap _ _ zs cs 24 (0, 0) Q0.out) Tryd.underlying24 rfl (info26 cs hsz.out.1)); (rfl)))
      exact ⟨by rw [HFL.out, HE.out], below_setRow bl3 (Nat.le_refl _) _⟩
end Go.Proofs.YtbmiecogjmbciaaDoor

namespace Go.Proofs.YtbmiecogjmbciaaDoor
set_option maxRecDepth 8000
open Go.RowKit

set_option maxRecDepth 20000 in
set_option maxHeartbeats 4000000 in
theorem rmjoin_any (a b : Tot) (w : World) (ha : okT a) (hb : okT b) :
    Calls Tryd.prog 21 #[totV a, totV b] w fun e w' => e = .returned (totV (joinT a b)) ∧ Below w.heap.size w w' := by
  have HA : Hid (len32 a) := ha.len
  have HB : Hid (len32 b) := hb.len
  have HBA := Lib.hid (partT_byte ha)
  have HBB := Lib.hid (partT_byte hb)
  have HJ : Hid (okT (joinT a b)) := join_ok
  have HADD : Hid (∀ u, EnvX w u [] → Calls Tryd.prog 42 #[.agg (wcs a.w), .agg (wcs b.w)] u fun e w' => e = .returned (.tuple #[.agg (wcs ((a.w + b.w) % Big)), .bool (decide (a.w + b.w < Big))]) ∧ Below u.heap.size u w') := fun u _ => radd_any a.w b.w u (by have := ha.2.1; exact this) (by have := hb.2.1; exact this)
  have HHA : Hid (∀ u, EnvX w u [] → Calls Tryd.prog 48 #[totV a] u fun e w' => (∃ v, e = .returned v ∧ w'.ownsRow u.heap.size 5 1 v 68 ((partT a).map u8v)) ∧ Below u.heap.size u w') := fun u _ => by have h := rmhalf_any a u ha; unfold OwnB at h; rwa [partT_len ha.len] at h
  have HHB : Hid (∀ u, EnvX w u [] → Calls Tryd.prog 48 #[totV b] u fun e w' => (∃ v, e = .returned v ∧ w'.ownsRow u.heap.size 5 1 v 68 ((partT b).map u8v)) ∧ Below u.heap.size u w') := fun u _ => by have h := rmhalf_any b u hb; unfold OwnB at h; rwa [partT_len hb.len] at h
  have HOF : Hid (∀ u g, EnvX w u [] → Parts u u.heap.size (some ⟨g, 0, none⟩) [[3], partT a, partT b] → Calls Tryd.prog 47 #[.slice (some ⟨g, 0, none⟩) 3 3] u fun e w' => e = .returned (idv (joinT a b).h) ∧ Below u.heap.size u w') := fun u g hE hP => by
    have h := rsof_any (some ⟨g, 0, none⟩) 3 3 [[3], partT a, partT b] u rfl hP (by omega) (by simp [partT_len ha.len, partT_len hb.len])
    have e : ([[3], partT a, partT b] : List (List Int)).flatten = 3 :: (partT a ++ partT b) := by simp
    rw [e] at h
    exact h
  have HLE : Hid (w.heap.size ≤ w.heap.size + 1 + 1) := by show _ ≤ _; omega
  have E1 : Hid (EnvX w (((w.alloc (.cells (totA a) 29)).alloc (.cells (totA b) 29)).alloc (.cells (totA zTot) 29)) [(w.heap.size + 1 + 1, Obj.cells (totA zTot) 29 (0, 0)), (w.heap.size + 1, Obj.cells (totA b) 29 (0, 0)), (w.heap.size, Obj.cells (totA a) 29 (0, 0))]) := EnvX.three _ _ _
  clear ha hb
  unfold totV
  go_enter Tryd.func21, Tryd.ntmps21
  go_upto_region 1 with (fail)
  rw [zero_totA]
  generalize ((w.alloc (.cells (totA a) 29)).alloc (.cells (totA b) 29)).alloc (.cells (totA zTot) 29) = W at *
  refine wp_region_Hx (w0 := w) [0, 1, 2, 3, 4, 5, 6, 7, 8, 9, 10] [(w.heap.size + 1 + 1, Obj.cells (totA zTot) 29 (0, 0)), (w.heap.size + 1, Obj.cells (totA b) 29 (0, 0)), (w.heap.size, Obj.cells (totA a) 29 (0, 0))] rfl E1.out ?_
  refine lexH_phase [0, 1, 2, 3, 4, 5, 6, 7] [8, 9, 10] ?_
  have hw1 : EnvX w _ [(w.heap.size + 1 + 1, Obj.cells (totA zTot) 29 (0, 0)), (w.heap.size + 1, Obj.cells (totA b) 29 (0, 0)), (w.heap.size, Obj.cells (totA a) 29 (0, 0))] := E1.out
  have hone := @EnvC.one _ _ _ hw1
  (refine wpG_op rfl rfl rfl ?_; intro K hK; go_big_quiet_op; go_big_quiet_on)
  (refine wpG_val (v := .agg (wcs a.w)) rfl rfl (fun u hu => load_any_op u (box_totW hu (List.Mem.tail _ (List.Mem.tail _ (List.Mem.head _))) HA.out) rfl) ?_ hw1; intro K hK; go_big_quiet_op; go_big_quiet_on)
  (refine wpG_op rfl rfl rfl ?_; intro K hK; go_big_quiet_op; go_big_quiet_on)
  (refine wpG_val (v := .agg (wcs b.w)) rfl rfl (fun u hu => load_any_op u (box_totW hu (List.Mem.tail _ (List.Mem.head _)) HB.out) rfl) ?_ hw1; intro K hK; go_big_quiet_op; go_big_quiet_on)
  (refine wpG_call (f := 42) (args := #[.agg (wcs a.w), .agg (wcs b.w)]) (v := .tuple #[.agg (wcs ((a.w + b.w) % Big)), .bool (decide (a.w + b.w < Big))]) rfl rfl rfl Tryd.func42 rfl rfl (fun u hu => HADD.out u (EnvX.sub hu (fun _ h => by cases h))) ?_ hw1; intro K hK; go_big_quiet_op; go_big_quiet_on)
  (refine wpG_op rfl rfl rfl ?_; intro K hK; go_big_quiet_op; go_big_quiet_on)
  (refine wpG_op rfl rfl rfl ?_; intro K hK; go_big_quiet_op; go_big_quiet_on)
  (refine wpG_op rfl rfl rfl ?_; intro K hK; go_big_quiet_op; go_big_quiet_on)
  clear hone hw1
  refine wpG_nil ?_
  refine (hOp_fresh (R := fun x N => ∃ g, x = .pointer (some ⟨g, 0, none⟩) ∧ N = [(g, Obj.cells (wcs 0) 27 (0, 0))]) (M0 := [(w.heap.size + 1 + 1, Obj.cells (totA zTot) 29 (0, 0)), (w.heap.size + 1, Obj.cells (totA b) 29 (0, 0)), (w.heap.size, Obj.cells (totA a) 29 (0, 0))]) rfl rfl (fun _ h => h) (fun u hu => FAt_new (new_wd _) u) ?_)
  rintro _ _ ⟨g5, rfl, rfl⟩ hf he2; intro K' hK'; go_big_quiet_op; go_big_quiet_on
  have HG5 := Lib.hid (hf _ (List.mem_singleton.2 rfl))
  clear hf
  change lexH _ _ _ _ _ _ [(g5, Obj.cells (wcs 0) 27 (0, 0)), (w.heap.size + 1 + 1, Obj.cells (totA zTot) 29 (0, 0)), (w.heap.size + 1, Obj.cells (totA b) 29 (0, 0)), (w.heap.size, Obj.cells (totA a) 29 (0, 0))]
  refine (hOp_store rfl (g5) (wcs ((a.w + b.w) % Big)) rfl rfl HG5.out.1 27 ((wcs 0)) (List.Mem.head _) (wc_info _) ((wc_size _).trans (wc_size _).symm) (wc_one _) [(g5, Obj.cells (wcs ((a.w + b.w) % Big)) 27 (0, 0)), (w.heap.size + 1 + 1, Obj.cells (totA zTot) 29 (0, 0)), (w.heap.size + 1, Obj.cells (totA b) 29 (0, 0)), (w.heap.size, Obj.cells (totA a) 29 (0, 0))] (List.forall_mem_cons.2 ⟨.inl rfl, fun y hy => .inr ⟨List.mem_cons_of_mem _ hy, HG5.out.2 y hy⟩⟩) ?_)
  intro he3
  refine lexH_phase [10] [] ?_
  have hw4 : EnvX w _ [(g5, Obj.cells (wcs ((a.w + b.w) % Big)) 27 (0, 0)), (w.heap.size + 1 + 1, Obj.cells (totA zTot) 29 (0, 0)), (w.heap.size + 1, Obj.cells (totA b) 29 (0, 0)), (w.heap.size, Obj.cells (totA a) 29 (0, 0))] := he3.choose_spec
  have hone := @EnvC.one _ _ _ hw4
  (refine wpG_op rfl rfl rfl ?_; intro K hK; go_big_quiet_op; go_big_quiet_on)
  clear hone hw4
  refine wpG_nil ?_
  intro u6 E2'
  have EX5 := Lib.hid E2'
  clear E2'
  go_upto_region 2 with (fail)
  refine wp_region_H (w0 := w) [(g5, Obj.cells (wcs ((a.w + b.w) % Big)) 27 (0, 0)), (w.heap.size + 1 + 1, Obj.cells (totA zTot) 29 (0, 0)), (w.heap.size + 1, Obj.cells (totA b) 29 (0, 0)), (w.heap.size, Obj.cells (totA a) 29 (0, 0))] (by kernel_rfl) EX5.out ?_
  refine anyH_phase [1, 3, 7, 8, 9, 10, 11, 12] 7 rfl ⟨_, (EnvX.drew EX5.out)⟩ (by kernel_rfl) ?_
  have hw7 : EnvX w _ [(g5, Obj.cells (wcs ((a.w + b.w) % Big)) 27 (0, 0)), (w.heap.size + 1 + 1, Obj.cells (totA zTot) 29 (0, 0)), (w.heap.size + 1, Obj.cells (totA b) 29 (0, 0)), (w.heap.size, Obj.cells (totA a) 29 (0, 0))] := (EnvX.drew EX5.out)
  have hone := @EnvC.one _ _ _ hw7
  (refine wpG_val (v := .agg (totA a)) rfl rfl (fun u hu => load_any_op u (box_tot hu (List.Mem.tail _ (List.Mem.tail _ (List.Mem.tail _ (List.Mem.head _)))) HA.out) rfl) ?_ hw7; intro K hK; go_big_quiet_op; go_big_quiet_on)
  (refine wpG_val (v := .agg (totA b)) rfl rfl (fun u hu => load_any_op u (box_tot hu (List.Mem.tail _ (List.Mem.tail _ (List.Mem.head _))) HB.out) rfl) ?_ hw7; intro K hK; go_big_quiet_op; go_big_quiet_on)
  (refine wpG_val (v := .agg (wcs ((a.w + b.w) % Big))) rfl rfl (fun u hu => load_any_op u (box_wide hu (List.Mem.head _)) rfl) ?_ hw7; intro K hK; go_big_quiet_op; go_big_quiet_on)
  (refine wpG_op rfl rfl rfl ?_; intro K hK; go_big_quiet_op; go_big_quiet_on)
  (refine wpG_val (v := .int .i64 a.n) rfl rfl (fun u hu => load_any_op u (box_totN hu (List.Mem.tail _ (List.Mem.tail _ (List.Mem.tail _ (List.Mem.head _)))) HA.out) rfl) ?_ hw7; intro K hK; go_big_quiet_op; go_big_quiet_on)
  (refine wpG_op rfl rfl rfl ?_; intro K hK; go_big_quiet_op; go_big_quiet_on)
  (refine wpG_val (v := .int .i64 b.n) rfl rfl (fun u hu => load_any_op u (box_totN hu (List.Mem.tail _ (List.Mem.tail _ (List.Mem.head _))) HB.out) rfl) ?_ hw7; intro K hK; go_big_quiet_op; go_big_quiet_on)
  (refine wpG_val (v := .int .i64 (IntKind.i64.wrap (a.n + b.n))) rfl rfl (fun u hu => addW_op u rfl rfl) ?_ hw7; intro K hK; go_big_quiet_op; go_big_quiet_on)
  clear hone hw7
  refine wpG_nil ?_
  refine anyH_two (i := 0) (j := 2) (by kernel_rfl) ?_ ?_
  · skip
    refine (hOp_fresh (R := fun v N => ∃ g, v = .slice (some ⟨g, 0, none⟩) 1 1 ∧ N = [(g, Obj.cells #[.int .u8 3] 5 (0, 0))]) (M0 := [(g5, Obj.cells (wcs ((a.w + b.w) % Big)) 27 (0, 0)), (w.heap.size + 1 + 1, Obj.cells (totA zTot) 29 (0, 0)), (w.heap.size + 1, Obj.cells (totA b) 29 (0, 0)), (w.heap.size, Obj.cells (totA a) 29 (0, 0))]) rfl rfl (fun _ h => h) (fun u hu => FAt_byte1 3 u) ?_)
    rintro _ _ ⟨gt, rfl, rfl⟩ hf he8; intro K' hK'; go_big_quiet_op; go_big_quiet_on
    clear hf
    change anyH _ _ _ _ _ _ _ _ [(gt, Obj.cells #[.int .u8 3] 5 (0, 0)), (g5, Obj.cells (wcs ((a.w + b.w) % Big)) 27 (0, 0)), (w.heap.size + 1 + 1, Obj.cells (totA zTot) 29 (0, 0)), (w.heap.size + 1, Obj.cells (totA b) 29 (0, 0)), (w.heap.size, Obj.cells (totA a) 29 (0, 0))]
    refine anyH_one (i := 2) (by kernel_rfl) (hOp_fresh (R := FreshR 5 1 68 ((partT a).map u8v)) (M0 := [(gt, Obj.cells #[.int .u8 3] 5 (0, 0)), (g5, Obj.cells (wcs ((a.w + b.w) % Big)) 27 (0, 0)), (w.heap.size + 1 + 1, Obj.cells (totA zTot) 29 (0, 0)), (w.heap.size + 1, Obj.cells (totA b) 29 (0, 0)), (w.heap.size, Obj.cells (totA a) 29 (0, 0))]) rfl rfl (fun _ h => h) (fun u hu => FAt_call (fid := 48) (xs := #[.tmp 16]) (args := #[.agg (totA a)]) rfl Tryd.func48 rfl rfl u (callsR_fresh (HHA.out u (EnvX.sub hu (fun _ h => by cases h))))) ?_)
    rintro x N hF hf he9; intro K' hK'; go_big_quiet_op; go_big_quiet_on
    obtain ⟨ga, capga, curga, rfl, rfl, hcga⟩ | ⟨_, _, h0, _⟩ := hF
    case inr => cases h0
    have HCga := Lib.hid hcga
    clear hcga
    clear hf
    change anyH _ _ _ _ _ _ _ _ [(ga, Obj.cells curga 5 (0, 0)), (gt, Obj.cells #[.int .u8 3] 5 (0, 0)), (g5, Obj.cells (wcs ((a.w + b.w) % Big)) 27 (0, 0)), (w.heap.size + 1 + 1, Obj.cells (totA zTot) 29 (0, 0)), (w.heap.size + 1, Obj.cells (totA b) 29 (0, 0)), (w.heap.size, Obj.cells (totA a) 29 (0, 0))]
    refine anyH_one (i := 4) (by kernel_rfl) (hOp_fresh (R := FreshR 5 1 68 ((partT b).map u8v)) (M0 := [(ga, Obj.cells curga 5 (0, 0)), (gt, Obj.cells #[.int .u8 3] 5 (0, 0)), (g5, Obj.cells (wcs ((a.w + b.w) % Big)) 27 (0, 0)), (w.heap.size + 1 + 1, Obj.cells (totA zTot) 29 (0, 0)), (w.heap.size + 1, Obj.cells (totA b) 29 (0, 0)), (w.heap.size, Obj.cells (totA a) 29 (0, 0))]) rfl rfl (fun _ h => h) (fun u hu => FAt_call (fid := 48) (xs := #[.tmp 18]) (args := #[.agg (totA b)]) rfl Tryd.func48 rfl rfl u (callsR_fresh (HHB.out u (EnvX.sub hu (fun _ h => by cases h))))) ?_)
    rintro x N hF hf he10; intro K' hK'; go_big_quiet_op; go_big_quiet_on
    obtain ⟨gb, capgb, curgb, rfl, rfl, hcgb⟩ | ⟨_, _, h0, _⟩ := hF
    case inr => cases h0
    have HCgb := Lib.hid hcgb
    clear hcgb
    clear hf
    change anyH _ _ _ _ _ _ _ _ [(gb, Obj.cells curgb 5 (0, 0)), (ga, Obj.cells curga 5 (0, 0)), (gt, Obj.cells #[.int .u8 3] 5 (0, 0)), (g5, Obj.cells (wcs ((a.w + b.w) % Big)) 27 (0, 0)), (w.heap.size + 1 + 1, Obj.cells (totA zTot) 29 (0, 0)), (w.heap.size + 1, Obj.cells (totA b) 29 (0, 0)), (w.heap.size, Obj.cells (totA a) 29 (0, 0))]
    refine anyH_one (i := 5) (by kernel_rfl) (hOp_fresh (R := fun v N => ∃ g, v = .slice (some ⟨g, 0, none⟩) 3 3 ∧ N = [(g, Obj.cells #[.slice (some ⟨gt, 0, none⟩) 1 1, .slice (some ⟨ga, 0, none⟩) 68 capga, .slice (some ⟨gb, 0, none⟩) 68 capgb] 72 (0, 0))]) (M0 := [(gb, Obj.cells curgb 5 (0, 0)), (ga, Obj.cells curga 5 (0, 0)), (gt, Obj.cells #[.int .u8 3] 5 (0, 0)), (g5, Obj.cells (wcs ((a.w + b.w) % Big)) 27 (0, 0)), (w.heap.size + 1 + 1, Obj.cells (totA zTot) 29 (0, 0)), (w.heap.size + 1, Obj.cells (totA b) 29 (0, 0)), (w.heap.size, Obj.cells (totA a) 29 (0, 0))]) rfl rfl (fun _ h => h) (fun u hu => FAt_rows3 rfl rfl rfl u) ?_)
    rintro _ _ ⟨gr, rfl, rfl⟩ hf he11; intro K' hK'; go_big_quiet_op; go_big_quiet_on
    clear hf
    change anyH _ _ _ _ _ _ _ _ [(gr, Obj.cells #[.slice (some ⟨gt, 0, none⟩) 1 1, .slice (some ⟨ga, 0, none⟩) 68 capga, .slice (some ⟨gb, 0, none⟩) 68 capgb] 72 (0, 0)), (gb, Obj.cells curgb 5 (0, 0)), (ga, Obj.cells curga 5 (0, 0)), (gt, Obj.cells #[.int .u8 3] 5 (0, 0)), (g5, Obj.cells (wcs ((a.w + b.w) % Big)) 27 (0, 0)), (w.heap.size + 1 + 1, Obj.cells (totA zTot) 29 (0, 0)), (w.heap.size + 1, Obj.cells (totA b) 29 (0, 0)), (w.heap.size, Obj.cells (totA a) 29 (0, 0))]
    refine anyH_phase [6, 13] 1 rfl ⟨_, he11.choose_spec⟩ (by kernel_rfl) ?_
    have hw12 : EnvX w _ [(gr, Obj.cells #[.slice (some ⟨gt, 0, none⟩) 1 1, .slice (some ⟨ga, 0, none⟩) 68 capga, .slice (some ⟨gb, 0, none⟩) 68 capgb] 72 (0, 0)), (gb, Obj.cells curgb 5 (0, 0)), (ga, Obj.cells curga 5 (0, 0)), (gt, Obj.cells #[.int .u8 3] 5 (0, 0)), (g5, Obj.cells (wcs ((a.w + b.w) % Big)) 27 (0, 0)), (w.heap.size + 1 + 1, Obj.cells (totA zTot) 29 (0, 0)), (w.heap.size + 1, Obj.cells (totA b) 29 (0, 0)), (w.heap.size, Obj.cells (totA a) 29 (0, 0))] := he11.choose_spec
    have hone := @EnvC.one _ _ _ hw12
    (refine wpG_call (f := 47) (args := #[.slice (some ⟨gr, 0, none⟩) 3 3]) (v := idv (joinT a b).h) rfl rfl rfl Tryd.func47 rfl rfl (fun u hu => HOF.out u gr (EnvX.sub hu (fun _ h => by cases h)) (parts_three (EnvX.lt hu (List.Mem.head _)) (by have h := box_cell (k := 0) hu (List.Mem.head _) rfl; exact h) (boxR_bytes (cap := 1) hu (List.Mem.tail _ (List.Mem.tail _ (List.Mem.tail _ (List.Mem.head _)))) rfl ⟨by decide, by decide, rfl, rfl⟩) (by intro x hx; cases List.mem_singleton.1 hx; omega) (by rw [partT_len HA.out]; have h := box_cell (k := 1) hu (List.Mem.head _) rfl; exact h) (boxR_bytes hu (List.Mem.tail _ (List.Mem.tail _ (List.Mem.head _))) (partT_len HA.out) HCga.out) HBA.out (by rw [partT_len HB.out]; have h := box_cell (k := 2) hu (List.Mem.head _) rfl; exact h) (boxR_bytes hu (List.Mem.tail _ (List.Mem.head _)) (partT_len HB.out) HCgb.out) HBB.out)) ?_ hw12; intro K hK; go_big_quiet_op; go_big_quiet_on)
    (refine wpG_val (v := .agg (totA (joinT a b))) rfl rfl (fun u hu => buildA_op u (built_tot (h := (joinT a b).h) HJ.out.len)) ?_ hw12; intro K hK; go_big_quiet_op; go_big_quiet_on)
    clear hone hw12
    refine wpG_nil ?_
    refine anyH_one (i := 14) (by kernel_rfl) (hOp_store rfl (w.heap.size + 1 + 1) (totA (joinT a b)) rfl rfl HLE.out 29 ((totA zTot)) (List.Mem.tail _ (List.Mem.tail _ (List.Mem.tail _ (List.Mem.tail _ (List.Mem.tail _ (List.Mem.head _)))))) (infoTot _ (totA_size HJ.out.len)) ((by decide +kernel : (totA zTot).size = 37).trans (totA_size HJ.out.len).symm) (totA_one _) [(w.heap.size + 1 + 1, Obj.cells (totA (joinT a b)) 29 (0, 0))] (List.forall_mem_cons.2 ⟨.inl rfl, (fun _ h => by cases h)⟩) ?_)
    intro he13
    refine anyH_done (by kernel_rfl) ?_
    intro u15 E2'
    have EX14 := Lib.hid E2'
    clear E2'
    have Q0 := Lib.hid (EnvX.box EX14.out _ _ (List.Mem.head _))
    have HBEL := Lib.hid EX14.out.bel
    clear EX14
    go_wp2_with ((with_reducible refine bodyPost_ret (v := .agg (totA (joinT a b))) ?_ ?_ ?_); (exact results_cell_row (p := 4) (ty := 29) Tryd.results21 _ _ (w.heap.size + 1 + 1) 29 (totA (joinT a b)) (0, 0) _ rfl Q0.out Tryd.underlying29 rfl (infoTot _ (totA_size HJ.out.len))); (rfl))
    exact HBEL.out
  · skip
    refine (hOp_fresh (R := FreshR 5 1 68 ((partT a).map u8v)) (M0 := [(g5, Obj.cells (wcs ((a.w + b.w) % Big)) 27 (0, 0)), (w.heap.size + 1 + 1, Obj.cells (totA zTot) 29 (0, 0)), (w.heap.size + 1, Obj.cells (totA b) 29 (0, 0)), (w.heap.size, Obj.cells (totA a) 29 (0, 0))]) rfl rfl (fun _ h => h) (fun u hu => FAt_call (fid := 48) (xs := #[.tmp 16]) (args := #[.agg (totA a)]) rfl Tryd.func48 rfl rfl u (callsR_fresh (HHA.out u (EnvX.sub hu (fun _ h => by cases h))))) ?_)
    rintro x N hF hf he16; intro K' hK'; go_big_quiet_op; go_big_quiet_on
    obtain ⟨ga, capga, curga, rfl, rfl, hcga⟩ | ⟨_, _, h0, _⟩ := hF
    case inr => cases h0
    have HCga := Lib.hid hcga
    clear hcga
    clear hf
    change anyH _ _ _ _ _ _ _ _ [(ga, Obj.cells curga 5 (0, 0)), (g5, Obj.cells (wcs ((a.w + b.w) % Big)) 27 (0, 0)), (w.heap.size + 1 + 1, Obj.cells (totA zTot) 29 (0, 0)), (w.heap.size + 1, Obj.cells (totA b) 29 (0, 0)), (w.heap.size, Obj.cells (totA a) 29 (0, 0))]
    refine anyH_two (i := 0) (j := 4) (by kernel_rfl) ?_ ?_
    · skip
      refine (hOp_fresh (R := fun v N => ∃ g, v = .slice (some ⟨g, 0, none⟩) 1 1 ∧ N = [(g, Obj.cells #[.int .u8 3] 5 (0, 0))]) (M0 := [(ga, Obj.cells curga 5 (0, 0)), (g5, Obj.cells (wcs ((a.w + b.w) % Big)) 27 (0, 0)), (w.heap.size + 1 + 1, Obj.cells (totA zTot) 29 (0, 0)), (w.heap.size + 1, Obj.cells (totA b) 29 (0, 0)), (w.heap.size, Obj.cells (totA a) 29 (0, 0))]) rfl rfl (fun _ h => h) (fun u hu => FAt_byte1 3 u) ?_)
      rintro _ _ ⟨gt, rfl, rfl⟩ hf he17; intro K' hK'; go_big_quiet_op; go_big_quiet_on
      clear hf
      change anyH _ _ _ _ _ _ _ _ [(gt, Obj.cells #[.int .u8 3] 5 (0, 0)), (ga, Obj.cells curga 5 (0, 0)), (g5, Obj.cells (wcs ((a.w + b.w) % Big)) 27 (0, 0)), (w.heap.size + 1 + 1, Obj.cells (totA zTot) 29 (0, 0)), (w.heap.size + 1, Obj.cells (totA b) 29 (0, 0)), (w.heap.size, Obj.cells (totA a) 29 (0, 0))]
      refine anyH_one (i := 4) (by kernel_rfl) (hOp_fresh (R := FreshR 5 1 68 ((partT b).map u8v)) (M0 := [(gt, Obj.cells #[.int .u8 3] 5 (0, 0)), (ga, Obj.cells curga 5 (0, 0)), (g5, Obj.cells (wcs ((a.w + b.w) % Big)) 27 (0, 0)), (w.heap.size + 1 + 1, Obj.cells (totA zTot) 29 (0, 0)), (w.heap.size + 1, Obj.cells (totA b) 29 (0, 0)), (w.heap.size, Obj.cells (totA a) 29 (0, 0))]) rfl rfl (fun _ h => h) (fun u hu => FAt_call (fid := 48) (xs := #[.tmp 18]) (args := #[.agg (totA b)]) rfl Tryd.func48 rfl rfl u (callsR_fresh (HHB.out u (EnvX.sub hu (fun _ h => by cases h))))) ?_)
      rintro x N hF hf he18; intro K' hK'; go_big_quiet_op; go_big_quiet_on
      obtain ⟨gb, capgb, curgb, rfl, rfl, hcgb⟩ | ⟨_, _, h0, _⟩ := hF
      case inr => cases h0
      have HCgb := Lib.hid hcgb
      clear hcgb
      clear hf
      change anyH _ _ _ _ _ _ _ _ [(gb, Obj.cells curgb 5 (0, 0)), (gt, Obj.cells #[.int .u8 3] 5 (0, 0)), (ga, Obj.cells curga 5 (0, 0)), (g5, Obj.cells (wcs ((a.w + b.w) % Big)) 27 (0, 0)), (w.heap.size + 1 + 1, Obj.cells (totA zTot) 29 (0, 0)), (w.heap.size + 1, Obj.cells (totA b) 29 (0, 0)), (w.heap.size, Obj.cells (totA a) 29 (0, 0))]
      refine anyH_one (i := 5) (by kernel_rfl) (hOp_fresh (R := fun v N => ∃ g, v = .slice (some ⟨g, 0, none⟩) 3 3 ∧ N = [(g, Obj.cells #[.slice (some ⟨gt, 0, none⟩) 1 1, .slice (some ⟨ga, 0, none⟩) 68 capga, .slice (some ⟨gb, 0, none⟩) 68 capgb] 72 (0, 0))]) (M0 := [(gb, Obj.cells curgb 5 (0, 0)), (gt, Obj.cells #[.int .u8 3] 5 (0, 0)), (ga, Obj.cells curga 5 (0, 0)), (g5, Obj.cells (wcs ((a.w + b.w) % Big)) 27 (0, 0)), (w.heap.size + 1 + 1, Obj.cells (totA zTot) 29 (0, 0)), (w.heap.size + 1, Obj.cells (totA b) 29 (0, 0)), (w.heap.size, Obj.cells (totA a) 29 (0, 0))]) rfl rfl (fun _ h => h) (fun u hu => FAt_rows3 rfl rfl rfl u) ?_)
      rintro _ _ ⟨gr, rfl, rfl⟩ hf he19; intro K' hK'; go_big_quiet_op; go_big_quiet_on
      clear hf
      change anyH _ _ _ _ _ _ _ _ [(gr, Obj.cells #[.slice (some ⟨gt, 0, none⟩) 1 1, .slice (some ⟨ga, 0, none⟩) 68 capga, .slice (some ⟨gb, 0, none⟩) 68 capgb] 72 (0, 0)), (gb, Obj.cells curgb 5 (0, 0)), (gt, Obj.cells #[.int .u8 3] 5 (0, 0)), (ga, Obj.cells curga 5 (0, 0)), (g5, Obj.cells (wcs ((a.w + b.w) % Big)) 27 (0, 0)), (w.heap.size + 1 + 1, Obj.cells (totA zTot) 29 (0, 0)), (w.heap.size + 1, Obj.cells (totA b) 29 (0, 0)), (w.heap.size, Obj.cells (totA a) 29 (0, 0))]
      refine anyH_phase [6, 13] 1 rfl ⟨_, he19.choose_spec⟩ (by kernel_rfl) ?_
      have hw20 : EnvX w _ [(gr, Obj.cells #[.slice (some ⟨gt, 0, none⟩) 1 1, .slice (some ⟨ga, 0, none⟩) 68 capga, .slice (some ⟨gb, 0, none⟩) 68 capgb] 72 (0, 0)), (gb, Obj.cells curgb 5 (0, 0)), (gt, Obj.cells #[.int .u8 3] 5 (0, 0)), (ga, Obj.cells curga 5 (0, 0)), (g5, Obj.cells (wcs ((a.w + b.w) % Big)) 27 (0, 0)), (w.heap.size + 1 + 1, Obj.cells (totA zTot) 29 (0, 0)), (w.heap.size + 1, Obj.cells (totA b) 29 (0, 0)), (w.heap.size, Obj.cells (totA a) 29 (0, 0))] := he19.choose_spec
      have hone := @EnvC.one _ _ _ hw20
      (refine wpG_call (f := 47) (args := #[.slice (some ⟨gr, 0, none⟩) 3 3]) (v := idv (joinT a b).h) rfl rfl rfl Tryd.func47 rfl rfl (fun u hu => HOF.out u gr (EnvX.sub hu (fun _ h => by cases h)) (parts_three (EnvX.lt hu (List.Mem.head _)) (by have h := box_cell (k := 0) hu (List.Mem.head _) rfl; exact h) (boxR_bytes (cap := 1) hu (List.Mem.tail _ (List.Mem.tail _ (List.Mem.head _))) rfl ⟨by decide, by decide, rfl, rfl⟩) (by intro x hx; cases List.mem_singleton.1 hx; omega) (by rw [partT_len HA.out]; have h := box_cell (k := 1) hu (List.Mem.head _) rfl; exact h) (boxR_bytes hu (List.Mem.tail _ (List.Mem.tail _ (List.Mem.tail _ (List.Mem.head _)))) (partT_len HA.out) HCga.out) HBA.out (by rw [partT_len HB.out]; have h := box_cell (k := 2) hu (List.Mem.head _) rfl; exact h) (boxR_bytes hu (List.Mem.tail _ (List.Mem.head _)) (partT_len HB.out) HCgb.out) HBB.out)) ?_ hw20; intro K hK; go_big_quiet_op; go_big_quiet_on)
      (refine wpG_val (v := .agg (totA (joinT a b))) rfl rfl (fun u hu => buildA_op u (built_tot (h := (joinT a b).h) HJ.out.len)) ?_ hw20; intro K hK; go_big_quiet_op; go_big_quiet_on)
      clear hone hw20
      refine wpG_nil ?_
      refine anyH_one (i := 14) (by kernel_rfl) (hOp_store rfl (w.heap.size + 1 + 1) (totA (joinT a b)) rfl rfl HLE.out 29 ((totA zTot)) (List.Mem.tail _ (List.Mem.tail _ (List.Mem.tail _ (List.Mem.tail _ (List.Mem.tail _ (List.Mem.head _)))))) (infoTot _ (totA_size HJ.out.len)) ((by decide +kernel : (totA zTot).size = 37).trans (totA_size HJ.out.len).symm) (totA_one _) [(w.heap.size + 1 + 1, Obj.cells (totA (joinT a b)) 29 (0, 0))] (List.forall_mem_cons.2 ⟨.inl rfl, (fun _ h => by cases h)⟩) ?_)
      intro he21
      refine anyH_done (by kernel_rfl) ?_
      intro u23 E2'
      have EX22 := Lib.hid E2'
      clear E2'
      have Q0 := Lib.hid (EnvX.box EX22.out _ _ (List.Mem.head _))
      have HBEL := Lib.hid EX22.out.bel
      clear EX22
      go_wp2_with ((with_reducible refine bodyPost_ret (v := .agg (totA (joinT a b))) ?_ ?_ ?_); (exact results_cell_row (p := 4) (ty := 29) Tryd.results21 _ _ (w.heap.size + 1 + 1) 29 (totA (joinT a b)) (0, 0) _ rfl Q0.out Tryd.underlying29 rfl (infoTot _ (totA_size HJ.out.len))); (rfl))
      exact HBEL.out
    · skip
      refine (hOp_fresh (R := FreshR 5 1 68 ((partT b).map u8v)) (M0 := [(ga, Obj.cells curga 5 (0, 0)), (g5, Obj.cells (wcs ((a.w + b.w) % Big)) 27 (0, 0)), (w.heap.size + 1 + 1, Obj.cells (totA zTot) 29 (0, 0)), (w.heap.size + 1, Obj.cells (totA b) 29 (0, 0)), (w.heap.size, Obj.cells (totA a) 29 (0, 0))]) rfl rfl (fun _ h => h) (fun u hu => FAt_call (fid := 48) (xs := #[.tmp 18]) (args := #[.agg (totA b)]) rfl Tryd.func48 rfl rfl u (callsR_fresh (HHB.out u (EnvX.sub hu (fun _ h => by cases h))))) ?_)
      rintro x N hF hf he24; intro K' hK'; go_big_quiet_op; go_big_quiet_on
      obtain ⟨gb, capgb, curgb, rfl, rfl, hcgb⟩ | ⟨_, _, h0, _⟩ := hF
      case inr => cases h0
      have HCgb := Lib.hid hcgb
      clear hcgb
      clear hf
      change anyH _ _ _ _ _ _ _ _ [(gb, Obj.cells curgb 5 (0, 0)), (ga, Obj.cells curga 5 (0, 0)), (g5, Obj.cells (wcs ((a.w + b.w) % Big)) 27 (0, 0)), (w.heap.size + 1 + 1, Obj.cells (totA zTot) 29 (0, 0)), (w.heap.size + 1, Obj.cells (totA b) 29 (0, 0)), (w.heap.size, Obj.cells (totA a) 29 (0, 0))]
      refine anyH_one (i := 0) (by kernel_rfl) (hOp_fresh (R := fun v N => ∃ g, v = .slice (some ⟨g, 0, none⟩) 1 1 ∧ N = [(g, Obj.cells #[.int .u8 3] 5 (0, 0))]) (M0 := [(gb, Obj.cells curgb 5 (0, 0)), (ga, Obj.cells curga 5 (0, 0)), (g5, Obj.cells (wcs ((a.w + b.w) % Big)) 27 (0, 0)), (w.heap.size + 1 + 1, Obj.cells (totA zTot) 29 (0, 0)), (w.heap.size + 1, Obj.cells (totA b) 29 (0, 0)), (w.heap.size, Obj.cells (totA a) 29 (0, 0))]) rfl rfl (fun _ h => h) (fun u hu => FAt_byte1 3 u) ?_)
      rintro _ _ ⟨gt, rfl, rfl⟩ hf he25; intro K' hK'; go_big_quiet_op; go_big_quiet_on
      clear hf
      change anyH _ _ _ _ _ _ _ _ [(gt, Obj.cells #[.int .u8 3] 5 (0, 0)), (gb, Obj.cells curgb 5 (0, 0)), (ga, Obj.cells curga 5 (0, 0)), (g5, Obj.cells (wcs ((a.w + b.w) % Big)) 27 (0, 0)), (w.heap.size + 1 + 1, Obj.cells (totA zTot) 29 (0, 0)), (w.heap.size + 1, Obj.cells (totA b) 29 (0, 0)), (w.heap.size, Obj.cells (totA a) 29 (0, 0))]
      refine anyH_one (i := 5) (by kernel_rfl) (hOp_fresh (R := fun v N => ∃ g, v = .slice (some ⟨g, 0, none⟩) 3 3 ∧ N = [(g, Obj.cells #[.slice (some ⟨gt, 0, none⟩) 1 1, .slice (some ⟨ga, 0, none⟩) 68 capga, .slice (some ⟨gb, 0, none⟩) 68 capgb] 72 (0, 0))]) (M0 := [(gt, Obj.cells #[.int .u8 3] 5 (0, 0)), (gb, Obj.cells curgb 5 (0, 0)), (ga, Obj.cells curga 5 (0, 0)), (g5, Obj.cells (wcs ((a.w + b.w) % Big)) 27 (0, 0)), (w.heap.size + 1 + 1, Obj.cells (totA zTot) 29 (0, 0)), (w.heap.size + 1, Obj.cells (totA b) 29 (0, 0)), (w.heap.size, Obj.cells (totA a) 29 (0, 0))]) rfl rfl (fun _ h => h) (fun u hu => FAt_rows3 rfl rfl rfl u) ?_)
      rintro _ _ ⟨gr, rfl, rfl⟩ hf he26; intro K' hK'; go_big_quiet_op; go_big_quiet_on
      clear hf
      change anyH _ _ _ _ _ _ _ _ [(gr, Obj.cells #[.slice (some ⟨gt, 0, none⟩) 1 1, .slice (some ⟨ga, 0, none⟩) 68 capga, .slice (some ⟨gb, 0, none⟩) 68 capgb] 72 (0, 0)), (gt, Obj.cells #[.int .u8 3] 5 (0, 0)), (gb, Obj.cells curgb 5 (0, 0)), (ga, Obj.cells curga 5 (0, 0)), (g5, Obj.cells (wcs ((a.w + b.w) % Big)) 27 (0, 0)), (w.heap.size + 1 + 1, Obj.cells (totA zTot) 29 (0, 0)), (w.heap.size + 1, Obj.cells (totA b) 29 (0, 0)), (w.heap.size, Obj.cells (totA a) 29 (0, 0))]
      refine anyH_phase [6, 13] 1 rfl ⟨_, he26.choose_spec⟩ (by kernel_rfl) ?_
      have hw27 : EnvX w _ [(gr, Obj.cells #[.slice (some ⟨gt, 0, none⟩) 1 1, .slice (some ⟨ga, 0, none⟩) 68 capga, .slice (some ⟨gb, 0, none⟩) 68 capgb] 72 (0, 0)), (gt, Obj.cells #[.int .u8 3] 5 (0, 0)), (gb, Obj.cells curgb 5 (0, 0)), (ga, Obj.cells curga 5 (0, 0)), (g5, Obj.cells (wcs ((a.w + b.w) % Big)) 27 (0, 0)), (w.heap.size + 1 + 1, Obj.cells (totA zTot) 29 (0, 0)), (w.heap.size + 1, Obj.cells (totA b) 29 (0, 0)), (w.heap.size, Obj.cells (totA a) 29 (0, 0))] := he26.choose_spec
      have hone := @EnvC.one _ _ _ hw27
      (refine wpG_call (f := 47) (args := #[.slice (some ⟨gr, 0, none⟩) 3 3]) (v := idv (joinT a b).h) rfl rfl rfl Tryd.func47 rfl rfl (fun u hu => HOF.out u gr (EnvX.sub hu (fun _ h => by cases h)) (parts_three (EnvX.lt hu (List.Mem.head _)) (by have h := box_cell (k := 0) hu (List.Mem.head _) rfl; exact h) (boxR_bytes (cap := 1) hu (List.Mem.tail _ (List.Mem.head _)) rfl ⟨by decide, by decide, rfl, rfl⟩) (by intro x hx; cases List.mem_singleton.1 hx; omega) (by rw [partT_len HA.out]; have h := box_cell (k := 1) hu (List.Mem.head _) rfl; exact h) (boxR_bytes hu (List.Mem.tail _ (List.Mem.tail _ (List.Mem.tail _ (List.Mem.head _)))) (partT_len HA.out) HCga.out) HBA.out (by rw [partT_len HB.out]; have h := box_cell (k := 2) hu (List.Mem.head _) rfl; exact h) (boxR_bytes hu (List.Mem.tail _ (List.Mem.tail _ (List.Mem.head _))) (partT_len HB.out) HCgb.out) HBB.out)) ?_ hw27; intro K hK; go_big_quiet_op; go_big_quiet_on)
      (refine wpG_val (v := .agg (totA (joinT a b))) rfl rfl (fun u hu => buildA_op u (built_tot (h := (joinT a b).h) HJ.out.len)) ?_ hw27; intro K hK; go_big_quiet_op; go_big_quiet_on)
      clear hone hw27
      refine wpG_nil ?_
      refine anyH_one (i := 14) (by kernel_rfl) (hOp_store rfl (w.heap.size + 1 + 1) (totA (joinT a b)) rfl rfl HLE.out 29 ((totA zTot)) (List.Mem.tail _ (List.Mem.tail _ (List.Mem.tail _ (List.Mem.tail _ (List.Mem.tail _ (List.Mem.head _)))))) (infoTot _ (totA_size HJ.out.len)) ((by decide +kernel : (totA zTot).size = 37).trans (totA_size HJ.out.len).symm) (totA_one _) [(w.heap.size + 1 + 1, Obj.cells (totA (joinT a b)) 29 (0, 0))] (List.forall_mem_cons.2 ⟨.inl rfl, (fun _ h => by cases h)⟩) ?_)
      intro he28
      refine anyH_done (by kernel_rfl) ?_
      intro u30 E2'
      have EX29 := Lib.hid E2'
      clear E2'
      have Q0 := Lib.hid (EnvX.box EX29.out _ _ (List.Mem.head _))
      have HBEL := Lib.hid EX29.out.bel
      clear EX29
      go_wp2_with ((with_reducible refine bodyPost_ret (v := .agg (totA (joinT a b))) ?_ ?_ ?_); (exact results_cell_row (p := 4) (ty := 29) Tryd.results21 _ _ (w.heap.size + 1 + 1) 29 (totA (joinT a b)) (0, 0) _ rfl Q0.out Tryd.underlying29 rfl (infoTot _ (totA_size HJ.out.len))); (rfl))
      exact HBEL.out
end Go.Proofs.YtbmiecogjmbciaaDoor

namespace Go.Proofs.YtbmiecogjmbciaaDoor
set_option maxRecDepth 8000
open Go.RowKit

theorem isRows.flat_take {z : Nat} {L : List (List Value)} (h : isRows z L) (k : Nat) : (L.take k).flatten = L.flatten.take (k * z) := by
  induction L generalizing k with
  | nil => simp
  | cons x L ih =>
    have hx := h x (List.mem_cons_self ..)
    cases k with
    | zero => simp
    | succ k =>
      have hk : (k + 1) * z - z = k * z := by rw [Nat.succ_mul]; omega
      rw [List.take_succ_cons, List.flatten_cons, List.flatten_cons, ih (fun y hy => h y (List.mem_cons_of_mem _ hy)), List.take_append, List.take_of_length_le (by rw [hx, Nat.succ_mul]; omega : x.length ≤ (k + 1) * z), hx, hk]
theorem isRows.flat_drop {z : Nat} {L : List (List Value)} (h : isRows z L) (k : Nat) : (L.drop k).flatten = L.flatten.drop (k * z) := by
  induction L generalizing k with
  | nil => simp
  | cons x L ih =>
    have hx := h x (List.mem_cons_self ..)
    cases k with
    | zero => simp
    | succ k =>
      have hk : (k + 1) * z - z = k * z := by rw [Nat.succ_mul]; omega
      rw [List.drop_succ_cons, List.flatten_cons, ih (fun y hy => h y (List.mem_cons_of_mem _ hy)), List.drop_append, List.drop_of_length_le (by rw [hx, Nat.succ_mul]; omega : x.length ≤ (k + 1) * z), hx, hk, List.nil_append]
theorem CellsIn.take {w : World} {B : Nat} {A : Option Addr} {xs : List Value} (h : CellsIn w B A xs) (k : Nat) : CellsIn w B A (xs.take k) := by
  intro hp
  rw [List.length_take] at hp
  obtain ⟨ad, e, hb, hc⟩ := h (by omega)
  refine ⟨ad, e, hb, fun j v hv => hc j v ?_⟩
  have hj : j < k := by
    rcases Nat.lt_or_ge j k with h' | h'
    · exact h'
    · rw [List.getElem?_eq_none (by rw [List.length_take]; omega)] at hv
      cases hv
  rwa [List.getElem?_take_of_lt hj] at hv
/-- where a cut slice begins -/
def cutX (z : Nat) (A : Option Addr) (l c : Nat) : Option Addr := if c = l then A else A.map (·.add (l * z))
theorem CellsIn.drop {w : World} {B : Nat} {A : Option Addr} {xs : List Value} (h : CellsIn w B A xs) (z k c : Nat) (hc : k < c ∨ xs.length ≤ k * z) : CellsIn w B (cutX z A k c) (xs.drop (k * z)) := by
  intro hp
  rw [List.length_drop] at hp
  obtain ⟨ad, rfl, hlt, hcell⟩ := h (by omega)
  have hne : ¬ c = k := by rcases hc with h | h <;> omega
  refine ⟨ad.add (k * z), by simp [cutX, hne], by rw [block_of_add]; exact hlt, fun j v hv => ?_⟩
  rw [add_addN]
  refine hcell (k * z + j) v ?_
  rwa [List.getElem?_drop] at hv
section
variable {st e : TypeId} {z bytes : Nat} {zero : Value}
theorem ElemT.elem (T : ElemT st e z bytes zero) : Tryd.prog.elem st = e := by simp [Program.elem, T.und]
theorem ElemT.sizeOf (T : ElemT st e z bytes zero) (w : World) : (Go.sizeOf e).run Tryd.prog w = .ok z w := by
  have h := T.info
  cases hq : Tryd.prog.info? e with
  | none => rw [hq] at h; cases h
  | some i =>
    rw [hq] at h
    simp only [Option.map_some, Option.some.injEq, Prod.mk.injEq] at h
    simp [Go.sizeOf, typeInfo, hq, h.2.1]
theorem run_cutX_h (T : ElemT st e z bytes zero) (A : Option Addr) (n c h : Nat) (w : World) (h2 : h ≤ c) :
    (Instr.sliceAt st (.slice A n c) none (some (.int .i64 (h : Int))) none).run Tryd.prog w = .ok (.slice A h c) w := by
  have ht' : Tryd.prog.underlying st = some (.slice (Tryd.prog.elem st)) := by rw [T.elem]; exact T.und
  rw [run_sliceAt_slice w _ _ _ _ _ ht', run_slice_h w st _ _ _ ht' .i64 _ (by omega) (by omega), T.elem, T.sizeOf]
  have e : (fun a : Addr => a.add (0 * z)) = id := by
    funext a
    simp [Addr.add]
  simp only [Result.andThen, sliced, e, Option.map_id, Int.toNat_natCast, Nat.sub_zero, ite_self, id]
theorem run_cutX_l (T : ElemT st e z bytes zero) (A : Option Addr) (n c l : Nat) (w : World) (h1 : l ≤ n) :
    (Instr.sliceAt st (.slice A n c) (some (.int .i64 (l : Int))) none none).run Tryd.prog w = .ok (.slice (cutX z A l c) (n - l) (c - l)) w := by
  have ht' : Tryd.prog.underlying st = some (.slice (Tryd.prog.elem st)) := by rw [T.elem]; exact T.und
  rw [run_sliceAt_slice w _ _ _ _ _ ht', run_slice_l w st _ _ _ ht' .i64 _ (by omega) (by omega), T.elem, T.sizeOf]
  simp [Result.andThen, sliced, cutX]
theorem run_cutX_lh (T : ElemT st e z bytes zero) (A : Option Addr) (n c l h : Nat) (w : World) (h1 : l ≤ h) (h2 : h ≤ c) :
    (Instr.sliceAt st (.slice A n c) (some (.int .i64 (l : Int))) (some (.int .i64 (h : Int))) none).run Tryd.prog w = .ok (.slice (cutX z A l c) (h - l) (c - l)) w := by
  have ht' : Tryd.prog.underlying st = some (.slice (Tryd.prog.elem st)) := by rw [T.elem]; exact T.und
  rw [run_sliceAt_slice w _ _ _ _ _ ht', run_slice_lh w st _ _ _ ht' .i64 .i64 _ _ (by omega) (by omega) (by omega), T.elem, T.sizeOf]
  simp [Result.andThen, sliced, cutX]
variable {a : Act} {dst : Option Tmp} {x l h : Operand} {ty : TypeId} {pos : String} {after : Array Edge} {gd : Option (Nat × Bool)}
theorem cutXh_op (T : ElemT st e z bytes zero) {A : Option Addr} {n c j : Nat} (u : World) (h2 : j ≤ c) (hx : a.eval x = .slice A n c) (hh : a.eval h = .int .i64 (j : Int)) :
    (execOp a.eval ⟨dst, .slice st x none (some h) none, ty, pos, after, gd⟩).run Tryd.prog u = .ok (.value (.slice A j c)) u := by
  unfold execOp
  simp only [hx, hh, Option.map_some, Option.map_none, Sem.run_bind, Sem.run_pure, Result.andThen_ok, run_cutX_h T A n c j u h2]
theorem cutXl_op (T : ElemT st e z bytes zero) {A : Option Addr} {n c j : Nat} (u : World) (h2 : j ≤ n) (hx : a.eval x = .slice A n c) (hh : a.eval l = .int .i64 (j : Int)) :
    (execOp a.eval ⟨dst, .slice st x (some l) none none, ty, pos, after, gd⟩).run Tryd.prog u = .ok (.value (.slice (cutX z A j c) (n - j) (c - j))) u := by
  unfold execOp
  simp only [hx, hh, Option.map_some, Option.map_none, Sem.run_bind, Sem.run_pure, Result.andThen_ok, run_cutX_l T A n c j u h2]
theorem cutXlh_op (T : ElemT st e z bytes zero) {A : Option Addr} {n c i j len : Nat} (u : World) (h1 : i ≤ j) (h2 : j ≤ c) (hlen : j - i = len) (hx : a.eval x = .slice A n c) (hl : a.eval l = .int .i64 (i : Int)) (hh : a.eval h = .int .i64 (j : Int)) :
    (execOp a.eval ⟨dst, .slice st x (some l) (some h) none, ty, pos, after, gd⟩).run Tryd.prog u = .ok (.value (.slice (cutX z A i c) len (c - i))) u := by
  subst hlen
  unfold execOp
  simp only [hx, hl, hh, Option.map_some, Option.map_none, Sem.run_bind, Sem.run_pure, Result.andThen_ok, run_cutX_lh T A n c i j u h1 h2]
end
end Go.Proofs.YtbmiecogjmbciaaDoor

namespace Go.Proofs.YtbmiecogjmbciaaDoor
set_option maxRecDepth 8000
open Go.RowKit

theorem zTot_size : (totA zTot).size = 37 := by decide +kernel
theorem built_totH {h : List Int} (hh : h.length = 32) : Tryd.prog.built 29 [(0, idv h)] = some (totA ⟨h, 0, 0⟩) := by
  have hs : (arrB 32 h).size = 32 := arrB_size _ _ (by omega)
  have hz := elTot.info
  cases hq : Tryd.prog.info? 29 with
  | none => rw [hq] at hz; cases hz
  | some it =>
    rw [hq] at hz
    simp only [Option.map_some, Option.some.injEq, Prod.mk.injEq] at hz
    have hp : (Tryd.prog.fieldsOf 29).toList.mapM (fun f => (Tryd.prog.info? f.type).map fun i => (f.offset, i.size)) = some [(0, 32), (32, 4), (36, 1)] := by kernel_rfl
    have hu : Tryd.prog.underlying 29 = some (.struct (Tryd.prog.fieldsOf 29)) := by kernel_rfl
    unfold Program.built
    simp only [hq, hu, hz.1, hp]
    obtain ⟨r, hr, hl⟩ := fill_seq (place := (([(0, 32), (32, 4), (36, 1)] : List (Nat × Nat)).toArray[·]?)) [(0, idv h)] 0 (totA zTot) ⟨by show some (0, 32) = some (0, (arrB 32 h).size); rw [hs], trivial⟩ (by rw [zTot_size]; simp [cellsOfP, idv, Value.cells, hs])
    refine Eq.trans hr ?_
    congr 1
    apply Array.ext'
    rw [hl]
    have e : cellsOfP [(0, idv h)] = (arrB 32 h).toList := by simp [cellsOfP, idv, Value.cells]
    rw [e, List.take_zero, List.nil_append, Nat.zero_add, idA_list hh]
    show _ = (arrB 32 h).toList ++ ((wcs 0).toList ++ [.int .i64 0])
    congr 1
theorem all_ok {l : List Tot} (h : okTs l) : okT (allT l) := by
  by_cases h0 : l.length = 0
  · rw [List.eq_nil_of_length_eq_zero h0]
    exact noTot_ok
  · by_cases h1 : l.length = 1
    · match l, h1 with
      | [x], _ => exact h x (List.mem_cons_self ..)
    · rw [all_cut (by omega)]
      exact join_ok
theorem TotsIn.up {w w' : World} {A : Option Addr} {l : List Tot} (h : TotsIn w w.heap.size A l) (hb : Below w.heap.size w w') : TotsIn w' w'.heap.size A l := CellsIn.up h hb
theorem TotsIn.take {w : World} {B : Nat} {A : Option Addr} {l : List Tot} (h : TotsIn w B A l) (hl : okTs l) (k : Nat) : TotsIn w B A (l.take k) := by
  unfold TotsIn
  rw [List.map_take, (rowsT hl).flat_take]
  exact CellsIn.take h _
theorem TotsIn.drop {w : World} {B : Nat} {A : Option Addr} {l : List Tot} (h : TotsIn w B A l) (hl : okTs l) (k c : Nat) (hc : l.length ≤ c) : TotsIn w B (cutX 37 A k c) (l.drop k) := by
  unfold TotsIn
  rw [List.map_drop, (rowsT hl).flat_drop]
  refine CellsIn.drop h 37 k c ?_
  rw [(rowsT hl).flat_len, List.length_map]
  omega
theorem TotsIn.nil (w : World) (B : Nat) (A : Option Addr) : TotsIn w B A [] := fun h => absurd h (by decide)
set_option maxRecDepth 20000 in
set_option maxHeartbeats 4000000 in
theorem rmall_any : ∀ (n : Nat) (l : List Tot) (A : Option Addr) (c : Nat) (w : World), l.length = n → n ≤ 1000000 → n ≤ c → c ≤ maxLen → okTs l → TotsIn w w.heap.size A l →
    Calls Tryd.prog 28 #[.slice A n c] w fun e w' => e = .returned (totV (allT l)) ∧ Below w.heap.size w w' := by
  intro n
  induction n using Nat.strongRecOn with
  | _ n ih =>
    intro l A c w hl hn hc hcm hI hA
    unfold totV
    have E1 : Hid (EnvX w (w.alloc (.cells (totA zTot) 29)) [(w.heap.size, Obj.cells (totA zTot) 29 (0, 0))]) := (EnvX.start w).new _
    by_cases h0 : n = 0
    · subst h0
      obtain rfl := List.eq_nil_of_length_eq_zero hl
      rw [all_none]
      have HS : Hid (∀ (u : World) (g : Nat), Bytes u u.heap.size (some ⟨g, 0, none⟩) [4] → Calls Tryd.prog 50 #[.slice (some ⟨g, 0, none⟩) 1 1] u fun e w' => e = .returned (idv (sumL [4])) ∧ Below u.heap.size u w') := fun u g h => rsum_any (some ⟨g, 0, none⟩) 1 1 [4] u rfl (by omega) h (by intro x hx; cases List.mem_singleton.1 hx; omega)
      clear ih hI hA hl
      go_enter Tryd.func28, Tryd.ntmps28
      go_upto_region 2 with (fail)
      rw [zero_totA]
      generalize w.alloc (.cells (totA zTot) 29) = W at *
      refine wp_region_Hx (w0 := w) [0, 1, 2, 3] [(w.heap.size, Obj.cells (totA zTot) 29 (0, 0))] rfl E1.out ?_
      refine (hOp_fresh (R := fun v N => ∃ g, v = .slice (some ⟨g, 0, none⟩) 1 1 ∧ N = [(g, Obj.cells #[.int .u8 4] 5 (0, 0))]) (M0 := [(w.heap.size, Obj.cells (totA zTot) 29 (0, 0))]) rfl rfl (fun _ h => h) (fun u hu => FAt_byte1 4 u) ?_)
      rintro _ _ ⟨gt, rfl, rfl⟩ hf he1; intro K' hK'; go_big_quiet_op; go_big_quiet_on
      clear hf
      change lexH _ _ _ _ _ _ [(gt, Obj.cells #[.int .u8 4] 5 (0, 0)), (w.heap.size, Obj.cells (totA zTot) 29 (0, 0))]
      refine lexH_phase [1, 2] [3] ?_
      have hw2 : EnvX w _ [(gt, Obj.cells #[.int .u8 4] 5 (0, 0)), (w.heap.size, Obj.cells (totA zTot) 29 (0, 0))] := he1.choose_spec
      have hone := @EnvC.one _ _ _ hw2
      (refine wpG_call (f := 50) (args := #[.slice (some ⟨gt, 0, none⟩) 1 1]) (v := idv (sumL [4])) rfl rfl rfl Tryd.func50 rfl rfl (fun u hu => HS.out u gt (boxR_bytes (cap := 1) hu (List.Mem.head _) rfl ⟨by decide, by decide, rfl, rfl⟩)) ?_ hw2; intro K hK; go_big_quiet_op; go_big_quiet_on)
      (refine wpG_val (v := .agg (totA noTot)) rfl rfl (fun u hu => buildA_op u (built_totH (sumL_len _))) ?_ hw2; intro K hK; go_big_quiet_op; go_big_quiet_on)
      clear hone hw2
      refine wpG_nil ?_
      refine (hOp_store rfl (w.heap.size) (totA (noTot)) rfl rfl (Nat.le_refl _) 29 ((totA zTot)) (List.Mem.tail _ (List.Mem.head _)) (infoTot _ (totA_size noTot_ok.len)) (zTot_size.trans (totA_size noTot_ok.len).symm) (totA_one _) [(w.heap.size, Obj.cells (totA (noTot)) 29 (0, 0))] (List.forall_mem_cons.2 ⟨.inl rfl, (fun _ h => by cases h)⟩) ?_)
      intro he3
      intro u5 E2'
      have EX4 := Lib.hid E2'
      clear E2'
      have Q0 := Lib.hid (EnvX.box EX4.out _ _ (List.Mem.head _))
      have HBEL := Lib.hid EX4.out.bel
      clear EX4
      go_wp2_with ((with_reducible refine bodyPost_ret (v := .agg (totA (noTot))) ?_ ?_ ?_); (exact results_cell_row (p := 2) (ty := 29) Tryd.results28 _ _ w.heap.size 29 (totA (noTot)) (0, 0) _ rfl Q0.out Tryd.underlying29 rfl (infoTot _ (totA_size noTot_ok.len))); (rfl))
      exact HBEL.out
    by_cases h1 : n = 1
    · subst h1
      obtain ⟨x, rfl⟩ : ∃ x, l = [x] := by
        match l, hl with
        | [x], _ => exact ⟨x, rfl⟩
      rw [all_one]
      obtain ⟨ad, rfl, hld⟩ := hA.loads hI (k := 0) (by simp)
      have HLD := Lib.hid hld
      have HX : Hid (okT x) := hI x (List.mem_cons_self ..)
      clear ih hI hA hl hld
      go_enter Tryd.func28, Tryd.ntmps28
      go_upto_region 4 with (fail)
      rw [zero_totA]
      generalize w.alloc (.cells (totA zTot) 29) = W at *
      refine wp_region_Hx (w0 := w) [0, 1, 2, 3] [(w.heap.size, Obj.cells (totA zTot) 29 (0, 0))] rfl E1.out ?_
      refine lexH_phase [0, 1, 2] [3] ?_
      have hw1 : EnvX w _ [(w.heap.size, Obj.cells (totA zTot) 29 (0, 0))] := E1.out
      have hone := @EnvC.one _ _ _ hw1
      (refine wpG_op rfl rfl rfl ?_; intro K hK; go_big_quiet_op; go_big_quiet_on)
      (refine wpG_val (v := .pointer (some (ad.add (0 * 37)))) rfl rfl (fun u hu => idxSl_op (i := 0) Tryd.underlying22 aggTot.size (by decide) u rfl rfl) ?_ hw1; intro K hK; go_big_quiet_op; go_big_quiet_on)
      (refine wpG_val (v := .agg (totA x)) rfl rfl (fun u hu => load_any_op u (HLD.out u (EnvX.sub hu (fun _ h => by cases h))).1 rfl) ?_ hw1; intro K hK; go_big_quiet_op; go_big_quiet_on)
      clear hone hw1
      refine wpG_nil ?_
      refine (hOp_store rfl (w.heap.size) (totA (x)) rfl rfl (Nat.le_refl _) 29 ((totA zTot)) (List.Mem.head _) (infoTot _ (totA_size HX.out.len)) (zTot_size.trans (totA_size HX.out.len).symm) (totA_one _) [(w.heap.size, Obj.cells (totA (x)) 29 (0, 0))] (List.forall_mem_cons.2 ⟨.inl rfl, (fun _ h => by cases h)⟩) ?_)
      intro he2
      intro u4 E2'
      have EX3 := Lib.hid E2'
      clear E2'
      have Q0 := Lib.hid (EnvX.box EX3.out _ _ (List.Mem.head _))
      have HBEL := Lib.hid EX3.out.bel
      clear EX3
      go_wp2_with ((with_reducible refine bodyPost_ret (v := .agg (totA (x))) ?_ ?_ ?_); (exact results_cell_row (p := 2) (ty := 29) Tryd.results28 _ _ w.heap.size 29 (totA (x)) (0, 0) _ rfl Q0.out Tryd.underlying29 rfl (infoTot _ (totA_size HX.out.len))); (rfl))
      exact HBEL.out
    · have h2 : 2 ≤ n := by omega
      obtain ⟨a, b, c2, -⟩ := half_spec h2
      have hcut := all_cut (l := l) (by omega)
      rw [hl] at hcut
      rw [hcut]
      have hi1 := all_ok (hI.take (halfT n))
      have hi2 := all_ok (hI.drop (halfT n))
      have l1 : (l.take (halfT n)).length = halfT n := by rw [List.length_take]; omega
      have l2 : (l.drop (halfT n)).length = n - halfT n := by rw [List.length_drop]; omega
      have HH := Lib.hid (fun u => rhalf_any n u h2 (by omega))
      have HI1 : Hid (∀ u, EnvX w u [] → Calls Tryd.prog 28 #[.slice A (halfT n) c] u fun e w' => e = .returned (totV (allT (l.take (halfT n)))) ∧ Below u.heap.size u w') := fun u hu =>
        ih (halfT n) b (l.take (halfT n)) A c u l1 (by omega) (by omega) hcm (hI.take _) ((hA.take hI _).up (EnvX.bel hu))
      have HI2 : Hid (∀ u, EnvX w u [] → Calls Tryd.prog 28 #[.slice (cutX 37 A (halfT n) c) (n - halfT n) (c - halfT n)] u fun e w' => e = .returned (totV (allT (l.drop (halfT n)))) ∧ Below u.heap.size u w') := fun u hu =>
        ih (n - halfT n) (by omega) (l.drop (halfT n)) (cutX 37 A (halfT n) c) (c - halfT n) u l2 (by omega) (by omega) (by omega) (hI.drop _) ((hA.drop hI _ c (by omega)).up (EnvX.bel hu))
      have HND : Hid (∀ u, Calls Tryd.prog 21 #[totV (allT (l.take (halfT n))), totV (allT (l.drop (halfT n)))] u fun e w' => e = .returned (.agg (totA (joinT (allT (l.take (halfT n))) (allT (l.drop (halfT n)))))) ∧ Below u.heap.size u w') := fun u => rmjoin_any _ _ u hi1 hi2
      have HKC : Hid (halfT n ≤ c) := by show _ ≤ _; omega
      have HKN : Hid (halfT n ≤ n) := by show _ ≤ _; omega
      have hne0 : ¬ (n : Int) = 0 := by omega
      have hne1 : ¬ (n : Int) = 1 := by omega
      clear ih hI hA hl hcut hi1 hi2 l1 l2
      generalize halfT n = k at *
      go_enter Tryd.func28, Tryd.ntmps28
      go_upto_region 5 with (fail)
      rw [zero_totA]
      generalize w.alloc (.cells (totA zTot) 29) = W at *
      go_wp2_with fail
      refine (HH.out _).mono ?_
      rintro e w2 ⟨rfl, rfl⟩
      have E2 := E1
      go_upto_region 6 with (fail)
      refine wp_region_H (w0 := w) [(w.heap.size, Obj.cells (totA zTot) 29 (0, 0))] (by kernel_rfl) E2.out ?_
      refine anyH_phase [0, 1, 2, 3, 4, 5, 6, 7, 8] 1 rfl ⟨_, (EnvX.drew E2.out)⟩ (by kernel_rfl) ?_
      have hw1 : EnvX w _ [(w.heap.size, Obj.cells (totA zTot) 29 (0, 0))] := (EnvX.drew E2.out)
      have hone := @EnvC.one _ _ _ hw1
      (refine wpG_op rfl rfl rfl ?_; intro K hK; go_big_quiet_op; go_big_quiet_on)
      (refine wpG_op rfl rfl rfl ?_; intro K hK; go_big_quiet_op; go_big_quiet_on)
      (refine wpG_val (v := .slice A k c) rfl rfl (fun u hu => cutXh_op elTot u HKC.out rfl rfl) ?_ hw1; intro K hK; go_big_quiet_op; go_big_quiet_on)
      (refine wpG_call (f := 28) (args := #[.slice A k c]) (v := totV (allT (l.take k))) rfl rfl rfl Tryd.func28 rfl rfl (fun u hu => HI1.out u (EnvX.sub hu (fun _ h => by cases h))) ?_ hw1; intro K hK; go_big_quiet_op; go_big_quiet_on)
      (refine wpG_op rfl rfl rfl ?_; intro K hK; go_big_quiet_op; go_big_quiet_on)
      (refine wpG_op rfl rfl rfl ?_; intro K hK; go_big_quiet_op; go_big_quiet_on)
      (refine wpG_val (v := (.slice (cutX 37 A k c) (n - k) (c - k))) rfl rfl (fun u hu => cutXl_op elTot u HKN.out rfl rfl) ?_ hw1; intro K hK; go_big_quiet_op; go_big_quiet_on)
      (refine wpG_call (f := 28) (args := #[(.slice (cutX 37 A k c) (n - k) (c - k))]) (v := totV (allT (l.drop k))) rfl rfl rfl Tryd.func28 rfl rfl (fun u hu => HI2.out u (EnvX.sub hu (fun _ h => by cases h))) ?_ hw1; intro K hK; go_big_quiet_op; go_big_quiet_on)
      (refine wpG_call (f := 21) (args := #[totV (allT (l.take k)), totV (allT (l.drop k))]) (v := .agg (totA (joinT (allT (l.take k)) (allT (l.drop k))))) rfl rfl rfl Tryd.func21 rfl rfl (fun u hu => HND.out u) ?_ hw1; intro K hK; go_big_quiet_op; go_big_quiet_on)
      clear hone hw1
      refine wpG_nil ?_
      refine anyH_one (i := 9) (by kernel_rfl) (hOp_store rfl (w.heap.size) (totA (joinT (allT (l.take k)) (allT (l.drop k)))) rfl rfl (Nat.le_refl _) 29 ((totA zTot)) (List.Mem.head _) (infoTot _ (totA_size join_ok.len)) (zTot_size.trans (totA_size join_ok.len).symm) (totA_one _) [(w.heap.size, Obj.cells (totA (joinT (allT (l.take k)) (allT (l.drop k)))) 29 (0, 0))] (List.forall_mem_cons.2 ⟨.inl rfl, (fun _ h => by cases h)⟩) ?_)
      intro he2
      refine anyH_done (by kernel_rfl) ?_
      intro u4 E2'
      have EX3 := Lib.hid E2'
      clear E2'
      have Q0 := Lib.hid (EnvX.box EX3.out _ _ (List.Mem.head _))
      have HBEL := Lib.hid EX3.out.bel
      clear EX3
      go_wp2_with ((with_reducible refine bodyPost_ret (v := .agg (totA (joinT (allT (l.take k)) (allT (l.drop k))))) ?_ ?_ ?_); (exact results_cell_row (p := 2) (ty := 29) Tryd.results28 _ _ w.heap.size 29 (totA (joinT (allT (l.take k)) (allT (l.drop k)))) (0, 0) _ rfl Q0.out Tryd.underlying29 rfl (infoTot _ (totA_size join_ok.len))); (rfl))
      exact HBEL.out
end Go.Proofs.YtbmiecogjmbciaaDoor
