/- Part of a proof. -/
import Derived.Test.YtbjojpgedcikiaaDoorCk
namespace Go.Proofs.YtbjojpgedcikiaaDoor
set_option maxRecDepth 8000
open Go.RowKit

set_option maxRecDepth 20000 in
set_option maxHeartbeats 4000000 in
theorem clash_d (l : List (List Int)) (i : Nat) (leaf : List Int) (p : List (List Int)) (A A2 : Option Addr) (n c m c2 : Nat) (w : World) (hl : l.length = n) (hn : n ≤ 64) (hnc : n ≤ c)
    (hm : p.length = m) (hm6 : m ≤ 1000000) (hI : isIds l) (hA : IdsIn w w.heap.size A l) (hJ : isIds p) (hA2 : IdsIn w w.heap.size A2 p) (hx : leaf.length = 32 ∧ ∀ b ∈ leaf, 0 ≤ b ∧ b ≤ 255) (ht : Tables w) (hin : i < n) (he : leaf ≠ l.getD i []) (hb : checkT (rootT l) n i leaf p = true) :
    Calls Tryd.prog 37 #[ndV, .slice A n c, .int .i64 (i : Int), idv leaf, .slice A2 m c2] w fun e w' => ClashR l i leaf p w.heap.size e w' ∧ Below w.heap.size w w' := by
  have HX := Lib.hid hx
  have HI := Lib.hid (And.intro hI hA)
  have HJ := Lib.hid (And.intro hJ hA2)
  have HL := Lib.hid hl
  have HM := Lib.hid hm
  have HTT := Lib.hid ht
  have HLT := Lib.hid hin
  have HNN : Hid (n < 9223372036854775808) := by show _ < _; omega
  have hil : i < l.length := by omega
  have HPP : Hid (∀ u, EnvX w u [] → Calls Tryd.prog 42 #[ndV, .slice A n c, .int .i64 (i : Int)] u fun e w' => (∃ v, e = .returned (.tuple #[v, .bool true]) ∧ OwnI w' u.heap.size v (pathT l i)) ∧ Below u.heap.size u w') := fun u hu =>
    pathBy_some l i A n c u hl hn hin hnc hI (hA.up (EnvX.bel hu)) (ht.below (EnvX.bel hu))
  have HLI0 : Hid (∀ u, EnvX w u [] → ∃ ad, A = some ad ∧ (loadVar 24 (ad.add (i * 32))).run Tryd.prog u = .ok (idv (l.getD i [])) u) := fun u hu => (hA.up (EnvX.bel hu)).load hI hil
  obtain ⟨ad, rfl, -⟩ := HLI0.out w (EnvX.start w)
  have HY := Lib.hid (hI.get hil)
  have E1 : Hid (EnvX w (w.alloc (.cells (arrB 32 leaf) 24)) [(w.heap.size, Obj.cells (arrB 32 leaf) 24 (0, 0))]) := (EnvX.start w).new _
  have HEQ : Hid (eqL leaf (l.getD i []) = false) := decide_eq_false he
  have HBB := Lib.hid hb
  have hmeet := clash_meet (l := l) (i := i) (leaf := leaf) (path := p) (by omega) (by rw [hl]; exact hb) he
  rw [hl, ← sideS_forks hin] at hmeet
  have hsl : (sideS (forksT 0 n i)).length = (forksT 0 n i).length := by unfold sideS; rw [List.length_map]
  rw [hsl] at hmeet
  have HMEET := Lib.hid hmeet
  have hmK : m = (forksT 0 n i).length := by
    have h := hb
    unfold checkT at h
    simp only [decide_eq_true_eq, Int.toNat_natCast] at h
    rw [← hm, h.2.2.2.2.1, ← sideS_forks hin, hsl]
  have HMK := Lib.hid hmK
  have hfl := forks_len n 0 i
  have hk64 : m ≤ 64 := by omega
  have HFK := Lib.hid (fun u => forks_any n i u (by omega) (by omega) (by omega))
  have HRPI : Hid (isIds (pathT l i)) := by
    have h := fork_path l n 0 i hin (by omega)
    rw [List.drop_zero, List.take_of_length_le (by omega), Nat.zero_add] at h
    rw [h]
    exact path_id hI _
  clear he hb hmeet hsl hmK hfl
  clear hI hA hJ hA2 hx ht
  unfold idv
  go_enter Tryd.func37, Tryd.ntmps37
  go_upto_region 1 with (fail)
  generalize w.alloc (.cells (arrB 32 leaf) 24) = W at *
  have HPW := Lib.hid (HPP.out W (EnvX.sub E1.out (fun _ h => by cases h)))
  go_wp2_with fail
  refine HPW.out.mono ?_
  rintro e w1 ⟨⟨v, rfl, hv⟩, hb1⟩
  obtain ⟨Av, cv, rfl, hv1, hv2⟩ := hv.form
  have HV := Lib.hid hv.ids
  have HVL : Hid ((pathT l i).length = (forksT 0 n i).length) := by
    show _ = _
    have h := path_len n l i HL.out
    rw [← sideS_forks HLT.out] at h
    rw [h]
    unfold sideS
    rw [List.length_map]
  rw [HVL.out] at hv1 ⊢
  have E2 : Hid (EnvX w1 w1 [(w.heap.size, Obj.cells (arrB 32 leaf) 24 (0, 0))]) := ⟨Below.refl _ _, (EnvX.below E1.out hb1).box⟩
  have HB := Lib.hid ((EnvX.below E1.out hb1).bel)
  have HLI : Hid (∀ u, EnvX w1 u [] → (loadVar 24 (ad.add (i * 32))).run Tryd.prog u = .ok (idv (l.getD i [])) u) := fun u hu => by
    obtain ⟨ad2, e2, h2⟩ := HLI0.out u ⟨HB.out.trans ((EnvX.bel hu).mono HB.out.size), fun _ _ h => by cases h⟩
    cases e2
    exact h2
  have HRT : Hid (∀ u, EnvX w1 u [] → Calls Tryd.prog 47 #[ndV, .slice (some ad) n c] u fun e w' => e = .returned (idv (rootT l)) ∧ Below u.heap.size u w') := fun u hu => rootBy_any l (some ad) n c u HL.out (by omega) HI.out.1 ((HI.out.2.up HB.out).up (EnvX.bel hu)) ((HTT.out.below HB.out).below (EnvX.bel hu))
  have HCH : Hid (∀ u, EnvX w1 u [] → Calls Tryd.prog 49 #[ndV, idv (rootT l), .int .i64 (n : Int), .int .i64 (i : Int), idv leaf, .slice A2 m c2] u fun e w' => e = .returned (.bool (checkT (rootT l) n i leaf p)) ∧ Below u.heap.size u w') := fun u hu =>
    checkBy_any (rootT l) leaf n i p A2 m c2 u (root_id HI.out.1) HX.out ⟨by omega, by omega⟩ ⟨by omega, by omega⟩ HM.out hm6 HJ.out.1 ((HJ.out.2.up HB.out).up (EnvX.bel hu)) ((HTT.out.below HB.out).below (EnvX.bel hu))
  clear hb1 hv E1 HPP HPW HLI0
  go_upto_region 2 with (fail)
  refine wp_region_H (w0 := w1) [(w.heap.size, Obj.cells (arrB 32 leaf) 24 (0, 0))] (by kernel_rfl) E2.out ?_
  refine anyH_phase [0, 1, 2, 3, 4, 5, 6, 7, 8, 9, 10, 11, 12, 13, 14, 15, 16, 17, 18, 19, 20, 21, 22] 0 rfl ⟨_, (EnvX.drew E2.out)⟩ (by kernel_rfl) ?_
  have hw1 : EnvX w1 _ [(w.heap.size, Obj.cells (arrB 32 leaf) 24 (0, 0))] := (EnvX.drew E2.out)
  have hone := @EnvC.one _ _ _ hw1
  (refine wpG_op rfl rfl rfl ?_; intro K hK; go_big_quiet_op; go_big_quiet_on)
  (refine wpG_op rfl rfl rfl ?_; intro K hK; go_big_quiet_op; go_big_quiet_on)
  (refine wpG_op rfl rfl rfl ?_; intro K hK; go_big_quiet_op; go_big_quiet_on)
  (refine wpG_val (v := idv leaf) rfl rfl (fun u hu => load_run_op u (box_load hu (List.Mem.head _) HX.out.1) rfl) ?_ hw1; intro K hK; go_big_quiet_op; go_big_quiet_on)
  (refine wpG_op rfl rfl rfl ?_; intro K hK; go_big_quiet_op; go_big_quiet_on)
  (refine wpG_op rfl rfl rfl ?_; intro K hK; go_big_quiet_op; go_big_quiet_on)
  (refine wpG_val (v := .pointer (some (ad.add (i * 32)))) rfl rfl (fun u hu => idxSl_op Tryd.underlying22 aggId.size HLT.out u rfl rfl) ?_ hw1; intro K hK; go_big_quiet_op; go_big_quiet_on)
  (refine wpG_val (v := idv (l.getD i [])) rfl rfl (fun u hu => load_any_op u (HLI.out u (EnvX.sub hu (fun _ h => by cases h))) rfl) ?_ hw1; intro K hK; go_big_quiet_op; go_big_quiet_on)
  (refine wpG_val (v := .bool false) rfl rfl (fun u hu => eqlb_op HX.out.1 HY.out.1 HEQ.out u rfl rfl) ?_ hw1; intro K hK; go_big_quiet_op; go_big_quiet_on)
  (refine wpG_op rfl rfl rfl ?_; intro K hK; go_big_quiet_op; go_big_quiet_on)
  (refine wpG_op rfl rfl rfl ?_; intro K hK; go_big_quiet_op; go_big_quiet_on)
  (refine wpG_op rfl rfl rfl ?_; intro K hK; go_big_quiet_op; go_big_quiet_on)
  (refine wpG_op rfl rfl rfl ?_; intro K hK; go_big_quiet_op; go_big_quiet_on)
  (refine wpG_op rfl rfl rfl ?_; intro K hK; go_big_quiet_op; go_big_quiet_on)
  (refine wpG_call (f := 47) (args := #[ndV, .slice (some ad) n c]) (v := idv (rootT l)) rfl rfl rfl Tryd.func47 rfl rfl (fun u hu => HRT.out u (EnvX.sub hu (fun _ h => by cases h))) ?_ hw1; intro K hK; go_big_quiet_op; go_big_quiet_on)
  (refine wpG_op rfl rfl rfl ?_; intro K hK; go_big_quiet_op; go_big_quiet_on)
  (refine wpG_val (v := .int .i64 (n : Int)) rfl rfl (fun u hu => len_op Tryd.underlying22 HNN.out u rfl) ?_ hw1; intro K hK; go_big_quiet_op; go_big_quiet_on)
  (refine wpG_op rfl rfl rfl ?_; intro K hK; go_big_quiet_op; go_big_quiet_on)
  (refine wpG_val (v := idv leaf) rfl rfl (fun u hu => load_run_op u (box_load hu (List.Mem.head _) HX.out.1) rfl) ?_ hw1; intro K hK; go_big_quiet_op; go_big_quiet_on)
  (refine wpG_op rfl rfl rfl ?_; intro K hK; go_big_quiet_op; go_big_quiet_on)
  (refine wpG_call (f := 49) (args := #[ndV, idv (rootT l), .int .i64 (n : Int), .int .i64 (i : Int), idv leaf, .slice A2 m c2]) (v := .bool true) rfl rfl rfl Tryd.func49 rfl rfl (fun u hu => (by have h := HCH.out u (EnvX.sub hu (fun _ h => by cases h)); rw [HBB.out] at h; exact h)) ?_ hw1; intro K hK; go_big_quiet_op; go_big_quiet_on)
  (refine wpG_op rfl rfl rfl ?_; intro K hK; go_big_quiet_op; go_big_quiet_on)
  (refine wpG_op rfl rfl rfl ?_; intro K hK; go_big_quiet_op; go_big_quiet_on)
  clear hone hw1
  refine wpG_nil ?_
  refine anyH_done (by kernel_rfl) ?_
  intro u3 E2'
  have EX2 := Lib.hid E2'
  clear E2'
  have H12 := Lib.hid EX2.out.bel
  have E22 : Hid (EnvX u3 u3 [(w.heap.size, Obj.cells (arrB 32 leaf) 24 (0, 0))]) := ⟨Below.refl _ _, EX2.out.box⟩
  clear EX2
  generalize u3 = w2 at *
  have hFM := HMK.out
  generalize forksT 0 n i = F at *
  rw [← hFM] at hv1 ⊢
  have hK : F.length = m := hFM.symm
  have HRPL : Hid ((pathT l i).length = m) := HVL.out.trans hK
  have HKL := Lib.hid hK
  have HMN : Hid (m < 9223372036854775808) := by show _ < _; omega
  clear hFM
  go_upto_region 4 with (fail)
  refine wp_region_Hx (w0 := w2) [0, 1, 2, 3, 4] [(w.heap.size, Obj.cells (arrB 32 leaf) 24 (0, 0))] rfl E22.out ?_
  refine lexH_phase [0, 1, 2] [3, 4] ?_
  have hw4 : EnvX w2 _ [(w.heap.size, Obj.cells (arrB 32 leaf) 24 (0, 0))] := E22.out
  have hone := @EnvC.one _ _ _ hw4
  (refine wpG_op rfl rfl rfl ?_; intro K hK; go_big_quiet_op; go_big_quiet_on)
  (refine wpG_val (v := .int .i64 (n : Int)) rfl rfl (fun u hu => len_op Tryd.underlying22 HNN.out u rfl) ?_ hw4; intro K hK; go_big_quiet_op; go_big_quiet_on)
  (refine wpG_op rfl rfl rfl ?_; intro K hK; go_big_quiet_op; go_big_quiet_on)
  clear hone hw4
  refine wpG_nil ?_
  refine (hOp_fresh (R := FreshR 85 5 m (F.map fkV).flatten) (M0 := [(w.heap.size, Obj.cells (arrB 32 leaf) 24 (0, 0))]) rfl rfl (fun _ h => h) (fun u hu => FAt_call (fid := 53) (xs := #[.tmp 50, .tmp 51]) (args := #[.int .i64 (n : Int), .int .i64 (i : Int)]) rfl Tryd.func53 rfl rfl u (by have h := callsR_fresh (HFK.out u); rw [hK] at h; exact h)) ?_)
  rintro x NU hF hf he5; intro K' hK'; go_big_quiet_op; go_big_quiet_on
  obtain ⟨Au, cu, rfl⟩ := FreshR.slice hF
  have HFU := Lib.hid hF
  clear hF
  clear hf
  change lexH _ _ _ _ _ _ (NU ++ ((w.heap.size, Obj.cells (arrB 32 leaf) 24 (0, 0)) :: []))
  refine lexH_phase [4] [] ?_
  have hw6 : EnvX w2 _ (NU ++ ((w.heap.size, Obj.cells (arrB 32 leaf) 24 (0, 0)) :: [])) := he5.choose_spec
  have hone := @EnvC.one _ _ _ hw6
  (refine wpG_op rfl rfl rfl ?_; intro K hK; go_big_quiet_op; go_big_quiet_on)
  clear hone hw6
  refine wpG_nil ?_
  intro u8 E2'
  have EX7 := Lib.hid E2'
  clear E2'
  have H23 := Lib.hid EX7.out.bel
  have CU := Lib.hid (own_cells (HFU.out.own (B := 0) (fk_rows F |>.flat_len |>.trans (by rw [List.length_map, hK])) (fun y hy => ⟨Nat.zero_le _, EnvX.box EX7.out _ _ (List.mem_append_left _ hy)⟩)))
  have E33 : Hid (EnvX u8 u8 [(w.heap.size, Obj.cells (arrB 32 leaf) 24 (0, 0))]) := ⟨Below.refl _ _, fun g o hm => EnvX.box EX7.out g o (List.mem_append_right _ hm)⟩
  clear EX7 HFU hK
  generalize u8 = w3 at *
  have H13 := Lib.hid (H12.out.trans (H23.out.mono H12.out.size))
  have HB3 := Lib.hid (HB.out.trans (H13.out.mono HB.out.size))
  have HLI3 : Hid (∀ u, EnvX w3 u [] → (loadVar 24 (ad.add (i * 32))).run Tryd.prog u = .ok (idv (l.getD i [])) u) := fun u hu => HLI.out u ⟨H13.out.trans ((EnvX.bel hu).mono H13.out.size), fun _ _ h => by cases h⟩
  have HCB : Hid (∀ u, EnvX w3 u [] → Calls Tryd.prog 54 #[ndV, .slice Au m cu, idv (l.getD i []), .slice Av m cv] u fun e w' => (∃ v, e = .returned v ∧ w'.ownsRow u.heap.size 72 96 v m (stepsC F (l.getD i []) (pathT l i) m).flatten) ∧ Below u.heap.size u w') := fun u hu =>
    climb_any F (l.getD i []) (pathT l i) Au m cu Av m cv u HKL.out hk64 (CU.out.up (EnvX.bel hu)) HY.out HRPL.out (Nat.le_refl _) HRPI.out ((HV.out.up H13.out).up (EnvX.bel hu)) ((HTT.out.below HB3.out).below (EnvX.bel hu))
  have HCA : Hid (∀ u, EnvX w3 u [] → Calls Tryd.prog 54 #[ndV, .slice Au m cu, idv leaf, .slice A2 m c2] u fun e w' => (∃ v, e = .returned v ∧ w'.ownsRow u.heap.size 72 96 v m (stepsC F leaf p m).flatten) ∧ Below u.heap.size u w') := fun u hu =>
    climb_any F leaf p Au m cu A2 m c2 u HKL.out hk64 (CU.out.up (EnvX.bel hu)) HX.out HM.out (Nat.le_refl _) HJ.out.1 ((HJ.out.2.up HB3.out).up (EnvX.bel hu)) ((HTT.out.below HB3.out).below (EnvX.bel hu))
  go_upto_region 5 with (fail)
  refine wp_region_Hx (w0 := w3) [0, 1, 2, 3, 4, 5, 6, 7, 8] [(w.heap.size, Obj.cells (arrB 32 leaf) 24 (0, 0))] rfl E33.out ?_
  refine lexH_phase [0, 1, 2, 3, 4, 5, 6] [7, 8] ?_
  have hw9 : EnvX w3 _ [(w.heap.size, Obj.cells (arrB 32 leaf) 24 (0, 0))] := E33.out
  have hone := @EnvC.one _ _ _ hw9
  (refine wpG_op rfl rfl rfl ?_; intro K hK; go_big_quiet_op; go_big_quiet_on)
  (refine wpG_op rfl rfl rfl ?_; intro K hK; go_big_quiet_op; go_big_quiet_on)
  (refine wpG_op rfl rfl rfl ?_; intro K hK; go_big_quiet_op; go_big_quiet_on)
  (refine wpG_op rfl rfl rfl ?_; intro K hK; go_big_quiet_op; go_big_quiet_on)
  (refine wpG_val (v := .pointer (some (ad.add (i * 32)))) rfl rfl (fun u hu => idxSl_op Tryd.underlying22 aggId.size HLT.out u rfl rfl) ?_ hw9; intro K hK; go_big_quiet_op; go_big_quiet_on)
  (refine wpG_val (v := idv (l.getD i [])) rfl rfl (fun u hu => load_any_op u (HLI3.out u (EnvX.sub hu (fun _ h => by cases h))) rfl) ?_ hw9; intro K hK; go_big_quiet_op; go_big_quiet_on)
  (refine wpG_op rfl rfl rfl ?_; intro K hK; go_big_quiet_op; go_big_quiet_on)
  clear hone hw9
  refine wpG_nil ?_
  refine (hOp_fresh (R := FreshR 72 96 m (stepsC F (l.getD i []) (pathT l i) m).flatten) (M0 := [(w.heap.size, Obj.cells (arrB 32 leaf) 24 (0, 0))]) rfl rfl (fun _ h => h) (fun u hu => FAt_call (fid := 54) (xs := #[.tmp 53, .tmp 54, .tmp 58, .tmp 59]) (args := #[ndV, .slice Au m cu, idv (l.getD i []), .slice Av m cv]) rfl Tryd.func54 rfl rfl u (callsR_fresh (HCB.out u (EnvX.sub hu (fun _ h => by cases h))))) ?_)
  rintro x Nb hF hf he10; intro K' hK'; go_big_quiet_op; go_big_quiet_on
  obtain ⟨Ab, cb, rfl⟩ := FreshR.slice hF
  have HFb := Lib.hid hF
  clear hF
  clear hf
  change lexH _ _ _ _ _ _ (Nb ++ ((w.heap.size, Obj.cells (arrB 32 leaf) 24 (0, 0)) :: []))
  refine lexH_phase [8] [] ?_
  have hw11 : EnvX w3 _ (Nb ++ ((w.heap.size, Obj.cells (arrB 32 leaf) 24 (0, 0)) :: [])) := he10.choose_spec
  have hone := @EnvC.one _ _ _ hw11
  (refine wpG_op rfl rfl rfl ?_; intro K hK; go_big_quiet_op; go_big_quiet_on)
  clear hone hw11
  refine wpG_nil ?_
  intro u13 E2'
  have EX12 := Lib.hid E2'
  clear E2'
  go_upto_region 6 with (fail)
  refine wp_region_Hx (w0 := w3) [0, 1, 2, 3, 4, 5, 6] (Nb ++ ((w.heap.size, Obj.cells (arrB 32 leaf) 24 (0, 0)) :: [])) rfl EX12.out ?_
  refine lexH_phase [0, 1, 2, 3] [4, 5, 6] ?_
  have hw14 : EnvX w3 _ (Nb ++ ((w.heap.size, Obj.cells (arrB 32 leaf) 24 (0, 0)) :: [])) := EX12.out
  have hone := @EnvC.one _ _ _ hw14
  (refine wpG_op rfl rfl rfl ?_; intro K hK; go_big_quiet_op; go_big_quiet_on)
  (refine wpG_op rfl rfl rfl ?_; intro K hK; go_big_quiet_op; go_big_quiet_on)
  (refine wpG_val (v := idv leaf) rfl rfl (fun u hu => load_run_op u (box_load hu (List.mem_append_right _ (List.Mem.head _)) HX.out.1) rfl) ?_ hw14; intro K hK; go_big_quiet_op; go_big_quiet_on)
  (refine wpG_op rfl rfl rfl ?_; intro K hK; go_big_quiet_op; go_big_quiet_on)
  clear hone hw14
  refine wpG_nil ?_
  refine (hOp_fresh (R := FreshR 72 96 m (stepsC F leaf p m).flatten) (M0 := (Nb ++ ((w.heap.size, Obj.cells (arrB 32 leaf) 24 (0, 0)) :: []))) rfl rfl (fun _ h => h) (fun u hu => FAt_call (fid := 54) (xs := #[.tmp 61, .tmp 62, .tmp 63, .tmp 64]) (args := #[ndV, .slice Au m cu, idv leaf, .slice A2 m c2]) rfl Tryd.func54 rfl rfl u (callsR_fresh (HCA.out u (EnvX.sub hu (fun _ h => by cases h))))) ?_)
  rintro x Na hF hf he15; intro K' hK'; go_big_quiet_op; go_big_quiet_on
  obtain ⟨Aa, ca, rfl⟩ := FreshR.slice hF
  have HFa := Lib.hid hF
  clear hF
  clear hf
  change lexH _ _ _ _ _ _ (Na ++ (Nb ++ ((w.heap.size, Obj.cells (arrB 32 leaf) 24 (0, 0)) :: [])))
  refine lexH_phase [5, 6] [] ?_
  have hw16 : EnvX w3 _ (Na ++ (Nb ++ ((w.heap.size, Obj.cells (arrB 32 leaf) 24 (0, 0)) :: []))) := he15.choose_spec
  have hone := @EnvC.one _ _ _ hw16
  (refine wpG_val (v := .int .i64 (m : Int)) rfl rfl (fun u hu => len_op Tryd.underlying68 HMN.out u rfl) ?_ hw16; intro K hK; go_big_quiet_op; go_big_quiet_on)
  (refine wpG_op rfl rfl rfl ?_; intro K hK; go_big_quiet_op; go_big_quiet_on)
  clear hone hw16
  refine wpG_nil ?_
  intro u18 E2'
  have EX17 := Lib.hid E2'
  clear E2'
  have HRA := Lib.hid (st_rows (F := F) (n := m) HX.out HJ.out.1 (by rw [HM.out]; exact Nat.le_refl _))
  have HRB := Lib.hid (st_rows (F := F) (n := m) HY.out HRPI.out (by rw [HRPL.out]; exact Nat.le_refl _))
  have HCIA := Lib.hid (climb_id (sideS F) leaf p HX.out)
  have HCIB := Lib.hid (climb_id (sideS F) (l.getD i []) (pathT l i) HY.out)
  have hCA := own_cells (HFa.out.own (B := 0) (by rw [HRA.out.flat_len, st_len]) (fun y hy => ⟨Nat.zero_le _, EnvX.box EX17.out _ _ (List.mem_append_left _ hy)⟩))
  have hCB := own_cells (HFb.out.own (B := 0) (by rw [HRB.out.flat_len, st_len]) (fun y hy => ⟨Nat.zero_le _, EnvX.box EX17.out _ _ (List.mem_append_right _ (List.mem_append_left _ hy))⟩))
  have H34 := Lib.hid EX17.out.bel
  have HGA : Hid (0 < m → ∃ g, Aa = some ⟨g, 0, none⟩) := fun h0 => by
    obtain ⟨g, _, _, h, _⟩ := fresh_row HFa.out h0
    injection h with h1
    exact ⟨g, h1⟩
  have HGB : Hid (0 < m → ∃ g, Ab = some ⟨g, 0, none⟩) := fun h0 => by
    obtain ⟨g, _, _, h, _⟩ := fresh_row HFb.out h0
    injection h with h1
    exact ⟨g, h1⟩
  clear HFa HFb EX17
  generalize u18 = w4 at *
  have CA := Lib.hid hCA
  have CB := Lib.hid hCB
  have HB4 := Lib.hid (HB3.out.trans (H34.out.mono HB3.out.size))
  clear hCA hCB
  go_upto_region 7 with (fail)
  go_loopw [67] (fun ix u => ∃ k : Nat, k ≤ m ∧ ix = .int .i64 k ∧ Hid (EnvX w4 u []) ∧ Hid (∀ t, t < k → climbK (sideS F) leaf p (t + 1) ≠ climbK (sideS F) (l.getD i []) (pathT l i) (t + 1))) (fun ix _ => m - (intOf ix).toNat)
  case atStart => exact ⟨0, by omega, rfl, EnvX.start w4, fun t ht => by omega⟩
  case round =>
    obtain ⟨k, hk, rfl, EK, HNB⟩ := hrel
    by_cases hlt : k < m
    · have hk2 : (k : Int) < (m : Int) := by omega
      have HK := Lib.hid hlt
      obtain ⟨ga, rfl⟩ := HGA.out (by omega)
      obtain ⟨gb, rfl⟩ := HGB.out (by omega)
      have HPA : Hid ((p.getD k []).length = 32) := (HJ.out.1.get (by rw [HM.out]; exact hlt)).1
      have HPB : Hid (((pathT l i).getD k []).length = 32) := (HRPI.out.get (by rw [HRPL.out]; exact hlt)).1
      have HLA : Hid (∀ u, EnvX w4 u [] → (loadVar 72 ⟨ga, 0 + k * 96 + 0, none⟩).run Tryd.prog u = .ok (.agg (stA F leaf p k)) u) := fun u hu => by
        have h := rows_load aggStep (CA.out.up (EnvX.bel hu)) HRA.out (i := k) (o := 0) (by rw [st_len]; exact hlt) (Nat.le_refl _) (by decide) (xs := (stA F leaf p k).toList) (by rw [st_get hlt, List.drop_zero, List.take_of_length_le (by rw [Array.length_toList, st_size HX.out HPA.out]; omega)])
        rw [Array.toArray_toList] at h
        exact h
      have HLS : Hid (∀ u, EnvX w4 u [] → (loadVar 24 ⟨gb, 0 + k * 96 + 64, none⟩).run Tryd.prog u = .ok (idv (climbK (sideS F) (l.getD i []) (pathT l i) (k + 1))) u) := fun u hu => by
        have h := rows_load aggId (CB.out.up (EnvX.bel hu)) HRB.out (i := k) (o := 64) (by rw [st_len]; exact hlt) (Nat.le_refl _) (by decide) (xs := (arrB 32 (climbK (sideS F) (l.getD i []) (pathT l i) (k + 1))).toList) (by rw [st_get hlt]; exact st_sum HY.out HPB.out)
        rw [Array.toArray_toList] at h
        exact h
      have HLP : Hid (∀ u, EnvX w4 u [] → (loadVar 70 ⟨gb, 0 + k * 96 + 0, none⟩).run Tryd.prog u = .ok (.agg (pairV (F.getD k (0, 0, false)).2.2 (climbK (sideS F) (l.getD i []) (pathT l i) k) ((pathT l i).getD k []))) u) := fun u hu => by
        have h := rows_load aggIds2 (CB.out.up (EnvX.bel hu)) HRB.out (i := k) (o := 0) (by rw [st_len]; exact hlt) (by decide) (by decide) (xs := (pairV (F.getD k (0, 0, false)).2.2 (climbK (sideS F) (l.getD i []) (pathT l i) k) ((pathT l i).getD k [])).toList) (by rw [st_get hlt]; exact st_pair HY.out HPB.out)
        rw [Array.toArray_toList] at h
        exact h
      have HS96 : Hid ((stA F leaf p k).size = 96) := st_size HX.out HPA.out
      have HSUM := Lib.hid (st_sum (F := F) HX.out HPA.out)
      have HSPR := Lib.hid (st_pair (F := F) HX.out HPA.out)
      have HS1 := Lib.hid (st_one (F := F) (x := leaf) (p := p) (k := k))
      have HNA := Lib.hid (HCIA.out (k + 1)).1
      have HNBB := Lib.hid (HCIB.out (k + 1)).1
      generalize stA F leaf p k = st at *
      go_upto_region 8 with (fail)
      refine wp_region_Hx (w0 := w4) [0, 1, 2, 3, 4, 5] [] rfl EK.out ?_
      refine lexH_phase [0, 1, 2] [3, 4, 5] ?_
      have hw19 : EnvX w4 _ [] := EK.out
      have hone := @EnvC.one _ _ _ hw19
      (refine wpG_op rfl rfl rfl ?_; intro K hK; go_big_quiet_op; go_big_quiet_on)
      (refine wpG_val (v := .pointer (some ⟨ga, 0 + k * 96, none⟩)) rfl rfl (fun u hu => idxSlG_op Tryd.underlying68 aggStep.size HK.out u rfl rfl) ?_ hw19; intro K hK; go_big_quiet_op; go_big_quiet_on)
      (refine wpG_val (v := .agg st) rfl rfl (fun u hu => load_any_op u (HLA.out u hu) rfl) ?_ hw19; intro K hK; go_big_quiet_op; go_big_quiet_on)
      clear hone hw19
      refine wpG_nil ?_
      refine (hOp_fresh (R := fun x N => ∃ g, x = .pointer (some ⟨g, 0, none⟩) ∧ N = [(g, Obj.cells (arrB 96 []) 72 (0, 0))]) (M0 := []) rfl rfl (fun _ h => h) (fun u hu => FAt_new (new_step _) u) ?_)
      rintro _ _ ⟨g18, rfl, rfl⟩ hf he20; intro K' hK'; go_big_quiet_op; go_big_quiet_on
      have HG18 := Lib.hid (hf _ (List.mem_singleton.2 rfl))
      clear hf
      change lexH _ _ _ _ _ _ [(g18, Obj.cells (arrB 96 []) 72 (0, 0))]
      refine lexH_phase [4] [5] ?_
      have hw21 : EnvX w4 _ [(g18, Obj.cells (arrB 96 []) 72 (0, 0))] := he20.choose_spec
      have hone := @EnvC.one _ _ _ hw21
      (refine wpG_op rfl rfl rfl ?_; intro K hK; go_big_quiet_op; go_big_quiet_on)
      clear hone hw21
      refine wpG_nil ?_
      refine (hOp_store rfl (g18) (st) rfl rfl HG18.out.1 72 ((arrB 96 [])) (List.Mem.head _) (by rw [HS96.out]; exact info_step) ((arrB_size _ _ (by simp)).trans HS96.out.symm) HS1.out [(g18, Obj.cells (st) 72 (0, 0))] (List.forall_mem_cons.2 ⟨.inl rfl, (fun _ h => by cases h)⟩) ?_)
      intro he22
      intro u24 E2'
      have EX23 := Lib.hid E2'
      clear E2'
      by_cases hq : climbK (sideS F) leaf p (k + 1) = climbK (sideS F) (l.getD i []) (pathT l i) (k + 1)
      · have HEQK : Hid (eqL (climbK (sideS F) leaf p (k + 1)) (climbK (sideS F) (l.getD i []) (pathT l i) (k + 1)) = true) := decide_eq_true hq
        have HQ := Lib.hid hq
        clear hq
        go_upto_region 9 with (fail)
        refine wp_region_H (w0 := w4) [(g18, Obj.cells (st) 72 (0, 0))] (by kernel_rfl) EX23.out ?_
        refine anyH_phase [0, 1, 2, 3, 4, 5, 6, 7] 0 rfl ⟨_, (EnvX.drew EX23.out)⟩ (by kernel_rfl) ?_
        have hw25 : EnvX w4 _ [(g18, Obj.cells (st) 72 (0, 0))] := (EnvX.drew EX23.out)
        have hone := @EnvC.one _ _ _ hw25
        (refine wpG_op rfl rfl rfl ?_; intro K hK; go_big_quiet_op; go_big_quiet_on)
        (refine wpG_val (v := idv (climbK (sideS F) leaf p (k + 1))) rfl rfl (fun u hu => load_any_op u (box_idAt (k := 64) HNA.out hu (List.Mem.head _) HSUM.out) rfl) ?_ hw25; intro K hK; go_big_quiet_op; go_big_quiet_on)
        (refine wpG_op rfl rfl rfl ?_; intro K hK; go_big_quiet_op; go_big_quiet_on)
        (refine wpG_op rfl rfl rfl ?_; intro K hK; go_big_quiet_op; go_big_quiet_on)
        (refine wpG_val (v := .pointer (some ⟨gb, 0 + k * 96, none⟩)) rfl rfl (fun u hu => idxSlG_op Tryd.underlying68 aggStep.size HK.out u rfl rfl) ?_ hw25; intro K hK; go_big_quiet_op; go_big_quiet_on)
        (refine wpG_val (v := .pointer (some ⟨gb, 0 + k * 96 + 64, none⟩)) rfl rfl (fun u hu => fieldSum_op u rfl) ?_ hw25; intro K hK; go_big_quiet_op; go_big_quiet_on)
        (refine wpG_val (v := idv (climbK (sideS F) (l.getD i []) (pathT l i) (k + 1))) rfl rfl (fun u hu => load_any_op u (HLS.out u (EnvX.sub hu (fun _ h => by cases h))) rfl) ?_ hw25; intro K hK; go_big_quiet_op; go_big_quiet_on)
        (refine wpG_val (v := .bool true) rfl rfl (fun u hu => eqlb_op HNA.out HNBB.out HEQK.out u rfl rfl) ?_ hw25; intro K hK; go_big_quiet_op; go_big_quiet_on)
        clear hone hw25
        refine wpG_nil ?_
        refine anyH_done (by kernel_rfl) ?_
        intro u27 E2'
        have EX26 := Lib.hid E2'
        clear E2'
        have HLA2 := Lib.hid (lr_len (r := (F.getD k (0, 0, false)).2.2) (HCIA.out k).1 HPA.out)
        have HLB2 := Lib.hid (lr_len (r := (F.getD k (0, 0, false)).2.2) (HCIB.out k).1 HPB.out)
        have HSPR2 : Hid ((st.toList.drop 0).take 64 = (arrB 32 (leftV (F.getD k (0, 0, false)).2.2 (climbK (sideS F) leaf p k) (p.getD k [])) ++ arrB 32 (rightV (F.getD k (0, 0, false)).2.2 (climbK (sideS F) leaf p k) (p.getD k []))).toList) := by rw [← pair_lr]; exact HSPR.out
        have HLP2 : Hid (∀ u, EnvX w4 u [] → (loadVar 70 ⟨gb, 0 + k * 96 + 0, none⟩).run Tryd.prog u = .ok (.agg (arrB 32 (leftV (F.getD k (0, 0, false)).2.2 (climbK (sideS F) (l.getD i []) (pathT l i) k) ((pathT l i).getD k [])) ++ arrB 32 (rightV (F.getD k (0, 0, false)).2.2 (climbK (sideS F) (l.getD i []) (pathT l i) k) ((pathT l i).getD k [])))) u) := by rw [← pair_lr]; exact HLP.out
        have HTA := Lib.hid (fun u => text_any _ _ u HLA2.out.1 HLA2.out.2)
        have HTB := Lib.hid (fun u => text_any _ _ u HLB2.out.1 HLB2.out.2)
        have HZA : Hid ((arrB 32 (leftV (F.getD k (0, 0, false)).2.2 (climbK (sideS F) leaf p k) (p.getD k [])) ++ arrB 32 (rightV (F.getD k (0, 0, false)).2.2 (climbK (sideS F) leaf p k) (p.getD k []))).toList.length = 64) := by show _ = _; rw [Array.toList_append, List.length_append, idA_cells HLA2.out.1, idA_cells HLA2.out.2]
        have HTXA := Lib.hid (text_lr (F.getD k (0, 0, false)).2.2 (climbK (sideS F) leaf p k) (p.getD k []))
        have HTXB := Lib.hid (text_lr (F.getD k (0, 0, false)).2.2 (climbK (sideS F) (l.getD i []) (pathT l i) k) ((pathT l i).getD k []))
        have HSG : Hid ((sideS F).getD k true = !(F.getD k (0, 0, false)).2.2) := sideS_getD F (by rw [HKL.out]; exact hlt)
        have HLEN : Hid ((textT (leftV (F.getD k (0, 0, false)).2.2 (climbK (sideS F) leaf p k) (p.getD k [])) (rightV (F.getD k (0, 0, false)).2.2 (climbK (sideS F) leaf p k) (p.getD k []))).length = 65 ∧ (textT (leftV (F.getD k (0, 0, false)).2.2 (climbK (sideS F) (l.getD i []) (pathT l i) k) ((pathT l i).getD k [])) (rightV (F.getD k (0, 0, false)).2.2 (climbK (sideS F) (l.getD i []) (pathT l i) k) ((pathT l i).getD k []))).length = 65) := ⟨textT_len HLA2.out.1 HLA2.out.2, textT_len HLB2.out.1 HLB2.out.2⟩
        clear HSPR HLP
        generalize leftV (F.getD k (0, 0, false)).2.2 (climbK (sideS F) leaf p k) (p.getD k []) = la at *
        generalize rightV (F.getD k (0, 0, false)).2.2 (climbK (sideS F) leaf p k) (p.getD k []) = ra at *
        generalize leftV (F.getD k (0, 0, false)).2.2 (climbK (sideS F) (l.getD i []) (pathT l i) k) ((pathT l i).getD k []) = lb at *
        generalize rightV (F.getD k (0, 0, false)).2.2 (climbK (sideS F) (l.getD i []) (pathT l i) k) ((pathT l i).getD k []) = rb at *
        go_upto_region 10 with (fail)
        refine wp_region_H (w0 := w4) [(g18, Obj.cells (st) 72 (0, 0))] (by kernel_rfl) EX26.out ?_
        refine anyH_phase [0, 1, 3, 4, 5, 6, 7] 5 rfl ⟨_, (EnvX.drew EX26.out)⟩ (by kernel_rfl) ?_
        have hw28 : EnvX w4 _ [(g18, Obj.cells (st) 72 (0, 0))] := (EnvX.drew EX26.out)
        have hone := @EnvC.one _ _ _ hw28
        (refine wpG_val (v := .pointer (some ⟨g18, 0 + 0, none⟩)) rfl rfl (fun u hu => fieldSides_op u rfl) ?_ hw28; intro K hK; go_big_quiet_op; go_big_quiet_on)
        (refine wpG_val (v := .agg (arrB 32 la ++ arrB 32 ra)) rfl rfl (fun u hu => load_any_op u (by have h := box_agg aggIds2 (k := 0) hu (List.Mem.head _) _ HZA.out HSPR2.out; rwa [Array.toArray_toList] at h) rfl) ?_ hw28; intro K hK; go_big_quiet_op; go_big_quiet_on)
        (refine wpG_op rfl rfl rfl ?_; intro K hK; go_big_quiet_op; go_big_quiet_on)
        (refine wpG_op rfl rfl rfl ?_; intro K hK; go_big_quiet_op; go_big_quiet_on)
        (refine wpG_val (v := .pointer (some ⟨gb, 0 + k * 96, none⟩)) rfl rfl (fun u hu => idxSlG_op Tryd.underlying68 aggStep.size HK.out u rfl rfl) ?_ hw28; intro K hK; go_big_quiet_op; go_big_quiet_on)
        (refine wpG_val (v := .pointer (some ⟨gb, 0 + k * 96 + 0, none⟩)) rfl rfl (fun u hu => fieldSides_op u rfl) ?_ hw28; intro K hK; go_big_quiet_op; go_big_quiet_on)
        (refine wpG_val (v := .agg (arrB 32 lb ++ arrB 32 rb)) rfl rfl (fun u hu => load_any_op u (HLP2.out u (EnvX.sub hu (fun _ h => by cases h))) rfl) ?_ hw28; intro K hK; go_big_quiet_op; go_big_quiet_on)
        clear hone hw28
        refine wpG_nil ?_
        refine anyH_one (i := 2) (by kernel_rfl) (hOp_fresh (R := FreshR 5 1 65 ((textT la ra).map u8v)) (M0 := [(g18, Obj.cells (st) 72 (0, 0))]) rfl rfl (fun _ h => h) (fun u hu => FAt_call (fid := 55) (xs := #[.tmp 81]) (args := #[.agg (arrB 32 la ++ arrB 32 ra)]) rfl Tryd.func55 rfl rfl u (callsR_fresh (HTA.out u))) ?_)
        rintro tx N hF hf he29; intro K' hK'; go_big_quiet_op; go_big_quiet_on
        obtain ⟨gx, capx, curx, rfl, rfl, hcur⟩ := fresh_row hF (by decide)
        have HCx := Lib.hid (And.intro hcur (hf _ (List.mem_singleton.2 rfl)).1)
        clear hcur
        clear hf
        change anyH _ _ _ _ _ _ _ _ [(gx, Obj.cells curx 5 (0, 0)), (g18, Obj.cells (st) 72 (0, 0))]
        refine anyH_one (i := 8) (by kernel_rfl) (hOp_fresh (R := FreshR 5 1 65 ((textT lb rb).map u8v)) (M0 := [(gx, Obj.cells curx 5 (0, 0)), (g18, Obj.cells (st) 72 (0, 0))]) rfl rfl (fun _ h => h) (fun u hu => FAt_call (fid := 55) (xs := #[.tmp 87]) (args := #[.agg (arrB 32 lb ++ arrB 32 rb)]) rfl Tryd.func55 rfl rfl u (callsR_fresh (HTB.out u))) ?_)
        rintro tx N hF hf he30; intro K' hK'; go_big_quiet_op; go_big_quiet_on
        obtain ⟨gz, capz, curz, rfl, rfl, hcur⟩ := fresh_row hF (by decide)
        have HCz := Lib.hid (And.intro hcur (hf _ (List.mem_singleton.2 rfl)).1)
        clear hcur
        clear hf
        change anyH _ _ _ _ _ _ _ _ [(gz, Obj.cells curz 5 (0, 0)), (gx, Obj.cells curx 5 (0, 0)), (g18, Obj.cells (st) 72 (0, 0))]
        refine anyH_phase [9, 10, 11] 0 rfl ⟨_, he30.choose_spec⟩ (by kernel_rfl) ?_
        have hw31 : EnvX w4 _ [(gz, Obj.cells curz 5 (0, 0)), (gx, Obj.cells curx 5 (0, 0)), (g18, Obj.cells (st) 72 (0, 0))] := he30.choose_spec
        have hone := @EnvC.one _ _ _ hw31
        (refine wpG_op rfl rfl rfl ?_; intro K hK; go_big_quiet_op; go_big_quiet_on)
        (refine wpG_op rfl rfl rfl ?_; intro K hK; go_big_quiet_op; go_big_quiet_on)
        (refine wpG_op rfl rfl rfl ?_; intro K hK; go_big_quiet_op; go_big_quiet_on)
        clear hone hw31
        refine wpG_nil ?_
        refine anyH_done (by kernel_rfl) ?_
        intro u33 E2'
        have EX32 := Lib.hid E2'
        clear E2'
        have HOX : Hid (OwnB u33 w4.heap.size (.slice (some ⟨gx, 0, none⟩) 65 capx) (textT la ra)) := by
          have h := (FreshR.own (e := 5) (z := 1) (n := 65) (N := [(gx, Obj.cells curx 5 (0, 0))]) (.inl ⟨gx, capx, curx, rfl, rfl, HCx.out.1⟩) (by rw [List.length_map, HLEN.out.1]) (fun y hy => by cases List.mem_singleton.1 hy; exact ⟨HCx.out.2, EnvX.box EX32.out _ _ (List.Mem.tail _ (List.Mem.head _))⟩) : World.ownsRow u33 w4.heap.size _ _ _ _ _)
          rw [← HLEN.out.1] at h
          rw [← HLEN.out.1]
          exact h
        have HOZ : Hid (OwnB u33 w4.heap.size (.slice (some ⟨gz, 0, none⟩) 65 capz) (textT lb rb)) := by
          have h := (FreshR.own (e := 5) (z := 1) (n := 65) (N := [(gz, Obj.cells curz 5 (0, 0))]) (.inl ⟨gz, capz, curz, rfl, rfl, HCz.out.1⟩) (by rw [List.length_map, HLEN.out.2]) (fun y hy => by cases List.mem_singleton.1 hy; exact ⟨HCz.out.2, EnvX.box EX32.out _ _ (List.Mem.head _)⟩) : World.ownsRow u33 w4.heap.size _ _ _ _ _)
          rw [← HLEN.out.2] at h
          rw [← HLEN.out.2]
          exact h
        have HFIN := Lib.hid (HB4.out.trans (EX32.out.bel.mono HB4.out.size))
        have HCLT : Hid (clashT l (i : Int) leaf p = some (textT la ra, textT lb rb)) := by
          show _ = _
          obtain ⟨j, hj, hcl, hjm, hjf⟩ := HMEET.out
          have hjk : j = k := by
            rcases Nat.lt_trichotomy j k with h | h | h
            · exact absurd hjm (HNB.out j h)
            · exact h
            · exact absurd HQ.out (hjf k h)
          subst hjk
          rw [hcl, HSG.out, HTXA.out, HTXB.out]
        clear EX32
        go_wp2_with fail
        go_returns
        exact ⟨ClashR.yes HCLT.out rfl (HOX.out.less HB4.out.size) (HOZ.out.less HB4.out.size), HFIN.out⟩
      · have HEQK : Hid (eqL (climbK (sideS F) leaf p (k + 1)) (climbK (sideS F) (l.getD i []) (pathT l i) (k + 1)) = false) := decide_eq_false hq
        have HQ := Lib.hid hq
        clear hq
        go_upto_region 9 with (fail)
        refine wp_region_H (w0 := w4) [(g18, Obj.cells (st) 72 (0, 0))] (by kernel_rfl) EX23.out ?_
        refine anyH_phase [0, 1, 2, 3, 4, 5, 6, 7] 0 rfl ⟨_, (EnvX.drew EX23.out)⟩ (by kernel_rfl) ?_
        have hw25 : EnvX w4 _ [(g18, Obj.cells (st) 72 (0, 0))] := (EnvX.drew EX23.out)
        have hone := @EnvC.one _ _ _ hw25
        (refine wpG_op rfl rfl rfl ?_; intro K hK; go_big_quiet_op; go_big_quiet_on)
        (refine wpG_val (v := idv (climbK (sideS F) leaf p (k + 1))) rfl rfl (fun u hu => load_any_op u (box_idAt (k := 64) HNA.out hu (List.Mem.head _) HSUM.out) rfl) ?_ hw25; intro K hK; go_big_quiet_op; go_big_quiet_on)
        (refine wpG_op rfl rfl rfl ?_; intro K hK; go_big_quiet_op; go_big_quiet_on)
        (refine wpG_op rfl rfl rfl ?_; intro K hK; go_big_quiet_op; go_big_quiet_on)
        (refine wpG_val (v := .pointer (some ⟨gb, 0 + k * 96, none⟩)) rfl rfl (fun u hu => idxSlG_op Tryd.underlying68 aggStep.size HK.out u rfl rfl) ?_ hw25; intro K hK; go_big_quiet_op; go_big_quiet_on)
        (refine wpG_val (v := .pointer (some ⟨gb, 0 + k * 96 + 64, none⟩)) rfl rfl (fun u hu => fieldSum_op u rfl) ?_ hw25; intro K hK; go_big_quiet_op; go_big_quiet_on)
        (refine wpG_val (v := idv (climbK (sideS F) (l.getD i []) (pathT l i) (k + 1))) rfl rfl (fun u hu => load_any_op u (HLS.out u (EnvX.sub hu (fun _ h => by cases h))) rfl) ?_ hw25; intro K hK; go_big_quiet_op; go_big_quiet_on)
        (refine wpG_val (v := .bool false) rfl rfl (fun u hu => eqlb_op HNA.out HNBB.out HEQK.out u rfl rfl) ?_ hw25; intro K hK; go_big_quiet_op; go_big_quiet_on)
        clear hone hw25
        refine wpG_nil ?_
        refine anyH_done (by kernel_rfl) ?_
        intro u27 E2'
        have EX26 := Lib.hid E2'
        clear E2'
        have EN : Hid (EnvX w4 u27 []) := EnvX.sub EX26.out (fun _ h => by cases h)
        clear EX26
        go_wp2
        go_roundw
        case rel => exact ⟨k + 1, by omega, by go_num, EN, fun t ht => by
          by_cases htk : t = k
          · subst htk; exact HQ.out
          · exact HNB.out t (by omega)⟩
        case measure => simp [intOf]; omega
    · exfalso
      obtain rfl : k = m := by omega
      obtain ⟨j, hj, _, hjm, _⟩ := HMEET.out
      have hKl := HKL.out
      exact HNB.out j (by omega) hjm
end Go.Proofs.YtbjojpgedcikiaaDoor

namespace Go.Proofs.YtbjojpgedcikiaaDoor
set_option maxRecDepth 8000
open Go.RowKit

theorem clashBy_any (l : List (List Int)) (i : Int) (leaf : List Int) (p : List (List Int)) (A A2 : Option Addr) (n c m c2 : Nat) (w : World) (hl : l.length = n) (hn : n ≤ 64) (hnc : n ≤ c) (hi : I64 i)
    (hm : p.length = m) (hm6 : m ≤ 1000000) (hI : isIds l) (hA : IdsIn w w.heap.size A l) (hJ : isIds p) (hA2 : IdsIn w w.heap.size A2 p) (hx : isId leaf) (ht : Tables w) :
    Calls Tryd.prog 37 #[ndV, .slice A n c, .int .i64 i, idv leaf, .slice A2 m c2] w fun e w' => ClashR l i leaf p w.heap.size e w' ∧ Below w.heap.size w w' := by
  by_cases h : 0 ≤ i ∧ i < n
  · obtain ⟨j, rfl⟩ := Int.eq_ofNat_of_zero_le h.1
    by_cases he : leaf = l.getD j []
    · exact clash_b l j leaf p A A2 n c m c2 w hl hn hnc hm hm6 hI hA hJ hA2 hx ht (by omega) he
    · cases hb : checkT (rootT l) n j leaf p with
      | false => exact clash_c l j leaf p A A2 n c m c2 w hl hn hnc hm hm6 hI hA hJ hA2 hx ht (by omega) he hb
      | true => exact clash_d l j leaf p A A2 n c m c2 w hl hn hnc hm hm6 hI hA hJ hA2 hx ht (by omega) he hb
  · refine (clash_a i leaf A A2 n c m c2 w hn hi (by unfold standT; rw [decide_eq_false_iff_not]; omega)).mono ?_
    rintro e w' ⟨rfl, hb⟩
    refine ⟨ClashR.no (fun k => ?_) rfl, hb⟩
    have hk := k.1
    unfold checkT at hk
    simp only [decide_eq_true_eq] at hk
    omega
set_option maxRecDepth 20000 in
set_option maxHeartbeats 4000000 in
theorem clash_all (l : List (List Int)) (i : Int) (leaf : List Int) (p : List (List Int)) (A A2 : Option Addr) (n c m c2 : Nat) (w : World) (hl : l.length = n) (hn : n ≤ 64) (hnc : n ≤ c) (hi : I64 i)
    (hm : p.length = m) (hm6 : m ≤ 1000000) (hI : isIds l) (hA : IdsIn w w.heap.size A l) (hJ : isIds p) (hA2 : IdsIn w w.heap.size A2 p) (hx : isId leaf) (ht : Tables w) :
    Calls Tryd.prog 22 #[.slice A n c, .int .i64 i, idv leaf, .slice A2 m c2] w fun e w' => (∃ va vb, e = .returned (.tuple #[va, vb, .bool (clashP l i leaf p).2.2]) ∧ OwnB w' w.heap.size va (clashP l i leaf p).1 ∧ OwnB w' w.heap.size vb (clashP l i leaf p).2.1) ∧ Below w.heap.size w w' := by
  have HC : Hid (∀ u, EnvX w u [] → Calls Tryd.prog 37 #[ndV, .slice A n c, .int .i64 i, idv leaf, .slice A2 m c2] u fun e w' => (∃ va vb, e = .returned (.tuple #[va, vb, .bool (clashP l i leaf p).2.2]) ∧ OwnB w' u.heap.size va (clashP l i leaf p).1 ∧ OwnB w' u.heap.size vb (clashP l i leaf p).2.1) ∧ Below u.heap.size u w') := fun u hu => by
    refine (clashBy_any l i leaf p A A2 n c m c2 u hl hn hnc hi hm hm6 hI (hA.up (EnvX.bel hu)) hJ (hA2.up (EnvX.bel hu)) hx (ht.below (EnvX.bel hu))).mono ?_
    rintro e w' ⟨h, hb⟩
    refine ⟨?_, hb⟩
    unfold ClashR at h
    unfold clashP
    cases hcl : clashT l i leaf p with
    | none =>
      rw [hcl] at h
      exact ⟨_, _, h, OwnB.nil _ _, OwnB.nil _ _⟩
    | some ab =>
      rw [hcl] at h
      obtain ⟨va, vb, he, h1, h2⟩ := h
      exact ⟨va, vb, he, h1, h2⟩
  have HX := Lib.hid hx.1
  have E1 : Hid (EnvX w (w.alloc (.cells (arrB 32 leaf) 24)) [(w.heap.size, Obj.cells (arrB 32 leaf) 24 (0, 0))]) := (EnvX.start w).new _
  clear hI hA hJ hA2 hx ht hi
  generalize clashP l i leaf p = cp at *
  have hb1 := E1.out.bel
  have HLD : Hid ((loadVar 24 ⟨w.heap.size, 0, none⟩).run Tryd.prog (w.alloc (.cells (arrB 32 leaf) 24)) = .ok (idv leaf) (w.alloc (.cells (arrB 32 leaf) 24))) := box_load E1.out (List.Mem.head _) HX.out
  unfold idv at HLD HC ⊢
  unfold ndV at HC
  generalize arrB 32 leaf = cl at *
  go_enter Tryd.func22, Tryd.ntmps22
  go_upto_region 1 with (fail)
  show Code.wp _ _ _ _ (w.alloc (.cells cl 24))
  generalize w.alloc (.cells cl 24) = W at *
  have HCW := Lib.hid (HC.out W (EnvX.sub E1.out (fun _ h => by cases h)))
  go_wp2_with ((with_reducible refine wpList_load_run (o := ⟨some 13, _, _, _, _, _⟩) ?_ 24 (.tmp 6) ?_ ⟨w.heap.size, 0, none⟩ ?_ HLD.out ?_); (rfl); (rfl); (rfl))
  refine HCW.out.mono ?_
  rintro e w1 ⟨⟨va, vb, rfl, h1, h2⟩, hb⟩
  have HV := Lib.hid (And.intro (h1.less hb1.size) (And.intro (h2.less hb1.size) (hb1.trans (hb.mono hb1.size))))
  clear h1 h2 hb HCW HC
  go_wp2_with fail
  go_returns
  exact ⟨⟨_, _, rfl, HV.out.1, HV.out.2.1⟩, HV.out.2.2⟩
end Go.Proofs.YtbjojpgedcikiaaDoor

namespace Go.Proofs.YtbjojpgedcikiaaDoor
set_option maxRecDepth 8000
open Go.RowKit

theorem treeC : TreeC where
  node := fun a b w ha hb ht => node_any a b w ha hb ht
  leaf := fun A n c xs w hl hn hx hr ht => leaf_any A n c xs w hl hn hx hr ht
  root := fun l A n c w hl hn _ _ hI hA ht => root_any l A n c w hl hn hI hA ht
  path := fun l i A n c w hl hn hnc _ hi hI hA ht => Path_any l i A n c w hl hn hnc hi hI hA ht
  check := fun root leaf n i p A m c w hr hx hn hi hm hm6 _ _ hI hA ht => check_any root leaf n i p A m c w hr hx hn hi hm hm6 hI hA ht
  clash := fun l i leaf p A A2 n c m c2 w hl hn hnc _ hi hm hm6 _ _ hI hA hJ hA2 hx ht => clash_all l i leaf p A A2 n c m c2 w hl hn hnc hi hm hm6 hI hA hJ hA2 hx ht
end Go.Proofs.YtbjojpgedcikiaaDoor

namespace Go.Proofs.YtbjojpgedcikiaaDoor
set_option maxRecDepth 8000
open Go.RowKit

theorem linkC_of (T : TreeC) : LinkC where
  next := fun l id lev A n c w hl hn _ _ hI hid hlev hA _ => link_next l id lev A n c w hl hn hlev hI hid hA
  root := fun l A n c w hl hn hnc hcm hI hA ht => link_root T l A n c w hl hn hnc hcm hI hA ht
  path := fun l i A n c w hl hn hnc hcm hi hI hA ht => link_path T l A n c w hl hn hnc hcm hI hA i hi ht
  check := fun root id n i p A m c w hr hid hn hi hm hm6 hmc hcm hJ hA ht => link_check T root id n i p A m c w hr hid hn hi hm hm6 hmc hcm hJ hA ht
  leads := fun l prev id A n c w hl hn _ _ hI hp hid hA _ => link_leads l prev id A n c w hl hn hI hA hp hid
theorem linkC : LinkC := linkC_of treeC
end Go.Proofs.YtbjojpgedcikiaaDoor
