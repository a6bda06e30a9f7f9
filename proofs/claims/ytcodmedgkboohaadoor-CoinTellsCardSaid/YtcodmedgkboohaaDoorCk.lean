/- Part of a proof. -/
import Derived.Test.YtcodmedgkboohaaDoorCj
import Derived.RangeFuncBox
import Derived.RangeFuncNested
import Derived.RangeFuncBound
import Derived.RangeFuncCalls
import Derived.RangeFuncLeaves
import Derived.Shelf.Abstract
import Derived.Shelf.RegionOpen
import Derived.WalkKit
import Derived.OwnWalkIn
import Derived.TacticsInMore
import Derived.LoopNIn
import Derived.LoopIn
namespace Go.Proofs.YtcodmedgkboohaaDoor
set_option maxRecDepth 8000
open Go.RowKit

set_option maxRecDepth 20000 in
set_option maxHeartbeats 8000000 in
theorem rdouts_any (A : Option Addr) (n c g : Nat) (b : List Int) (p0 : Nat) (R : Boxes) (w0 w : World) (m : Nat) (hm : (b.getD p0 0).toNat = m) (hr0 : RdAt w0 b p0 A n c) (hB : isB b) (hg : w0.heap.size ≤ g) (hR : ∀ y ∈ R, y.1 ≠ g) (hE : EnvX w0 w ((g, rdO A n c) :: R)) :
    Calls Tryd.prog 31 #[.pointer (some ⟨g, 0, none⟩)] w fun e w' => (((p0 + 1) + 7 * m) ≤ b.length ∧ ∃ A' n' c' v N1, e = .returned v ∧ RdAt w0 b (((p0 + 1) + 7 * m)) A' n' c' ∧ FreshR 49 2 m ((outsAt b (p0 + 1) m).map outC).flatten v N1 ∧ (∀ y ∈ N1, w0.heap.size ≤ y.1 ∧ y.1 ≠ g ∧ ∀ z ∈ R, z.1 ≠ y.1) ∧ EnvX w0 w' ((g, rdO A' n' c') :: (R ++ N1))) ∨ (b.length < ((p0 + 1) + 7 * m) ∧ ∃ ch, e = .panicked ch ∧ oneUp ch ∧ EnvX w0 w' R) := by
  have HGG := Lib.hid hg
  have HRR := Lib.hid hR
  have HBB := Lib.hid hB
  have HM := Lib.hid hm
  have E1 : Hid (EnvX w0 w ((g, rdO A n c) :: R)) := hE
  have HL0 := Lib.hid hr0.1
  by_cases k0 : n = 0
  · subst k0
    have hz : b.getD p0 0 = 0 := by
      rw [List.getD_eq_getElem?_getD, List.getElem?_eq_none (by have := hr0.1; omega)]
      rfl
    have HSH : Hid (b.length < (p0 + 1) + 7 * m) := by show _ < _; have := hr0.1; omega
    have hcm : 0 ≤ maxLen := Nat.zero_le _
    have HNN : Hid (∀ u, EnvX w0 u ((g, rdO A 0 c) :: R) → Calls Tryd.prog 51 #[.pointer (some ⟨g, 0, none⟩), .int .i64 (1 : Int)] u fun e w' => ∃ ch, e = .panicked ch ∧ oneUp ch ∧ EnvX w0 w' ((g, rdO A 0 c) :: R)) := fun u hu => rdnum_none A 0 c 1 g R w0 u (by decide) hcm hu
    clear hz hcm hm hr0 hB hg hR hE
    go_enter Tryd.func31, Tryd.ntmps31
    go_upto_region 2 with (fail)
    refine wp_region_HPx ⟨fun ch u => b.length < (p0 + 1) + 7 * m ∧ oneUp ch ∧ EnvX w0 u R, fun _ => []⟩ (w0 := w0) [0, 1, 2] ((g, Obj.cells #[.slice A 0 c] 56 (0, 0)) :: R) rfl E1.out (fun a' ha ch u h => ⟨ha.1, .inr ⟨h.1, ch, rfl, h.2⟩⟩) ?_
    refine lexH_phase [0] [1, 2] ?_
    have hw1 : EnvX w0 _ ((g, Obj.cells #[.slice A 0 c] 56 (0, 0)) :: R) := E1.out
    have hone := @EnvC.one _ _ _ hw1
    (refine wpG_op rfl rfl rfl ?_; intro K hK; go_big_quiet_op; go_big_quiet_on)
    clear hone hw1
    refine wpG_nil ?_
    refine (hOp_panics ((g, Obj.cells #[.slice A 0 c] 56 (0, 0)) :: R) rfl rfl (fun _ h => h) (fun u hu => PUpon_call (fid := 51) (xs := #[.tmp 5, .const (Value.int IntKind.i64 1)]) (args := #[.pointer (some ⟨g, 0, none⟩), .int .i64 (1 : Int)]) rfl Tryd.func51 rfl rfl u ((HNN.out u hu).mono fun e w' h => let ⟨ch, e1, e2, e3⟩ := h; ⟨ch, e1, HSH.out, e2, e3.sub (fun _ h => List.mem_cons_of_mem _ h)⟩)))
  · obtain ⟨B1, n1, d1, e1, hr1, hv, hnb⟩ := hr0.num1 hB hg (by omega)
    have hv0 : b.getD p0 0 = (m : Int) := by omega
    have HM255 : Hid (m ≤ 255) := by show _ ≤ _; omega
    rw [hv0] at hnb
    have HNB := Lib.hid hnb
    have hr1' : RdAt w0 b ((p0 + 1) + 7 * 0) B1 n1 d1 := by rwa [show (p0 + 1) + 7 * 0 = p0 + 1 by omega]
    have HRD := Lib.hid hr1'
    clear hr1' hr1 hv hv0 hnb e1 hr0 hm hB hg hR hE k0
    go_enter Tryd.func31, Tryd.ntmps31
    go_upto_region 2 with (fail)
    refine wp_region_Hx (w0 := w0) [0, 1, 2] ((g, Obj.cells #[.slice A n c] 56 (0, 0)) :: R) rfl E1.out ?_
    refine lexH_phase [0] [1, 2] ?_
    have hw1 : EnvX w0 _ ((g, Obj.cells #[.slice A n c] 56 (0, 0)) :: R) := E1.out
    have hone := @EnvC.one _ _ _ hw1
    (refine wpG_op rfl rfl rfl ?_; intro K hK; go_big_quiet_op; go_big_quiet_on)
    clear hone hw1
    refine wpG_nil ?_
    refine (hOp_turn (gd := none) (R := fun x M' => x = .int .i64 (m : Int) ∧ M' = ((g, rdO B1 n1 d1) :: R)) rfl rfl rfl rfl (fun u hu => OUpon_call (fid := 51) (xs := #[.tmp 5, .const (.int .i64 1)]) (args := #[.pointer (some ⟨g, 0, none⟩), .int .i64 (1 : Int)]) rfl Tryd.func51 rfl rfl u ((HNB.out _ u HRR.out hu).mono fun e w' h => ⟨_, _, h.1, h.2, rfl, rfl⟩)) ?_)
    rintro _ _ ⟨rfl, rfl⟩ he2; intro K' hK'; go_big_quiet_op; go_big_quiet_on
    change lexH _ _ _ _ _ _ ((g, rdO B1 n1 d1) :: R)
    refine lexH_phase [2] [] ?_
    have hw3 : EnvX w0 _ ((g, rdO B1 n1 d1) :: R) := he2.choose_spec
    have hone := @EnvC.one _ _ _ hw3
    (refine wpG_op rfl rfl rfl ?_; intro K hK; go_big_quiet_op; go_big_quiet_on)
    clear hone hw3
    refine wpG_nil ?_
    intro u5 E2'
    have EX4 := Lib.hid E2'
    clear E2'
    have HINV : Hid (∃ A' n' c' N1, RdAt w0 b ((p0 + 1) + 7 * 0) A' n' c' ∧ FreshR 49 2 0 ((outsAt b (p0 + 1) 0).map outC).flatten (.slice none 0 0) N1 ∧ (∀ y ∈ N1, w0.heap.size ≤ y.1 ∧ y.1 ≠ g ∧ ∀ z ∈ R, z.1 ≠ y.1) ∧ EnvX w0 u5 ((g, rdO A' n' c') :: (R ++ N1))) := ⟨B1, n1, d1, [], HRD.out, .inr ⟨rfl, rfl, rfl, rfl⟩, (fun y hy => by cases hy), by rw [List.append_nil]; exact EX4.out⟩
    clear EX4 E1 HNB HRD
    go_upto_region 3 with (fail)
    go_loopw [3, 7] (fun v iv u => ∃ i : Nat, i ≤ m ∧ iv = .int .i64 (i : Int) ∧ Hid (∃ A' n' c' N1, RdAt w0 b ((p0 + 1) + 7 * i) A' n' c' ∧ FreshR 49 2 i ((outsAt b (p0 + 1) i).map outC).flatten v N1 ∧ (∀ y ∈ N1, w0.heap.size ≤ y.1 ∧ y.1 ≠ g ∧ ∀ z ∈ R, z.1 ≠ y.1) ∧ EnvX w0 u ((g, rdO A' n' c') :: (R ++ N1)))) (fun _ iv _ => m - (intOf iv).toNat)
    case atStart => exact ⟨0, by omega, rfl, HINV⟩
    case round =>
      obtain ⟨i, hi, rfl, hinv⟩ := hrel
      obtain ⟨A', n', c', N1, hr, hF, hN, hE⟩ := hinv.out
      have HF := Lib.hid hF
      have HN := Lib.hid hN
      have EK := Lib.hid hE
      clear hinv HINV hF hN hE
      by_cases hlt : i < m
      · have C3 : Hid (decide ((i : Int) < (m : Int)) = true) := decide_eq_true (by omega)
        have HI := Lib.hid hlt
        have HR1 : Hid (∀ y ∈ R ++ N1, y.1 ≠ g) := fun y hy => (List.mem_append.1 hy).elim (fun h => HRR.out y h) (fun h => (HN.out y h).2.1)
        obtain ⟨L, hL⟩ : ∃ L, outsAt b (p0 + 1) i = L := ⟨_, rfl⟩
        have HL := Lib.hid hL
        rw [hL] at HF
        have hp := hr.1
        have hmul : 7 * (i + 1) ≤ 7 * m := Nat.mul_le_mul_left _ (by omega)
        by_cases k32 : n' < 6
        · have HTN : Hid (∀ u, EnvX w0 u ((g, rdO A' n' c') :: (R ++ N1)) → Calls Tryd.prog 51 #[.pointer (some ⟨g, 0, none⟩), .int .i64 (6 : Int)] u fun e w' => ∃ ch, e = .panicked ch ∧ oneUp ch ∧ EnvX w0 w' ((g, rdO A' n' c') :: (R ++ N1))) := fun u hu => rdnum_none A' n' c' 6 g _ w0 u k32 (by have := hr.2.1; have := hr.2.2.1; omega) hu
          have HSH : Hid (b.length < (p0 + 1) + 7 * m) := by show _ < _; omega
          clear hlt hr hp k32 hL hmul
          go_upto_region 3 with (fail)
          refine wp_region_Hx (w0 := w0) [0] ((g, rdO A' n' c') :: (R ++ N1)) rfl EK.out ?_
          refine lexH_phase [0] [] ?_
          have hw41 : EnvX w0 _ ((g, rdO A' n' c') :: (R ++ N1)) := EK.out
          have hone := @EnvC.one _ _ _ hw41
          (refine wpG_val (v := .bool true) rfl rfl (fun u hu => ltZ_op u C3.out rfl rfl) ?_ hw41; intro K hK; go_big_quiet_op; go_big_quiet_on)
          clear hone hw41
          refine wpG_nil ?_
          intro u43 E2'
          have EX42 := Lib.hid E2'
          clear E2'
          go_upto_region 4 with (fail)
          refine wp_region_HPx ⟨fun ch u => b.length < (p0 + 1) + 7 * m ∧ oneUp ch ∧ EnvX w0 u R, fun _ => []⟩ (w0 := w0) [0, 1, 2] ((g, rdO A' n' c') :: (R ++ N1)) rfl EX42.out (fun a' ha ch u h => ⟨ha.1, .inr ⟨h.1, ch, rfl, h.2⟩⟩) ?_
          refine lexH_phase [0] [1, 2] ?_
          have hw44 : EnvX w0 _ ((g, rdO A' n' c') :: (R ++ N1)) := EX42.out
          have hone := @EnvC.one _ _ _ hw44
          (refine wpG_op rfl rfl rfl ?_; intro K hK; go_big_quiet_op; go_big_quiet_on)
          clear hone hw44
          refine wpG_nil ?_
          refine (hOp_panics ((g, rdO A' n' c') :: (R ++ N1)) rfl rfl (fun _ h => h) (fun u hu => PUpon_call (fid := 51) (xs := #[.tmp 9, .const (Value.int IntKind.i64 6)]) (args := #[.pointer (some ⟨g, 0, none⟩), .int .i64 (6 : Int)]) rfl Tryd.func51 rfl rfl u ((HTN.out u hu).mono fun e w' h => let ⟨ch, e1, e2, e3⟩ := h; ⟨ch, e1, HSH.out, e2, e3.sub (fun _ h => List.mem_cons_of_mem _ (List.mem_append_left _ h))⟩)))
        · obtain ⟨A'', n'', c'', e2, hr2, htk⟩ := hr.num (k := 6) HBB.out HGG.out (by decide) (by omega)
          obtain ⟨gv, hys⟩ : ∃ gv, getL ((b.drop (p0 + 1 + 7 * i)).take 6) = gv := ⟨_, rfl⟩
          rw [hys] at htk
          have HTK := Lib.hid htk
          by_cases k33 : n'' = 0
          · subst k33
            have HNN : Hid (∀ (R : Boxes) (u : World), EnvX w0 u ((g, rdO A'' 0 c'') :: R) → Calls Tryd.prog 51 #[.pointer (some ⟨g, 0, none⟩), .int .i64 (1 : Int)] u fun e w' => ∃ ch, e = .panicked ch ∧ oneUp ch ∧ EnvX w0 w' ((g, rdO A'' 0 c'') :: R)) := fun R u h => rdnum_none A'' 0 c'' 1 g R w0 u (by decide) (Nat.zero_le _) h
            have HSH : Hid (b.length < (p0 + 1) + 7 * m) := by show _ < _; omega
            clear hlt hr hp k32 hL hmul e2 hr2 htk hys
            go_upto_region 3 with (fail)
            refine wp_region_Hx (w0 := w0) [0] ((g, rdO A' n' c') :: (R ++ N1)) rfl EK.out ?_
            refine lexH_phase [0] [] ?_
            have hw61 : EnvX w0 _ ((g, rdO A' n' c') :: (R ++ N1)) := EK.out
            have hone := @EnvC.one _ _ _ hw61
            (refine wpG_val (v := .bool true) rfl rfl (fun u hu => ltZ_op u C3.out rfl rfl) ?_ hw61; intro K hK; go_big_quiet_op; go_big_quiet_on)
            clear hone hw61
            refine wpG_nil ?_
            intro u63 E2'
            have EX62 := Lib.hid E2'
            clear E2'
            go_upto_region 4 with (fail)
            refine wp_region_Hx (w0 := w0) [0, 1, 2] ((g, rdO A' n' c') :: (R ++ N1)) rfl EX62.out ?_
            refine lexH_phase [0] [1, 2] ?_
            have hw64 : EnvX w0 _ ((g, rdO A' n' c') :: (R ++ N1)) := EX62.out
            have hone := @EnvC.one _ _ _ hw64
            (refine wpG_op rfl rfl rfl ?_; intro K hK; go_big_quiet_op; go_big_quiet_on)
            clear hone hw64
            refine wpG_nil ?_
            refine (hOp_turn (gd := none) (R := fun x M' => x = .int .i64 (gv : Int) ∧ M' = ((g, rdO A'' 0 c'') :: (R ++ N1))) rfl rfl rfl rfl (fun u hu => OUpon_call (fid := 51) (xs := #[.tmp 9, .const (.int .i64 6)]) (args := #[.pointer (some ⟨g, 0, none⟩), .int .i64 (6 : Int)]) rfl Tryd.func51 rfl rfl u ((HTK.out _ u HR1.out hu).mono fun e w' h => ⟨_, _, h.1, h.2, rfl, rfl⟩)) ?_)
            rintro _ _ ⟨rfl, rfl⟩ he65; intro K' hK'; go_big_quiet_op; go_big_quiet_on
            change lexH _ _ _ _ _ _ ((g, rdO A'' 0 c'') :: (R ++ N1))
            refine lexH_phase [2] [] ?_
            have hw66 : EnvX w0 _ ((g, rdO A'' 0 c'') :: (R ++ N1)) := he65.choose_spec
            have hone := @EnvC.one _ _ _ hw66
            (refine wpG_op rfl rfl rfl ?_; intro K hK; go_big_quiet_op; go_big_quiet_on)
            clear hone hw66
            refine wpG_nil ?_
            intro u68 E2'
            have EX67 := Lib.hid E2'
            clear E2'
            go_upto_region 5 with (fail)
            refine wp_region_HPx ⟨fun ch u => b.length < (p0 + 1) + 7 * m ∧ oneUp ch ∧ EnvX w0 u R, fun _ => []⟩ (w0 := w0) [0, 1, 2, 3, 4, 5, 6, 7] ((g, rdO A'' 0 c'') :: (R ++ N1)) rfl EX67.out (fun a' ha ch u h => ⟨ha.1, .inr ⟨h.1, ch, rfl, h.2⟩⟩) ?_
            refine lexH_phase [0, 1, 2] [3, 4, 5, 6, 7] ?_
            have hw69 : EnvX w0 _ ((g, rdO A'' 0 c'') :: (R ++ N1)) := EX67.out
            have hone := @EnvC.one _ _ _ hw69
            (refine wpG_op rfl rfl rfl ?_; intro K hK; go_big_quiet_op; go_big_quiet_on)
            (refine wpG_op rfl rfl rfl ?_; intro K hK; go_big_quiet_op; go_big_quiet_on)
            (refine wpG_op rfl rfl rfl ?_; intro K hK; go_big_quiet_op; go_big_quiet_on)
            clear hone hw69
            refine wpG_nil ?_
            refine (hOp_panics ((g, rdO A'' 0 c'') :: (R ++ N1)) rfl rfl (fun _ h => h) (fun u hu => PUpon_call (fid := 51) (xs := #[.tmp 13, .const (Value.int IntKind.i64 1)]) (args := #[.pointer (some ⟨g, 0, none⟩), .int .i64 (1 : Int)]) rfl Tryd.func51 rfl rfl u ((HNN.out _ u hu).mono fun e w' h => let ⟨ch, e1, e2, e3⟩ := h; ⟨ch, e1, HSH.out, e2, e3.sub (fun _ h => List.mem_cons_of_mem _ (List.mem_append_left _ h))⟩)))
          · obtain ⟨A3, n3, c3, e3, hr3, -, hnb⟩ := hr2.num1 HBB.out HGG.out (by omega)
            obtain ⟨v1, hvv⟩ : ∃ v1, b.getD ((p0 + 1) + 7 * i + 6) 0 = v1 := ⟨_, rfl⟩
            rw [hvv] at hnb
            have HNB := Lib.hid hnb
            have hr3' : RdAt w0 b ((p0 + 1) + 7 * (i + 1)) A3 n3 c3 := by rwa [show (p0 + 1) + 7 * i + 6 + 1 = (p0 + 1) + 7 * (i + 1) by omega] at hr3
            have HRD := Lib.hid hr3'
            have HST : Hid (outsAt b (p0 + 1) (i + 1) = L ++ [⟨(gv : Int), v1⟩]) := by show _ = _; rw [outsAt_step2, HL.out, hys, hvv]
            have HSF : Hid (((outsAt b (p0 + 1) (i + 1)).map outC).flatten = (L.map outC).flatten ++ outC ⟨(gv : Int), v1⟩) := by show _ = _; rw [HST.out, List.map_append, List.flatten_append, List.map_singleton, List.flatten_singleton]
            have HSL : Hid ((L.map outC).flatten.length = i * 2) := by
              show _ = _
              rw [← HL.out]
              exact outsAt_flat _ _ _
            clear hlt hr hp k32 hL hmul e2 hr2 htk hys k33 e3 hr3 hnb hr3' hvv HST
            generalize (L.map outC).flatten = xs at *
            go_upto_region 3 with (fail)
            refine wp_region_Hx (w0 := w0) [0] ((g, rdO A' n' c') :: (R ++ N1)) rfl EK.out ?_
            refine lexH_phase [0] [] ?_
            have hw101 : EnvX w0 _ ((g, rdO A' n' c') :: (R ++ N1)) := EK.out
            have hone := @EnvC.one _ _ _ hw101
            (refine wpG_val (v := .bool true) rfl rfl (fun u hu => ltZ_op u C3.out rfl rfl) ?_ hw101; intro K hK; go_big_quiet_op; go_big_quiet_on)
            clear hone hw101
            refine wpG_nil ?_
            intro u103 E2'
            have EX102 := Lib.hid E2'
            clear E2'
            go_upto_region 4 with (fail)
            refine wp_region_Hx (w0 := w0) [0, 1, 2] ((g, rdO A' n' c') :: (R ++ N1)) rfl EX102.out ?_
            refine lexH_phase [0] [1, 2] ?_
            have hw104 : EnvX w0 _ ((g, rdO A' n' c') :: (R ++ N1)) := EX102.out
            have hone := @EnvC.one _ _ _ hw104
            (refine wpG_op rfl rfl rfl ?_; intro K hK; go_big_quiet_op; go_big_quiet_on)
            clear hone hw104
            refine wpG_nil ?_
            refine (hOp_turn (gd := none) (R := fun x M' => x = .int .i64 (gv : Int) ∧ M' = ((g, rdO A'' n'' c'') :: (R ++ N1))) rfl rfl rfl rfl (fun u hu => OUpon_call (fid := 51) (xs := #[.tmp 9, .const (.int .i64 6)]) (args := #[.pointer (some ⟨g, 0, none⟩), .int .i64 (6 : Int)]) rfl Tryd.func51 rfl rfl u ((HTK.out _ u HR1.out hu).mono fun e w' h => ⟨_, _, h.1, h.2, rfl, rfl⟩)) ?_)
            rintro _ _ ⟨rfl, rfl⟩ he105; intro K' hK'; go_big_quiet_op; go_big_quiet_on
            change lexH _ _ _ _ _ _ ((g, rdO A'' n'' c'') :: (R ++ N1))
            refine lexH_phase [2] [] ?_
            have hw106 : EnvX w0 _ ((g, rdO A'' n'' c'') :: (R ++ N1)) := he105.choose_spec
            have hone := @EnvC.one _ _ _ hw106
            (refine wpG_op rfl rfl rfl ?_; intro K hK; go_big_quiet_op; go_big_quiet_on)
            clear hone hw106
            refine wpG_nil ?_
            intro u108 E2'
            have EX107 := Lib.hid E2'
            clear E2'
            go_upto_region 5 with (fail)
            refine wp_region_Hx (w0 := w0) [0, 1, 2, 3, 4, 5, 6, 7] ((g, rdO A'' n'' c'') :: (R ++ N1)) rfl EX107.out ?_
            refine lexH_phase [0, 1, 2] [3, 4, 5, 6, 7] ?_
            have hw109 : EnvX w0 _ ((g, rdO A'' n'' c'') :: (R ++ N1)) := EX107.out
            have hone := @EnvC.one _ _ _ hw109
            (refine wpG_op rfl rfl rfl ?_; intro K hK; go_big_quiet_op; go_big_quiet_on)
            (refine wpG_op rfl rfl rfl ?_; intro K hK; go_big_quiet_op; go_big_quiet_on)
            (refine wpG_op rfl rfl rfl ?_; intro K hK; go_big_quiet_op; go_big_quiet_on)
            clear hone hw109
            refine wpG_nil ?_
            refine (hOp_turn (gd := none) (R := fun x M' => x = .int .i64 v1 ∧ M' = ((g, rdO A3 n3 c3) :: (R ++ N1))) rfl rfl rfl rfl (fun u hu => OUpon_call (fid := 51) (xs := #[.tmp 13, .const (.int .i64 1)]) (args := #[.pointer (some ⟨g, 0, none⟩), .int .i64 (1 : Int)]) rfl Tryd.func51 rfl rfl u ((HNB.out _ u HR1.out hu).mono fun e w' h => ⟨_, _, h.1, h.2, rfl, rfl⟩)) ?_)
            rintro _ _ ⟨rfl, rfl⟩ he110; intro K' hK'; go_big_quiet_op; go_big_quiet_on
            change lexH _ _ _ _ _ _ ((g, rdO A3 n3 c3) :: (R ++ N1))
            refine lexH_phase [4] [5, 6, 7] ?_
            have hw111 : EnvX w0 _ ((g, rdO A3 n3 c3) :: (R ++ N1)) := he110.choose_spec
            have hone := @EnvC.one _ _ _ hw111
            (refine wpG_val (v := .agg (outC ⟨(gv : Int), v1⟩).toArray) rfl rfl (fun u hu => buildA_op u built_out) ?_ hw111; intro K hK; go_big_quiet_op; go_big_quiet_on)
            clear hone hw111
            refine wpG_nil ?_
            refine (hOp_fresh (R := BuiltR 49 (outC ⟨(gv : Int), v1⟩)) (M0 := ((g, rdO A3 n3 c3) :: (R ++ N1))) rfl rfl (fun _ h => h) (fun u hu => FAt_buildR elOut (rfl) (outC_one _) rfl u) ?_)
            rintro _ _ ⟨gq, rfl, rfl⟩ hf he112; intro K' hK'; go_big_quiet_op; go_big_quiet_on
            clear hf
            change lexH _ _ _ _ _ _ ((gq, Obj.cells (outC ⟨(gv : Int), v1⟩).toArray 49 (0, 0)) :: ((g, rdO A3 n3 c3) :: (R ++ N1)))
            refine (hOp_own (gd := none) (R := GrownR w0 49 2 (i + 1) (xs ++ outC ⟨(gv : Int), v1⟩) ((g, rdO A3 n3 c3) :: R)) rfl rfl rfl rfl (fun u hu => appR_op elOut (m := 1) (c := 1) ((g, rdO A3 n3 c3) :: R) hu HSL.out (by rw [Nat.one_mul]; exact rfl) (outC_one _) HF.out (fun y hy => ⟨List.mem_cons_of_mem _ (List.mem_cons_of_mem _ (List.mem_append_right _ hy)), (HN.out y hy).1⟩) (List.Mem.head _) (List.forall_mem_cons.2 ⟨⟨List.mem_cons_of_mem _ (List.Mem.head _), fun y hy e => (HN.out y hy).2.1 e.symm⟩, fun z hz => ⟨List.mem_cons_of_mem _ (List.mem_cons_of_mem _ (List.mem_append_left _ hz)), fun y hy => (HN.out y hy).2.2 z hz⟩⟩) (by have := HI.out; have := HM255.out; omega) rfl rfl) ?_)
            rintro x9 M' ⟨N9, rfl, hF9, hn9⟩ he113; intro K' hK'; go_big_quiet_op; go_big_quiet_on
            have HF9 := Lib.hid hF9
            have HN9 := Lib.hid hn9
            clear hF9 hn9
            change lexH _ _ _ _ _ _ (N9 ++ ((g, rdO A3 n3 c3) :: R))
            refine lexH_phase [7] [] ?_
            have hw114 : EnvX w0 _ (N9 ++ ((g, rdO A3 n3 c3) :: R)) := he113.choose_spec
            have hone := @EnvC.one _ _ _ hw114
            (refine wpG_op rfl rfl rfl ?_; intro K hK; go_big_quiet_op; go_big_quiet_on)
            clear hone hw114
            refine wpG_nil ?_
            intro u116 E2'
            have EX115 := Lib.hid E2'
            clear E2'
            have HNX : Hid (∃ A' n' c' N1, RdAt w0 b ((p0 + 1) + 7 * (i + 1)) A' n' c' ∧ FreshR 49 2 (i + 1) ((outsAt b (p0 + 1) (i + 1)).map outC).flatten x9 N1 ∧ (∀ y ∈ N1, w0.heap.size ≤ y.1 ∧ y.1 ≠ g ∧ ∀ z ∈ R, z.1 ≠ y.1) ∧ EnvX w0 u116 ((g, rdO A' n' c') :: (R ++ N1))) := ⟨A3, n3, c3, N9, HRD.out, by rw [HSF.out]; exact HF9.out, fun y hy => ⟨(HN9.out y hy).1, fun e => (HN9.out y hy).2 _ (List.Mem.head _) e.symm, fun z hz => (HN9.out y hy).2 z (List.mem_cons_of_mem _ hz)⟩, EX115.out.sub turn2⟩
            have him := HI.out
            have hm255 := HM255.out
            go_wp2
            go_roundw
            case rel => exact ⟨i + 1, by omega, by go_num, HNX⟩
            case measure => simp [intOf]; omega
      · obtain rfl : i = m := by omega
        have C3 : Hid (decide ((i : Int) < (i : Int)) = false) := decide_eq_false (by omega)
        have HAT : Hid ((p0 + 1) + 7 * i ≤ b.length) := by show _ ≤ _; have := hr.1; omega
        have HRD := Lib.hid hr
        clear hlt hr
        go_upto_region 3 with (fail)
        refine wp_region_Hx (w0 := w0) [0] ((g, rdO A' n' c') :: (R ++ N1)) rfl EK.out ?_
        refine lexH_phase [0] [] ?_
        have hw201 : EnvX w0 _ ((g, rdO A' n' c') :: (R ++ N1)) := EK.out
        have hone := @EnvC.one _ _ _ hw201
        (refine wpG_val (v := .bool false) rfl rfl (fun u hu => ltZ_op u C3.out rfl rfl) ?_ hw201; intro K hK; go_big_quiet_op; go_big_quiet_on)
        clear hone hw201
        refine wpG_nil ?_
        intro u203 E2'
        have EX202 := Lib.hid E2'
        clear E2'
        go_upto_region 7 with (fail)
        refine wp_region_Hx (w0 := w0) [0, 1] ((g, rdO A' n' c') :: (R ++ N1)) rfl EX202.out ?_
        refine lexH_phase [0, 1] [] ?_
        have hw204 : EnvX w0 _ ((g, rdO A' n' c') :: (R ++ N1)) := EX202.out
        have hone := @EnvC.one _ _ _ hw204
        (refine wpG_op rfl rfl rfl ?_; intro K hK; go_big_quiet_op; go_big_quiet_on)
        (refine wpG_op rfl rfl rfl ?_; intro K hK; go_big_quiet_op; go_big_quiet_on)
        clear hone hw204
        refine wpG_nil ?_
        intro u206 E2'
        have EX205 := Lib.hid E2'
        clear E2'
        go_wp2
        go_ret
        exact .inl ⟨HAT.out, _, _, _, _, N1, rfl, HRD.out, HF.out, HN.out, EX205.out⟩
end Go.Proofs.YtcodmedgkboohaaDoor

namespace Go.Proofs.YtcodmedgkboohaaDoor
set_option maxRecDepth 8000
open Go.RowKit Go.Shelf

/-- what a round keeps: whatever lay below n₀, and the box Bb -/
def KpB (n₀ Bb : Nat) (W W' : World) : Prop := Below n₀ W W' ∧ (∀ o, W.heap[Bb]? = some o → W'.heap[Bb]? = some o)
theorem KpB.trans {n₀ Bb : Nat} {A B C : World} (h : KpB n₀ Bb A B) (k : KpB n₀ Bb B C) : KpB n₀ Bb A C := ⟨h.1.trans k.1, fun o ho => k.2 o (h.2 o ho)⟩
theorem KpB.put {n₀ Bb : Nat} {w : World} (hn : n₀ ≤ w.heap.size) (hB : Bb < w.heap.size) (W : World) (l : Nat) (o o' : Obj) (hl : w.heap.size ≤ l) (h : W.heap[l]? = some o) (h1 : o.isCells = false) (h2 : o.isWalk = false) : KpB n₀ Bb W (W.putObj l o') :=
  ⟨belowK_b hn W l o o' hl h h1 h2, fun u hu => (World.putObj_heap_other (by omega)).trans hu⟩
/-- Two results, a whole array and a cell. -/
theorem results_row_cell {P : Program} {fn : Func} {p q : Tmp} {ty ty' : TypeId} (h : fn.results = #[.cell p ty, .cell q ty']) (tmps : Array Value) (w : World) (g g' : Nat) (t : TypeId) (cs : Array Value) (fr : Nat × Nat) (d : TypeDesc)
    (hp : tmps.getD p undef = .pointer (some ⟨g, 0, none⟩)) (hq : tmps.getD q undef = .pointer (some ⟨g', 0, none⟩)) (v : Value) (hv : (loadVar ty' ⟨g', 0, none⟩).run P w = .ok v w) (hg : w.heap[g]? = some (.cells cs t fr))
    (hu : P.underlying ty = some d) (hd : (match d with | .struct _ | .array _ _ => true | _ => false) = true) (hi : (P.info? ty).map (·.size) = some cs.size) :
    (results fn tmps).run P w = .ok (.tuple #[.agg cs, v]) w := by
  have hp' : tmps[p]?.getD undef = .pointer (some ⟨g, 0, none⟩) := by simpa using hp
  have hq' : tmps[q]?.getD undef = .pointer (some ⟨g', 0, none⟩) := by simpa using hq
  simp [results, h, hp', hq', asAddr, run_loadVar_row w g t ty cs fr d hg hu hd hi, hv]
end Go.Proofs.YtcodmedgkboohaaDoor

namespace Go.Proofs.YtcodmedgkboohaaDoor
set_option maxRecDepth 8000
open Go.RowKit

theorem infoBool : (Tryd.prog.info? 4).map (·.size) = some 1 := by kernel_rfl
set_option maxRecDepth 20000 in
set_option maxHeartbeats 8000000 in
theorem catch_up (g1 g2 : Nat) (x : Array Value) (y : Bool) (ch : List PanicEntry) (w0 w : World) (h1 : w0.heap.size ≤ g1) (h2 : w0.heap.size ≤ g2) (hne : g1 ≠ g2) (hx : x.size = 2) (hch : oneUp ch) (hE : EnvX w0 w [(g1, Obj.cells (x) 25 (0, 0)), (g2, Obj.cells #[.bool y] 4 (0, 0))]) :
    CallsD Tryd.prog 29 #[.pointer (some ⟨g1, 0, none⟩), .pointer (some ⟨g2, 0, none⟩)] (.panicking ch) w fun e u' w' => e = .returned (.tuple #[]) ∧ settle u' = .returning ∧ EnvX w0 w' [(g2, Obj.cells #[.bool false] 4 (0, 0)), (g1, Obj.cells (txA noTxM) 25 (0, 0))] := by
  obtain ⟨t, v, rfl⟩ := hch
  have HG := Lib.hid (And.intro h1 (And.intro h2 hne))
  have HX := Lib.hid hx
  have E1 := Lib.hid hE
  clear h1 h2 hne hx hE
  refine callsD_of_wpS Tryd.func29 rfl fun c₀ cs hu => ?_
  apply wpS_seq
  apply wpS_region
  simp [wpOpsS, go_sem, recoverD, hu, Tryd.ntmps29, Exit.thenS]
  refine wpS_cond (t := true) (by simp [Act.eval, Array.replicate]) ?_
  simp only [if_true]
  refine wpS_of_wp ?_
  rw [show (#[Value.pointer (some ⟨g1, 0, none⟩), Value.pointer (some ⟨g2, 0, none⟩)] ++ ((Array.replicate 3 undef).setIfInBounds 0 (Value.iface t v)).setIfInBounds 1 (Value.bool true)) = #[Value.pointer (some ⟨g1, 0, none⟩), Value.pointer (some ⟨g2, 0, none⟩), .iface t v, .bool true, undef] from rfl]
  refine wp_region_Hx (w0 := w0) [0, 1, 2] [(g1, Obj.cells (x) 25 (0, 0)), (g2, Obj.cells #[.bool y] 4 (0, 0))] rfl E1.out ?_
  refine lexH_phase [0] [1, 2] ?_
  have hw1 : EnvX w0 _ [(g1, Obj.cells (x) 25 (0, 0)), (g2, Obj.cells #[.bool y] 4 (0, 0))] := E1.out
  have hone := @EnvC.one _ _ _ hw1
  (refine wpG_val (v := .agg (txA noTxM)) rfl rfl (fun u hu => buildA_op u built_notx) ?_ hw1; intro K hK; go_big_quiet_op; go_big_quiet_on)
  clear hone hw1
  refine wpG_nil ?_
  refine (hOp_store rfl (g1) (txA noTxM) rfl rfl HG.out.1 25 (x) (List.Mem.head _) (infoTx _ (txA_size _)) (HX.out.trans (txA_size _).symm) (txA_one _) [(g1, Obj.cells (txA noTxM) 25 (0, 0)), (g2, Obj.cells #[.bool y] 4 (0, 0))] (List.forall_mem_cons.2 ⟨.inl rfl, List.forall_mem_cons.2 ⟨.inr ⟨List.mem_cons_of_mem _ (List.Mem.head _), fun e => HG.out.2.2 e.symm⟩, fun _ h => by cases h⟩⟩) ?_)
  intro he2
  refine (hOp_putAt rfl (g2) (0) (.bool false) rfl rfl HG.out.2.1 4 (#[.bool y]) (#[.bool false]) (List.Mem.tail _ (List.Mem.head _)) infoBool (Nat.le_refl 1) (by simp [Value.cells]; rfl) rfl [(g2, Obj.cells (#[.bool false]) 4 (0, 0)), (g1, Obj.cells (txA noTxM) 25 (0, 0))] (List.forall_mem_cons.2 ⟨.inl rfl, List.forall_mem_cons.2 ⟨.inr ⟨List.Mem.head _, HG.out.2.2⟩, fun _ h => by cases h⟩⟩) ?_)
  intro he3
  intro u5 E2'
  have EX4 := Lib.hid E2'
  clear E2'
  exact ⟨rfl, _, rfl, _, results_none rfl _ _ _, rfl, rfl, EX4.out⟩
set_option maxRecDepth 20000 in
set_option maxHeartbeats 8000000 in
theorem catch_no (g1 g2 : Nat) (w : World) :
    CallsD Tryd.prog 29 #[.pointer (some ⟨g1, 0, none⟩), .pointer (some ⟨g2, 0, none⟩)] .returning w fun e u' w' => e = .returned (.tuple #[]) ∧ settle u' = .returning ∧ w' = w := by
  refine callsD_of_wpS Tryd.func29 rfl fun c₀ cs hu => ?_
  apply wpS_seq
  apply wpS_region
  simp [wpOpsS, go_sem, recoverD, hu, Tryd.ntmps29, Exit.thenS]
  refine wpS_cond (t := false) (by simp [Act.eval, Array.replicate]) ?_
  simp only [Bool.false_eq_true, if_false]
  refine wpS_of_wp (wp_skip ?_)
  cases c₀
  simp_all [bodyPostS, results, Tryd.results29, settle]
/-- what holds where Read panics: its variables stand, and there is no transaction -/
def RdPost (w : World) (b : List Int) (ch : List PanicEntry) (u : World) : Prop :=
  readX b = (noTx, false) ∧ oneUp ch ∧ ∃ x y, x.size = 2 ∧ EnvX w u [(w.heap.size, .cells x 25 (0, 0)), (w.heap.size + 1, .cells #[.bool y] 4 (0, 0))]
def RdGoal (w : World) (b : List Int) (e : Ending) (w' : World) : Prop := (∃ t : TxM, e = .returned (.tuple #[txV t, .bool (readX b).2]) ∧ t.r = (readX b).1 ∧ TxOk w' t) ∧ Below w.heap.size w w'
theorem oneBool : ∀ w, (isAgg 4).run Tryd.prog w = .ok false w := fun w => by simp [isAgg, run_underlying Tryd.underlying4]
theorem read_panic {w : World} {b : List Int} {R : Ending → World → Prop} (hR : ∀ e u, RdGoal w b e u → R e u) (a : Act) (hd : a.defers = [{ target := Target.fn (Fn.func 29) #[.pointer (some ⟨w.heap.size, 0, none⟩), .pointer (some ⟨w.heap.size + 1, 0, none⟩)], args := #[] }])
    (h2 : a.tmps[2]? = some (.pointer (some ⟨w.heap.size, 0, none⟩))) (h3 : a.tmps[3]? = some (.pointer (some ⟨w.heap.size + 1, 0, none⟩))) (ch : List PanicEntry) (u : World) (hp : RdPost w b ch u) : bodyPostD Tryd.prog Tryd.f14 R (.panic ch) a u := by
  obtain ⟨hr, hch, x, y, hx, hE⟩ := hp
  show Leaves _ _ _ _ a.defers _ _
  rw [hd]
  refine leaves_cons (f := 29) (args := #[.pointer (some ⟨w.heap.size, 0, none⟩), .pointer (some ⟨w.heap.size + 1, 0, none⟩)]) (by simp) (by simp [go_sem]) ?_
  refine (catch_up w.heap.size (w.heap.size + 1) x y ch w u (Nat.le_refl _) (Nat.le_succ _) (by omega) hx hch hE).mono ?_
  rintro e u' w'' ⟨rfl, hs, hE'⟩
  show Leaves _ _ _ _ [] (settle u') w''
  rw [hs]
  have Q0 := EnvX.box hE' _ _ (List.mem_cons_of_mem _ (List.Mem.head _))
  refine ⟨_, results_row_cell (p := 2) (q := 3) (ty := 25) (ty' := 4) Tryd.results14 _ _ w.heap.size (w.heap.size + 1) 25 (txA noTxM) (0, 0) _ (by rw [Array.getD_eq_getD_getElem?, h2]; rfl) (by rw [Array.getD_eq_getD_getElem?, h3]; rfl) (.bool false) (run_load_one oneBool _ (box_cell hE' (List.Mem.head _) rfl)) Q0 Tryd.underlying25 rfl (infoTx _ (txA_size _)), hR _ _ ?_⟩
  unfold RdGoal
  rw [hr]
  exact ⟨⟨noTxM, rfl, rfl, TxOk.no _⟩, hE'.bel⟩
theorem read_doneL {w : World} {b : List Int} {R : Ending → World → Prop} (hR : ∀ e u, RdGoal w b e u → R e u) (tmps : Array Value) (h2 : tmps[2]? = some (.pointer (some ⟨w.heap.size, 0, none⟩))) (h3 : tmps[3]? = some (.pointer (some ⟨w.heap.size + 1, 0, none⟩))) (t : TxM) (u : World)
    (hE : EnvX w u [(w.heap.size, .cells (txA t) 25 (0, 0)), (w.heap.size + 1, .cells #[.bool true] 4 (0, 0))]) (hr : readX b = (t.r, true)) (ht : TxOk u t) :
    Leaves Tryd.prog Tryd.f14 tmps R [{ target := Target.fn (Fn.func 29) #[.pointer (some ⟨w.heap.size, 0, none⟩), .pointer (some ⟨w.heap.size + 1, 0, none⟩)], args := #[] }] .returning u := by
  refine leaves_cons (f := 29) (args := #[.pointer (some ⟨w.heap.size, 0, none⟩), .pointer (some ⟨w.heap.size + 1, 0, none⟩)]) (by simp) (by simp [go_sem]) ?_
  refine (catch_no w.heap.size (w.heap.size + 1) u).mono ?_
  rintro e u' w'' ⟨rfl, hs, rfl⟩
  show Leaves _ _ _ _ [] (settle u') _
  rw [hs]
  have Q0 := EnvX.box hE _ _ (List.Mem.head _)
  refine ⟨_, results_row_cell (p := 2) (q := 3) (ty := 25) (ty' := 4) Tryd.results14 _ _ w.heap.size (w.heap.size + 1) 25 (txA t) (0, 0) _ (by rw [Array.getD_eq_getD_getElem?, h2]; rfl) (by rw [Array.getD_eq_getD_getElem?, h3]; rfl) (.bool true) (run_load_one oneBool _ (box_cell hE (List.mem_cons_of_mem _ (List.Mem.head _)) rfl)) Q0 Tryd.underlying25 rfl (infoTx _ (txA_size _)), hR _ _ ?_⟩
  unfold RdGoal
  rw [hr]
  exact ⟨⟨t, rfl, rfl, ht⟩, hE.bel⟩
end Go.Proofs.YtcodmedgkboohaaDoor

namespace Go.Proofs.YtcodmedgkboohaaDoor
set_option maxRecDepth 8000
open Go.RowKit

theorem readNo {b : List Int} (h : ¬ (b.length ≠ 0 ∧ atO b < b.length ∧ b.length = atO b + (1 + 7 * nOut b))) : readX b = (noTx, false) := by
  refine readX_no ?_
  unfold mayReadX
  have : lenOK b = false := by rw [← Bool.not_eq_true, lenOK_iff]; exact h
  rw [this]
  rfl
set_option maxRecDepth 20000 in
set_option maxHeartbeats 8000000 in
theorem readX_A (A : Option Addr) (n c : Nat) (b : List Int) (w : World) (hl : n + 0 = b.length) (hnc : n ≤ c) (hcm : c ≤ maxLen) (hB : isB b) (hx : Bytes w w.heap.size A b) (hs : b.length < atO b) :
    Calls Tryd.prog 14 #[.slice A n c] w fun e w' => RdGoal w b e w' := by
  have hmf : ∀ (fn : Fn) (first cap : Array Value) (w : World), (Instr.makeFunc fn first cap).run Tryd.prog w = .ok (.func fn first cap) w := fun _ _ _ _ => rfl
  have hr0 : RdAt w b 0 A n c := ⟨hl, hnc, hcm, by rw [List.drop_zero]; exact hx⟩
  have E1 : Hid (EnvX w (((w.alloc (.cells (txA noTxM) 25)).alloc (.cells #[.bool false] 4)).alloc (rdO A n c)) [(w.heap.size + 1 + 1, rdO A n c), (w.heap.size + 1, Obj.cells #[.bool false] 4 (0, 0)), (w.heap.size, Obj.cells (txA noTxM) 25 (0, 0))]) := by
    have h := (((EnvX.start w).new (.cells (txA noTxM) 25 (0, 0))).new (.cells #[.bool false] 4 (0, 0))).new (rdO A n c)
    simp only [World.size_alloc] at h
    exact h
  have hins := fun (R : Boxes) (u : World) => rdins_any A n c (w.heap.size + 1 + 1) b R w u (nIn b) rfl hr0 hB (by omega)
  have HNO : Hid (readX b = (noTx, false)) := readNo (by omega)
  have HIN : Hid (∀ u, EnvX w u [(w.heap.size + 1 + 1, rdO A n c), (w.heap.size + 1, Obj.cells #[.bool false] 4 (0, 0)), (w.heap.size, Obj.cells (txA noTxM) 25 (0, 0))] → Calls Tryd.prog 30 #[.pointer (some ⟨w.heap.size + 1 + 1, 0, none⟩)] u fun e w' => ∃ ch, e = .panicked ch ∧ oneUp ch ∧ EnvX w w' [(w.heap.size + 1, Obj.cells #[.bool false] 4 (0, 0)), (w.heap.size, Obj.cells (txA noTxM) 25 (0, 0))]) := fun u hu => (hins _ u (List.forall_mem_cons.2 ⟨by show w.heap.size + 1 ≠ _; omega, List.forall_mem_cons.2 ⟨by show w.heap.size ≠ _; omega, fun _ h => by cases h⟩⟩) hu).mono fun e w' h => by
    rcases h with h | h
    · exact absurd hs (Nat.not_lt.2 h.1)
    · exact h.2
  clear hins hr0 hl hnc hcm hB hx hs
  go_enter_defers Tryd.func14, Tryd.ntmps14
  go_upto_region 3 with (fail)
  rw [show (#[Value.slice none 0 0, Value.slice none 0 0] : Array Value) = txA noTxM from rfl]
  generalize ((w.alloc (.cells (txA noTxM) 25)).alloc (.cells #[.bool false] 4)).alloc (rdO A n c) = W at *
  refine wp_region_HPx ⟨RdPost w b, fun _ => []⟩ (w0 := w) [0, 1, 2] [(w.heap.size + 1 + 1, rdO A n c), (w.heap.size + 1, Obj.cells #[.bool false] 4 (0, 0)), (w.heap.size, Obj.cells (txA noTxM) 25 (0, 0))] rfl E1.out (fun a' ha ch u h => read_panic (fun _ _ h => h) a' ha.1 ((ha.2 2 (by kernel_rfl)).trans rfl) ((ha.2 3 (by kernel_rfl)).trans rfl) ch u h) ?_
  refine (hOp_panics [(w.heap.size + 1 + 1, rdO A n c), (w.heap.size + 1, Obj.cells #[.bool false] 4 (0, 0)), (w.heap.size, Obj.cells (txA noTxM) 25 (0, 0))] rfl rfl (fun _ h => h) (fun u hu => PUpon_call (fid := 30) (xs := #[.tmp 4]) (args := #[.pointer (some ⟨w.heap.size + 1 + 1, 0, none⟩)]) rfl Tryd.func30 rfl rfl u ((HIN.out u hu).mono fun e w' h => let ⟨ch, e1, e2, e3⟩ := h; ⟨ch, e1, HNO.out, e2, _, _, txA_size _, e3.sub (List.forall_mem_cons.2 ⟨List.mem_cons_of_mem _ (List.Mem.head _), List.forall_mem_cons.2 ⟨List.Mem.head _, fun _ h => by cases h⟩⟩)⟩)))
theorem swap3 {α : Type} {a b c : α} {N : List α} : ∀ x ∈ b :: c :: a :: N, x ∈ a :: b :: c :: N := by
  intro x hx
  simp only [List.mem_cons] at *
  rcases hx with h | h | h | h
  · exact .inr (.inl h)
  · exact .inr (.inr (.inl h))
  · exact .inl h
  · exact .inr (.inr (.inr h))
set_option maxRecDepth 20000 in
set_option maxHeartbeats 8000000 in
theorem readX_B1 (A : Option Addr) (n c : Nat) (b : List Int) (w : World) (hl : n + 0 = b.length) (hnc : n ≤ c) (hcm : c ≤ maxLen) (hB : isB b) (hx : Bytes w w.heap.size A b) (hs : atO b ≤ b.length) (hs2 : b.length < atO b + 1 + 7 * nOut b) :
    Calls Tryd.prog 14 #[.slice A n c] w fun e w' => RdGoal w b e w' := by
  have hmf : ∀ (fn : Fn) (first cap : Array Value) (w : World), (Instr.makeFunc fn first cap).run Tryd.prog w = .ok (.func fn first cap) w := fun _ _ _ _ => rfl
  have hr0 : RdAt w b 0 A n c := ⟨hl, hnc, hcm, by rw [List.drop_zero]; exact hx⟩
  have E1 : Hid (EnvX w (((w.alloc (.cells (txA noTxM) 25)).alloc (.cells #[.bool false] 4)).alloc (rdO A n c)) [(w.heap.size + 1 + 1, rdO A n c), (w.heap.size + 1, Obj.cells #[.bool false] 4 (0, 0)), (w.heap.size, Obj.cells (txA noTxM) 25 (0, 0))]) := by
    have h := (((EnvX.start w).new (.cells (txA noTxM) 25 (0, 0))).new (.cells #[.bool false] 4 (0, 0))).new (rdO A n c)
    simp only [World.size_alloc] at h
    exact h
  have hins := fun (R : Boxes) (u : World) => rdins_any A n c (w.heap.size + 1 + 1) b R w u (nIn b) rfl hr0 hB (by omega)
  obtain ⟨m, hm⟩ : ∃ m, nIn b = m := ⟨_, rfl⟩
  have hat : atO b = 1 + 33 * m := by unfold atO; rw [hm]
  have HIN : Hid (∀ u, EnvX w u [(w.heap.size + 1 + 1, rdO A n c), (w.heap.size + 1, Obj.cells #[.bool false] 4 (0, 0)), (w.heap.size, Obj.cells (txA noTxM) 25 (0, 0))] → Calls Tryd.prog 30 #[.pointer (some ⟨w.heap.size + 1 + 1, 0, none⟩)] u fun e w' => ∃ A' n' c' A1 c1 N1, e = .returned (.slice A1 m c1) ∧ RdAt w b (1 + 33 * m) A' n' c' ∧ FreshR 51 33 m ((insAtR b m).map inC).flatten (.slice A1 m c1) N1 ∧ (∀ y ∈ N1, w.heap.size ≤ y.1 ∧ y.1 ≠ w.heap.size + 1 + 1 ∧ y.1 ≠ w.heap.size + 1 ∧ y.1 ≠ w.heap.size) ∧ EnvX w w' ((w.heap.size + 1 + 1, rdO A' n' c') :: ((w.heap.size + 1, Obj.cells #[.bool false] 4 (0, 0)) :: ((w.heap.size, Obj.cells (txA noTxM) 25 (0, 0)) :: N1)))) := fun u hu => (hins _ u (List.forall_mem_cons.2 ⟨by show w.heap.size + 1 ≠ _; omega, List.forall_mem_cons.2 ⟨by show w.heap.size ≠ _; omega, fun _ h => by cases h⟩⟩) hu).mono fun e w' h => by
    rw [hm] at h
    rcases h with ⟨-, A', n', c', v, N1, he, h1, h2, h3, h4⟩ | h
    · obtain ⟨A1, c1, rfl, -, -⟩ := FreshR.form h2
      exact ⟨A', n', c', A1, c1, N1, he, h1, h2, fun y hy => ⟨(h3 y hy).1, (h3 y hy).2.1, fun e => (h3 y hy).2.2 _ (List.Mem.head _) e.symm, fun e => (h3 y hy).2.2 _ (List.mem_cons_of_mem _ (List.Mem.head _)) e.symm⟩, h4⟩
    · exact absurd h.1 (by omega)
  have HG3 : Hid (w.heap.size + 1 + 1 ≠ w.heap.size ∧ w.heap.size + 1 ≠ w.heap.size ∧ w.heap.size + 1 + 1 ≠ w.heap.size + 1) := by show _ ∧ _ ∧ _; omega
  have HNO : Hid (readX b = (noTx, false)) := readNo (by omega)
  have HAT := Lib.hid hat
  have HBB := Lib.hid hB
  have HS2 := Lib.hid hs2
  clear hins hr0 hl hnc hcm hB hx hs hs2 hat hm
  go_enter_defers Tryd.func14, Tryd.ntmps14
  go_upto_region 3 with (fail)
  rw [show (#[Value.slice none 0 0, Value.slice none 0 0] : Array Value) = txA noTxM from rfl]
  generalize ((w.alloc (.cells (txA noTxM) 25)).alloc (.cells #[.bool false] 4)).alloc (rdO A n c) = W at *
  refine wp_region_Hx (w0 := w) [0, 1, 2] [(w.heap.size + 1 + 1, rdO A n c), (w.heap.size + 1, Obj.cells #[.bool false] 4 (0, 0)), (w.heap.size, Obj.cells (txA noTxM) 25 (0, 0))] rfl E1.out ?_
  refine (hOp_turn (gd := none) (R := fun x M' => ∃ A' n' c' A1 c1 N1, x = .slice A1 m c1 ∧ M' = ((w.heap.size + 1 + 1, rdO A' n' c') :: ((w.heap.size + 1, Obj.cells #[.bool false] 4 (0, 0)) :: ((w.heap.size, Obj.cells (txA noTxM) 25 (0, 0)) :: N1))) ∧ RdAt w b (1 + 33 * m) A' n' c' ∧ FreshR 51 33 m ((insAtR b m).map inC).flatten (.slice A1 m c1) N1 ∧ (∀ y ∈ N1, w.heap.size ≤ y.1 ∧ y.1 ≠ w.heap.size + 1 + 1 ∧ y.1 ≠ w.heap.size + 1 ∧ y.1 ≠ w.heap.size)) rfl rfl rfl rfl (fun u hu => OUpon_call (fid := 30) (xs := #[.tmp 4]) (args := #[.pointer (some ⟨w.heap.size + 1 + 1, 0, none⟩)]) rfl Tryd.func30 rfl rfl u ((HIN.out u hu).mono fun e w' h => let ⟨A', n', c', A1, c1, N1, he, h1, h2, h3, h4⟩ := h; ⟨_, _, he, h4, A', n', c', A1, c1, N1, rfl, rfl, h1, h2, h3⟩)) ?_)
  rintro _ _ ⟨A', n', c', A1, c1, N1, rfl, rfl, hr1, hF1, hN1⟩ he1; intro K' hK'; go_big_quiet_op; go_big_quiet_on
  have HF := Lib.hid hF1
  have HN := Lib.hid hN1
  have HRD := Lib.hid hr1
  clear hF1 hN1 hr1
  change lexH _ _ _ _ _ _ ((w.heap.size + 1 + 1, rdO A' n' c') :: ((w.heap.size + 1, Obj.cells #[.bool false] 4 (0, 0)) :: ((w.heap.size, Obj.cells (txA noTxM) 25 (0, 0)) :: N1)))
  refine lexH_phase [1] [2] ?_
  have hw2 : EnvX w _ ((w.heap.size + 1 + 1, rdO A' n' c') :: ((w.heap.size + 1, Obj.cells #[.bool false] 4 (0, 0)) :: ((w.heap.size, Obj.cells (txA noTxM) 25 (0, 0)) :: N1))) := he1.choose_spec
  have hone := @EnvC.one _ _ _ hw2
  (refine wpG_val (v := .pointer (some ⟨w.heap.size, 0, none⟩)) rfl rfl (fun u hu => fieldTx_op (k := 0) (off := 0) (ad := ⟨w.heap.size, 0, none⟩) rfl u rfl) ?_ hw2; intro K hK; go_big_quiet_op; go_big_quiet_on)
  clear hone hw2
  refine wpG_nil ?_
  refine (hOp_putAt rfl (w.heap.size) (0) (.slice A1 m c1) rfl rfl (Nat.le_refl _) 25 ((txA noTxM)) (txA ⟨⟨insAtR b m, []⟩, A1, m, c1, none, 0, 0⟩) (List.mem_cons_of_mem _ (List.mem_cons_of_mem _ (List.Mem.head _))) infoIns (by rw [txA_size]; exact Nat.le_succ 1) (by simp [Value.cells]; rfl) rfl ((w.heap.size, Obj.cells (txA ⟨⟨insAtR b m, []⟩, A1, m, c1, none, 0, 0⟩) 25 (0, 0)) :: ((w.heap.size + 1 + 1, rdO A' n' c') :: ((w.heap.size + 1, Obj.cells #[.bool false] 4 (0, 0)) :: N1))) (List.forall_mem_cons.2 ⟨.inl rfl, List.forall_mem_cons.2 ⟨.inr ⟨List.Mem.head _, HG3.out.1⟩, List.forall_mem_cons.2 ⟨.inr ⟨List.mem_cons_of_mem _ (List.Mem.head _), HG3.out.2.1⟩, fun y hy => .inr ⟨List.mem_cons_of_mem _ (List.mem_cons_of_mem _ (List.mem_cons_of_mem _ hy)), (HN.out y hy).2.2.2⟩⟩⟩⟩) ?_)
  intro he3
  intro u5 E2'
  have EX4 := Lib.hid E2'
  clear E2'
  have houts := fun (R : Boxes) (u : World) => rdouts_any A' n' c' (w.heap.size + 1 + 1) b (1 + 33 * m) R w u (nOut b) (by unfold nOut; rw [HAT.out]) HRD.out HBB.out (by omega)
  have HOU : Hid (∀ u, EnvX w u ((w.heap.size, Obj.cells (txA ⟨⟨insAtR b m, []⟩, A1, m, c1, none, 0, 0⟩) 25 (0, 0)) :: ((w.heap.size + 1 + 1, rdO A' n' c') :: ((w.heap.size + 1, Obj.cells #[.bool false] 4 (0, 0)) :: N1))) → Calls Tryd.prog 31 #[.pointer (some ⟨w.heap.size + 1 + 1, 0, none⟩)] u fun e w' => ∃ ch, e = .panicked ch ∧ oneUp ch ∧ EnvX w w' ((w.heap.size + 1, Obj.cells #[.bool false] 4 (0, 0)) :: ((w.heap.size, Obj.cells (txA ⟨⟨insAtR b m, []⟩, A1, m, c1, none, 0, 0⟩) 25 (0, 0)) :: N1))) := fun u hu => (houts _ u (List.forall_mem_cons.2 ⟨by show w.heap.size + 1 ≠ _; omega, List.forall_mem_cons.2 ⟨by show w.heap.size ≠ _; omega, fun y hy => (HN.out y hy).2.1⟩⟩) (hu.sub swap3)).mono fun e w' h => by
    rcases h with h | h
    · exact absurd HS2.out (Nat.not_lt.2 (by have := h.1; have := HAT.out; omega))
    · exact h.2
  clear houts
  go_upto_region 4 with (fail)
  refine wp_region_HPx ⟨RdPost w b, fun _ => []⟩ (w0 := w) [0, 1, 2] ((w.heap.size, Obj.cells (txA ⟨⟨insAtR b m, []⟩, A1, m, c1, none, 0, 0⟩) 25 (0, 0)) :: ((w.heap.size + 1 + 1, rdO A' n' c') :: ((w.heap.size + 1, Obj.cells #[.bool false] 4 (0, 0)) :: N1))) rfl EX4.out (fun a' ha ch u h => read_panic (fun _ _ h => h) a' ha.1 ((ha.2 2 (by kernel_rfl)).trans rfl) ((ha.2 3 (by kernel_rfl)).trans rfl) ch u h) ?_
  refine (hOp_panics ((w.heap.size, Obj.cells (txA ⟨⟨insAtR b m, []⟩, A1, m, c1, none, 0, 0⟩) 25 (0, 0)) :: ((w.heap.size + 1 + 1, rdO A' n' c') :: ((w.heap.size + 1, Obj.cells #[.bool false] 4 (0, 0)) :: N1))) rfl rfl (fun _ h => h) (fun u hu => PUpon_call (fid := 31) (xs := #[.tmp 4]) (args := #[.pointer (some ⟨w.heap.size + 1 + 1, 0, none⟩)]) rfl Tryd.func31 rfl rfl u ((HOU.out u hu).mono fun e w' h => let ⟨ch, e1, e2, e3⟩ := h; ⟨ch, e1, HNO.out, e2, _, _, txA_size _, e3.sub (List.forall_mem_cons.2 ⟨List.mem_cons_of_mem _ (List.Mem.head _), List.forall_mem_cons.2 ⟨List.Mem.head _, fun _ h => by cases h⟩⟩)⟩)))
set_option maxRecDepth 20000 in
set_option maxHeartbeats 8000000 in
theorem readX_B2 (hmay : ∀ (t : TxM) (w : World), TxOk w t → Calls Tryd.prog 18 #[txV t] w fun e w' => e = .returned (.bool (mayX t.r)) ∧ Below w.heap.size w w') (A : Option Addr) (n c : Nat) (b : List Int) (w : World) (hl : n + 0 = b.length) (hnc : n ≤ c) (hcm : c ≤ maxLen) (hB : isB b) (hx : Bytes w w.heap.size A b) (hs : atO b ≤ b.length) (hs2 : atO b + 1 + 7 * nOut b ≤ b.length) :
    Calls Tryd.prog 14 #[.slice A n c] w fun e w' => RdGoal w b e w' := by
  have hmf : ∀ (fn : Fn) (first cap : Array Value) (w : World), (Instr.makeFunc fn first cap).run Tryd.prog w = .ok (.func fn first cap) w := fun _ _ _ _ => rfl
  have hr0 : RdAt w b 0 A n c := ⟨hl, hnc, hcm, by rw [List.drop_zero]; exact hx⟩
  have E1 : Hid (EnvX w (((w.alloc (.cells (txA noTxM) 25)).alloc (.cells #[.bool false] 4)).alloc (rdO A n c)) [(w.heap.size + 1 + 1, rdO A n c), (w.heap.size + 1, Obj.cells #[.bool false] 4 (0, 0)), (w.heap.size, Obj.cells (txA noTxM) 25 (0, 0))]) := by
    have h := (((EnvX.start w).new (.cells (txA noTxM) 25 (0, 0))).new (.cells #[.bool false] 4 (0, 0))).new (rdO A n c)
    simp only [World.size_alloc] at h
    exact h
  have hins := fun (R : Boxes) (u : World) => rdins_any A n c (w.heap.size + 1 + 1) b R w u (nIn b) rfl hr0 hB (by omega)
  obtain ⟨m, hm⟩ : ∃ m, nIn b = m := ⟨_, rfl⟩
  have hat : atO b = 1 + 33 * m := by unfold atO; rw [hm]
  have HIN : Hid (∀ u, EnvX w u [(w.heap.size + 1 + 1, rdO A n c), (w.heap.size + 1, Obj.cells #[.bool false] 4 (0, 0)), (w.heap.size, Obj.cells (txA noTxM) 25 (0, 0))] → Calls Tryd.prog 30 #[.pointer (some ⟨w.heap.size + 1 + 1, 0, none⟩)] u fun e w' => ∃ A' n' c' A1 c1 N1, e = .returned (.slice A1 m c1) ∧ RdAt w b (1 + 33 * m) A' n' c' ∧ FreshR 51 33 m ((insAtR b m).map inC).flatten (.slice A1 m c1) N1 ∧ (∀ y ∈ N1, w.heap.size ≤ y.1 ∧ y.1 ≠ w.heap.size + 1 + 1 ∧ y.1 ≠ w.heap.size + 1 ∧ y.1 ≠ w.heap.size) ∧ EnvX w w' ((w.heap.size + 1 + 1, rdO A' n' c') :: ((w.heap.size + 1, Obj.cells #[.bool false] 4 (0, 0)) :: ((w.heap.size, Obj.cells (txA noTxM) 25 (0, 0)) :: N1)))) := fun u hu => (hins _ u (List.forall_mem_cons.2 ⟨by show w.heap.size + 1 ≠ _; omega, List.forall_mem_cons.2 ⟨by show w.heap.size ≠ _; omega, fun _ h => by cases h⟩⟩) hu).mono fun e w' h => by
    rw [hm] at h
    rcases h with ⟨-, A', n', c', v, N1, he, h1, h2, h3, h4⟩ | h
    · obtain ⟨A1, c1, rfl, -, -⟩ := FreshR.form h2
      exact ⟨A', n', c', A1, c1, N1, he, h1, h2, fun y hy => ⟨(h3 y hy).1, (h3 y hy).2.1, fun e => (h3 y hy).2.2 _ (List.Mem.head _) e.symm, fun e => (h3 y hy).2.2 _ (List.mem_cons_of_mem _ (List.Mem.head _)) e.symm⟩, h4⟩
    · exact absurd h.1 (by omega)
  have HG3 : Hid (w.heap.size + 1 + 1 ≠ w.heap.size ∧ w.heap.size + 1 ≠ w.heap.size ∧ w.heap.size + 1 + 1 ≠ w.heap.size + 1) := by show _ ∧ _ ∧ _; omega
  obtain ⟨q, hq⟩ : ∃ q, nOut b = q := ⟨_, rfl⟩
  have HMAY := Lib.hid hmay
  have HQ := Lib.hid hq
  have HM := Lib.hid hm
  have HAT := Lib.hid hat
  have HBB := Lib.hid hB
  have HS2 := Lib.hid hs2
  clear hins hr0 hl hnc hcm hB hx hs hs2 hat hm hq hmay
  go_enter_defers Tryd.func14, Tryd.ntmps14
  go_upto_region 3 with (fail)
  rw [show (#[Value.slice none 0 0, Value.slice none 0 0] : Array Value) = txA noTxM from rfl]
  generalize ((w.alloc (.cells (txA noTxM) 25)).alloc (.cells #[.bool false] 4)).alloc (rdO A n c) = W at *
  refine wp_region_Hx (w0 := w) [0, 1, 2] [(w.heap.size + 1 + 1, rdO A n c), (w.heap.size + 1, Obj.cells #[.bool false] 4 (0, 0)), (w.heap.size, Obj.cells (txA noTxM) 25 (0, 0))] rfl E1.out ?_
  refine (hOp_turn (gd := none) (R := fun x M' => ∃ A' n' c' A1 c1 N1, x = .slice A1 m c1 ∧ M' = ((w.heap.size + 1 + 1, rdO A' n' c') :: ((w.heap.size + 1, Obj.cells #[.bool false] 4 (0, 0)) :: ((w.heap.size, Obj.cells (txA noTxM) 25 (0, 0)) :: N1))) ∧ RdAt w b (1 + 33 * m) A' n' c' ∧ FreshR 51 33 m ((insAtR b m).map inC).flatten (.slice A1 m c1) N1 ∧ (∀ y ∈ N1, w.heap.size ≤ y.1 ∧ y.1 ≠ w.heap.size + 1 + 1 ∧ y.1 ≠ w.heap.size + 1 ∧ y.1 ≠ w.heap.size)) rfl rfl rfl rfl (fun u hu => OUpon_call (fid := 30) (xs := #[.tmp 4]) (args := #[.pointer (some ⟨w.heap.size + 1 + 1, 0, none⟩)]) rfl Tryd.func30 rfl rfl u ((HIN.out u hu).mono fun e w' h => let ⟨A', n', c', A1, c1, N1, he, h1, h2, h3, h4⟩ := h; ⟨_, _, he, h4, A', n', c', A1, c1, N1, rfl, rfl, h1, h2, h3⟩)) ?_)
  rintro _ _ ⟨A', n', c', A1, c1, N1, rfl, rfl, hr1, hF1, hN1⟩ he1; intro K' hK'; go_big_quiet_op; go_big_quiet_on
  have HF := Lib.hid hF1
  have HN := Lib.hid hN1
  have HRD := Lib.hid hr1
  clear hF1 hN1 hr1
  change lexH _ _ _ _ _ _ ((w.heap.size + 1 + 1, rdO A' n' c') :: ((w.heap.size + 1, Obj.cells #[.bool false] 4 (0, 0)) :: ((w.heap.size, Obj.cells (txA noTxM) 25 (0, 0)) :: N1)))
  refine lexH_phase [1] [2] ?_
  have hw2 : EnvX w _ ((w.heap.size + 1 + 1, rdO A' n' c') :: ((w.heap.size + 1, Obj.cells #[.bool false] 4 (0, 0)) :: ((w.heap.size, Obj.cells (txA noTxM) 25 (0, 0)) :: N1))) := he1.choose_spec
  have hone := @EnvC.one _ _ _ hw2
  (refine wpG_val (v := .pointer (some ⟨w.heap.size, 0, none⟩)) rfl rfl (fun u hu => fieldTx_op (k := 0) (off := 0) (ad := ⟨w.heap.size, 0, none⟩) rfl u rfl) ?_ hw2; intro K hK; go_big_quiet_op; go_big_quiet_on)
  clear hone hw2
  refine wpG_nil ?_
  refine (hOp_putAt rfl (w.heap.size) (0) (.slice A1 m c1) rfl rfl (Nat.le_refl _) 25 ((txA noTxM)) (txA ⟨⟨insAtR b m, []⟩, A1, m, c1, none, 0, 0⟩) (List.mem_cons_of_mem _ (List.mem_cons_of_mem _ (List.Mem.head _))) infoIns (by rw [txA_size]; exact Nat.le_succ 1) (by simp [Value.cells]; rfl) rfl ((w.heap.size, Obj.cells (txA ⟨⟨insAtR b m, []⟩, A1, m, c1, none, 0, 0⟩) 25 (0, 0)) :: ((w.heap.size + 1 + 1, rdO A' n' c') :: ((w.heap.size + 1, Obj.cells #[.bool false] 4 (0, 0)) :: N1))) (List.forall_mem_cons.2 ⟨.inl rfl, List.forall_mem_cons.2 ⟨.inr ⟨List.Mem.head _, HG3.out.1⟩, List.forall_mem_cons.2 ⟨.inr ⟨List.mem_cons_of_mem _ (List.Mem.head _), HG3.out.2.1⟩, fun y hy => .inr ⟨List.mem_cons_of_mem _ (List.mem_cons_of_mem _ (List.mem_cons_of_mem _ hy)), (HN.out y hy).2.2.2⟩⟩⟩⟩) ?_)
  intro he3
  intro u5 E2'
  have EX4 := Lib.hid E2'
  clear E2'
  have houts := fun (R : Boxes) (u : World) => rdouts_any A' n' c' (w.heap.size + 1 + 1) b (1 + 33 * m) R w u (nOut b) (by unfold nOut; rw [HAT.out]) HRD.out HBB.out (by omega)
  have HOU : Hid (∀ u, EnvX w u ((w.heap.size, Obj.cells (txA ⟨⟨insAtR b m, []⟩, A1, m, c1, none, 0, 0⟩) 25 (0, 0)) :: ((w.heap.size + 1 + 1, rdO A' n' c') :: ((w.heap.size + 1, Obj.cells #[.bool false] 4 (0, 0)) :: N1))) → Calls Tryd.prog 31 #[.pointer (some ⟨w.heap.size + 1 + 1, 0, none⟩)] u fun e w' => ∃ A4 n4 c4 A5 c5 N2, e = .returned (.slice A5 q c5) ∧ RdAt w b (1 + 33 * m + 1 + 7 * q) A4 n4 c4 ∧ FreshR 49 2 q ((outsAt b (1 + 33 * m + 1) q).map outC).flatten (.slice A5 q c5) N2 ∧ (∀ y ∈ N2, w.heap.size ≤ y.1 ∧ y.1 ≠ w.heap.size + 1 + 1 ∧ y.1 ≠ w.heap.size + 1 ∧ y.1 ≠ w.heap.size ∧ ∀ z ∈ N1, z.1 ≠ y.1) ∧ EnvX w w' ((w.heap.size + 1 + 1, rdO A4 n4 c4) :: ((w.heap.size + 1, Obj.cells #[.bool false] 4 (0, 0)) :: ((w.heap.size, Obj.cells (txA ⟨⟨insAtR b m, []⟩, A1, m, c1, none, 0, 0⟩) 25 (0, 0)) :: (N1 ++ N2))))) := fun u hu => (houts _ u (List.forall_mem_cons.2 ⟨by show w.heap.size + 1 ≠ _; omega, List.forall_mem_cons.2 ⟨by show w.heap.size ≠ _; omega, fun y hy => (HN.out y hy).2.1⟩⟩) (hu.sub swap3)).mono fun e w' h => by
    rw [HQ.out] at h
    rcases h with ⟨-, A', n', c', v, N2, he, h1, h2, h3, h4⟩ | h
    · obtain ⟨A5, c5, rfl, -, -⟩ := FreshR.form h2
      exact ⟨A', n', c', A5, c5, N2, he, h1, h2, fun y hy => ⟨(h3 y hy).1, (h3 y hy).2.1, fun e => (h3 y hy).2.2 _ (List.Mem.head _) e.symm, fun e => (h3 y hy).2.2 _ (List.mem_cons_of_mem _ (List.Mem.head _)) e.symm, fun z hz => (h3 y hy).2.2 z (List.mem_cons_of_mem _ (List.mem_cons_of_mem _ hz))⟩, h4⟩
    · exact absurd h.1 (by have := HS2.out; have := HAT.out; have := HQ.out; omega)
  clear houts
  go_upto_region 4 with (fail)
  refine wp_region_Hx (w0 := w) [0, 1, 2] ((w.heap.size, Obj.cells (txA ⟨⟨insAtR b m, []⟩, A1, m, c1, none, 0, 0⟩) 25 (0, 0)) :: ((w.heap.size + 1 + 1, rdO A' n' c') :: ((w.heap.size + 1, Obj.cells #[.bool false] 4 (0, 0)) :: N1))) rfl EX4.out ?_
  refine (hOp_turn (gd := none) (R := fun x M' => ∃ A4 n4 c4 A5 c5 N2, x = .slice A5 q c5 ∧ M' = ((w.heap.size + 1 + 1, rdO A4 n4 c4) :: ((w.heap.size + 1, Obj.cells #[.bool false] 4 (0, 0)) :: ((w.heap.size, Obj.cells (txA ⟨⟨insAtR b m, []⟩, A1, m, c1, none, 0, 0⟩) 25 (0, 0)) :: (N1 ++ N2)))) ∧ RdAt w b (1 + 33 * m + 1 + 7 * q) A4 n4 c4 ∧ FreshR 49 2 q ((outsAt b (1 + 33 * m + 1) q).map outC).flatten (.slice A5 q c5) N2 ∧ (∀ y ∈ N2, w.heap.size ≤ y.1 ∧ y.1 ≠ w.heap.size + 1 + 1 ∧ y.1 ≠ w.heap.size + 1 ∧ y.1 ≠ w.heap.size ∧ ∀ z ∈ N1, z.1 ≠ y.1)) rfl rfl rfl rfl (fun u hu => OUpon_call (fid := 31) (xs := #[.tmp 4]) (args := #[.pointer (some ⟨w.heap.size + 1 + 1, 0, none⟩)]) rfl Tryd.func31 rfl rfl u ((HOU.out u hu).mono fun e w' h => let ⟨A4, n4, c4, A5, c5, N2, he, h1, h2, h3, h4⟩ := h; ⟨_, _, he, h4, A4, n4, c4, A5, c5, N2, rfl, rfl, h1, h2, h3⟩)) ?_)
  rintro _ _ ⟨A4, n4, c4, A5, c5, N2, rfl, rfl, hr2, hF2, hN2⟩ he6; intro K' hK'; go_big_quiet_op; go_big_quiet_on
  have HF2 := Lib.hid hF2
  have HN2 := Lib.hid hN2
  have HRD2 := Lib.hid hr2
  clear hF2 hN2 hr2
  change lexH _ _ _ _ _ _ ((w.heap.size + 1 + 1, rdO A4 n4 c4) :: ((w.heap.size + 1, Obj.cells #[.bool false] 4 (0, 0)) :: ((w.heap.size, Obj.cells (txA ⟨⟨insAtR b m, []⟩, A1, m, c1, none, 0, 0⟩) 25 (0, 0)) :: (N1 ++ N2))))
  refine lexH_phase [1] [2] ?_
  have hw7 : EnvX w _ ((w.heap.size + 1 + 1, rdO A4 n4 c4) :: ((w.heap.size + 1, Obj.cells #[.bool false] 4 (0, 0)) :: ((w.heap.size, Obj.cells (txA ⟨⟨insAtR b m, []⟩, A1, m, c1, none, 0, 0⟩) 25 (0, 0)) :: (N1 ++ N2)))) := he6.choose_spec
  have hone := @EnvC.one _ _ _ hw7
  (refine wpG_val (v := .pointer (some ⟨w.heap.size, 1, none⟩)) rfl rfl (fun u hu => fieldTx_op (k := 1) (off := 1) (ad := ⟨w.heap.size, 0, none⟩) rfl u rfl) ?_ hw7; intro K hK; go_big_quiet_op; go_big_quiet_on)
  clear hone hw7
  refine wpG_nil ?_
  refine (hOp_putAt rfl (w.heap.size) (1) (.slice A5 q c5) rfl rfl (Nat.le_refl _) 25 ((txA ⟨⟨insAtR b m, []⟩, A1, m, c1, none, 0, 0⟩)) (txA ⟨⟨insAtR b m, outsAt b (1 + 33 * m + 1) q⟩, A1, m, c1, A5, q, c5⟩) (List.mem_cons_of_mem _ (List.mem_cons_of_mem _ (List.Mem.head _))) infoOuts (by rw [txA_size]; exact Nat.le_refl 2) (by simp [Value.cells]; rfl) rfl ((w.heap.size, Obj.cells (txA ⟨⟨insAtR b m, outsAt b (1 + 33 * m + 1) q⟩, A1, m, c1, A5, q, c5⟩) 25 (0, 0)) :: ((w.heap.size + 1 + 1, rdO A4 n4 c4) :: ((w.heap.size + 1, Obj.cells #[.bool false] 4 (0, 0)) :: (N1 ++ N2)))) (List.forall_mem_cons.2 ⟨.inl rfl, List.forall_mem_cons.2 ⟨.inr ⟨List.Mem.head _, HG3.out.1⟩, List.forall_mem_cons.2 ⟨.inr ⟨List.mem_cons_of_mem _ (List.Mem.head _), HG3.out.2.1⟩, fun y hy => .inr ⟨List.mem_cons_of_mem _ (List.mem_cons_of_mem _ (List.mem_cons_of_mem _ hy)), (List.mem_append.1 hy).elim (fun h => (HN.out y h).2.2.2) (fun h => (HN2.out y h).2.2.2.1)⟩⟩⟩⟩) ?_)
  intro he8
  intro u10 E2'
  have EX9 := Lib.hid E2'
  clear E2'
  obtain ⟨L, hL⟩ : ∃ L, insAtR b m = L := ⟨_, rfl⟩
  obtain ⟨O, hO⟩ : ∃ O, outsAt b (1 + 33 * m + 1) q = O := ⟨_, rfl⟩
  have HL := Lib.hid hL
  have HO := Lib.hid hO
  have HL1 : Hid ((L.map inC).flatten.length = m * 33) := by show _ = _; rw [← hL]; exact insAtR_flat (by have := HS2.out; have := HAT.out; omega)
  have HO1 : Hid ((O.map outC).flatten.length = q * 2) := by show _ = _; rw [← hO]; exact outsAt_flat _ _ _
  rw [hL] at HF EX9
  rw [hO] at HF2 EX9
  clear hL hO
  have HKL : Hid (L.length = m) := by show _ = _; rw [← HL.out]; unfold insAtR; rw [List.length_map, rows_len]
  have HOL : Hid (O.length = q) := by show _ = _; rw [← HO.out, outsAt_len]
  have hp2 := HRD2.out.1
  have HN63 : Hid (n4 < 9223372036854775808) := by show _ < _; have h1 := HRD2.out.2.1; have h2 := HRD2.out.2.2.1; unfold maxLen at h2; omega
  by_cases kr : 0 < n4
  · have HNO : Hid (readX b = (noTx, false)) := readNo (by have := HAT.out; have := HQ.out; omega)
    have D3 : Hid (decide ((n4 : Int) = 0) = false) := decide_eq_false (by omega)
    clear kr hp2
    go_upto_region 5 with (fail)
    refine wp_region_HPx ⟨RdPost w b, fun _ => []⟩ (w0 := w) [0, 1, 2, 3, 4, 5, 6, 7, 8] ((w.heap.size, Obj.cells (txA ⟨⟨L, O⟩, A1, m, c1, A5, q, c5⟩) 25 (0, 0)) :: ((w.heap.size + 1 + 1, rdO A4 n4 c4) :: ((w.heap.size + 1, Obj.cells #[.bool false] 4 (0, 0)) :: (N1 ++ N2)))) rfl EX9.out (fun a' ha ch u h => read_panic (fun _ _ h => h) a' ha.1 ((ha.2 2 (by kernel_rfl)).trans rfl) ((ha.2 3 (by kernel_rfl)).trans rfl) ch u h) ?_
    refine lexH_phase [0, 1, 2, 3, 4, 5, 6, 7] [8] ?_
    have hw301 : EnvX w _ ((w.heap.size, Obj.cells (txA ⟨⟨L, O⟩, A1, m, c1, A5, q, c5⟩) 25 (0, 0)) :: ((w.heap.size + 1 + 1, rdO A4 n4 c4) :: ((w.heap.size + 1, Obj.cells #[.bool false] 4 (0, 0)) :: (N1 ++ N2)))) := EX9.out
    have hone := @EnvC.one _ _ _ hw301
    (refine wpG_op rfl rfl rfl ?_; intro K hK; go_big_quiet_op; go_big_quiet_on)
    (refine wpG_val (v := .slice A4 n4 c4) rfl rfl (fun u hu => load_any_op u (run_load_one oneBytes u (box_cell hu (List.Mem.tail _ (List.Mem.head _)) rfl)) rfl) ?_ hw301; intro K hK; go_big_quiet_op; go_big_quiet_on)
    (refine wpG_val (v := .int .i64 (n4 : Int)) rfl rfl (fun u hu => len_op Tryd.underlying26 HN63.out u rfl) ?_ hw301; intro K hK; go_big_quiet_op; go_big_quiet_on)
    (refine wpG_val (v := .bool false) rfl rfl (fun u hu => eqlI_op u D3.out rfl rfl) ?_ hw301; intro K hK; go_big_quiet_op; go_big_quiet_on)
    (refine wpG_op rfl rfl rfl ?_; intro K hK; go_big_quiet_op; go_big_quiet_on)
    (refine wpG_skip rfl rfl ?_ hw301; intro K hK; go_big_quiet_op; go_big_quiet_on)
    (refine wpG_skip rfl rfl ?_ hw301; intro K hK; go_big_quiet_op; go_big_quiet_on)
    (refine wpG_op rfl rfl rfl ?_; intro K hK; go_big_quiet_op; go_big_quiet_on)
    clear hone hw301
    refine wpG_nil ?_
    refine (hOp_panics ((w.heap.size, Obj.cells (txA ⟨⟨L, O⟩, A1, m, c1, A5, q, c5⟩) 25 (0, 0)) :: ((w.heap.size + 1 + 1, rdO A4 n4 c4) :: ((w.heap.size + 1, Obj.cells #[.bool false] 4 (0, 0)) :: (N1 ++ N2)))) rfl rfl (fun _ h => h) (fun u hu => PUpon_call (fid := 32) (xs := #[.tmp 4, .tmp 19]) (args := #[.pointer (some ⟨w.heap.size + 1 + 1, 0, none⟩), .bool false]) rfl Tryd.func32 rfl rfl u ((need_no (.pointer (some ⟨w.heap.size + 1 + 1, 0, none⟩)) u).mono fun e w' h => let ⟨ch, e1, e2, e3⟩ := h; ⟨ch, e1, HNO.out, e2, _, _, txA_size _, e3 ▸ hu.sub (List.forall_mem_cons.2 ⟨(List.Mem.head _), List.forall_mem_cons.2 ⟨(List.Mem.tail _ (List.Mem.tail _ (List.Mem.head _))), fun _ h => by cases h⟩⟩)⟩)))
  · obtain rfl : n4 = 0 := by omega
    have D3 : Hid (decide (((0 : Nat) : Int) = 0) = true) := decide_eq_true (by omega)
    have hlk : lenOK b = true := lenOK_iff.2 (by have := HAT.out; have := HQ.out; omega)
    have hbp := (body_parse HBB.out hlk).1
    have hpx : parseX b = ⟨L, O⟩ := by
      unfold parseX
      rw [HAT.out, HQ.out, HM.out, ← HL.out, ← HO.out]
      rfl
    rw [hpx] at hbp
    have HRX : Hid (readX b = if mayX ⟨L, O⟩ then (⟨L, O⟩, true) else (noTx, false)) := by show _ = _; unfold readX mayReadX; rw [hlk, Bool.true_and, hpx]
    have HTX : Hid (∀ (u : World) (M : Boxes), EnvX w u M → (∀ y ∈ N1, y ∈ M) → (∀ y ∈ N2, y ∈ M) → TxOk u ⟨⟨L, O⟩, A1, m, c1, A5, q, c5⟩) := fun u M hu m1 m2 =>
      ⟨HKL.out, (by
        obtain ⟨A5, c5, e, h1, h2⟩ := HF.out.form
        cases e
        exact ⟨h1, h2⟩), hbp.1, HF.out.cells HL1.out hu m1, HOL.out, (by
        obtain ⟨A5, c5, e, h1, h2⟩ := HF2.out.form
        cases e
        exact ⟨h1, h2⟩), hbp.2, HF2.out.cells HO1.out hu m2⟩
    obtain ⟨mp, hmp⟩ : ∃ mp, mayX ⟨L, O⟩ = mp := ⟨_, rfl⟩
    have HMY : Hid (∀ u, EnvX w u ((w.heap.size, Obj.cells (txA ⟨⟨L, O⟩, A1, m, c1, A5, q, c5⟩) 25 (0, 0)) :: ((w.heap.size + 1 + 1, rdO A4 0 c4) :: ((w.heap.size + 1, Obj.cells #[.bool false] 4 (0, 0)) :: (N1 ++ N2)))) → Calls Tryd.prog 18 #[.agg (txA ⟨⟨L, O⟩, A1, m, c1, A5, q, c5⟩)] u fun e w' => e = .returned (.bool mp) ∧ Below u.heap.size u w') := fun u hu => by
      have h := HMAY.out ⟨⟨L, O⟩, A1, m, c1, A5, q, c5⟩ u (HTX.out u _ hu (fun y hy => List.mem_cons_of_mem _ (List.mem_cons_of_mem _ (List.mem_cons_of_mem _ (List.mem_append_left _ hy)))) (fun y hy => List.mem_cons_of_mem _ (List.mem_cons_of_mem _ (List.mem_cons_of_mem _ (List.mem_append_right _ hy)))))
      have e : mayX (⟨L, O⟩ : TxR) = mp := hmp
      rw [← e]
      exact h
    rw [hmp] at HRX
    clear kr hp2 hlk hbp hpx hmp
    cases mp with
    | false =>
      have HNO : Hid (readX b = (noTx, false)) := HRX.out
      go_upto_region 5 with (fail)
      refine wp_region_HPx ⟨RdPost w b, fun _ => []⟩ (w0 := w) [0, 1, 2, 3, 4, 5, 6, 7, 8] ((w.heap.size, Obj.cells (txA ⟨⟨L, O⟩, A1, m, c1, A5, q, c5⟩) 25 (0, 0)) :: ((w.heap.size + 1 + 1, rdO A4 0 c4) :: ((w.heap.size + 1, Obj.cells #[.bool false] 4 (0, 0)) :: (N1 ++ N2)))) rfl EX9.out (fun a' ha ch u h => read_panic (fun _ _ h => h) a' ha.1 ((ha.2 2 (by kernel_rfl)).trans rfl) ((ha.2 3 (by kernel_rfl)).trans rfl) ch u h) ?_
      refine lexH_phase [0, 1, 2, 3, 4, 5, 6, 7] [8] ?_
      have hw341 : EnvX w _ ((w.heap.size, Obj.cells (txA ⟨⟨L, O⟩, A1, m, c1, A5, q, c5⟩) 25 (0, 0)) :: ((w.heap.size + 1 + 1, rdO A4 0 c4) :: ((w.heap.size + 1, Obj.cells #[.bool false] 4 (0, 0)) :: (N1 ++ N2)))) := EX9.out
      have hone := @EnvC.one _ _ _ hw341
      (refine wpG_op rfl rfl rfl ?_; intro K hK; go_big_quiet_op; go_big_quiet_on)
      (refine wpG_val (v := .slice A4 0 c4) rfl rfl (fun u hu => load_any_op u (run_load_one oneBytes u (box_cell hu (List.Mem.tail _ (List.Mem.head _)) rfl)) rfl) ?_ hw341; intro K hK; go_big_quiet_op; go_big_quiet_on)
      (refine wpG_val (v := .int .i64 ((0 : Nat) : Int)) rfl rfl (fun u hu => len_op Tryd.underlying26 HN63.out u rfl) ?_ hw341; intro K hK; go_big_quiet_op; go_big_quiet_on)
      (refine wpG_val (v := .bool true) rfl rfl (fun u hu => eqlI_op u D3.out rfl rfl) ?_ hw341; intro K hK; go_big_quiet_op; go_big_quiet_on)
      (refine wpG_op rfl rfl rfl ?_; intro K hK; go_big_quiet_op; go_big_quiet_on)
      (refine wpG_val (v := .agg (txA ⟨⟨L, O⟩, A1, m, c1, A5, q, c5⟩)) rfl rfl (fun u hu => load_any_op u (box_tx hu (List.Mem.head _)) rfl) ?_ hw341; intro K hK; go_big_quiet_op; go_big_quiet_on)
      (refine wpG_call (f := 18) (args := #[.agg (txA ⟨⟨L, O⟩, A1, m, c1, A5, q, c5⟩)]) (v := .bool false) rfl rfl rfl Tryd.func18 rfl rfl (fun u hu => HMY.out u hu) ?_ hw341; intro K hK; go_big_quiet_op; go_big_quiet_on)
      (refine wpG_op rfl rfl rfl ?_; intro K hK; go_big_quiet_op; go_big_quiet_on)
      clear hone hw341
      refine wpG_nil ?_
      refine (hOp_panics ((w.heap.size, Obj.cells (txA ⟨⟨L, O⟩, A1, m, c1, A5, q, c5⟩) 25 (0, 0)) :: ((w.heap.size + 1 + 1, rdO A4 0 c4) :: ((w.heap.size + 1, Obj.cells #[.bool false] 4 (0, 0)) :: (N1 ++ N2)))) rfl rfl (fun _ h => h) (fun u hu => PUpon_call (fid := 32) (xs := #[.tmp 4, .tmp 19]) (args := #[.pointer (some ⟨w.heap.size + 1 + 1, 0, none⟩), .bool false]) rfl Tryd.func32 rfl rfl u ((need_no (.pointer (some ⟨w.heap.size + 1 + 1, 0, none⟩)) u).mono fun e w' h => let ⟨ch, e1, e2, e3⟩ := h; ⟨ch, e1, HNO.out, e2, _, _, txA_size _, e3 ▸ hu.sub (List.forall_mem_cons.2 ⟨(List.Mem.head _), List.forall_mem_cons.2 ⟨(List.Mem.tail _ (List.Mem.tail _ (List.Mem.head _))), fun _ h => by cases h⟩⟩)⟩)))
    | true =>
      have HRD : Hid (readX b = (⟨L, O⟩, true)) := HRX.out
      go_upto_region 5 with (fail)
      refine wp_region_Hx (w0 := w) [0, 1, 2, 3, 4, 5, 6, 7, 8] ((w.heap.size, Obj.cells (txA ⟨⟨L, O⟩, A1, m, c1, A5, q, c5⟩) 25 (0, 0)) :: ((w.heap.size + 1 + 1, rdO A4 0 c4) :: ((w.heap.size + 1, Obj.cells #[.bool false] 4 (0, 0)) :: (N1 ++ N2)))) rfl EX9.out ?_
      refine lexH_phase [0, 1, 2, 3, 4, 5, 6, 7, 8] [] ?_
      have hw381 : EnvX w _ ((w.heap.size, Obj.cells (txA ⟨⟨L, O⟩, A1, m, c1, A5, q, c5⟩) 25 (0, 0)) :: ((w.heap.size + 1 + 1, rdO A4 0 c4) :: ((w.heap.size + 1, Obj.cells #[.bool false] 4 (0, 0)) :: (N1 ++ N2)))) := EX9.out
      have hone := @EnvC.one _ _ _ hw381
      (refine wpG_op rfl rfl rfl ?_; intro K hK; go_big_quiet_op; go_big_quiet_on)
      (refine wpG_val (v := .slice A4 0 c4) rfl rfl (fun u hu => load_any_op u (run_load_one oneBytes u (box_cell hu (List.Mem.tail _ (List.Mem.head _)) rfl)) rfl) ?_ hw381; intro K hK; go_big_quiet_op; go_big_quiet_on)
      (refine wpG_val (v := .int .i64 ((0 : Nat) : Int)) rfl rfl (fun u hu => len_op Tryd.underlying26 HN63.out u rfl) ?_ hw381; intro K hK; go_big_quiet_op; go_big_quiet_on)
      (refine wpG_val (v := .bool true) rfl rfl (fun u hu => eqlI_op u D3.out rfl rfl) ?_ hw381; intro K hK; go_big_quiet_op; go_big_quiet_on)
      (refine wpG_op rfl rfl rfl ?_; intro K hK; go_big_quiet_op; go_big_quiet_on)
      (refine wpG_val (v := .agg (txA ⟨⟨L, O⟩, A1, m, c1, A5, q, c5⟩)) rfl rfl (fun u hu => load_any_op u (box_tx hu (List.Mem.head _)) rfl) ?_ hw381; intro K hK; go_big_quiet_op; go_big_quiet_on)
      (refine wpG_call (f := 18) (args := #[.agg (txA ⟨⟨L, O⟩, A1, m, c1, A5, q, c5⟩)]) (v := .bool true) rfl rfl rfl Tryd.func18 rfl rfl (fun u hu => HMY.out u hu) ?_ hw381; intro K hK; go_big_quiet_op; go_big_quiet_on)
      (refine wpG_op rfl rfl rfl ?_; intro K hK; go_big_quiet_op; go_big_quiet_on)
      (refine wpG_call (f := 32) (args := #[.pointer (some ⟨w.heap.size + 1 + 1, 0, none⟩), .bool true]) (v := .tuple #[]) rfl rfl rfl Tryd.func32 rfl rfl (fun u hu => need_yes _ u) ?_ hw381; intro K hK; go_big_quiet_op; go_big_quiet_on)
      clear hone hw381
      refine wpG_nil ?_
      intro u383 E2'
      have EX382 := Lib.hid E2'
      clear E2'
      go_upto_region 6 with (fail)
      refine wp_region_Hx (w0 := w) [0, 1, 2] ((w.heap.size, Obj.cells (txA ⟨⟨L, O⟩, A1, m, c1, A5, q, c5⟩) 25 (0, 0)) :: ((w.heap.size + 1 + 1, rdO A4 0 c4) :: ((w.heap.size + 1, Obj.cells #[.bool false] 4 (0, 0)) :: (N1 ++ N2)))) rfl EX382.out ?_
      refine lexH_phase [0] [1, 2] ?_
      have hw384 : EnvX w _ ((w.heap.size, Obj.cells (txA ⟨⟨L, O⟩, A1, m, c1, A5, q, c5⟩) 25 (0, 0)) :: ((w.heap.size + 1 + 1, rdO A4 0 c4) :: ((w.heap.size + 1, Obj.cells #[.bool false] 4 (0, 0)) :: (N1 ++ N2)))) := EX382.out
      have hone := @EnvC.one _ _ _ hw384
      (refine wpG_val (v := .agg (txA ⟨⟨L, O⟩, A1, m, c1, A5, q, c5⟩)) rfl rfl (fun u hu => load_any_op u (box_tx hu (List.Mem.head _)) rfl) ?_ hw384; intro K hK; go_big_quiet_op; go_big_quiet_on)
      clear hone hw384
      refine wpG_nil ?_
      refine (hOp_store rfl (w.heap.size) (txA ⟨⟨L, O⟩, A1, m, c1, A5, q, c5⟩) rfl rfl (Nat.le_refl _) 25 ((txA ⟨⟨L, O⟩, A1, m, c1, A5, q, c5⟩)) (List.Mem.head _) (infoTx _ (txA_size _)) ((txA_size _).trans (txA_size _).symm) (txA_one _) ((w.heap.size, Obj.cells (txA ⟨⟨L, O⟩, A1, m, c1, A5, q, c5⟩) 25 (0, 0)) :: ((w.heap.size + 1, Obj.cells #[.bool false] 4 (0, 0)) :: (N1 ++ N2))) (List.forall_mem_cons.2 ⟨.inl rfl, List.forall_mem_cons.2 ⟨.inr ⟨List.mem_cons_of_mem _ (List.mem_cons_of_mem _ (List.Mem.head _)), HG3.out.2.1⟩, fun y hy => .inr ⟨List.mem_cons_of_mem _ (List.mem_cons_of_mem _ (List.mem_cons_of_mem _ hy)), (fun y hy => (List.mem_append.1 hy).elim (fun h => (HN.out y h).2.2.2) (fun h => (HN2.out y h).2.2.2.1)) y hy⟩⟩⟩) ?_)
      intro he385
      refine (hOp_putAt rfl (w.heap.size + 1) (0) (.bool true) rfl rfl (Nat.le_succ _) 4 (#[.bool false]) (#[.bool true]) (List.Mem.tail _ (List.Mem.head _)) infoBool (Nat.le_refl 1) (by simp [Value.cells]; rfl) rfl ((w.heap.size + 1, Obj.cells (#[.bool true]) 4 (0, 0)) :: ((w.heap.size, Obj.cells (txA ⟨⟨L, O⟩, A1, m, c1, A5, q, c5⟩) 25 (0, 0)) :: (N1 ++ N2))) (List.forall_mem_cons.2 ⟨.inl rfl, List.forall_mem_cons.2 ⟨.inr ⟨List.Mem.head _, fun e => HG3.out.2.1 e.symm⟩, fun y hy => .inr ⟨List.mem_cons_of_mem _ (List.mem_cons_of_mem _ hy), (fun y hy => (List.mem_append.1 hy).elim (fun h => (HN.out y h).2.2.1) (fun h => (HN2.out y h).2.2.1)) y hy⟩⟩⟩) ?_)
      intro he386
      intro u388 E2'
      have EX387 := Lib.hid E2'
      clear E2'
      go_wp2
      exact read_doneL (fun _ _ h => h) _ rfl rfl ⟨⟨L, O⟩, A1, m, c1, A5, q, c5⟩ _ (EX387.out.sub (List.forall_mem_cons.2 ⟨List.mem_cons_of_mem _ (List.Mem.head _), List.forall_mem_cons.2 ⟨List.Mem.head _, fun _ h => by cases h⟩⟩)) HRD.out (HTX.out _ _ EX387.out (fun y hy => List.mem_cons_of_mem _ (List.mem_cons_of_mem _ (List.mem_append_left _ hy))) (fun y hy => List.mem_cons_of_mem _ (List.mem_cons_of_mem _ (List.mem_append_right _ hy))))
theorem readX_by (hmay : ∀ (t : TxM) (w : World), TxOk w t → Calls Tryd.prog 18 #[txV t] w fun e w' => e = .returned (.bool (mayX t.r)) ∧ Below w.heap.size w w') (A : Option Addr) (n c : Nat) (b : List Int) (w : World) (hl : b.length = n) (hn : n ≤ 1000000) (hnc : n ≤ c) (hcm : c ≤ maxLen) (hB : isB b) (hx : Bytes w w.heap.size A b) :
    Calls Tryd.prog 14 #[.slice A n c] w fun e w' => (∃ t : TxM, e = .returned (.tuple #[txV t, .bool (readX b).2]) ∧ t.r = (readX b).1 ∧ TxOk w' t) ∧ Below w.heap.size w w' := by
  rcases Nat.lt_or_ge b.length (atO b) with h1 | h1
  · exact readX_A A n c b w (by omega) hnc hcm hB hx h1
  · rcases Nat.lt_or_ge b.length (atO b + 1 + 7 * nOut b) with h2 | h2
    · exact readX_B1 A n c b w (by omega) hnc hcm hB hx h1 h2
    · exact readX_B2 hmay A n c b w (by omega) hnc hcm hB hx h1 h2
end Go.Proofs.YtcodmedgkboohaaDoor
