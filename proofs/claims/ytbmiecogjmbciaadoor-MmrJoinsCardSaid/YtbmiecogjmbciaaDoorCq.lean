/- Part of a proof. -/
import Derived.Test.YtbmiecogjmbciaaDoorCp
namespace Go.Proofs.YtbmiecogjmbciaaDoor
set_option maxRecDepth 8000
open Go.RowKit

set_option maxRecDepth 20000 in
set_option maxHeartbeats 4000000 in
theorem mequal_any (l q : List Tot) (A A' : Option Addr) (n c m c' : Nat) (w : World) (hl : l.length = n) (hq : q.length = m) (hn : n ≤ 1000000) (hm : m ≤ 1000000) (hnc : n ≤ c) (hc : c ≤ maxLen) (hmc : m ≤ c') (hc' : c' ≤ maxLen) (hI : okTs l) (hJ : okTs q) (hA : TotsIn w w.heap.size A l) (hB : TotsIn w w.heap.size A' q) :
    Calls Tryd.prog 43 #[.slice A n c, .slice A' m c'] w fun e w' => e = .returned (.bool (decide (l = q))) ∧ Below w.heap.size w w' := by
  unfold maxLen at hc hc'
  have HL := Lib.hid hl
  have HQ := Lib.hid hq
  have HI := Lib.hid (And.intro hI hA)
  have HJ := Lib.hid (And.intro hJ hB)
  clear hI hA hJ hB hl hq
  by_cases hnm : n = m
  · subst hnm
    go_enter Tryd.func43, Tryd.ntmps43
    go_upto_region 4 with (fail)
    go_loopw [13] (fun i u => ∃ k : Nat, k ≤ n ∧ i = .int .i64 k ∧ Below w.heap.size w u ∧ Hid (l.take k = q.take k)) (fun i _ => n - (intOf i).toNat)
    case atStart => exact ⟨0, by omega, rfl, Below.refl _ _, rfl⟩
    case round =>
      obtain ⟨k, hk, rfl, hbl, hsame⟩ := hrel
      by_cases hlt : k < n
      · have hk2 : (k : Int) < (n : Int) := by omega
        obtain ⟨a1, rfl, h1⟩ := HI.out.2.loads HI.out.1 (k := k) (by rw [HL.out]; exact hlt)
        obtain ⟨a2, rfl, h2⟩ := HJ.out.2.loads HJ.out.1 (k := k) (by rw [HQ.out]; exact hlt)
        have H1 := Lib.hid h1
        have H2 := Lib.hid h2
        have E1 : Hid (EnvX w wr []) := ⟨hbl, fun _ _ h => by cases h⟩
        have HX := Lib.hid (HI.out.1.get (i := k) (by rw [HL.out]; exact hlt))
        have HY := Lib.hid (HJ.out.1.get (i := k) (by rw [HQ.out]; exact hlt))
        have HST := Lib.hid (tots_step hsame.out (by rw [HL.out]; exact hlt) (by rw [HQ.out]; exact hlt))
        have HNE : Hid (l.getD k noTot ≠ q.getD k noTot → l ≠ q) := fun h e => h (by rw [e])
        clear h1 h2 hsame hbl
        generalize l.getD k noTot = x at *
        generalize q.getD k noTot = y at *
        go_upto_region 6 with (fail)
        refine wp_region_H (w0 := w) [] (by kernel_rfl) E1.out ?_
        refine anyH_phase [0, 1, 2, 3, 4, 5, 6, 7, 8] 0 rfl ⟨_, (EnvX.drew E1.out)⟩ (by kernel_rfl) ?_
        have hw1 : EnvX w _ [] := (EnvX.drew E1.out)
        have hone := @EnvC.one _ _ _ hw1
        (refine wpG_op rfl rfl rfl ?_; intro K hK; go_big_quiet_op; go_big_quiet_on)
        (refine wpG_op rfl rfl rfl ?_; intro K hK; go_big_quiet_op; go_big_quiet_on)
        (refine wpG_op rfl rfl rfl ?_; intro K hK; go_big_quiet_op; go_big_quiet_on)
        (refine wpG_val (v := totV x) rfl rfl (fun u hu => load_any_op u (H1.out u (EnvX.sub hu (fun _ h => by cases h))).1 rfl) ?_ hw1; intro K hK; go_big_quiet_op; go_big_quiet_on)
        (refine wpG_op rfl rfl rfl ?_; intro K hK; go_big_quiet_op; go_big_quiet_on)
        (refine wpG_op rfl rfl rfl ?_; intro K hK; go_big_quiet_op; go_big_quiet_on)
        (refine wpG_op rfl rfl rfl ?_; intro K hK; go_big_quiet_op; go_big_quiet_on)
        (refine wpG_val (v := totV y) rfl rfl (fun u hu => load_any_op u (H2.out u (EnvX.sub hu (fun _ h => by cases h))).1 rfl) ?_ hw1; intro K hK; go_big_quiet_op; go_big_quiet_on)
        (refine wpG_val (v := .bool (!eqT x y)) rfl rfl (fun u hu => neqT_op HX.out HY.out u rfl rfl) ?_ hw1; intro K hK; go_big_quiet_op; go_big_quiet_on)
        clear hone hw1
        refine wpG_nil ?_
        refine anyH_done (by kernel_rfl) ?_
        intro u3 E2'
        have EX2 := Lib.hid E2'
        clear E2'
        by_cases hxy : x = y
        · have hb : eqT x y = true := by simp [eqT, hxy]
          rw [hb]
          go_wp2
          go_roundw
          case rel => exact ⟨k + 1, by omega, by go_num, EnvX.bel EX2.out, HST.out hxy⟩
          case measure => simp [intOf]; omega
        · have hb : eqT x y = false := by simp [eqT, hxy]
          have HR : Hid (decide (l = q) = false) := by
            show _ = _
            simp [HNE.out hxy]
          rw [hb]
          go_wp2
          go_ret
          exact ⟨by rw [HR.out]; rfl, EnvX.bel EX2.out⟩
      · obtain rfl : k = n := by omega
        have HR : Hid (decide (l = q) = true) := by
          have h := hsame.out
          rw [List.take_of_length_le (by rw [HL.out]; exact Nat.le_refl _), List.take_of_length_le (by rw [HQ.out]; exact Nat.le_refl _)] at h
          show _ = _
          simp [h]
        clear hsame
        go_wp2
        go_ret
        exact ⟨by rw [HR.out]; rfl, hbl⟩
  · have hne : ¬ (n : Int) = (m : Int) := by omega
    have HR : Hid (decide (l = q) = false) := by
      show _ = _
      have : l ≠ q := fun e => hnm (by rw [← HL.out, ← HQ.out, e])
      simp [this]
    go_enter Tryd.func43, Tryd.ntmps43
    go_wp2
    go_ret
    exact ⟨by rw [HR.out]; rfl, Below.refl _ _⟩
theorem msame_any (l q : List Tot) (A A' : Option Addr) (n c m c' : Nat) (w : World) (hl : l.length = n) (hq : q.length = m) (hn : n ≤ 1000000) (hm : m ≤ 1000000) (hnc : n ≤ c) (hc : c ≤ maxLen) (hmc : m ≤ c') (hc' : c' ≤ maxLen) (hI : okTs l) (hJ : okTs q) (hA : TotsIn w w.heap.size A l) (hB : TotsIn w w.heap.size A' q) :
    Calls Tryd.prog 17 #[.slice A n c, .slice A' m c'] w fun e w' => e = .returned (.bool (decide (l = q))) ∧ Below w.heap.size w w' := by
  have HE := Lib.hid (mequal_any l q A A' n c m c' w hl hq hn hm hnc hc hmc hc' hI hJ hA hB)
  clear hI hJ hA hB hl hq
  go_enter Tryd.func17, Tryd.ntmps17
  go_wp2_with fail
  refine HE.out.mono ?_
  rintro e w1 ⟨rfl, hb1⟩
  have HB1 := Lib.hid hb1
  clear hb1
  go_wp2
  go_ret
  exact ⟨rfl, HB1.out⟩
theorem mmrC : MmrC where
  leaf := fun h n w hh hn _ => mleaf_any h n w hh hn
  join := fun a b w ha hb ht => mjoin_any a b w ha hb ht
  app := fun p leaf A n c w hl hn _ _ hI hlf hA ht => mapp_any p leaf A n c w hl hn hI hlf hA ht
  root := fun p A n c w hl hn _ _ hI hA ht => mroot_any p A n c w hl hn hI hA ht
  path := fun l i A n c w hl hn hnc hcm hi hI hA ht => mpath_any l i A n c w hl hn hnc hcm hi hI hA ht
  check := fun root leaf i p A m c w hr hlf hi hm hm6 hmc hcm hI hA ht => mcheck_any root leaf i p A m c w hr hlf hi hm hm6 hmc hcm hI hA ht
  same := fun l q A A' n c m c' w hl hq hn hm hnc hc hmc hc' hI hJ hA hB => msame_any l q A A' n c m c' w hl hq hn hm hnc hc hmc hc' hI hJ hA hB
end Go.Proofs.YtbmiecogjmbciaaDoor
