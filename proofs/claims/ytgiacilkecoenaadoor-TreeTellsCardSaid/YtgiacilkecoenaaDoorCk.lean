/- The reference's path and Path. -/
import Derived.Test.YtgiacilkecoenaaDoorCj
namespace Go.Proofs.YtgiacilkecoenaaDoor
open Go.RowKit

theorem path_ids : ∀ (n : Nat) (l : List (List Int)) (i : Nat), l.length = n → isIds l → isIds (pathT l i) := by
  intro n
  induction n using Nat.strongRecOn with
  | _ n ih =>
    intro l i hl hI
    by_cases h : n ≤ 1
    · have e : pathT l i = [] := by
        have h1 := path_len n l i hl
        have h2 := sides_le 0 n i (by simpa using h)
        exact List.eq_nil_of_length_eq_zero (by omega)
      rw [e]
      intro x hx
      cases hx
    · obtain ⟨a, b, _, _⟩ := half_spec (n := n) (by omega)
      have key : ∀ (p q : List (List Int)), isIds p → isIds q → isIds (p ++ [rootT q]) := fun p q hp hq x hx => by
        rcases List.mem_append.1 hx with h | h
        · exact hp x h
        · cases List.mem_singleton.1 h
          exact root_id hq
      by_cases hi : i < halfT n
      · rw [path_low (by omega) (by rw [hl]; exact hi), hl]
        exact key _ _ (ih (halfT n) b _ i (by rw [List.length_take]; omega) (hI.take _)) (hI.drop _)
      · rw [path_high (by omega) (by rw [hl]; exact hi), hl]
        exact key _ _ (ih (n - halfT n) (by omega) _ _ (by rw [List.length_drop]; omega) (hI.drop _)) (hI.take _)
theorem path_short {l : List (List Int)} (i : Nat) (h : l.length ≤ 1000000) : (pathT l i).length ≤ 1000000 := by
  rw [path_len _ l i rfl]
  exact Nat.le_trans (sides_le l.length l.length i (Nat.le_of_lt Nat.lt_two_pow_self)) h
set_option maxRecDepth 20000 in
set_option maxHeartbeats 4000000 in
theorem rpath_any : ∀ (n i : Nat) (l : List (List Int)) (A : Option Addr) (c : Nat) (w : World), l.length = n → i < n → n ≤ 1000000 → n ≤ c → c ≤ maxLen → isIds l → IdsIn w w.heap.size A l →
    Calls Tryd.prog 25 #[.slice A n c, .int .i64 i] w fun e w' => (∃ v, e = .returned v ∧ OwnI w' w.heap.size v (pathT l i)) ∧ Below w.heap.size w w' := by
  intro n
  induction n using Nat.strongRecOn with
  | _ n ih =>
    intro i l A c w hl hi hn hc hcm hI hA
    by_cases h1 : n = 1
    · subst h1
      obtain ⟨x, rfl⟩ : ∃ x, l = [x] := by
        match l, hl with
        | [x], _ => exact ⟨x, rfl⟩
      clear ih hI hA hl
      go_enter Tryd.func25, Tryd.ntmps25
      go_wp2
      go_ret
      exact ⟨⟨_, rfl, OwnI.nil _ _⟩, Below.refl _ _⟩
    · have h2 : 2 ≤ n := by omega
      have hne : ¬ (n : Int) = 1 := by omega
      obtain ⟨a, b, c2, -⟩ := half_spec h2
      have l1 : (l.take (halfT n)).length = halfT n := by rw [List.length_take]; omega
      have l2 : (l.drop (halfT n)).length = n - halfT n := by rw [List.length_drop]; omega
      have hr1 := root_id (hI.take (halfT n))
      have hr2 := root_id (hI.drop (halfT n))
      have HH := Lib.hid (rhalf_any n w h2 (by omega))
      have HRT1 : Hid (∀ u, EnvX w u [] → Calls Tryd.prog 14 #[.slice A (halfT n) c] u fun e w' => e = .returned (idv (rootT (l.take (halfT n)))) ∧ Below u.heap.size u w') := fun u hu =>
        rroot_any (halfT n) (l.take (halfT n)) A c u l1 (by omega) (by omega) hcm (hI.take _) ((hA.take hI _).up (EnvX.bel hu))
      have HRT2 : Hid (∀ u, EnvX w u [] → Calls Tryd.prog 14 #[.slice (cutI' A (halfT n) c) (n - halfT n) (c - halfT n)] u fun e w' => e = .returned (idv (rootT (l.drop (halfT n)))) ∧ Below u.heap.size u w') := fun u hu =>
        rroot_any (n - halfT n) (l.drop (halfT n)) (cutI' A (halfT n) c) (c - halfT n) u l2 (by omega) (by omega) (by omega) (hI.drop _) ((hA.drop hI _ c (by omega)).up (EnvX.bel hu))
      have HKC : Hid (halfT n ≤ c) := by show _ ≤ _; omega
      have HKN : Hid (halfT n ≤ n) := by show _ ≤ _; omega
      have E1 : Hid (EnvX w w []) := EnvX.start w
      by_cases hlow : i < halfT n
      · have hp := Lib.hid (path_low (l := l) (by omega) (by rw [hl]; exact hlow))
        have HPI : Hid (isIds (pathT (l.take (halfT n)) i) ∧ isIds (pathT l i)) := ⟨path_ids _ _ _ rfl (hI.take _), path_ids _ _ _ rfl hI⟩
        have HPS : Hid ((pathT (l.take (halfT n)) i).length ≤ 1000000 ∧ (rootT (l.drop (halfT n))).length = 32) := ⟨path_short i (by omega), hr2.1⟩
        have HI : Hid (∀ u, EnvX w u [] → Calls Tryd.prog 25 #[.slice A (halfT n) c, .int .i64 i] u fun e w' => (∃ v, e = .returned v ∧ OwnI w' u.heap.size v (pathT (l.take (halfT n)) i)) ∧ Below u.heap.size u w') := fun u hu =>
          ih (halfT n) b i (l.take (halfT n)) A c u l1 hlow (by omega) (by omega) hcm (hI.take _) ((hA.take hI _).up (EnvX.bel hu))
        rw [hl] at hp
        clear ih hI hA hr1 hr2 l1 l2 HRT1 hl
        generalize halfT n = k at *
        have hlow2 : (i : Int) < (k : Int) := by omega
        go_enter Tryd.func25, Tryd.ntmps25
        go_wp2_with fail
        refine HH.out.mono ?_
        rintro e w1 ⟨rfl, rfl⟩
        go_wp2_with fail
        refine wp_region_H (w0 := w) [] (by kernel_rfl) E1.out ?_
        refine anyH_phase [0, 1, 2, 3, 5, 6, 7] 5 rfl ⟨_, (EnvX.drew E1.out)⟩ (by kernel_rfl) ?_
        have hw1 : EnvX w _ [] := (EnvX.drew E1.out)
        have hone := @EnvC.one _ _ _ hw1
        (refine wpG_op rfl rfl rfl ?_; intro K hK; go_big_quiet_op; go_big_quiet_on)
        (refine wpG_op rfl rfl rfl ?_; intro K hK; go_big_quiet_op; go_big_quiet_on)
        (refine wpG_val (v := .slice A k c) rfl rfl (fun u hu => cutIh_op u HKC.out rfl rfl) ?_ hw1; intro K hK; go_big_quiet_op; go_big_quiet_on)
        (refine wpG_op rfl rfl rfl ?_; intro K hK; go_big_quiet_op; go_big_quiet_on)
        (refine wpG_op rfl rfl rfl ?_; intro K hK; go_big_quiet_op; go_big_quiet_on)
        (refine wpG_op rfl rfl rfl ?_; intro K hK; go_big_quiet_op; go_big_quiet_on)
        (refine wpG_val (v := (.slice (cutI' A k c) (n - k) (c - k))) rfl rfl (fun u hu => cutIl_op u HKN.out rfl rfl) ?_ hw1; intro K hK; go_big_quiet_op; go_big_quiet_on)
        clear hone hw1
        refine wpG_nil ?_
        refine anyH_one (i := 4) (by kernel_rfl) (hOp_fresh (R := FreshI (pathT (l.take k) i)) (M0 := []) rfl rfl (fun _ h => h) (fun u hu => FAt_call (fid := 25) (xs := #[.tmp 17, .tmp 18]) (args := #[.slice A k c, .int .i64 i]) rfl Tryd.func25 rfl rfl u (callsI_fresh (HI.out u (EnvX.sub hu (fun _ h => by cases h))))) ?_)
        rintro x N hF hf he2; intro K' hK'; go_big_quiet_op; go_big_quiet_on
        have HFN := Lib.hid hf
        have HF := Lib.hid hF
        clear hF
        clear hf
        change anyH _ _ _ _ _ _ _ _ (N ++ [])
        refine anyH_phase [8] 3 rfl ⟨_, he2.choose_spec⟩ (by kernel_rfl) ?_
        have hw3 : EnvX w _ (N ++ []) := he2.choose_spec
        have hone := @EnvC.one _ _ _ hw3
        (refine wpG_call (f := 14) (args := #[(.slice (cutI' A k c) (n - k) (c - k))]) (v := idv (rootT (l.drop k))) rfl rfl rfl Tryd.func14 rfl rfl (fun u hu => HRT2.out u (EnvX.sub hu (fun _ h => by cases h))) ?_ hw3; intro K hK; go_big_quiet_op; go_big_quiet_on)
        clear hone hw3
        refine wpG_nil ?_
        refine anyH_one (i := 9) (by kernel_rfl) (hOp_fresh (R := BuiltI (rootT (l.drop k))) (M0 := (N ++ [])) rfl rfl (fun _ h => h) (fun u hu => FAt_buildI HPS.out.2 rfl u) ?_)
        rintro x N ⟨g, rfl, rfl⟩ hf he4; intro K' hK'; go_big_quiet_op; go_big_quiet_on
        clear hf
        change anyH _ _ _ _ _ _ _ _ ((g, Obj.cells (arrB 32 (rootT (l.drop k))) 29 (0, 0)) :: (N ++ []))
        refine anyH_one (i := 10) (by kernel_rfl) (hOp_own (gd := none) (R := GrownI w ((pathT (l.take k) i) ++ [rootT (l.drop k)]) []) rfl rfl rfl rfl (fun u hu => appI_op [] hu HPI.out.1 HPS.out.2 HF.out (fun y hy => ⟨List.Mem.tail _ (List.mem_append_left _ hy), (HFN.out y hy).1⟩) (List.Mem.head _) (fun z hz => by cases hz) HPS.out.1 rfl rfl) ?_)
        rintro x M' ⟨N2, rfl, hF2, hf2⟩ he5; intro K' hK'; go_big_quiet_op; go_big_quiet_on
        have HF2 := Lib.hid (And.intro hF2 hf2)
        clear hF2 hf2
        change anyH _ _ _ _ _ _ _ _ (N2 ++ [])
        refine anyH_phase [11] 0 rfl ⟨_, he5.choose_spec⟩ (by kernel_rfl) ?_
        have hw6 : EnvX w _ (N2 ++ []) := he5.choose_spec
        have hone := @EnvC.one _ _ _ hw6
        (refine wpG_op rfl rfl rfl ?_; intro K hK; go_big_quiet_op; go_big_quiet_on)
        clear hone hw6
        refine wpG_nil ?_
        refine anyH_done (by kernel_rfl) ?_
        intro u8 E2'
        have EX7 := Lib.hid E2'
        clear E2'
        go_wp2
        go_ret
        exact ⟨⟨_, rfl, by rw [hp.out]; exact HF2.out.1.own (by rw [← hp.out]; exact HPI.out.2) (fun y hy => ⟨(HF2.out.2 y hy).1, EnvX.box EX7.out _ _ (List.mem_append_left _ hy)⟩)⟩, EnvX.bel EX7.out⟩
      · have hp := Lib.hid (path_high (l := l) (by omega) (by rw [hl]; exact hlow))
        have HPI : Hid (isIds (pathT (l.drop (halfT n)) (i - halfT n)) ∧ isIds (pathT l i)) := ⟨path_ids _ _ _ rfl (hI.drop _), path_ids _ _ _ rfl hI⟩
        have HPS : Hid ((pathT (l.drop (halfT n)) (i - halfT n)).length ≤ 1000000 ∧ (rootT (l.take (halfT n))).length = 32) := ⟨path_short _ (by omega), hr1.1⟩
        have HI : Hid (∀ u, EnvX w u [] → Calls Tryd.prog 25 #[.slice (cutI' A (halfT n) c) (n - halfT n) (c - halfT n), .int .i64 ((i : Int) - (halfT n : Int))] u fun e w' => (∃ v, e = .returned v ∧ OwnI w' u.heap.size v (pathT (l.drop (halfT n)) (i - halfT n))) ∧ Below u.heap.size u w') := fun u hu => by
          have h := ih (n - halfT n) (by omega) (i - halfT n) (l.drop (halfT n)) (cutI' A (halfT n) c) (c - halfT n) u l2 (by omega) (by omega) (by omega) (by omega) (hI.drop _) ((hA.drop hI _ c (by omega)).up (EnvX.bel hu))
          rwa [show ((i - halfT n : Nat) : Int) = (i : Int) - (halfT n : Int) by omega] at h
        rw [hl] at hp
        clear ih hI hA hr1 hr2 l1 l2 HRT2 hl
        generalize halfT n = k at *
        have hlow2 : ¬ (i : Int) < (k : Int) := by omega
        go_enter Tryd.func25, Tryd.ntmps25
        go_wp2_with fail
        refine HH.out.mono ?_
        rintro e w1 ⟨rfl, rfl⟩
        go_wp2_with fail
        refine wp_region_H (w0 := w) [] (by kernel_rfl) E1.out ?_
        refine anyH_phase [0, 1, 2, 3, 4, 5, 7, 8, 9] 5 rfl ⟨_, (EnvX.drew E1.out)⟩ (by kernel_rfl) ?_
        have hw1 : EnvX w _ [] := (EnvX.drew E1.out)
        have hone := @EnvC.one _ _ _ hw1
        (refine wpG_op rfl rfl rfl ?_; intro K hK; go_big_quiet_op; go_big_quiet_on)
        (refine wpG_op rfl rfl rfl ?_; intro K hK; go_big_quiet_op; go_big_quiet_on)
        (refine wpG_val (v := (.slice (cutI' A k c) (n - k) (c - k))) rfl rfl (fun u hu => cutIl_op u HKN.out rfl rfl) ?_ hw1; intro K hK; go_big_quiet_op; go_big_quiet_on)
        (refine wpG_op rfl rfl rfl ?_; intro K hK; go_big_quiet_op; go_big_quiet_on)
        (refine wpG_op rfl rfl rfl ?_; intro K hK; go_big_quiet_op; go_big_quiet_on)
        (refine wpG_op rfl rfl rfl ?_; intro K hK; go_big_quiet_op; go_big_quiet_on)
        (refine wpG_op rfl rfl rfl ?_; intro K hK; go_big_quiet_op; go_big_quiet_on)
        (refine wpG_op rfl rfl rfl ?_; intro K hK; go_big_quiet_op; go_big_quiet_on)
        (refine wpG_val (v := .slice A k c) rfl rfl (fun u hu => cutIh_op u HKC.out rfl rfl) ?_ hw1; intro K hK; go_big_quiet_op; go_big_quiet_on)
        clear hone hw1
        refine wpG_nil ?_
        refine anyH_one (i := 6) (by kernel_rfl) (hOp_fresh (R := FreshI (pathT (l.drop k) (i - k))) (M0 := []) rfl rfl (fun _ h => h) (fun u hu => FAt_call (fid := 25) (xs := #[.tmp 28, .tmp 31]) (args := #[(.slice (cutI' A k c) (n - k) (c - k)), .int .i64 ((i : Int) - (k : Int))]) rfl Tryd.func25 rfl rfl u (callsI_fresh (HI.out u (EnvX.sub hu (fun _ h => by cases h))))) ?_)
        rintro x N hF hf he2; intro K' hK'; go_big_quiet_op; go_big_quiet_on
        have HFN := Lib.hid hf
        have HF := Lib.hid hF
        clear hF
        clear hf
        change anyH _ _ _ _ _ _ _ _ (N ++ [])
        refine anyH_phase [10] 3 rfl ⟨_, he2.choose_spec⟩ (by kernel_rfl) ?_
        have hw3 : EnvX w _ (N ++ []) := he2.choose_spec
        have hone := @EnvC.one _ _ _ hw3
        (refine wpG_call (f := 14) (args := #[.slice A k c]) (v := idv (rootT (l.take k))) rfl rfl rfl Tryd.func14 rfl rfl (fun u hu => HRT1.out u (EnvX.sub hu (fun _ h => by cases h))) ?_ hw3; intro K hK; go_big_quiet_op; go_big_quiet_on)
        clear hone hw3
        refine wpG_nil ?_
        refine anyH_one (i := 11) (by kernel_rfl) (hOp_fresh (R := BuiltI (rootT (l.take k))) (M0 := (N ++ [])) rfl rfl (fun _ h => h) (fun u hu => FAt_buildI HPS.out.2 rfl u) ?_)
        rintro x N ⟨g, rfl, rfl⟩ hf he4; intro K' hK'; go_big_quiet_op; go_big_quiet_on
        clear hf
        change anyH _ _ _ _ _ _ _ _ ((g, Obj.cells (arrB 32 (rootT (l.take k))) 29 (0, 0)) :: (N ++ []))
        refine anyH_one (i := 12) (by kernel_rfl) (hOp_own (gd := none) (R := GrownI w ((pathT (l.drop k) (i - k)) ++ [rootT (l.take k)]) []) rfl rfl rfl rfl (fun u hu => appI_op [] hu HPI.out.1 HPS.out.2 HF.out (fun y hy => ⟨List.Mem.tail _ (List.mem_append_left _ hy), (HFN.out y hy).1⟩) (List.Mem.head _) (fun z hz => by cases hz) HPS.out.1 rfl rfl) ?_)
        rintro x M' ⟨N2, rfl, hF2, hf2⟩ he5; intro K' hK'; go_big_quiet_op; go_big_quiet_on
        have HF2 := Lib.hid (And.intro hF2 hf2)
        clear hF2 hf2
        change anyH _ _ _ _ _ _ _ _ (N2 ++ [])
        refine anyH_phase [13] 0 rfl ⟨_, he5.choose_spec⟩ (by kernel_rfl) ?_
        have hw6 : EnvX w _ (N2 ++ []) := he5.choose_spec
        have hone := @EnvC.one _ _ _ hw6
        (refine wpG_op rfl rfl rfl ?_; intro K hK; go_big_quiet_op; go_big_quiet_on)
        clear hone hw6
        refine wpG_nil ?_
        refine anyH_done (by kernel_rfl) ?_
        intro u8 E2'
        have EX7 := Lib.hid E2'
        clear E2'
        go_wp2
        go_ret
        exact ⟨⟨_, rfl, by rw [hp.out]; exact HF2.out.1.own (by rw [← hp.out]; exact HPI.out.2) (fun y hy => ⟨(HF2.out.2 y hy).1, EnvX.box EX7.out _ _ (List.mem_append_left _ hy)⟩)⟩, EnvX.bel EX7.out⟩
end Go.Proofs.YtgiacilkecoenaaDoor

/- The reference's Path, text, Leaf. -/
namespace Go.Proofs.YtgiacilkecoenaaDoor
open Go.RowKit

set_option maxRecDepth 20000 in
set_option maxHeartbeats 1000000 in
theorem rPath_none (n : Nat) (i : Int) (A : Option Addr) (c : Nat) (w : World) (hn : n ≤ maxLen) (hi0 : -9223372036854775808 ≤ i) (hi1 : i ≤ 9223372036854775807) (h : ¬ (n ≤ 64 ∧ 0 ≤ i ∧ i < n)) :
    Calls Tryd.prog 11 #[.slice A n c, .int .i64 i] w fun e w' => e = .returned (.tuple #[.slice none 0 0, .bool false]) ∧ w' = w := by
  unfold maxLen at hn
  by_cases h1 : 64 < n
  · have h1' : (64 : Int) < n := by omega
    go_enter Tryd.func11, Tryd.ntmps11
    go_wp2
    go_returns
    exact ⟨rfl, rfl⟩
  · have h1' : ¬ (64 : Int) < n := by omega
    by_cases h2 : i < 0
    · go_enter Tryd.func11, Tryd.ntmps11
      go_wp2
      go_returns
      exact ⟨rfl, rfl⟩
    · have h3 : (n : Int) ≤ i := by omega
      go_enter Tryd.func11, Tryd.ntmps11
      go_wp2
      go_returns
      exact ⟨rfl, rfl⟩
set_option maxRecDepth 20000 in
set_option maxHeartbeats 1000000 in
theorem rPath_some (i : Nat) (l : List (List Int)) (A : Option Addr) (c : Nat) (w : World) (hn : l.length ≤ 64) (hi : i < l.length) (hc : l.length ≤ c) (hcm : c ≤ maxLen) (hI : isIds l) (hA : IdsIn w w.heap.size A l) :
    Calls Tryd.prog 11 #[.slice A l.length c, .int .i64 i] w fun e w' => (∃ v, e = .returned (.tuple #[v, .bool true]) ∧ OwnI w' w.heap.size v (pathT l i)) ∧ Below w.heap.size w w' := by
  have HP := Lib.hid (rpath_any l.length i l A c w rfl hi (by omega) hc hcm hI hA)
  generalize pathT l i = p at *
  clear hI hA
  generalize l.length = n at *
  have h1' : ¬ (64 : Int) < n := by omega
  have h2 : ¬ (i : Int) < 0 := by omega
  have h3 : ¬ (n : Int) ≤ i := by omega
  go_enter Tryd.func11, Tryd.ntmps11
  go_wp2_with fail
  refine HP.out.mono ?_
  rintro e w1 ⟨⟨v, rfl, ho⟩, hb⟩
  have HO := Lib.hid ho
  have HB := Lib.hid hb
  clear ho hb
  go_wp2
  go_returns
  exact ⟨⟨_, rfl, HO.out⟩, HB.out⟩
set_option maxRecDepth 20000 in
set_option maxHeartbeats 1000000 in
theorem rtxt_any (s : Bool) (a b : List Int) (w : World) (ha : a.length = 32) (hb : b.length = 32) :
    Calls Tryd.prog 37 #[.bool s, idv a, idv b] w fun e w' => (∃ v, e = .returned v ∧ OwnB w' w.heap.size v (stepText s a b)) ∧ Below w.heap.size w w' := by
  obtain ⟨W, hW⟩ : ∃ W, (w.alloc (.cells (arrB 32 a) 29)).alloc (.cells (arrB 32 b) 29) = W := ⟨_, rfl⟩
  have r0 : Row W w.heap.size 29 (arrB 32 a) := by rw [← hW]; exact (Row.new w 29 _).alloc _
  have r1 : Row W (w.heap.size + 1) 29 (arrB 32 b) := by rw [← hW]; exact (Row.newAt (by simp) 29 _)
  have hbW : Below w.heap.size w W := by rw [← hW]; exact ((Below.refl _ _).alloc (Nat.le_refl _) _).alloc (by simp) _
  have q0 : Hid (W.heap[w.heap.size]? = some (.cells (arrB 32 a) 29 (0, 0))) := r0
  have q1 : Hid (W.heap[w.heap.size + 1]? = some (.cells (arrB 32 b) 29 (0, 0))) := r1
  have HB := Lib.hid hbW
  have hs1 : (arrB 32 a).size = 32 := arrB_size _ _ (by omega)
  have hs2 : (arrB 32 b).size = 32 := arrB_size _ _ (by omega)
  cases s
  · have HT := Lib.hid (rtext_any b a W hb ha)
    clear r0 r1 hbW
    unfold idv at *
    have hst : stepText false a b = textT b a := rfl
    rw [hst]
    generalize textT b a = t at *
    clear hst ha hb
    generalize arrB 32 a = ca at *
    generalize arrB 32 b = cb at *
    go_enter Tryd.func37, Tryd.ntmps37
    go_upto_region 1 with (fail)
    clear hW
    go_wp2_with (first
      | ((with_reducible refine wpList_load_row (o := ⟨some 11, _, _, _, _, _⟩) ?_ 29 (.tmp 5) ?_ (w.heap.size + 1) ?_ 29 cb (0, 0) _ q1.out Tryd.underlying29 ?_ (info26 cb hs2) ?_); (rfl); (rfl); (rfl); (rfl))
      | ((with_reducible refine wpList_load_row (o := ⟨some 12, _, _, _, _, _⟩) ?_ 29 (.tmp 4) ?_ w.heap.size ?_ 29 ca (0, 0) _ q0.out Tryd.underlying29 ?_ (info26 ca hs1) ?_); (rfl); (rfl); (rfl); (rfl)))
    refine HT.out.mono ?_
    rintro e w1 ⟨⟨v, rfl, ho⟩, hb⟩
    have HO := Lib.hid (ho.less (HB.out.size))
    have HB2 := Lib.hid (HB.out.trans (hb.mono HB.out.size))
    clear ho hb
    go_wp2
    go_ret
    exact ⟨⟨_, rfl, HO.out⟩, HB2.out⟩
  · have HT := Lib.hid (rtext_any a b W ha hb)
    clear r0 r1 hbW
    unfold idv at *
    have hst : stepText true a b = textT a b := rfl
    rw [hst]
    generalize textT a b = t at *
    clear hst ha hb
    generalize arrB 32 a = ca at *
    generalize arrB 32 b = cb at *
    go_enter Tryd.func37, Tryd.ntmps37
    go_upto_region 1 with (fail)
    clear hW
    go_wp2_with (first
      | ((with_reducible refine wpList_load_row (o := ⟨some 9, _, _, _, _, _⟩) ?_ 29 (.tmp 5) ?_ (w.heap.size + 1) ?_ 29 cb (0, 0) _ q1.out Tryd.underlying29 ?_ (info26 cb hs2) ?_); (rfl); (rfl); (rfl); (rfl))
      | ((with_reducible refine wpList_load_row (o := ⟨some 8, _, _, _, _, _⟩) ?_ 29 (.tmp 4) ?_ w.heap.size ?_ 29 ca (0, 0) _ q0.out Tryd.underlying29 ?_ (info26 ca hs1) ?_); (rfl); (rfl); (rfl); (rfl)))
    refine HT.out.mono ?_
    rintro e w1 ⟨⟨v, rfl, ho⟩, hb⟩
    have HO := Lib.hid (ho.less (HB.out.size))
    have HB2 := Lib.hid (HB.out.trans (hb.mono HB.out.size))
    clear ho hb
    go_wp2
    go_ret
    exact ⟨⟨_, rfl, HO.out⟩, HB2.out⟩
end Go.Proofs.YtgiacilkecoenaaDoor

/- The reference's climb. -/
namespace Go.Proofs.YtgiacilkecoenaaDoor
open Go.RowKit

/-- what comes of a leaf: the first k steps -/
def outsK (s : List Bool) (x : List Int) (p : List (List Int)) (k : Nat) : List (List Int) := (List.range (k + 1)).map (climbK s x p)
theorem outs_zero (s : List Bool) (x : List Int) (p : List (List Int)) : outsK s x p 0 = [x] := rfl
theorem outs_succ (s : List Bool) (x : List Int) (p : List (List Int)) (k : Nat) : outsK s x p (k + 1) = outsK s x p k ++ [climbK s x p (k + 1)] := by
  unfold outsK
  rw [List.range_succ, List.map_append]
  rfl
theorem outs_len (s : List Bool) (x : List Int) (p : List (List Int)) (k : Nat) : (outsK s x p k).length = k + 1 := by simp [outsK]
theorem outs_get (s : List Bool) (x : List Int) (p : List (List Int)) {k j : Nat} (h : j ≤ k) : (outsK s x p k).getD j [] = climbK s x p j := by
  unfold outsK
  rw [List.getD_eq_getElem?_getD, List.getElem?_map, List.getElem?_range (by omega)]
  rfl
theorem climb_id (s : List Bool) (x : List Int) (p : List (List Int)) (hx : x.length = 32 ∧ ∀ b ∈ x, 0 ≤ b ∧ b ≤ 255) : ∀ k, (climbK s x p k).length = 32 ∧ ∀ b ∈ climbK s x p k, 0 ≤ b ∧ b ≤ 255
  | 0 => hx
  | k + 1 => by
    show (stepT _ _ _).length = 32 ∧ ∀ b ∈ stepT _ _ _, _
    unfold stepT
    split
    · exact node_id _ _
    · exact node_id _ _
theorem outs_ids (s : List Bool) (x : List Int) (p : List (List Int)) (hx : x.length = 32 ∧ ∀ b ∈ x, 0 ≤ b ∧ b ≤ 255) (k : Nat) : isIds (outsK s x p k) := by
  intro y hy
  obtain ⟨j, _, rfl⟩ := List.mem_map.1 hy
  exact climb_id s x p hx j
theorem OwnF.get {w : World} {B n c : Nat} {A : Option Addr} {s : List Bool} (h : OwnF w B (.slice A n c) s) : s.length = n ∧ ∀ k, k < n → ∃ g, A = some ⟨g, 0, none⟩ ∧ g < w.heap.size ∧ w.cell? ⟨g, k, none⟩ = some (.bool (s.getD k true)) := by
  rcases h.2 with ⟨e, e2⟩ | ⟨g, cap, cur, e, _, hg, _⟩
  · injection e with e1 e3 e4
    exact ⟨by omega, fun k hk => by omega⟩
  · injection e with e1 e3 e4
    refine ⟨e3.symm, fun k hk => ⟨g, e1, Row.lt (t := 4) hg, ?_⟩⟩
    have hk' : k < s.length := by omega
    have := h.cells (g := g) (by rw [e1]; rfl) k (.bool (s.getD k true)) (by simp [List.getD, List.getElem?_eq_getElem hk'])
    rwa [Addr.add_mid, Nat.zero_add] at this
theorem OwnF.form {w : World} {B : Nat} {v : Value} {l : List Bool} (h : OwnF w B v l) : ∃ A c, v = .slice A l.length c ∧ l.length ≤ c ∧ c ≤ maxLen := by
  rcases h.2 with ⟨rfl, e⟩ | ⟨g, cap, cur, rfl, _, _, h1, h2, _⟩
  · exact ⟨none, 0, by rw [e], by omega, Nat.zero_le _⟩
  · exact ⟨_, cap, rfl, h1, h2⟩
theorem OwnF.below {w w' : World} {B : Nat} {v : Value} {l : List Bool} (h : OwnF w B v l) (hb : Below w.heap.size w w') : OwnF w' B v l := by
  refine ⟨h.1, ?_⟩
  rcases h.2 with h0 | ⟨g, cap, cur, e, hg, hh, h1⟩
  · exact .inl h0
  · exact .inr ⟨g, cap, cur, e, hg, (hb.block g (Row.lt (t := 4) hh)).trans hh, h1⟩
set_option maxRecDepth 20000 in
set_option maxHeartbeats 4000000 in
theorem rclimb_any (n : Nat) (s : List Bool) (x : List Int) (p : List (List Int)) (As : Option Addr) (cs : Nat) (A : Option Addr) (m c : Nat) (w : World) (hs : s.length = n) (hn : n ≤ 1000000) (hS : OwnF w 0 (.slice As n cs) s)
    (hx : x.length = 32 ∧ ∀ b ∈ x, 0 ≤ b ∧ b ≤ 255) (hm : p.length = m) (hnm : n ≤ m) (hmc : m ≤ c) (hcm : c ≤ maxLen) (hI : isIds p) (hA : IdsIn w w.heap.size A p) :
    Calls Tryd.prog 33 #[.slice As n cs, idv x, .slice A m c] w fun e w' => (∃ v, e = .returned v ∧ OwnI w' w.heap.size v (outsK s x p n)) ∧ Below w.heap.size w w' := by
  unfold maxLen at hcm
  have HX := Lib.hid hx
  have HS := Lib.hid hS
  have HAI := Lib.hid (And.intro hA hI)
  have HM := Lib.hid hm
  have hOI := Lib.hid (outs_ids s x p hx)
  have hCI := Lib.hid (climb_id s x p hx)
  have E1 : Hid (EnvX w (w.alloc (.cells (arrB 32 x) 29)) [(w.heap.size, Obj.cells (arrB 32 x) 29 (0, 0))]) := (EnvX.start w).new _
  clear hx hS hA hI hm
  unfold idv
  go_enter Tryd.func33, Tryd.ntmps33
  go_upto_region 1 with (fail)
  generalize w.alloc (.cells (arrB 32 x) 29) = W at *
  refine wp_region_Hx (w0 := w) [0, 1, 2] [(w.heap.size, Obj.cells (arrB 32 x) 29 (0, 0))] rfl E1.out ?_
  refine lexH_phase [0] [1, 2] ?_
  have hw1 : EnvX w _ [(w.heap.size, Obj.cells (arrB 32 x) 29 (0, 0))] := E1.out
  have hone := @EnvC.one _ _ _ hw1
  (refine wpG_val (v := idv x) rfl rfl (fun u hu => load_run_op u (box_load hu (List.Mem.head _) HX.out.1) rfl) ?_ hw1; intro K hK; go_big_quiet_op; go_big_quiet_on)
  clear hone hw1
  refine wpG_nil ?_
  refine (hOp_fresh (R := BuiltI x) (M0 := [(w.heap.size, Obj.cells (arrB 32 x) 29 (0, 0))]) rfl rfl (fun _ h => h) (fun u hu => FAt_buildI HX.out.1 rfl u) ?_)
  rintro x N ⟨g, rfl, rfl⟩ hf he2; intro K' hK'; go_big_quiet_op; go_big_quiet_on
  have HFG := Lib.hid hf
  clear hf
  change lexH _ _ _ _ _ _ [(g, Obj.cells (arrB 32 x) 29 (0, 0)), (w.heap.size, Obj.cells (arrB 32 x) 29 (0, 0))]
  refine lexH_phase [2] [] ?_
  have hw3 : EnvX w _ [(g, Obj.cells (arrB 32 x) 29 (0, 0)), (w.heap.size, Obj.cells (arrB 32 x) 29 (0, 0))] := he2.choose_spec
  have hone := @EnvC.one _ _ _ hw3
  (refine wpG_op rfl rfl rfl ?_; intro K hK; go_big_quiet_op; go_big_quiet_on)
  clear hone hw3
  refine wpG_nil ?_
  intro u5 E2'
  have EX4 := Lib.hid E2'
  clear E2'
  go_upto_region 3 with (fail)
  have HINV : Hid (∃ N, FreshI (outsK s x p 0) (.slice (some ⟨g, 0, none⟩) 1 1) N ∧ freshN w N [] ∧ EnvX w u5 N) := by
    refine ⟨_, .inl ⟨g, 1, arrB 32 x, rfl, rfl, Nat.le_refl _, by decide, arrB_size _ _ (by rw [HX.out.1]; omega), ?_⟩, ?_, EnvX.sub EX4.out (fun y hy => ?_)⟩
    · rw [outs_zero, arr_id HX.out.1]
      simp [HX.out.1]
      exact List.take_of_length_le (by simp [HX.out.1])
    · intro y hy
      cases List.mem_singleton.1 hy
      exact ⟨(HFG.out _ (List.mem_singleton.2 rfl)).1, fun z hz => by cases hz⟩
    · cases List.mem_singleton.1 hy
      exact List.Mem.head _
  clear HFG EX4
  go_loopw [7, 8] (fun v i u => ∃ k : Nat, k ≤ n ∧ i = .int .i64 k ∧ Hid (∃ N, FreshI (outsK s x p k) v N ∧ freshN w N [] ∧ EnvX w u N)) (fun _ i _ => n - (intOf i).toNat)
  case atStart => exact ⟨0, by omega, rfl, HINV⟩
  case round =>
    obtain ⟨k, hk, rfl, hinv⟩ := hrel
    obtain ⟨N, hF, hN, hE⟩ := hinv.out
    clear hinv HINV
    by_cases hlt : k < n
    · have hk2 : (k : Int) < (n : Int) := by omega
      rcases hF with ⟨g0, cap, cur, rfl, rfl, hF⟩ | ⟨_, _, h0⟩
      case inr => have := congrArg List.length h0; rw [outs_len] at this; cases this
      rw [outs_len] at hF
      have HF : Hid (FreshI (outsK s x p k) (.slice (some ⟨g0, 0, none⟩) (k + 1 : Nat) cap) [(g0, Obj.cells cur 29 (0, 0))]) := .inl ⟨g0, cap, cur, by rw [outs_len], rfl, by rw [outs_len]; exact hF.1, hF.2.1, hF.2.2.1, by rw [outs_len]; exact hF.2.2.2⟩
      rw [outs_len]
      have HG0 : Hid (w.heap.size ≤ g0) := (hN _ (List.mem_singleton.2 rfl)).1
      have hcap : k + 1 ≤ cap := hF.1
      have hcap2 : cap ≤ maxLen := hF.2.1
      unfold maxLen at hcap2
      have EK := Lib.hid hE
      clear hN hE hF
      obtain ⟨gs, rfl, hgs, hcell⟩ := (HS.out.get).2 k hlt
      obtain ⟨ad, rfl, hld⟩ := (HAI.out.1.up (EnvX.bel EK.out)).load HAI.out.2 (i := k) (by rw [HM.out]; omega)
      have HSC : Hid (∀ u, EnvX w u [] → u.cell? ⟨gs, k, none⟩ = some (.bool (s.getD k true))) := fun u hu => ((EnvX.bel hu).cell (p := ⟨gs, k, none⟩) hgs).trans hcell
      have HLD : Hid (∀ u, EnvX w u [] → (loadVar 29 (ad.add (k * 32))).run Tryd.prog u = .ok (idv (p.getD k [])) u) := fun u hu => by
        obtain ⟨ad2, e2, h2⟩ := (HAI.out.1.up (EnvX.bel hu)).load HAI.out.2 (i := k) (by rw [HM.out]; omega)
        cases e2
        exact h2
      have hPK : Hid ((p.getD k []).length = 32 ∧ ∀ b ∈ p.getD k [], 0 ≤ b ∧ b ≤ 255) := HAI.out.2.get (by rw [HM.out]; omega)
      have HCK := Lib.hid (hCI.out k)
      have hst : climbK s x p (k + 1) = stepT (s.getD k true) (climbK s x p k) (p.getD k []) := rfl
      have hou := Lib.hid (outs_succ s x p k)
      rw [hst] at hou
      have HOI := Lib.hid (hOI.out k)
      have HOL := Lib.hid (outs_len s x p k)
      have HGE := Lib.hid (outs_get s x p (Nat.le_refl k))
      clear hst hld hcell
      generalize hpk : p.getD k [] = pk at *
      generalize hck : climbK s x p k = ck at *
      clear hpk hck
      have hkm : (k : Int) < (m : Int) := by omega
      go_upto_region 5 with (fail)
      refine wp_region_Hx (w0 := w) [0, 1, 2, 3, 4, 5] [(g0, Obj.cells cur 29 (0, 0))] rfl EK.out ?_
      refine lexH_phase [0, 1, 2, 3] [4, 5] ?_
      have hw6 : EnvX w _ [(g0, Obj.cells cur 29 (0, 0))] := EK.out
      have hone := @EnvC.one _ _ _ hw6
      (refine wpG_op rfl rfl rfl ?_; intro K hK; go_big_quiet_op; go_big_quiet_on)
      (refine wpG_op rfl rfl rfl ?_; intro K hK; go_big_quiet_op; go_big_quiet_on)
      (refine wpG_op rfl rfl rfl ?_; intro K hK; go_big_quiet_op; go_big_quiet_on)
      (refine wpG_val (v := idv ck) rfl rfl (fun u hu => load_run_op u (by rw [← HGE.out]; exact boxes_load (k := k) hu HF.out (fun _ h => h) HOI.out rfl (by rw [HOL.out]; omega)) rfl) ?_ hw6; intro K hK; go_big_quiet_op; go_big_quiet_on)
      clear hone hw6
      refine wpG_nil ?_
      refine (hOp_fresh (R := fun x N => ∃ g, x = .pointer (some ⟨g, 0, none⟩) ∧ N = [(g, Obj.cells (arrB 32 []) 29 (0, 0))]) (M0 := [(g0, Obj.cells cur 29 (0, 0))]) rfl rfl (fun _ h => h) (fun u hu => FAt_new (new_id _) u) ?_)
      rintro x N ⟨g9, rfl, rfl⟩ hf he7; intro K' hK'; go_big_quiet_op; go_big_quiet_on
      have HG9 := Lib.hid hf
      clear hf
      change lexH _ _ _ _ _ _ [(g9, Obj.cells (arrB 32 []) 29 (0, 0)), (g0, Obj.cells cur 29 (0, 0))]
      refine (hOp_store rfl (g9) (arrB 32 ck) rfl rfl (HG9.out _ (List.mem_singleton.2 rfl)).1 29 (arrB 32 []) (List.Mem.head _) (info26 _ (arrB_size _ _ (by rw [HCK.out.1]; omega))) ((arrB_size _ _ (by simp)).trans (arrB_size _ _ (by rw [HCK.out.1]; omega)).symm) (arrB_one _ _) [(g9, Obj.cells (arrB 32 ck) 29 (0, 0)), (g0, Obj.cells cur 29 (0, 0))] (List.forall_mem_cons.2 ⟨.inl rfl, List.forall_mem_cons.2 ⟨.inr ⟨List.Mem.tail _ (List.Mem.head _), fun e => (HG9.out _ (List.mem_singleton.2 rfl)).2 _ (List.mem_singleton.2 rfl) e⟩, (fun _ h => by cases h)⟩⟩) ?_)
      intro he8
      intro u10 E2'
      have EX9 := Lib.hid E2'
      clear E2'
      have hcell := HSC.out u10 (EnvX.sub EX9.out (fun _ h => by cases h))
      generalize s.getD k true = sk at *
      have hSH : Hid ((outsK s x p k).length ≤ 1000000) := by show _ ≤ _; rw [HOL.out]; omega
      cases sk
      · have HND : Hid (∀ u, Calls Tryd.prog 20 #[idv pk, idv ck] u fun e w' => e = .returned (idv (nodeT pk ck)) ∧ Below u.heap.size u w') := fun u => rnode_any _ _ u hPK.out.1 HCK.out.1 hPK.out.2 HCK.out.2
        have HNL : Hid ((nodeT pk ck).length = 32) := (node_id _ _).1
        go_upto_region 8 with (fail)
        refine wp_region_H (w0 := w) [(g9, Obj.cells (arrB 32 ck) 29 (0, 0)), (g0, Obj.cells cur 29 (0, 0))] (by kernel_rfl) EX9.out ?_
        refine anyH_phase [0, 1, 2, 3, 4, 5, 6] 3 rfl ⟨_, (EnvX.drew EX9.out)⟩ (by kernel_rfl) ?_
        have hw11 : EnvX w _ [(g9, Obj.cells (arrB 32 ck) 29 (0, 0)), (g0, Obj.cells cur 29 (0, 0))] := (EnvX.drew EX9.out)
        have hone := @EnvC.one _ _ _ hw11
        (refine wpG_op rfl rfl rfl ?_; intro K hK; go_big_quiet_op; go_big_quiet_on)
        (refine wpG_op rfl rfl rfl ?_; intro K hK; go_big_quiet_op; go_big_quiet_on)
        (refine wpG_op rfl rfl rfl ?_; intro K hK; go_big_quiet_op; go_big_quiet_on)
        (refine wpG_op rfl rfl rfl ?_; intro K hK; go_big_quiet_op; go_big_quiet_on)
        (refine wpG_val (v := idv pk) rfl rfl (fun u hu => load_run_op u (HLD.out u (EnvX.sub hu (fun _ h => by cases h))) rfl) ?_ hw11; intro K hK; go_big_quiet_op; go_big_quiet_on)
        (refine wpG_val (v := idv ck) rfl rfl (fun u hu => load_run_op u (box_load hu (List.Mem.head _) HCK.out.1) rfl) ?_ hw11; intro K hK; go_big_quiet_op; go_big_quiet_on)
        (refine wpG_call (f := 20) (args := #[idv pk, idv ck]) (v := idv (nodeT pk ck)) rfl rfl rfl Tryd.func20 rfl rfl (fun u hu => HND.out u) ?_ hw11; intro K hK; go_big_quiet_op; go_big_quiet_on)
        clear hone hw11
        refine wpG_nil ?_
        refine anyH_one (i := 7) (by kernel_rfl) (hOp_fresh (R := BuiltI (nodeT pk ck)) (M0 := [(g9, Obj.cells (arrB 32 ck) 29 (0, 0)), (g0, Obj.cells cur 29 (0, 0))]) rfl rfl (fun _ h => h) (fun u hu => FAt_buildI HNL.out rfl u) ?_)
        rintro x N ⟨g33, rfl, rfl⟩ hf he12; intro K' hK'; go_big_quiet_op; go_big_quiet_on
        clear hf
        change anyH _ _ _ _ _ _ _ _ [(g33, Obj.cells (arrB 32 (nodeT pk ck)) 29 (0, 0)), (g9, Obj.cells (arrB 32 ck) 29 (0, 0)), (g0, Obj.cells cur 29 (0, 0))]
        refine anyH_one (i := 8) (by kernel_rfl) (hOp_own (gd := none) (R := GrownI w (outsK s x p k ++ [nodeT pk ck]) []) rfl rfl rfl rfl (fun u hu => appI_op [] hu HOI.out HNL.out HF.out (fun y hy => by cases List.mem_singleton.1 hy; exact ⟨List.Mem.tail _ (List.Mem.tail _ (List.Mem.head _)), HG0.out⟩) (List.Mem.head _) (fun z hz => by cases hz) hSH.out rfl rfl) ?_)
        rintro x M' ⟨N2, rfl, hF2, hf2⟩ he13; intro K' hK'; go_big_quiet_op; go_big_quiet_on
        have HF2 := Lib.hid (And.intro hF2 hf2)
        clear hF2 hf2
        change anyH _ _ _ _ _ _ _ _ (N2 ++ [])
        refine anyH_phase [9] 0 rfl ⟨_, he13.choose_spec⟩ (by kernel_rfl) ?_
        have hw14 : EnvX w _ (N2 ++ []) := he13.choose_spec
        have hone := @EnvC.one _ _ _ hw14
        (refine wpG_op rfl rfl rfl ?_; intro K hK; go_big_quiet_op; go_big_quiet_on)
        clear hone hw14
        refine wpG_nil ?_
        refine anyH_done (by kernel_rfl) ?_
        intro u16 E2'
        have EX15 := Lib.hid E2'
        clear E2'
        go_wp2
        go_roundw
        case rel => exact ⟨k + 1, by omega, by go_num, N2, by rw [hou.out]; exact HF2.out.1, HF2.out.2, by simpa using EX15.out⟩
        case measure => simp [intOf]; omega
      · have HND : Hid (∀ u, Calls Tryd.prog 20 #[idv ck, idv pk] u fun e w' => e = .returned (idv (nodeT ck pk)) ∧ Below u.heap.size u w') := fun u => rnode_any _ _ u HCK.out.1 hPK.out.1 HCK.out.2 hPK.out.2
        have HNL : Hid ((nodeT ck pk).length = 32) := (node_id _ _).1
        go_upto_region 7 with (fail)
        refine wp_region_H (w0 := w) [(g9, Obj.cells (arrB 32 ck) 29 (0, 0)), (g0, Obj.cells cur 29 (0, 0))] (by kernel_rfl) EX9.out ?_
        refine anyH_phase [0, 1, 2, 3, 4, 5, 6] 3 rfl ⟨_, (EnvX.drew EX9.out)⟩ (by kernel_rfl) ?_
        have hw11 : EnvX w _ [(g9, Obj.cells (arrB 32 ck) 29 (0, 0)), (g0, Obj.cells cur 29 (0, 0))] := (EnvX.drew EX9.out)
        have hone := @EnvC.one _ _ _ hw11
        (refine wpG_op rfl rfl rfl ?_; intro K hK; go_big_quiet_op; go_big_quiet_on)
        (refine wpG_val (v := idv ck) rfl rfl (fun u hu => load_run_op u (box_load hu (List.Mem.head _) HCK.out.1) rfl) ?_ hw11; intro K hK; go_big_quiet_op; go_big_quiet_on)
        (refine wpG_op rfl rfl rfl ?_; intro K hK; go_big_quiet_op; go_big_quiet_on)
        (refine wpG_op rfl rfl rfl ?_; intro K hK; go_big_quiet_op; go_big_quiet_on)
        (refine wpG_op rfl rfl rfl ?_; intro K hK; go_big_quiet_op; go_big_quiet_on)
        (refine wpG_val (v := idv pk) rfl rfl (fun u hu => load_run_op u (HLD.out u (EnvX.sub hu (fun _ h => by cases h))) rfl) ?_ hw11; intro K hK; go_big_quiet_op; go_big_quiet_on)
        (refine wpG_call (f := 20) (args := #[idv ck, idv pk]) (v := idv (nodeT ck pk)) rfl rfl rfl Tryd.func20 rfl rfl (fun u hu => HND.out u) ?_ hw11; intro K hK; go_big_quiet_op; go_big_quiet_on)
        clear hone hw11
        refine wpG_nil ?_
        refine anyH_one (i := 7) (by kernel_rfl) (hOp_fresh (R := BuiltI (nodeT ck pk)) (M0 := [(g9, Obj.cells (arrB 32 ck) 29 (0, 0)), (g0, Obj.cells cur 29 (0, 0))]) rfl rfl (fun _ h => h) (fun u hu => FAt_buildI HNL.out rfl u) ?_)
        rintro x N ⟨g33, rfl, rfl⟩ hf he12; intro K' hK'; go_big_quiet_op; go_big_quiet_on
        clear hf
        change anyH _ _ _ _ _ _ _ _ [(g33, Obj.cells (arrB 32 (nodeT ck pk)) 29 (0, 0)), (g9, Obj.cells (arrB 32 ck) 29 (0, 0)), (g0, Obj.cells cur 29 (0, 0))]
        refine anyH_one (i := 8) (by kernel_rfl) (hOp_own (gd := none) (R := GrownI w (outsK s x p k ++ [nodeT ck pk]) []) rfl rfl rfl rfl (fun u hu => appI_op [] hu HOI.out HNL.out HF.out (fun y hy => by cases List.mem_singleton.1 hy; exact ⟨List.Mem.tail _ (List.Mem.tail _ (List.Mem.head _)), HG0.out⟩) (List.Mem.head _) (fun z hz => by cases hz) hSH.out rfl rfl) ?_)
        rintro x M' ⟨N2, rfl, hF2, hf2⟩ he13; intro K' hK'; go_big_quiet_op; go_big_quiet_on
        have HF2 := Lib.hid (And.intro hF2 hf2)
        clear hF2 hf2
        change anyH _ _ _ _ _ _ _ _ (N2 ++ [])
        refine anyH_phase [9] 0 rfl ⟨_, he13.choose_spec⟩ (by kernel_rfl) ?_
        have hw14 : EnvX w _ (N2 ++ []) := he13.choose_spec
        have hone := @EnvC.one _ _ _ hw14
        (refine wpG_op rfl rfl rfl ?_; intro K hK; go_big_quiet_op; go_big_quiet_on)
        clear hone hw14
        refine wpG_nil ?_
        refine anyH_done (by kernel_rfl) ?_
        intro u16 E2'
        have EX15 := Lib.hid E2'
        clear E2'
        go_wp2
        go_roundw
        case rel => exact ⟨k + 1, by omega, by go_num, N2, by rw [hou.out]; exact HF2.out.1, HF2.out.2, by simpa using EX15.out⟩
        case measure => simp [intOf]; omega
    · obtain rfl : k = n := by omega
      have HO := Lib.hid (And.intro (hF.own (B := w.heap.size) (hOI.out k) (fun y hy => ⟨(hN y hy).1, EnvX.box hE _ _ hy⟩)) (EnvX.bel hE))
      clear hF hN hE
      go_wp2
      go_ret
      exact ⟨⟨_, rfl, HO.out.1⟩, HO.out.2⟩
end Go.Proofs.YtgiacilkecoenaaDoor

/- The reference's Check. -/
namespace Go.Proofs.YtgiacilkecoenaaDoor
open Go.RowKit

set_option maxRecDepth 20000 in
set_option maxHeartbeats 2000000 in
theorem rcheck_odd (root leaf : List Int) (n i : Int) (A : Option Addr) (m c : Nat) (w : World) (hn0 : -9223372036854775808 ≤ n) (hn1 : n ≤ 9223372036854775807) (hi0 : -9223372036854775808 ≤ i) (hi1 : i ≤ 9223372036854775807) (h : ¬ (1 ≤ n ∧ n ≤ 64 ∧ 0 ≤ i ∧ i < n)) :
    Calls Tryd.prog 18 #[idv root, .int .i64 n, .int .i64 i, idv leaf, .slice A m c] w fun e w' => e = .returned (.bool false) ∧ Below w.heap.size w w' := by
  unfold idv
  generalize arrB 32 root = cr at *
  generalize arrB 32 leaf = cl at *
  have hb : Below w.heap.size w ((w.alloc (.cells cr 29)).alloc (.cells cl 29)) := ((Below.refl _ _).alloc (Nat.le_refl _) _).alloc (by simp) _
  generalize hW : (w.alloc (.cells cr 29)).alloc (.cells cl 29) = W at *
  by_cases h1 : n < 1
  · go_enter Tryd.func18, Tryd.ntmps18
    go_wp2
    go_ret
    exact ⟨rfl, hb⟩
  · by_cases h2 : 64 < n
    · go_enter Tryd.func18, Tryd.ntmps18
      go_wp2
      go_ret
      exact ⟨rfl, hb⟩
    · by_cases h3 : i < 0
      · go_enter Tryd.func18, Tryd.ntmps18
        go_wp2
        go_ret
        exact ⟨rfl, hb⟩
      · have h4 : n ≤ i := by omega
        go_enter Tryd.func18, Tryd.ntmps18
        go_wp2
        go_ret
        exact ⟨rfl, hb⟩
set_option maxRecDepth 20000 in
set_option maxHeartbeats 4000000 in
theorem rcheck_in (root leaf : List Int) (n i : Nat) (p : List (List Int)) (A : Option Addr) (m c : Nat) (w : World) (h64 : n ≤ 64) (hi : i < n) (hr : root.length = 32) (hl : leaf.length = 32 ∧ ∀ b ∈ leaf, 0 ≤ b ∧ b ≤ 255)
    (hm : p.length = m) (hmc : m ≤ c) (hcm : c ≤ maxLen) (hI : isIds p) (hA : IdsIn w w.heap.size A p) :
    Calls Tryd.prog 18 #[idv root, .int .i64 n, .int .i64 i, idv leaf, .slice A m c] w fun e w' => e = .returned (.bool (checkT root n i leaf p)) ∧ Below w.heap.size w w' := by
  unfold maxLen at hcm
  obtain ⟨W, hW⟩ : ∃ W, (w.alloc (.cells (arrB 32 root) 29)).alloc (.cells (arrB 32 leaf) 29) = W := ⟨_, rfl⟩
  have E0 : EnvX w W [(w.heap.size + 1, Obj.cells (arrB 32 leaf) 29 (0, 0)), (w.heap.size, Obj.cells (arrB 32 root) 29 (0, 0))] := by rw [← hW]; exact (EnvX.start w).two _ _
  have HSD := Lib.hid (rsides_any n i W (by omega) (by omega) hi)
  have hle := sides_le 6 n i (by omega)
  have hv : checkT root n i leaf p = decide (p.length = (sidesT n i).length ∧ topT (sidesT n i) leaf p = root) := by
    unfold checkT
    have k1 : (1 : Int) ≤ n := by omega
    have k2 : (n : Int) ≤ 64 := by omega
    have k3 : (0 : Int) ≤ i := by omega
    have k4 : (i : Int) < n := by omega
    simp [k1, k2, k3, k4]
  rw [hv]
  have HV := Lib.hid hv
  clear hv HV
  generalize sidesT n i = s at *
  have HR := Lib.hid hr
  have HL := Lib.hid hl
  have HAI := Lib.hid (And.intro hA hI)
  have HM := Lib.hid hm
  have n1 : ¬ (n : Int) < 1 := by omega
  have n2 : ¬ (64 : Int) < (n : Int) := by omega
  have n3 : ¬ (i : Int) < 0 := by omega
  have n4 : ¬ (n : Int) ≤ (i : Int) := by omega
  clear hA hI hr hl hm
  have HE0 := Lib.hid E0
  clear E0
  unfold idv
  have HW := Lib.hid hW
  clear hW
  go_enter Tryd.func18, Tryd.ntmps18
  go_upto_region 1 with (fail)
  rw [HW.out]
  go_wp2_with fail
  refine HSD.out.mono ?_
  rintro e w1 ⟨⟨v, rfl, hs⟩, hb⟩
  obtain ⟨As, cs, rfl, hsc, hsm⟩ := hs.form
  unfold maxLen at hsm
  have HS := Lib.hid hs
  have E1 : Hid (EnvX w1 w1 [(w.heap.size + 1, Obj.cells (arrB 32 leaf) 29 (0, 0)), (w.heap.size, Obj.cells (arrB 32 root) 29 (0, 0))]) := ⟨Below.refl _ _, (EnvX.below HE0.out hb).box⟩
  have HB := Lib.hid ((EnvX.below HE0.out hb).bel)
  clear hs hb HSD HE0
  obtain ⟨q, hq⟩ : ∃ q, s.length = q := ⟨_, rfl⟩
  rw [hq] at hle hsc ⊢
  by_cases hlen : m = q
  · subst hlen
    have HS' : Hid (OwnF w1 0 (.slice As m cs) s) := by rw [← hq]; exact ⟨HS.out.1, HS.out.2.imp id (fun ⟨g, cap, cur, e, h1, h2⟩ => ⟨g, cap, cur, e, Nat.zero_le _, h2⟩)⟩
    have HQ := Lib.hid hq
    have HCL : Hid (∀ u, EnvX w1 u [] → Calls Tryd.prog 33 #[.slice As m cs, idv leaf, .slice A m c] u fun e w' => (∃ v, e = .returned v ∧ OwnI w' u.heap.size v (outsK s leaf p m)) ∧ Below u.heap.size u w') := fun u hu =>
      rclimb_any m s leaf p As cs A m c u HQ.out (by omega) ⟨HS'.out.1, HS'.out.2.imp id (fun ⟨g, cap, cur, e, h1, h2, h3⟩ => ⟨g, cap, cur, e, h1, (((EnvX.bel hu).block g (Row.lt (t := 4) h2)).trans h2), h3⟩)⟩ HL.out HM.out (Nat.le_refl _) hmc (by unfold maxLen; omega) HAI.out.2 ((HAI.out.1.up HB.out).up (EnvX.bel hu))
    have HOI := Lib.hid (outs_ids s leaf p HL.out m)
    have HOL := Lib.hid (outs_len s leaf p m)
    have HGE := Lib.hid (outs_get s leaf p (Nat.le_refl m))
    have HCK := Lib.hid (climb_id s leaf p HL.out m)
    have HRES : Hid (decide (p.length = s.length ∧ topT s leaf p = root) = eqL (climbK s leaf p m) root) := by
      show _ = _
      unfold eqL topT
      rw [HQ.out, HM.out]
      simp
    clear hq
    generalize climbK s leaf p m = ck at *
    go_upto_region 6 with (fail)
    refine wp_region_Hx (w0 := w1) [0, 1, 2, 3, 4] [(w.heap.size + 1, Obj.cells (arrB 32 leaf) 29 (0, 0)), (w.heap.size, Obj.cells (arrB 32 root) 29 (0, 0))] rfl E1.out ?_
    refine lexH_phase [0, 1, 2] [3, 4] ?_
    have hw1 : EnvX w1 _ [(w.heap.size + 1, Obj.cells (arrB 32 leaf) 29 (0, 0)), (w.heap.size, Obj.cells (arrB 32 root) 29 (0, 0))] := E1.out
    have hone := @EnvC.one _ _ _ hw1
    (refine wpG_op rfl rfl rfl ?_; intro K hK; go_big_quiet_op; go_big_quiet_on)
    (refine wpG_val (v := idv leaf) rfl rfl (fun u hu => load_run_op u (box_load hu (List.Mem.head _) HL.out.1) rfl) ?_ hw1; intro K hK; go_big_quiet_op; go_big_quiet_on)
    (refine wpG_op rfl rfl rfl ?_; intro K hK; go_big_quiet_op; go_big_quiet_on)
    clear hone hw1
    refine wpG_nil ?_
    refine (hOp_fresh (R := FreshI (outsK s leaf p m)) (M0 := [(w.heap.size + 1, Obj.cells (arrB 32 leaf) 29 (0, 0)), (w.heap.size, Obj.cells (arrB 32 root) 29 (0, 0))]) rfl rfl (fun _ h => h) (fun u hu => FAt_call (fid := 33) (xs := #[.tmp 36, .tmp 37, .tmp 38]) (args := #[.slice As m cs, idv leaf, .slice A m c]) rfl Tryd.func33 rfl rfl u (callsI_fresh (HCL.out u (EnvX.sub hu (fun _ h => by cases h))))) ?_)
    rintro x N hF hf he2; intro K' hK'; go_big_quiet_op; go_big_quiet_on
    obtain ⟨g, cap, cur, rfl, rfl, hcur⟩ := FreshI.full hF (by rw [HOL.out]; omega)
    have HF := Lib.hid hF
    clear hF
    rw [HOL.out] at hcur HF ⊢
    have hcap := hcur.1
    have hcap2 := hcur.2.1
    unfold maxLen at hcap2
    clear hcur
    clear hf
    change lexH _ _ _ _ _ _ [(g, Obj.cells cur 29 (0, 0)), (w.heap.size + 1, Obj.cells (arrB 32 leaf) 29 (0, 0)), (w.heap.size, Obj.cells (arrB 32 root) 29 (0, 0))]
    refine lexH_phase [4] [] ?_
    have hw3 : EnvX w1 _ [(g, Obj.cells cur 29 (0, 0)), (w.heap.size + 1, Obj.cells (arrB 32 leaf) 29 (0, 0)), (w.heap.size, Obj.cells (arrB 32 root) 29 (0, 0))] := he2.choose_spec
    have hone := @EnvC.one _ _ _ hw3
    (refine wpG_op rfl rfl rfl ?_; intro K hK; go_big_quiet_op; go_big_quiet_on)
    clear hone hw3
    refine wpG_nil ?_
    intro u5 E2'
    have EX4 := Lib.hid E2'
    clear E2'
    go_upto_region 7 with (fail)
    refine wp_region_H (w0 := w1) [(g, Obj.cells cur 29 (0, 0)), (w.heap.size + 1, Obj.cells (arrB 32 leaf) 29 (0, 0)), (w.heap.size, Obj.cells (arrB 32 root) 29 (0, 0))] (by kernel_rfl) EX4.out ?_
    refine anyH_phase [0, 1, 2, 3, 4, 5, 6, 7, 8] 0 rfl ⟨_, (EnvX.drew EX4.out)⟩ (by kernel_rfl) ?_
    have hw6 : EnvX w1 _ [(g, Obj.cells cur 29 (0, 0)), (w.heap.size + 1, Obj.cells (arrB 32 leaf) 29 (0, 0)), (w.heap.size, Obj.cells (arrB 32 root) 29 (0, 0))] := (EnvX.drew EX4.out)
    have hone := @EnvC.one _ _ _ hw6
    (refine wpG_op rfl rfl rfl ?_; intro K hK; go_big_quiet_op; go_big_quiet_on)
    (refine wpG_op rfl rfl rfl ?_; intro K hK; go_big_quiet_op; go_big_quiet_on)
    (refine wpG_val (v := .int .i64 (m + 1 : Nat)) rfl rfl (fun u hu => lenI_op u rfl) ?_ hw6; intro K hK; go_big_quiet_op; go_big_quiet_on)
    (refine wpG_op rfl rfl rfl ?_; intro K hK; go_big_quiet_op; go_big_quiet_on)
    (refine wpG_op rfl rfl rfl ?_; intro K hK; go_big_quiet_op; go_big_quiet_on)
    (refine wpG_val (v := idv ck) rfl rfl (fun u hu => load_run_op u (by rw [← HGE.out]; exact boxes_load (k := m) hu HF.out (fun y hy => by cases List.mem_singleton.1 hy; exact List.Mem.head _) HOI.out rfl (by rw [HOL.out]; omega)) rfl) ?_ hw6; intro K hK; go_big_quiet_op; go_big_quiet_on)
    (refine wpG_val (v := idv root) rfl rfl (fun u hu => load_run_op u (box_load hu (List.Mem.tail _ (List.Mem.tail _ (List.Mem.head _))) HR.out) rfl) ?_ hw6; intro K hK; go_big_quiet_op; go_big_quiet_on)
    (refine wpG_val (v := .bool (eqL ck root)) rfl rfl (fun u hu => eql_id_op HCK.out.1 HR.out u rfl rfl) ?_ hw6; intro K hK; go_big_quiet_op; go_big_quiet_on)
    (refine wpG_op rfl rfl rfl ?_; intro K hK; go_big_quiet_op; go_big_quiet_on)
    clear hone hw6
    refine wpG_nil ?_
    refine anyH_done (by kernel_rfl) ?_
    intro u8 E2'
    have EX7 := Lib.hid E2'
    clear E2'
    go_wp2
    go_ret
    exact ⟨by rw [HRES.out]; rfl, HB.out.trans ((EnvX.bel EX7.out).mono HB.out.size)⟩
  · have hne : ¬ (m : Int) = (q : Int) := by omega
    have HRES : Hid (decide (p.length = s.length ∧ topT s leaf p = root) = false) := by
      show _ = _
      rw [HM.out, hq]
      simp [hlen]
    clear hq
    go_wp2
    go_ret
    exact ⟨by rw [HRES.out]; rfl, HB.out⟩
end Go.Proofs.YtgiacilkecoenaaDoor

/- The reference's Ids. -/
namespace Go.Proofs.YtgiacilkecoenaaDoor
open Go.RowKit

theorem ids_step {l q : List (List Int)} {k : Nat} (h : l.take k = q.take k) (h1 : k < l.length) (h2 : k < q.length) (e : l.getD k [] = q.getD k []) : l.take (k + 1) = q.take (k + 1) := by
  rw [List.take_add_one, List.take_add_one, h, List.getElem?_eq_getElem h1, List.getElem?_eq_getElem h2]
  rw [List.getD_eq_getElem?_getD, List.getD_eq_getElem?_getD, List.getElem?_eq_getElem h1, List.getElem?_eq_getElem h2] at e
  simp only [Option.getD_some] at e
  rw [e]
theorem IdsIn.loads {w : World} {A : Option Addr} {l : List (List Int)} (h : IdsIn w w.heap.size A l) (hl : isIds l) {k : Nat} (hk : k < l.length) : ∃ ad, A = some ad ∧ ∀ u, EnvX w u [] → (loadVar 29 (ad.add (k * 32))).run Tryd.prog u = .ok (idv (l.getD k [])) u := by
  obtain ⟨ad, e, _⟩ := h.load hl hk
  refine ⟨ad, e, fun u hu => ?_⟩
  obtain ⟨ad2, e2, h2⟩ := (h.up (EnvX.bel hu)).load hl hk
  rw [e] at e2
  cases e2
  exact h2
set_option maxRecDepth 20000 in
set_option maxHeartbeats 4000000 in
theorem rids_any (l q : List (List Int)) (A A' : Option Addr) (n c m c' : Nat) (w : World) (hl : l.length = n) (hq : q.length = m) (hn : n ≤ 1000000) (hm : m ≤ 1000000) (hnc : n ≤ c) (hc : c ≤ maxLen) (hmc : m ≤ c') (hc' : c' ≤ maxLen) (hI : isIds l) (hJ : isIds q) (hA : IdsIn w w.heap.size A l) (hB : IdsIn w w.heap.size A' q) :
    Calls Tryd.prog 12 #[.slice A n c, .slice A' m c'] w fun e w' => e = .returned (.bool (decide (l = q))) ∧ Below w.heap.size w w' := by
  unfold maxLen at hc hc'
  have HL := Lib.hid hl
  have HQ := Lib.hid hq
  have HI := Lib.hid (And.intro hI hA)
  have HJ := Lib.hid (And.intro hJ hB)
  clear hI hA hJ hB hl hq
  by_cases hnm : n = m
  · subst hnm
    go_enter Tryd.func12, Tryd.ntmps12
    go_upto_region 4 with (fail)
    go_loopw [5] (fun i u => ∃ k : Nat, k ≤ n ∧ i = .int .i64 k ∧ Below w.heap.size w u ∧ Hid (l.take k = q.take k)) (fun i _ => n - (intOf i).toNat)
    case atStart => exact ⟨0, by omega, rfl, Below.refl _ _, rfl⟩
    case round =>
      obtain ⟨k, hk, rfl, hbl, hsame⟩ := hrel
      by_cases hlt : k < n
      · have hk2 : (k : Int) < (n : Int) := by omega
        obtain ⟨a1, rfl, h1⟩ := HI.out.2.loads HI.out.1 (k := k) (by rw [HL.out]; exact hlt)
        obtain ⟨a2, rfl, h2⟩ := HJ.out.2.loads HJ.out.1 (k := k) (by rw [HQ.out]; exact hlt)
        have H1 := Lib.hid h1
        have H2 := Lib.hid h2
        have E1 : Hid (EnvX w wr []) := ⟨hbl, fun _ _ h => by cases h⟩
        have HX := Lib.hid (HI.out.1.get (i := k) (by rw [HL.out]; exact hlt))
        have HY := Lib.hid (HJ.out.1.get (i := k) (by rw [HQ.out]; exact hlt))
        have HST := Lib.hid (ids_step hsame.out (by rw [HL.out]; exact hlt) (by rw [HQ.out]; exact hlt))
        have HNE : Hid (l.getD k [] ≠ q.getD k [] → l ≠ q) := fun h e => h (by rw [e])
        clear h1 h2 hsame hbl
        generalize l.getD k [] = x at *
        generalize q.getD k [] = y at *
        go_upto_region 6 with (fail)
        refine wp_region_H (w0 := w) [] (by kernel_rfl) E1.out ?_
        refine anyH_phase [0, 1, 2, 3, 4, 5, 6, 7, 8] 0 rfl ⟨_, (EnvX.drew E1.out)⟩ (by kernel_rfl) ?_
        have hw1 : EnvX w _ [] := (EnvX.drew E1.out)
        have hone := @EnvC.one _ _ _ hw1
        (refine wpG_op rfl rfl rfl ?_; intro K hK; go_big_quiet_op; go_big_quiet_on)
        (refine wpG_op rfl rfl rfl ?_; intro K hK; go_big_quiet_op; go_big_quiet_on)
        (refine wpG_op rfl rfl rfl ?_; intro K hK; go_big_quiet_op; go_big_quiet_on)
        (refine wpG_val (v := idv x) rfl rfl (fun u hu => load_run_op u (H1.out u hu) rfl) ?_ hw1; intro K hK; go_big_quiet_op; go_big_quiet_on)
        (refine wpG_op rfl rfl rfl ?_; intro K hK; go_big_quiet_op; go_big_quiet_on)
        (refine wpG_op rfl rfl rfl ?_; intro K hK; go_big_quiet_op; go_big_quiet_on)
        (refine wpG_op rfl rfl rfl ?_; intro K hK; go_big_quiet_op; go_big_quiet_on)
        (refine wpG_val (v := idv y) rfl rfl (fun u hu => load_run_op u (H2.out u hu) rfl) ?_ hw1; intro K hK; go_big_quiet_op; go_big_quiet_on)
        (refine wpG_val (v := .bool (!eqL x y)) rfl rfl (fun u hu => neq_id_op HX.out.1 HY.out.1 u rfl rfl) ?_ hw1; intro K hK; go_big_quiet_op; go_big_quiet_on)
        clear hone hw1
        refine wpG_nil ?_
        refine anyH_done (by kernel_rfl) ?_
        intro u3 E2'
        have EX2 := Lib.hid E2'
        clear E2'
        by_cases hxy : x = y
        · have hb : eqL x y = true := by simp [eqL, hxy]
          rw [hb]
          go_wp2
          go_roundw
          case rel => exact ⟨k + 1, by omega, by go_num, EnvX.bel EX2.out, HST.out hxy⟩
          case measure => simp [intOf]; omega
        · have hb : eqL x y = false := by simp [eqL, hxy]
          have HR : Hid (decide (l = q) = false) := by
            show _ = _
            simp [HNE.out hxy]
          rw [hb]
          go_wp2
          go_ret
          exact ⟨by rw [HR.out]; rfl, EnvX.bel EX2.out⟩
      · obtain rfl : k = n := by omega
        have HR : Hid (decide (l = q) = true) := by
          have h := hsame.out
          rw [List.take_of_length_le (by rw [HL.out]; exact Nat.le_refl _), List.take_of_length_le (by rw [HQ.out]; exact Nat.le_refl _)] at h
          show _ = _
          simp [h]
        clear hsame
        go_wp2
        go_ret
        exact ⟨by rw [HR.out]; rfl, hbl⟩
  · have hne : ¬ (n : Int) = (m : Int) := by omega
    have HR : Hid (decide (l = q) = false) := by
      show _ = _
      have : l ≠ q := fun e => hnm (by rw [← HL.out, ← HQ.out, e])
      simp [this]
    go_enter Tryd.func12, Tryd.ntmps12
    go_wp2
    go_ret
    exact ⟨by rw [HR.out]; rfl, Below.refl _ _⟩
end Go.Proofs.YtgiacilkecoenaaDoor

/- Slices of bytes that are cut: [l:h], [l:h:m]; their laws for the walk. -/
namespace Go.Proofs.YtgiacilkecoenaaDoor
open Go.RowKit

theorem elemB : Tryd.prog.elem 23 = 5 := by simp [Program.elem, Tryd.underlying23]
theorem sizeB (w : World) : (Go.sizeOf 5).run Tryd.prog w = .ok 1 w := by
  have h := infoB
  cases hq : Tryd.prog.info? 5 with
  | none => rw [hq] at h; cases h
  | some i =>
    rw [hq] at h
    simp only [Option.map_some, Option.some.injEq, Prod.mk.injEq] at h
    simp [Go.sizeOf, typeInfo, hq, h.2.1]
/-- where a cut slice begins -/
def cutA (A : Option Addr) (l m : Nat) : Option Addr := if m = l then A else A.map (·.add (l * 1))
theorem add_add (a : Addr) (l j : Nat) : (a.add (l * 1)).add j = a.add (l + j) := by
  unfold Addr.add
  by_cases h : l = 0
  · simp [h]
  · by_cases h2 : j = 0
    · simp [h, h2]
    · simp [h, h2, Nat.add_assoc]
theorem Bytes.cut {w : World} {B : Nat} {A : Option Addr} {xs : List Int} (h : Bytes w B A xs) (l k m : Nat) (hm : l + k ≤ m) : Bytes w B (cutA A l m) ((xs.drop l).take k) := by
  intro hp
  rw [List.length_take, List.length_drop] at hp
  obtain ⟨ad, rfl, hlt, hc⟩ := h (by omega)
  have hne : ¬ m = l := by omega
  refine ⟨ad.add (l * 1), by simp [cutA, hne], by rw [block_of_add]; exact hlt, fun j v hv => ?_⟩
  rw [add_add]
  refine hc (l + j) v ?_
  rw [List.map_take, List.getElem?_take] at hv
  split at hv
  · rw [List.map_drop, List.getElem?_drop] at hv
    exact hv
  · cases hv
theorem run_cut2 (A : Option Addr) (n c l h : Nat) (w : World) (h1 : l ≤ h) (h2 : h ≤ c) :
    (Instr.sliceAt 23 (.slice A n c) (some (.int .i64 (l : Int))) (some (.int .i64 (h : Int))) none).run Tryd.prog w = .ok (.slice (cutA A l c) (h - l) (c - l)) w := by
  have ht' : Tryd.prog.underlying 23 = some (.slice (Tryd.prog.elem 23)) := by rw [elemB]; exact Tryd.underlying23
  rw [run_sliceAt_slice w _ _ _ _ _ ht', run_slice_lh w 23 _ _ _ ht' .i64 .i64 _ _ (by omega) (by omega) (by omega), elemB, sizeB]
  simp [Result.andThen, sliced, cutA]
theorem run_cut3 (A : Option Addr) (n c l h m : Nat) (w : World) (h1 : l ≤ h) (h2 : h ≤ m) (h3 : m ≤ c) :
    (Instr.sliceAt 23 (.slice A n c) (some (.int .i64 (l : Int))) (some (.int .i64 (h : Int))) (some (.int .i64 (m : Int)))).run Tryd.prog w = .ok (.slice (cutA A l m) (h - l) (m - l)) w := by
  have ht' : Tryd.prog.underlying 23 = some (.slice (Tryd.prog.elem 23)) := by rw [elemB]; exact Tryd.underlying23
  rw [run_sliceAt_slice w _ _ _ _ _ ht', run_slice_lhm w 23 _ _ _ ht' .i64 .i64 .i64 _ _ _ (by omega) (by omega) (by omega) (by omega), elemB, sizeB]
  simp [Result.andThen, sliced, cutA]
theorem wpList_cut2 {P : Program} {ops : Array Oper} {rest : List Oper} {o : Oper} {a : Act} {w : World} {Q : Exit → Act → World → Prop} {v lv hv v' : Value} {t : TypeId} (hgd : o.guard = none) (x l h : Operand)
    (ho : o.op = .slice t x (some l) (some h) none) (hx : a.eval x = v) (hl : a.eval l = lv) (hh : a.eval h = hv)
    (hrun : (Instr.sliceAt t v (some lv) (some hv) none).run P w = .ok v' w) (hk : wpList P ops Q rest (a.put o.dst v') w) : wpList P ops Q (o :: rest) a w :=
  wpList_plain hgd fun _ hK => by
    unfold Oper.wp execOp
    simp only [ho, hx, hl, hh, Option.map_some, Option.map_none, Sem.run_bind, Sem.run_pure, Result.andThen_ok, hrun]
    exact hK _ _ hk
theorem wpList_cut3 {P : Program} {ops : Array Oper} {rest : List Oper} {o : Oper} {a : Act} {w : World} {Q : Exit → Act → World → Prop} {v lv hv mv v' : Value} {t : TypeId} (hgd : o.guard = none) (x l h m : Operand)
    (ho : o.op = .slice t x (some l) (some h) (some m)) (hx : a.eval x = v) (hl : a.eval l = lv) (hh : a.eval h = hv) (hm : a.eval m = mv)
    (hrun : (Instr.sliceAt t v (some lv) (some hv) (some mv)).run P w = .ok v' w) (hk : wpList P ops Q rest (a.put o.dst v') w) : wpList P ops Q (o :: rest) a w :=
  wpList_plain hgd fun _ hK => by
    unfold Oper.wp execOp
    simp only [ho, hx, hl, hh, hm, Option.map_some, Option.map_none, Sem.run_bind, Sem.run_pure, Result.andThen_ok, hrun]
    exact hK _ _ hk
end Go.Proofs.YtgiacilkecoenaaDoor
