/- Part of a proof. -/
import Derived.Test.YtbmiecogjmbciaaDoorCm
namespace Go.Proofs.YtbmiecogjmbciaaDoor
set_option maxRecDepth 8000
open Go.RowKit

theorem OwnT.lessQ {w : World} {B B' : Nat} {v : Value} {l : List Tot} (h : OwnT w B v l) (hB : B' ≤ B) : OwnT w B' v l := by
  refine ⟨h.1, ?_⟩
  rcases h.2 with h0 | ⟨g, cap, cur, e, hg, hh, h1⟩
  · exact .inl h0
  · exact .inr ⟨g, cap, cur, e, by omega, hh, h1⟩
set_option maxRecDepth 20000 in
set_option maxHeartbeats 4000000 in
theorem mtotal_any : ∀ (n : Nat) (l : List Tot) (A : Option Addr) (c : Nat) (w : World), l.length = n → 1 ≤ n → n ≤ 1000000 → n ≤ c → c ≤ maxLen → okTs l → TotsIn w w.heap.size A l → Tables w →
    Calls Tryd.prog 35 #[.slice A n c] w fun e w' => e = .returned (totV (allT l)) ∧ Below w.heap.size w w' := by
  intro n
  induction n using Nat.strongRecOn with
  | _ n ih =>
    intro l A c w hl hn1 hn hc hcm hI hA ht
    unfold totV
    have E1 : Hid (EnvX w (w.alloc (.cells (totA zTot) 29)) [(w.heap.size, Obj.cells (totA zTot) 29 (0, 0))]) := (EnvX.start w).new _
    by_cases h1 : n = 1
    · subst h1
      obtain ⟨x, rfl⟩ : ∃ x, l = [x] := by
        match l, hl with
        | [x], _ => exact ⟨x, rfl⟩
      rw [all_one]
      obtain ⟨ad, rfl, hld⟩ := hA.loads hI (k := 0) (by simp)
      have HLD := Lib.hid hld
      have HX : Hid (okT x) := hI x (List.mem_cons_self ..)
      clear ih hI hA hl hld ht
      go_enter Tryd.func35, Tryd.ntmps35
      go_upto_region 2 with (fail)
      rw [zero_totA]
      generalize w.alloc (.cells (totA zTot) 29) = W at *
      refine wp_region_Hx (w0 := w) [0, 1, 2, 3] [(w.heap.size, Obj.cells (totA zTot) 29 (0, 0))] rfl E1.out ?_
      refine lexH_phase [0, 1, 2] [3] ?_
      have hw1 : EnvX w _ [(w.heap.size, Obj.cells (totA zTot) 29 (0, 0))] := E1.out
      have hone := @EnvC.one _ _ _ hw1
      (refine wpG_op rfl rfl rfl ?_; intro K hK; go_big_quiet_op; go_big_quiet_on)
      (refine wpG_val (v := .pointer (some (ad.add (0 * 37)))) rfl rfl (fun u hu => idxSl_op (i := 0) Tryd.underlying22 aggTot.size (by decide) u rfl rfl) ?_ hw1; intro K hK; go_big_quiet_op; go_big_quiet_on)
      (refine wpG_val (v := .agg (totA x)) rfl rfl (fun u hu => load_any_op u (HLD.out u (EnvX.sub hu (fun _ h => by cases h))).1 rfl) ?_ hw1; intro K hK; go_big_quiet_op; go_big_quiet_on)
      clear hone hw1
      refine wpG_nil ?_
      refine (hOp_store rfl (w.heap.size) (totA (x)) rfl rfl (Nat.le_refl _) 29 ((totA zTot)) (List.Mem.head _) (infoTot _ (totA_size HX.out.len)) (zTot_size.trans (totA_size HX.out.len).symm) (totA_one _) [(w.heap.size, Obj.cells (totA (x)) 29 (0, 0))] (List.forall_mem_cons.2 ⟨.inl rfl, (fun _ h => by cases h)⟩) ?_)
      intro he2
      intro u4 E2'
      have EX3 := Lib.hid E2'
      clear E2'
      have Q0 := Lib.hid (EnvX.box EX3.out _ _ (List.Mem.head _))
      have HBEL := Lib.hid EX3.out.bel
      clear EX3
      go_wp2_with ((with_reducible refine bodyPost_ret (v := .agg (totA (x))) ?_ ?_ ?_); (exact results_cell_row (p := 2) (ty := 29) Tryd.results35 _ _ w.heap.size 29 (totA (x)) (0, 0) _ rfl Q0.out Tryd.underlying29 rfl (infoTot _ (totA_size HX.out.len))); (rfl))
      exact HBEL.out
    · have h2 : 2 ≤ n := by omega
      obtain ⟨a, b, c2, -⟩ := half_spec h2
      have hcut := all_cut (l := l) (by omega)
      rw [hl] at hcut
      rw [hcut]
      have hi1 := all_ok (hI.take (halfT n))
      have hi2 := all_ok (hI.drop (halfT n))
      have l1 : (l.take (halfT n)).length = halfT n := by rw [List.length_take]; omega
      have l2 : (l.drop (halfT n)).length = n - halfT n := by rw [List.length_drop]; omega
      have HMD : Hid (∀ u, Calls Tryd.prog 56 #[.int .i64 (n : Int)] u fun e w' => e = .returned (.int .i64 ((halfT n : Nat) : Int)) ∧ Below u.heap.size u w') := fun u => mmid_any n u h2 (by omega)
      have HI1 : Hid (∀ u, EnvX w u [] → Calls Tryd.prog 35 #[.slice A (halfT n) c] u fun e w' => e = .returned (totV (allT (l.take (halfT n)))) ∧ Below u.heap.size u w') := fun u hu =>
        ih (halfT n) b (l.take (halfT n)) A c u l1 a (by omega) (by omega) hcm (hI.take _) ((hA.take hI _).up (EnvX.bel hu)) (ht.below (EnvX.bel hu))
      have HI2 : Hid (∀ u, EnvX w u [] → Calls Tryd.prog 35 #[.slice (cutX 37 A (halfT n) c) (n - halfT n) (c - halfT n)] u fun e w' => e = .returned (totV (allT (l.drop (halfT n)))) ∧ Below u.heap.size u w') := fun u hu =>
        ih (n - halfT n) (by omega) (l.drop (halfT n)) (cutX 37 A (halfT n) c) (c - halfT n) u l2 (by omega) (by omega) (by omega) (by omega) (hI.drop _) ((hA.drop hI _ c (by omega)).up (EnvX.bel hu)) (ht.below (EnvX.bel hu))
      have HND : Hid (∀ u, Below w.heap.size w u → Calls Tryd.prog 20 #[totV (allT (l.take (halfT n))), totV (allT (l.drop (halfT n)))] u fun e w' => e = .returned (.agg (totA (joinT (allT (l.take (halfT n))) (allT (l.drop (halfT n)))))) ∧ Below u.heap.size u w') := fun u hb => mjoin_any _ _ u hi1 hi2 (ht.below hb)
      have HKC : Hid (halfT n ≤ c) := by show _ ≤ _; omega
      have HKN : Hid (halfT n ≤ n) := by show _ ≤ _; omega
      have HNB : Hid (n < 9223372036854775808) := by show _ < _; omega
      have hne1 : ¬ (n : Int) = 1 := by omega
      clear ih hI hA hl hcut hi1 hi2 l1 l2 ht
      generalize halfT n = k at *
      go_enter Tryd.func35, Tryd.ntmps35
      go_upto_region 3 with (fail)
      rw [zero_totA]
      generalize w.alloc (.cells (totA zTot) 29) = W at *
      refine wp_region_Hx (w0 := w) [0, 1, 2, 3] [(w.heap.size, Obj.cells (totA zTot) 29 (0, 0))] rfl E1.out ?_
      refine lexH_phase [0, 1, 2, 3] [] ?_
      have hw1 : EnvX w _ [(w.heap.size, Obj.cells (totA zTot) 29 (0, 0))] := E1.out
      have hone := @EnvC.one _ _ _ hw1
      (refine wpG_op rfl rfl rfl ?_; intro K hK; go_big_quiet_op; go_big_quiet_on)
      (refine wpG_val (v := .int .i64 (n : Int)) rfl rfl (fun u hu => len_op Tryd.underlying22 HNB.out u rfl) ?_ hw1; intro K hK; go_big_quiet_op; go_big_quiet_on)
      (refine wpG_call (f := 56) (args := #[.int .i64 (n : Int)]) (v := .int .i64 (k : Int)) rfl rfl rfl Tryd.func56 rfl rfl (fun u hu => HMD.out u) ?_ hw1; intro K hK; go_big_quiet_op; go_big_quiet_on)
      (refine wpG_op rfl rfl rfl ?_; intro K hK; go_big_quiet_op; go_big_quiet_on)
      clear hone hw1
      refine wpG_nil ?_
      intro u3 E2'
      have EX2 := Lib.hid E2'
      clear E2'
      go_upto_region 4 with (fail)
      refine wp_region_H (w0 := w) [(w.heap.size, Obj.cells (totA zTot) 29 (0, 0))] (by kernel_rfl) EX2.out ?_
      refine anyH_phase [0, 1, 2, 3, 4, 5, 6, 7, 8] 1 rfl ⟨_, (EnvX.drew EX2.out)⟩ (by kernel_rfl) ?_
      have hw4 : EnvX w _ [(w.heap.size, Obj.cells (totA zTot) 29 (0, 0))] := (EnvX.drew EX2.out)
      have hone := @EnvC.one _ _ _ hw4
      (refine wpG_op rfl rfl rfl ?_; intro K hK; go_big_quiet_op; go_big_quiet_on)
      (refine wpG_op rfl rfl rfl ?_; intro K hK; go_big_quiet_op; go_big_quiet_on)
      (refine wpG_val (v := .slice A k c) rfl rfl (fun u hu => cutXh_op elTot u HKC.out rfl rfl) ?_ hw4; intro K hK; go_big_quiet_op; go_big_quiet_on)
      (refine wpG_call (f := 35) (args := #[.slice A k c]) (v := totV (allT (l.take k))) rfl rfl rfl Tryd.func35 rfl rfl (fun u hu => HI1.out u (EnvX.sub hu (fun _ h => by cases h))) ?_ hw4; intro K hK; go_big_quiet_op; go_big_quiet_on)
      (refine wpG_op rfl rfl rfl ?_; intro K hK; go_big_quiet_op; go_big_quiet_on)
      (refine wpG_op rfl rfl rfl ?_; intro K hK; go_big_quiet_op; go_big_quiet_on)
      (refine wpG_val (v := (.slice (cutX 37 A k c) (n - k) (c - k))) rfl rfl (fun u hu => cutXl_op elTot u HKN.out rfl rfl) ?_ hw4; intro K hK; go_big_quiet_op; go_big_quiet_on)
      (refine wpG_call (f := 35) (args := #[(.slice (cutX 37 A k c) (n - k) (c - k))]) (v := totV (allT (l.drop k))) rfl rfl rfl Tryd.func35 rfl rfl (fun u hu => HI2.out u (EnvX.sub hu (fun _ h => by cases h))) ?_ hw4; intro K hK; go_big_quiet_op; go_big_quiet_on)
      (refine wpG_call (f := 20) (args := #[totV (allT (l.take k)), totV (allT (l.drop k))]) (v := .agg (totA (joinT (allT (l.take k)) (allT (l.drop k))))) rfl rfl rfl Tryd.func20 rfl rfl (fun u hu => HND.out u (EnvX.bel hu)) ?_ hw4; intro K hK; go_big_quiet_op; go_big_quiet_on)
      clear hone hw4
      refine wpG_nil ?_
      refine anyH_one (i := 9) (by kernel_rfl) (hOp_store rfl (w.heap.size) (totA (joinT (allT (l.take k)) (allT (l.drop k)))) rfl rfl (Nat.le_refl _) 29 ((totA zTot)) (List.Mem.head _) (infoTot _ (totA_size join_ok.len)) (zTot_size.trans (totA_size join_ok.len).symm) (totA_one _) [(w.heap.size, Obj.cells (totA (joinT (allT (l.take k)) (allT (l.drop k)))) 29 (0, 0))] (List.forall_mem_cons.2 ⟨.inl rfl, (fun _ h => by cases h)⟩) ?_)
      intro he5
      refine anyH_done (by kernel_rfl) ?_
      intro u7 E2'
      have EX6 := Lib.hid E2'
      clear E2'
      have Q0 := Lib.hid (EnvX.box EX6.out _ _ (List.Mem.head _))
      have HBEL := Lib.hid EX6.out.bel
      clear EX6
      go_wp2_with ((with_reducible refine bodyPost_ret (v := .agg (totA (joinT (allT (l.take k)) (allT (l.drop k))))) ?_ ?_ ?_); (exact results_cell_row (p := 2) (ty := 29) Tryd.results35 _ _ w.heap.size 29 (totA (joinT (allT (l.take k)) (allT (l.drop k)))) (0, 0) _ rfl Q0.out Tryd.underlying29 rfl (infoTot _ (totA_size join_ok.len))); (rfl))
      exact HBEL.out
set_option maxRecDepth 20000 in
set_option maxHeartbeats 8000000 in
theorem mpath_some (l : List Tot) (i : Nat) (A : Option Addr) (n c : Nat) (w : World) (hl : l.length = n) (hn : n ≤ 64) (hi : i < n) (hnc : n ≤ c) (hcm : c ≤ maxLen) (hI : okTs l) (hA : TotsIn w w.heap.size A l) (ht : Tables w) :
    Calls Tryd.prog 13 #[.slice A n c, .int .i64 (i : Int)] w fun e w' => (∃ v, e = .returned (.tuple #[v, .bool true]) ∧ OwnT w' w.heap.size v (mpathT l i)) ∧ Below w.heap.size w w' := by
  have hst : standT (n : Int) (i : Int) = true := by unfold standT; simp only [decide_eq_true_eq]; omega
  have HST : Hid (∀ u, Calls Tryd.prog 33 #[.int .i64 (n : Int), .int .i64 (i : Int)] u fun e w' => e = .returned (.bool true) ∧ Below u.heap.size u w') := fun u => by
    rw [← hst]
    exact mstand_any (n : Int) (i : Int) u (by omega) (by omega) (by omega) (by omega)
  have HCU : Hid (∀ u, Calls Tryd.prog 34 #[.int .i64 (n : Int), .int .i64 (i : Int)] u fun e w' => (∃ v, e = .returned v ∧ w'.ownsRow u.heap.size 60 4 v (forksT 0 n i).length ((forksT 0 n i).map sdV).flatten) ∧ Below u.heap.size u w') := fun u => mcuts_any n i u (by omega) (by omega) hi
  have HPT : Hid (mpathT l i = (forksT 0 n i).map (otherM l)) := fork_mpath0 hl hi
  have HFF : Hid (∀ x ∈ forksT 0 n i, farF x + farN x ≤ n ∧ 1 ≤ farN x) := fun x hx => ⟨(fork_far x hx).2.1, (fork_far x hx).2.2.1⟩
  have hF64 := forks_len n 0 i
  have HD := Lib.hid (And.intro hl (And.intro hn (And.intro hnc hcm)))
  have HIA := Lib.hid (And.intro hI (And.intro hA ht))
  clear hst hl hi hI hA ht hcm
  go_enter Tryd.func13, Tryd.ntmps13
  go_wp2_with fail
  refine (HST.out _).mono ?_
  rintro e w1 ⟨rfl, hb1⟩
  have HB1 := Lib.hid hb1
  clear hb1
  go_wp2_with fail
  refine (HCU.out _).mono ?_
  rintro e w2 ⟨⟨v2, rfl, hv2⟩, hb2⟩
  have HB2 : Hid (Below w.heap.size w w2) := HB1.out.trans (hb2.mono HB1.out.size)
  obtain ⟨Ac, cc, rfl, hkc, -⟩ := ownR_form hv2
  have HCC := Lib.hid (own_cells hv2)
  clear hv2 hb2 HST HCU HB1
  obtain ⟨F, hF⟩ : ∃ F, forksT 0 n i = F := ⟨_, rfl⟩
  rw [hF] at HCC HPT HFF hF64 hkc ⊢
  obtain ⟨K, hK⟩ : ∃ K, F.length = K := ⟨_, rfl⟩
  rw [hK] at hF64 hkc ⊢
  have HK := Lib.hid hK
  clear hF hK
  have HTA : Hid (TotsIn w2 w2.heap.size A l ∧ Tables w2) := ⟨HIA.out.2.1.up HB2.out, HIA.out.2.2.below HB2.out⟩
  generalize w2 = U at *
  go_wp2_with fail
  go_loopw [6, 19] (fun v iv u => ∃ k : Nat, k ≤ K ∧ iv = .int .i64 (k : Int) ∧ Hid (OwnT u U.heap.size v ((F.take k).map (otherM l)) ∧ Below U.heap.size U u)) (fun _ iv _ => K - (intOf iv).toNat)
  case atStart => exact ⟨0, by omega, rfl, OwnT.nil _ _, Below.refl _ _⟩
  case round =>
    obtain ⟨k, hk, rfl, hinv⟩ := hrel
    obtain ⟨hO, hB⟩ := hinv.out
    clear hinv
    by_cases hlt : k < K
    · have hkF : k < F.length := by rw [HK.out]; exact hlt
      have hlt2 : (k : Int) < (K : Int) := by omega
      have hln : ((F.take k).map (otherM l)).length = k := by rw [List.length_map, List.length_take]; omega
      have hokP : okTs ((F.take k).map (otherM l)) := fun t ht => by
        obtain ⟨x, _, rfl⟩ := List.mem_map.1 ht
        exact all_ok ((HIA.out.1.drop _).take _)
      unfold OwnT at hO
      rw [hln] at hO
      obtain ⟨N, hF, hN⟩ := fresh_of_own hO
      have HF := Lib.hid hF
      have HNB : Hid (∀ y ∈ N, U.heap.size ≤ y.1) := fun y hy => (hN y hy).1
      have EK : Hid (EnvX U wr (N ++ [])) := ⟨hB, fun g o hm => (hN (g, o) (by rwa [List.append_nil] at hm)).2.1⟩
      have HPF : Hid ((((F.take k).map (otherM l)).map totC).flatten.length = k * 37) := by show _ = _; rw [flatT_len hokP, hln]
      obtain ⟨x, hx⟩ : ∃ x, F.getD k (0, 0, false) = x := ⟨_, rfl⟩
      have hxm : x ∈ F := by rw [← hx]; exact getD_mem F _ hkF
      have hst := take_snoc F (otherM l) (0, 0, false) hkF
      rw [hx] at hst
      obtain ⟨q1, q2⟩ := HFF.out x hxm
      have hls := CellsIn.load aggMSides (HCC.out) (sdV_rows F) (by decide) (i := k) (by rw [List.length_map]; exact hkF)
      have hgd : (F.map sdV).getD k [] = sdV x := by rw [map_getD F sdV (0, 0, false) [] hkF, hx]
      obtain ⟨ac, rfl, -⟩ := hls
      have HLS : Hid (∀ u, Below U.heap.size U u → (loadVar 60 (ac.add (k * 4))).run Tryd.prog u = .ok (.agg #[ii (nearF x), ii (nearF x + nearN x), ii (farF x), ii (farF x + farN x)]) u) := fun u hu => by
        obtain ⟨ad, e, h⟩ := CellsIn.load aggMSides (HCC.out.up hu) (sdV_rows F) (by decide) (i := k) (by rw [List.length_map]; exact hkF)
        cases e
        rw [hgd] at h
        exact h
      have hlx : ((l.drop (farF x)).take (farN x)).length = farN x := by rw [List.length_take, List.length_drop, HD.out.1]; omega
      have HTX : Hid (okT (otherM l x)) := all_ok ((HIA.out.1.drop _).take _)
      have HTO : Hid (∀ u, Below U.heap.size U u → Calls Tryd.prog 35 #[.slice (cutX 37 A (farF x) c) (farN x) (c - farF x)] u fun e w' => e = .returned (.agg (totA (otherM l x))) ∧ Below u.heap.size u w') := fun u hu =>
        mtotal_any (farN x) ((l.drop (farF x)).take (farN x)) (cutX 37 A (farF x) c) (c - farF x) u hlx q2 (by have := HD.out.2.1; omega) (by have := HD.out.2.2.1; omega) (by have := HD.out.2.2.2; omega) ((HIA.out.1.drop _).take _) (((HTA.out.1.drop HIA.out.1 _ c (by rw [HD.out.1]; exact HD.out.2.2.1)).take (HIA.out.1.drop _) _).up hu) (HTA.out.2.below hu)
      have HCT : Hid (farF x ≤ farF x + farN x ∧ farF x + farN x ≤ c ∧ farF x + farN x - farF x = farN x) := ⟨by omega, by have := HD.out.2.2.1; omega, by omega⟩
      have HNP : Hid ((F.take (k + 1)).map (otherM l) = (F.take k).map (otherM l) ++ [otherM l x]) := hst
      have HOKP := Lib.hid (And.intro hokP hln)
      have HKK := Lib.hid hlt
      have HK64 : Hid (k ≤ 64) := by show _ ≤ _; omega
      clear hO hB hln hokP hF hN hx hxm hst q1 q2 hgd hlx hkF hlt
      generalize otherM l x = tx at *
      generalize nearF x + nearN x = a1 at *
      generalize nearF x = nf at *
      generalize farF x = ff at *
      generalize farN x = fn at *
      generalize (F.take k).map (otherM l) = Q at *
      obtain ⟨P, hP⟩ : ∃ P, Q.map totC = P := ⟨_, rfl⟩
      rw [hP] at HF HPF
      have HP := Lib.hid hP
      clear hP
      go_upto_region 6 with (fail)
      refine wp_region_Hx (w0 := U) [0, 1, 2, 3] (N ++ []) rfl EK.out ?_
      refine lexH_phase [0, 1] [2, 3] ?_
      have hw101 : EnvX U _ (N ++ []) := EK.out
      have hone := @EnvC.one _ _ _ hw101
      (refine wpG_val (v := .pointer (some (ac.add (k * 4)))) rfl rfl (fun u hu => idxSl_op Tryd.underlying55 aggMSides.size HKK.out u rfl rfl) ?_ hw101; intro K hK; go_big_quiet_op; go_big_quiet_on)
      (refine wpG_val (v := .agg #[ii nf, ii a1, ii ff, ii (ff + fn)]) rfl rfl (fun u hu => load_any_op u (HLS.out u (EnvX.bel hu)) rfl) ?_ hw101; intro K hK; go_big_quiet_op; go_big_quiet_on)
      clear hone hw101
      refine wpG_nil ?_
      refine (hOp_fresh (R := fun x N => ∃ g, x = .pointer (some ⟨g, 0, none⟩) ∧ N = [(g, Obj.cells (#[ii 0, ii 0, ii 0, ii 0]) 60 (0, 0))]) (M0 := (N ++ [])) rfl rfl (fun _ h => h) (fun u hu => FAt_new (new_msides _) u) ?_)
      rintro _ _ ⟨g8, rfl, rfl⟩ hf he102; intro K' hK'; go_big_quiet_op; go_big_quiet_on
      have HG8 := Lib.hid (hf _ (List.mem_singleton.2 rfl))
      clear hf
      change lexH _ _ _ _ _ _ ((g8, Obj.cells (#[ii 0, ii 0, ii 0, ii 0]) 60 (0, 0)) :: (N ++ []))
      refine (hOp_store rfl (g8) (#[ii nf, ii a1, ii ff, ii (ff + fn)]) rfl rfl HG8.out.1 60 ((#[ii 0, ii 0, ii 0, ii 0])) (List.Mem.head _) info_msides rfl (by kernel_rfl) ((g8, Obj.cells (#[ii nf, ii a1, ii ff, ii (ff + fn)]) 60 (0, 0)) :: (N ++ [])) (List.forall_mem_cons.2 ⟨.inl rfl, fun y hy => .inr ⟨List.mem_cons_of_mem _ hy, HG8.out.2 y hy⟩⟩) ?_)
      intro he103
      intro u105 E2'
      have EX104 := Lib.hid E2'
      clear E2'
      go_upto_region 7 with (fail)
      refine wp_region_Hx (w0 := U) [0, 1, 2, 3, 4, 5, 6, 7, 8, 9, 10, 11, 12] ((g8, Obj.cells (#[ii nf, ii a1, ii ff, ii (ff + fn)]) 60 (0, 0)) :: (N ++ [])) rfl EX104.out ?_
      refine lexH_phase [0, 1, 2, 3, 4, 5, 6, 7, 8, 9] [10, 11, 12] ?_
      have hw106 : EnvX U _ ((g8, Obj.cells (#[ii nf, ii a1, ii ff, ii (ff + fn)]) 60 (0, 0)) :: (N ++ [])) := EX104.out
      have hone := @EnvC.one _ _ _ hw106
      (refine wpG_op rfl rfl rfl ?_; intro K hK; go_big_quiet_op; go_big_quiet_on)
      (refine wpG_op rfl rfl rfl ?_; intro K hK; go_big_quiet_op; go_big_quiet_on)
      (refine wpG_val (v := .pointer (some ⟨g8, 0 + 2, none⟩)) rfl rfl (fun u hu => fieldSd_op (k := 1) (off := 2) rfl u rfl) ?_ hw106; intro K hK; go_big_quiet_op; go_big_quiet_on)
      (refine wpG_val (v := .pointer (some ⟨g8, 0 + 2 + 0, none⟩)) rfl rfl (fun u hu => fieldSp_op (k := 0) (off := 0) rfl u rfl) ?_ hw106; intro K hK; go_big_quiet_op; go_big_quiet_on)
      (refine wpG_val (v := ii ff) rfl rfl (fun u hu => load_any_op u (run_load_one oneInt u (box_cell (k := 2) hu (List.Mem.head _) rfl)) rfl) ?_ hw106; intro K hK; go_big_quiet_op; go_big_quiet_on)
      (refine wpG_val (v := .pointer (some ⟨g8, 0 + 2, none⟩)) rfl rfl (fun u hu => fieldSd_op (k := 1) (off := 2) rfl u rfl) ?_ hw106; intro K hK; go_big_quiet_op; go_big_quiet_on)
      (refine wpG_val (v := .pointer (some ⟨g8, 0 + 2 + 1, none⟩)) rfl rfl (fun u hu => fieldSp_op (k := 1) (off := 1) rfl u rfl) ?_ hw106; intro K hK; go_big_quiet_op; go_big_quiet_on)
      (refine wpG_val (v := ii (ff + fn)) rfl rfl (fun u hu => load_any_op u (run_load_one oneInt u (box_cell (k := 3) hu (List.Mem.head _) rfl)) rfl) ?_ hw106; intro K hK; go_big_quiet_op; go_big_quiet_on)
      (refine wpG_val (v := (.slice (cutX 37 A ff c) fn (c - ff))) rfl rfl (fun u hu => cutXlh_op elTot u HCT.out.1 HCT.out.2.1 HCT.out.2.2 rfl rfl rfl) ?_ hw106; intro K hK; go_big_quiet_op; go_big_quiet_on)
      (refine wpG_call (f := 35) (args := #[(.slice (cutX 37 A ff c) fn (c - ff))]) (v := .agg (totA tx)) rfl rfl rfl Tryd.func35 rfl rfl (fun u hu => HTO.out u (EnvX.bel hu)) ?_ hw106; intro K hK; go_big_quiet_op; go_big_quiet_on)
      clear hone hw106
      refine wpG_nil ?_
      refine (hOp_fresh (R := BuiltR 29 (totC tx)) (M0 := ((g8, Obj.cells (#[ii nf, ii a1, ii ff, ii (ff + fn)]) 60 (0, 0)) :: (N ++ []))) rfl rfl (fun _ h => h) (fun u hu => FAt_buildR elTot (totC_len HTX.out.len) (totC_one _) rfl u) ?_)
      rintro _ _ ⟨gq, rfl, rfl⟩ hf he107; intro K' hK'; go_big_quiet_op; go_big_quiet_on
      clear hf
      change lexH _ _ _ _ _ _ ((gq, Obj.cells (totC tx).toArray 29 (0, 0)) :: ((g8, Obj.cells (#[ii nf, ii a1, ii ff, ii (ff + fn)]) 60 (0, 0)) :: (N ++ [])))
      refine (hOp_own (gd := none) (R := GrownR U 29 37 (k + 1) (P.flatten ++ totC tx) []) rfl rfl rfl rfl (fun u hu => appX_op elTot (m := 1) [] hu HPF.out (by rw [Nat.one_mul]; exact totC_len HTX.out.len) (totC_one _) HF.out (fun y hy => ⟨List.mem_cons_of_mem _ (List.mem_cons_of_mem _ (List.mem_append_left _ hy)), (HNB.out y hy)⟩) (src_box (k := 0) hu (List.Mem.head _) (by rw [List.drop_zero, List.take_length])) (fun _ h => by cases h) (by have := HK64.out; omega) rfl rfl) ?_)
      rintro x9 M' ⟨N9, rfl, hF9, hn9⟩ he108; intro K' hK'; go_big_quiet_op; go_big_quiet_on
      have HF9 := Lib.hid (And.intro hF9 hn9)
      clear hF9 hn9
      change lexH _ _ _ _ _ _ (N9 ++ [])
      refine lexH_phase [12] [] ?_
      have hw109 : EnvX U _ (N9 ++ []) := he108.choose_spec
      have hone := @EnvC.one _ _ _ hw109
      (refine wpG_op rfl rfl rfl ?_; intro K hK; go_big_quiet_op; go_big_quiet_on)
      clear hone hw109
      refine wpG_nil ?_
      intro u111 E2'
      have EX110 := Lib.hid E2'
      clear E2'
      have HN9 : Hid (OwnT u111 U.heap.size x9 ((F.take (k + 1)).map (otherM l)) ∧ Below U.heap.size U u111) := by
        refine ⟨?_, EnvX.bel EX110.out⟩
        rw [HNP.out]
        unfold OwnT
        have hl2 : (Q ++ [tx]).length = k + 1 := by rw [List.length_append, HOKP.out.2]; rfl
        rw [hl2, List.map_append, List.flatten_append, List.map_singleton, List.flatten_singleton, HP.out]
        refine HF9.out.1.own ?_ (fun y hy => ⟨(HF9.out.2 y hy).1, EnvX.box EX110.out _ _ (List.mem_append_left _ hy)⟩)
        rw [List.length_append, HPF.out, totC_len HTX.out.len, Nat.succ_mul]
      go_wp2
      go_roundw
      case rel => exact ⟨k + 1, by omega, by go_num, HN9⟩
      case measure => simp [intOf]; omega
    · obtain rfl : k = K := by omega
      have hge : ¬ (k : Int) < (k : Int) := by omega
      rw [show F.take k = F from List.take_of_length_le (by rw [HK.out]; exact Nat.le_refl _), ← HPT.out] at hO
      have HO : Hid (OwnT wr w.heap.size _ (mpathT l i)) := hO.lessQ HB2.out.size
      have HBE : Hid (Below w.heap.size w wr) := HB2.out.trans (hB.mono HB2.out.size)
      clear hO hB
      go_wp2_with fail
      go_returns
      exact ⟨⟨_, rfl, HO.out⟩, HBE.out⟩
theorem mpath_none (i : Int) (A : Option Addr) (n c : Nat) (w : World) (hn : n ≤ 1000000) (hi0 : -9223372036854775808 ≤ i) (hi1 : i ≤ 9223372036854775807) (h : standT (n : Int) i = false) :
    Calls Tryd.prog 13 #[.slice A n c, .int .i64 i] w fun e w' => e = .returned (.tuple #[.slice none 0 0, .bool false]) ∧ Below w.heap.size w w' := by
  have HST : Hid (∀ u, Calls Tryd.prog 33 #[.int .i64 (n : Int), .int .i64 i] u fun e w' => e = .returned (.bool false) ∧ Below u.heap.size u w') := fun u => by
    rw [← h]
    exact mstand_any (n : Int) i u (by omega) (by omega) hi0 hi1
  clear h
  go_enter Tryd.func13, Tryd.ntmps13
  go_wp2_with fail
  refine (HST.out _).mono ?_
  rintro e w1 ⟨rfl, hb1⟩
  have HB1 := Lib.hid hb1
  clear hb1
  go_wp2_with fail
  go_returns
  exact ⟨rfl, HB1.out⟩
theorem mpath_any (l : List Tot) (i : Int) (A : Option Addr) (n c : Nat) (w : World) (hl : l.length = n) (hn : n ≤ 1000000) (hnc : n ≤ c) (hcm : c ≤ maxLen) (hi : -9223372036854775808 ≤ i ∧ i ≤ 9223372036854775807) (hI : okTs l) (hA : TotsIn w w.heap.size A l) (ht : Tables w) :
    Calls Tryd.prog 13 #[.slice A n c, .int .i64 i] w fun e w' => (∃ v, e = .returned (.tuple #[v, .bool (mpathR l i).2]) ∧ OwnT w' w.heap.size v (mpathR l i).1) ∧ Below w.heap.size w w' := by
  subst hl
  unfold mpathR
  by_cases h : 0 ≤ i ∧ i < l.length ∧ l.length ≤ 64
  · rw [if_pos h]
    obtain ⟨j, rfl⟩ := Int.eq_ofNat_of_zero_le h.1
    exact mpath_some l j A _ c w rfl h.2.2 (by omega) hnc hcm hI hA ht
  · rw [if_neg h]
    have hs : standT (l.length : Int) i = false := by unfold standT; simp only [decide_eq_false_iff_not]; omega
    refine (mpath_none i A l.length c w hn hi.1 hi.2 hs).mono ?_
    rintro e w' ⟨rfl, hb⟩
    exact ⟨⟨_, rfl, OwnT.nil _ _⟩, hb⟩
end Go.Proofs.YtbmiecogjmbciaaDoor
