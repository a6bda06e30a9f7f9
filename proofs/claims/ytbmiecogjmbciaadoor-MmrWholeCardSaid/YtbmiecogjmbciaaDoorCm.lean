/- Part of a proof. -/
import Derived.Test.YtbmiecogjmbciaaDoorCl
namespace Go.Proofs.YtbmiecogjmbciaaDoor
set_option maxRecDepth 8000
open Go.RowKit

theorem carry_okQ : ∀ (r : List Tot) (x : Tot), okT x → okTs r → okTs (carryT x r)
  | [], x, hx, _ => fun t ht => by cases List.mem_singleton.1 ht; exact hx
  | y :: r, x, hx, hr => by
    unfold carryT
    split
    · exact carry_okQ r _ join_ok (fun t ht => hr t (List.mem_cons_of_mem _ ht))
    · intro t ht
      rcases List.mem_cons.1 ht with rfl | h
      · exact hx
      · exact hr t h
theorem app_okQ {p : List Tot} {x : Tot} (hp : okTs p) (hx : okT x) : okTs (appT p x) := fun t ht => by
  unfold appT at ht
  exact carry_okQ p.reverse x hx (fun s hs => hp s (List.mem_reverse.1 hs)) t (List.mem_reverse.1 ht)
theorem up_okQ : ∀ (r : List Tot) (x : Tot), okT x → okT (upT x r)
  | [], x, hx => hx
  | y :: r, x, _ => up_okQ r _ join_ok
theorem JLeft.own {w0 w : World} {l : List Tot} {v : Value} {M' : Boxes} (h : JLeft w0 [] l v M') (hl : okTs l) (hE : EnvX w0 w M') : OwnT w w0.heap.size v l := by
  obtain ⟨N, rfl, hF, hn⟩ := h
  exact hF.own (flatT_len hl) (fun y hy => ⟨(hn y hy).1, EnvX.box hE _ _ (List.mem_append_left _ hy)⟩)
set_option maxRecDepth 20000 in
set_option maxHeartbeats 4000000 in
theorem mapp_any (p : List Tot) (leaf : Tot) (A : Option Addr) (n c : Nat) (w : World) (hl : p.length = n) (hn : n ≤ 1000000) (hI : okTs p) (hlf : okT leaf) (hA : TotsIn w w.heap.size A p) (ht : Tables w) :
    Calls Tryd.prog 11 #[.slice A n c, totV leaf] w fun e w' => (∃ v, e = .returned v ∧ OwnT w' w.heap.size v (appT p leaf)) ∧ Below w.heap.size w w' := by
  have HPL : Hid ((p.map totC).flatten.length = n * 37) := by show _ = _; rw [flatT_len hI, hl]
  have HLF := Lib.hid hlf
  have HNB : Hid (n ≤ 1000000) := hn
  have HOK := Lib.hid (app_okQ hI hlf)
  have HCL : Hid (∀ u, Below w.heap.size w u → Calls Tryd.prog 32 #[.slice A n c] u fun e w' => (∃ v, e = .returned v ∧ w'.ownsRow u.heap.size 29 37 v n (p.map totC).flatten) ∧ Below u.heap.size u w') := fun u hb => mclone_any p A n c u hl hn hI (hA.up hb)
  have HJL : Hid (∀ (v : Value) (N : Boxes) (u : World), FreshR 29 37 (n + 1) ((p.map totC).flatten ++ totC leaf) v N → freshN w N [] → EnvX w u (N ++ []) → Calls Tryd.prog 31 #[v, .func (.func 30) #[] #[]] u fun e w'' => ∃ x' M', e = .returned x' ∧ EnvX w w'' M' ∧ JLeft w [] (appT p leaf) x' M') := fun v N u hF hn2 hE => by
    have hlen : p.reverse.length + 1 = n + 1 := by rw [List.length_reverse, hl]
    have h := jlA w [] p.reverse leaf v N u (fun t ht => by
      rcases List.mem_cons.1 ht with rfl | h
      · exact hlf
      · exact hI t (List.mem_reverse.1 h)) (by rw [hlen]; omega) (by
      rw [hlen, List.reverse_cons, List.reverse_reverse, List.map_append, List.flatten_append, List.map_singleton, List.flatten_singleton]
      exact hF) hn2 hE ht
    rw [jl_carry] at h
    exact h
  have E1 : Hid (EnvX w (w.alloc (.cells (totA leaf) 29)) [(w.heap.size, Obj.cells (totA leaf) 29 (0, 0))]) := (EnvX.start w).new _
  clear hI hlf hA hl ht
  unfold totV
  go_enter Tryd.func11, Tryd.ntmps11
  go_upto_region 2 with (fail)
  generalize w.alloc (.cells (totA leaf) 29) = W at *
  refine wp_region_H (w0 := w) [(w.heap.size, Obj.cells (totA leaf) 29 (0, 0))] (by kernel_rfl) E1.out ?_
  refine anyH_phase [0, 2, 5] 5 rfl ⟨_, (EnvX.drew E1.out)⟩ (by kernel_rfl) ?_
  have hw1 : EnvX w _ [(w.heap.size, Obj.cells (totA leaf) 29 (0, 0))] := (EnvX.drew E1.out)
  have hone := @EnvC.one _ _ _ hw1
  (refine wpG_op rfl rfl rfl ?_; intro K hK; go_big_quiet_op; go_big_quiet_on)
  (refine wpG_val (v := .agg (totA leaf)) rfl rfl (fun u hu => load_any_op u (box_tot hu (List.Mem.head _) HLF.out.len) rfl) ?_ hw1; intro K hK; go_big_quiet_op; go_big_quiet_on)
  (refine wpG_op rfl rfl rfl ?_; intro K hK; go_big_quiet_op; go_big_quiet_on)
  clear hone hw1
  refine wpG_nil ?_
  refine anyH_twoFreshG (i := 1) (j := 3) (fun _ _ _ hM hh => env_perm _ _ _ hM hh) (by kernel_rfl) (by kernel_rfl) (by kernel_rfl) rfl rfl (by decide) (by kernel_rfl) rfl rfl (FreshR 29 37 n (p.map totC).flatten) (BuiltR 29 (totC leaf)) [(w.heap.size, Obj.cells (totA leaf) 29 (0, 0))] [(w.heap.size, Obj.cells (totA leaf) 29 (0, 0))] (fun _ h => h) (fun _ h => h) (fun u hu => FAt_call (fid := 32) (xs := #[.tmp 6]) (args := #[.slice A n c]) rfl Tryd.func32 rfl rfl u (callsR_fresh (HCL.out u (EnvX.bel hu)))) (fun u hu => FAt_buildR elTot (totC_len HLF.out.len) (totC_one _) rfl u) ?_
  rintro x1 N1 x2 N2 hF ⟨gb, rfl, rfl⟩ hf1 hf2 he2 K1 hK1; go_big_quiet_op; go_big_quiet_on; intro K' hK'; go_big_quiet_op; go_big_quiet_on
  have HF := Lib.hid hF
  have HN := Lib.hid hf1
  clear hF
  clear hf1 hf2
  change anyH _ _ _ _ _ _ _ _ ((gb, Obj.cells (totC leaf).toArray 29 (0, 0)) :: (N1 ++ ((w.heap.size, Obj.cells (totA leaf) 29 (0, 0)) :: [])))
  refine anyH_one (i := 4) (by kernel_rfl) (hOp_own (gd := none) (R := GrownR w 29 37 (n + 1) ((p.map totC).flatten ++ totC leaf) []) rfl rfl rfl rfl (fun u hu => appX_op elTot (m := 1) [] hu HPL.out (by rw [Nat.one_mul]; exact totC_len HLF.out.len) (totC_one _) HF.out (fun y hy => ⟨List.mem_cons_of_mem _ (List.mem_append_left _ hy), (HN.out y hy).1⟩) (src_box (k := 0) hu (List.Mem.head _) (by rw [List.drop_zero, List.take_length])) (fun _ h => by cases h) (by have := HNB.out; omega) rfl rfl) ?_)
  rintro x9 M' ⟨N2, rfl, hF2, hn2⟩ he3; intro K' hK'; go_big_quiet_op; go_big_quiet_on
  have HF2 := Lib.hid (And.intro hF2 hn2)
  clear hF2 hn2
  change anyH _ _ _ _ _ _ _ _ (N2 ++ [])
  refine anyH_one (i := 6) (by kernel_rfl) (hOp_turn (gd := none) (R := JLeft w [] (appT p leaf)) rfl rfl rfl rfl (fun u hu => OUpon_call (fid := 31) (xs := #[.tmp 10, .tmp 11]) (args := #[x9, .func (.func 30) #[] #[]]) rfl Tryd.func31 rfl rfl u (HJL.out x9 N2 u HF2.out.1 HF2.out.2 hu)) ?_)
  rintro x7 M' ⟨N7, rfl, hF7, hn7⟩ he4; intro K' hK'; go_big_quiet_op; go_big_quiet_on
  have HJ : Hid (JLeft w [] (appT p leaf) x7 (N7 ++ [])) := ⟨N7, rfl, hF7, hn7⟩
  clear hF7 hn7
  change anyH _ _ _ _ _ _ _ _ (N7 ++ [])
  refine anyH_phase [7] 0 rfl ⟨_, he4.choose_spec⟩ (by kernel_rfl) ?_
  have hw5 : EnvX w _ (N7 ++ []) := he4.choose_spec
  have hone := @EnvC.one _ _ _ hw5
  (refine wpG_op rfl rfl rfl ?_; intro K hK; go_big_quiet_op; go_big_quiet_on)
  clear hone hw5
  refine wpG_nil ?_
  refine anyH_done (by kernel_rfl) ?_
  intro u7 E2'
  have EX6 := Lib.hid E2'
  clear E2'
  go_wp2
  go_ret
  exact ⟨⟨_, rfl, HJ.out.own HOK.out EX6.out⟩, EnvX.bel EX6.out⟩
theorem root_load {u : World} {g : Nat} {cur : Array Value} {x : Tot} (hu : Row u g 29 cur) (hx : okT x) (hc : cur.toList.take ([x].length * 37) = ([x].map totC).flatten) : (loadVar 29 ((⟨g, 0, none⟩ : Addr).add (0 * 37))).run Tryd.prog u = .ok (totV x) u := by
  have hok : okTs [x] := fun t ht => by cases List.mem_singleton.1 ht; exact hx
  obtain ⟨a1, e1, h1⟩ := (row_tots (cap := 0) hu hok rfl hc).loads hok (k := 0) (by simp)
  cases e1
  exact (h1 u (EnvX.start u)).1
set_option maxRecDepth 20000 in
set_option maxHeartbeats 4000000 in
theorem mroot_any (p : List Tot) (A : Option Addr) (n c : Nat) (w : World) (hl : p.length = n) (hn : n ≤ 1000000) (hI : okTs p) (hA : TotsIn w w.heap.size A p) (ht : Tables w) :
    Calls Tryd.prog 18 #[.slice A n c] w fun e w' => e = .returned (totV (rootP p)) ∧ Below w.heap.size w w' := by
  unfold totV
  have E1 : Hid (EnvX w (w.alloc (.cells (totA zTot) 29)) [(w.heap.size, Obj.cells (totA zTot) 29 (0, 0))]) := (EnvX.start w).new _
  by_cases h0 : n = 0
  · subst h0
    obtain rfl := List.eq_nil_of_length_eq_zero hl
    rw [show rootP [] = noTot from rfl]
    have HOF : Hid (∀ u g, Below w.heap.size w u → Parts u u.heap.size (some ⟨g, 0, none⟩) [[4]] → Calls Tryd.prog 44 #[.slice (some ⟨g, 0, none⟩) 1 1] u fun e w' => e = .returned (idv (sumL [4])) ∧ Below u.heap.size u w') := fun u g hb hP => shaof_any (some ⟨g, 0, none⟩) 1 1 [[4]] u rfl hP (by omega) (by decide) (ht.below hb)
    clear hI hA hl ht
    go_enter Tryd.func18, Tryd.ntmps18
    go_upto_region 2 with (fail)
    rw [zero_totA]
    generalize w.alloc (.cells (totA zTot) 29) = W at *
    refine wp_region_Hx (w0 := w) [0, 1, 2, 3, 4] [(w.heap.size, Obj.cells (totA zTot) 29 (0, 0))] rfl E1.out ?_
    refine (hOp_fresh (R := fun v N => ∃ g, v = .slice (some ⟨g, 0, none⟩) 1 1 ∧ N = [(g, Obj.cells #[.int .u8 4] 5 (0, 0))]) (M0 := [(w.heap.size, Obj.cells (totA zTot) 29 (0, 0))]) rfl rfl (fun _ h => h) (fun u hu => FAt_byte1 4 u) ?_)
    rintro _ _ ⟨gt, rfl, rfl⟩ hf he1; intro K' hK'; go_big_quiet_op; go_big_quiet_on
    clear hf
    change lexH _ _ _ _ _ _ [(gt, Obj.cells #[.int .u8 4] 5 (0, 0)), (w.heap.size, Obj.cells (totA zTot) 29 (0, 0))]
    refine (hOp_fresh (R := fun v N => ∃ g, v = .slice (some ⟨g, 0, none⟩) 1 1 ∧ N = [(g, Obj.cells #[.slice (some ⟨gt, 0, none⟩) 1 1] 72 (0, 0))]) (M0 := [(gt, Obj.cells #[.int .u8 4] 5 (0, 0)), (w.heap.size, Obj.cells (totA zTot) 29 (0, 0))]) rfl rfl (fun _ h => h) (fun u hu => FAt_rows1 rfl u) ?_)
    rintro _ _ ⟨gr, rfl, rfl⟩ hf he2; intro K' hK'; go_big_quiet_op; go_big_quiet_on
    clear hf
    change lexH _ _ _ _ _ _ [(gr, Obj.cells #[.slice (some ⟨gt, 0, none⟩) 1 1] 72 (0, 0)), (gt, Obj.cells #[.int .u8 4] 5 (0, 0)), (w.heap.size, Obj.cells (totA zTot) 29 (0, 0))]
    refine lexH_phase [2, 3] [4] ?_
    have hw3 : EnvX w _ [(gr, Obj.cells #[.slice (some ⟨gt, 0, none⟩) 1 1] 72 (0, 0)), (gt, Obj.cells #[.int .u8 4] 5 (0, 0)), (w.heap.size, Obj.cells (totA zTot) 29 (0, 0))] := he2.choose_spec
    have hone := @EnvC.one _ _ _ hw3
    (refine wpG_call (f := 44) (args := #[.slice (some ⟨gr, 0, none⟩) 1 1]) (v := idv (sumL [4])) rfl rfl rfl Tryd.func44 rfl rfl (fun u hu => HOF.out u gr (EnvX.bel hu) (parts_one (EnvX.lt hu (List.Mem.head _)) (by have h := box_cell (k := 0) hu (List.Mem.head _) rfl; exact h) (boxR_bytes (cap := 1) hu (List.Mem.tail _ (List.Mem.head _)) rfl ⟨by decide, by decide, rfl, rfl⟩) (by intro x hx; cases List.mem_singleton.1 hx; omega))) ?_ hw3; intro K hK; go_big_quiet_op; go_big_quiet_on)
    (refine wpG_val (v := .agg (totA noTot)) rfl rfl (fun u hu => buildA_op u (built_totH (sumL_len _))) ?_ hw3; intro K hK; go_big_quiet_op; go_big_quiet_on)
    clear hone hw3
    refine wpG_nil ?_
    refine (hOp_store rfl (w.heap.size) (totA (noTot)) rfl rfl (Nat.le_refl _) 29 ((totA zTot)) (List.Mem.tail _ (List.Mem.tail _ (List.Mem.head _))) (infoTot _ (totA_size noTot_ok.len)) (zTot_size.trans (totA_size noTot_ok.len).symm) (totA_one _) [(w.heap.size, Obj.cells (totA (noTot)) 29 (0, 0))] (List.forall_mem_cons.2 ⟨.inl rfl, (fun _ h => by cases h)⟩) ?_)
    intro he4
    intro u6 E2'
    have EX5 := Lib.hid E2'
    clear E2'
    have Q0 := Lib.hid (EnvX.box EX5.out _ _ (List.Mem.head _))
    have HBEL := Lib.hid EX5.out.bel
    clear EX5
    go_wp2_with ((with_reducible refine bodyPost_ret (v := .agg (totA (noTot))) ?_ ?_ ?_); (exact results_cell_row (p := 2) (ty := 29) Tryd.results18 _ _ w.heap.size 29 (totA (noTot)) (0, 0) _ rfl Q0.out Tryd.underlying29 rfl (infoTot _ (totA_size noTot_ok.len))); (rfl))
    exact HBEL.out
  · obtain ⟨q, z, rfl⟩ : ∃ q z, p = q ++ [z] := by
      rcases List.eq_nil_or_concat p with h | ⟨q, z, h⟩
      · subst h; exact absurd hl.symm h0
      · exact ⟨q, z, by rw [h, List.concat_eq_append]⟩
    have HRO : Hid (okT (rootP (q ++ [z]))) := by
      show okT _
      unfold rootP
      rw [List.reverse_append]
      exact up_okQ _ _ (hI z (List.mem_append_right _ (List.mem_singleton.2 rfl)))
    have HRT : rootP (q ++ [z]) = upT z q.reverse := by
      unfold rootP
      rw [List.reverse_append]
      rfl
    have HCL : Hid (∀ u, Below w.heap.size w u → Calls Tryd.prog 32 #[.slice A n c] u fun e w' => (∃ v, e = .returned v ∧ w'.ownsRow u.heap.size 29 37 v n ((q ++ [z]).map totC).flatten) ∧ Below u.heap.size u w') := fun u hb => mclone_any (q ++ [z]) A n c u hl hn hI (hA.up hb)
    have HJL : Hid (∀ (v : Value) (N : Boxes) (u : World), FreshR 29 37 n ((q ++ [z]).map totC).flatten v N → freshN w N [(w.heap.size, Obj.cells (totA zTot) 29 (0, 0))] → EnvX w u (N ++ [(w.heap.size, Obj.cells (totA zTot) 29 (0, 0))]) → Calls Tryd.prog 31 #[v, .func (.func 45) #[] #[]] u fun e w'' => ∃ x' M', e = .returned x' ∧ EnvX w w'' M' ∧ JLeft w [(w.heap.size, Obj.cells (totA zTot) 29 (0, 0))] [rootP (q ++ [z])] x' M') := fun v N u hF hn2 hE => by
      have hlen : q.reverse.length + 1 = n := by rw [List.length_reverse, ← hl, List.length_append]; rfl
      have h := jlR w [(w.heap.size, Obj.cells (totA zTot) 29 (0, 0))] q.reverse z v N u (fun t ht => by
        rcases List.mem_cons.1 ht with rfl | h
        · exact hI _ (List.mem_append_right _ (List.mem_singleton.2 rfl))
        · exact hI t (List.mem_append_left _ (List.mem_reverse.1 h))) (by rw [hlen]; omega) (by
        rw [hlen, List.reverse_cons, List.reverse_reverse]
        exact hF) hn2 hE ht
      rw [jl_up] at h
      rw [HRT]
      exact h
    have h0' : ¬ (n : Int) = 0 := by omega
    clear hI hA hl ht HRT h0
    generalize q ++ [z] = p at *
    go_enter Tryd.func18, Tryd.ntmps18
    go_upto_region 4 with (fail)
    rw [zero_totA]
    generalize w.alloc (.cells (totA zTot) 29) = W at *
    refine wp_region_Hx (w0 := w) [0, 1, 2, 3, 4, 5, 6] [(w.heap.size, Obj.cells (totA zTot) 29 (0, 0))] rfl E1.out ?_
    refine lexH_phase [0] [1, 2, 3, 4, 5, 6] ?_
    have hw1 : EnvX w _ [(w.heap.size, Obj.cells (totA zTot) 29 (0, 0))] := E1.out
    have hone := @EnvC.one _ _ _ hw1
    (refine wpG_op rfl rfl rfl ?_; intro K hK; go_big_quiet_op; go_big_quiet_on)
    clear hone hw1
    refine wpG_nil ?_
    refine (hOp_fresh (R := FreshR 29 37 n (p.map totC).flatten) (M0 := [(w.heap.size, Obj.cells (totA zTot) 29 (0, 0))]) rfl rfl (fun _ h => h) (fun u hu => FAt_call (fid := 32) (xs := #[.tmp 11]) (args := #[.slice A n c]) rfl Tryd.func32 rfl rfl u (callsR_fresh (HCL.out u (EnvX.bel hu)))) ?_)
    rintro x N1 hF hf he2; intro K' hK'; go_big_quiet_op; go_big_quiet_on
    have HF := Lib.hid hF
    have HN := Lib.hid hf
    clear hF
    clear hf
    change lexH _ _ _ _ _ _ (N1 ++ ((w.heap.size, Obj.cells (totA zTot) 29 (0, 0)) :: []))
    refine lexH_phase [2] [3, 4, 5, 6] ?_
    have hw3 : EnvX w _ (N1 ++ ((w.heap.size, Obj.cells (totA zTot) 29 (0, 0)) :: [])) := he2.choose_spec
    have hone := @EnvC.one _ _ _ hw3
    (refine wpG_op rfl rfl rfl ?_; intro K hK; go_big_quiet_op; go_big_quiet_on)
    clear hone hw3
    refine wpG_nil ?_
    refine (hOp_turn (gd := none) (R := JLeft w [(w.heap.size, Obj.cells (totA zTot) 29 (0, 0))] [rootP p]) rfl rfl rfl rfl (fun u hu => OUpon_call (fid := 31) (xs := #[.tmp 12, .tmp 13]) (args := #[x, .func (.func 45) #[] #[]]) rfl Tryd.func31 rfl rfl u (HJL.out x N1 u HF.out HN.out hu)) ?_)
    rintro x3 M' hJ he4; intro K' hK'; go_big_quiet_op; go_big_quiet_on
    obtain ⟨N3, rfl, hF3, hn3⟩ := hJ
    obtain ⟨gr, cap, cur, rfl, rfl, hcur⟩ | ⟨_, _, h0, _⟩ := hF3
    case inr => cases h0
    have HCUR := Lib.hid hcur
    have HGR := Lib.hid (hn3 _ (List.mem_singleton.2 rfl))
    have HLR : Hid (∀ u, Row u gr 29 cur → (loadVar 29 ((⟨gr, 0, none⟩ : Addr).add (0 * 37))).run Tryd.prog u = .ok (.agg (totA (rootP p))) u) := fun u hu => root_load hu HRO.out hcur.2.2.2
    clear hcur hn3
    change lexH _ _ _ _ _ _ [(gr, Obj.cells cur 29 (0, 0)), (w.heap.size, Obj.cells (totA zTot) 29 (0, 0))]
    refine lexH_phase [4, 5] [6] ?_
    have hw5 : EnvX w _ [(gr, Obj.cells cur 29 (0, 0)), (w.heap.size, Obj.cells (totA zTot) 29 (0, 0))] := he4.choose_spec
    have hone := @EnvC.one _ _ _ hw5
    (refine wpG_val (v := .pointer (some ((⟨gr, 0, none⟩ : Addr).add (0 * 37)))) rfl rfl (fun u hu => idxSl_op (i := 0) Tryd.underlying22 aggTot.size (by simp) u rfl rfl) ?_ hw5; intro K hK; go_big_quiet_op; go_big_quiet_on)
    (refine wpG_val (v := .agg (totA (rootP p))) rfl rfl (fun u hu => load_any_op u (HLR.out u (EnvX.row hu (List.Mem.head _))) rfl) ?_ hw5; intro K hK; go_big_quiet_op; go_big_quiet_on)
    clear hone hw5
    refine wpG_nil ?_
    refine (hOp_store rfl (w.heap.size) (totA (rootP p)) rfl rfl (Nat.le_refl _) 29 ((totA zTot)) (List.Mem.tail _ (List.Mem.head _)) (infoTot _ (totA_size HRO.out.len)) (zTot_size.trans (totA_size HRO.out.len).symm) (totA_one _) [(w.heap.size, Obj.cells (totA (rootP p)) 29 (0, 0))] (List.forall_mem_cons.2 ⟨.inl rfl, (fun _ h => by cases h)⟩) ?_)
    intro he6
    intro u8 E2'
    have EX7 := Lib.hid E2'
    clear E2'
    have Q0 := Lib.hid (EnvX.box EX7.out _ _ (List.Mem.head _))
    have HBEL := Lib.hid EX7.out.bel
    clear EX7
    go_wp2_with ((with_reducible refine bodyPost_ret (v := .agg (totA (rootP p))) ?_ ?_ ?_); (exact results_cell_row (p := 2) (ty := 29) Tryd.results18 _ _ w.heap.size 29 (totA (rootP p)) (0, 0) _ rfl Q0.out Tryd.underlying29 rfl (infoTot _ (totA_size HRO.out.len))); (rfl))
    exact HBEL.out
end Go.Proofs.YtbmiecogjmbciaaDoor

namespace Go.Proofs.YtbmiecogjmbciaaDoor
set_option maxRecDepth 8000
open Go.RowKit

theorem wrap_in {x : Int} (h : -9223372036854775808 ≤ x ∧ x ≤ 9223372036854775807) : wrap64 x = x := by unfold wrap64; omega
theorem row_get {cs : List Value} {L : List (List Value)} {z n j : Nat} (hL : isRows z L) (hn : L.length = n) (hc : cs.take (n * z) = L.flatten) (hj : j < n) : (cs.drop (0 + j * z)).take z = L.getD j [] := by
  have h1 : j * z + z ≤ n * z := by
    have := Nat.mul_le_mul_right z (show j + 1 ≤ n from hj)
    rwa [Nat.succ_mul] at this
  have e : (cs.drop (0 + j * z)).take z = ((cs.take (n * z)).drop (j * z)).take z := by
    rw [Nat.zero_add, List.drop_take, List.take_take, Nat.min_eq_left (by omega)]
  rw [e, hc, ← hL.flat_drop]
  have hlt : j < L.length := by omega
  rw [List.drop_eq_getElem_cons hlt, List.flatten_cons, List.take_left' (hL _ (List.getElem_mem hlt)), getD_el [] hlt]
theorem row_set {cs : List Value} {L : List (List Value)} {z n k : Nat} {v : List Value} (hL : isRows z L) (hn : L.length = n) (hc : cs.take (n * z) = L.flatten) (hk : k < n) (hv : v.length = z) :
    (cs.take (0 + k * z) ++ v ++ cs.drop (0 + k * z + z)).take (n * z) = (L.set k v).flatten := by
  have h1 : k * z + z ≤ n * z := by
    have := Nat.mul_le_mul_right z (show k + 1 ≤ n from hk)
    rwa [Nat.succ_mul] at this
  have hF : L.flatten.length = n * z := by rw [hL.flat_len, hn]
  obtain ⟨R, hR⟩ : ∃ R, cs = L.flatten ++ R := ⟨cs.drop (n * z), by rw [← hc, List.take_append_drop]⟩
  have hlt : k < L.length := by omega
  have es : (L.set k v).flatten = L.flatten.take (k * z) ++ v ++ L.flatten.drop (k * z + z) := by
    rw [List.set_eq_take_append_cons_drop, if_pos hlt, List.flatten_append, List.flatten_cons, hL.flat_take, hL.flat_drop, Nat.succ_mul, List.append_assoc]
  have hta : (L.flatten ++ R).take (k * z) = L.flatten.take (k * z) := List.take_append_of_le_length (by omega)
  have hda : (L.flatten ++ R).drop (k * z + z) = L.flatten.drop (k * z + z) ++ R := List.drop_append_of_le_length (by omega)
  rw [es, Nat.zero_add, hR, hta, hda, ← List.append_assoc]
  refine List.take_left' ?_
  rw [List.length_append, List.length_append, List.length_take, List.length_drop, hF, hv]
  omega
theorem row_put_len {cs : List Value} {z n k c : Nat} {v : List Value} (hk : k < n) (hn : n ≤ c) (hv : v.length = z) (hc : cs.length = c * z) : (cs.take (0 + k * z) ++ v ++ cs.drop (0 + k * z + z)).length = c * z := by
  have h1 : k * z + z ≤ c * z := by
    have := Nat.mul_le_mul_right z (show k + 1 ≤ c by omega)
    rwa [Nat.succ_mul] at this
  rw [List.length_append, List.length_append, List.length_take, List.length_drop, hv, hc]
  omega
section
variable {a : Act} {dst : Option Tmp} {x y : Operand} {ty : TypeId} {pos : String} {after : Array Edge} {gd : Option (Nat × Bool)}
theorem idxSl0_op {t e : TypeId} {z : Nat} (hu : Tryd.prog.underlying t = some (.slice e)) (hz : (Tryd.prog.info? e).map (·.size) = some z) {g n c i : Nat} (hi : i < n) (u : World)
    (hx : a.eval x = .slice (some ⟨g, 0, none⟩) n c) (hy : a.eval y = .int .i64 (i : Int)) :
    (execOp a.eval ⟨dst, .indexAddr t x y, ty, pos, after, gd⟩).run Tryd.prog u = .ok (.value (.pointer (some ⟨g, 0 + i * z, none⟩))) u := by
  have h := idxSl_op (dst := dst) (ty := ty) (pos := pos) (after := after) (gd := gd) hu hz hi u hx hy
  rwa [Addr.add_mid] at h
end
/-- a row of sides in a box -/
def SdBox (n cap : Nat) (X : List (List Value)) (cur : Array Value) : Prop := n ≤ cap ∧ cap ≤ maxLen ∧ cur.size = cap * 4 ∧ cur.toList.take (n * 4) = X.flatten
theorem agg_cells (l : List Value) : (Value.agg l.toArray).cells = l.toArray := rfl
theorem put_facts {l : List Value} {old cs : Array Value} {k : Nat} (hl : l.length = 4) (h1 : ∀ u ∈ l, u.oneCell' = true) (hk : k + 4 ≤ old.size) (hcs : cs.toList = old.toList.take k ++ l ++ old.toList.drop (k + 4)) :
    (Tryd.prog.info? 60).map (·.size) = some (Value.agg l.toArray).cells.size ∧ k + (Value.agg l.toArray).cells.size ≤ old.size ∧ (Value.agg l.toArray).cells.all (·.oneCell') = true ∧ old.toList.take k ++ (Value.agg l.toArray).cells.toList ++ old.toList.drop (k + (Value.agg l.toArray).cells.size) = cs.toList := by
  have hs : (Value.agg l.toArray).cells.size = 4 := by rw [agg_cells]; simpa using hl
  have hall : (Value.agg l.toArray).cells.all (·.oneCell') = true := Array.all_eq_true_iff_forall_mem.2 (fun u hu => h1 u (by rw [agg_cells] at hu; simpa using hu))
  refine ⟨by rw [hs]; exact info_msides, by rw [hs]; exact hk, hall, ?_⟩
  rw [hs, hcs]
  rfl
set_option maxRecDepth 20000 in
set_option maxHeartbeats 4000000 in
theorem mrev_nil (w : World) : Calls Tryd.prog 55 #[.slice none 0 0] w fun e w' => e = .returned (.tuple #[]) ∧ Below w.heap.size w w' := by
  go_enter Tryd.func55, Tryd.ntmps55
  go_wp2_with fail
  go_loopw [2, 3] (fun vi vj u => vi = .int .i64 0 ∧ vj = .int .i64 (-1) ∧ Below w.heap.size w u) (fun _ _ _ => 0)
  case atStart => exact ⟨rfl, rfl, by go_grown⟩
  case round =>
    obtain ⟨rfl, rfl, hb⟩ := hrel
    go_wp2
    go_end0
    exact ⟨rfl, hb⟩
set_option maxRecDepth 20000 in
set_option maxHeartbeats 4000000 in
theorem mrev_any (w0 : World) (M0 : Boxes) (X : List (List Value)) (g n cap : Nat) (cur : Array Value) (w : World) (hX : isRows 4 X) (hone : ∀ x ∈ X, ∀ u ∈ x, u.oneCell' = true) (hl : X.length = n) (hn : n ≤ 100000) (hC : SdBox n cap X cur) (hE : EnvX w0 w ((g, Obj.cells cur 60 (0, 0)) :: M0)) (hg : w0.heap.size ≤ g) (hfr : ∀ z ∈ M0, z.1 ≠ g) :
    Calls Tryd.prog 55 #[.slice (some ⟨g, 0, none⟩) n cap] w fun e w'' => ∃ x M', e = .returned x ∧ EnvX w0 w'' M' ∧ x = .tuple #[] ∧ ∃ cur', M' = (g, Obj.cells cur' 60 (0, 0)) :: M0 ∧ SdBox n cap X.reverse cur' := by
  have HX := Lib.hid (And.intro hX hone)
  have HL := Lib.hid hl
  have HC := Lib.hid hC
  have HG := Lib.hid hg
  have HFR := Lib.hid hfr
  have HNC : Hid (n ≤ cap) := hC.1
  have ET : Hid (EnvX w0 w ((g, Obj.cells cur 60 (0, 0)) :: M0) ∧ cur.size = cap * 4 ∧ cur.toList.take (n * 4) = (turnL [] X 0).flatten) := ⟨hE, hC.2.2.1, by rw [turn_start]; exact hC.2.2.2⟩
  clear hX hone hl hC hE hg hfr
  go_enter Tryd.func55, Tryd.ntmps55
  go_wp2_with fail
  go_loopw [2, 3] (fun vi vj u => ∃ t : Nat, vi = .int .i64 (t : Int) ∧ vj = .int .i64 ((n : Int) - 1 - (t : Int)) ∧ t ≤ n ∧ Hid (∃ cur', EnvX w0 u ((g, Obj.cells cur' 60 (0, 0)) :: M0) ∧ cur'.size = cap * 4 ∧ cur'.toList.take (n * 4) = (turnL [] X t).flatten)) (fun vi _ _ => n - (intOf vi).toNat)
  case atStart => exact ⟨0, rfl, by go_num, by omega, cur, ET.out⟩
  case round =>
    obtain ⟨t, rfl, rfl, htn, hinv⟩ := hrel
    obtain ⟨cur, hE, hsz, hcc⟩ := hinv.out
    clear hinv ET
    have EK := Lib.hid hE
    by_cases hlt : 2 * t + 1 < n
    · obtain ⟨j, hj⟩ : ∃ j, n = t + 1 + j := ⟨n - 1 - t, by omega⟩
      have e : (n : Int) - 1 - (t : Int) = (j : Int) := by omega
      rw [e]
      have hd3 : (j : Int) - 1 = (n : Int) - 1 - ((t + 1 : Nat) : Int) := by omega
      have hd1 : wrap64 ((t : Int) + 1) = (t : Int) + 1 := wrap_in (by omega)
      have hd2 : wrap64 ((j : Int) - 1) = (j : Int) - 1 := wrap_in (by omega)
      have HD3 := Lib.hid hd3
      clear hd3
      have hXl := HL.out
      have hrows : isRows 4 (turnL [] X t) := by
        intro x hx
        obtain ⟨i, hi, rfl⟩ := List.mem_map.1 hx
        exact HX.out.1.get (by have := List.mem_range.1 hi; unfold turnI; split <;> omega)
      have hlen : (turnL [] X t).length = n := by rw [turn_len, hXl]
      have hlow := turn_low [] X (t := t) (by omega)
      have hj2 : X.length - 1 - t = j := by omega
      rw [hj2] at hlow
      have hstep := turn_step [] X (t := t) (by omega)
      rw [hj2] at hstep
      have hri := row_get hrows hlen hcc (show t < n by omega)
      have hrj := row_get hrows hlen hcc (show j < n by omega)
      rw [hlow.1] at hri
      rw [hlow.2] at hrj
      have lri : (X.getD t []).length = 4 := HX.out.1.get (by omega)
      have lrj : (X.getD j []).length = 4 := HX.out.1.get (by omega)
      have ori : ∀ u ∈ X.getD t [], u.oneCell' = true := HX.out.2 _ (by rw [getD_el [] (show t < X.length by omega)]; exact List.getElem_mem _)
      have orj : ∀ u ∈ X.getD j [], u.oneCell' = true := HX.out.2 _ (by rw [getD_el [] (show j < X.length by omega)]; exact List.getElem_mem _)
      generalize X.getD t [] = ri at *
      generalize X.getD j [] = rj at *
      have hnc := HNC.out
      have hcl : cur.toList.length = cap * 4 := by rw [Array.length_toList, hsz]
      have h1 := row_set (v := rj) hrows hlen hcc (show t < n by omega) lrj
      have hl1 := row_put_len (k := t) (v := rj) (show t < n by omega) hnc lrj hcl
      obtain ⟨cs1, hcs1⟩ : ∃ cs1 : Array Value, cs1.toList = cur.toList.take (0 + t * 4) ++ rj ++ cur.toList.drop (0 + t * 4 + 4) := ⟨_, List.toList_toArray⟩
      rw [← hcs1] at h1 hl1
      have hrows1 : isRows 4 ((turnL [] X t).set t rj) := by
        intro x hx
        rcases List.mem_or_eq_of_mem_set hx with h | h
        · exact hrows x h
        · rw [h]; exact lrj
      have h2 := row_set (v := ri) hrows1 (by rw [List.length_set, hlen]) h1 (show j < n by omega) lri
      have hl2 := row_put_len (k := j) (v := ri) (show j < n by omega) hnc lri hl1
      obtain ⟨cs2, hcs2⟩ : ∃ cs2 : Array Value, cs2.toList = cs1.toList.take (0 + j * 4) ++ ri ++ cs1.toList.drop (0 + j * 4 + 4) := ⟨_, List.toList_toArray⟩
      rw [← hcs2] at h2 hl2
      rw [hstep] at h2
      have HI1 := Lib.hid (put_facts (old := cur) (cs := cs1) (k := 0 + t * 4) lrj orj (by rw [hsz]; omega) hcs1)
      have HI2 := Lib.hid (put_facts (old := cs1) (cs := cs2) (k := 0 + j * 4) lri ori (by rw [← Array.length_toList, hl1]; omega) hcs2)
      have HRI := Lib.hid (And.intro lri hri)
      have HRJ := Lib.hid (And.intro lrj hrj)
      have HN2 : Hid (cs2.size = cap * 4 ∧ cs2.toList.take (n * 4) = (turnL [] X (t + 1)).flatten) := ⟨by rw [← Array.length_toList]; exact hl2, h2⟩
      have HJN : Hid (j < n) := by show _ < _; omega
      have HTN : Hid (t < n) := by show _ < _; omega
      have hlt' : (t : Int) < (j : Int) := by omega
      have hmm : t + 1 ≤ n := by omega
      have hme : n - (t + 1) < n - t := by omega
      clear hE hsz hcc hrows hlen hlow hj2 hstep hri hrj lri lrj ori orj hcl h1 hl1 hcs1 hrows1 h2 hl2 hcs2 hXl hnc hlt e hj
      go_upto_region 3 with (fail)
      refine wp_region_H (w0 := w0) ((g, Obj.cells cur 60 (0, 0)) :: M0) (by kernel_rfl) EK.out ?_
      refine anyH_phase [0, 1, 2, 3, 4, 5, 6, 7, 8, 9, 10, 11, 12] 3 rfl ⟨_, (EnvX.drew EK.out)⟩ (by kernel_rfl) ?_
      have hw101 : EnvX w0 _ ((g, Obj.cells cur 60 (0, 0)) :: M0) := (EnvX.drew EK.out)
      have hone := @EnvC.one _ _ _ hw101
      (refine wpG_op rfl rfl rfl ?_; intro K hK; go_big_quiet_op; go_big_quiet_on)
      (refine wpG_op rfl rfl rfl ?_; intro K hK; go_big_quiet_op; go_big_quiet_on)
      (refine wpG_op rfl rfl rfl ?_; intro K hK; go_big_quiet_op; go_big_quiet_on)
      (refine wpG_op rfl rfl rfl ?_; intro K hK; go_big_quiet_op; go_big_quiet_on)
      (refine wpG_op rfl rfl rfl ?_; intro K hK; go_big_quiet_op; go_big_quiet_on)
      (refine wpG_op rfl rfl rfl ?_; intro K hK; go_big_quiet_op; go_big_quiet_on)
      (refine wpG_val (v := .pointer (some ⟨g, 0 + j * 4, none⟩)) rfl rfl (fun u hu => idxSl0_op Tryd.underlying55 aggMSides.size HJN.out u rfl rfl) ?_ hw101; intro K hK; go_big_quiet_op; go_big_quiet_on)
      (refine wpG_val (v := .agg rj.toArray) rfl rfl (fun u hu => load_any_op u (box_agg aggMSides (k := 0 + j * 4) hu (List.Mem.head _) rj HRJ.out.1 HRJ.out.2) rfl) ?_ hw101; intro K hK; go_big_quiet_op; go_big_quiet_on)
      (refine wpG_op rfl rfl rfl ?_; intro K hK; go_big_quiet_op; go_big_quiet_on)
      (refine wpG_op rfl rfl rfl ?_; intro K hK; go_big_quiet_op; go_big_quiet_on)
      (refine wpG_val (v := .pointer (some ⟨g, 0 + t * 4, none⟩)) rfl rfl (fun u hu => idxSl0_op Tryd.underlying55 aggMSides.size HTN.out u rfl rfl) ?_ hw101; intro K hK; go_big_quiet_op; go_big_quiet_on)
      (refine wpG_val (v := .agg ri.toArray) rfl rfl (fun u hu => load_any_op u (box_agg aggMSides (k := 0 + t * 4) hu (List.Mem.head _) ri HRI.out.1 HRI.out.2) rfl) ?_ hw101; intro K hK; go_big_quiet_op; go_big_quiet_on)
      (refine wpG_val (v := .pointer (some ⟨g, 0 + t * 4, none⟩)) rfl rfl (fun u hu => idxSl0_op Tryd.underlying55 aggMSides.size HTN.out u rfl rfl) ?_ hw101; intro K hK; go_big_quiet_op; go_big_quiet_on)
      clear hone hw101
      refine wpG_nil ?_
      refine anyH_one (i := 13) (by kernel_rfl) (hOp_putAt rfl (g) (0 + t * 4) (.agg rj.toArray) rfl rfl HG.out 60 (cur) (cs1) (List.Mem.head _) HI1.out.1 HI1.out.2.1 HI1.out.2.2.1 HI1.out.2.2.2 ((g, Obj.cells (cs1) 60 (0, 0)) :: M0) (List.forall_mem_cons.2 ⟨.inl rfl, fun z hz => .inr ⟨List.mem_cons_of_mem _ hz, HFR.out z hz⟩⟩) ?_)
      intro he102
      refine anyH_phase [14] 1 rfl ⟨_, he102.choose_spec⟩ (by kernel_rfl) ?_
      have hw103 : EnvX w0 _ ((g, Obj.cells (cs1) 60 (0, 0)) :: M0) := he102.choose_spec
      have hone := @EnvC.one _ _ _ hw103
      (refine wpG_val (v := .pointer (some ⟨g, 0 + j * 4, none⟩)) rfl rfl (fun u hu => idxSl0_op Tryd.underlying55 aggMSides.size HJN.out u rfl rfl) ?_ hw103; intro K hK; go_big_quiet_op; go_big_quiet_on)
      clear hone hw103
      refine wpG_nil ?_
      refine anyH_one (i := 15) (by kernel_rfl) (hOp_putAt rfl (g) (0 + j * 4) (.agg ri.toArray) rfl rfl HG.out 60 (cs1) (cs2) (List.Mem.head _) HI2.out.1 HI2.out.2.1 HI2.out.2.2.1 HI2.out.2.2.2 ((g, Obj.cells (cs2) 60 (0, 0)) :: M0) (List.forall_mem_cons.2 ⟨.inl rfl, fun z hz => .inr ⟨List.mem_cons_of_mem _ hz, HFR.out z hz⟩⟩) ?_)
      intro he104
      refine anyH_done (by kernel_rfl) ?_
      intro u106 E2'
      have EX105 := Lib.hid E2'
      clear E2'
      go_wp2
      go_roundw
      case rel => exact ⟨t + 1, by go_num, congrArg _ (hd2.trans HD3.out), hmm, cs2, EX105.out, HN2.out⟩
      case measure => simp [intOf]; omega
    · have hge : ¬ (t : Int) < (n : Int) - 1 - (t : Int) := by omega
      have HF : Hid (cur.size = cap * 4 ∧ cur.toList.take (n * 4) = X.reverse.flatten) := ⟨hsz, by rw [hcc, turn_end [] X (by rw [HL.out]; omega)]⟩
      clear hE hsz hcc
      go_wp2
      go_end0
      exact ⟨_, rfl, _, EK.out, rfl, cur, rfl, HC.out.1, HC.out.2.1, HF.out⟩
end Go.Proofs.YtbmiecogjmbciaaDoor

namespace Go.Proofs.YtbmiecogjmbciaaDoor
set_option maxRecDepth 8000
open Go.RowKit

theorem elSd : ElemT 55 60 4 32 (.agg #[ii 0, ii 0, ii 0, ii 0]) := ⟨Tryd.underlying55, by kernel_rfl, rfl, by decide, by decide, by decide⟩
theorem sdV_low {f m p : Nat} (hp : halfT m = p) (h : p ≤ m) : (sdV (f, m, false)).toArray = #[ii f, ii (f + p), ii (f + p), ii (f + m)] := by
  subst hp
  have e : f + halfT m + (m - halfT m) = f + m := by omega
  show #[ii f, ii (f + halfT m), ii (f + halfT m), ii (f + halfT m + (m - halfT m))] = _
  rw [e]
theorem sdV_high {f m p : Nat} (hp : halfT m = p) (h : p ≤ m) : (sdV (f, m, true)).toArray = #[ii (f + p), ii (f + m), ii f, ii (f + p)] := by
  subst hp
  have e : f + halfT m + (m - halfT m) = f + m := by omega
  show #[ii (f + halfT m), ii (f + halfT m + (m - halfT m)), ii f, ii (f + halfT m)] = _
  rw [e]
/-- the side in which i stands -/
def sideB (f m i : Nat) : Bool := decide (¬ i < f + halfT m)
theorem mcut_any (f m i : Nat) (w : World) (h2 : 2 ≤ m) (hn : f + m ≤ 1000000) (hi : i ≤ 1000000) :
    Calls Tryd.prog 54 #[.agg #[ii f, ii (f + m)], .int .i64 (i : Int)] w fun e w' => e = .returned (.agg (sdV (f, m, sideB f m i)).toArray) ∧ Below w.heap.size w w' := by
  have hp := (half_spec h2).2.1
  unfold sideB
  by_cases h : i < f + halfT m
  · rw [show decide (¬ i < f + halfT m) = false from decide_eq_false (fun k => k h), sdV_low rfl (by omega)]
    exact mcut_low f m i _ w h2 rfl hn hi h
  · rw [show decide (¬ i < f + halfT m) = true from decide_eq_true h, sdV_high rfl (by omega)]
    exact mcut_high f m i _ w h2 rfl hn hi h
theorem sdV_len (x : Nat × Nat × Bool) : (sdV x).length = 4 := rfl
theorem sdV_one (x : Nat × Nat × Bool) : ∀ u ∈ sdV x, u.oneCell' = true := by
  intro u hu
  unfold sdV at hu
  simp only [List.mem_cons, List.not_mem_nil, or_false] at hu
  rcases hu with rfl | rfl | rfl | rfl <;> rfl
theorem sdV_rows (l : List (Nat × Nat × Bool)) : isRows 4 (l.map sdV) := by
  intro x hx
  obtain ⟨y, _, rfl⟩ := List.mem_map.1 hx
  exact sdV_len y
theorem forks_side {f m i : Nat} (h2 : 2 ≤ m) : forksT f m i = forksT (nearF (f, m, sideB f m i)) (nearN (f, m, sideB f m i)) i ++ [(f, m, sideB f m i)] := by
  unfold sideB
  by_cases h : i < f + halfT m
  · rw [show decide (¬ i < f + halfT m) = false from decide_eq_false (fun k => k h), forks_low h2 h]
    rfl
  · rw [show decide (¬ i < f + halfT m) = true from decide_eq_true h, forks_high h2 h]
    rfl
theorem side_near {f m i : Nat} (h2 : 2 ≤ m) (hf : f ≤ i) (hi : i < f + m) : 1 ≤ nearN (f, m, sideB f m i) ∧ nearN (f, m, sideB f m i) < m ∧ nearF (f, m, sideB f m i) + nearN (f, m, sideB f m i) ≤ f + m ∧ nearF (f, m, sideB f m i) ≤ i ∧ i < nearF (f, m, sideB f m i) + nearN (f, m, sideB f m i) := by
  obtain ⟨b1, b2, b3, -⟩ := half_spec h2
  unfold sideB nearF nearN
  by_cases h : i < f + halfT m
  · rw [show decide (¬ i < f + halfT m) = false from decide_eq_false (fun k => k h)]
    simp only [Bool.false_eq_true, if_false]
    omega
  · rw [show decide (¬ i < f + halfT m) = true from decide_eq_true h]
    simp only [if_true]
    omega
/-- at the loop's head -/
def CInv (n i : Nat) (w : World) (vl : Value) (b f m : Nat) (L : List (Nat × Nat × Bool)) (N : Boxes) (u : World) : Prop :=
  (1 ≤ m ∧ f + m ≤ n ∧ f ≤ i ∧ i < f + m ∧ forksT 0 n i = forksT f m i ++ L.reverse ∧ L.length + m ≤ n) ∧
  FreshR 60 4 L.length (L.map sdV).flatten vl N ∧ freshN w N [(b, Obj.cells #[ii f, ii (f + m)] 58 (0, 0))] ∧ w.heap.size ≤ b ∧ EnvX w u (N ++ [(b, Obj.cells #[ii f, ii (f + m)] 58 (0, 0))])
theorem lenV_fresh {e : TypeId} {z n : Nat} {xs : List Value} {v : Value} {N : Boxes} (h : FreshR e z n xs v N) : lenV v = n := by
  rcases h with ⟨_, _, _, rfl, _⟩ | ⟨rfl, _, rfl, _⟩ <;> rfl
set_option maxRecDepth 20000 in
set_option maxHeartbeats 8000000 in
theorem mcuts_any (n i : Nat) (w : World) (h1 : 1 ≤ n) (hn : n ≤ 1000) (hi : i < n) :
    Calls Tryd.prog 34 #[.int .i64 (n : Int), .int .i64 (i : Int)] w fun e w' => (∃ v, e = .returned v ∧ w'.ownsRow w.heap.size 60 4 v (forksT 0 n i).length ((forksT 0 n i).map sdV).flatten) ∧ Below w.heap.size w w' := by
  have HI := Lib.hid (And.intro h1 (And.intro hn hi))
  have E1 : Hid (EnvX w w []) := EnvX.start w
  clear h1 hn hi
  go_enter Tryd.func34, Tryd.ntmps34
  go_upto_region 2 with (fail)
  refine wp_region_Hx (w0 := w) [0, 1, 2, 3] [] rfl E1.out ?_
  refine lexH_phase [0, 1] [2, 3] ?_
  have hw1 : EnvX w _ [] := E1.out
  have hone := @EnvC.one _ _ _ hw1
  (refine wpG_op rfl rfl rfl ?_; intro K hK; go_big_quiet_op; go_big_quiet_on)
  (refine wpG_val (v := .agg #[ii 0, ii n]) rfl rfl (fun u hu => buildA_op u (by kernel_rfl)) ?_ hw1; intro K hK; go_big_quiet_op; go_big_quiet_on)
  clear hone hw1
  refine wpG_nil ?_
  refine (hOp_fresh (R := fun x N => ∃ g, x = .pointer (some ⟨g, 0, none⟩) ∧ N = [(g, Obj.cells (#[ii 0, ii 0]) 58 (0, 0))]) (M0 := []) rfl rfl (fun _ h => h) (fun u hu => FAt_new (new_mspan _) u) ?_)
  rintro _ _ ⟨b0, rfl, rfl⟩ hf he2; intro K' hK'; go_big_quiet_op; go_big_quiet_on
  have HB0 := Lib.hid (hf _ (List.mem_singleton.2 rfl))
  clear hf
  change lexH _ _ _ _ _ _ [(b0, Obj.cells (#[ii 0, ii 0]) 58 (0, 0))]
  refine (hOp_store rfl (b0) (#[ii 0, ii n]) rfl rfl HB0.out.1 58 ((#[ii 0, ii 0])) (List.Mem.head _) info_mspan rfl (by kernel_rfl) [(b0, Obj.cells (#[ii 0, ii n]) 58 (0, 0))] (List.forall_mem_cons.2 ⟨.inl rfl, (fun _ h => by cases h)⟩) ?_)
  intro he3
  intro u5 E2'
  have EX4 := Lib.hid E2'
  clear E2'
  go_upto_region 3 with (fail)
  go_loopw [5, 6] (fun vl vs u => ∃ (f m b : Nat) (L : List (Nat × Nat × Bool)) (N : Boxes), vs = .pointer (some ⟨b, 0, none⟩) ∧ Hid (CInv n i w vl b f m L N u)) (fun vl _ _ => n - lenV vl)
  case atStart =>
    refine ⟨0, n, b0, [], [], rfl, ⟨HI.out.1, by omega, Nat.zero_le _, by rw [Nat.zero_add]; exact HI.out.2.2, by simp, by simp⟩, .inr ⟨rfl, rfl, rfl, rfl⟩, (fun y hy => by cases hy), HB0.out.1, ?_⟩
    rw [Nat.zero_add]
    exact EX4.out
  case round =>
    obtain ⟨f, m, b, L, N, rfl, hinv⟩ := hrel
    obtain ⟨⟨hm1, hfn, hfi, hif, hfo, hLm⟩, hF, hN, hb, hE⟩ := hinv.out
    clear hinv EX4
    have HF := Lib.hid hF
    have HN := Lib.hid hN
    have HB := Lib.hid hb
    have EK : Hid (EnvX w wr (N ++ ((b, Obj.cells (#[ii f, ii (f + m)]) 58 (0, 0)) :: []))) := hE
    have hn := HI.out.2.1
    have HSZ : Hid (∀ u, Calls Tryd.prog 53 #[.agg #[ii f, ii (f + m)]] u fun e w' => e = .returned (.int .i64 (m : Int)) ∧ Below u.heap.size u w') := fun u => msize_any f m u (by omega)
    by_cases h2 : 2 ≤ m
    · obtain ⟨n1, n2, n3, n4, n5⟩ := side_near h2 hfi hif
      have hfo2 := forks_side (f := f) (i := i) h2
      have hcu := fun u => mcut_any f m i u h2 (by omega) (by omega)
      have hS1 := sdV_len (f, m, sideB f m i)
      have hS2 := sdV_one (f, m, sideB f m i)
      have hS3 : (sdV (f, m, sideB f m i)).take 2 = [ii (nearF (f, m, sideB f m i)), ii (nearF (f, m, sideB f m i) + nearN (f, m, sideB f m i))] := rfl
      obtain ⟨x, hx⟩ : ∃ x, (f, m, sideB f m i) = x := ⟨_, rfl⟩
      rw [hx] at n1 n2 n3 n4 n5 hfo2 hcu hS1 hS2 hS3
      obtain ⟨sd, hsd⟩ : ∃ sd, sdV x = sd := ⟨_, rfl⟩
      rw [hsd] at hcu hS1 hS2 hS3
      generalize nearF x = nf at *
      generalize nearN x = nm at *
      have HCU : Hid (∀ u, Calls Tryd.prog 54 #[.agg #[ii f, ii (f + m)], .int .i64 (i : Int)] u fun e w' => e = .returned (.agg sd.toArray) ∧ Below u.heap.size u w') := hcu
      have hs4 : sd.toArray.size = 4 := by simpa using hS1
      have HSD : Hid (sd.length = 4 ∧ (∀ u ∈ sd, u.oneCell' = true) ∧ (Tryd.prog.info? 60).map (·.size) = some sd.toArray.size ∧ (#[ii 0, ii 0, ii 0, ii 0] : Array Value).size = sd.toArray.size ∧ sd.toArray.all (·.oneCell') = true ∧ (sd.toArray.toList.drop 0).take 4 = sd ∧ (sd.toArray.toList.drop 0).take 2 = [ii nf, ii (nf + nm)]) := by
        refine ⟨hS1, hS2, by rw [hs4]; exact info_msides, by rw [hs4]; rfl, Array.all_eq_true_iff_forall_mem.2 (fun u hu => hS2 u (by simpa using hu)), ?_, ?_⟩
        · rw [List.drop_zero, List.take_of_length_le (by simp [hS1])]
        · rw [List.drop_zero]; exact hS3
      have HGT : Hid (decide ((1 : Int) < (m : Int)) = true) := decide_eq_true (by omega)
      have HFL : Hid ((L.map sdV).flatten.length = L.length * 4) := by show _ = _; rw [(sdV_rows L).flat_len, List.length_map]
      have HNL : Hid (L.length ≤ 1000) := by show _ ≤ _; omega
      have HNX : Hid (1 ≤ nm ∧ nf + nm ≤ n ∧ nf ≤ i ∧ i < nf + nm ∧ forksT 0 n i = forksT nf nm i ++ (L ++ [x]).reverse ∧ (L ++ [x]).length + nm ≤ n) := by
        refine ⟨n1, by omega, n4, n5, ?_, by rw [List.length_append]; simp; omega⟩
        rw [hfo, hfo2, List.reverse_append, List.append_assoc]
        rfl
      have HXV := Lib.hid hsd
      have HLN : Hid (L.length < n) := by show _ < _; omega
      have HVL := Lib.hid (lenV_fresh hF)
      clear hF hN hb hE hm1 hfn hfi hif hfo hLm n1 n2 n3 n4 n5 hfo2 hcu hS1 hS2 hS3 hs4 hsd hx h2 hn
      go_upto_region 3 with (fail)
      refine wp_region_Hx (w0 := w) [0, 1, 2] (N ++ ((b, Obj.cells (#[ii f, ii (f + m)]) 58 (0, 0)) :: [])) rfl EK.out ?_
      refine lexH_phase [0, 1, 2] [] ?_
      have hw101 : EnvX w _ (N ++ ((b, Obj.cells (#[ii f, ii (f + m)]) 58 (0, 0)) :: [])) := EK.out
      have hone := @EnvC.one _ _ _ hw101
      (refine wpG_val (v := .agg #[ii f, ii (f + m)]) rfl rfl (fun u hu => load_any_op u (box_agg aggMSpan (k := 0) hu (List.mem_append_right _ (List.Mem.head _)) [ii f, ii (f + m)] rfl rfl) rfl) ?_ hw101; intro K hK; go_big_quiet_op; go_big_quiet_on)
      (refine wpG_call (f := 53) (args := #[.agg #[ii f, ii (f + m)]]) (v := .int .i64 (m : Int)) rfl rfl rfl Tryd.func53 rfl rfl (fun u hu => HSZ.out u) ?_ hw101; intro K hK; go_big_quiet_op; go_big_quiet_on)
      (refine wpG_val (v := .bool true) rfl rfl (fun u hu => gtrI_op u HGT.out rfl rfl) ?_ hw101; intro K hK; go_big_quiet_op; go_big_quiet_on)
      clear hone hw101
      refine wpG_nil ?_
      intro u103 E2'
      have EX102 := Lib.hid E2'
      clear E2'
      go_upto_region 4 with (fail)
      refine wp_region_Hx (w0 := w) [0, 1, 2, 3, 4] (N ++ ((b, Obj.cells (#[ii f, ii (f + m)]) 58 (0, 0)) :: [])) rfl EX102.out ?_
      refine lexH_phase [0, 1, 2] [3, 4] ?_
      have hw104 : EnvX w _ (N ++ ((b, Obj.cells (#[ii f, ii (f + m)]) 58 (0, 0)) :: [])) := EX102.out
      have hone := @EnvC.one _ _ _ hw104
      (refine wpG_val (v := .agg #[ii f, ii (f + m)]) rfl rfl (fun u hu => load_any_op u (box_agg aggMSpan (k := 0) hu (List.mem_append_right _ (List.Mem.head _)) [ii f, ii (f + m)] rfl rfl) rfl) ?_ hw104; intro K hK; go_big_quiet_op; go_big_quiet_on)
      (refine wpG_op rfl rfl rfl ?_; intro K hK; go_big_quiet_op; go_big_quiet_on)
      (refine wpG_call (f := 54) (args := #[.agg #[ii f, ii (f + m)], .int .i64 (i : Int)]) (v := .agg sd.toArray) rfl rfl rfl Tryd.func54 rfl rfl (fun u hu => HCU.out u) ?_ hw104; intro K hK; go_big_quiet_op; go_big_quiet_on)
      clear hone hw104
      refine wpG_nil ?_
      refine (hOp_fresh (R := fun x N => ∃ g, x = .pointer (some ⟨g, 0, none⟩) ∧ N = [(g, Obj.cells (#[ii 0, ii 0, ii 0, ii 0]) 60 (0, 0))]) (M0 := (N ++ ((b, Obj.cells (#[ii f, ii (f + m)]) 58 (0, 0)) :: []))) rfl rfl (fun _ h => h) (fun u hu => FAt_new (new_msides _) u) ?_)
      rintro _ _ ⟨g7, rfl, rfl⟩ hf he105; intro K' hK'; go_big_quiet_op; go_big_quiet_on
      have HG7 := Lib.hid (hf _ (List.mem_singleton.2 rfl))
      clear hf
      change lexH _ _ _ _ _ _ ((g7, Obj.cells (#[ii 0, ii 0, ii 0, ii 0]) 60 (0, 0)) :: (N ++ ((b, Obj.cells (#[ii f, ii (f + m)]) 58 (0, 0)) :: [])))
      refine (hOp_store rfl (g7) (sd.toArray) rfl rfl HG7.out.1 60 ((#[ii 0, ii 0, ii 0, ii 0])) (List.Mem.head _) HSD.out.2.2.1 HSD.out.2.2.2.1 HSD.out.2.2.2.2.1 ((g7, Obj.cells (sd.toArray) 60 (0, 0)) :: (N ++ ((b, Obj.cells (#[ii f, ii (f + m)]) 58 (0, 0)) :: []))) (List.forall_mem_cons.2 ⟨.inl rfl, fun y hy => .inr ⟨List.mem_cons_of_mem _ hy, HG7.out.2 y hy⟩⟩) ?_)
      intro he106
      intro u108 E2'
      have EX107 := Lib.hid E2'
      clear E2'
      go_upto_region 5 with (fail)
      refine wp_region_Hx (w0 := w) [0, 1, 2, 3, 4] ((g7, Obj.cells (sd.toArray) 60 (0, 0)) :: (N ++ ((b, Obj.cells (#[ii f, ii (f + m)]) 58 (0, 0)) :: []))) rfl EX107.out ?_
      refine lexH_phase [0, 1] [2, 3, 4] ?_
      have hw109 : EnvX w _ ((g7, Obj.cells (sd.toArray) 60 (0, 0)) :: (N ++ ((b, Obj.cells (#[ii f, ii (f + m)]) 58 (0, 0)) :: []))) := EX107.out
      have hone := @EnvC.one _ _ _ hw109
      (refine wpG_op rfl rfl rfl ?_; intro K hK; go_big_quiet_op; go_big_quiet_on)
      (refine wpG_val (v := .agg sd.toArray) rfl rfl (fun u hu => load_any_op u (box_agg aggMSides (k := 0) hu (List.Mem.head _) sd HSD.out.1 HSD.out.2.2.2.2.2.1) rfl) ?_ hw109; intro K hK; go_big_quiet_op; go_big_quiet_on)
      clear hone hw109
      refine wpG_nil ?_
      refine (hOp_fresh (R := BuiltR 60 sd) (M0 := ((g7, Obj.cells (sd.toArray) 60 (0, 0)) :: (N ++ ((b, Obj.cells (#[ii f, ii (f + m)]) 58 (0, 0)) :: [])))) rfl rfl (fun _ h => h) (fun u hu => FAt_buildR elSd HSD.out.1 HSD.out.2.1 rfl u) ?_)
      rintro _ _ ⟨gq, rfl, rfl⟩ hf he110; intro K' hK'; go_big_quiet_op; go_big_quiet_on
      clear hf
      change lexH _ _ _ _ _ _ ((gq, Obj.cells sd.toArray 60 (0, 0)) :: ((g7, Obj.cells (sd.toArray) 60 (0, 0)) :: (N ++ ((b, Obj.cells (#[ii f, ii (f + m)]) 58 (0, 0)) :: []))))
      refine (hOp_own (gd := none) (R := GrownR w 60 4 (L.length + 1) ((L.map sdV).flatten ++ sd) [(g7, Obj.cells (sd.toArray) 60 (0, 0)), (b, Obj.cells (#[ii f, ii (f + m)]) 58 (0, 0))]) rfl rfl rfl rfl (fun u hu => appX_op elSd (m := 1) [(g7, Obj.cells (sd.toArray) 60 (0, 0)), (b, Obj.cells (#[ii f, ii (f + m)]) 58 (0, 0))] hu HFL.out (by rw [Nat.one_mul]; exact HSD.out.1) HSD.out.2.1 HF.out (fun y hy => ⟨List.mem_cons_of_mem _ (List.mem_cons_of_mem _ (List.mem_append_left _ hy)), (HN.out y hy).1⟩) (src_box (k := 0) hu (List.Mem.head _) (by rw [List.drop_zero, List.take_length])) (List.forall_mem_cons.2 ⟨⟨(List.Mem.tail _ (List.Mem.head _)), fun y hy e => HG7.out.2 y (List.mem_append_left _ hy) e.symm⟩, List.forall_mem_cons.2 ⟨⟨(List.Mem.tail _ (List.Mem.tail _ (List.mem_append_right _ (List.Mem.head _)))), fun y hy => (HN.out y hy).2 _ (List.Mem.head _)⟩, fun _ h => by cases h⟩⟩) (by have := HNL.out; omega) rfl rfl) ?_)
      rintro x9 M' ⟨N9, rfl, hF9, hn9⟩ he111; intro K' hK'; go_big_quiet_op; go_big_quiet_on
      have HF9 := Lib.hid (And.intro hF9 hn9)
      clear hF9 hn9
      change lexH _ _ _ _ _ _ (N9 ++ ((g7, Obj.cells (sd.toArray) 60 (0, 0)) :: ((b, Obj.cells (#[ii f, ii (f + m)]) 58 (0, 0)) :: [])))
      refine lexH_phase [4] [] ?_
      have hw112 : EnvX w _ (N9 ++ ((g7, Obj.cells (sd.toArray) 60 (0, 0)) :: ((b, Obj.cells (#[ii f, ii (f + m)]) 58 (0, 0)) :: []))) := he111.choose_spec
      have hone := @EnvC.one _ _ _ hw112
      (refine wpG_op rfl rfl rfl ?_; intro K hK; go_big_quiet_op; go_big_quiet_on)
      clear hone hw112
      refine wpG_nil ?_
      intro u114 E2'
      have EX113 := Lib.hid E2'
      clear E2'
      go_upto_region 6 with (fail)
      refine wp_region_Hx (w0 := w) [0, 1, 2] (N9 ++ ((g7, Obj.cells (sd.toArray) 60 (0, 0)) :: ((b, Obj.cells (#[ii f, ii (f + m)]) 58 (0, 0)) :: []))) rfl EX113.out ?_
      refine lexH_phase [0, 1] [2] ?_
      have hw115 : EnvX w _ (N9 ++ ((g7, Obj.cells (sd.toArray) 60 (0, 0)) :: ((b, Obj.cells (#[ii f, ii (f + m)]) 58 (0, 0)) :: []))) := EX113.out
      have hone := @EnvC.one _ _ _ hw115
      (refine wpG_op rfl rfl rfl ?_; intro K hK; go_big_quiet_op; go_big_quiet_on)
      (refine wpG_val (v := .agg #[ii nf, ii (nf + nm)]) rfl rfl (fun u hu => load_any_op u (box_agg aggMSpan (k := 0) hu (List.mem_append_right _ (List.Mem.head _)) [ii nf, ii (nf + nm)] rfl HSD.out.2.2.2.2.2.2) rfl) ?_ hw115; intro K hK; go_big_quiet_op; go_big_quiet_on)
      clear hone hw115
      refine wpG_nil ?_
      refine (hOp_store rfl (b) (#[ii nf, ii (nf + nm)]) rfl rfl HB.out 58 ((#[ii f, ii (f + m)])) (List.mem_append_right _ (List.Mem.tail _ (List.Mem.head _))) info_mspan rfl (by kernel_rfl) ((b, Obj.cells (#[ii nf, ii (nf + nm)]) 58 (0, 0)) :: (N9 ++ [])) (List.forall_mem_cons.2 ⟨.inl rfl, fun y hy => .inr ((List.mem_append.1 hy).elim (fun h => ⟨List.mem_append_left _ h, fun e => (HF9.out.2 y h).2 _ (List.Mem.tail _ (List.Mem.head _)) e.symm⟩) (fun h => by cases h))⟩) ?_)
      intro he116
      intro u118 E2'
      have EX117 := Lib.hid E2'
      clear E2'
      go_upto_region 7 with (fail)
      refine wp_region_Hx (w0 := w) [0] ((b, Obj.cells (#[ii nf, ii (nf + nm)]) 58 (0, 0)) :: (N9 ++ [])) rfl EX117.out ?_
      refine lexH_phase [0] [] ?_
      have hw119 : EnvX w _ ((b, Obj.cells (#[ii nf, ii (nf + nm)]) 58 (0, 0)) :: (N9 ++ [])) := EX117.out
      have hone := @EnvC.one _ _ _ hw119
      (refine wpG_val (v := .agg #[ii nf, ii (nf + nm)]) rfl rfl (fun u hu => load_any_op u (box_agg aggMSpan (k := 0) hu (List.Mem.head _) [ii nf, ii (nf + nm)] rfl rfl) rfl) ?_ hw119; intro K hK; go_big_quiet_op; go_big_quiet_on)
      clear hone hw119
      refine wpG_nil ?_
      intro u121 E2'
      have EX120 := Lib.hid E2'
      clear E2'
      go_upto_region 8 with (fail)
      refine wp_region_Hx (w0 := w) [0, 1] ((b, Obj.cells (#[ii nf, ii (nf + nm)]) 58 (0, 0)) :: (N9 ++ [])) rfl EX120.out ?_
      refine (hOp_fresh (R := fun x N => ∃ g, x = .pointer (some ⟨g, 0, none⟩) ∧ N = [(g, Obj.cells (#[ii 0, ii 0]) 58 (0, 0))]) (M0 := ((b, Obj.cells (#[ii nf, ii (nf + nm)]) 58 (0, 0)) :: (N9 ++ []))) rfl rfl (fun _ h => h) (fun u hu => FAt_new (new_mspan _) u) ?_)
      rintro _ _ ⟨b2, rfl, rfl⟩ hf he122; intro K' hK'; go_big_quiet_op; go_big_quiet_on
      have HB2 := Lib.hid (hf _ (List.mem_singleton.2 rfl))
      clear hf
      change lexH _ _ _ _ _ _ ((b2, Obj.cells (#[ii 0, ii 0]) 58 (0, 0)) :: ((b, Obj.cells (#[ii nf, ii (nf + nm)]) 58 (0, 0)) :: (N9 ++ [])))
      refine (hOp_store rfl (b2) (#[ii nf, ii (nf + nm)]) rfl rfl HB2.out.1 58 ((#[ii 0, ii 0])) (List.Mem.head _) info_mspan rfl (by kernel_rfl) ((b2, Obj.cells (#[ii nf, ii (nf + nm)]) 58 (0, 0)) :: ((b, Obj.cells (#[ii nf, ii (nf + nm)]) 58 (0, 0)) :: (N9 ++ []))) (List.forall_mem_cons.2 ⟨.inl rfl, fun y hy => .inr ⟨List.mem_cons_of_mem _ hy, HB2.out.2 y hy⟩⟩) ?_)
      intro he123
      intro u125 E2'
      have EX124 := Lib.hid E2'
      clear E2'
      have HINV : Hid (CInv n i w x9 b2 nf nm (L ++ [x]) N9 u125) := by
        refine ⟨HNX.out, ?_, fun y hy => ⟨(HF9.out.2 y hy).1, fun z hz => ?_⟩, HB2.out.1, ?_⟩
        · have h := HF9.out.1
          rw [List.length_append, List.map_append, List.flatten_append, List.map_singleton, List.flatten_singleton, HXV.out]
          exact h
        · cases List.mem_singleton.1 hz
          exact fun e => HB2.out.2 y (List.mem_cons_of_mem _ (List.mem_append_left _ hy)) e.symm
        · refine EnvX.sub EX124.out (fun z hz => ?_)
          rcases List.mem_append.1 hz with h | h
          · exact List.mem_cons_of_mem _ (List.mem_cons_of_mem _ (List.mem_append_left _ h))
          · cases List.mem_singleton.1 h
            exact List.Mem.head _
      have HV9 : Hid (lenV x9 = L.length + 1) := lenV_fresh HF9.out.1
      go_wp2
      go_roundw
      case rel => exact ⟨nf, nm, b2, L ++ [x], N9, rfl, HINV⟩
      case measure =>
        rw [HV9.out, HVL.out]
        have := HLN.out
        omega
    · have hme : m = 1 := by omega
      have HFO : Hid (forksT 0 n i = L.reverse) := by show _ = _; rw [hfo, hme, forks_one, List.nil_append]
      have HGT : Hid (decide ((1 : Int) < (m : Int)) = false) := decide_eq_false (by omega)
      have HNL : Hid (L.length ≤ 1000) := by show _ ≤ _; omega
      clear hF hN hb hE hm1 hfn hfi hif hfo hLm h2 hn hme
      go_upto_region 3 with (fail)
      refine wp_region_Hx (w0 := w) [0, 1, 2] (N ++ ((b, Obj.cells (#[ii f, ii (f + m)]) 58 (0, 0)) :: [])) rfl EK.out ?_
      refine lexH_phase [0, 1, 2] [] ?_
      have hw101 : EnvX w _ (N ++ ((b, Obj.cells (#[ii f, ii (f + m)]) 58 (0, 0)) :: [])) := EK.out
      have hone := @EnvC.one _ _ _ hw101
      (refine wpG_val (v := .agg #[ii f, ii (f + m)]) rfl rfl (fun u hu => load_any_op u (box_agg aggMSpan (k := 0) hu (List.mem_append_right _ (List.Mem.head _)) [ii f, ii (f + m)] rfl rfl) rfl) ?_ hw101; intro K hK; go_big_quiet_op; go_big_quiet_on)
      (refine wpG_call (f := 53) (args := #[.agg #[ii f, ii (f + m)]]) (v := .int .i64 (m : Int)) rfl rfl rfl Tryd.func53 rfl rfl (fun u hu => HSZ.out u) ?_ hw101; intro K hK; go_big_quiet_op; go_big_quiet_on)
      (refine wpG_val (v := .bool false) rfl rfl (fun u hu => gtrI_op u HGT.out rfl rfl) ?_ hw101; intro K hK; go_big_quiet_op; go_big_quiet_on)
      clear hone hw101
      refine wpG_nil ?_
      intro u103 E2'
      have EX102 := Lib.hid E2'
      clear E2'
      obtain ⟨g, cap, cur, rfl, rfl, hcur⟩ | ⟨rfl, rfl, h0, _⟩ := HF.out
      · have HREV : Hid (∀ u, EnvX w u [(g, Obj.cells cur 60 (0, 0))] → Calls Tryd.prog 55 #[.slice (some ⟨g, 0, none⟩) L.length cap] u fun e w'' => ∃ x M', e = .returned x ∧ EnvX w w'' M' ∧ x = .tuple #[] ∧ ∃ cur', M' = [(g, Obj.cells cur' 60 (0, 0))] ∧ SdBox L.length cap (L.map sdV).reverse cur') := fun u hu => by
          have h := mrev_any w [] (L.map sdV) g L.length cap cur u (sdV_rows L) (fun y hy => by
            obtain ⟨z, _, rfl⟩ := List.mem_map.1 hy
            exact sdV_one z) (List.length_map _) (by have := HNL.out; omega) hcur hu (HN.out _ (List.mem_singleton.2 rfl)).1 (fun z hz => by cases hz)
          exact h
        have HE9 : Hid (EnvX w u103 [(g, Obj.cells cur 60 (0, 0))]) := EnvX.sub EX102.out (fun z hz => by cases List.mem_singleton.1 hz; exact List.Mem.head _)
        have HGB := Lib.hid (HN.out _ (List.mem_singleton.2 rfl)).1
        clear hcur EX102 HN EK
        go_wp2_with fail
        refine (HREV.out _ HE9.out).mono ?_
        rintro e w2 ⟨x2, M2, rfl, hE2, rfl, cur2, rfl, hC2⟩
        have HE2 := Lib.hid hE2
        have HC2 := Lib.hid hC2
        clear hE2 hC2
        go_wp2
        go_ret
        refine ⟨⟨_, rfl, ?_⟩, EnvX.bel HE2.out⟩
        rw [HFO.out, List.length_reverse, List.map_reverse]
        refine ⟨?_, .inr ⟨g, cap, cur2, rfl, HGB.out, EnvX.box HE2.out _ _ (List.Mem.head _), HC2.out⟩⟩
        rw [← List.map_reverse, (sdV_rows _).flat_len, List.length_map, List.length_reverse]
      · obtain rfl := List.eq_nil_of_length_eq_zero h0
        have HREV : Hid (∀ u, Calls Tryd.prog 55 #[.slice none 0 0] u fun e w' => e = .returned (.tuple #[]) ∧ Below u.heap.size u w') := fun u => mrev_nil u
        go_wp2_with fail
        refine (HREV.out _).mono ?_
        rintro e w2 ⟨rfl, hb2⟩
        have HB2 := Lib.hid hb2
        clear hb2
        go_wp2
        go_ret
        refine ⟨⟨_, rfl, ?_⟩, (EnvX.bel EX102.out).trans (HB2.out.mono (EnvX.bel EX102.out).size)⟩
        rw [HFO.out]
        exact World.ownsRow_nil _ _ _ _
end Go.Proofs.YtbmiecogjmbciaaDoor

namespace Go.Proofs.YtbmiecogjmbciaaDoor
set_option maxRecDepth 8000
open Go.RowKit

section
variable {a : Act} {dst : Option Tmp} {x : Operand} {ty : TypeId} {pos : String} {after : Array Edge} {gd : Option (Nat × Bool)}
theorem fieldSp_op {k off : Nat} (hk : ([(0, 0), (1, 1)] : List (Nat × Nat)).lookup k = some off) {g o : Nat} (u : World) (hx : a.eval x = .pointer (some ⟨g, o, none⟩)) :
    (execOp a.eval ⟨dst, .fieldAddr 58 x k, ty, pos, after, gd⟩).run Tryd.prog u = .ok (.value (.pointer (some ⟨g, o + off, none⟩))) u := by
  unfold execOp
  simp only [hx]
  rcases k with _ | _ | k
  · cases hk; go_simp
  · cases hk; go_simp
  · cases hk
theorem fieldSd_op {k off : Nat} (hk : ([(0, 0), (1, 2)] : List (Nat × Nat)).lookup k = some off) {g o : Nat} (u : World) (hx : a.eval x = .pointer (some ⟨g, o, none⟩)) :
    (execOp a.eval ⟨dst, .fieldAddr 60 x k, ty, pos, after, gd⟩).run Tryd.prog u = .ok (.value (.pointer (some ⟨g, o + off, none⟩))) u := by
  unfold execOp
  simp only [hx]
  rcases k with _ | _ | k
  · cases hk; go_simp
  · cases hk; go_simp
  · cases hk
theorem fieldSt_op {k off : Nat} (hk : ([(0, 0), (1, 4)] : List (Nat × Nat)).lookup k = some off) {g o : Nat} (u : World) (hx : a.eval x = .pointer (some ⟨g, o, none⟩)) :
    (execOp a.eval ⟨dst, .fieldAddr 63 x k, ty, pos, after, gd⟩).run Tryd.prog u = .ok (.value (.pointer (some ⟨g, o + off, none⟩))) u := by
  unfold execOp
  simp only [hx]
  rcases k with _ | _ | k
  · cases hk; go_simp
  · cases hk; go_simp
  · cases hk
theorem fieldTo_op {k off : Nat} (hk : ([(0, 0), (1, 32), (2, 36)] : List (Nat × Nat)).lookup k = some off) {g o : Nat} (u : World) (hx : a.eval x = .pointer (some ⟨g, o, none⟩)) :
    (execOp a.eval ⟨dst, .fieldAddr 29 x k, ty, pos, after, gd⟩).run Tryd.prog u = .ok (.value (.pointer (some ⟨g, o + off, none⟩))) u := by
  unfold execOp
  simp only [hx]
  rcases k with _ | _ | _ | k
  · cases hk; go_simp
  · cases hk; go_simp
  · cases hk; go_simp
  · cases hk
end
end Go.Proofs.YtbmiecogjmbciaaDoor
