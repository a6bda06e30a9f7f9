/- Part of a proof. -/
import Derived.Test.YtbjojpgedcikiaaDoorCi
namespace Go.Proofs.YtbjojpgedcikiaaDoor
set_option maxRecDepth 8000
open Go.RowKit

theorem FreshR.slice {e : TypeId} {z n : Nat} {xs : List Value} {v : Value} {N : Boxes} (h : FreshR e z n xs v N) : ∃ A c, v = .slice A n c := by
  rcases h with ⟨g, cap, cur, rfl, _⟩ | ⟨rfl, _, rfl, _⟩ <;> exact ⟨_, _, rfl⟩
theorem run_cutI_lh (A : Option Addr) (n c l h : Nat) (w : World) (h1 : l ≤ h) (h2 : h ≤ c) :
    (Instr.sliceAt 22 (.slice A n c) (some (.int .i64 (l : Int))) (some (.int .i64 (h : Int))) none).run Tryd.prog w = .ok (.slice (cutI' A l c) (h - l) (c - l)) w := by
  have ht' : Tryd.prog.underlying 22 = some (.slice (Tryd.prog.elem 22)) := by rw [elemI]; exact Tryd.underlying22
  rw [run_sliceAt_slice w _ _ _ _ _ ht', run_slice_lh w 22 _ _ _ ht' .i64 .i64 _ _ (by omega) (by omega) (by omega), elemI, sizeI]
  simp [Result.andThen, sliced, cutI']
section
variable {a : Act} {dst : Option Tmp} {x l h : Operand} {ty : TypeId} {pos : String} {after : Array Edge} {gd : Option (Nat × Bool)}
theorem cutIlh_op {A : Option Addr} {n c i j len : Nat} (u : World) (h1 : i ≤ j) (h2 : j ≤ c) (hlen : j - i = len) (hx : a.eval x = .slice A n c) (hl : a.eval l = .int .i64 (i : Int)) (hh : a.eval h = .int .i64 (j : Int)) :
    (execOp a.eval ⟨dst, .slice 22 x (some l) (some h) none, ty, pos, after, gd⟩).run Tryd.prog u = .ok (.value (.slice (cutI' A i c) len (c - i))) u := by
  subst hlen
  unfold execOp
  simp only [hx, hl, hh, Option.map_some, Option.map_none, Sem.run_bind, Sem.run_pure, Result.andThen_ok, run_cutI_lh A n c i j u h1 h2]
end
/-- an append of one id where nothing else is kept -/
def AloneI (w0 : World) (l : List (List Int)) (v : Value) (M' : Boxes) : Prop := FreshI l v M' ∧ freshN w0 M' []
theorem appI_alone {w0 u : World} {M N : Boxes} {l : List (List Int)} {v : Value} {x : List Int} {g : Nat} {t : TypeId} {a : Act} {dst : Option Tmp} {y z : Operand} {pos : String} {after : Array Edge} {gd : Option (Nat × Bool)}
    (hu : EnvX w0 u M) (hl : isIds l) (hx : x.length = 32) (hF : FreshI l v N) (hN : ∀ y ∈ N, y ∈ M ∧ w0.heap.size ≤ y.1) (hg : (g, Obj.cells (arrB 32 x) t (0, 0)) ∈ M) (hs : l.length ≤ 1000000)
    (hy : a.eval y = v) (hz : a.eval z = .slice (some ⟨g, 0, none⟩) 1 1) :
    ∃ v' u' M', (execOp a.eval ⟨dst, .call { callee := .builtin .append, args := #[y, z], argTypes := #[22, 22] }, 22, pos, after, gd⟩).run Tryd.prog u = .ok (.value v') u' ∧ EnvX w0 u' M' ∧ AloneI w0 (l ++ [x]) v' M' := by
  obtain ⟨v', u', M', h1, h2, N2, h3, h4, h5⟩ := appI_op (dst := dst) (pos := pos) (after := after) (gd := gd) [] hu hl hx hF hN hg (fun z hz => by cases hz) hs hy hz
  rw [List.append_nil] at h3
  subst h3
  exact ⟨v', u', M', h1, h2, h4, h5⟩
def onN (x : Nat × Nat × Bool) : Nat := if x.2.2 then 1 else 0
def offN (x : Nat × Nat × Bool) : Nat := if x.2.2 then 0 else 1
theorem off_two (x : Nat × Nat × Bool) : offN x < 2 := by unfold offN; split <;> omega
theorem off_sub (x : Nat × Nat × Bool) : (1 : Int) - (onN x : Int) = (offN x : Int) ∧ InI (offN x : Int) := by
  unfold InI onN offN
  split <;> simp
theorem path_id {l : List (List Int)} (h : isIds l) (F : List (Nat × Nat × Bool)) : isIds (F.map (otherR l)) := by
  intro y hy
  obtain ⟨x, _, rfl⟩ := List.mem_map.1 hy
  exact root_id ((h.drop _).take _)
set_option maxRecDepth 20000 in
set_option maxHeartbeats 4000000 in
theorem pathBy_some (l : List (List Int)) (i : Nat) (A : Option Addr) (n c : Nat) (w : World) (hl : l.length = n) (hn : n ≤ 64) (hi : i < n) (hnc : n ≤ c) (hI : isIds l) (hA : IdsIn w w.heap.size A l) (ht : Tables w) :
    Calls Tryd.prog 42 #[ndV, .slice A n c, .int .i64 (i : Int)] w fun e w' => (∃ v, e = .returned (.tuple #[v, .bool true]) ∧ OwnI w' w.heap.size v (pathT l i)) ∧ Below w.heap.size w w' := by
  have hpt : pathT l i = (forksT 0 n i).map (otherR l) := by
    have h := fork_path l n 0 i hi (by omega)
    rw [List.drop_zero, List.take_of_length_le (by omega), Nat.zero_add] at h
    exact h
  rw [hpt]
  clear hpt
  have HN : Hid (n < 9223372036854775808) := by show _ < _; omega
  have hst : standT (n : Int) (i : Int) = true := by unfold standT; simp only [decide_eq_true_eq]; omega
  have HST : Hid (∀ u, Calls Tryd.prog 59 #[ii n, ii i] u fun e w' => e = .returned (.bool true) ∧ Below u.heap.size u w') := fun u => by
    rw [← hst]
    exact stand_any (n : Int) (i : Int) u (by omega) (by omega) (by omega) (by omega)
  have HFK := Lib.hid (fun u => forks_any n i u (by omega) (by omega) (by omega))
  have HFL : Hid ((forksT 0 n i).length ≤ 64) := Nat.le_trans (forks_len n 0 i) hn
  have HFLN : Hid ((forksT 0 n i).length < 9223372036854775808) := by have := HFL.out; show _ < _; omega
  have HIN := Lib.hid (fork_in n 0 i)
  have HROOT : Hid (∀ x ∈ forksT 0 n i, ∀ u, EnvX w u [] → Calls Tryd.prog 47 #[ndV, .slice (cutI' A (sideF x.1 x.2.1 (offN x)) c) (sideN x.2.1 (offN x)) (c - sideF x.1 x.2.1 (offN x))] u fun e w' => e = .returned (idv (otherR l x)) ∧ Below u.heap.size u w') := fun x hx u hu => by
    obtain ⟨q1, q2⟩ := fork_in n 0 i x hx
    obtain ⟨s1, s2, s3⟩ := side_in (f := x.1) (n := x.2.1) (m := n) q1 (off_two x) (by omega)
    exact rootBy_any ((l.drop (sideF x.1 x.2.1 (offN x))).take (sideN x.2.1 (offN x))) _ _ _ u (by rw [List.length_take, List.length_drop]; omega) (by omega) ((hI.drop _).take _) (IdsIn.take (IdsIn.drop (hA.up (EnvX.bel hu)) hI _ c (by omega)) (hI.drop _) _) (ht.below (EnvX.bel hu))
  have HSD : Hid (∀ x ∈ forksT 0 n i, sideF x.1 x.2.1 (offN x) ≤ sideF x.1 x.2.1 (offN x) + sideN x.2.1 (offN x) ∧ sideF x.1 x.2.1 (offN x) + sideN x.2.1 (offN x) ≤ c ∧ sideF x.1 x.2.1 (offN x) + sideN x.2.1 (offN x) - sideF x.1 x.2.1 (offN x) = sideN x.2.1 (offN x)) := fun x hx => by
    obtain ⟨q1, q2⟩ := fork_in n 0 i x hx
    obtain ⟨s1, s2, s3⟩ := side_in (f := x.1) (n := x.2.1) (m := n) q1 (off_two x) (by omega)
    omega
  have HPI := Lib.hid (fun F => path_id hI F)
  have E1 : Hid (EnvX w w []) := EnvX.start w
  generalize forksT 0 n i = F at *
  clear hI hA ht hst
  obtain ⟨K, hK⟩ : ∃ K, F.length = K := ⟨_, rfl⟩
  rw [hK] at HFL HFLN
  have hk64 : K ≤ 64 := HFL.out
  go_enter Tryd.func42, Tryd.ntmps42
  go_upto_region 1 with (fail)
  refine wp_region_Hx (w0 := w) [0, 1, 2, 3, 4] [] rfl E1.out ?_
  refine lexH_phase [0, 1, 2, 3, 4] [] ?_
  have hw1 : EnvX w _ [] := E1.out
  have hone := @EnvC.one _ _ _ hw1
  (refine wpG_op rfl rfl rfl ?_; intro K hK; go_big_quiet_op; go_big_quiet_on)
  (refine wpG_val (v := ii n) rfl rfl (fun u hu => len_op Tryd.underlying22 HN.out u rfl) ?_ hw1; intro K hK; go_big_quiet_op; go_big_quiet_on)
  (refine wpG_op rfl rfl rfl ?_; intro K hK; go_big_quiet_op; go_big_quiet_on)
  (refine wpG_call (f := 59) (args := #[ii n, ii i]) (v := .bool true) rfl rfl rfl Tryd.func59 rfl rfl (fun u hu => HST.out u) ?_ hw1; intro K hK; go_big_quiet_op; go_big_quiet_on)
  (refine wpG_op rfl rfl rfl ?_; intro K hK; go_big_quiet_op; go_big_quiet_on)
  clear hone hw1
  refine wpG_nil ?_
  intro u3 E2'
  have EX2 := Lib.hid E2'
  clear E2'
  go_upto_region 4 with (fail)
  refine wp_region_Hx (w0 := w) [0, 1, 2, 3, 4, 5] [] rfl EX2.out ?_
  refine lexH_phase [0, 1, 2] [3, 4, 5] ?_
  have hw4 : EnvX w _ [] := EX2.out
  have hone := @EnvC.one _ _ _ hw4
  (refine wpG_op rfl rfl rfl ?_; intro K hK; go_big_quiet_op; go_big_quiet_on)
  (refine wpG_val (v := ii n) rfl rfl (fun u hu => len_op Tryd.underlying22 HN.out u rfl) ?_ hw4; intro K hK; go_big_quiet_op; go_big_quiet_on)
  (refine wpG_op rfl rfl rfl ?_; intro K hK; go_big_quiet_op; go_big_quiet_on)
  clear hone hw4
  refine wpG_nil ?_
  refine (hOp_fresh (R := FreshR 85 5 K (F.map fkV).flatten) (M0 := []) rfl rfl (fun _ h => h) (fun u hu => FAt_call (fid := 53) (xs := #[.tmp 18, .tmp 19]) (args := #[ii n, ii i]) rfl Tryd.func53 rfl rfl u (by have h := callsR_fresh (HFK.out u); rw [hK] at h; exact h)) ?_)
  rintro x NU hF hf he5; intro K' hK'; go_big_quiet_op; go_big_quiet_on
  obtain ⟨Au, cu, rfl⟩ := FreshR.slice hF
  have HFU := Lib.hid hF
  clear hF
  clear hf
  change lexH _ _ _ _ _ _ (NU ++ [])
  refine lexH_phase [4, 5] [] ?_
  have hw6 : EnvX w _ (NU ++ []) := he5.choose_spec
  have hone := @EnvC.one _ _ _ hw6
  (refine wpG_val (v := .int .i64 (K : Int)) rfl rfl (fun u hu => len_op Tryd.underlying66 HFLN.out u rfl) ?_ hw6; intro K hK; go_big_quiet_op; go_big_quiet_on)
  (refine wpG_op rfl rfl rfl ?_; intro K hK; go_big_quiet_op; go_big_quiet_on)
  clear hone hw6
  refine wpG_nil ?_
  intro u8 E2'
  have EX7 := Lib.hid E2'
  clear E2'
  have HB := Lib.hid EX7.out.bel
  have CU := Lib.hid (own_cells (HFU.out.own (B := 0) (fk_rows F |>.flat_len |>.trans (by rw [List.length_map, hK])) (fun y hy => ⟨Nat.zero_le _, EnvX.box EX7.out _ _ (List.mem_append_left _ hy)⟩)))
  have HKL := Lib.hid hK
  clear EX7 HFU hK
  generalize u8 = w1 at *
  have HINV : Hid (∃ N, FreshI ((F.take 0).map (otherR l)) (.slice none 0 0) N ∧ freshN w1 N [] ∧ EnvX w1 w1 N) := ⟨[], .inr ⟨rfl, rfl, rfl⟩, (fun _ h => by cases h), EnvX.start w1⟩
  go_upto_region 5 with (fail)
  go_loopw [8, 22] (fun v i u => ∃ k : Nat, k ≤ K ∧ i = .int .i64 k ∧ Hid (∃ N, FreshI ((F.take k).map (otherR l)) v N ∧ freshN w1 N [] ∧ EnvX w1 u N)) (fun _ i _ => K - (intOf i).toNat)
  case atStart => exact ⟨0, by omega, rfl, HINV⟩
  case round =>
    obtain ⟨k, hk, rfl, hinv⟩ := hrel
    obtain ⟨N, hF, hN, hE⟩ := hinv.out
    clear hinv HINV
    by_cases hlt : k < K
    · have hk2 : (k : Int) < (K : Int) := by omega
      have EK := Lib.hid hE
      have HF := Lib.hid hF
      have HN2 := Lib.hid hN
      have hkF : k < F.length := by rw [HKL.out]; exact hlt
      have HK := Lib.hid hlt
      have hmem := getD_mem F (0, 0, false) hkF
      have HTS := Lib.hid (take_snoc F (otherR l) (0, 0, false) hkF)
      have hck : ((F.map fkV).getD k []) = fkV (F.getD k (0, 0, false)) := map_getD F fkV _ _ hkF
      obtain ⟨ad, rfl, -⟩ := CellsIn.load aggFork CU.out (fk_rows F) (by decide) (i := k) (by rw [List.length_map]; exact hkF)
      have HLD : Hid (∀ u, EnvX w1 u [] → (loadVar 85 (ad.add (k * 5))).run Tryd.prog u = .ok (.agg (fkV (F.getD k (0, 0, false))).toArray) u) := fun u hu => by
        obtain ⟨ad2, e2, h2⟩ := CellsIn.load aggFork (CU.out.up (EnvX.bel hu)) (fk_rows F) (by decide) (i := k) (by rw [List.length_map]; exact hkF)
        cases e2
        rw [hck] at h2
        exact h2
      have HRK : Hid (∀ u, EnvX w1 u [] → Calls Tryd.prog 47 #[ndV, .slice (cutI' A (sideF (F.getD k (0, 0, false)).1 (F.getD k (0, 0, false)).2.1 (offN (F.getD k (0, 0, false)))) c) (sideN (F.getD k (0, 0, false)).2.1 (offN (F.getD k (0, 0, false)))) (c - sideF (F.getD k (0, 0, false)).1 (F.getD k (0, 0, false)).2.1 (offN (F.getD k (0, 0, false))))] u fun e w' => e = .returned (idv (otherR l (F.getD k (0, 0, false)))) ∧ Below u.heap.size u w') := fun u hu =>
        HROOT.out _ hmem u ⟨HB.out.trans ((EnvX.bel hu).mono HB.out.size), fun _ _ h => by cases h⟩
      have HSK := Lib.hid (HSD.out _ hmem)
      have HQ := Lib.hid (HIN.out _ hmem).1
      have HPK := Lib.hid (HPI.out (F.take k))
      have HPX : Hid ((otherR l (F.getD k (0, 0, false))).length = 32) := (HPI.out [F.getD k (0, 0, false)] _ (List.mem_singleton.2 rfl)).1
      have HTL : Hid (((F.take k).map (otherR l)).length ≤ 1000000) := by show _ ≤ _; rw [List.length_map, List.length_take]; have := HFL.out; omega
      clear hE hF hN hck hmem HROOT HSD HIN HPI
      generalize F.getD k (0, 0, false) = x at *
      have HOFF := Lib.hid (off_sub x)
      have HO2 := Lib.hid (off_two x)
      have HSP : Hid (((fkV x).toArray.toList.drop (0 + offN x * 2)).take 2 = spanC (sideF x.1 x.2.1 (offN x)) (sideN x.2.1 (offN x))) := fk_side (f := x.1) (b := x.2.2) HQ.out (off_two x)
      go_upto_region 6 with (fail)
      refine wp_region_Hx (w0 := w1) [0, 1, 2, 3] N rfl EK.out ?_
      refine lexH_phase [0, 1] [2, 3] ?_
      have hw9 : EnvX w1 _ N := EK.out
      have hone := @EnvC.one _ _ _ hw9
      (refine wpG_val (v := .pointer (some (ad.add (k * 5)))) rfl rfl (fun u hu => idxSl_op Tryd.underlying66 aggFork.size HK.out u rfl rfl) ?_ hw9; intro K hK; go_big_quiet_op; go_big_quiet_on)
      (refine wpG_val (v := .agg (fkV x).toArray) rfl rfl (fun u hu => load_any_op u (HLD.out u (EnvX.sub hu (fun _ h => by cases h))) rfl) ?_ hw9; intro K hK; go_big_quiet_op; go_big_quiet_on)
      clear hone hw9
      refine wpG_nil ?_
      refine (hOp_fresh (R := fun x N => ∃ g, x = .pointer (some ⟨g, 0, none⟩) ∧ N = [(g, Obj.cells #[ii 0, ii 0, ii 0, ii 0, ii 0] 85 (0, 0))]) (M0 := N) rfl rfl (fun _ h => h) (fun u hu => FAt_new (new_fork _) u) ?_)
      rintro _ _ ⟨g10, rfl, rfl⟩ hf he10; intro K' hK'; go_big_quiet_op; go_big_quiet_on
      have HG10 := Lib.hid (hf _ (List.mem_singleton.2 rfl))
      clear hf
      change lexH _ _ _ _ _ _ ((g10, Obj.cells #[ii 0, ii 0, ii 0, ii 0, ii 0] 85 (0, 0)) :: N)
      refine (hOp_putAt rfl (g10) (0) (.agg (fkV x).toArray) rfl rfl HG10.out.1 85 (#[ii 0, ii 0, ii 0, ii 0, ii 0]) ((fkV x).toArray) (List.Mem.head _) info_fork (Nat.le_refl 5) (by kernel_rfl) rfl ((g10, Obj.cells ((fkV x).toArray) 85 (0, 0)) :: N) (List.forall_mem_cons.2 ⟨.inl rfl, fun y hy => .inr ⟨List.mem_cons_of_mem _ hy, HG10.out.2 y hy⟩⟩) ?_)
      intro he11
      intro u13 E2'
      have EX12 := Lib.hid E2'
      clear E2'
      go_upto_region 7 with (fail)
      refine wp_region_Hx (w0 := w1) [0, 1, 2, 3, 4, 5, 6, 7] ((g10, Obj.cells ((fkV x).toArray) 85 (0, 0)) :: N) rfl EX12.out ?_
      refine lexH_phase [0, 1, 2, 3, 4, 5] [6, 7] ?_
      have hw14 : EnvX w1 _ ((g10, Obj.cells ((fkV x).toArray) 85 (0, 0)) :: N) := EX12.out
      have hone := @EnvC.one _ _ _ hw14
      (refine wpG_op rfl rfl rfl ?_; intro K hK; go_big_quiet_op; go_big_quiet_on)
      (refine wpG_val (v := ii (onN x)) rfl rfl (fun u hu => load_any_op u (run_load_one oneInt u (box_cell (k := 4) hu (List.Mem.head _) rfl)) rfl) ?_ hw14; intro K hK; go_big_quiet_op; go_big_quiet_on)
      (refine wpG_val (v := ii (offN x)) rfl rfl (fun u hu => sub_op u HOFF.out.1 HOFF.out.2 rfl rfl) ?_ hw14; intro K hK; go_big_quiet_op; go_big_quiet_on)
      (refine wpG_op rfl rfl rfl ?_; intro K hK; go_big_quiet_op; go_big_quiet_on)
      (refine wpG_val (v := .pointer (some ⟨g10, 0 + offN x * 2, none⟩)) rfl rfl (fun u hu => idxArr_op Tryd.underlying83 aggSpan.size HO2.out u rfl rfl) ?_ hw14; intro K hK; go_big_quiet_op; go_big_quiet_on)
      (refine wpG_val (v := .agg (spanC (sideF x.1 x.2.1 (offN x)) (sideN x.2.1 (offN x))).toArray) rfl rfl (fun u hu => load_any_op u (box_agg aggSpan hu (List.Mem.head _) (spanC (sideF x.1 x.2.1 (offN x)) (sideN x.2.1 (offN x))) rfl HSP.out) rfl) ?_ hw14; intro K hK; go_big_quiet_op; go_big_quiet_on)
      clear hone hw14
      refine wpG_nil ?_
      refine (hOp_fresh (R := fun x N => ∃ g, x = .pointer (some ⟨g, 0, none⟩) ∧ N = [(g, Obj.cells #[ii 0, ii 0] 82 (0, 0))]) (M0 := ((g10, Obj.cells ((fkV x).toArray) 85 (0, 0)) :: N)) rfl rfl (fun _ h => h) (fun u hu => FAt_new (new_span _) u) ?_)
      rintro _ _ ⟨g11, rfl, rfl⟩ hf he15; intro K' hK'; go_big_quiet_op; go_big_quiet_on
      have HG11 := Lib.hid (hf _ (List.mem_singleton.2 rfl))
      clear hf
      change lexH _ _ _ _ _ _ ((g11, Obj.cells #[ii 0, ii 0] 82 (0, 0)) :: ((g10, Obj.cells ((fkV x).toArray) 85 (0, 0)) :: N))
      refine (hOp_putAt rfl (g11) (0) (.agg (spanC (sideF x.1 x.2.1 (offN x)) (sideN x.2.1 (offN x))).toArray) rfl rfl HG11.out.1 82 (#[ii 0, ii 0]) ((spanC (sideF x.1 x.2.1 (offN x)) (sideN x.2.1 (offN x))).toArray) (List.Mem.head _) info_span (Nat.le_refl 2) (by kernel_rfl) rfl ((g11, Obj.cells ((spanC (sideF x.1 x.2.1 (offN x)) (sideN x.2.1 (offN x))).toArray) 82 (0, 0)) :: ((g10, Obj.cells ((fkV x).toArray) 85 (0, 0)) :: N)) (List.forall_mem_cons.2 ⟨.inl rfl, fun y hy => .inr ⟨List.mem_cons_of_mem _ hy, HG11.out.2 y hy⟩⟩) ?_)
      intro he16
      intro u18 E2'
      have EX17 := Lib.hid E2'
      clear E2'
      go_upto_region 8 with (fail)
      refine wp_region_Hx (w0 := w1) [0, 1, 2, 3, 4, 5, 6, 7, 8, 9, 10, 11] ((g11, Obj.cells ((spanC (sideF x.1 x.2.1 (offN x)) (sideN x.2.1 (offN x))).toArray) 82 (0, 0)) :: ((g10, Obj.cells ((fkV x).toArray) 85 (0, 0)) :: N)) rfl EX17.out ?_
      refine lexH_phase [0, 1, 2, 3, 4, 5, 6, 7, 8] [9, 10, 11] ?_
      have hw19 : EnvX w1 _ ((g11, Obj.cells ((spanC (sideF x.1 x.2.1 (offN x)) (sideN x.2.1 (offN x))).toArray) 82 (0, 0)) :: ((g10, Obj.cells ((fkV x).toArray) 85 (0, 0)) :: N)) := EX17.out
      have hone := @EnvC.one _ _ _ hw19
      (refine wpG_op rfl rfl rfl ?_; intro K hK; go_big_quiet_op; go_big_quiet_on)
      (refine wpG_op rfl rfl rfl ?_; intro K hK; go_big_quiet_op; go_big_quiet_on)
      (refine wpG_op rfl rfl rfl ?_; intro K hK; go_big_quiet_op; go_big_quiet_on)
      (refine wpG_op rfl rfl rfl ?_; intro K hK; go_big_quiet_op; go_big_quiet_on)
      (refine wpG_val (v := ii (sideF x.1 x.2.1 (offN x))) rfl rfl (fun u hu => load_any_op u (run_load_one oneInt u (box_cell (k := 0) hu (List.Mem.head _) rfl)) rfl) ?_ hw19; intro K hK; go_big_quiet_op; go_big_quiet_on)
      (refine wpG_op rfl rfl rfl ?_; intro K hK; go_big_quiet_op; go_big_quiet_on)
      (refine wpG_val (v := ii (sideF x.1 x.2.1 (offN x) + sideN x.2.1 (offN x))) rfl rfl (fun u hu => load_any_op u (run_load_one oneInt u (box_cell (k := 1) hu (List.Mem.head _) rfl)) rfl) ?_ hw19; intro K hK; go_big_quiet_op; go_big_quiet_on)
      (refine wpG_val (v := (.slice (cutI' A (sideF x.1 x.2.1 (offN x)) c) (sideN x.2.1 (offN x)) (c - sideF x.1 x.2.1 (offN x)))) rfl rfl (fun u hu => cutIlh_op u HSK.out.1 HSK.out.2.1 HSK.out.2.2 rfl rfl rfl) ?_ hw19; intro K hK; go_big_quiet_op; go_big_quiet_on)
      (refine wpG_call (f := 47) (args := #[ndV, (.slice (cutI' A (sideF x.1 x.2.1 (offN x)) c) (sideN x.2.1 (offN x)) (c - sideF x.1 x.2.1 (offN x)))]) (v := idv (otherR l x)) rfl rfl rfl Tryd.func47 rfl rfl (fun u hu => HRK.out u (EnvX.sub hu (fun _ h => by cases h))) ?_ hw19; intro K hK; go_big_quiet_op; go_big_quiet_on)
      clear hone hw19
      refine wpG_nil ?_
      refine (hOp_fresh (R := BuiltI (otherR l x)) (M0 := ((g11, Obj.cells ((spanC (sideF x.1 x.2.1 (offN x)) (sideN x.2.1 (offN x))).toArray) 82 (0, 0)) :: ((g10, Obj.cells ((fkV x).toArray) 85 (0, 0)) :: N))) rfl rfl (fun _ h => h) (fun u hu => FAt_buildI HPX.out rfl u) ?_)
      rintro _ _ ⟨gi, rfl, rfl⟩ hf he20; intro K' hK'; go_big_quiet_op; go_big_quiet_on
      clear hf
      change lexH _ _ _ _ _ _ ((gi, Obj.cells (arrB 32 (otherR l x)) 24 (0, 0)) :: ((g11, Obj.cells ((spanC (sideF x.1 x.2.1 (offN x)) (sideN x.2.1 (offN x))).toArray) 82 (0, 0)) :: ((g10, Obj.cells ((fkV x).toArray) 85 (0, 0)) :: N)))
      refine (hOp_own (gd := none) (R := AloneI w1 ((F.take k).map (otherR l) ++ [otherR l x])) rfl rfl rfl rfl (fun u hu => appI_alone hu HPK.out HPX.out HF.out (fun y hy => ⟨List.mem_cons_of_mem _ (List.mem_cons_of_mem _ (List.mem_cons_of_mem _ hy)), (HN2.out y hy).1⟩) (List.Mem.head _) HTL.out rfl rfl) ?_)
      rintro xp M2 ⟨hF2, hf2⟩ he21; intro K' hK'; go_big_quiet_op; go_big_quiet_on
      have HF2 := Lib.hid (And.intro hF2 hf2)
      clear hF2 hf2
      change lexH _ _ _ _ _ _ M2
      refine lexH_phase [11] [] ?_
      have hw22 : EnvX w1 _ M2 := he21.choose_spec
      have hone := @EnvC.one _ _ _ hw22
      (refine wpG_op rfl rfl rfl ?_; intro K hK; go_big_quiet_op; go_big_quiet_on)
      clear hone hw22
      refine wpG_nil ?_
      intro u24 E2'
      have EX23 := Lib.hid E2'
      clear E2'
      go_wp2
      go_roundw
      case rel => exact ⟨k + 1, by omega, by go_num, M2, by rw [HTS.out]; exact HF2.out.1, HF2.out.2, EX23.out⟩
      case measure => simp [intOf]; omega
    · obtain rfl : k = K := by omega
      have hall : F.take k = F := List.take_of_length_le (by rw [HKL.out]; exact Nat.le_refl _)
      rw [hall] at hF
      have HO := Lib.hid (And.intro (hF.own (B := w1.heap.size) (HPI.out F) (fun y hy => ⟨(hN y hy).1, EnvX.box hE _ _ hy⟩)) (EnvX.bel hE))
      clear hF hN hE
      go_wp2
      go_returns
      exact ⟨⟨_, rfl, HO.out.1.less HB.out.size⟩, HB.out.trans (HO.out.2.mono HB.out.size)⟩
set_option maxRecDepth 20000 in
set_option maxHeartbeats 4000000 in
theorem pathBy_none (i : Int) (A : Option Addr) (n c : Nat) (w : World) (hn : n ≤ 1000000) (hi0 : -9223372036854775808 ≤ i) (hi1 : i ≤ 9223372036854775807) (h : standT (n : Int) i = false) :
    Calls Tryd.prog 42 #[ndV, .slice A n c, .int .i64 i] w fun e w' => e = .returned (.tuple #[.slice none 0 0, .bool false]) ∧ Below w.heap.size w w' := by
  have HN : Hid (n < 9223372036854775808) := by show _ < _; omega
  have HST : Hid (∀ u, Calls Tryd.prog 59 #[ii n, .int .i64 i] u fun e w' => e = .returned (.bool false) ∧ Below u.heap.size u w') := fun u => by
    rw [← h]
    exact stand_any (n : Int) i u (by omega) (by omega) hi0 hi1
  have E1 : Hid (EnvX w w []) := EnvX.start w
  clear h
  go_enter Tryd.func42, Tryd.ntmps42
  go_upto_region 1 with (fail)
  refine wp_region_Hx (w0 := w) [0, 1, 2, 3, 4] [] rfl E1.out ?_
  refine lexH_phase [0, 1, 2, 3, 4] [] ?_
  have hw1 : EnvX w _ [] := E1.out
  have hone := @EnvC.one _ _ _ hw1
  (refine wpG_op rfl rfl rfl ?_; intro K hK; go_big_quiet_op; go_big_quiet_on)
  (refine wpG_val (v := ii n) rfl rfl (fun u hu => len_op Tryd.underlying22 HN.out u rfl) ?_ hw1; intro K hK; go_big_quiet_op; go_big_quiet_on)
  (refine wpG_op rfl rfl rfl ?_; intro K hK; go_big_quiet_op; go_big_quiet_on)
  (refine wpG_call (f := 59) (args := #[ii n, .int .i64 i]) (v := .bool false) rfl rfl rfl Tryd.func59 rfl rfl (fun u hu => HST.out u) ?_ hw1; intro K hK; go_big_quiet_op; go_big_quiet_on)
  (refine wpG_op rfl rfl rfl ?_; intro K hK; go_big_quiet_op; go_big_quiet_on)
  clear hone hw1
  refine wpG_nil ?_
  intro u3 E2'
  have EX2 := Lib.hid E2'
  clear E2'
  have HB := Lib.hid EX2.out.bel
  clear EX2
  go_wp2_with fail
  go_returns
  exact ⟨rfl, HB.out⟩
set_option maxRecDepth 20000 in
set_option maxHeartbeats 4000000 in
theorem path_any (l : List (List Int)) (i : Int) (A : Option Addr) (n c : Nat) (w : World) (hl : l.length = n) (hn : n ≤ 1000000) (hnc : n ≤ c) (hi : I64 i) (hI : isIds l) (hA : IdsIn w w.heap.size A l) (ht : Tables w) :
    Calls Tryd.prog 42 #[ndV, .slice A n c, .int .i64 i] w fun e w' => (∃ v, e = .returned (.tuple #[v, .bool (pathR l i).2]) ∧ OwnI w' w.heap.size v (pathR l i).1) ∧ Below w.heap.size w w' := by
  subst hl
  unfold pathR
  by_cases h : 0 ≤ i ∧ i < l.length ∧ l.length ≤ 64
  · rw [if_pos h]
    obtain ⟨j, rfl⟩ := Int.eq_ofNat_of_zero_le h.1
    exact pathBy_some l j A _ c w rfl h.2.2 (by omega) hnc hI hA ht
  · rw [if_neg h]
    have hs : standT (l.length : Int) i = false := by unfold standT; simp only [decide_eq_false_iff_not]; omega
    refine (pathBy_none i A l.length c w hn hi.1 hi.2 hs).mono ?_
    rintro e w' ⟨rfl, hb⟩
    exact ⟨⟨_, rfl, OwnI.nil _ _⟩, hb⟩
set_option maxRecDepth 20000 in
set_option maxHeartbeats 4000000 in
theorem Path_any (l : List (List Int)) (i : Int) (A : Option Addr) (n c : Nat) (w : World) (hl : l.length = n) (hn : n ≤ 1000000) (hnc : n ≤ c) (hi : I64 i) (hI : isIds l) (hA : IdsIn w w.heap.size A l) (ht : Tables w) :
    Calls Tryd.prog 25 #[.slice A n c, .int .i64 i] w fun e w' => (∃ v, e = .returned (.tuple #[v, .bool (pathR l i).2]) ∧ OwnI w' w.heap.size v (pathR l i).1) ∧ Below w.heap.size w w' := by
  have HC := Lib.hid (path_any l i A n c w hl hn hnc hi hI hA ht)
  clear hI hA ht hi
  unfold ndV at HC
  go_enter Tryd.func25, Tryd.ntmps25
  go_wp2_with fail
  refine HC.out.mono ?_
  rintro e w1 ⟨⟨v, rfl, hv⟩, hb⟩
  have HV := Lib.hid (And.intro hv hb)
  clear hv hb HC
  go_wp2_with fail
  go_returns
  exact ⟨⟨_, rfl, HV.out.1⟩, HV.out.2⟩
end Go.Proofs.YtbjojpgedcikiaaDoor

namespace Go.Proofs.YtbjojpgedcikiaaDoor
set_option maxRecDepth 8000
open Go.RowKit

def sideS (F : List (Nat × Nat × Bool)) : List Bool := F.map (fun x => !x.2.2)
theorem sideS_getD (F : List (Nat × Nat × Bool)) {k : Nat} (hk : k < F.length) : (sideS F).getD k true = !(F.getD k (0, 0, false)).2.2 := map_getD F (fun x => !x.2.2) (0, 0, false) true hk
/-- both ids on their sides: a on the left, c on the right; or, if a stands on the right, the other way round -/
def pairV (r : Bool) (a c : List Int) : Array Value := if r then arrB 32 c ++ arrB 32 a else arrB 32 a ++ arrB 32 c
def stA (F : List (Nat × Nat × Bool)) (x : List Int) (p : List (List Int)) (k : Nat) : Array Value := pairV (F.getD k (0, 0, false)).2.2 (climbK (sideS F) x p k) (p.getD k []) ++ arrB 32 (climbK (sideS F) x p (k + 1))
def stepsC (F : List (Nat × Nat × Bool)) (x : List Int) (p : List (List Int)) (n : Nat) : List (List Value) := (List.range n).map fun k => (stA F x p k).toList
theorem pair_size {r : Bool} {a c : List Int} (ha : a.length = 32) (hc : c.length = 32) : (pairV r a c).size = 64 := by
  have s0 := arrB_size 32 a (by omega)
  have s1 := arrB_size 32 c (by omega)
  unfold pairV
  split <;> simp only [Array.size_append, s0, s1]
theorem arrB_all {n : Nat} (xs : List Int) : ∀ u ∈ (arrB n xs).toList, u.oneCell' = true := fun u hu => (Array.all_eq_true_iff_forall_mem.1 (arrB_one n xs)) u (by simpa using hu)
theorem pair_one {r : Bool} {a c : List Int} : ∀ u ∈ (pairV r a c).toList, u.oneCell' = true := by
  intro u hu
  unfold pairV at hu
  split at hu <;> (rw [Array.toList_append] at hu; exact (List.mem_append.1 hu).elim (arrB_all _ u) (arrB_all _ u))
theorem put_pair1 {r : Bool} {k : Nat} {a : List Int} (hk : k = if r then 1 else 0) (ha : a.length = 32) :
    (arrB 32 [] ++ arrB 32 []).toList.take (0 + k * 32) ++ (arrB 32 a).toList ++ (arrB 32 [] ++ arrB 32 []).toList.drop (0 + k * 32 + (arrB 32 a).size) = (pairV r a []).toList := by
  subst hk
  have lz := z32_len
  have la := idA_cells ha
  have sa := arrB_size 32 a (by omega)
  unfold pairV
  cases r
  · show (arrB 32 [] ++ arrB 32 []).toList.take 0 ++ (arrB 32 a).toList ++ (arrB 32 [] ++ arrB 32 []).toList.drop (0 + 0 * 32 + (arrB 32 a).size) = (arrB 32 a ++ arrB 32 []).toList
    rw [sa, Array.toList_append, Array.toList_append, List.drop_append_of_le_length (by omega), List.drop_of_length_le (by omega)]
    rfl
  · show (arrB 32 [] ++ arrB 32 []).toList.take 32 ++ (arrB 32 a).toList ++ (arrB 32 [] ++ arrB 32 []).toList.drop (0 + 1 * 32 + (arrB 32 a).size) = (arrB 32 [] ++ arrB 32 a).toList
    rw [sa, Array.toList_append, Array.toList_append, List.take_append_of_le_length (by omega), List.take_of_length_le (by omega), List.drop_of_length_le (by rw [List.length_append]; omega), List.append_nil]
theorem put_pair2 {r : Bool} {k : Nat} {a c : List Int} (hk : k = if r then 0 else 1) (ha : a.length = 32) (hc : c.length = 32) :
    (pairV r a []).toList.take (0 + k * 32) ++ (arrB 32 c).toList ++ (pairV r a []).toList.drop (0 + k * 32 + (arrB 32 c).size) = (pairV r a c).toList := by
  subst hk
  have lz := z32_len
  have la := idA_cells ha
  have lc := idA_cells hc
  have sc := arrB_size 32 c (by omega)
  unfold pairV
  cases r
  · show (arrB 32 a ++ arrB 32 []).toList.take 32 ++ (arrB 32 c).toList ++ (arrB 32 a ++ arrB 32 []).toList.drop (0 + 1 * 32 + (arrB 32 c).size) = (arrB 32 a ++ arrB 32 c).toList
    rw [sc, Array.toList_append, Array.toList_append, List.take_append_of_le_length (by omega), List.take_of_length_le (by omega), List.drop_of_length_le (by rw [List.length_append]; omega), List.append_nil]
  · show (arrB 32 [] ++ arrB 32 a).toList.take 0 ++ (arrB 32 c).toList ++ (arrB 32 [] ++ arrB 32 a).toList.drop (0 + 0 * 32 + (arrB 32 c).size) = (arrB 32 c ++ arrB 32 a).toList
    rw [sc, Array.toList_append, Array.toList_append, List.drop_append_of_le_length (by omega), List.drop_of_length_le (by omega)]
    rfl
/-- what stands on the left, and on the right -/
def leftV (r : Bool) (a c : List Int) : List Int := if r then c else a
def rightV (r : Bool) (a c : List Int) : List Int := if r then a else c
theorem pair_lr (r : Bool) (a c : List Int) : pairV r a c = arrB 32 (leftV r a c) ++ arrB 32 (rightV r a c) := by unfold pairV leftV rightV; cases r <;> rfl
theorem step_lr (r : Bool) (a c : List Int) : stepT (!r) a c = nodeT (leftV r a c) (rightV r a c) := by unfold stepT leftV rightV; cases r <;> rfl
def zStep : Value := .agg (arrB 96 [])
theorem elS : ElemT 68 72 96 96 zStep := ⟨Tryd.underlying68, by kernel_rfl, rfl, by decide, by decide, by decide⟩
theorem zero_step : (Tryd.prog.info? 72).map (fun i => i.zero.map (·.cells.size)) = some (some 96) := by kernel_rfl
theorem step_places : (match Tryd.prog.underlying 72 with | some (.struct fields) => fields.toList.mapM (fun f => (Tryd.prog.info? f.type).map fun i => (f.offset, i.size)) | _ => none) = some [(0, 64), (64, 32)] := by kernel_rfl
theorem built_step {A B : Array Value} (hA : A.size = 64) (hB : B.size = 32) : Tryd.prog.built 72 [(0, .agg A), (1, .agg B)] = some (A ++ B) := by
  have hz := zero_step
  have hp := step_places
  cases hu : Tryd.prog.underlying 72 with
  | none => rw [hu] at hp; cases hp
  | some d =>
    rw [hu] at hp
    cases d with
    | struct fields =>
      simp only at hp
      cases hq : Tryd.prog.info? 72 with
      | none => rw [hq] at hz; cases hz
      | some it =>
        rw [hq] at hz
        simp only [Option.map_some, Option.some.injEq] at hz
        cases hzz : it.zero with
        | none => rw [hzz] at hz; cases hz
        | some z =>
          rw [hzz] at hz
          simp only [Option.map_some, Option.some.injEq] at hz
          unfold Program.built
          simp only [hq, hu, hzz, hp]
          exact fill_two A B z.cells hA hB rfl rfl (by omega)
    | _ => cases hp
set_option maxRecDepth 20000 in
set_option maxHeartbeats 4000000 in
theorem climb_any (F : List (Nat × Nat × Bool)) (x : List Int) (p : List (List Int)) (Au : Option Addr) (K cu : Nat) (A : Option Addr) (m c : Nat) (w : World) (hK : F.length = K) (hK64 : K ≤ 64) (hU : CellsIn w w.heap.size Au (F.map fkV).flatten)
    (hx : x.length = 32 ∧ ∀ b ∈ x, 0 ≤ b ∧ b ≤ 255) (hm : p.length = m) (hKm : K ≤ m) (hI : isIds p) (hA : IdsIn w w.heap.size A p) (ht : Tables w) :
    Calls Tryd.prog 54 #[ndV, .slice Au K cu, idv x, .slice A m c] w fun e w' => (∃ v, e = .returned v ∧ w'.ownsRow w.heap.size 72 96 v K (stepsC F x p K).flatten) ∧ Below w.heap.size w w' := by
  have HX := Lib.hid hx
  have HU := Lib.hid hU
  have HAI := Lib.hid (And.intro hA hI)
  have HM := Lib.hid hm
  have HTT := Lib.hid ht
  have HKL := Lib.hid hK
  have HKN : Hid (K < 9223372036854775808) := by show _ < _; omega
  have HK1 : Hid (K ≤ 10000) := by show _ ≤ _; omega
  have hCI := Lib.hid (climb_id (sideS F) x p hx)
  have E1 : Hid (EnvX w (w.alloc (.cells (arrB 32 x) 24)) [(w.heap.size, Obj.cells (arrB 32 x) 24 (0, 0))]) := (EnvX.start w).new _
  clear hx hU hI hA hm ht hK
  unfold idv
  go_enter Tryd.func54, Tryd.ntmps54
  go_upto_region 1 with (fail)
  generalize w.alloc (.cells (arrB 32 x) 24) = W at *
  refine wp_region_Hx (w0 := w) [0, 1, 2, 3] [(w.heap.size, Obj.cells (arrB 32 x) 24 (0, 0))] rfl E1.out ?_
  refine lexH_phase [0, 1] [2, 3] ?_
  have hw1 : EnvX w _ [(w.heap.size, Obj.cells (arrB 32 x) 24 (0, 0))] := E1.out
  have hone := @EnvC.one _ _ _ hw1
  (refine wpG_op rfl rfl rfl ?_; intro K hK; go_big_quiet_op; go_big_quiet_on)
  (refine wpG_val (v := .int .i64 (K : Int)) rfl rfl (fun u hu => len_op Tryd.underlying66 HKN.out u rfl) ?_ hw1; intro K hK; go_big_quiet_op; go_big_quiet_on)
  clear hone hw1
  refine wpG_nil ?_
  refine (hOp_fresh (R := fun v N => ∃ g cur, v = .slice (some ⟨g, 0, none⟩) 0 K ∧ N = [(g, Obj.cells cur 72 (0, 0))] ∧ cur.size = K * 96) (M0 := [(w.heap.size, Obj.cells (arrB 32 x) 24 (0, 0))]) rfl rfl (fun _ h => h) (fun u hu => FAt_makeR elS HK1.out rfl u) ?_)
  rintro _ _ ⟨gm, cm, rfl, rfl, hcm⟩ hf he2; intro K' hK'; go_big_quiet_op; go_big_quiet_on
  have HCM := Lib.hid hcm
  have HGM := Lib.hid (hf _ (List.mem_singleton.2 rfl))
  clear hcm
  clear hf
  change lexH _ _ _ _ _ _ [(gm, Obj.cells cm 72 (0, 0)), (w.heap.size, Obj.cells (arrB 32 x) 24 (0, 0))]
  refine lexH_phase [3] [] ?_
  have hw3 : EnvX w _ [(gm, Obj.cells cm 72 (0, 0)), (w.heap.size, Obj.cells (arrB 32 x) 24 (0, 0))] := he2.choose_spec
  have hone := @EnvC.one _ _ _ hw3
  (refine wpG_op rfl rfl rfl ?_; intro K hK; go_big_quiet_op; go_big_quiet_on)
  clear hone hw3
  refine wpG_nil ?_
  intro u5 E2'
  have EX4 := Lib.hid E2'
  clear E2'
  go_upto_region 2 with (fail)
  refine wp_region_Hx (w0 := w) [0, 1, 2] [(gm, Obj.cells cm 72 (0, 0)), (w.heap.size, Obj.cells (arrB 32 x) 24 (0, 0))] rfl EX4.out ?_
  refine lexH_phase [0] [1, 2] ?_
  have hw6 : EnvX w _ [(gm, Obj.cells cm 72 (0, 0)), (w.heap.size, Obj.cells (arrB 32 x) 24 (0, 0))] := EX4.out
  have hone := @EnvC.one _ _ _ hw6
  (refine wpG_val (v := idv x) rfl rfl (fun u hu => load_run_op u (box_load hu (List.Mem.tail _ (List.Mem.head _)) HX.out.1) rfl) ?_ hw6; intro K hK; go_big_quiet_op; go_big_quiet_on)
  clear hone hw6
  refine wpG_nil ?_
  refine (hOp_fresh (R := fun x N => ∃ g, x = .pointer (some ⟨g, 0, none⟩) ∧ N = [(g, Obj.cells (arrB 32 []) 24 (0, 0))]) (M0 := [(gm, Obj.cells cm 72 (0, 0)), (w.heap.size, Obj.cells (arrB 32 x) 24 (0, 0))]) rfl rfl (fun _ h => h) (fun u hu => FAt_new (new_id _) u) ?_)
  rintro _ _ ⟨g10, rfl, rfl⟩ hf he7; intro K' hK'; go_big_quiet_op; go_big_quiet_on
  have HG10 := Lib.hid (hf _ (List.mem_singleton.2 rfl))
  clear hf
  change lexH _ _ _ _ _ _ [(g10, Obj.cells (arrB 32 []) 24 (0, 0)), (gm, Obj.cells cm 72 (0, 0)), (w.heap.size, Obj.cells (arrB 32 x) 24 (0, 0))]
  refine (hOp_store rfl (g10) (arrB 32 x) rfl rfl HG10.out.1 24 ((arrB 32 [])) (List.Mem.head _) (info26 _ (arrB_size _ _ (by rw [HX.out.1]; omega))) ((arrB_size _ _ (by simp)).trans (arrB_size _ _ (by rw [HX.out.1]; omega)).symm) (arrB_one _ _) [(g10, Obj.cells (arrB 32 x) 24 (0, 0)), (gm, Obj.cells cm 72 (0, 0)), (w.heap.size, Obj.cells (arrB 32 x) 24 (0, 0))] (List.forall_mem_cons.2 ⟨.inl rfl, fun y hy => .inr ⟨List.mem_cons_of_mem _ hy, HG10.out.2 y hy⟩⟩) ?_)
  intro he8
  intro u10 E2'
  have EX9 := Lib.hid E2'
  clear E2'
  go_upto_region 3 with (fail)
  refine wp_region_Hx (w0 := w) [0, 1, 2] [(g10, Obj.cells (arrB 32 x) 24 (0, 0)), (gm, Obj.cells cm 72 (0, 0)), (w.heap.size, Obj.cells (arrB 32 x) 24 (0, 0))] rfl EX9.out ?_
  refine lexH_phase [0, 1, 2] [] ?_
  have hw11 : EnvX w _ [(g10, Obj.cells (arrB 32 x) 24 (0, 0)), (gm, Obj.cells cm 72 (0, 0)), (w.heap.size, Obj.cells (arrB 32 x) 24 (0, 0))] := EX9.out
  have hone := @EnvC.one _ _ _ hw11
  (refine wpG_op rfl rfl rfl ?_; intro K hK; go_big_quiet_op; go_big_quiet_on)
  (refine wpG_val (v := .int .i64 (K : Int)) rfl rfl (fun u hu => len_op Tryd.underlying66 HKN.out u rfl) ?_ hw11; intro K hK; go_big_quiet_op; go_big_quiet_on)
  (refine wpG_op rfl rfl rfl ?_; intro K hK; go_big_quiet_op; go_big_quiet_on)
  clear hone hw11
  refine wpG_nil ?_
  intro u13 E2'
  have EX12 := Lib.hid E2'
  clear E2'
  have HINV : Hid (∃ N, FreshR 72 96 0 (stepsC F x p 0).flatten (.slice (some ⟨gm, 0, none⟩) 0 K) N ∧ freshN w N [(g10, Obj.cells (arrB 32 x) 24 (0, 0))] ∧ EnvX w u13 ((g10, Obj.cells (arrB 32 (climbK (sideS F) x p 0)) 24 (0, 0)) :: N)) := by
    refine ⟨[(gm, Obj.cells cm 72 (0, 0))], .inl ⟨gm, K, cm, rfl, rfl, Nat.zero_le _, by unfold maxLen; omega, HCM.out, rfl⟩, ?_, EnvX.sub EX12.out (List.forall_mem_cons.2 ⟨List.Mem.head _, fun y hy => List.mem_cons_of_mem _ ?_⟩)⟩
    · intro y hy
      cases List.mem_singleton.1 hy
      refine ⟨HGM.out.1, fun z hz => ?_⟩
      cases List.mem_singleton.1 hz
      exact fun e => HG10.out.2 _ (List.Mem.head _) e.symm
    · cases List.mem_singleton.1 hy
      exact List.Mem.head _
  clear EX12 HCM HGM
  have HG10w : Hid (w.heap.size ≤ g10) := HG10.out.1
  clear HG10
  go_upto_region 4 with (fail)
  go_loopw [9, 20] (fun v i u => ∃ k : Nat, k ≤ K ∧ i = .int .i64 k ∧ Hid (∃ N, FreshR 72 96 k (stepsC F x p k).flatten v N ∧ freshN w N [(g10, Obj.cells (arrB 32 x) 24 (0, 0))] ∧ EnvX w u ((g10, Obj.cells (arrB 32 (climbK (sideS F) x p k)) 24 (0, 0)) :: N))) (fun _ i _ => K - (intOf i).toNat)
  case atStart => exact ⟨0, by omega, rfl, HINV⟩
  case round =>
    obtain ⟨k, hk, rfl, hinv⟩ := hrel
    obtain ⟨N, hF, hN, hE⟩ := hinv.out
    clear hinv HINV
    by_cases hlt : k < K
    · have hk2 : (k : Int) < (K : Int) := by omega
      have EK := Lib.hid hE
      have HF := Lib.hid hF
      have HN := Lib.hid hN
      have hkF : k < F.length := by rw [HKL.out]; exact hlt
      have HK := Lib.hid hlt
      have hck : ((F.map fkV).getD k []) = fkV (F.getD k (0, 0, false)) := map_getD F fkV _ _ hkF
      have hkm : k < p.length := by rw [HM.out]; omega
      have HKM : Hid (k < m) := by show _ < _; omega
      obtain ⟨ad, rfl, -⟩ := CellsIn.load aggFork HU.out (fk_rows F) (by decide) (i := k) (by rw [List.length_map]; exact hkF)
      obtain ⟨ap, rfl, -⟩ := HAI.out.1.load HAI.out.2 (i := k) hkm
      have HLD : Hid (∀ u, EnvX w u [] → (loadVar 85 (ad.add (k * 5))).run Tryd.prog u = .ok (.agg (fkV (F.getD k (0, 0, false))).toArray) u) := fun u hu => by
        obtain ⟨ad2, e2, h2⟩ := CellsIn.load aggFork (HU.out.up (EnvX.bel hu)) (fk_rows F) (by decide) (i := k) (by rw [List.length_map]; exact hkF)
        cases e2
        rw [hck] at h2
        exact h2
      have HLP : Hid (∀ u, EnvX w u [] → (loadVar 24 (ap.add (k * 32))).run Tryd.prog u = .ok (idv (p.getD k [])) u) := fun u hu => by
        obtain ⟨ad2, e2, h2⟩ := (HAI.out.1.up (EnvX.bel hu)).load HAI.out.2 (i := k) hkm
        cases e2
        exact h2
      have HPK : Hid ((p.getD k []).length = 32 ∧ ∀ b ∈ p.getD k [], 0 ≤ b ∧ b ≤ 255) := HAI.out.2.get hkm
      have HCK := Lib.hid (hCI.out k)
      have HNK := Lib.hid (hCI.out (k + 1))
      have hst : climbK (sideS F) x p (k + 1) = stepT ((sideS F).getD k true) (climbK (sideS F) x p k) (p.getD k []) := rfl
      rw [sideS_getD F hkF, step_lr] at hst
      have HSN : Hid (stepsC F x p (k + 1) = stepsC F x p k ++ [(pairV (F.getD k (0, 0, false)).2.2 (climbK (sideS F) x p k) (p.getD k []) ++ arrB 32 (climbK (sideS F) x p (k + 1))).toList]) := by
        show _ = _
        unfold stepsC
        rw [List.range_succ, List.map_append]
        rfl
      have HSL : Hid ((stepsC F x p k).flatten.length = k * 96 ∧ (stepsC F x p k).length = k) := by
        have hlen : (stepsC F x p k).length = k := by unfold stepsC; rw [List.length_map, List.length_range]
        refine ⟨?_, hlen⟩
        have hr : isRows 96 (stepsC F x p k) := fun y hy => by
          obtain ⟨j, hj, rfl⟩ := List.mem_map.1 hy
          have hjk := List.mem_range.1 hj
          have hpj := (HAI.out.2.get (i := j) (by omega)).1
          unfold stA
          rw [Array.length_toList, Array.size_append, pair_size (hCI.out j).1 hpj, arrB_size _ _ (by rw [(hCI.out (j + 1)).1]; omega)]
        rw [hr.flat_len, hlen]
      have HND : Hid (∀ u, EnvX w u [] → Calls Tryd.prog 38 #[idv (leftV (F.getD k (0, 0, false)).2.2 (climbK (sideS F) x p k) (p.getD k [])), idv (rightV (F.getD k (0, 0, false)).2.2 (climbK (sideS F) x p k) (p.getD k []))] u fun e w' => e = .returned (idv (climbK (sideS F) x p (k + 1))) ∧ Below u.heap.size u w') := fun u hu => by
        rw [hst]
        refine node_any _ _ u ?_ ?_ (HTT.out.below (EnvX.bel hu))
        · unfold leftV; split <;> first | exact HPK.out | exact HCK.out
        · unfold rightV; split <;> first | exact HPK.out | exact HCK.out
      clear hE hF hN hck hst
      generalize hxk : F.getD k (0, 0, false) = y at *
      generalize p.getD k [] = pk at *
      generalize climbK (sideS F) x p k = ck at *
      generalize hnk : climbK (sideS F) x p (k + 1) = nk at *
      have HNE := Lib.hid hnk
      clear hnk
      have HOFF := Lib.hid (off_sub y)
      have HO2 := Lib.hid (off_two y)
      have HN2 : Hid (onN y < 2) := by show _ < _; unfold onN; split <;> omega
      have HLR := Lib.hid (pair_lr y.2.2 ck pk)
      have HLL : Hid ((leftV y.2.2 ck pk).length = 32 ∧ (rightV y.2.2 ck pk).length = 32) := by
        show _ ∧ _
        unfold leftV rightV
        split
        · exact ⟨HPK.out.1, HCK.out.1⟩
        · exact ⟨HCK.out.1, HPK.out.1⟩
      have HPA := Lib.hid (pair_at (idA_cells HLL.out.1) (idA_cells HLL.out.2))
      have HPS : Hid ((pairV y.2.2 ck pk).size = 64 ∧ (arrB 32 nk).size = 32) := ⟨pair_size HCK.out.1 HPK.out.1, arrB_size _ _ (by rw [HNK.out.1]; omega)⟩
      have HP1 : Hid ((arrB 32 [] ++ arrB 32 []).toList.take (0 + onN y * 32) ++ (arrB 32 ck).toList ++ (arrB 32 [] ++ arrB 32 []).toList.drop (0 + onN y * 32 + (arrB 32 ck).size) = (pairV y.2.2 ck []).toList) := put_pair1 rfl HCK.out.1
      have HP2 : Hid ((pairV y.2.2 ck []).toList.take (0 + offN y * 32) ++ (arrB 32 pk).toList ++ (pairV y.2.2 ck []).toList.drop (0 + offN y * 32 + (arrB 32 pk).size) = (pairV y.2.2 ck pk).toList) := put_pair2 rfl HCK.out.1 HPK.out.1
      have HSZ : Hid (0 + onN y * 32 + (arrB 32 ck).size ≤ (arrB 32 [] ++ arrB 32 []).size ∧ 0 + offN y * 32 + (arrB 32 pk).size ≤ (pairV y.2.2 ck []).size) := by
        have z := arrB_size 32 [] (by simp)
        have s1 := arrB_size 32 ck (by rw [HCK.out.1]; omega)
        have s2 := arrB_size 32 pk (by rw [HPK.out.1]; omega)
        have s3 : (pairV y.2.2 ck []).size = 64 := by unfold pairV; split <;> simp only [Array.size_append, z, s1]
        have := HO2.out
        have := HN2.out
        refine ⟨?_, ?_⟩
        · simp only [Array.size_append, z, s1]; omega
        · rw [s2, s3]; omega
      go_upto_region 5 with (fail)
      refine wp_region_Hx (w0 := w) [0, 1, 2, 3, 4, 5] ((g10, Obj.cells (arrB 32 ck) 24 (0, 0)) :: N) rfl EK.out ?_
      refine lexH_phase [0, 1, 2] [3, 4, 5] ?_
      have hw14 : EnvX w _ ((g10, Obj.cells (arrB 32 ck) 24 (0, 0)) :: N) := EK.out
      have hone := @EnvC.one _ _ _ hw14
      (refine wpG_op rfl rfl rfl ?_; intro K hK; go_big_quiet_op; go_big_quiet_on)
      (refine wpG_val (v := .pointer (some (ad.add (k * 5)))) rfl rfl (fun u hu => idxSl_op Tryd.underlying66 aggFork.size HK.out u rfl rfl) ?_ hw14; intro K hK; go_big_quiet_op; go_big_quiet_on)
      (refine wpG_val (v := .agg (fkV y).toArray) rfl rfl (fun u hu => load_any_op u (HLD.out u (EnvX.sub hu (fun _ h => by cases h))) rfl) ?_ hw14; intro K hK; go_big_quiet_op; go_big_quiet_on)
      clear hone hw14
      refine wpG_nil ?_
      refine (hOp_fresh (R := fun x N => ∃ g, x = .pointer (some ⟨g, 0, none⟩) ∧ N = [(g, Obj.cells #[ii 0, ii 0, ii 0, ii 0, ii 0] 85 (0, 0))]) (M0 := ((g10, Obj.cells (arrB 32 ck) 24 (0, 0)) :: N)) rfl rfl (fun _ h => h) (fun u hu => FAt_new (new_fork _) u) ?_)
      rintro _ _ ⟨g12, rfl, rfl⟩ hf he15; intro K' hK'; go_big_quiet_op; go_big_quiet_on
      have HG12 := Lib.hid (hf _ (List.mem_singleton.2 rfl))
      clear hf
      change lexH _ _ _ _ _ _ ((g12, Obj.cells #[ii 0, ii 0, ii 0, ii 0, ii 0] 85 (0, 0)) :: ((g10, Obj.cells (arrB 32 ck) 24 (0, 0)) :: N))
      refine lexH_phase [4] [5] ?_
      have hw16 : EnvX w _ ((g12, Obj.cells #[ii 0, ii 0, ii 0, ii 0, ii 0] 85 (0, 0)) :: ((g10, Obj.cells (arrB 32 ck) 24 (0, 0)) :: N)) := he15.choose_spec
      have hone := @EnvC.one _ _ _ hw16
      (refine wpG_op rfl rfl rfl ?_; intro K hK; go_big_quiet_op; go_big_quiet_on)
      clear hone hw16
      refine wpG_nil ?_
      refine (hOp_putAt rfl (g12) (0) (.agg (fkV y).toArray) rfl rfl HG12.out.1 85 (#[ii 0, ii 0, ii 0, ii 0, ii 0]) ((fkV y).toArray) (List.Mem.head _) info_fork (Nat.le_refl 5) (by kernel_rfl) rfl ((g12, Obj.cells ((fkV y).toArray) 85 (0, 0)) :: ((g10, Obj.cells (arrB 32 ck) 24 (0, 0)) :: N)) (List.forall_mem_cons.2 ⟨.inl rfl, fun y hy => .inr ⟨List.mem_cons_of_mem _ hy, HG12.out.2 y hy⟩⟩) ?_)
      intro he17
      intro u19 E2'
      have EX18 := Lib.hid E2'
      clear E2'
      have HLF : Hid (∀ u, EnvX u19 u [] → u.cell? ⟨g12, 4, none⟩ = some (ii (onN y))) := fun u hu => box_cell (k := 4) (EnvX.comb EX18.out hu) (List.Mem.head _) rfl
      have HLS : Hid (∀ u, EnvX u19 u [] → (loadVar 24 ⟨g10, 0, none⟩).run Tryd.prog u = .ok (idv ck) u) := fun u hu => box_load (EnvX.comb EX18.out hu) (List.Mem.tail _ (List.Mem.head _)) HCK.out.1
      have HLQ : Hid (∀ u, EnvX u19 u [] → (loadVar 24 (ap.add (k * 32))).run Tryd.prog u = .ok (idv pk) u) := fun u hu => HLP.out u (EnvX.sub (EnvX.comb EX18.out hu) (fun _ h => by cases h))
      have E55 : Hid (EnvX u19 u19 []) := EnvX.start _
      go_upto_region 6 with (fail)
      refine wp_region_Hx (w0 := u19) [0] [] rfl E55.out ?_
      refine (hOp_fresh (R := fun x N => ∃ g, x = .pointer (some ⟨g, 0, none⟩) ∧ N = [(g, Obj.cells (arrB 32 [] ++ arrB 32 []) 70 (0, 0))]) (M0 := []) rfl rfl (fun _ h => h) (fun u hu => FAt_new (new_ids2 _) u) ?_)
      rintro _ _ ⟨g13, rfl, rfl⟩ hf he20; intro K' hK'; go_big_quiet_op; go_big_quiet_on
      have HG13 := Lib.hid (hf _ (List.mem_singleton.2 rfl)).1
      clear hf
      change lexH _ _ _ _ _ _ [(g13, Obj.cells (arrB 32 [] ++ arrB 32 []) 70 (0, 0))]
      intro u22 E2'
      have EX21 := Lib.hid E2'
      clear E2'
      go_upto_region 7 with (fail)
      refine wp_region_H (w0 := u19) [(g13, Obj.cells (arrB 32 [] ++ arrB 32 []) 70 (0, 0))] (by kernel_rfl) EX21.out ?_
      refine anyH_phaseN [0, 1, 2, 3, 4, 5, 6, 7, 8, 9, 10] 3 rfl (by kernel_rfl) ?_
      have hw23 : EnvX u19 _ [] := EnvX.sub (EnvX.drew EX21.out) (fun _ h => by cases h)
      have hone := @EnvC.one _ _ _ hw23
      (refine wpG_op rfl rfl rfl ?_; intro K hK; go_big_quiet_op; go_big_quiet_on)
      (refine wpG_val (v := ii (onN y)) rfl rfl (fun u hu => load_any_op u (run_load_one oneInt u (HLF.out u hu)) rfl) ?_ hw23; intro K hK; go_big_quiet_op; go_big_quiet_on)
      (refine wpG_op rfl rfl rfl ?_; intro K hK; go_big_quiet_op; go_big_quiet_on)
      (refine wpG_val (v := ii (onN y)) rfl rfl (fun u hu => load_any_op u (run_load_one oneInt u (HLF.out u hu)) rfl) ?_ hw23; intro K hK; go_big_quiet_op; go_big_quiet_on)
      (refine wpG_val (v := ii (offN y)) rfl rfl (fun u hu => sub_op u HOFF.out.1 HOFF.out.2 rfl rfl) ?_ hw23; intro K hK; go_big_quiet_op; go_big_quiet_on)
      (refine wpG_val (v := idv ck) rfl rfl (fun u hu => load_any_op u (HLS.out u hu) rfl) ?_ hw23; intro K hK; go_big_quiet_op; go_big_quiet_on)
      (refine wpG_op rfl rfl rfl ?_; intro K hK; go_big_quiet_op; go_big_quiet_on)
      (refine wpG_op rfl rfl rfl ?_; intro K hK; go_big_quiet_op; go_big_quiet_on)
      (refine wpG_val (v := .pointer (some (ap.add (k * 32)))) rfl rfl (fun u hu => idxSl_op Tryd.underlying22 aggId.size HKM.out u rfl rfl) ?_ hw23; intro K hK; go_big_quiet_op; go_big_quiet_on)
      (refine wpG_val (v := idv pk) rfl rfl (fun u hu => load_any_op u (HLQ.out u hu) rfl) ?_ hw23; intro K hK; go_big_quiet_op; go_big_quiet_on)
      (refine wpG_val (v := .pointer (some ⟨g13, 0 + onN y * 32, none⟩)) rfl rfl (fun u hu => idxArr_op Tryd.underlying70 aggId.size HN2.out u rfl rfl) ?_ hw23; intro K hK; go_big_quiet_op; go_big_quiet_on)
      clear hone hw23
      refine wpG_nil ?_
      refine anyH_one (i := 11) (by kernel_rfl) (hOp_putAt rfl (g13) (0 + onN y * 32) (idv ck) rfl rfl HG13.out 70 ((arrB 32 [] ++ arrB 32 [])) (pairV y.2.2 ck []) (List.Mem.head _) (info26 _ (arrB_size _ _ (by rw [HCK.out.1]; omega))) HSZ.out.1 (arrB_one _ _) HP1.out [(g13, Obj.cells (pairV y.2.2 ck []) 70 (0, 0))] (List.forall_mem_cons.2 ⟨.inl rfl, fun _ h => by cases h⟩) ?_)
      intro he24
      refine anyH_phaseN [12] 1 rfl (by kernel_rfl) ?_
      have hw25 : EnvX u19 _ [] := EnvX.sub he24.choose_spec (fun _ h => by cases h)
      have hone := @EnvC.one _ _ _ hw25
      (refine wpG_val (v := .pointer (some ⟨g13, 0 + offN y * 32, none⟩)) rfl rfl (fun u hu => idxArr_op Tryd.underlying70 aggId.size HO2.out u rfl rfl) ?_ hw25; intro K hK; go_big_quiet_op; go_big_quiet_on)
      clear hone hw25
      refine wpG_nil ?_
      refine anyH_one (i := 13) (by kernel_rfl) (hOp_putAt rfl (g13) (0 + offN y * 32) (idv pk) rfl rfl HG13.out 70 (pairV y.2.2 ck []) (pairV y.2.2 ck pk) (List.Mem.head _) (info26 _ (arrB_size _ _ (by rw [HPK.out.1]; omega))) HSZ.out.2 (arrB_one _ _) HP2.out [(g13, Obj.cells (pairV y.2.2 ck pk) 70 (0, 0))] (List.forall_mem_cons.2 ⟨.inl rfl, fun _ h => by cases h⟩) ?_)
      intro he26
      refine anyH_done (by kernel_rfl) ?_
      intro u28 E2'
      have EX27 := Lib.hid E2'
      clear E2'
      have E8 : Hid (EnvX w u28 ((g13, Obj.cells (pairV y.2.2 ck pk) 70 (0, 0)) :: (g12, bxK y) :: (g10, Obj.cells (arrB 32 ck) 24 (0, 0)) :: N)) := EnvX.comb EX18.out EX27.out
      have HG13b : Hid (g10 ≠ g13 ∧ ∀ z ∈ N, z.1 ≠ g13) := ⟨fun e => by have := EnvX.lt EX18.out (List.Mem.tail _ (List.Mem.head _)); have := HG13.out; omega, fun z hz e => by have := EnvX.lt EX18.out (g := z.1) (o := z.2) (List.Mem.tail _ (List.Mem.tail _ hz)); have := HG13.out; omega⟩
      clear EX18 EX27 E55 HLF HLS HLQ
      go_upto_region 8 with (fail)
      refine wp_region_Hx (w0 := w) [0, 1, 2, 3, 4, 5, 6] ((g13, Obj.cells (pairV y.2.2 ck pk) 70 (0, 0)) :: ((g12, bxK y) :: ((g10, Obj.cells (arrB 32 ck) 24 (0, 0)) :: N))) rfl E8.out ?_
      refine lexH_phase [0, 1, 2, 3, 4, 5] [6] ?_
      have hw29 : EnvX w _ ((g13, Obj.cells (pairV y.2.2 ck pk) 70 (0, 0)) :: ((g12, bxK y) :: ((g10, Obj.cells (arrB 32 ck) 24 (0, 0)) :: N))) := E8.out
      have hone := @EnvC.one _ _ _ hw29
      (refine wpG_op rfl rfl rfl ?_; intro K hK; go_big_quiet_op; go_big_quiet_on)
      (refine wpG_val (v := .pointer (some ⟨g13, 0 + 0 * 32, none⟩)) rfl rfl (fun u hu => idxArr_op (i := 0) Tryd.underlying70 aggId.size (by decide) u rfl rfl) ?_ hw29; intro K hK; go_big_quiet_op; go_big_quiet_on)
      (refine wpG_val (v := idv (leftV y.2.2 ck pk)) rfl rfl (fun u hu => load_any_op u (box_idAt HLL.out.1 hu (List.Mem.head _) (by rw [HLR.out]; exact HPA.out.1)) rfl) ?_ hw29; intro K hK; go_big_quiet_op; go_big_quiet_on)
      (refine wpG_val (v := .pointer (some ⟨g13, 0 + 1 * 32, none⟩)) rfl rfl (fun u hu => idxArr_op (i := 1) Tryd.underlying70 aggId.size (by decide) u rfl rfl) ?_ hw29; intro K hK; go_big_quiet_op; go_big_quiet_on)
      (refine wpG_val (v := idv (rightV y.2.2 ck pk)) rfl rfl (fun u hu => load_any_op u (box_idAt HLL.out.2 hu (List.Mem.head _) (by rw [HLR.out]; exact HPA.out.2)) rfl) ?_ hw29; intro K hK; go_big_quiet_op; go_big_quiet_on)
      (refine wpG_callV (f := 38) (args := #[idv (leftV y.2.2 ck pk), idv (rightV y.2.2 ck pk)]) (caps := #[]) (all := #[idv (leftV y.2.2 ck pk), idv (rightV y.2.2 ck pk)]) (v := idv nk) rfl rfl rfl rfl rfl Tryd.func38 rfl rfl (fun u hu => HND.out u (EnvX.sub hu (fun _ h => by cases h))) ?_ hw29; intro K hK; go_big_quiet_op; go_big_quiet_on)
      clear hone hw29
      refine wpG_nil ?_
      refine (hOp_putAt rfl (g10) (0) (idv nk) rfl rfl HG10w.out 24 ((arrB 32 ck)) (arrB 32 nk) (List.Mem.tail _ (List.Mem.tail _ (List.Mem.head _))) (info26 _ (arrB_size _ _ (by rw [HNK.out.1]; omega))) (by show 0 + (arrB 32 nk).size ≤ _; rw [HPS.out.2, arrB_size _ _ (by rw [HCK.out.1]; omega)]; omega) (arrB_one _ _) (by show _ ++ (arrB 32 nk).toList ++ _ = _; rw [List.take_zero, List.nil_append, List.drop_of_length_le (by show _ ≤ 0 + (arrB 32 nk).size; rw [HPS.out.2, idA_cells HCK.out.1]; omega), List.append_nil]) ((g10, Obj.cells (arrB 32 nk) 24 (0, 0)) :: ((g13, Obj.cells (pairV y.2.2 ck pk) 70 (0, 0)) :: N)) (List.forall_mem_cons.2 ⟨.inl rfl, List.forall_mem_cons.2 ⟨.inr ⟨List.Mem.head _, fun e => HG13b.out.1 e.symm⟩, fun z hz => .inr ⟨List.mem_cons_of_mem _ (List.mem_cons_of_mem _ (List.mem_cons_of_mem _ hz)), fun e => (HN.out z hz).2 _ (List.Mem.head _) e.symm⟩⟩⟩) ?_)
      intro he30
      intro u32 E2'
      have EX31 := Lib.hid E2'
      clear E2'
      go_upto_region 9 with (fail)
      refine wp_region_Hx (w0 := w) [0, 1, 2, 3, 4, 5, 6] ((g10, Obj.cells (arrB 32 nk) 24 (0, 0)) :: ((g13, Obj.cells (pairV y.2.2 ck pk) 70 (0, 0)) :: N)) rfl EX31.out ?_
      refine lexH_phase [0, 1, 2, 3] [4, 5, 6] ?_
      have hw33 : EnvX w _ ((g10, Obj.cells (arrB 32 nk) 24 (0, 0)) :: ((g13, Obj.cells (pairV y.2.2 ck pk) 70 (0, 0)) :: N)) := EX31.out
      have hone := @EnvC.one _ _ _ hw33
      (refine wpG_op rfl rfl rfl ?_; intro K hK; go_big_quiet_op; go_big_quiet_on)
      (refine wpG_val (v := .agg (pairV y.2.2 ck pk)) rfl rfl (fun u hu => load_any_op u (by have h := box_agg aggIds2 (k := 0) hu (List.Mem.tail _ (List.Mem.head _)) (pairV y.2.2 ck pk).toList (by rw [Array.length_toList, HPS.out.1]) (by rw [List.drop_zero, List.take_of_length_le (by rw [Array.length_toList, HPS.out.1]; omega)]); rwa [Array.toArray_toList] at h) rfl) ?_ hw33; intro K hK; go_big_quiet_op; go_big_quiet_on)
      (refine wpG_val (v := idv nk) rfl rfl (fun u hu => load_run_op u (box_load hu (List.Mem.head _) HNK.out.1) rfl) ?_ hw33; intro K hK; go_big_quiet_op; go_big_quiet_on)
      (refine wpG_val (v := .agg (pairV y.2.2 ck pk ++ arrB 32 nk).toList.toArray) rfl rfl (fun u hu => buildA_op u (by rw [Array.toArray_toList]; exact built_step HPS.out.1 HPS.out.2)) ?_ hw33; intro K hK; go_big_quiet_op; go_big_quiet_on)
      clear hone hw33
      refine wpG_nil ?_
      refine (hOp_fresh (R := BuiltR 72 (pairV y.2.2 ck pk ++ arrB 32 nk).toList) (M0 := ((g10, Obj.cells (arrB 32 nk) 24 (0, 0)) :: ((g13, Obj.cells (pairV y.2.2 ck pk) 70 (0, 0)) :: N))) rfl rfl (fun _ h => h) (fun u hu => FAt_buildR elS (by rw [Array.length_toList, Array.size_append, HPS.out.1, HPS.out.2]) (fun z hz => by rw [Array.toList_append] at hz; exact (List.mem_append.1 hz).elim (pair_one z) (arrB_all _ z)) rfl u) ?_)
      rintro _ _ ⟨gb, rfl, rfl⟩ hf he34; intro K' hK'; go_big_quiet_op; go_big_quiet_on
      clear hf
      change lexH _ _ _ _ _ _ ((gb, Obj.cells (pairV y.2.2 ck pk ++ arrB 32 nk).toList.toArray 72 (0, 0)) :: ((g10, Obj.cells (arrB 32 nk) 24 (0, 0)) :: ((g13, Obj.cells (pairV y.2.2 ck pk) 70 (0, 0)) :: N)))
      refine (hOp_own (gd := none) (R := GrownR w 72 96 (k + 1) ((stepsC F x p k).flatten ++ (pairV y.2.2 ck pk ++ arrB 32 nk).toList) [(g10, Obj.cells (arrB 32 nk) 24 (0, 0))]) rfl rfl rfl rfl (fun u hu => appR_op elS (m := 1) (c := 1) [(g10, Obj.cells (arrB 32 nk) 24 (0, 0))] hu HSL.out.1 (by rw [Nat.one_mul]; exact (by rw [Array.length_toList, Array.size_append, HPS.out.1, HPS.out.2])) (fun z hz => by rw [Array.toList_append] at hz; exact (List.mem_append.1 hz).elim (pair_one z) (arrB_all _ z)) HF.out (fun z hz => ⟨List.mem_cons_of_mem _ (List.mem_cons_of_mem _ (List.mem_cons_of_mem _ hz)), (HN.out z hz).1⟩) (List.Mem.head _) (List.forall_mem_cons.2 ⟨⟨List.mem_cons_of_mem _ (List.Mem.head _), fun z hz => (HN.out z hz).2 (g10, Obj.cells (arrB 32 x) 24 (0, 0)) (List.Mem.head _)⟩, fun _ h => by cases h⟩) (by omega) rfl rfl) ?_)
      rintro xs M' ⟨N2, rfl, hF2, hN2⟩ he35; intro K' hK'; go_big_quiet_op; go_big_quiet_on
      have HF2 := Lib.hid (And.intro hF2 hN2)
      clear hF2 hN2
      change lexH _ _ _ _ _ _ (N2 ++ ((g10, Obj.cells (arrB 32 nk) 24 (0, 0)) :: []))
      refine lexH_phase [6] [] ?_
      have hw36 : EnvX w _ (N2 ++ ((g10, Obj.cells (arrB 32 nk) 24 (0, 0)) :: [])) := he35.choose_spec
      have hone := @EnvC.one _ _ _ hw36
      (refine wpG_op rfl rfl rfl ?_; intro K hK; go_big_quiet_op; go_big_quiet_on)
      clear hone hw36
      refine wpG_nil ?_
      intro u38 E2'
      have EX37 := Lib.hid E2'
      clear E2'
      go_wp2
      go_roundw
      case rel =>
        refine ⟨k + 1, by omega, by go_num, N2, ?_, fun y hy => ⟨(HF2.out.2 y hy).1, fun z hz => by cases List.mem_singleton.1 hz; exact (HF2.out.2 y hy).2 (g10, Obj.cells (arrB 32 nk) 24 (0, 0)) (List.Mem.head _)⟩, EnvX.sub EX37.out (List.forall_mem_cons.2 ⟨by rw [HNE.out]; exact List.mem_append_right _ (List.Mem.head _), fun y hy => List.mem_append_left _ hy⟩)⟩
        rw [HSN.out, List.flatten_append, List.flatten_cons, List.flatten_nil, List.append_nil]
        exact HF2.out.1
      case measure => simp [intOf]; omega
    · obtain rfl : k = K := by omega
      have hlen : (stepsC F x p k).flatten.length = k * 96 := by
        have hr : isRows 96 (stepsC F x p k) := fun y hy => by
          obtain ⟨j, hj, rfl⟩ := List.mem_map.1 hy
          have hjk := List.mem_range.1 hj
          have hpj := (HAI.out.2.get (i := j) (by rw [HM.out]; omega)).1
          unfold stA
          rw [Array.length_toList, Array.size_append, pair_size (hCI.out j).1 hpj, arrB_size _ _ (by rw [(hCI.out (j + 1)).1]; omega)]
        rw [hr.flat_len]
        unfold stepsC
        rw [List.length_map, List.length_range]
      have HO := Lib.hid (And.intro (hF.own (B := w.heap.size) hlen (fun y hy => ⟨(hN y hy).1, EnvX.box hE _ _ (List.mem_cons_of_mem _ hy)⟩)) (EnvX.bel hE))
      clear hF hN hE hlen
      go_wp2
      go_ret
      exact ⟨⟨_, rfl, HO.out.1⟩, HO.out.2⟩
end Go.Proofs.YtbjojpgedcikiaaDoor
