/- Part of a proof. -/
import Derived.Test.YtbjojpgedcikiaaDoorCe
namespace Go.Proofs.YtbjojpgedcikiaaDoor
set_option maxRecDepth 8000
open Go.RowKit

theorem FAt.mono {P : Program} {o : Oper} {a : Act} {R R' : Value → Boxes → Prop} {u : World} (h : FAt P o a R u) (hR : ∀ x N, R x N → R' x N) : FAt P o a R' u := by
  unfold FAt at *
  generalize (execOp a.eval o).run P u = res at *
  cases res with
  | ok n u' =>
    cases n with
    | value x =>
      obtain ⟨h1, N, h2, h3⟩ := h
      exact ⟨h1, N, hR _ _ h2, h3⟩
    | enter f args =>
      obtain ⟨h1, h2⟩ := h
      exact ⟨h1, h2.mono fun e w'' ⟨x, N, he, hr, k⟩ => ⟨x, N, he, hR _ _ hr, k⟩⟩
    | _ => exact h
  | _ => exact h
theorem one_fresh {g : Nat} {x : List Int} (hx : isId x) : FreshI [x] (.slice (some ⟨g, 0, none⟩) 1 1) [(g, Obj.cells (arrB 32 x) 24 (0, 0))] := .inl ⟨g, 1, arrB 32 x, rfl, rfl, Nat.le_refl _, by decide, arrB_size _ _ (by rw [hx.1]; omega), by
  rw [arrId_map hx.1]
  show (x.map u8v).take 32 = (x ++ []).map u8v
  rw [List.append_nil, List.take_of_length_le (by rw [List.length_map, hx.1]; exact Nat.le_refl _)]⟩
theorem isIds_one {x : List Int} (hx : isId x) : isIds [x] := fun y hy => by cases List.mem_singleton.1 hy; exact hx
theorem one_ids {w0 u : World} {M : Boxes} {g : Nat} {x : List Int} (hu : EnvX w0 u M) (hm : (g, Obj.cells (arrB 32 x) 24 (0, 0)) ∈ M) (hx : isId x) : IdsIn u u.heap.size (some ⟨g, 0, none⟩) [x] :=
  (one_fresh hx).ids (isIds_one hx) hu (fun y hy => by cases List.mem_singleton.1 hy; exact hm)
theorem leaf_ne : (!eqL (leafT id1) z32) = true := by decide +kernel
set_option maxRecDepth 20000 in
set_option maxHeartbeats 8000000 in
theorem lawake_any (T : TreeC) (K : LinkC) (w : World) (ht : Tables w) : Calls Tryd.prog 9 #[] w fun e w' => e = .returned (.bool true) ∧ Below w.heap.size w w' := by
  have E1 : Hid (EnvX w w []) := EnvX.start w
  have HID1 : Hid (isId id1) := isIds3 _ (by simp)
  have HID2 : Hid (isId id2) := isIds3 _ (by simp)
  have HI1 : Hid (isIds [id1]) := isIds_one HID1.out
  have HI3 : Hid (isIds [id1, id2, id2]) := fun y hy => by
    simp only [List.mem_cons, List.not_mem_nil, or_false] at hy
    rcases hy with rfl | rfl | rfl
    · exact HID1.out
    · exact HID2.out
    · exact HID2.out
  have HZ1 : Hid ((arrB 32 id1).size = 32) := arrB_size _ _ (by rw [HID1.out.1]; omega)
  have HZ2 : Hid ((arrB 32 id2).size = 32) := arrB_size _ _ (by rw [HID2.out.1]; omega)
  have HZ0 : Hid (z32.length = 32) := by show _ = _; rfl
  have HLL : Hid ((leafT id1).length = 32) := sumL_len _
  have HNZ := Lib.hid leaf_ne
  have HNX : Hid (∀ u, Below w.heap.size w u → Calls Tryd.prog 11 #[.slice none 0 0, idv id1, .int .i64 31] u fun e w' => (∃ v, e = .returned v ∧ OwnI w' u.heap.size v [id1]) ∧ Below u.heap.size u w') := fun u hu => K.next [] id1 31 none 0 0 u rfl (by omega) (by omega) (by decide) (fun _ h => by cases h) HID1.out ⟨by omega, by omega⟩ (IdsIn.nil _ _ _) (ht.below hu)
  have HNY : Hid (∀ u g, Below w.heap.size w u → IdsIn u u.heap.size (some ⟨g, 0, none⟩) [id1] → Calls Tryd.prog 11 #[.slice (some ⟨g, 0, none⟩) 1 1, idv id2, .int .i64 2] u fun e w' => (∃ v, e = .returned v ∧ OwnI w' u.heap.size v [id1, id2, id2]) ∧ Below u.heap.size u w') := fun u g hu hA => K.next [id1] id2 2 _ 1 1 u rfl (by omega) (by omega) (by decide) HI1.out HID2.out ⟨by omega, by omega⟩ hA (ht.below hu)
  have HIDS1 : Hid (∀ (u : World) (g cap g' : Nat) (N : Boxes), IdsIn u u.heap.size (some ⟨g, 0, none⟩) [id1] → IdsIn u u.heap.size (some ⟨g', 0, none⟩) [id1] → FreshI [id1] (.slice (some ⟨g, 0, none⟩) 1 cap) N → Calls Tryd.prog 10 #[.slice (some ⟨g, 0, none⟩) 1 cap, .slice (some ⟨g', 0, none⟩) 1 1] u fun e w' => e = .returned (.bool true) ∧ Below u.heap.size u w') := fun u g cap g' N h1 h2 hF => by
    obtain ⟨A, c, e, k1, k2⟩ := hF.form
    cases e
    have h := rids_any [id1] [id1] (some ⟨g, 0, none⟩) (some ⟨g', 0, none⟩) 1 cap 1 1 u rfl rfl (by omega) (by omega) k1 k2 (by omega) (by decide) HI1.out HI1.out h1 h2
    rwa [decide_eq_true rfl] at h
  have HIDS2 : Hid (∀ (u : World) (g cap g' : Nat) (N : Boxes), IdsIn u u.heap.size (some ⟨g, 0, none⟩) [id1, id2, id2] → IdsIn u u.heap.size (some ⟨g', 0, none⟩) [id1, id2, id2] → FreshI [id1, id2, id2] (.slice (some ⟨g, 0, none⟩) 3 cap) N → Calls Tryd.prog 10 #[.slice (some ⟨g, 0, none⟩) 3 cap, .slice (some ⟨g', 0, none⟩) 3 3] u fun e w' => e = .returned (.bool true) ∧ Below u.heap.size u w') := fun u g cap g' N h1 h2 hF => by
    obtain ⟨A, c, e, k1, k2⟩ := hF.form
    cases e
    have h := rids_any [id1, id2, id2] [id1, id2, id2] (some ⟨g, 0, none⟩) (some ⟨g', 0, none⟩) 3 cap 3 3 u rfl rfl (by omega) (by omega) k1 k2 (by omega) (by decide) HI3.out HI3.out h1 h2
    rwa [decide_eq_true rfl] at h
  have HLD1 : Hid (∀ u g, Below w.heap.size w u → IdsIn u u.heap.size (some ⟨g, 0, none⟩) [id1] → Calls Tryd.prog 18 #[.slice (some ⟨g, 0, none⟩) 1 1, idv id2, idv id1] u fun e w' => e = .returned (.bool true) ∧ Below u.heap.size u w') := fun u g hu hA => by
    have h := K.leads [id1] id2 id1 _ 1 1 u rfl (by omega) (by omega) (by decide) HI1.out HID2.out HID1.out hA (ht.below hu)
    rwa [show leadsT [id1] id2 id1 = true from decide_eq_true (.inr (List.mem_singleton.2 rfl))] at h
  have HLD2 : Hid (∀ u, Below w.heap.size w u → Calls Tryd.prog 18 #[.slice none 0 0, idv id2, idv id1] u fun e w' => e = .returned (.bool false) ∧ Below u.heap.size u w') := fun u hu => by
    have h := K.leads [] id2 id1 none 0 0 u rfl (by omega) (by omega) (by decide) (fun _ h => by cases h) HID2.out HID1.out (IdsIn.nil _ _ _) (ht.below hu)
    rwa [show leadsT [] id2 id1 = false by decide +kernel] at h
  have HRT : Hid (∀ u g, Below w.heap.size w u → IdsIn u u.heap.size (some ⟨g, 0, none⟩) [id1] → Calls Tryd.prog 17 #[.slice (some ⟨g, 0, none⟩) 1 1] u fun e w' => e = .returned (idv (leafT id1)) ∧ Below u.heap.size u w') := fun u g hu hA => K.root [id1] _ 1 1 u rfl (by omega) (by omega) (by decide) HI1.out hA (ht.below hu)
  have HLF : Hid (∀ (ga : Nat) u, Below w.heap.size w u → Bytes u u.heap.size (some ⟨ga, 0, none⟩) id1 → Calls Tryd.prog 21 #[.slice (some ⟨ga, 0, none⟩) 32 32] u fun e w' => e = .returned (idv (leafT id1)) ∧ Below u.heap.size u w') := fun ga u hu hb => T.leaf _ 32 32 id1 u HID1.out.1 (by omega) hb HID1.out.2 (ht.below hu)
  clear ht T K
  go_enter Tryd.func9, Tryd.ntmps9
  go_upto_region 1 with (fail)
  refine wp_region_Hx (w0 := w) [0, 1, 2] [] rfl E1.out ?_
  refine lexH_phase [0] [1, 2] ?_
  have hw1 : EnvX w _ [] := E1.out
  have hone := @EnvC.one _ _ _ hw1
  (refine wpG_val (v := idv id1) rfl rfl (fun u hu => build_op u built1 rfl) ?_ hw1; intro K hK; go_big_quiet_op; go_big_quiet_on)
  clear hone hw1
  refine wpG_nil ?_
  refine (hOp_fresh (R := fun x N => ∃ g, x = .pointer (some ⟨g, 0, none⟩) ∧ N = [(g, Obj.cells (arrB 32 []) 24 (0, 0))]) (M0 := []) rfl rfl (fun _ h => h) (fun u hu => FAt_new (new_id _) u) ?_)
  rintro _ _ ⟨ga, rfl, rfl⟩ hf he2; intro K' hK'; go_big_quiet_op; go_big_quiet_on
  have HGga := Lib.hid (hf _ (List.mem_singleton.2 rfl))
  clear hf
  change lexH _ _ _ _ _ _ [(ga, Obj.cells (arrB 32 []) 24 (0, 0))]
  refine (hOp_store rfl (ga) (arrB 32 id1) rfl rfl HGga.out.1 24 ((arrB 32 [])) (List.Mem.head _) (info26 _ HZ1.out) ((arrB_size _ _ (by simp)).trans HZ1.out.symm) (arrB_one _ _) [(ga, Obj.cells (arrB 32 id1) 24 (0, 0))] (List.forall_mem_cons.2 ⟨.inl rfl, fun y hy => .inr ⟨List.mem_cons_of_mem _ hy, HGga.out.2 y hy⟩⟩) ?_)
  intro he3
  intro u5 E2'
  have EX4 := Lib.hid E2'
  clear E2'
  go_upto_region 2 with (fail)
  refine wp_region_Hx (w0 := w) [0, 1, 2] [(ga, Obj.cells (arrB 32 id1) 24 (0, 0))] rfl EX4.out ?_
  refine lexH_phase [0] [1, 2] ?_
  have hw6 : EnvX w _ [(ga, Obj.cells (arrB 32 id1) 24 (0, 0))] := EX4.out
  have hone := @EnvC.one _ _ _ hw6
  (refine wpG_val (v := idv id2) rfl rfl (fun u hu => build_op u built2 rfl) ?_ hw6; intro K hK; go_big_quiet_op; go_big_quiet_on)
  clear hone hw6
  refine wpG_nil ?_
  refine (hOp_fresh (R := fun x N => ∃ g, x = .pointer (some ⟨g, 0, none⟩) ∧ N = [(g, Obj.cells (arrB 32 []) 24 (0, 0))]) (M0 := [(ga, Obj.cells (arrB 32 id1) 24 (0, 0))]) rfl rfl (fun _ h => h) (fun u hu => FAt_new (new_id _) u) ?_)
  rintro _ _ ⟨gb, rfl, rfl⟩ hf he7; intro K' hK'; go_big_quiet_op; go_big_quiet_on
  have HGgb := Lib.hid (hf _ (List.mem_singleton.2 rfl))
  clear hf
  change lexH _ _ _ _ _ _ [(gb, Obj.cells (arrB 32 []) 24 (0, 0)), (ga, Obj.cells (arrB 32 id1) 24 (0, 0))]
  refine (hOp_store rfl (gb) (arrB 32 id2) rfl rfl HGgb.out.1 24 ((arrB 32 [])) (List.Mem.head _) (info26 _ HZ2.out) ((arrB_size _ _ (by simp)).trans HZ2.out.symm) (arrB_one _ _) [(gb, Obj.cells (arrB 32 id2) 24 (0, 0)), (ga, Obj.cells (arrB 32 id1) 24 (0, 0))] (List.forall_mem_cons.2 ⟨.inl rfl, fun y hy => .inr ⟨List.mem_cons_of_mem _ hy, HGgb.out.2 y hy⟩⟩) ?_)
  intro he8
  intro u10 E2'
  have EX9 := Lib.hid E2'
  clear E2'
  go_upto_region 3 with (fail)
  refine wp_region_H (w0 := w) [(gb, Obj.cells (arrB 32 id2) 24 (0, 0)), (ga, Obj.cells (arrB 32 id1) 24 (0, 0))] (by kernel_rfl) EX9.out ?_
  refine anyH_phase [0, 2] 4 rfl ⟨_, (EnvX.drew EX9.out)⟩ (by kernel_rfl) ?_
  have hw11 : EnvX w _ [(gb, Obj.cells (arrB 32 id2) 24 (0, 0)), (ga, Obj.cells (arrB 32 id1) 24 (0, 0))] := (EnvX.drew EX9.out)
  have hone := @EnvC.one _ _ _ hw11
  (refine wpG_val (v := idv id1) rfl rfl (fun u hu => load_run_op u (box_load hu (List.Mem.tail _ (List.Mem.head _)) HID1.out.1) rfl) ?_ hw11; intro K hK; go_big_quiet_op; go_big_quiet_on)
  (refine wpG_val (v := idv id1) rfl rfl (fun u hu => load_run_op u (box_load hu (List.Mem.tail _ (List.Mem.head _)) HID1.out.1) rfl) ?_ hw11; intro K hK; go_big_quiet_op; go_big_quiet_on)
  clear hone hw11
  refine wpG_nil ?_
  refine anyH_twoFreshG (i := 1) (j := 3) (fun _ _ _ hM hh => env_perm _ _ _ hM hh) (by kernel_rfl) (by kernel_rfl) (by kernel_rfl) rfl rfl (by decide) (by kernel_rfl) rfl rfl (FreshI [id1]) (BuiltI id1) [(gb, Obj.cells (arrB 32 id2) 24 (0, 0)), (ga, Obj.cells (arrB 32 id1) 24 (0, 0))] [(gb, Obj.cells (arrB 32 id2) 24 (0, 0)), (ga, Obj.cells (arrB 32 id1) 24 (0, 0))] (fun _ h => h) (fun _ h => h) (fun u hu => FAt_call (fid := 11) (xs := #[.const (Value.slice none 0 0), .tmp 7, .const (Value.int IntKind.i64 31)]) (args := #[.slice none 0 0, idv id1, .int .i64 31]) rfl Tryd.func11 rfl rfl u (callsI_fresh (HNX.out u (EnvX.bel hu)))) (fun u hu => FAt_buildI HID1.out.1 rfl u) ?_
  rintro x1 N1 _ _ hF ⟨go, rfl, rfl⟩ hf1 hf2 he12 K1 hK1; go_big_quiet_op; go_big_quiet_on; intro K' hK'; go_big_quiet_op; go_big_quiet_on
  obtain ⟨gn, capn, curn, rfl, rfl, hcn⟩ := FreshI.full hF (by decide)
  have HF := Lib.hid hF
  clear hF
  clear hf1 hf2
  change anyH _ _ _ _ _ _ _ _ [(go, Obj.cells (arrB 32 id1) 24 (0, 0)), (gn, Obj.cells curn 24 (0, 0)), (gb, Obj.cells (arrB 32 id2) 24 (0, 0)), (ga, Obj.cells (arrB 32 id1) 24 (0, 0))]
  refine anyH_phase [4, 5] 0 rfl ⟨_, he12.choose_spec⟩ (by kernel_rfl) ?_
  have hw13 : EnvX w _ [(go, Obj.cells (arrB 32 id1) 24 (0, 0)), (gn, Obj.cells curn 24 (0, 0)), (gb, Obj.cells (arrB 32 id2) 24 (0, 0)), (ga, Obj.cells (arrB 32 id1) 24 (0, 0))] := he12.choose_spec
  have hone := @EnvC.one _ _ _ hw13
  (refine wpG_call (f := 10) (args := #[.slice (some ⟨gn, 0, none⟩) 1 capn, .slice (some ⟨go, 0, none⟩) 1 1]) (v := .bool true) rfl rfl rfl Tryd.func10 rfl rfl (fun u hu => HIDS1.out u gn capn go _ (HF.out.ids HI1.out hu (fun y hy => by cases List.mem_singleton.1 hy; exact (List.Mem.tail _ (List.Mem.head _)))) (one_ids hu (List.Mem.head _) HID1.out) HF.out) ?_ hw13; intro K hK; go_big_quiet_op; go_big_quiet_on)
  (refine wpG_op rfl rfl rfl ?_; intro K hK; go_big_quiet_op; go_big_quiet_on)
  clear hone hw13
  refine wpG_nil ?_
  refine anyH_done (by kernel_rfl) ?_
  intro u15 E2'
  have EX14 := Lib.hid E2'
  clear E2'
  go_upto_region 4 with (fail)
  refine wp_region_H (w0 := w) [(go, Obj.cells (arrB 32 id1) 24 (0, 0)), (gn, Obj.cells curn 24 (0, 0)), (gb, Obj.cells (arrB 32 id2) 24 (0, 0)), (ga, Obj.cells (arrB 32 id1) 24 (0, 0))] (by kernel_rfl) EX14.out ?_
  refine anyH_phase [0, 2, 4, 5, 6] 5 rfl ⟨_, (EnvX.drew EX14.out)⟩ (by kernel_rfl) ?_
  have hw16 : EnvX w _ [(go, Obj.cells (arrB 32 id1) 24 (0, 0)), (gn, Obj.cells curn 24 (0, 0)), (gb, Obj.cells (arrB 32 id2) 24 (0, 0)), (ga, Obj.cells (arrB 32 id1) 24 (0, 0))] := (EnvX.drew EX14.out)
  have hone := @EnvC.one _ _ _ hw16
  (refine wpG_val (v := idv id1) rfl rfl (fun u hu => load_run_op u (box_load hu (List.Mem.tail _ (List.Mem.tail _ (List.Mem.tail _ (List.Mem.head _)))) HID1.out.1) rfl) ?_ hw16; intro K hK; go_big_quiet_op; go_big_quiet_on)
  (refine wpG_val (v := idv id2) rfl rfl (fun u hu => load_run_op u (box_load hu (List.Mem.tail _ (List.Mem.tail _ (List.Mem.head _))) HID2.out.1) rfl) ?_ hw16; intro K hK; go_big_quiet_op; go_big_quiet_on)
  (refine wpG_val (v := idv id1) rfl rfl (fun u hu => load_run_op u (box_load hu (List.Mem.tail _ (List.Mem.tail _ (List.Mem.tail _ (List.Mem.head _)))) HID1.out.1) rfl) ?_ hw16; intro K hK; go_big_quiet_op; go_big_quiet_on)
  (refine wpG_val (v := idv id2) rfl rfl (fun u hu => load_run_op u (box_load hu (List.Mem.tail _ (List.Mem.tail _ (List.Mem.head _))) HID2.out.1) rfl) ?_ hw16; intro K hK; go_big_quiet_op; go_big_quiet_on)
  (refine wpG_val (v := idv id2) rfl rfl (fun u hu => load_run_op u (box_load hu (List.Mem.tail _ (List.Mem.tail _ (List.Mem.head _))) HID2.out.1) rfl) ?_ hw16; intro K hK; go_big_quiet_op; go_big_quiet_on)
  clear hone hw16
  refine wpG_nil ?_
  refine anyH_two (i := 1) (j := 7) (by kernel_rfl) ?_ ?_
  · skip
    refine (hOp_fresh (R := BuiltI id1) (M0 := [(go, Obj.cells (arrB 32 id1) 24 (0, 0)), (gn, Obj.cells curn 24 (0, 0)), (gb, Obj.cells (arrB 32 id2) 24 (0, 0)), (ga, Obj.cells (arrB 32 id1) 24 (0, 0))]) rfl rfl (fun _ h => h) (fun u hu => FAt_buildI HID1.out.1 rfl u) ?_)
    rintro _ _ ⟨gp, rfl, rfl⟩ hf he17; intro K' hK'; go_big_quiet_op; go_big_quiet_on
    clear hf
    change anyH _ _ _ _ _ _ _ _ [(gp, Obj.cells (arrB 32 id1) 24 (0, 0)), (go, Obj.cells (arrB 32 id1) 24 (0, 0)), (gn, Obj.cells curn 24 (0, 0)), (gb, Obj.cells (arrB 32 id2) 24 (0, 0)), (ga, Obj.cells (arrB 32 id1) 24 (0, 0))]
    refine anyH_two (i := 3) (j := 7) (by kernel_rfl) ?_ ?_
    · skip
      refine (hOp_fresh (R := FreshI [id1, id2, id2]) (M0 := [(gp, Obj.cells (arrB 32 id1) 24 (0, 0)), (go, Obj.cells (arrB 32 id1) 24 (0, 0)), (gn, Obj.cells curn 24 (0, 0)), (gb, Obj.cells (arrB 32 id2) 24 (0, 0)), (ga, Obj.cells (arrB 32 id1) 24 (0, 0))]) rfl rfl (fun _ h => h) (fun u hu => FAt_call (fid := 11) (xs := #[.tmp 13, .tmp 14, .const (Value.int IntKind.i64 2)]) (args := #[.slice (some ⟨gp, 0, none⟩) 1 1, idv id2, .int .i64 2]) rfl Tryd.func11 rfl rfl u (callsI_fresh (HNY.out u gp (EnvX.bel hu) (one_ids hu (List.Mem.head _) HID1.out)))) ?_)
      rintro x N hF hf he18; intro K' hK'; go_big_quiet_op; go_big_quiet_on
      obtain ⟨gm, capm, curm, rfl, rfl, hcm⟩ := FreshI.full hF (by decide)
      have HF2 := Lib.hid hF
      clear hF
      clear hf
      change anyH _ _ _ _ _ _ _ _ [(gm, Obj.cells curm 24 (0, 0)), (gp, Obj.cells (arrB 32 id1) 24 (0, 0)), (go, Obj.cells (arrB 32 id1) 24 (0, 0)), (gn, Obj.cells curn 24 (0, 0)), (gb, Obj.cells (arrB 32 id2) 24 (0, 0)), (ga, Obj.cells (arrB 32 id1) 24 (0, 0))]
      refine anyH_one (i := 7) (by kernel_rfl) (hOp_fresh (R := fun v N => ∃ g, v = .slice (some ⟨g, 0, none⟩) 3 3 ∧ FreshI [id1, id2, id2] v N ∧ ∃ c3, N = [(g, Obj.cells c3 24 (0, 0))]) (M0 := [(gm, Obj.cells curm 24 (0, 0)), (gp, Obj.cells (arrB 32 id1) 24 (0, 0)), (go, Obj.cells (arrB 32 id1) 24 (0, 0)), (gn, Obj.cells curn 24 (0, 0)), (gb, Obj.cells (arrB 32 id2) 24 (0, 0)), (ga, Obj.cells (arrB 32 id1) 24 (0, 0))]) rfl rfl (fun _ h => h) (fun u hu => (FAt_build3 HID1.out.1 HID2.out.1 HID2.out.1 rfl rfl rfl u).mono (fun x N h => by obtain ⟨g, rfl, rfl⟩ := h; exact ⟨g, rfl, fresh3 HI3.out g, _, rfl⟩)) ?_)
      rintro x N ⟨g3, rfl, hF3, c3, rfl⟩ hf he19; intro K' hK'; go_big_quiet_op; go_big_quiet_on
      have HF3 := Lib.hid hF3
      clear hF3
      clear hf
      change anyH _ _ _ _ _ _ _ _ [(g3, Obj.cells c3 24 (0, 0)), (gm, Obj.cells curm 24 (0, 0)), (gp, Obj.cells (arrB 32 id1) 24 (0, 0)), (go, Obj.cells (arrB 32 id1) 24 (0, 0)), (gn, Obj.cells curn 24 (0, 0)), (gb, Obj.cells (arrB 32 id2) 24 (0, 0)), (ga, Obj.cells (arrB 32 id1) 24 (0, 0))]
      refine anyH_phase [8, 9] 0 rfl ⟨_, he19.choose_spec⟩ (by kernel_rfl) ?_
      have hw20 : EnvX w _ [(g3, Obj.cells c3 24 (0, 0)), (gm, Obj.cells curm 24 (0, 0)), (gp, Obj.cells (arrB 32 id1) 24 (0, 0)), (go, Obj.cells (arrB 32 id1) 24 (0, 0)), (gn, Obj.cells curn 24 (0, 0)), (gb, Obj.cells (arrB 32 id2) 24 (0, 0)), (ga, Obj.cells (arrB 32 id1) 24 (0, 0))] := he19.choose_spec
      have hone := @EnvC.one _ _ _ hw20
      (refine wpG_call (f := 10) (args := #[.slice (some ⟨gm, 0, none⟩) 3 capm, .slice (some ⟨g3, 0, none⟩) 3 3]) (v := .bool true) rfl rfl rfl Tryd.func10 rfl rfl (fun u hu => HIDS2.out u gm capm g3 _ (HF2.out.ids HI3.out hu (fun y hy => by cases List.mem_singleton.1 hy; exact (List.Mem.tail _ (List.Mem.head _)))) (HF3.out.ids HI3.out hu (fun y hy => by cases List.mem_singleton.1 hy; exact (List.Mem.head _))) HF2.out) ?_ hw20; intro K hK; go_big_quiet_op; go_big_quiet_on)
      (refine wpG_op rfl rfl rfl ?_; intro K hK; go_big_quiet_op; go_big_quiet_on)
      clear hone hw20
      refine wpG_nil ?_
      refine anyH_done (by kernel_rfl) ?_
      intro u22 E2'
      have EX21 := Lib.hid E2'
      clear E2'
      go_upto_region 5 with (fail)
      refine wp_region_H (w0 := w) [(g3, Obj.cells c3 24 (0, 0)), (gm, Obj.cells curm 24 (0, 0)), (gp, Obj.cells (arrB 32 id1) 24 (0, 0)), (go, Obj.cells (arrB 32 id1) 24 (0, 0)), (gn, Obj.cells curn 24 (0, 0)), (gb, Obj.cells (arrB 32 id2) 24 (0, 0)), (ga, Obj.cells (arrB 32 id1) 24 (0, 0))] (by kernel_rfl) EX21.out ?_
      refine anyH_phase [0, 1, 2, 3, 4, 5, 7, 8] 24 rfl ⟨_, (EnvX.drew EX21.out)⟩ (by kernel_rfl) ?_
      have hw43 : EnvX w _ [(g3, Obj.cells c3 24 (0, 0)), (gm, Obj.cells curm 24 (0, 0)), (gp, Obj.cells (arrB 32 id1) 24 (0, 0)), (go, Obj.cells (arrB 32 id1) 24 (0, 0)), (gn, Obj.cells curn 24 (0, 0)), (gb, Obj.cells (arrB 32 id2) 24 (0, 0)), (ga, Obj.cells (arrB 32 id1) 24 (0, 0))] := (EnvX.drew EX21.out)
      have hone := @EnvC.one _ _ _ hw43
      (refine wpG_op rfl rfl rfl ?_; intro K hK; go_big_quiet_op; go_big_quiet_on)
      (refine wpG_op rfl rfl rfl ?_; intro K hK; go_big_quiet_op; go_big_quiet_on)
      (refine wpG_op rfl rfl rfl ?_; intro K hK; go_big_quiet_op; go_big_quiet_on)
      (refine wpG_op rfl rfl rfl ?_; intro K hK; go_big_quiet_op; go_big_quiet_on)
      (refine wpG_op rfl rfl rfl ?_; intro K hK; go_big_quiet_op; go_big_quiet_on)
      (refine wpG_val (v := idv id1) rfl rfl (fun u hu => load_run_op u (box_load hu (List.Mem.tail _ (List.Mem.tail _ (List.Mem.tail _ (List.Mem.tail _ (List.Mem.tail _ (List.Mem.tail _ (List.Mem.head _))))))) HID1.out.1) rfl) ?_ hw43; intro K hK; go_big_quiet_op; go_big_quiet_on)
      (refine wpG_val (v := idv id2) rfl rfl (fun u hu => load_run_op u (box_load hu (List.Mem.tail _ (List.Mem.tail _ (List.Mem.tail _ (List.Mem.tail _ (List.Mem.tail _ (List.Mem.head _)))))) HID2.out.1) rfl) ?_ hw43; intro K hK; go_big_quiet_op; go_big_quiet_on)
      (refine wpG_val (v := idv id1) rfl rfl (fun u hu => load_run_op u (box_load hu (List.Mem.tail _ (List.Mem.tail _ (List.Mem.tail _ (List.Mem.tail _ (List.Mem.tail _ (List.Mem.tail _ (List.Mem.head _))))))) HID1.out.1) rfl) ?_ hw43; intro K hK; go_big_quiet_op; go_big_quiet_on)
      clear hone hw43
      refine wpG_nil ?_
      refine anyH_one (i := 6) (by kernel_rfl) (hOp_freshG (R := BuiltI id1) (M0 := [(g3, Obj.cells c3 24 (0, 0)), (gm, Obj.cells curm 24 (0, 0)), (gp, Obj.cells (arrB 32 id1) 24 (0, 0)), (go, Obj.cells (arrB 32 id1) 24 (0, 0)), (gn, Obj.cells curn 24 (0, 0)), (gb, Obj.cells (arrB 32 id2) 24 (0, 0)), (ga, Obj.cells (arrB 32 id1) 24 (0, 0))]) rfl rfl rfl (fun _ h => h) (fun u hu => FAt_buildI HID1.out.1 rfl u) ?_)
      rintro _ _ ⟨gs, rfl, rfl⟩ hf he44; intro K' hK'; go_big_quiet_op; go_big_quiet_on
      clear hf
      change anyH _ _ _ _ _ _ _ _ [(gs, Obj.cells (arrB 32 id1) 24 (0, 0)), (g3, Obj.cells c3 24 (0, 0)), (gm, Obj.cells curm 24 (0, 0)), (gp, Obj.cells (arrB 32 id1) 24 (0, 0)), (go, Obj.cells (arrB 32 id1) 24 (0, 0)), (gn, Obj.cells curn 24 (0, 0)), (gb, Obj.cells (arrB 32 id2) 24 (0, 0)), (ga, Obj.cells (arrB 32 id1) 24 (0, 0))]
      refine anyH_phase [9, 10, 11, 12, 13, 14, 15, 16, 17, 18, 21] 12 rfl ⟨_, he44.choose_spec⟩ (by kernel_rfl) ?_
      have hw45 : EnvX w _ [(gs, Obj.cells (arrB 32 id1) 24 (0, 0)), (g3, Obj.cells c3 24 (0, 0)), (gm, Obj.cells curm 24 (0, 0)), (gp, Obj.cells (arrB 32 id1) 24 (0, 0)), (go, Obj.cells (arrB 32 id1) 24 (0, 0)), (gn, Obj.cells curn 24 (0, 0)), (gb, Obj.cells (arrB 32 id2) 24 (0, 0)), (ga, Obj.cells (arrB 32 id1) 24 (0, 0))] := he44.choose_spec
      have hone := @EnvC.one _ _ _ hw45
      (refine wpG_call (f := 18) (args := #[.slice (some ⟨gs, 0, none⟩) 1 1, idv id2, idv id1]) (v := .bool true) rfl rfl rfl Tryd.func18 rfl rfl (fun u hu => HLD1.out u gs (EnvX.bel hu) (one_ids hu (List.Mem.head _) HID1.out)) ?_ hw45; intro K hK; go_big_quiet_op; go_big_quiet_on)
      (refine wpG_op rfl rfl rfl ?_; intro K hK; go_big_quiet_op; go_big_quiet_on)
      (refine wpG_op rfl rfl rfl ?_; intro K hK; go_big_quiet_op; go_big_quiet_on)
      (refine wpG_val (v := idv id2) rfl rfl (fun u hu => load_run_op u (box_load hu (List.Mem.tail _ (List.Mem.tail _ (List.Mem.tail _ (List.Mem.tail _ (List.Mem.tail _ (List.Mem.tail _ (List.Mem.head _))))))) HID2.out.1) rfl) ?_ hw45; intro K hK; go_big_quiet_op; go_big_quiet_on)
      (refine wpG_val (v := idv id1) rfl rfl (fun u hu => load_run_op u (box_load hu (List.Mem.tail _ (List.Mem.tail _ (List.Mem.tail _ (List.Mem.tail _ (List.Mem.tail _ (List.Mem.tail _ (List.Mem.tail _ (List.Mem.head _)))))))) HID1.out.1) rfl) ?_ hw45; intro K hK; go_big_quiet_op; go_big_quiet_on)
      (refine wpG_call (f := 18) (args := #[.slice none 0 0, idv id2, idv id1]) (v := .bool false) rfl rfl rfl Tryd.func18 rfl rfl (fun u hu => HLD2.out u (EnvX.bel hu)) ?_ hw45; intro K hK; go_big_quiet_op; go_big_quiet_on)
      (refine wpG_op rfl rfl rfl ?_; intro K hK; go_big_quiet_op; go_big_quiet_on)
      (refine wpG_op rfl rfl rfl ?_; intro K hK; go_big_quiet_op; go_big_quiet_on)
      (refine wpG_op rfl rfl rfl ?_; intro K hK; go_big_quiet_op; go_big_quiet_on)
      (refine wpG_val (v := idv id1) rfl rfl (fun u hu => load_run_op u (box_load hu (List.Mem.tail _ (List.Mem.tail _ (List.Mem.tail _ (List.Mem.tail _ (List.Mem.tail _ (List.Mem.tail _ (List.Mem.tail _ (List.Mem.head _)))))))) HID1.out.1) rfl) ?_ hw45; intro K hK; go_big_quiet_op; go_big_quiet_on)
      (refine wpG_val (v := .slice (some ⟨ga, 0, none⟩) 32 32) rfl rfl (fun u hu => sliceArr_op u rfl) ?_ hw45; intro K hK; go_big_quiet_op; go_big_quiet_on)
      clear hone hw45
      refine wpG_nil ?_
      refine anyH_one (i := 19) (by kernel_rfl) (hOp_freshG (R := BuiltI id1) (M0 := [(gs, Obj.cells (arrB 32 id1) 24 (0, 0)), (g3, Obj.cells c3 24 (0, 0)), (gm, Obj.cells curm 24 (0, 0)), (gp, Obj.cells (arrB 32 id1) 24 (0, 0)), (go, Obj.cells (arrB 32 id1) 24 (0, 0)), (gn, Obj.cells curn 24 (0, 0)), (gb, Obj.cells (arrB 32 id2) 24 (0, 0)), (ga, Obj.cells (arrB 32 id1) 24 (0, 0))]) rfl rfl rfl (fun _ h => h) (fun u hu => FAt_buildI HID1.out.1 rfl u) ?_)
      rintro _ _ ⟨gt, rfl, rfl⟩ hf he46; intro K' hK'; go_big_quiet_op; go_big_quiet_on
      clear hf
      change anyH _ _ _ _ _ _ _ _ [(gt, Obj.cells (arrB 32 id1) 24 (0, 0)), (gs, Obj.cells (arrB 32 id1) 24 (0, 0)), (g3, Obj.cells c3 24 (0, 0)), (gm, Obj.cells curm 24 (0, 0)), (gp, Obj.cells (arrB 32 id1) 24 (0, 0)), (go, Obj.cells (arrB 32 id1) 24 (0, 0)), (gn, Obj.cells curn 24 (0, 0)), (gb, Obj.cells (arrB 32 id2) 24 (0, 0)), (ga, Obj.cells (arrB 32 id1) 24 (0, 0))]
      refine anyH_phase [20, 22, 23, 24, 25, 26, 27, 28, 29, 30, 31] 0 rfl ⟨_, he46.choose_spec⟩ (by kernel_rfl) ?_
      have hw47 : EnvX w _ [(gt, Obj.cells (arrB 32 id1) 24 (0, 0)), (gs, Obj.cells (arrB 32 id1) 24 (0, 0)), (g3, Obj.cells c3 24 (0, 0)), (gm, Obj.cells curm 24 (0, 0)), (gp, Obj.cells (arrB 32 id1) 24 (0, 0)), (go, Obj.cells (arrB 32 id1) 24 (0, 0)), (gn, Obj.cells curn 24 (0, 0)), (gb, Obj.cells (arrB 32 id2) 24 (0, 0)), (ga, Obj.cells (arrB 32 id1) 24 (0, 0))] := he46.choose_spec
      have hone := @EnvC.one _ _ _ hw47
      (refine wpG_call (f := 17) (args := #[.slice (some ⟨gt, 0, none⟩) 1 1]) (v := idv (leafT id1)) rfl rfl rfl Tryd.func17 rfl rfl (fun u hu => HRT.out u gt (EnvX.bel hu) (one_ids hu (List.Mem.head _) HID1.out)) ?_ hw47; intro K hK; go_big_quiet_op; go_big_quiet_on)
      (refine wpG_call (f := 21) (args := #[.slice (some ⟨ga, 0, none⟩) 32 32]) (v := idv (leafT id1)) rfl rfl rfl Tryd.func21 rfl rfl (fun u hu => HLF.out ga u (EnvX.bel hu) (bytes_srcI (EnvX.lt hu (List.Mem.tail _ (List.Mem.tail _ (List.Mem.tail _ (List.Mem.tail _ (List.Mem.tail _ (List.Mem.tail _ (List.Mem.tail _ (List.Mem.tail _ (List.Mem.head _)))))))))) (src_box hu (List.Mem.tail _ (List.Mem.tail _ (List.Mem.tail _ (List.Mem.tail _ (List.Mem.tail _ (List.Mem.tail _ (List.Mem.tail _ (List.Mem.tail _ (List.Mem.head _))))))))) (id_src HID1.out.1)))) ?_ hw47; intro K hK; go_big_quiet_op; go_big_quiet_on)
      (refine wpG_val (v := .bool true) rfl rfl (fun u hu => eqlb_op HLL.out HLL.out (decide_eq_true rfl) u rfl rfl) ?_ hw47; intro K hK; go_big_quiet_op; go_big_quiet_on)
      (refine wpG_op rfl rfl rfl ?_; intro K hK; go_big_quiet_op; go_big_quiet_on)
      (refine wpG_op rfl rfl rfl ?_; intro K hK; go_big_quiet_op; go_big_quiet_on)
      (refine wpG_val (v := .slice (some ⟨ga, 0, none⟩) 32 32) rfl rfl (fun u hu => sliceArr_op u rfl) ?_ hw47; intro K hK; go_big_quiet_op; go_big_quiet_on)
      (refine wpG_call (f := 21) (args := #[.slice (some ⟨ga, 0, none⟩) 32 32]) (v := idv (leafT id1)) rfl rfl rfl Tryd.func21 rfl rfl (fun u hu => HLF.out ga u (EnvX.bel hu) (bytes_srcI (EnvX.lt hu (List.Mem.tail _ (List.Mem.tail _ (List.Mem.tail _ (List.Mem.tail _ (List.Mem.tail _ (List.Mem.tail _ (List.Mem.tail _ (List.Mem.tail _ (List.Mem.head _)))))))))) (src_box hu (List.Mem.tail _ (List.Mem.tail _ (List.Mem.tail _ (List.Mem.tail _ (List.Mem.tail _ (List.Mem.tail _ (List.Mem.tail _ (List.Mem.tail _ (List.Mem.head _))))))))) (id_src HID1.out.1)))) ?_ hw47; intro K hK; go_big_quiet_op; go_big_quiet_on)
      (refine wpG_val (v := idv z32) rfl rfl (fun u hu => build_op u built0 rfl) ?_ hw47; intro K hK; go_big_quiet_op; go_big_quiet_on)
      (refine wpG_val (v := .bool true) rfl rfl (fun u hu => neqb_op HLL.out HZ0.out HNZ.out u rfl rfl) ?_ hw47; intro K hK; go_big_quiet_op; go_big_quiet_on)
      (refine wpG_op rfl rfl rfl ?_; intro K hK; go_big_quiet_op; go_big_quiet_on)
      (refine wpG_op rfl rfl rfl ?_; intro K hK; go_big_quiet_op; go_big_quiet_on)
      clear hone hw47
      refine wpG_nil ?_
      refine anyH_done (by kernel_rfl) ?_
      intro u49 E2'
      have EX48 := Lib.hid E2'
      clear E2'
      go_wp2
      go_ret
      exact ⟨rfl, EnvX.bel EX48.out⟩
    · skip
      refine (hOp_fresh (R := fun v N => ∃ g, v = .slice (some ⟨g, 0, none⟩) 3 3 ∧ FreshI [id1, id2, id2] v N ∧ ∃ c3, N = [(g, Obj.cells c3 24 (0, 0))]) (M0 := [(gp, Obj.cells (arrB 32 id1) 24 (0, 0)), (go, Obj.cells (arrB 32 id1) 24 (0, 0)), (gn, Obj.cells curn 24 (0, 0)), (gb, Obj.cells (arrB 32 id2) 24 (0, 0)), (ga, Obj.cells (arrB 32 id1) 24 (0, 0))]) rfl rfl (fun _ h => h) (fun u hu => (FAt_build3 HID1.out.1 HID2.out.1 HID2.out.1 rfl rfl rfl u).mono (fun x N h => by obtain ⟨g, rfl, rfl⟩ := h; exact ⟨g, rfl, fresh3 HI3.out g, _, rfl⟩)) ?_)
      rintro x N ⟨g3, rfl, hF3, c3, rfl⟩ hf he23; intro K' hK'; go_big_quiet_op; go_big_quiet_on
      have HF3 := Lib.hid hF3
      clear hF3
      clear hf
      change anyH _ _ _ _ _ _ _ _ [(g3, Obj.cells c3 24 (0, 0)), (gp, Obj.cells (arrB 32 id1) 24 (0, 0)), (go, Obj.cells (arrB 32 id1) 24 (0, 0)), (gn, Obj.cells curn 24 (0, 0)), (gb, Obj.cells (arrB 32 id2) 24 (0, 0)), (ga, Obj.cells (arrB 32 id1) 24 (0, 0))]
      refine anyH_one (i := 3) (by kernel_rfl) (hOp_fresh (R := FreshI [id1, id2, id2]) (M0 := [(g3, Obj.cells c3 24 (0, 0)), (gp, Obj.cells (arrB 32 id1) 24 (0, 0)), (go, Obj.cells (arrB 32 id1) 24 (0, 0)), (gn, Obj.cells curn 24 (0, 0)), (gb, Obj.cells (arrB 32 id2) 24 (0, 0)), (ga, Obj.cells (arrB 32 id1) 24 (0, 0))]) rfl rfl (fun _ h => h) (fun u hu => FAt_call (fid := 11) (xs := #[.tmp 13, .tmp 14, .const (Value.int IntKind.i64 2)]) (args := #[.slice (some ⟨gp, 0, none⟩) 1 1, idv id2, .int .i64 2]) rfl Tryd.func11 rfl rfl u (callsI_fresh (HNY.out u gp (EnvX.bel hu) (one_ids hu (List.Mem.tail _ (List.Mem.head _)) HID1.out)))) ?_)
      rintro x N hF hf he24; intro K' hK'; go_big_quiet_op; go_big_quiet_on
      obtain ⟨gm, capm, curm, rfl, rfl, hcm⟩ := FreshI.full hF (by decide)
      have HF2 := Lib.hid hF
      clear hF
      clear hf
      change anyH _ _ _ _ _ _ _ _ [(gm, Obj.cells curm 24 (0, 0)), (g3, Obj.cells c3 24 (0, 0)), (gp, Obj.cells (arrB 32 id1) 24 (0, 0)), (go, Obj.cells (arrB 32 id1) 24 (0, 0)), (gn, Obj.cells curn 24 (0, 0)), (gb, Obj.cells (arrB 32 id2) 24 (0, 0)), (ga, Obj.cells (arrB 32 id1) 24 (0, 0))]
      refine anyH_phase [8, 9] 0 rfl ⟨_, he24.choose_spec⟩ (by kernel_rfl) ?_
      have hw25 : EnvX w _ [(gm, Obj.cells curm 24 (0, 0)), (g3, Obj.cells c3 24 (0, 0)), (gp, Obj.cells (arrB 32 id1) 24 (0, 0)), (go, Obj.cells (arrB 32 id1) 24 (0, 0)), (gn, Obj.cells curn 24 (0, 0)), (gb, Obj.cells (arrB 32 id2) 24 (0, 0)), (ga, Obj.cells (arrB 32 id1) 24 (0, 0))] := he24.choose_spec
      have hone := @EnvC.one _ _ _ hw25
      (refine wpG_call (f := 10) (args := #[.slice (some ⟨gm, 0, none⟩) 3 capm, .slice (some ⟨g3, 0, none⟩) 3 3]) (v := .bool true) rfl rfl rfl Tryd.func10 rfl rfl (fun u hu => HIDS2.out u gm capm g3 _ (HF2.out.ids HI3.out hu (fun y hy => by cases List.mem_singleton.1 hy; exact (List.Mem.head _))) (HF3.out.ids HI3.out hu (fun y hy => by cases List.mem_singleton.1 hy; exact (List.Mem.tail _ (List.Mem.head _)))) HF2.out) ?_ hw25; intro K hK; go_big_quiet_op; go_big_quiet_on)
      (refine wpG_op rfl rfl rfl ?_; intro K hK; go_big_quiet_op; go_big_quiet_on)
      clear hone hw25
      refine wpG_nil ?_
      refine anyH_done (by kernel_rfl) ?_
      intro u27 E2'
      have EX26 := Lib.hid E2'
      clear E2'
      go_upto_region 5 with (fail)
      refine wp_region_H (w0 := w) [(gm, Obj.cells curm 24 (0, 0)), (g3, Obj.cells c3 24 (0, 0)), (gp, Obj.cells (arrB 32 id1) 24 (0, 0)), (go, Obj.cells (arrB 32 id1) 24 (0, 0)), (gn, Obj.cells curn 24 (0, 0)), (gb, Obj.cells (arrB 32 id2) 24 (0, 0)), (ga, Obj.cells (arrB 32 id1) 24 (0, 0))] (by kernel_rfl) EX26.out ?_
      refine anyH_phase [0, 1, 2, 3, 4, 5, 7, 8] 24 rfl ⟨_, (EnvX.drew EX26.out)⟩ (by kernel_rfl) ?_
      have hw48 : EnvX w _ [(gm, Obj.cells curm 24 (0, 0)), (g3, Obj.cells c3 24 (0, 0)), (gp, Obj.cells (arrB 32 id1) 24 (0, 0)), (go, Obj.cells (arrB 32 id1) 24 (0, 0)), (gn, Obj.cells curn 24 (0, 0)), (gb, Obj.cells (arrB 32 id2) 24 (0, 0)), (ga, Obj.cells (arrB 32 id1) 24 (0, 0))] := (EnvX.drew EX26.out)
      have hone := @EnvC.one _ _ _ hw48
      (refine wpG_op rfl rfl rfl ?_; intro K hK; go_big_quiet_op; go_big_quiet_on)
      (refine wpG_op rfl rfl rfl ?_; intro K hK; go_big_quiet_op; go_big_quiet_on)
      (refine wpG_op rfl rfl rfl ?_; intro K hK; go_big_quiet_op; go_big_quiet_on)
      (refine wpG_op rfl rfl rfl ?_; intro K hK; go_big_quiet_op; go_big_quiet_on)
      (refine wpG_op rfl rfl rfl ?_; intro K hK; go_big_quiet_op; go_big_quiet_on)
      (refine wpG_val (v := idv id1) rfl rfl (fun u hu => load_run_op u (box_load hu (List.Mem.tail _ (List.Mem.tail _ (List.Mem.tail _ (List.Mem.tail _ (List.Mem.tail _ (List.Mem.tail _ (List.Mem.head _))))))) HID1.out.1) rfl) ?_ hw48; intro K hK; go_big_quiet_op; go_big_quiet_on)
      (refine wpG_val (v := idv id2) rfl rfl (fun u hu => load_run_op u (box_load hu (List.Mem.tail _ (List.Mem.tail _ (List.Mem.tail _ (List.Mem.tail _ (List.Mem.tail _ (List.Mem.head _)))))) HID2.out.1) rfl) ?_ hw48; intro K hK; go_big_quiet_op; go_big_quiet_on)
      (refine wpG_val (v := idv id1) rfl rfl (fun u hu => load_run_op u (box_load hu (List.Mem.tail _ (List.Mem.tail _ (List.Mem.tail _ (List.Mem.tail _ (List.Mem.tail _ (List.Mem.tail _ (List.Mem.head _))))))) HID1.out.1) rfl) ?_ hw48; intro K hK; go_big_quiet_op; go_big_quiet_on)
      clear hone hw48
      refine wpG_nil ?_
      refine anyH_one (i := 6) (by kernel_rfl) (hOp_freshG (R := BuiltI id1) (M0 := [(gm, Obj.cells curm 24 (0, 0)), (g3, Obj.cells c3 24 (0, 0)), (gp, Obj.cells (arrB 32 id1) 24 (0, 0)), (go, Obj.cells (arrB 32 id1) 24 (0, 0)), (gn, Obj.cells curn 24 (0, 0)), (gb, Obj.cells (arrB 32 id2) 24 (0, 0)), (ga, Obj.cells (arrB 32 id1) 24 (0, 0))]) rfl rfl rfl (fun _ h => h) (fun u hu => FAt_buildI HID1.out.1 rfl u) ?_)
      rintro _ _ ⟨gs, rfl, rfl⟩ hf he49; intro K' hK'; go_big_quiet_op; go_big_quiet_on
      clear hf
      change anyH _ _ _ _ _ _ _ _ [(gs, Obj.cells (arrB 32 id1) 24 (0, 0)), (gm, Obj.cells curm 24 (0, 0)), (g3, Obj.cells c3 24 (0, 0)), (gp, Obj.cells (arrB 32 id1) 24 (0, 0)), (go, Obj.cells (arrB 32 id1) 24 (0, 0)), (gn, Obj.cells curn 24 (0, 0)), (gb, Obj.cells (arrB 32 id2) 24 (0, 0)), (ga, Obj.cells (arrB 32 id1) 24 (0, 0))]
      refine anyH_phase [9, 10, 11, 12, 13, 14, 15, 16, 17, 18, 21] 12 rfl ⟨_, he49.choose_spec⟩ (by kernel_rfl) ?_
      have hw50 : EnvX w _ [(gs, Obj.cells (arrB 32 id1) 24 (0, 0)), (gm, Obj.cells curm 24 (0, 0)), (g3, Obj.cells c3 24 (0, 0)), (gp, Obj.cells (arrB 32 id1) 24 (0, 0)), (go, Obj.cells (arrB 32 id1) 24 (0, 0)), (gn, Obj.cells curn 24 (0, 0)), (gb, Obj.cells (arrB 32 id2) 24 (0, 0)), (ga, Obj.cells (arrB 32 id1) 24 (0, 0))] := he49.choose_spec
      have hone := @EnvC.one _ _ _ hw50
      (refine wpG_call (f := 18) (args := #[.slice (some ⟨gs, 0, none⟩) 1 1, idv id2, idv id1]) (v := .bool true) rfl rfl rfl Tryd.func18 rfl rfl (fun u hu => HLD1.out u gs (EnvX.bel hu) (one_ids hu (List.Mem.head _) HID1.out)) ?_ hw50; intro K hK; go_big_quiet_op; go_big_quiet_on)
      (refine wpG_op rfl rfl rfl ?_; intro K hK; go_big_quiet_op; go_big_quiet_on)
      (refine wpG_op rfl rfl rfl ?_; intro K hK; go_big_quiet_op; go_big_quiet_on)
      (refine wpG_val (v := idv id2) rfl rfl (fun u hu => load_run_op u (box_load hu (List.Mem.tail _ (List.Mem.tail _ (List.Mem.tail _ (List.Mem.tail _ (List.Mem.tail _ (List.Mem.tail _ (List.Mem.head _))))))) HID2.out.1) rfl) ?_ hw50; intro K hK; go_big_quiet_op; go_big_quiet_on)
      (refine wpG_val (v := idv id1) rfl rfl (fun u hu => load_run_op u (box_load hu (List.Mem.tail _ (List.Mem.tail _ (List.Mem.tail _ (List.Mem.tail _ (List.Mem.tail _ (List.Mem.tail _ (List.Mem.tail _ (List.Mem.head _)))))))) HID1.out.1) rfl) ?_ hw50; intro K hK; go_big_quiet_op; go_big_quiet_on)
      (refine wpG_call (f := 18) (args := #[.slice none 0 0, idv id2, idv id1]) (v := .bool false) rfl rfl rfl Tryd.func18 rfl rfl (fun u hu => HLD2.out u (EnvX.bel hu)) ?_ hw50; intro K hK; go_big_quiet_op; go_big_quiet_on)
      (refine wpG_op rfl rfl rfl ?_; intro K hK; go_big_quiet_op; go_big_quiet_on)
      (refine wpG_op rfl rfl rfl ?_; intro K hK; go_big_quiet_op; go_big_quiet_on)
      (refine wpG_op rfl rfl rfl ?_; intro K hK; go_big_quiet_op; go_big_quiet_on)
      (refine wpG_val (v := idv id1) rfl rfl (fun u hu => load_run_op u (box_load hu (List.Mem.tail _ (List.Mem.tail _ (List.Mem.tail _ (List.Mem.tail _ (List.Mem.tail _ (List.Mem.tail _ (List.Mem.tail _ (List.Mem.head _)))))))) HID1.out.1) rfl) ?_ hw50; intro K hK; go_big_quiet_op; go_big_quiet_on)
      (refine wpG_val (v := .slice (some ⟨ga, 0, none⟩) 32 32) rfl rfl (fun u hu => sliceArr_op u rfl) ?_ hw50; intro K hK; go_big_quiet_op; go_big_quiet_on)
      clear hone hw50
      refine wpG_nil ?_
      refine anyH_one (i := 19) (by kernel_rfl) (hOp_freshG (R := BuiltI id1) (M0 := [(gs, Obj.cells (arrB 32 id1) 24 (0, 0)), (gm, Obj.cells curm 24 (0, 0)), (g3, Obj.cells c3 24 (0, 0)), (gp, Obj.cells (arrB 32 id1) 24 (0, 0)), (go, Obj.cells (arrB 32 id1) 24 (0, 0)), (gn, Obj.cells curn 24 (0, 0)), (gb, Obj.cells (arrB 32 id2) 24 (0, 0)), (ga, Obj.cells (arrB 32 id1) 24 (0, 0))]) rfl rfl rfl (fun _ h => h) (fun u hu => FAt_buildI HID1.out.1 rfl u) ?_)
      rintro _ _ ⟨gt, rfl, rfl⟩ hf he51; intro K' hK'; go_big_quiet_op; go_big_quiet_on
      clear hf
      change anyH _ _ _ _ _ _ _ _ [(gt, Obj.cells (arrB 32 id1) 24 (0, 0)), (gs, Obj.cells (arrB 32 id1) 24 (0, 0)), (gm, Obj.cells curm 24 (0, 0)), (g3, Obj.cells c3 24 (0, 0)), (gp, Obj.cells (arrB 32 id1) 24 (0, 0)), (go, Obj.cells (arrB 32 id1) 24 (0, 0)), (gn, Obj.cells curn 24 (0, 0)), (gb, Obj.cells (arrB 32 id2) 24 (0, 0)), (ga, Obj.cells (arrB 32 id1) 24 (0, 0))]
      refine anyH_phase [20, 22, 23, 24, 25, 26, 27, 28, 29, 30, 31] 0 rfl ⟨_, he51.choose_spec⟩ (by kernel_rfl) ?_
      have hw52 : EnvX w _ [(gt, Obj.cells (arrB 32 id1) 24 (0, 0)), (gs, Obj.cells (arrB 32 id1) 24 (0, 0)), (gm, Obj.cells curm 24 (0, 0)), (g3, Obj.cells c3 24 (0, 0)), (gp, Obj.cells (arrB 32 id1) 24 (0, 0)), (go, Obj.cells (arrB 32 id1) 24 (0, 0)), (gn, Obj.cells curn 24 (0, 0)), (gb, Obj.cells (arrB 32 id2) 24 (0, 0)), (ga, Obj.cells (arrB 32 id1) 24 (0, 0))] := he51.choose_spec
      have hone := @EnvC.one _ _ _ hw52
      (refine wpG_call (f := 17) (args := #[.slice (some ⟨gt, 0, none⟩) 1 1]) (v := idv (leafT id1)) rfl rfl rfl Tryd.func17 rfl rfl (fun u hu => HRT.out u gt (EnvX.bel hu) (one_ids hu (List.Mem.head _) HID1.out)) ?_ hw52; intro K hK; go_big_quiet_op; go_big_quiet_on)
      (refine wpG_call (f := 21) (args := #[.slice (some ⟨ga, 0, none⟩) 32 32]) (v := idv (leafT id1)) rfl rfl rfl Tryd.func21 rfl rfl (fun u hu => HLF.out ga u (EnvX.bel hu) (bytes_srcI (EnvX.lt hu (List.Mem.tail _ (List.Mem.tail _ (List.Mem.tail _ (List.Mem.tail _ (List.Mem.tail _ (List.Mem.tail _ (List.Mem.tail _ (List.Mem.tail _ (List.Mem.head _)))))))))) (src_box hu (List.Mem.tail _ (List.Mem.tail _ (List.Mem.tail _ (List.Mem.tail _ (List.Mem.tail _ (List.Mem.tail _ (List.Mem.tail _ (List.Mem.tail _ (List.Mem.head _))))))))) (id_src HID1.out.1)))) ?_ hw52; intro K hK; go_big_quiet_op; go_big_quiet_on)
      (refine wpG_val (v := .bool true) rfl rfl (fun u hu => eqlb_op HLL.out HLL.out (decide_eq_true rfl) u rfl rfl) ?_ hw52; intro K hK; go_big_quiet_op; go_big_quiet_on)
      (refine wpG_op rfl rfl rfl ?_; intro K hK; go_big_quiet_op; go_big_quiet_on)
      (refine wpG_op rfl rfl rfl ?_; intro K hK; go_big_quiet_op; go_big_quiet_on)
      (refine wpG_val (v := .slice (some ⟨ga, 0, none⟩) 32 32) rfl rfl (fun u hu => sliceArr_op u rfl) ?_ hw52; intro K hK; go_big_quiet_op; go_big_quiet_on)
      (refine wpG_call (f := 21) (args := #[.slice (some ⟨ga, 0, none⟩) 32 32]) (v := idv (leafT id1)) rfl rfl rfl Tryd.func21 rfl rfl (fun u hu => HLF.out ga u (EnvX.bel hu) (bytes_srcI (EnvX.lt hu (List.Mem.tail _ (List.Mem.tail _ (List.Mem.tail _ (List.Mem.tail _ (List.Mem.tail _ (List.Mem.tail _ (List.Mem.tail _ (List.Mem.tail _ (List.Mem.head _)))))))))) (src_box hu (List.Mem.tail _ (List.Mem.tail _ (List.Mem.tail _ (List.Mem.tail _ (List.Mem.tail _ (List.Mem.tail _ (List.Mem.tail _ (List.Mem.tail _ (List.Mem.head _))))))))) (id_src HID1.out.1)))) ?_ hw52; intro K hK; go_big_quiet_op; go_big_quiet_on)
      (refine wpG_val (v := idv z32) rfl rfl (fun u hu => build_op u built0 rfl) ?_ hw52; intro K hK; go_big_quiet_op; go_big_quiet_on)
      (refine wpG_val (v := .bool true) rfl rfl (fun u hu => neqb_op HLL.out HZ0.out HNZ.out u rfl rfl) ?_ hw52; intro K hK; go_big_quiet_op; go_big_quiet_on)
      (refine wpG_op rfl rfl rfl ?_; intro K hK; go_big_quiet_op; go_big_quiet_on)
      (refine wpG_op rfl rfl rfl ?_; intro K hK; go_big_quiet_op; go_big_quiet_on)
      clear hone hw52
      refine wpG_nil ?_
      refine anyH_done (by kernel_rfl) ?_
      intro u54 E2'
      have EX53 := Lib.hid E2'
      clear E2'
      go_wp2
      go_ret
      exact ⟨rfl, EnvX.bel EX53.out⟩
  · skip
    refine (hOp_fresh (R := fun v N => ∃ g, v = .slice (some ⟨g, 0, none⟩) 3 3 ∧ FreshI [id1, id2, id2] v N ∧ ∃ c3, N = [(g, Obj.cells c3 24 (0, 0))]) (M0 := [(go, Obj.cells (arrB 32 id1) 24 (0, 0)), (gn, Obj.cells curn 24 (0, 0)), (gb, Obj.cells (arrB 32 id2) 24 (0, 0)), (ga, Obj.cells (arrB 32 id1) 24 (0, 0))]) rfl rfl (fun _ h => h) (fun u hu => (FAt_build3 HID1.out.1 HID2.out.1 HID2.out.1 rfl rfl rfl u).mono (fun x N h => by obtain ⟨g, rfl, rfl⟩ := h; exact ⟨g, rfl, fresh3 HI3.out g, _, rfl⟩)) ?_)
    rintro x N ⟨g3, rfl, hF3, c3, rfl⟩ hf he28; intro K' hK'; go_big_quiet_op; go_big_quiet_on
    have HF3 := Lib.hid hF3
    clear hF3
    clear hf
    change anyH _ _ _ _ _ _ _ _ [(g3, Obj.cells c3 24 (0, 0)), (go, Obj.cells (arrB 32 id1) 24 (0, 0)), (gn, Obj.cells curn 24 (0, 0)), (gb, Obj.cells (arrB 32 id2) 24 (0, 0)), (ga, Obj.cells (arrB 32 id1) 24 (0, 0))]
    refine anyH_one (i := 1) (by kernel_rfl) (hOp_fresh (R := BuiltI id1) (M0 := [(g3, Obj.cells c3 24 (0, 0)), (go, Obj.cells (arrB 32 id1) 24 (0, 0)), (gn, Obj.cells curn 24 (0, 0)), (gb, Obj.cells (arrB 32 id2) 24 (0, 0)), (ga, Obj.cells (arrB 32 id1) 24 (0, 0))]) rfl rfl (fun _ h => h) (fun u hu => FAt_buildI HID1.out.1 rfl u) ?_)
    rintro _ _ ⟨gp, rfl, rfl⟩ hf he29; intro K' hK'; go_big_quiet_op; go_big_quiet_on
    clear hf
    change anyH _ _ _ _ _ _ _ _ [(gp, Obj.cells (arrB 32 id1) 24 (0, 0)), (g3, Obj.cells c3 24 (0, 0)), (go, Obj.cells (arrB 32 id1) 24 (0, 0)), (gn, Obj.cells curn 24 (0, 0)), (gb, Obj.cells (arrB 32 id2) 24 (0, 0)), (ga, Obj.cells (arrB 32 id1) 24 (0, 0))]
    refine anyH_one (i := 3) (by kernel_rfl) (hOp_fresh (R := FreshI [id1, id2, id2]) (M0 := [(gp, Obj.cells (arrB 32 id1) 24 (0, 0)), (g3, Obj.cells c3 24 (0, 0)), (go, Obj.cells (arrB 32 id1) 24 (0, 0)), (gn, Obj.cells curn 24 (0, 0)), (gb, Obj.cells (arrB 32 id2) 24 (0, 0)), (ga, Obj.cells (arrB 32 id1) 24 (0, 0))]) rfl rfl (fun _ h => h) (fun u hu => FAt_call (fid := 11) (xs := #[.tmp 13, .tmp 14, .const (Value.int IntKind.i64 2)]) (args := #[.slice (some ⟨gp, 0, none⟩) 1 1, idv id2, .int .i64 2]) rfl Tryd.func11 rfl rfl u (callsI_fresh (HNY.out u gp (EnvX.bel hu) (one_ids hu (List.Mem.head _) HID1.out)))) ?_)
    rintro x N hF hf he30; intro K' hK'; go_big_quiet_op; go_big_quiet_on
    obtain ⟨gm, capm, curm, rfl, rfl, hcm⟩ := FreshI.full hF (by decide)
    have HF2 := Lib.hid hF
    clear hF
    clear hf
    change anyH _ _ _ _ _ _ _ _ [(gm, Obj.cells curm 24 (0, 0)), (gp, Obj.cells (arrB 32 id1) 24 (0, 0)), (g3, Obj.cells c3 24 (0, 0)), (go, Obj.cells (arrB 32 id1) 24 (0, 0)), (gn, Obj.cells curn 24 (0, 0)), (gb, Obj.cells (arrB 32 id2) 24 (0, 0)), (ga, Obj.cells (arrB 32 id1) 24 (0, 0))]
    refine anyH_phase [8, 9] 0 rfl ⟨_, he30.choose_spec⟩ (by kernel_rfl) ?_
    have hw31 : EnvX w _ [(gm, Obj.cells curm 24 (0, 0)), (gp, Obj.cells (arrB 32 id1) 24 (0, 0)), (g3, Obj.cells c3 24 (0, 0)), (go, Obj.cells (arrB 32 id1) 24 (0, 0)), (gn, Obj.cells curn 24 (0, 0)), (gb, Obj.cells (arrB 32 id2) 24 (0, 0)), (ga, Obj.cells (arrB 32 id1) 24 (0, 0))] := he30.choose_spec
    have hone := @EnvC.one _ _ _ hw31
    (refine wpG_call (f := 10) (args := #[.slice (some ⟨gm, 0, none⟩) 3 capm, .slice (some ⟨g3, 0, none⟩) 3 3]) (v := .bool true) rfl rfl rfl Tryd.func10 rfl rfl (fun u hu => HIDS2.out u gm capm g3 _ (HF2.out.ids HI3.out hu (fun y hy => by cases List.mem_singleton.1 hy; exact (List.Mem.head _))) (HF3.out.ids HI3.out hu (fun y hy => by cases List.mem_singleton.1 hy; exact (List.Mem.tail _ (List.Mem.tail _ (List.Mem.head _))))) HF2.out) ?_ hw31; intro K hK; go_big_quiet_op; go_big_quiet_on)
    (refine wpG_op rfl rfl rfl ?_; intro K hK; go_big_quiet_op; go_big_quiet_on)
    clear hone hw31
    refine wpG_nil ?_
    refine anyH_done (by kernel_rfl) ?_
    intro u33 E2'
    have EX32 := Lib.hid E2'
    clear E2'
    go_upto_region 5 with (fail)
    refine wp_region_H (w0 := w) [(gm, Obj.cells curm 24 (0, 0)), (gp, Obj.cells (arrB 32 id1) 24 (0, 0)), (g3, Obj.cells c3 24 (0, 0)), (go, Obj.cells (arrB 32 id1) 24 (0, 0)), (gn, Obj.cells curn 24 (0, 0)), (gb, Obj.cells (arrB 32 id2) 24 (0, 0)), (ga, Obj.cells (arrB 32 id1) 24 (0, 0))] (by kernel_rfl) EX32.out ?_
    refine anyH_phase [0, 1, 2, 3, 4, 5, 7, 8] 24 rfl ⟨_, (EnvX.drew EX32.out)⟩ (by kernel_rfl) ?_
    have hw54 : EnvX w _ [(gm, Obj.cells curm 24 (0, 0)), (gp, Obj.cells (arrB 32 id1) 24 (0, 0)), (g3, Obj.cells c3 24 (0, 0)), (go, Obj.cells (arrB 32 id1) 24 (0, 0)), (gn, Obj.cells curn 24 (0, 0)), (gb, Obj.cells (arrB 32 id2) 24 (0, 0)), (ga, Obj.cells (arrB 32 id1) 24 (0, 0))] := (EnvX.drew EX32.out)
    have hone := @EnvC.one _ _ _ hw54
    (refine wpG_op rfl rfl rfl ?_; intro K hK; go_big_quiet_op; go_big_quiet_on)
    (refine wpG_op rfl rfl rfl ?_; intro K hK; go_big_quiet_op; go_big_quiet_on)
    (refine wpG_op rfl rfl rfl ?_; intro K hK; go_big_quiet_op; go_big_quiet_on)
    (refine wpG_op rfl rfl rfl ?_; intro K hK; go_big_quiet_op; go_big_quiet_on)
    (refine wpG_op rfl rfl rfl ?_; intro K hK; go_big_quiet_op; go_big_quiet_on)
    (refine wpG_val (v := idv id1) rfl rfl (fun u hu => load_run_op u (box_load hu (List.Mem.tail _ (List.Mem.tail _ (List.Mem.tail _ (List.Mem.tail _ (List.Mem.tail _ (List.Mem.tail _ (List.Mem.head _))))))) HID1.out.1) rfl) ?_ hw54; intro K hK; go_big_quiet_op; go_big_quiet_on)
    (refine wpG_val (v := idv id2) rfl rfl (fun u hu => load_run_op u (box_load hu (List.Mem.tail _ (List.Mem.tail _ (List.Mem.tail _ (List.Mem.tail _ (List.Mem.tail _ (List.Mem.head _)))))) HID2.out.1) rfl) ?_ hw54; intro K hK; go_big_quiet_op; go_big_quiet_on)
    (refine wpG_val (v := idv id1) rfl rfl (fun u hu => load_run_op u (box_load hu (List.Mem.tail _ (List.Mem.tail _ (List.Mem.tail _ (List.Mem.tail _ (List.Mem.tail _ (List.Mem.tail _ (List.Mem.head _))))))) HID1.out.1) rfl) ?_ hw54; intro K hK; go_big_quiet_op; go_big_quiet_on)
    clear hone hw54
    refine wpG_nil ?_
    refine anyH_one (i := 6) (by kernel_rfl) (hOp_freshG (R := BuiltI id1) (M0 := [(gm, Obj.cells curm 24 (0, 0)), (gp, Obj.cells (arrB 32 id1) 24 (0, 0)), (g3, Obj.cells c3 24 (0, 0)), (go, Obj.cells (arrB 32 id1) 24 (0, 0)), (gn, Obj.cells curn 24 (0, 0)), (gb, Obj.cells (arrB 32 id2) 24 (0, 0)), (ga, Obj.cells (arrB 32 id1) 24 (0, 0))]) rfl rfl rfl (fun _ h => h) (fun u hu => FAt_buildI HID1.out.1 rfl u) ?_)
    rintro _ _ ⟨gs, rfl, rfl⟩ hf he55; intro K' hK'; go_big_quiet_op; go_big_quiet_on
    clear hf
    change anyH _ _ _ _ _ _ _ _ [(gs, Obj.cells (arrB 32 id1) 24 (0, 0)), (gm, Obj.cells curm 24 (0, 0)), (gp, Obj.cells (arrB 32 id1) 24 (0, 0)), (g3, Obj.cells c3 24 (0, 0)), (go, Obj.cells (arrB 32 id1) 24 (0, 0)), (gn, Obj.cells curn 24 (0, 0)), (gb, Obj.cells (arrB 32 id2) 24 (0, 0)), (ga, Obj.cells (arrB 32 id1) 24 (0, 0))]
    refine anyH_phase [9, 10, 11, 12, 13, 14, 15, 16, 17, 18, 21] 12 rfl ⟨_, he55.choose_spec⟩ (by kernel_rfl) ?_
    have hw56 : EnvX w _ [(gs, Obj.cells (arrB 32 id1) 24 (0, 0)), (gm, Obj.cells curm 24 (0, 0)), (gp, Obj.cells (arrB 32 id1) 24 (0, 0)), (g3, Obj.cells c3 24 (0, 0)), (go, Obj.cells (arrB 32 id1) 24 (0, 0)), (gn, Obj.cells curn 24 (0, 0)), (gb, Obj.cells (arrB 32 id2) 24 (0, 0)), (ga, Obj.cells (arrB 32 id1) 24 (0, 0))] := he55.choose_spec
    have hone := @EnvC.one _ _ _ hw56
    (refine wpG_call (f := 18) (args := #[.slice (some ⟨gs, 0, none⟩) 1 1, idv id2, idv id1]) (v := .bool true) rfl rfl rfl Tryd.func18 rfl rfl (fun u hu => HLD1.out u gs (EnvX.bel hu) (one_ids hu (List.Mem.head _) HID1.out)) ?_ hw56; intro K hK; go_big_quiet_op; go_big_quiet_on)
    (refine wpG_op rfl rfl rfl ?_; intro K hK; go_big_quiet_op; go_big_quiet_on)
    (refine wpG_op rfl rfl rfl ?_; intro K hK; go_big_quiet_op; go_big_quiet_on)
    (refine wpG_val (v := idv id2) rfl rfl (fun u hu => load_run_op u (box_load hu (List.Mem.tail _ (List.Mem.tail _ (List.Mem.tail _ (List.Mem.tail _ (List.Mem.tail _ (List.Mem.tail _ (List.Mem.head _))))))) HID2.out.1) rfl) ?_ hw56; intro K hK; go_big_quiet_op; go_big_quiet_on)
    (refine wpG_val (v := idv id1) rfl rfl (fun u hu => load_run_op u (box_load hu (List.Mem.tail _ (List.Mem.tail _ (List.Mem.tail _ (List.Mem.tail _ (List.Mem.tail _ (List.Mem.tail _ (List.Mem.tail _ (List.Mem.head _)))))))) HID1.out.1) rfl) ?_ hw56; intro K hK; go_big_quiet_op; go_big_quiet_on)
    (refine wpG_call (f := 18) (args := #[.slice none 0 0, idv id2, idv id1]) (v := .bool false) rfl rfl rfl Tryd.func18 rfl rfl (fun u hu => HLD2.out u (EnvX.bel hu)) ?_ hw56; intro K hK; go_big_quiet_op; go_big_quiet_on)
    (refine wpG_op rfl rfl rfl ?_; intro K hK; go_big_quiet_op; go_big_quiet_on)
    (refine wpG_op rfl rfl rfl ?_; intro K hK; go_big_quiet_op; go_big_quiet_on)
    (refine wpG_op rfl rfl rfl ?_; intro K hK; go_big_quiet_op; go_big_quiet_on)
    (refine wpG_val (v := idv id1) rfl rfl (fun u hu => load_run_op u (box_load hu (List.Mem.tail _ (List.Mem.tail _ (List.Mem.tail _ (List.Mem.tail _ (List.Mem.tail _ (List.Mem.tail _ (List.Mem.tail _ (List.Mem.head _)))))))) HID1.out.1) rfl) ?_ hw56; intro K hK; go_big_quiet_op; go_big_quiet_on)
    (refine wpG_val (v := .slice (some ⟨ga, 0, none⟩) 32 32) rfl rfl (fun u hu => sliceArr_op u rfl) ?_ hw56; intro K hK; go_big_quiet_op; go_big_quiet_on)
    clear hone hw56
    refine wpG_nil ?_
    refine anyH_one (i := 19) (by kernel_rfl) (hOp_freshG (R := BuiltI id1) (M0 := [(gs, Obj.cells (arrB 32 id1) 24 (0, 0)), (gm, Obj.cells curm 24 (0, 0)), (gp, Obj.cells (arrB 32 id1) 24 (0, 0)), (g3, Obj.cells c3 24 (0, 0)), (go, Obj.cells (arrB 32 id1) 24 (0, 0)), (gn, Obj.cells curn 24 (0, 0)), (gb, Obj.cells (arrB 32 id2) 24 (0, 0)), (ga, Obj.cells (arrB 32 id1) 24 (0, 0))]) rfl rfl rfl (fun _ h => h) (fun u hu => FAt_buildI HID1.out.1 rfl u) ?_)
    rintro _ _ ⟨gt, rfl, rfl⟩ hf he57; intro K' hK'; go_big_quiet_op; go_big_quiet_on
    clear hf
    change anyH _ _ _ _ _ _ _ _ [(gt, Obj.cells (arrB 32 id1) 24 (0, 0)), (gs, Obj.cells (arrB 32 id1) 24 (0, 0)), (gm, Obj.cells curm 24 (0, 0)), (gp, Obj.cells (arrB 32 id1) 24 (0, 0)), (g3, Obj.cells c3 24 (0, 0)), (go, Obj.cells (arrB 32 id1) 24 (0, 0)), (gn, Obj.cells curn 24 (0, 0)), (gb, Obj.cells (arrB 32 id2) 24 (0, 0)), (ga, Obj.cells (arrB 32 id1) 24 (0, 0))]
    refine anyH_phase [20, 22, 23, 24, 25, 26, 27, 28, 29, 30, 31] 0 rfl ⟨_, he57.choose_spec⟩ (by kernel_rfl) ?_
    have hw58 : EnvX w _ [(gt, Obj.cells (arrB 32 id1) 24 (0, 0)), (gs, Obj.cells (arrB 32 id1) 24 (0, 0)), (gm, Obj.cells curm 24 (0, 0)), (gp, Obj.cells (arrB 32 id1) 24 (0, 0)), (g3, Obj.cells c3 24 (0, 0)), (go, Obj.cells (arrB 32 id1) 24 (0, 0)), (gn, Obj.cells curn 24 (0, 0)), (gb, Obj.cells (arrB 32 id2) 24 (0, 0)), (ga, Obj.cells (arrB 32 id1) 24 (0, 0))] := he57.choose_spec
    have hone := @EnvC.one _ _ _ hw58
    (refine wpG_call (f := 17) (args := #[.slice (some ⟨gt, 0, none⟩) 1 1]) (v := idv (leafT id1)) rfl rfl rfl Tryd.func17 rfl rfl (fun u hu => HRT.out u gt (EnvX.bel hu) (one_ids hu (List.Mem.head _) HID1.out)) ?_ hw58; intro K hK; go_big_quiet_op; go_big_quiet_on)
    (refine wpG_call (f := 21) (args := #[.slice (some ⟨ga, 0, none⟩) 32 32]) (v := idv (leafT id1)) rfl rfl rfl Tryd.func21 rfl rfl (fun u hu => HLF.out ga u (EnvX.bel hu) (bytes_srcI (EnvX.lt hu (List.Mem.tail _ (List.Mem.tail _ (List.Mem.tail _ (List.Mem.tail _ (List.Mem.tail _ (List.Mem.tail _ (List.Mem.tail _ (List.Mem.tail _ (List.Mem.head _)))))))))) (src_box hu (List.Mem.tail _ (List.Mem.tail _ (List.Mem.tail _ (List.Mem.tail _ (List.Mem.tail _ (List.Mem.tail _ (List.Mem.tail _ (List.Mem.tail _ (List.Mem.head _))))))))) (id_src HID1.out.1)))) ?_ hw58; intro K hK; go_big_quiet_op; go_big_quiet_on)
    (refine wpG_val (v := .bool true) rfl rfl (fun u hu => eqlb_op HLL.out HLL.out (decide_eq_true rfl) u rfl rfl) ?_ hw58; intro K hK; go_big_quiet_op; go_big_quiet_on)
    (refine wpG_op rfl rfl rfl ?_; intro K hK; go_big_quiet_op; go_big_quiet_on)
    (refine wpG_op rfl rfl rfl ?_; intro K hK; go_big_quiet_op; go_big_quiet_on)
    (refine wpG_val (v := .slice (some ⟨ga, 0, none⟩) 32 32) rfl rfl (fun u hu => sliceArr_op u rfl) ?_ hw58; intro K hK; go_big_quiet_op; go_big_quiet_on)
    (refine wpG_call (f := 21) (args := #[.slice (some ⟨ga, 0, none⟩) 32 32]) (v := idv (leafT id1)) rfl rfl rfl Tryd.func21 rfl rfl (fun u hu => HLF.out ga u (EnvX.bel hu) (bytes_srcI (EnvX.lt hu (List.Mem.tail _ (List.Mem.tail _ (List.Mem.tail _ (List.Mem.tail _ (List.Mem.tail _ (List.Mem.tail _ (List.Mem.tail _ (List.Mem.tail _ (List.Mem.head _)))))))))) (src_box hu (List.Mem.tail _ (List.Mem.tail _ (List.Mem.tail _ (List.Mem.tail _ (List.Mem.tail _ (List.Mem.tail _ (List.Mem.tail _ (List.Mem.tail _ (List.Mem.head _))))))))) (id_src HID1.out.1)))) ?_ hw58; intro K hK; go_big_quiet_op; go_big_quiet_on)
    (refine wpG_val (v := idv z32) rfl rfl (fun u hu => build_op u built0 rfl) ?_ hw58; intro K hK; go_big_quiet_op; go_big_quiet_on)
    (refine wpG_val (v := .bool true) rfl rfl (fun u hu => neqb_op HLL.out HZ0.out HNZ.out u rfl rfl) ?_ hw58; intro K hK; go_big_quiet_op; go_big_quiet_on)
    (refine wpG_op rfl rfl rfl ?_; intro K hK; go_big_quiet_op; go_big_quiet_on)
    (refine wpG_op rfl rfl rfl ?_; intro K hK; go_big_quiet_op; go_big_quiet_on)
    clear hone hw58
    refine wpG_nil ?_
    refine anyH_done (by kernel_rfl) ?_
    intro u60 E2'
    have EX59 := Lib.hid E2'
    clear E2'
    go_wp2
    go_ret
    exact ⟨rfl, EnvX.bel EX59.out⟩
end Go.Proofs.YtbjojpgedcikiaaDoor

namespace Go.Proofs.YtbjojpgedcikiaaDoor
set_option maxRecDepth 8000
open Go.RowKit

section
variable {P : Program} {md : Region.Mode} {w0 : World}
def lexN (md : Region.Mode) (ops : Array Oper) : List Nat → Array Bool → Bool
  | [], _ => true
  | i :: rest, listed => (Region.ready md ops listed).contains i && gfree md ops listed i true && lexN md ops rest (listed.setIfInBounds i true)
theorem anyH_phaseN0 {Q : Act → Boxes → Prop} {l : List Oper} (hs : Region.noSelect l.toArray = true) {L : Boxes} : ∀ (ord : List Nat) (f : Nat) (listed : Array Bool) (a : Act), closedL md l.toArray listed →
    lexN md l.toArray ord listed = true → wpG0 P l (EnvC w0 []) (fun a' => anyH P md l.toArray w0 Q f (listedBy ord listed) a' L) ord a → anyH P md l.toArray w0 Q (ord.length + f) listed a L
  | [], f, listed, a, _, _, h => by simpa [wpG0, listedBy] using h
  | i :: ord, f, listed, a, hcl, hB, h => by
    simp only [lexN, Bool.and_eq_true] at hB
    obtain ⟨⟨hr, hf⟩, hB'⟩ := hB
    have hr' : i ∈ Region.ready md l.toArray listed := by simpa using hr
    unfold wpG0 at h
    cases hl : l[i]? with
    | none => simp only [hl] at h
    | some o =>
      simp only [hl] at h
      have ho : l.toArray[i]? = some o := by simpa using hl
      have hlen : (i :: ord).length + f = (ord.length + f) + 1 := by simp only [List.length_cons]; omega
      rw [hlen]
      have hfr := gfree_spec ho hf
      by_cases hw : Region.wanted o (yielded l.toArray a.tmps) = true
      · simp only [hw, if_true] at h
        obtain ⟨v, hv, hK⟩ := h
        exact anyH_first (M0 := []) ho (Region.noSelect_spec hs) _ listed a L hcl (fun _ h => by cases h) (fun j oj h1 h2 h3 => (hfr j oj h1 h2 h3).imp id (fun k => ⟨k.1, .inl rfl⟩)) hr' (.inl ⟨hw, hv⟩)
          (anyH_phaseN0 hs ord f _ _ (closedL_set hcl hr') hB' hK)
      · simp only [hw, Bool.false_eq_true, if_false] at h
        have hw' : Region.wanted o (yielded l.toArray a.tmps) = false := by simpa using hw
        exact anyH_first (M0 := []) ho (Region.noSelect_spec hs) _ listed a L hcl (fun _ h => by cases h) (fun j oj h1 h2 h3 => (hfr j oj h1 h2 h3).imp id (fun k => ⟨k.1, .inl rfl⟩)) hr' (.inr ⟨hw', rfl⟩)
          (anyH_phaseN0 hs ord f _ _ (closedL_set hcl hr') hB' h)
theorem anyH_phaseN {Q : Act → Boxes → Prop} {l : List Oper} {F : Nat} (ord : List Nat) (f : Nat) {L : Boxes} {listed : Array Bool} {a : Act} (hF : F = ord.length + f)
    (hB : (Region.noSelect l.toArray && closedB md l.toArray listed && lexN md l.toArray ord listed) = true)
    (h : wpG P l (EnvC w0 []) (fun a' => anyH P md l.toArray w0 Q f (listedBy ord listed) a' L) ord a) : anyH P md l.toArray w0 Q F listed a L := by
  subst hF
  simp only [Bool.and_eq_true] at hB
  exact anyH_phaseN0 hB.1.1 ord f listed a (closedL_of hB.1.2) hB.2 h.out
end
/-- two stretches of a way -/
theorem EnvX.comb {w w5 u : World} {M N : Boxes} (h : EnvX w w5 M) (k : EnvX w5 u N) : EnvX w u (N ++ M) := by
  have h1 := h.below k.bel
  refine ⟨h1.bel, fun g o hm => ?_⟩
  rcases List.mem_append.1 hm with e | e
  · exact k.box g o e
  · exact h1.box g o e
end Go.Proofs.YtbjojpgedcikiaaDoor

namespace Go.Proofs.YtbjojpgedcikiaaDoor
set_option maxRecDepth 8000
open Go.RowKit

section
variable {a : Act} {dst : Option Tmp} {x y : Operand} {ty : TypeId} {pos : String} {after : Array Edge} {gd : Option (Nat × Bool)}
theorem ltZ_op {m k : Int} {b : Bool} (u : World) (hb : decide (m < k) = b) (hx : a.eval x = .int .i64 m) (hy : a.eval y = .int .i64 k) :
    (execOp a.eval ⟨dst, .binOp .lss 3 x y 3, ty, pos, after, gd⟩).run Tryd.prog u = .ok (.value (.bool b)) u := by
  subst hb
  unfold execOp
  simp only [hx, hy]
  go_simp
theorem gtZ_op {m k : Int} {b : Bool} (u : World) (hb : decide (k < m) = b) (hx : a.eval x = .int .i64 m) (hy : a.eval y = .int .i64 k) :
    (execOp a.eval ⟨dst, .binOp .gtr 3 x y 3, ty, pos, after, gd⟩).run Tryd.prog u = .ok (.value (.bool b)) u := by
  subst hb
  unfold execOp
  simp only [hx, hy]
  go_simp
theorem leZ_op {m k : Int} {b : Bool} (u : World) (hb : decide (m ≤ k) = b) (hx : a.eval x = .int .i64 m) (hy : a.eval y = .int .i64 k) :
    (execOp a.eval ⟨dst, .binOp .leq 3 x y 3, ty, pos, after, gd⟩).run Tryd.prog u = .ok (.value (.bool b)) u := by
  subst hb
  unfold execOp
  simp only [hx, hy]
  go_simp
end
end Go.Proofs.YtbjojpgedcikiaaDoor
