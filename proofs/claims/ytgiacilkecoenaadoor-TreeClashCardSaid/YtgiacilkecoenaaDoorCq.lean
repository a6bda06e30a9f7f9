/- The law's awake. -/
import Derived.Test.YtgiacilkecoenaaDoorCp
import Derived.Laws.OwnMore
namespace Go.Proofs.YtgiacilkecoenaaDoor
open Go.RowKit

section
variable {a : Act} {dst : Option Tmp} {x y z : Operand} {ty : TypeId} {pos : String} {after : Array Edge} {gd : Option (Nat × Bool)}
theorem built1 : Tryd.prog.built 29 [(0, .int .u8 1)] = some (arrB 32 id1) := by kernel_rfl
theorem built2 : Tryd.prog.built 29 [(0, .int .u8 2)] = some (arrB 32 id2) := by kernel_rfl
theorem built3 : Tryd.prog.built 29 [(0, .int .u8 3)] = some (arrB 32 id3) := by kernel_rfl
theorem built0 : Tryd.prog.built 29 [] = some (arrB 32 z32) := by kernel_rfl
theorem build_op {parts : Array (Nat × Operand)} {ps : List (Nat × Value)} {r : List Int} (u : World) (h : Tryd.prog.built 29 ps = some (arrB 32 r)) (hp : (parts.toList.map fun x => (x.1, a.eval x.2)) = ps) :
    (execOp a.eval ⟨dst, .build 29 parts, ty, pos, after, gd⟩).run Tryd.prog u = .ok (.value (idv r)) u := by
  unfold execOp
  simp only [Sem.run_bind, run_build u 29 _ (arrB 32 r) (by rw [Array.toList_map]; exact (congrArg _ hp).trans h), Result.andThen_ok]
  rfl
theorem run_build3 (p q r : List Int) (hp : p.length = 32) (hq : q.length = 32) (hr : r.length = 32) (u : World) : (Instr.buildSlice 22 3 #[(0, .agg (arrB 32 p)), (1, .agg (arrB 32 q)), (2, .agg (arrB 32 r))]).run Tryd.prog u = .ok (.slice (some ⟨u.heap.size, 0, none⟩) 3 3) (u.alloc (.cells ([p, q, r].flatten.map u8v).toArray 29)) := by
  cases hq' : Tryd.prog.info? 29 with
  | none => have := infoIz; rw [hq'] at this; cases this
  | some i =>
    have hi := infoIz
    rw [hq'] at hi
    simp only [Option.map_some, Option.some.injEq, Prod.mk.injEq] at hi
    obtain ⟨h1, h2, h3⟩ := hi
    refine run_buildSlice u 22 29 3 _ _ i (.agg (arrB 32 [])) Tryd.underlying22 hq' h1 (by omega) (by omega) ?_
    rw [h2]
    have hf := Great.fill_whole (s := 32) (by decide) [.agg (arrB 32 p), .agg (arrB 32 q), .agg (arrB 32 r)] ((Array.range (3 * 32)).map ((Value.agg (arrB 32 [])).cells[· % (Value.agg (arrB 32 [])).cells.size]!)) (by
      intro v hv
      simp only [List.mem_cons, List.not_mem_nil, or_false] at hv
      rcases hv with rfl | rfl | rfl
      · exact arrB_size _ _ (by omega)
      · exact arrB_size _ _ (by omega)
      · exact arrB_size _ _ (by omega)) (by simp)
    rw [arr_id hp, arr_id hq, arr_id hr] at hf ⊢
    simpa [Value.cells] using hf
theorem FAt_build3 {p q r : List Int} (hp : p.length = 32) (hq : q.length = 32) (hr : r.length = 32) (hx : a.eval x = idv p) (hy : a.eval y = idv q) (hz : a.eval z = idv r) (u : World) :
    FAt Tryd.prog ⟨dst, .buildSlice 22 3 #[(0, x), (1, y), (2, z)], ty, pos, after, gd⟩ a (fun v N => ∃ g, v = .slice (some ⟨g, 0, none⟩) 3 3 ∧ N = [(g, Obj.cells ([p, q, r].flatten.map u8v).toArray 29 (0, 0))]) u := by
  unfold FAt execOp
  unfold idv at hx hy hz
  simp only [List.map_toArray, List.map_cons, List.map_nil, hx, hy, hz, Sem.run_bind, Sem.run_pure, run_build3 p q r hp hq hr u, Result.andThen_ok]
  refine ⟨(Below.refl _ _).alloc (Nat.le_refl _) _, _, ⟨_, rfl, rfl⟩, fun y hy => ?_⟩
  cases List.mem_singleton.1 hy
  exact ⟨Nat.le_refl _, heap_alloc_new u _⟩
theorem fresh3 {p q r : List Int} (h : isIds [p, q, r]) (g : Nat) : FreshI [p, q, r] (.slice (some ⟨g, 0, none⟩) 3 3) [(g, Obj.cells ([p, q, r].flatten.map u8v).toArray 29 (0, 0))] :=
  .inl ⟨g, 3, _, rfl, rfl, Nat.le_refl _, by decide, by simp [(h p (by simp)).1, (h q (by simp)).1, (h r (by simp)).1], by
    rw [List.take_of_length_le]
    have := h.flat_len
    simp only [List.length_map]
    omega⟩
/-- one new byte -/
theorem FAt_byte (k : Int) (u : World) : FAt Tryd.prog ⟨dst, .buildSlice 23 1 #[(0, .const (.int .u8 k))], ty, pos, after, gd⟩ a (fun v N => ∃ g, v = .slice (some ⟨g, 0, none⟩) 1 1 ∧ N = [(g, Obj.cells (arrB 1 [k]) 5 (0, 0))]) u := by
  have h : (execOp a.eval ⟨dst, .buildSlice 23 1 #[(0, .const (.int .u8 k))], ty, pos, after, gd⟩).run Tryd.prog u = .ok (.value (.slice (some ⟨u.heap.size, 0, none⟩) 1 1)) (u.alloc (.cells (arrB 1 [k]) 5)) := by
    unfold execOp
    go_simp
    rfl
  unfold FAt
  rw [h]
  refine ⟨(Below.refl _ _).alloc (Nat.le_refl _) _, _, ⟨_, rfl, rfl⟩, fun y hy => ?_⟩
  cases List.mem_singleton.1 hy
  exact ⟨Nat.le_refl _, heap_alloc_new u _⟩
end
theorem check3 : checkT (nodeT (nodeT id1 id2) id3) 3 2 id3 [nodeT id1 id2] = true := by
  have h := check_path (l := [id1, id2, id3]) (i := 2) (by decide) (by decide)
  rw [root3] at h
  exact h
set_option maxRecDepth 20000 in
set_option maxHeartbeats 4000000 in
theorem awake_any (T : TreeC) (w : World) (ht : Tables w) : Calls Tryd.prog 9 #[] w fun e w' => e = .returned (.bool true) ∧ Below w.heap.size w w' := by
  have E1 : Hid (EnvX w w []) := EnvX.start w
  have HT := Lib.hid ht
  have HID1 : Hid (isId id1) := isIds3 _ (by simp)
  have HID2 : Hid (isId id2) := isIds3 _ (by simp)
  have HID3 : Hid (isId id3) := isIds3 _ (by simp)
  have HTREE := Lib.hid T
  clear ht T
  go_enter Tryd.func9, Tryd.ntmps9
  go_upto_region 1 with (fail)
  refine wp_region_Hx (w0 := w) [0, 1, 2, 3, 4] [] rfl E1.out ?_
  refine lexH_phase [0, 1, 2] [3, 4] ?_
  have hw1 : EnvX w _ [] := E1.out
  have hone := @EnvC.one _ _ _ hw1
  (refine wpG_val (v := idv id1) rfl rfl (fun u hu => build_op u built1 rfl) ?_ hw1; intro K hK; go_big_quiet_op; go_big_quiet_on)
  (refine wpG_val (v := idv id2) rfl rfl (fun u hu => build_op u built2 rfl) ?_ hw1; intro K hK; go_big_quiet_op; go_big_quiet_on)
  (refine wpG_val (v := idv id3) rfl rfl (fun u hu => build_op u built3 rfl) ?_ hw1; intro K hK; go_big_quiet_op; go_big_quiet_on)
  clear hone hw1
  refine wpG_nil ?_
  refine (hOp_fresh (R := fun v N => ∃ g, v = .slice (some ⟨g, 0, none⟩) 3 3 ∧ N = [(g, Obj.cells ([id1, id2, id3].flatten.map u8v).toArray 29 (0, 0))]) (M0 := []) rfl rfl (fun _ h => h) (fun u hu => FAt_build3 HID1.out.1 HID2.out.1 HID3.out.1 rfl rfl rfl u) ?_)
  rintro x N ⟨g, rfl, rfl⟩ hf he2; intro K' hK'; go_big_quiet_op; go_big_quiet_on
  clear hf
  change lexH _ _ _ _ _ _ [(g, Obj.cells ([id1, id2, id3].flatten.map u8v).toArray 29 (0, 0))]
  refine lexH_phase [4] [] ?_
  have hw3 : EnvX w _ [(g, Obj.cells ([id1, id2, id3].flatten.map u8v).toArray 29 (0, 0))] := he2.choose_spec
  have hone := @EnvC.one _ _ _ hw3
  (refine wpG_op rfl rfl rfl ?_; intro K hK; go_big_quiet_op; go_big_quiet_on)
  clear hone hw3
  refine wpG_nil ?_
  intro u5 E2'
  have EX4 := Lib.hid E2'
  clear E2'
  have HFI := Lib.hid (fresh3 isIds3 g)
  generalize hcu : ([id1, id2, id3].flatten.map u8v).toArray = cur at *
  clear hcu
  have hLI := (HFI.out.own (B := 0) isIds3 (fun y hy => ⟨Nat.zero_le _, EnvX.box EX4.out _ _ hy⟩)).ids
  have HP : Hid (Calls Tryd.prog 10 #[.slice (some ⟨g, 0, none⟩) 3 3, .int .i64 2] u5 fun e w' => (∃ v, e = .returned (.tuple #[v, .bool true]) ∧ OwnI w' (u5).heap.size v [nodeT id1 id2]) ∧ Below (u5).heap.size u5 w') := by
    have h := HTREE.out.path [id1, id2, id3] 2 (some ⟨g, 0, none⟩) 3 3 u5 rfl (by omega) (by omega) (by decide) ⟨by omega, by omega⟩ isIds3 hLI (HT.out.below (EnvX.bel EX4.out))
    rw [path3] at h
    exact h
  clear hLI
  go_upto_region 2 with (fail)
  go_wp2_with fail
  refine HP.out.mono ?_
  rintro e w2 ⟨⟨v, rfl, hv⟩, hb⟩
  obtain ⟨N2, hF2, hN2⟩ := hv.fresh
  have HF2 := Lib.hid hF2
  obtain ⟨g2, cap2, cur2, rfl, rfl, hcur⟩ := FreshI.full hF2 (by simp)
  have E2 : Hid (EnvX w2 w2 [(g2, Obj.cells cur2 29 (0, 0)), (g, Obj.cells cur 29 (0, 0))]) := ⟨Below.refl _ _, fun x o hm => by
    rcases List.mem_cons.1 hm with h | h
    · cases h
      exact (hN2 _ (List.mem_singleton.2 rfl)).2.1
    · exact (EnvX.below EX4.out hb).box _ _ h⟩
  have HB := Lib.hid ((EnvX.below EX4.out hb).bel)
  have HT2 := Lib.hid (HT.out.below HB.out)
  have hcap : 1 ≤ cap2 := hcur.1
  have hcap2 : cap2 ≤ maxLen := hcur.2.1
  unfold maxLen at hcap2
  clear hv hb hF2 hN2 hcur HP EX4 E1 HT
  have HNI : Hid (isId (nodeT id1 id2)) := node_id _ _
  have HNN : Hid (isId (nodeT (nodeT id1 id2) id3)) := node_id _ _
  have HI1 : Hid (isIds [nodeT id1 id2]) := fun x hx => by cases List.mem_singleton.1 hx; exact node_id _ _
  have HNE := Lib.hid node_ne
  have HCH := Lib.hid check3
  have HRT := Lib.hid root3
  have HZ : Hid (z32.length = 32) := rfl
  have HND : Hid (∀ u, EnvX w2 u [] → Calls Tryd.prog 19 #[idv id1, idv id2] u fun e w' => e = .returned (idv (nodeT id1 id2)) ∧ Below u.heap.size u w') := fun u hu => HTREE.out.node _ _ u HID1.out HID2.out (HT2.out.below (EnvX.bel hu))
  generalize nodeT id1 id2 = nd at *
  have HNR : Hid (∀ u, EnvX w2 u [] → Calls Tryd.prog 19 #[idv nd, idv id3] u fun e w' => e = .returned (idv (nodeT nd id3)) ∧ Below u.heap.size u w') := fun u hu => HTREE.out.node _ _ u HNI.out HID3.out (HT2.out.below (EnvX.bel hu))
  generalize nodeT nd id3 = rt at *
  have hLu : ∀ u, EnvX w2 u [(g2, Obj.cells cur2 29 (0, 0)), (g, Obj.cells cur 29 (0, 0))] → IdsIn u u.heap.size (some ⟨g, 0, none⟩) [id1, id2, id3] := fun u hu => (HFI.out.own (B := 0) isIds3 (fun y hy => ⟨Nat.zero_le _, EnvX.box hu _ _ (List.mem_cons_of_mem _ hy)⟩)).ids
  have hPu : ∀ u, EnvX w2 u [(g2, Obj.cells cur2 29 (0, 0)), (g, Obj.cells cur 29 (0, 0))] → IdsIn u u.heap.size (some ⟨g2, 0, none⟩) [nd] := fun u hu => (HF2.out.own (B := 0) HI1.out (fun y hy => ⟨Nat.zero_le _, EnvX.box hu _ _ (by cases List.mem_singleton.1 hy; exact List.Mem.head _)⟩)).ids
  have HRO : Hid (∀ u, EnvX w2 u [(g2, Obj.cells cur2 29 (0, 0)), (g, Obj.cells cur 29 (0, 0))] → Calls Tryd.prog 13 #[.slice (some ⟨g, 0, none⟩) 3 3] u fun e w' => e = .returned (idv rt) ∧ Below u.heap.size u w') := fun u hu => by
    rw [← HRT.out]
    exact HTREE.out.root [id1, id2, id3] (some ⟨g, 0, none⟩) 3 3 u rfl (by omega) (by omega) (by decide) isIds3 (hLu u hu) (HT2.out.below (EnvX.bel hu))
  have HCK : Hid (∀ u, EnvX w2 u [(g2, Obj.cells cur2 29 (0, 0)), (g, Obj.cells cur 29 (0, 0))] → Calls Tryd.prog 17 #[idv rt, .int .i64 3, .int .i64 2, idv id3, .slice (some ⟨g2, 0, none⟩) 1 cap2] u fun e w' => e = .returned (.bool true) ∧ Below u.heap.size u w') := fun u hu => by
    rw [← HCH.out]
    exact HTREE.out.check rt id3 3 2 [nd] (some ⟨g2, 0, none⟩) 1 cap2 u HNN.out HID3.out ⟨by omega, by omega⟩ ⟨by omega, by omega⟩ rfl (by omega) hcap (by unfold maxLen; omega) HI1.out (hPu u hu) (HT2.out.below (EnvX.bel hu))
  have HLF : Hid (∀ u, EnvX w2 u [] → Calls Tryd.prog 15 #[.slice none 0 0] u fun e w' => e = .returned (idv (leafT [])) ∧ Below u.heap.size u w') := fun u hu => HTREE.out.leaf none 0 0 [] u rfl (by omega) (Bytes.nil _ _ _) (by intro x hx; cases hx) (HT2.out.below (EnvX.bel hu))
  have HSM : Hid (∀ u g3, EnvX w2 u [] → Row u g3 5 (arrB 1 [0]) → Calls Tryd.prog 23 #[.slice (some ⟨g3, 0, none⟩) 1 1] u fun e w' => e = .returned (idv (leafT [])) ∧ Below u.heap.size u w') := fun u g3 hu h =>
    sum_any (some ⟨g3, 0, none⟩) 1 1 [0] u rfl (by omega) (own_of_row (B := 0) (n := 1) (xs := [0]) h rfl (Nat.zero_le _) (by decide)).up (by intro x hx; simp at hx; omega) (HT2.out.below (EnvX.bel hu))
  have HLL : Hid ((leafT []).length = 32) := sumL_len _
  have HEN : Hid (eqL nd nd = true) := by show _ = _; simp [eqL]
  have HER : Hid (eqL rt rt = true) := by show _ = _; simp [eqL]
  have HEL : Hid (eqL (leafT []) (leafT []) = true) := by show _ = _; simp [eqL]
  have HN2 : Hid ((!eqL nd z32) = true) := by show _ = _; rw [HNE.out]; rfl
  clear hLu hPu
  go_upto_region 3 with (fail)
  refine wp_region_H (w0 := w2) [(g2, Obj.cells cur2 29 (0, 0)), (g, Obj.cells cur 29 (0, 0))] (by kernel_rfl) E2.out ?_
  refine anyH_phase [0, 1, 2, 3, 4, 5, 6, 7, 8, 9, 10, 11, 12, 13, 14, 15, 16, 17, 18, 19, 20, 21, 22, 23, 24, 25, 26, 27, 28, 29, 30, 31, 32, 33, 34, 35, 36, 37, 38, 39, 40, 41, 42, 43, 44, 45, 46, 47, 48, 49, 50, 51, 52] 5 rfl ⟨_, (EnvX.drew E2.out)⟩ (by kernel_rfl) ?_
  have hw6 : EnvX w2 _ [(g2, Obj.cells cur2 29 (0, 0)), (g, Obj.cells cur 29 (0, 0))] := (EnvX.drew E2.out)
  have hone := @EnvC.one _ _ _ hw6
  (refine wpG_op rfl rfl rfl ?_; intro K hK; go_big_quiet_op; go_big_quiet_on)
  (refine wpG_op rfl rfl rfl ?_; intro K hK; go_big_quiet_op; go_big_quiet_on)
  (refine wpG_op rfl rfl rfl ?_; intro K hK; go_big_quiet_op; go_big_quiet_on)
  (refine wpG_val (v := .int .i64 1) rfl rfl (fun u hu => lenI_op (n := 1) u rfl) ?_ hw6; intro K hK; go_big_quiet_op; go_big_quiet_on)
  (refine wpG_op rfl rfl rfl ?_; intro K hK; go_big_quiet_op; go_big_quiet_on)
  (refine wpG_op rfl rfl rfl ?_; intro K hK; go_big_quiet_op; go_big_quiet_on)
  (refine wpG_op rfl rfl rfl ?_; intro K hK; go_big_quiet_op; go_big_quiet_on)
  (refine wpG_op rfl rfl rfl ?_; intro K hK; go_big_quiet_op; go_big_quiet_on)
  (refine wpG_op rfl rfl rfl ?_; intro K hK; go_big_quiet_op; go_big_quiet_on)
  (refine wpG_val (v := idv nd) rfl rfl (fun u hu => load_run_op u (boxes_load (k := 0) hu HF2.out (fun y hy => by cases List.mem_singleton.1 hy; exact List.Mem.head _) HI1.out rfl (by simp)) rfl) ?_ hw6; intro K hK; go_big_quiet_op; go_big_quiet_on)
  (refine wpG_op rfl rfl rfl ?_; intro K hK; go_big_quiet_op; go_big_quiet_on)
  (refine wpG_op rfl rfl rfl ?_; intro K hK; go_big_quiet_op; go_big_quiet_on)
  (refine wpG_val (v := idv id1) rfl rfl (fun u hu => load_run_op u (boxes_load (k := 0) hu HFI.out (fun y hy => List.mem_cons_of_mem _ hy) isIds3 rfl (by simp)) rfl) ?_ hw6; intro K hK; go_big_quiet_op; go_big_quiet_on)
  (refine wpG_op rfl rfl rfl ?_; intro K hK; go_big_quiet_op; go_big_quiet_on)
  (refine wpG_op rfl rfl rfl ?_; intro K hK; go_big_quiet_op; go_big_quiet_on)
  (refine wpG_val (v := idv id2) rfl rfl (fun u hu => load_run_op u (boxes_load (k := 1) hu HFI.out (fun y hy => List.mem_cons_of_mem _ hy) isIds3 rfl (by simp)) rfl) ?_ hw6; intro K hK; go_big_quiet_op; go_big_quiet_on)
  (refine wpG_call (f := 19) (args := #[idv id1, idv id2]) (v := idv nd) rfl rfl rfl Tryd.func19 rfl rfl (fun u hu => HND.out u (EnvX.sub hu (fun _ h => by cases h))) ?_ hw6; intro K hK; go_big_quiet_op; go_big_quiet_on)
  (refine wpG_val (v := .bool true) rfl rfl (fun u hu => eqlb_op HNI.out.1 HNI.out.1 HEN.out u rfl rfl) ?_ hw6; intro K hK; go_big_quiet_op; go_big_quiet_on)
  (refine wpG_op rfl rfl rfl ?_; intro K hK; go_big_quiet_op; go_big_quiet_on)
  (refine wpG_op rfl rfl rfl ?_; intro K hK; go_big_quiet_op; go_big_quiet_on)
  (refine wpG_op rfl rfl rfl ?_; intro K hK; go_big_quiet_op; go_big_quiet_on)
  (refine wpG_call (f := 13) (args := #[.slice (some ⟨g, 0, none⟩) 3 3]) (v := idv rt) rfl rfl rfl Tryd.func13 rfl rfl (fun u hu => HRO.out u hu) ?_ hw6; intro K hK; go_big_quiet_op; go_big_quiet_on)
  (refine wpG_op rfl rfl rfl ?_; intro K hK; go_big_quiet_op; go_big_quiet_on)
  (refine wpG_op rfl rfl rfl ?_; intro K hK; go_big_quiet_op; go_big_quiet_on)
  (refine wpG_val (v := idv nd) rfl rfl (fun u hu => load_run_op u (boxes_load (k := 0) hu HF2.out (fun y hy => by cases List.mem_singleton.1 hy; exact List.Mem.head _) HI1.out rfl (by simp)) rfl) ?_ hw6; intro K hK; go_big_quiet_op; go_big_quiet_on)
  (refine wpG_op rfl rfl rfl ?_; intro K hK; go_big_quiet_op; go_big_quiet_on)
  (refine wpG_op rfl rfl rfl ?_; intro K hK; go_big_quiet_op; go_big_quiet_on)
  (refine wpG_val (v := idv id3) rfl rfl (fun u hu => load_run_op u (boxes_load (k := 2) hu HFI.out (fun y hy => List.mem_cons_of_mem _ hy) isIds3 rfl (by simp)) rfl) ?_ hw6; intro K hK; go_big_quiet_op; go_big_quiet_on)
  (refine wpG_call (f := 19) (args := #[idv nd, idv id3]) (v := idv rt) rfl rfl rfl Tryd.func19 rfl rfl (fun u hu => HNR.out u (EnvX.sub hu (fun _ h => by cases h))) ?_ hw6; intro K hK; go_big_quiet_op; go_big_quiet_on)
  (refine wpG_val (v := .bool true) rfl rfl (fun u hu => eqlb_op HNN.out.1 HNN.out.1 HER.out u rfl rfl) ?_ hw6; intro K hK; go_big_quiet_op; go_big_quiet_on)
  (refine wpG_op rfl rfl rfl ?_; intro K hK; go_big_quiet_op; go_big_quiet_on)
  (refine wpG_op rfl rfl rfl ?_; intro K hK; go_big_quiet_op; go_big_quiet_on)
  (refine wpG_op rfl rfl rfl ?_; intro K hK; go_big_quiet_op; go_big_quiet_on)
  (refine wpG_op rfl rfl rfl ?_; intro K hK; go_big_quiet_op; go_big_quiet_on)
  (refine wpG_val (v := idv id1) rfl rfl (fun u hu => load_run_op u (boxes_load (k := 0) hu HFI.out (fun y hy => List.mem_cons_of_mem _ hy) isIds3 rfl (by simp)) rfl) ?_ hw6; intro K hK; go_big_quiet_op; go_big_quiet_on)
  (refine wpG_op rfl rfl rfl ?_; intro K hK; go_big_quiet_op; go_big_quiet_on)
  (refine wpG_op rfl rfl rfl ?_; intro K hK; go_big_quiet_op; go_big_quiet_on)
  (refine wpG_val (v := idv id2) rfl rfl (fun u hu => load_run_op u (boxes_load (k := 1) hu HFI.out (fun y hy => List.mem_cons_of_mem _ hy) isIds3 rfl (by simp)) rfl) ?_ hw6; intro K hK; go_big_quiet_op; go_big_quiet_on)
  (refine wpG_call (f := 19) (args := #[idv id1, idv id2]) (v := idv nd) rfl rfl rfl Tryd.func19 rfl rfl (fun u hu => HND.out u (EnvX.sub hu (fun _ h => by cases h))) ?_ hw6; intro K hK; go_big_quiet_op; go_big_quiet_on)
  (refine wpG_val (v := idv z32) rfl rfl (fun u hu => build_op u built0 rfl) ?_ hw6; intro K hK; go_big_quiet_op; go_big_quiet_on)
  (refine wpG_val (v := .bool true) rfl rfl (fun u hu => neqb_op HNI.out.1 HZ.out HN2.out u rfl rfl) ?_ hw6; intro K hK; go_big_quiet_op; go_big_quiet_on)
  (refine wpG_op rfl rfl rfl ?_; intro K hK; go_big_quiet_op; go_big_quiet_on)
  (refine wpG_op rfl rfl rfl ?_; intro K hK; go_big_quiet_op; go_big_quiet_on)
  (refine wpG_op rfl rfl rfl ?_; intro K hK; go_big_quiet_op; go_big_quiet_on)
  (refine wpG_call (f := 13) (args := #[.slice (some ⟨g, 0, none⟩) 3 3]) (v := idv rt) rfl rfl rfl Tryd.func13 rfl rfl (fun u hu => HRO.out u hu) ?_ hw6; intro K hK; go_big_quiet_op; go_big_quiet_on)
  (refine wpG_op rfl rfl rfl ?_; intro K hK; go_big_quiet_op; go_big_quiet_on)
  (refine wpG_op rfl rfl rfl ?_; intro K hK; go_big_quiet_op; go_big_quiet_on)
  (refine wpG_val (v := idv id3) rfl rfl (fun u hu => load_run_op u (boxes_load (k := 2) hu HFI.out (fun y hy => List.mem_cons_of_mem _ hy) isIds3 rfl (by simp)) rfl) ?_ hw6; intro K hK; go_big_quiet_op; go_big_quiet_on)
  (refine wpG_op rfl rfl rfl ?_; intro K hK; go_big_quiet_op; go_big_quiet_on)
  (refine wpG_call (f := 17) (args := #[idv rt, .int .i64 3, .int .i64 2, idv id3, .slice (some ⟨g2, 0, none⟩) 1 cap2]) (v := .bool true) rfl rfl rfl Tryd.func17 rfl rfl (fun u hu => HCK.out u hu) ?_ hw6; intro K hK; go_big_quiet_op; go_big_quiet_on)
  (refine wpG_op rfl rfl rfl ?_; intro K hK; go_big_quiet_op; go_big_quiet_on)
  (refine wpG_op rfl rfl rfl ?_; intro K hK; go_big_quiet_op; go_big_quiet_on)
  (refine wpG_call (f := 15) (args := #[.slice none 0 0]) (v := idv (leafT [])) rfl rfl rfl Tryd.func15 rfl rfl (fun u hu => HLF.out u (EnvX.sub hu (fun _ h => by cases h))) ?_ hw6; intro K hK; go_big_quiet_op; go_big_quiet_on)
  clear hone hw6
  refine wpG_nil ?_
  refine anyH_one (i := 53) (by kernel_rfl) (hOp_freshG (R := fun v N => ∃ g, v = .slice (some ⟨g, 0, none⟩) 1 1 ∧ N = [(g, Obj.cells (arrB 1 [0]) 5 (0, 0))]) (M0 := [(g2, Obj.cells cur2 29 (0, 0)), (g, Obj.cells cur 29 (0, 0))]) rfl rfl rfl (fun _ h => h) (fun u hu => FAt_byte 0 u) ?_)
  rintro x N ⟨g3, rfl, rfl⟩ hf he7; intro K' hK'; go_big_quiet_op; go_big_quiet_on
  clear hf
  change anyH _ _ _ _ _ _ _ _ [(g3, Obj.cells (arrB 1 [0]) 5 (0, 0)), (g2, Obj.cells cur2 29 (0, 0)), (g, Obj.cells cur 29 (0, 0))]
  refine anyH_phase [54, 55, 56, 57] 0 rfl ⟨_, he7.choose_spec⟩ (by kernel_rfl) ?_
  have hw8 : EnvX w2 _ [(g3, Obj.cells (arrB 1 [0]) 5 (0, 0)), (g2, Obj.cells cur2 29 (0, 0)), (g, Obj.cells cur 29 (0, 0))] := he7.choose_spec
  have hone := @EnvC.one _ _ _ hw8
  (refine wpG_call (f := 23) (args := #[.slice (some ⟨g3, 0, none⟩) 1 1]) (v := idv (leafT [])) rfl rfl rfl Tryd.func23 rfl rfl (fun u hu => HSM.out u g3 (EnvX.sub hu (fun _ h => by cases h)) (EnvX.row hu (List.Mem.head _))) ?_ hw8; intro K hK; go_big_quiet_op; go_big_quiet_on)
  (refine wpG_val (v := .bool true) rfl rfl (fun u hu => eqlb_op HLL.out HLL.out HEL.out u rfl rfl) ?_ hw8; intro K hK; go_big_quiet_op; go_big_quiet_on)
  (refine wpG_op rfl rfl rfl ?_; intro K hK; go_big_quiet_op; go_big_quiet_on)
  (refine wpG_op rfl rfl rfl ?_; intro K hK; go_big_quiet_op; go_big_quiet_on)
  clear hone hw8
  refine wpG_nil ?_
  refine anyH_done (by kernel_rfl) ?_
  intro u10 E2'
  have EX9 := Lib.hid E2'
  clear E2'
  go_wp2
  go_ret
  exact ⟨rfl, HB.out.trans ((EnvX.bel EX9.out).mono HB.out.size)⟩
end Go.Proofs.YtgiacilkecoenaaDoor

/- Two guarded operations that make memory, in either order; an append of ids to nothing, as one that makes memory. -/
namespace Go.Proofs.YtgiacilkecoenaaDoor
open Go.RowKit

section
variable {P : Program} {ops : Array Oper} {md : Region.Mode} {w0 : World} {Q : Act → Boxes → Prop} {f i : Nat} {listed : Array Bool} {a : Act} {M : Boxes}
theorem anyH_twoFreshG {j : Nat} {di dj : Option Tmp} {opi opj : Op} {ti tj : TypeId} {pi pj : String} {afi afj : Array Edge} {gi gj : Option (Nat × Bool)} (hQ : ∀ a (M M' : Boxes), (∀ x, x ∈ M ↔ x ∈ M') → Q a M → Q a M')
    (hr : Region.ready md ops listed = [i, j]) (hri : Region.ready md ops (listed.setIfInBounds i true) = [j]) (hrj : Region.ready md ops (listed.setIfInBounds j true) = [i])
    (hi : ops[i]? = some ⟨di, opi, ti, pi, afi, gi⟩) (hj : ops[j]? = some ⟨dj, opj, tj, pj, afj, gj⟩) (hij : i ≠ j)
    (hap : (Oper.apart ops ⟨di, opi, ti, pi, afi, gi⟩ ⟨dj, opj, tj, pj, afj, gj⟩ && Region.noSelect ops) = true)
    (hwi : Region.wanted ⟨di, opi, ti, pi, afi, gi⟩ (yielded ops a.tmps) = true) (hwj : Region.wanted ⟨dj, opj, tj, pj, afj, gj⟩ (yielded ops a.tmps) = true)
    (Ri Rj : Value → Boxes → Prop) (Mi Mj : Boxes) (hMi : ∀ x ∈ Mi, x ∈ M) (hMj : ∀ x ∈ Mj, x ∈ M) (hvi : ∀ u, EnvX w0 u Mi → FAt P ⟨di, opi, ti, pi, afi, gi⟩ a Ri u) (hvj : ∀ u, EnvX w0 u Mj → FAt P ⟨dj, opj, tj, pj, afj, gj⟩ a Rj u)
    (h : ∀ x Nx y Ny, Ri x Nx → Rj y Ny → freshN w0 Nx M → freshN w0 Ny (Nx ++ M) → (∃ u, EnvX w0 u (Ny ++ (Nx ++ M))) →
      ∀ K1 : Act → Prop, (∀ a1, (∀ K2 : Act → Prop, (∀ a2, anyH P md ops w0 Q f ((listed.setIfInBounds i true).setIfInBounds j true) a2 (Ny ++ (Nx ++ M)) → K2 a2) → Oper.quiet P ⟨dj, .move (.const y), tj, pj, afj, none⟩ a1 (fun _ => True) K2) → K1 a1) →
        Oper.quiet P ⟨di, .move (.const x), ti, pi, afi, none⟩ a (fun _ => True) K1) :
    anyH P md ops w0 Q (f + 2) listed a M := by
  simp only [Bool.and_eq_true] at hap
  obtain ⟨q1, q2, q3⟩ := Oper.apart_spec hap.1
  have hsel := Region.noSelect_spec hap.2
  have H : ∀ x Nx y Ny, Ri x Nx → Rj y Ny → freshN w0 Nx M → freshN w0 Ny (Nx ++ M) → (∃ u, EnvX w0 u (Ny ++ (Nx ++ M))) →
      anyH P md ops w0 Q f ((listed.setIfInBounds i true).setIfInBounds j true) ((a.put di x).put dj y) (Ny ++ (Nx ++ M)) := fun x Nx y Ny a1 a2 a3 a4 a5 =>
    put_told w0 (put_told (K := fun a1 => ∀ K2 : Act → Prop, (∀ a2, anyH P md ops w0 Q f ((listed.setIfInBounds i true).setIfInBounds j true) a2 (Ny ++ (Nx ++ M)) → K2 a2) → Oper.quiet P ⟨dj, .move (.const y), tj, pj, afj, none⟩ a1 (fun _ => True) K2) w0 (h x Nx y Ny a1 a2 a3 a4 a5))
  refine anyH_two hr ?_ ?_
  · unfold hOp
    simp only [hi, hwi, if_true]
    refine .inr (.inl ⟨Ri, Mi, hMi, hvi, fun x Nx hx hfx _ => ?_⟩)
    refine anyH_one hri ?_
    unfold hOp
    simp only [hj]
    rw [wanted_put _ a di x q1]
    simp only [hwj, if_true]
    refine .inr (.inl ⟨Rj, Mj, fun z hz => List.mem_append_right _ (hMj z hz), fun u hu => ?_, fun y Ny hy hfy hE => H x Nx y Ny hx hy hfx hfy hE⟩)
    have h1 := hvj u hu
    unfold FAt at *
    rw [execOp_put (ops := ops) _ (fun cs b => hsel j _ cs b hj) a di x q1]
    exact h1
  · unfold hOp
    simp only [hj, hwj, if_true]
    refine .inr (.inl ⟨Rj, Mj, hMj, hvj, fun y Ny hy hfy _ => ?_⟩)
    refine anyH_one hrj ?_
    unfold hOp
    simp only [hi]
    rw [wanted_put _ a dj y q3]
    simp only [hwi, if_true]
    refine .inr (.inl ⟨Ri, Mi, fun z hz => List.mem_append_right _ (hMi z hz), fun u hu => ?_, fun x Nx hx hfx hE => ?_⟩)
    · have h1 := hvi u hu
      unfold FAt at *
      rw [execOp_put (ops := ops) _ (fun cs b => hsel i _ cs b hi) a dj y q3]
      exact h1
    · have hp : ∀ z, z ∈ Ny ++ (Nx ++ M) ↔ z ∈ Nx ++ (Ny ++ M) := fun z => by
        simp only [List.mem_append]
        exact or_left_comm
      have h1 := H x Nx y Ny hx hy (fun z hz => ⟨(hfx z hz).1, fun t ht => (hfx z hz).2 t (List.mem_append_right _ ht)⟩)
        (fun z hz => ⟨(hfy z hz).1, fun t ht => by
          rcases List.mem_append.1 ht with e | e
          · exact Ne.symm ((hfx t e).2 z (List.mem_append_left _ hz))
          · exact (hfy z hz).2 t e⟩) (hE.imp fun u hu => hu.sub (fun z hz => (hp z).1 hz))
      rw [Act.put_comm a _ _ q2, Array.setIfInBounds_comm _ _ hij] at h1
      exact anyH_perm hQ _ _ _ _ _ hp h1
end
end Go.Proofs.YtgiacilkecoenaaDoor

/- An append of ids to nothing, as one that makes memory. -/
namespace Go.Proofs.YtgiacilkecoenaaDoor
open Go.RowKit

theorem elId : ElemT 22 29 32 32 (.agg (arrB 32 [])) := ⟨Tryd.underlying22, by kernel_rfl, by decide +kernel, by decide, by decide, by decide⟩
theorem FAt_appI {u : World} {B : Nat} {q : List (List Int)} {v2 : Value} {a : Act} {dst : Option Tmp} {x : Operand} {pos : String} {after : Array Edge} {gd : Option (Nat × Bool)}
    (hq : isIds q) (hO : OwnI u B v2 q) (hs : q.length ≤ 1000000) (hx : a.eval x = v2) :
    FAt Tryd.prog ⟨dst, .call { callee := .builtin .append, args := #[.const (.slice none 0 0), x], argTypes := #[22, 22] }, 22, pos, after, gd⟩ a (FreshI q) u := by
  have he : a.eval (.const (.slice none 0 0)) = .slice none 0 0 := rfl
  rcases hO.2 with ⟨rfl, h0⟩ | ⟨g, cap, cur, rfl, _, hg, h1, h2, h3, h4⟩
  rotate_left
  · -- there are some
    obtain ⟨v', u', hrun, hown, hgr, _⟩ := appendR elId (c := cap) (World.ownsRow_nil u u.heap.size 29 32) (ys := q.flatten.map u8v) (ad := ⟨g, 0, none⟩) (m := q.length) (by rw [List.length_map]; exact hq.flat_len) (fun j c hc => by
      rw [Addr.add_mid, Nat.zero_add, cell_of_row u g j cur 29 (0, 0) hg]
      rw [← h4] at hc
      have hj : j < q.length * 32 := by
        rcases Nat.lt_or_ge j (q.length * 32) with h' | h'
        · exact h'
        · rw [List.getElem?_eq_none (by rw [List.length_take]; omega)] at hc
          cases hc
      rw [List.getElem?_take_of_lt hj, Array.getElem?_toList] at hc
      exact hc) (by intro c hc; obtain ⟨z, _, rfl⟩ := List.mem_map.1 hc; rfl) (by omega) (Nat.le_refl _)
    have hown' : OwnI u' u.heap.size v' q := by
      unfold OwnI
      rw [Nat.zero_add, List.nil_append] at hown
      exact hown
    obtain ⟨N, hF', hN'⟩ := hown'.fresh
    unfold FAt execOp
    simp only [resolve, invoke, builtin, Sem.run_bind, Sem.run_pure, Result.andThen_ok, List.map_toArray, List.map_cons, List.map_nil, he, hx, hrun]
    exact ⟨below_of_grown hgr (fun g hg => by cases hg) (Nat.le_refl _), N, hF', fun y hy => ⟨(hN' y hy).1, (hN' y hy).2.1⟩⟩
  · obtain rfl := List.eq_nil_of_length_eq_zero h0
    cases hi : Tryd.prog.info? 29 with
    | none => have := infoIz; rw [hi] at this; cases this
    | some i =>
      have hrun := run_append_owned_none (P := Tryd.prog) u u.heap.size 22 22 29 i 32 Tryd.underlying22 hi _ 0 [] (World.ownsRow_nil u u.heap.size 29 32)
      unfold FAt execOp
      simp only [resolve, invoke, builtin, Sem.run_bind, Sem.run_pure, Result.andThen_ok, List.map_toArray, List.map_cons, List.map_nil, he, hx, hrun]
      exact ⟨Below.refl _ _, [], .inr ⟨rfl, rfl, rfl⟩, fun y hy => by cases hy⟩
end Go.Proofs.YtgiacilkecoenaaDoor
