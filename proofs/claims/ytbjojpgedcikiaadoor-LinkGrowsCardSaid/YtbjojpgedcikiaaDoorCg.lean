/- Part of a proof. -/
import Derived.Test.YtbjojpgedcikiaaDoorCf
import Derived.Lib.MinMax
import Derived.Lib.SliceRun
import Derived.Lib.Strings
import Derived.Lib.Slices
import Derived.Lib.Small
import Derived.Lib.Walk
import Derived.Lib.BitFns
namespace Go.Proofs.YtbjojpgedcikiaaDoor
set_option maxRecDepth 8000
open Go.RowKit

section
variable {a : Act} {dst : Option Tmp} {x y : Operand} {ty : TypeId} {pos : String} {after : Array Edge} {gd : Option (Nat × Bool)}
theorem geZ_op {m k : Int} {b : Bool} (u : World) (hb : decide (k ≤ m) = b) (hx : a.eval x = .int .i64 m) (hy : a.eval y = .int .i64 k) :
    (execOp a.eval ⟨dst, .binOp .geq 3 x y 3, ty, pos, after, gd⟩).run Tryd.prog u = .ok (.value (.bool b)) u := by
  subst hb
  unfold execOp
  simp only [hx, hy]
  go_simp
/-- make([]api.Id, 0, n) -/
theorem FAt_makeI {n : Nat} (hn : n ≤ 1000000) (hx : a.eval x = .int .i64 (n : Int)) (u : World) :
    FAt Tryd.prog ⟨dst, .makeSlice 22 (.const (.int .i64 0)) x, ty, pos, after, gd⟩ a (fun v N => ∃ g cur, v = .slice (some ⟨g, 0, none⟩) 0 n ∧ N = [(g, Obj.cells cur 24 (0, 0))] ∧ cur.size = n * 32) u := by
  have T := elIdL
  cases hq : Tryd.prog.info? 24 with
  | none => have := T.info; rw [hq] at this; cases this
  | some i =>
    have hi := T.info
    rw [hq] at hi
    simp only [Option.map_some, Option.some.injEq, Prod.mk.injEq] at hi
    obtain ⟨k1, k2, k3⟩ := hi
    have hmul : 32 * n ≤ 32 * 1000000 := Nat.mul_le_mul (Nat.le_refl _) hn
    have hr := run_make (P := Tryd.prog) u 22 24 i (.agg (arrB 32 [])) T.und hq k1 .i64 .i64 0 (n : Int) (by omega) (by omega) (by rw [k3, ← Int.natCast_mul]; omega) (by omega)
    have ha0 : a.eval (.const (.int .i64 0)) = .int .i64 0 := rfl
    unfold FAt execOp
    simp only [hx, ha0, Sem.run_bind, Sem.run_pure, hr, Result.andThen_ok]
    refine ⟨(Below.refl _ _).alloc (Nat.le_refl _) _, [(u.heap.size, Obj.cells (madeCells (Value.agg (arrB 32 [])).cells ((n : Int).toNat * i.size)) 24 (0, 0))], ⟨u.heap.size, madeCells (Value.agg (arrB 32 [])).cells ((n : Int).toNat * i.size), rfl, rfl, ?_⟩, fun y hy => ?_⟩
    · rw [size_madeCells, k2]
      simp
    · cases List.mem_singleton.1 hy
      exact ⟨Nat.le_refl _, heap_alloc_new u _⟩
end
set_option maxRecDepth 20000 in
set_option maxHeartbeats 4000000 in
theorem leafOf_any (T : TreeC) (id : List Int) (w : World) (hid : isId id) (ht : Tables w) :
    Calls Tryd.prog 27 #[idv id] w fun e w' => e = .returned (idv (leafT id)) ∧ Below w.heap.size w w' := by
  have HSR : Hid (((arrB 32 id).toList.drop 0).take (id.map u8v).length = id.map u8v) := id_src hid.1
  have HLF : Hid (∀ u, Below w.heap.size w u → Bytes u u.heap.size (some ⟨w.heap.size, 0, none⟩) id → Calls Tryd.prog 21 #[.slice (some ⟨w.heap.size, 0, none⟩) 32 32] u fun e w' => e = .returned (idv (leafT id)) ∧ Below u.heap.size u w') := fun u hu hb => T.leaf _ 32 32 id u hid.1 (by omega) hb hid.2 (ht.below hu)
  have E1 : Hid (EnvX w ((w.alloc (.cells (arrB 32 id) 24)).alloc (.cells (arrB 32 []) 24)) [(w.heap.size + 1, Obj.cells (arrB 32 []) 24 (0, 0)), (w.heap.size, Obj.cells (arrB 32 id) 24 (0, 0))]) := (EnvX.start w).two _ _
  have hlf : (leafT id).length = 32 := sumL_len _
  generalize leafT id = lf at *
  have HZ : Hid ((arrB 32 lf).size = 32) := arrB_size _ _ (by rw [hlf]; omega)
  clear hid ht hlf
  unfold idv
  go_enter Tryd.func27, Tryd.ntmps27
  go_upto_region 1 with (fail)
  rw [zero_cells]
  generalize (w.alloc (.cells (arrB 32 id) 24)).alloc (.cells (arrB 32 []) 24) = W at *
  refine wp_region_Hx (w0 := w) [0, 1, 2] [(w.heap.size + 1, Obj.cells (arrB 32 []) 24 (0, 0)), (w.heap.size, Obj.cells (arrB 32 id) 24 (0, 0))] rfl E1.out ?_
  refine lexH_phase [0, 1] [2] ?_
  have hw1 : EnvX w _ [(w.heap.size + 1, Obj.cells (arrB 32 []) 24 (0, 0)), (w.heap.size, Obj.cells (arrB 32 id) 24 (0, 0))] := E1.out
  have hone := @EnvC.one _ _ _ hw1
  (refine wpG_val (v := .slice (some ⟨w.heap.size, 0, none⟩) 32 32) rfl rfl (fun u hu => sliceArr_op u rfl) ?_ hw1; intro K hK; go_big_quiet_op; go_big_quiet_on)
  (refine wpG_call (f := 21) (args := #[.slice (some ⟨w.heap.size, 0, none⟩) 32 32]) (v := idv lf) rfl rfl rfl Tryd.func21 rfl rfl (fun u hu => HLF.out u (EnvX.bel hu) (bytes_srcI (EnvX.lt hu (List.Mem.tail _ (List.Mem.head _))) (src_box hu (List.Mem.tail _ (List.Mem.head _)) HSR.out))) ?_ hw1; intro K hK; go_big_quiet_op; go_big_quiet_on)
  clear hone hw1
  refine wpG_nil ?_
  refine (hOp_store rfl (w.heap.size + 1) (arrB 32 lf) rfl rfl (Nat.le_succ _) 24 ((arrB 32 [])) (List.Mem.head _) (info26 _ HZ.out) ((arrB_size _ _ (by simp)).trans HZ.out.symm) (arrB_one _ _) [(w.heap.size + 1, Obj.cells (arrB 32 lf) 24 (0, 0))] (List.forall_mem_cons.2 ⟨.inl rfl, (fun _ h => by cases h)⟩) ?_)
  intro he2
  intro u4 E2'
  have EX3 := Lib.hid E2'
  clear E2'
  have Q0 := Lib.hid (EnvX.box EX3.out _ _ (List.Mem.head _))
  have HBEL := Lib.hid EX3.out.bel
  clear EX3
  go_wp2_with ((with_reducible refine bodyPost_ret (v := .agg (arrB 32 lf)) ?_ ?_ ?_); (exact results_cell_row (p := 2) (ty := 24) Tryd.results27 _ _ (w.heap.size + 1) 24 (arrB 32 lf) (0, 0) _ rfl Q0.out Tryd.underlying24 rfl (info26 _ HZ.out)); (rfl))
  first | exact HBEL.out | exact ⟨rfl, HBEL.out⟩
set_option maxRecDepth 20000 in
set_option maxHeartbeats 4000000 in
theorem each_any (T : TreeC) (l : List (List Int)) (A : Option Addr) (n c : Nat) (w : World) (hl : l.length = n) (hn : n ≤ 1000000) (hnc : n ≤ c) (hcm : c ≤ maxLen) (hI : isIds l) (hA : IdsIn w w.heap.size A l) (ht : Tables w) :
    Calls Tryd.prog 26 #[.slice A n c, .func (.func 27) #[] #[]] w fun e w' => (∃ v, e = .returned v ∧ OwnI w' w.heap.size v (leavesL l)) ∧ Below w.heap.size w w' := by
  have HL := Lib.hid hl
  have HIA := Lib.hid (And.intro hI hA)
  have HTT := Lib.hid ht
  have HN6 : Hid (n ≤ 1000000) := hn
  have HN63 : Hid (n < 9223372036854775808) := by show _ < _; omega
  have HNM : Hid (n ≤ maxLen) := Nat.le_trans hnc hcm
  have E1 : Hid (EnvX w w []) := EnvX.start w
  clear hl hI hA ht hnc hcm
  go_enter Tryd.func26, Tryd.ntmps26
  go_upto_region 1 with (fail)
  refine wp_region_Hx (w0 := w) [0, 1, 2, 3] [] rfl E1.out ?_
  refine lexH_phase [0, 1] [2, 3] ?_
  have hw1 : EnvX w _ [] := E1.out
  have hone := @EnvC.one _ _ _ hw1
  (refine wpG_op rfl rfl rfl ?_; intro K hK; go_big_quiet_op; go_big_quiet_on)
  (refine wpG_val (v := .int .i64 (n : Int)) rfl rfl (fun u hu => len_op Tryd.underlying22 HN63.out u rfl) ?_ hw1; intro K hK; go_big_quiet_op; go_big_quiet_on)
  clear hone hw1
  refine wpG_nil ?_
  refine (hOp_fresh (R := fun v N => ∃ g cur, v = .slice (some ⟨g, 0, none⟩) 0 n ∧ N = [(g, Obj.cells cur 24 (0, 0))] ∧ cur.size = n * 32) (M0 := []) rfl rfl (fun _ h => h) (fun u hu => FAt_makeI HN6.out rfl u) ?_)
  rintro _ _ ⟨gm, cm, rfl, rfl, hcm⟩ hf he2; intro K' hK'; go_big_quiet_op; go_big_quiet_on
  have HCM := Lib.hid hcm
  have HGM := Lib.hid (hf _ (List.mem_singleton.2 rfl))
  clear hcm
  clear hf
  change lexH _ _ _ _ _ _ [(gm, Obj.cells cm 24 (0, 0))]
  refine lexH_phase [3] [] ?_
  have hw3 : EnvX w _ [(gm, Obj.cells cm 24 (0, 0))] := he2.choose_spec
  have hone := @EnvC.one _ _ _ hw3
  (refine wpG_op rfl rfl rfl ?_; intro K hK; go_big_quiet_op; go_big_quiet_on)
  clear hone hw3
  refine wpG_nil ?_
  intro u5 E2'
  have EX4 := Lib.hid E2'
  clear E2'
  go_upto_region 2 with (fail)
  refine wp_region_Hx (w0 := w) [0, 1, 2] [(gm, Obj.cells cm 24 (0, 0))] rfl EX4.out ?_
  refine lexH_phase [0, 1, 2] [] ?_
  have hw6 : EnvX w _ [(gm, Obj.cells cm 24 (0, 0))] := EX4.out
  have hone := @EnvC.one _ _ _ hw6
  (refine wpG_op rfl rfl rfl ?_; intro K hK; go_big_quiet_op; go_big_quiet_on)
  (refine wpG_val (v := .int .i64 (n : Int)) rfl rfl (fun u hu => len_op Tryd.underlying22 HN63.out u rfl) ?_ hw6; intro K hK; go_big_quiet_op; go_big_quiet_on)
  (refine wpG_op rfl rfl rfl ?_; intro K hK; go_big_quiet_op; go_big_quiet_on)
  clear hone hw6
  refine wpG_nil ?_
  intro u8 E2'
  have EX7 := Lib.hid E2'
  clear E2'
  have HINV : Hid (OwnI u8 w.heap.size (.slice (some ⟨gm, 0, none⟩) 0 n) (leavesL (l.take 0)) ∧ Below w.heap.size w u8) := by
    refine ⟨?_, EnvX.bel EX7.out⟩
    have hF : FreshI [] (.slice (some ⟨gm, 0, none⟩) 0 n) [(gm, Obj.cells cm 24 (0, 0))] := .inl ⟨gm, n, cm, rfl, rfl, Nat.zero_le _, HNM.out, HCM.out, rfl⟩
    exact hF.own (fun y hy => by cases hy) (fun y hy => by cases List.mem_singleton.1 hy; exact ⟨HGM.out.1, EnvX.box EX7.out _ _ (List.Mem.head _)⟩)
  clear EX7 E1 HCM HGM HNM
  go_upto_region 3 with (fail)
  go_loopw [5, 13] (fun v iv u => ∃ k : Nat, k ≤ n ∧ iv = .int .i64 (k : Int) ∧ Hid (OwnI u w.heap.size v (leavesL (l.take k)) ∧ Below w.heap.size w u)) (fun _ iv _ => n - (intOf iv).toNat)
  case atStart => exact ⟨0, by omega, rfl, HINV⟩
  case round =>
    obtain ⟨k, hk, rfl, hinv⟩ := hrel
    obtain ⟨hO, hB⟩ := hinv.out
    clear hinv HINV
    by_cases hlt : k < n
    · have hlt2 : (k : Int) < (n : Int) := by omega
      have hkl : k < l.length := by rw [HL.out]; exact hlt
      obtain ⟨N, hF, hN⟩ := hO.fresh
      have HF := Lib.hid hF
      have HNB : Hid (∀ y ∈ N, w.heap.size ≤ y.1) := fun y hy => (hN y hy).1
      have EK : Hid (EnvX w wr (N ++ [])) := ⟨hB, fun g o hm => (hN (g, o) (by rwa [List.append_nil] at hm)).2.1⟩
      obtain ⟨ad, rfl, -⟩ := HIA.out.2.load HIA.out.1 hkl
      have HLD : Hid (∀ u, Below w.heap.size w u → (loadVar 24 (ad.add (k * 32))).run Tryd.prog u = .ok (idv (l.getD k [])) u) := fun u hu => by
        obtain ⟨ad2, e, h⟩ := (HIA.out.2.up hu).load HIA.out.1 hkl
        cases e
        exact h
      have hst := lleaves_step hkl
      have hQl : (leavesL (l.take k)).length = k := by rw [leavesL_len, List.length_take]; omega
      have HX : Hid (isId (l.getD k [])) := HIA.out.1.get hkl
      have HLF : Hid (∀ u, Below w.heap.size w u → Calls Tryd.prog 27 #[idv (l.getD k [])] u fun e w' => e = .returned (idv (leafT (l.getD k []))) ∧ Below u.heap.size u w') := fun u hu => leafOf_any T _ u HX.out (HTT.out.below hu)
      have HQ : Hid (isIds (leavesL (l.take k)) ∧ (leavesL (l.take k)).length ≤ 1000000) := ⟨leavesL_ids _, by omega⟩
      have HKN := Lib.hid hlt
      have HST := Lib.hid hst
      clear hO hB hF hN hst hQl hkl hlt
      generalize leavesL (l.take k) = Q at *
      generalize l.getD k [] = x at *
      have HLX : Hid ((leafT x).length = 32) := sumL_len _
      go_upto_region 4 with (fail)
      refine wp_region_Hx (w0 := w) [0, 1, 2, 3] (N ++ []) rfl EK.out ?_
      refine lexH_phase [0, 1] [2, 3] ?_
      have hw9 : EnvX w _ (N ++ []) := EK.out
      have hone := @EnvC.one _ _ _ hw9
      (refine wpG_val (v := .pointer (some (ad.add (k * 32)))) rfl rfl (fun u hu => idxSl_op Tryd.underlying22 aggIdT.size HKN.out u rfl rfl) ?_ hw9; intro K hK; go_big_quiet_op; go_big_quiet_on)
      (refine wpG_val (v := idv x) rfl rfl (fun u hu => load_any_op u (HLD.out u (EnvX.bel hu)) rfl) ?_ hw9; intro K hK; go_big_quiet_op; go_big_quiet_on)
      clear hone hw9
      refine wpG_nil ?_
      refine (hOp_fresh (R := fun x N => ∃ g, x = .pointer (some ⟨g, 0, none⟩) ∧ N = [(g, Obj.cells (arrB 32 []) 24 (0, 0))]) (M0 := (N ++ [])) rfl rfl (fun _ h => h) (fun u hu => FAt_new (new_id _) u) ?_)
      rintro _ _ ⟨g7, rfl, rfl⟩ hf he10; intro K' hK'; go_big_quiet_op; go_big_quiet_on
      have HG7 := Lib.hid (hf _ (List.mem_singleton.2 rfl))
      clear hf
      change lexH _ _ _ _ _ _ ((g7, Obj.cells (arrB 32 []) 24 (0, 0)) :: (N ++ []))
      refine (hOp_store rfl (g7) (arrB 32 x) rfl rfl HG7.out.1 24 ((arrB 32 [])) (List.Mem.head _) (info26 _ (arrB_size _ _ (by rw [HX.out.1]; omega))) ((arrB_size _ _ (by simp)).trans (arrB_size _ _ (by rw [HX.out.1]; omega)).symm) (arrB_one _ _) ((g7, Obj.cells (arrB 32 x) 24 (0, 0)) :: (N ++ [])) (List.forall_mem_cons.2 ⟨.inl rfl, fun y hy => .inr ⟨List.mem_cons_of_mem _ hy, HG7.out.2 y hy⟩⟩) ?_)
      intro he11
      intro u13 E2'
      have EX12 := Lib.hid E2'
      clear E2'
      go_upto_region 5 with (fail)
      refine wp_region_Hx (w0 := w) [0, 1, 2, 3, 4, 5, 6] ((g7, Obj.cells (arrB 32 x) 24 (0, 0)) :: (N ++ [])) rfl EX12.out ?_
      refine lexH_phase [0, 1, 2, 3] [4, 5, 6] ?_
      have hw14 : EnvX w _ ((g7, Obj.cells (arrB 32 x) 24 (0, 0)) :: (N ++ [])) := EX12.out
      have hone := @EnvC.one _ _ _ hw14
      (refine wpG_op rfl rfl rfl ?_; intro K hK; go_big_quiet_op; go_big_quiet_on)
      (refine wpG_op rfl rfl rfl ?_; intro K hK; go_big_quiet_op; go_big_quiet_on)
      (refine wpG_val (v := idv x) rfl rfl (fun u hu => load_run_op u (box_load hu (List.Mem.head _) HX.out.1) rfl) ?_ hw14; intro K hK; go_big_quiet_op; go_big_quiet_on)
      (refine wpG_callV (f := 27) (args := #[idv x]) (caps := #[]) (all := #[idv x]) (v := idv (leafT x)) rfl rfl rfl rfl rfl Tryd.func27 rfl rfl (fun u hu => HLF.out u (EnvX.bel hu)) ?_ hw14; intro K hK; go_big_quiet_op; go_big_quiet_on)
      clear hone hw14
      refine wpG_nil ?_
      refine (hOp_fresh (R := BuiltI (leafT x)) (M0 := ((g7, Obj.cells (arrB 32 x) 24 (0, 0)) :: (N ++ []))) rfl rfl (fun _ h => h) (fun u hu => FAt_buildI HLX.out rfl u) ?_)
      rintro _ _ ⟨gq, rfl, rfl⟩ hf he15; intro K' hK'; go_big_quiet_op; go_big_quiet_on
      clear hf
      change lexH _ _ _ _ _ _ ((gq, Obj.cells (arrB 32 (leafT x)) 24 (0, 0)) :: ((g7, Obj.cells (arrB 32 x) 24 (0, 0)) :: (N ++ [])))
      refine (hOp_own (gd := none) (R := GrownI w (Q ++ [leafT x]) []) rfl rfl rfl rfl (fun u hu => appI_op [] hu HQ.out.1 HLX.out HF.out (fun y hy => ⟨List.mem_cons_of_mem _ (List.mem_cons_of_mem _ (List.mem_append_left _ hy)), HNB.out y hy⟩) (List.Mem.head _) (fun _ h => by cases h) HQ.out.2 rfl rfl) ?_)
      rintro x9 M' ⟨N9, rfl, hF9, hn9⟩ he16; intro K' hK'; go_big_quiet_op; go_big_quiet_on
      have HF9 := Lib.hid (And.intro hF9 hn9)
      clear hF9 hn9
      change lexH _ _ _ _ _ _ (N9 ++ [])
      refine lexH_phase [6] [] ?_
      have hw17 : EnvX w _ (N9 ++ []) := he16.choose_spec
      have hone := @EnvC.one _ _ _ hw17
      (refine wpG_op rfl rfl rfl ?_; intro K hK; go_big_quiet_op; go_big_quiet_on)
      clear hone hw17
      refine wpG_nil ?_
      intro u19 E2'
      have EX18 := Lib.hid E2'
      clear E2'
      have HNX : Hid (OwnI u19 w.heap.size x9 (leavesL (l.take (k + 1))) ∧ Below w.heap.size w u19) := by
        refine ⟨?_, EnvX.bel EX18.out⟩
        rw [HST.out]
        refine HF9.out.1.own (fun y hy => ?_) (fun y hy => ⟨(HF9.out.2 y hy).1, EnvX.box EX18.out _ _ (List.mem_append_left _ hy)⟩)
        rcases List.mem_append.1 hy with h | h
        · exact HQ.out.1 y h
        · cases List.mem_singleton.1 h; exact ⟨sumL_len _, sumL_byte _⟩
      go_wp2
      go_roundw
      case rel => exact ⟨k + 1, by omega, by go_num, HNX⟩
      case measure => simp [intOf]; omega
    · obtain rfl : k = n := by omega
      have hge : ¬ (k : Int) < (k : Int) := by omega
      rw [List.take_of_length_le (by rw [HL.out]; exact Nat.le_refl _)] at hO
      have HO := Lib.hid hO
      have HB := Lib.hid hB
      clear hO hB
      go_wp2
      go_ret
      exact ⟨⟨_, rfl, HO.out⟩, HB.out⟩
set_option maxRecDepth 20000 in
set_option maxHeartbeats 4000000 in
theorem link_root (T : TreeC) (l : List (List Int)) (A : Option Addr) (n c : Nat) (w : World) (hl : l.length = n) (hn : n ≤ 1000000) (hnc : n ≤ c) (hcm : c ≤ maxLen) (hI : isIds l) (hA : IdsIn w w.heap.size A l) (ht : Tables w) :
    Calls Tryd.prog 17 #[.slice A n c] w fun e w' => e = .returned (idv (rootT (leavesL l))) ∧ Below w.heap.size w w' := by
  have HLV : Hid (∀ u, Below w.heap.size w u → Calls Tryd.prog 26 #[.slice A n c, .func (.func 27) #[] #[]] u fun e w' => (∃ v, e = .returned v ∧ OwnI w' u.heap.size v (leavesL l)) ∧ Below u.heap.size u w') := fun u hu => each_any T l A n c u hl hn hnc hcm hI (hA.up hu) (ht.below hu)
  have hri := root_id (leavesL_ids l)
  have HRT : Hid (∀ (u : World) (A1 : Option Addr) (c1 : Nat), Below w.heap.size w u → (leavesL l).length ≤ c1 → c1 ≤ maxLen → IdsIn u u.heap.size A1 (leavesL l) → Calls Tryd.prog 31 #[.slice A1 (leavesL l).length c1] u fun e w' => e = .returned (idv (rootT (leavesL l))) ∧ Below u.heap.size u w') := fun u A1 c1 hb h1 h2 h3 => T.root (leavesL l) A1 _ c1 u rfl (by rw [leavesL_len, hl]; exact hn) h1 h2 (leavesL_ids l) h3 (ht.below hb)
  have E1 : Hid (EnvX w (w.alloc (.cells (arrB 32 []) 24)) [(w.heap.size, Obj.cells (arrB 32 []) 24 (0, 0))]) := (EnvX.start w).new _
  generalize rootT (leavesL l) = rt at *
  have HZ : Hid ((arrB 32 rt).size = 32) := arrB_size _ _ (by rw [hri.1]; omega)
  clear hl hI hA hri ht hnc hcm
  unfold idv
  go_enter Tryd.func17, Tryd.ntmps17
  go_upto_region 1 with (fail)
  rw [zero_cells]
  generalize w.alloc (.cells (arrB 32 []) 24) = W at *
  refine wp_region_Hx (w0 := w) [0, 1, 2, 3] [(w.heap.size, Obj.cells (arrB 32 []) 24 (0, 0))] rfl E1.out ?_
  refine lexH_phase [0] [1, 2, 3] ?_
  have hw1 : EnvX w _ [(w.heap.size, Obj.cells (arrB 32 []) 24 (0, 0))] := E1.out
  have hone := @EnvC.one _ _ _ hw1
  (refine wpG_op rfl rfl rfl ?_; intro K hK; go_big_quiet_op; go_big_quiet_on)
  clear hone hw1
  refine wpG_nil ?_
  refine (hOp_fresh (R := FreshI (leavesL l)) (M0 := [(w.heap.size, Obj.cells (arrB 32 []) 24 (0, 0))]) rfl rfl (fun _ h => h) (fun u hu => FAt_call (fid := 26) (xs := #[.tmp 3, .func 27]) (args := #[.slice A n c, .func (.func 27) #[] #[]]) rfl Tryd.func26 rfl rfl u (callsI_fresh (HLV.out u (EnvX.bel hu)))) ?_)
  rintro x N1 hF hf he2; intro K' hK'; go_big_quiet_op; go_big_quiet_on
  obtain ⟨A1, c1, rfl, hc1, hc2⟩ := FreshI.form hF
  have HF := Lib.hid (And.intro hF (And.intro hc1 hc2))
  clear hF hc1 hc2
  clear hf
  change lexH _ _ _ _ _ _ (N1 ++ ((w.heap.size, Obj.cells (arrB 32 []) 24 (0, 0)) :: []))
  refine lexH_phase [2] [3] ?_
  have hw3 : EnvX w _ (N1 ++ ((w.heap.size, Obj.cells (arrB 32 []) 24 (0, 0)) :: [])) := he2.choose_spec
  have hone := @EnvC.one _ _ _ hw3
  (refine wpG_call (f := 31) (args := #[.slice A1 (leavesL l).length c1]) (v := idv rt) rfl rfl rfl Tryd.func31 rfl rfl (fun u hu => HRT.out u A1 c1 (EnvX.bel hu) HF.out.2.1 HF.out.2.2 (HF.out.1.ids (leavesL_ids l) hu (fun y hy => List.mem_append_left _ hy))) ?_ hw3; intro K hK; go_big_quiet_op; go_big_quiet_on)
  clear hone hw3
  refine wpG_nil ?_
  refine (hOp_store rfl (w.heap.size) (arrB 32 rt) rfl rfl (Nat.le_refl _) 24 ((arrB 32 [])) (List.mem_append_right _ (List.Mem.head _)) (info26 _ HZ.out) ((arrB_size _ _ (by simp)).trans HZ.out.symm) (arrB_one _ _) [(w.heap.size, Obj.cells (arrB 32 rt) 24 (0, 0))] (List.forall_mem_cons.2 ⟨.inl rfl, (fun _ h => by cases h)⟩) ?_)
  intro he4
  intro u6 E2'
  have EX5 := Lib.hid E2'
  clear E2'
  have Q0 := Lib.hid (EnvX.box EX5.out _ _ (List.Mem.head _))
  have HBEL := Lib.hid EX5.out.bel
  clear EX5
  go_wp2_with ((with_reducible refine bodyPost_ret (v := .agg (arrB 32 rt)) ?_ ?_ ?_); (exact results_cell_row (p := 2) (ty := 24) Tryd.results17 _ _ (w.heap.size) 24 (arrB 32 rt) (0, 0) _ rfl Q0.out Tryd.underlying24 rfl (info26 _ HZ.out)); (rfl))
  first | exact HBEL.out | exact ⟨rfl, HBEL.out⟩
set_option maxRecDepth 20000 in
set_option maxHeartbeats 4000000 in
theorem link_path (T : TreeC) (l : List (List Int)) (A : Option Addr) (n c : Nat) (w : World) (hl : l.length = n) (hn : n ≤ 1000000) (hnc : n ≤ c) (hcm : c ≤ maxLen) (hI : isIds l) (hA : IdsIn w w.heap.size A l) (i : Int) (hi : I64 i) (ht : Tables w) :
    Calls Tryd.prog 13 #[.slice A n c, .int .i64 i] w fun e w' => (∃ v, e = .returned (.tuple #[v, .bool (pathR (leavesL l) i).2]) ∧ OwnI w' w.heap.size v (pathR (leavesL l) i).1) ∧ Below w.heap.size w w' := by
  have HLV := Lib.hid (each_any T l A n c w hl hn hnc hcm hI hA ht)
  have HP : Hid (∀ (u : World) (A1 : Option Addr) (c1 : Nat), Below w.heap.size w u → (leavesL l).length ≤ c1 → c1 ≤ maxLen → IdsIn u u.heap.size A1 (leavesL l) → Calls Tryd.prog 25 #[.slice A1 (leavesL l).length c1, .int .i64 i] u fun e w' => (∃ v, e = .returned (.tuple #[v, .bool (pathR (leavesL l) i).2]) ∧ OwnI w' u.heap.size v (pathR (leavesL l) i).1) ∧ Below u.heap.size u w') := fun u A1 c1 hb h1 h2 h3 => T.path (leavesL l) i A1 _ c1 u rfl (by rw [leavesL_len, hl]; exact hn) h1 h2 hi (leavesL_ids l) h3 (ht.below hb)
  clear hl hI hA hi ht hnc hcm
  go_enter Tryd.func13, Tryd.ntmps13
  go_wp2_with fail
  refine HLV.out.mono ?_
  rintro e w1 ⟨⟨v1, rfl, hv1⟩, hb1⟩
  obtain ⟨A1, c1, rfl, h1, h2⟩ := hv1.form
  have HQ := Lib.hid (HP.out w1 A1 c1 hb1 h1 h2 hv1.ids)
  have HB1 := Lib.hid hb1
  clear hv1 hb1 h1 h2 HP
  go_wp2_with fail
  refine HQ.out.mono ?_
  rintro e w2 ⟨⟨v2, rfl, hv2⟩, hb2⟩
  have HV2 := Lib.hid (hv2.less HB1.out.size)
  have HB2 := Lib.hid (HB1.out.trans (hb2.mono HB1.out.size))
  clear hv2 hb2
  go_wp2_with fail
  go_returns
  exact ⟨⟨_, rfl, HV2.out⟩, HB2.out⟩
set_option maxRecDepth 20000 in
set_option maxHeartbeats 4000000 in
theorem link_check (T : TreeC) (root id : List Int) (n i : Int) (p : List (List Int)) (A : Option Addr) (m c : Nat) (w : World) (hr : isId root) (hid : isId id) (hn : I64 n) (hi : I64 i) (hm : p.length = m) (hm6 : m ≤ 1000000) (hmc : m ≤ c) (hcm : c ≤ maxLen) (hJ : isIds p) (hA : IdsIn w w.heap.size A p) (ht : Tables w) :
    Calls Tryd.prog 19 #[idv root, .int .i64 n, .int .i64 i, idv id, .slice A m c] w fun e w' => e = .returned (.bool (checkT root n i (leafT id) p)) ∧ Below w.heap.size w w' := by
  have HR := Lib.hid hr
  have HD := Lib.hid hid
  have HLF : Hid (∀ u, Below w.heap.size w u → Calls Tryd.prog 27 #[idv id] u fun e w' => e = .returned (idv (leafT id)) ∧ Below u.heap.size u w') := fun u hu => leafOf_any T id u hid (ht.below hu)
  have HCK : Hid (∀ u, Below w.heap.size w u → Calls Tryd.prog 33 #[idv root, .int .i64 n, .int .i64 i, idv (leafT id), .slice A m c] u fun e w' => e = .returned (.bool (checkT root n i (leafT id) p)) ∧ Below u.heap.size u w') := fun u hu => T.check root (leafT id) n i p A m c u hr ⟨sumL_len _, sumL_byte _⟩ hn hi hm hm6 hmc hcm hJ (hA.up hu) (ht.below hu)
  have E1 : Hid (EnvX w ((w.alloc (.cells (arrB 32 root) 24)).alloc (.cells (arrB 32 id) 24)) [(w.heap.size + 1, Obj.cells (arrB 32 id) 24 (0, 0)), (w.heap.size, Obj.cells (arrB 32 root) 24 (0, 0))]) := (EnvX.start w).two _ _
  generalize checkT root n i (leafT id) p = b at *
  clear hr hid hn hi hm hJ hA ht
  unfold idv
  go_enter Tryd.func19, Tryd.ntmps19
  go_upto_region 1 with (fail)
  generalize (w.alloc (.cells (arrB 32 root) 24)).alloc (.cells (arrB 32 id) 24) = W at *
  refine wp_region_H (w0 := w) [(w.heap.size + 1, Obj.cells (arrB 32 id) 24 (0, 0)), (w.heap.size, Obj.cells (arrB 32 root) 24 (0, 0))] (by kernel_rfl) E1.out ?_
  refine anyH_phase [0, 1, 2, 3, 4, 5, 6, 7] 0 rfl ⟨_, (EnvX.drew E1.out)⟩ (by kernel_rfl) ?_
  have hw1 : EnvX w _ [(w.heap.size + 1, Obj.cells (arrB 32 id) 24 (0, 0)), (w.heap.size, Obj.cells (arrB 32 root) 24 (0, 0))] := (EnvX.drew E1.out)
  have hone := @EnvC.one _ _ _ hw1
  (refine wpG_val (v := idv root) rfl rfl (fun u hu => load_run_op u (box_load hu (List.Mem.tail _ (List.Mem.head _)) HR.out.1) rfl) ?_ hw1; intro K hK; go_big_quiet_op; go_big_quiet_on)
  (refine wpG_op rfl rfl rfl ?_; intro K hK; go_big_quiet_op; go_big_quiet_on)
  (refine wpG_op rfl rfl rfl ?_; intro K hK; go_big_quiet_op; go_big_quiet_on)
  (refine wpG_val (v := idv id) rfl rfl (fun u hu => load_run_op u (box_load hu (List.Mem.head _) HD.out.1) rfl) ?_ hw1; intro K hK; go_big_quiet_op; go_big_quiet_on)
  (refine wpG_call (f := 27) (args := #[idv id]) (v := idv (leafT id)) rfl rfl rfl Tryd.func27 rfl rfl (fun u hu => HLF.out u (EnvX.bel hu)) ?_ hw1; intro K hK; go_big_quiet_op; go_big_quiet_on)
  (refine wpG_op rfl rfl rfl ?_; intro K hK; go_big_quiet_op; go_big_quiet_on)
  (refine wpG_call (f := 33) (args := #[idv root, .int .i64 n, .int .i64 i, idv (leafT id), .slice A m c]) (v := .bool b) rfl rfl rfl Tryd.func33 rfl rfl (fun u hu => HCK.out u (EnvX.bel hu)) ?_ hw1; intro K hK; go_big_quiet_op; go_big_quiet_on)
  (refine wpG_op rfl rfl rfl ?_; intro K hK; go_big_quiet_op; go_big_quiet_on)
  clear hone hw1
  refine wpG_nil ?_
  refine anyH_done (by kernel_rfl) ?_
  intro u3 E2'
  have EX2 := Lib.hid E2'
  clear E2'
  go_wp2
  go_ret
  exact ⟨rfl, EnvX.bel EX2.out⟩
/-- where an id stands first; -1, if nowhere -/
def idxT : List (List Int) → List Int → Int
  | [], _ => -1
  | x :: r, id => if x = id then 0 else if 0 ≤ idxT r id then idxT r id + 1 else -1
theorem idxT_hit : ∀ (l : List (List Int)) (id : List Int) (k : Nat), k < l.length → (∀ j, j < k → l.getD j [] ≠ id) → l.getD k [] = id → idxT l id = (k : Int)
  | [], id, k, hk, _, _ => by cases hk
  | x :: r, id, 0, _, _, h => by
    unfold idxT
    rw [if_pos (show x = id from h)]
    rfl
  | x :: r, id, k + 1, hk, hn, h => by
    unfold idxT
    have hr := idxT_hit r id k (by simpa using hk) (fun j hj => hn (j + 1) (by omega)) h
    rw [if_neg (show ¬ x = id from hn 0 (by omega)), hr, if_pos (by omega)]
    rfl
theorem idxT_none : ∀ (l : List (List Int)) (id : List Int), (∀ j, j < l.length → l.getD j [] ≠ id) → idxT l id = -1
  | [], id, _ => rfl
  | x :: r, id, hn => by
    unfold idxT
    have hr := idxT_none r id (fun j hj => hn (j + 1) (by simpa using hj))
    rw [if_neg (show ¬ x = id from hn 0 (by simp)), hr, if_neg (by decide)]
theorem idxT_mem : ∀ (l : List (List Int)) (id : List Int), 0 ≤ idxT l id ↔ id ∈ l
  | [], id => ⟨fun h => absurd (show (0 : Int) ≤ -1 from h) (by decide), fun h => by cases h⟩
  | x :: r, id => by
    unfold idxT
    by_cases hx : x = id
    · rw [if_pos hx]
      exact ⟨fun _ => by rw [hx]; exact List.mem_cons_self .., fun _ => Int.le_refl _⟩
    · rw [if_neg hx]
      have hr := idxT_mem r id
      by_cases h0 : 0 ≤ idxT r id
      · rw [if_pos h0]
        exact ⟨fun _ => List.mem_cons_of_mem _ (hr.1 h0), fun _ => by omega⟩
      · rw [if_neg h0]
        exact ⟨fun h => absurd h (by decide), fun h => by
          rcases List.mem_cons.1 h with e | e
          · exact absurd e.symm hx
          · exact absurd (hr.2 e) h0⟩
set_option maxRecDepth 20000 in
set_option maxHeartbeats 4000000 in
theorem index_any (l : List (List Int)) (id : List Int) (A : Option Addr) (n c : Nat) (w : World) (hl : l.length = n) (hn : n ≤ 1000000) (hI : isIds l) (hA : IdsIn w w.heap.size A l) (hid : isId id) :
    Calls Tryd.prog 48 #[.slice A n c, idv id] w fun e w' => e = .returned (.int .i64 (idxT l id)) ∧ Below w.heap.size w w' := by
  have HL := Lib.hid hl
  have HIA := Lib.hid (And.intro hI hA)
  have HD := Lib.hid hid
  have E1 : Hid (EnvX w (w.alloc (.cells (arrB 32 id) 24)) [(w.heap.size, Obj.cells (arrB 32 id) 24 (0, 0))]) := (EnvX.start w).new _
  clear hl hI hA hid
  unfold idv
  go_enter Tryd.func48, Tryd.ntmps48
  go_upto_region 2 with (fail)
  generalize w.alloc (.cells (arrB 32 id) 24) = W at *
  go_loopw [8] (fun iv u => ∃ k : Nat, k ≤ n ∧ iv = .int .i64 (k : Int) ∧ Hid ((∀ j, j < k → l.getD j [] ≠ id) ∧ EnvX w u [(w.heap.size, Obj.cells (arrB 32 id) 24 (0, 0))])) (fun iv _ => n - (intOf iv).toNat)
  case atStart => exact ⟨0, by omega, rfl, (fun j hj => by omega), E1.out⟩
  case round =>
    obtain ⟨k, hk, rfl, hinv⟩ := hrel
    have HNO := Lib.hid hinv.out.1
    have EK := Lib.hid hinv.out.2
    clear hinv E1
    by_cases hlt : k < n
    · have hlt2 : (k : Int) < (n : Int) := by omega
      have hkl : k < l.length := by rw [HL.out]; exact hlt
      obtain ⟨ad, rfl, -⟩ := HIA.out.2.load HIA.out.1 hkl
      have HLD : Hid (∀ u, Below w.heap.size w u → (loadVar 24 (ad.add (k * 32))).run Tryd.prog u = .ok (idv (l.getD k [])) u) := fun u hu => by
        obtain ⟨ad2, e, h⟩ := (HIA.out.2.up hu).load HIA.out.1 hkl
        cases e
        exact h
      have HX : Hid ((l.getD k []).length = 32) := (HIA.out.1.get hkl).1
      have HKN := Lib.hid hlt
      by_cases hx : l.getD k [] = id
      · have HEQ : Hid (eqL id (l.getD k []) = true) := decide_eq_true hx.symm
        have HR : Hid (idxT l id = (k : Int)) := idxT_hit l id k hkl HNO.out hx
        clear hx hkl hlt
        generalize l.getD k [] = x at *
        go_upto_region 4 with (fail)
        refine wp_region_H (w0 := w) [(w.heap.size, Obj.cells (arrB 32 id) 24 (0, 0))] (by kernel_rfl) EK.out ?_
        refine anyH_phase [0, 1, 2, 3, 4, 5] 0 rfl ⟨_, (EnvX.drew EK.out)⟩ (by kernel_rfl) ?_
        have hw51 : EnvX w _ [(w.heap.size, Obj.cells (arrB 32 id) 24 (0, 0))] := (EnvX.drew EK.out)
        have hone := @EnvC.one _ _ _ hw51
        (refine wpG_val (v := idv id) rfl rfl (fun u hu => load_run_op u (box_load hu (List.Mem.head _) HD.out.1) rfl) ?_ hw51; intro K hK; go_big_quiet_op; go_big_quiet_on)
        (refine wpG_op rfl rfl rfl ?_; intro K hK; go_big_quiet_op; go_big_quiet_on)
        (refine wpG_op rfl rfl rfl ?_; intro K hK; go_big_quiet_op; go_big_quiet_on)
        (refine wpG_val (v := .pointer (some (ad.add (k * 32)))) rfl rfl (fun u hu => idxSl_op Tryd.underlying22 aggIdT.size HKN.out u rfl rfl) ?_ hw51; intro K hK; go_big_quiet_op; go_big_quiet_on)
        (refine wpG_val (v := idv x) rfl rfl (fun u hu => load_any_op u (HLD.out u (EnvX.bel hu)) rfl) ?_ hw51; intro K hK; go_big_quiet_op; go_big_quiet_on)
        (refine wpG_val (v := .bool true) rfl rfl (fun u hu => eqlb_op HD.out.1 HX.out HEQ.out u rfl rfl) ?_ hw51; intro K hK; go_big_quiet_op; go_big_quiet_on)
        clear hone hw51
        refine wpG_nil ?_
        refine anyH_done (by kernel_rfl) ?_
        intro u53 E2'
        have EX52 := Lib.hid E2'
        clear E2'
        go_wp2
        go_ret
        exact ⟨by rw [HR.out]; first | done | rfl, EnvX.bel EX52.out⟩
      · have HEQ : Hid (eqL id (l.getD k []) = false) := decide_eq_false (fun e => hx e.symm)
        have HN2 : Hid (∀ j, j < k + 1 → l.getD j [] ≠ id) := fun j hj => by
          rcases Nat.lt_or_ge j k with h | h
          · exact HNO.out j h
          · rw [show j = k by omega]; exact hx
        clear hx hkl hlt
        generalize l.getD k [] = x at *
        go_upto_region 4 with (fail)
        refine wp_region_H (w0 := w) [(w.heap.size, Obj.cells (arrB 32 id) 24 (0, 0))] (by kernel_rfl) EK.out ?_
        refine anyH_phase [0, 1, 2, 3, 4, 5] 0 rfl ⟨_, (EnvX.drew EK.out)⟩ (by kernel_rfl) ?_
        have hw51 : EnvX w _ [(w.heap.size, Obj.cells (arrB 32 id) 24 (0, 0))] := (EnvX.drew EK.out)
        have hone := @EnvC.one _ _ _ hw51
        (refine wpG_val (v := idv id) rfl rfl (fun u hu => load_run_op u (box_load hu (List.Mem.head _) HD.out.1) rfl) ?_ hw51; intro K hK; go_big_quiet_op; go_big_quiet_on)
        (refine wpG_op rfl rfl rfl ?_; intro K hK; go_big_quiet_op; go_big_quiet_on)
        (refine wpG_op rfl rfl rfl ?_; intro K hK; go_big_quiet_op; go_big_quiet_on)
        (refine wpG_val (v := .pointer (some (ad.add (k * 32)))) rfl rfl (fun u hu => idxSl_op Tryd.underlying22 aggIdT.size HKN.out u rfl rfl) ?_ hw51; intro K hK; go_big_quiet_op; go_big_quiet_on)
        (refine wpG_val (v := idv x) rfl rfl (fun u hu => load_any_op u (HLD.out u (EnvX.bel hu)) rfl) ?_ hw51; intro K hK; go_big_quiet_op; go_big_quiet_on)
        (refine wpG_val (v := .bool false) rfl rfl (fun u hu => eqlb_op HD.out.1 HX.out HEQ.out u rfl rfl) ?_ hw51; intro K hK; go_big_quiet_op; go_big_quiet_on)
        clear hone hw51
        refine wpG_nil ?_
        refine anyH_done (by kernel_rfl) ?_
        intro u53 E2'
        have EX52 := Lib.hid E2'
        clear E2'
        go_wp2
        go_roundw
        case rel => exact ⟨k + 1, by omega, by go_num, HN2.out, EX52.out⟩
        case measure => simp [intOf]; omega
    · obtain rfl : k = n := by omega
      have hge : ¬ (k : Int) < (k : Int) := by omega
      have HR : Hid (idxT l id = -1) := idxT_none l id (fun j hj => HNO.out j (by rw [← HL.out]; exact hj))
      have HB := Lib.hid (EnvX.bel EK.out)
      clear EK
      go_wp2
      go_ret
      exact ⟨by rw [HR.out]; first | done | rfl, HB.out⟩
set_option maxRecDepth 20000 in
set_option maxHeartbeats 4000000 in
theorem contains_any (l : List (List Int)) (id : List Int) (A : Option Addr) (n c : Nat) (w : World) (hl : l.length = n) (hn : n ≤ 1000000) (hI : isIds l) (hA : IdsIn w w.heap.size A l) (hid : isId id) :
    Calls Tryd.prog 32 #[.slice A n c, idv id] w fun e w' => e = .returned (.bool (decide (id ∈ l))) ∧ Below w.heap.size w w' := by
  have HIX : Hid (∀ u, Below w.heap.size w u → Calls Tryd.prog 48 #[.slice A n c, idv id] u fun e w' => e = .returned (.int .i64 (idxT l id)) ∧ Below u.heap.size u w') := fun u hu => index_any l id A n c u hl hn hI (hA.up hu) hid
  have HD := Lib.hid hid
  have HB : Hid (decide (0 ≤ idxT l id) = decide (id ∈ l)) := decide_eq_decide.2 (idxT_mem l id)
  have E1 : Hid (EnvX w (w.alloc (.cells (arrB 32 id) 24)) [(w.heap.size, Obj.cells (arrB 32 id) 24 (0, 0))]) := (EnvX.start w).new _
  generalize idxT l id = q at *
  clear hl hI hA hid
  unfold idv
  go_enter Tryd.func32, Tryd.ntmps32
  go_upto_region 1 with (fail)
  generalize w.alloc (.cells (arrB 32 id) 24) = W at *
  refine wp_region_Hx (w0 := w) [0, 1, 2, 3, 4] [(w.heap.size, Obj.cells (arrB 32 id) 24 (0, 0))] rfl E1.out ?_
  refine lexH_phase [0, 1, 2, 3, 4] [] ?_
  have hw1 : EnvX w _ [(w.heap.size, Obj.cells (arrB 32 id) 24 (0, 0))] := E1.out
  have hone := @EnvC.one _ _ _ hw1
  (refine wpG_op rfl rfl rfl ?_; intro K hK; go_big_quiet_op; go_big_quiet_on)
  (refine wpG_val (v := idv id) rfl rfl (fun u hu => load_run_op u (box_load hu (List.Mem.head _) HD.out.1) rfl) ?_ hw1; intro K hK; go_big_quiet_op; go_big_quiet_on)
  (refine wpG_call (f := 48) (args := #[.slice A n c, idv id]) (v := .int .i64 q) rfl rfl rfl Tryd.func48 rfl rfl (fun u hu => HIX.out u (EnvX.bel hu)) ?_ hw1; intro K hK; go_big_quiet_op; go_big_quiet_on)
  (refine wpG_val (v := .bool (decide (id ∈ l))) rfl rfl (fun u hu => geZ_op u HB.out rfl rfl) ?_ hw1; intro K hK; go_big_quiet_op; go_big_quiet_on)
  (refine wpG_op rfl rfl rfl ?_; intro K hK; go_big_quiet_op; go_big_quiet_on)
  clear hone hw1
  refine wpG_nil ?_
  intro u3 E2'
  have EX2 := Lib.hid E2'
  clear E2'
  go_wp2
  go_ret
  exact ⟨rfl, EnvX.bel EX2.out⟩
set_option maxRecDepth 20000 in
set_option maxHeartbeats 4000000 in
theorem link_leads (l : List (List Int)) (prev id : List Int) (A : Option Addr) (n c : Nat) (w : World) (hl : l.length = n) (hn : n ≤ 1000000) (hI : isIds l) (hA : IdsIn w w.heap.size A l) (hp : isId prev) (hid : isId id) :
    Calls Tryd.prog 18 #[.slice A n c, idv prev, idv id] w fun e w' => e = .returned (.bool (leadsT l prev id)) ∧ Below w.heap.size w w' := by
  have HCN : Hid (∀ u, Below w.heap.size w u → Calls Tryd.prog 32 #[.slice A n c, idv id] u fun e w' => e = .returned (.bool (decide (id ∈ l))) ∧ Below u.heap.size u w') := fun u hu => contains_any l id A n c u hl hn hI (hA.up hu) hid
  have HP := Lib.hid hp
  have HD := Lib.hid hid
  have E1 : Hid (EnvX w ((w.alloc (.cells (arrB 32 prev) 24)).alloc (.cells (arrB 32 id) 24)) [(w.heap.size + 1, Obj.cells (arrB 32 id) 24 (0, 0)), (w.heap.size, Obj.cells (arrB 32 prev) 24 (0, 0))]) := (EnvX.start w).two _ _
  clear hl hI hA hp hid
  by_cases hx : prev = id
  · have HEQ : Hid (eqL id prev = true) := decide_eq_true hx.symm
    have HR : Hid (leadsT l prev id = true) := decide_eq_true (.inl hx)
    clear hx
    unfold idv
    go_enter Tryd.func18, Tryd.ntmps18
    go_upto_region 1 with (fail)
    generalize (w.alloc (.cells (arrB 32 prev) 24)).alloc (.cells (arrB 32 id) 24) = W at *
    refine wp_region_Hx (w0 := w) [0, 1, 2, 3, 4, 5, 6, 7, 8] [(w.heap.size + 1, Obj.cells (arrB 32 id) 24 (0, 0)), (w.heap.size, Obj.cells (arrB 32 prev) 24 (0, 0))] rfl E1.out ?_
    refine lexH_phase [0, 1, 2, 3, 4, 5, 6, 7, 8] [] ?_
    have hw1 : EnvX w _ [(w.heap.size + 1, Obj.cells (arrB 32 id) 24 (0, 0)), (w.heap.size, Obj.cells (arrB 32 prev) 24 (0, 0))] := E1.out
    have hone := @EnvC.one _ _ _ hw1
    (refine wpG_val (v := idv id) rfl rfl (fun u hu => load_run_op u (box_load hu (List.Mem.head _) HD.out.1) rfl) ?_ hw1; intro K hK; go_big_quiet_op; go_big_quiet_on)
    (refine wpG_val (v := idv prev) rfl rfl (fun u hu => load_run_op u (box_load hu (List.Mem.tail _ (List.Mem.head _)) HP.out.1) rfl) ?_ hw1; intro K hK; go_big_quiet_op; go_big_quiet_on)
    (refine wpG_val (v := .bool true) rfl rfl (fun u hu => eqlb_op HD.out.1 HP.out.1 HEQ.out u rfl rfl) ?_ hw1; intro K hK; go_big_quiet_op; go_big_quiet_on)
    (refine wpG_op rfl rfl rfl ?_; intro K hK; go_big_quiet_op; go_big_quiet_on)
    (refine wpG_skip rfl rfl ?_ hw1; intro K hK; go_big_quiet_op; go_big_quiet_on)
    (refine wpG_skip rfl rfl ?_ hw1; intro K hK; go_big_quiet_op; go_big_quiet_on)
    (refine wpG_skip rfl rfl ?_ hw1; intro K hK; go_big_quiet_op; go_big_quiet_on)
    (refine wpG_op rfl rfl rfl ?_; intro K hK; go_big_quiet_op; go_big_quiet_on)
    (refine wpG_op rfl rfl rfl ?_; intro K hK; go_big_quiet_op; go_big_quiet_on)
    clear hone hw1
    refine wpG_nil ?_
    intro u3 E2'
    have EX2 := Lib.hid E2'
    clear E2'
    go_wp2
    go_ret
    exact ⟨by rw [HR.out]; first | done | rfl, EnvX.bel EX2.out⟩
  · have HEQ : Hid (eqL id prev = false) := decide_eq_false (fun e => hx e.symm)
    have HR : Hid (leadsT l prev id = decide (id ∈ l)) := decide_eq_decide.2 ⟨fun h => h.resolve_left hx, fun h => .inr h⟩
    clear hx
    generalize decide (id ∈ l) = b at *
    unfold idv
    go_enter Tryd.func18, Tryd.ntmps18
    go_upto_region 1 with (fail)
    generalize (w.alloc (.cells (arrB 32 prev) 24)).alloc (.cells (arrB 32 id) 24) = W at *
    refine wp_region_Hx (w0 := w) [0, 1, 2, 3, 4, 5, 6, 7, 8] [(w.heap.size + 1, Obj.cells (arrB 32 id) 24 (0, 0)), (w.heap.size, Obj.cells (arrB 32 prev) 24 (0, 0))] rfl E1.out ?_
    refine lexH_phase [0, 1, 2, 3, 4, 5, 6, 7, 8] [] ?_
    have hw1 : EnvX w _ [(w.heap.size + 1, Obj.cells (arrB 32 id) 24 (0, 0)), (w.heap.size, Obj.cells (arrB 32 prev) 24 (0, 0))] := E1.out
    have hone := @EnvC.one _ _ _ hw1
    (refine wpG_val (v := idv id) rfl rfl (fun u hu => load_run_op u (box_load hu (List.Mem.head _) HD.out.1) rfl) ?_ hw1; intro K hK; go_big_quiet_op; go_big_quiet_on)
    (refine wpG_val (v := idv prev) rfl rfl (fun u hu => load_run_op u (box_load hu (List.Mem.tail _ (List.Mem.head _)) HP.out.1) rfl) ?_ hw1; intro K hK; go_big_quiet_op; go_big_quiet_on)
    (refine wpG_val (v := .bool false) rfl rfl (fun u hu => eqlb_op HD.out.1 HP.out.1 HEQ.out u rfl rfl) ?_ hw1; intro K hK; go_big_quiet_op; go_big_quiet_on)
    (refine wpG_op rfl rfl rfl ?_; intro K hK; go_big_quiet_op; go_big_quiet_on)
    (refine wpG_op rfl rfl rfl ?_; intro K hK; go_big_quiet_op; go_big_quiet_on)
    (refine wpG_val (v := idv id) rfl rfl (fun u hu => load_run_op u (box_load hu (List.Mem.head _) HD.out.1) rfl) ?_ hw1; intro K hK; go_big_quiet_op; go_big_quiet_on)
    (refine wpG_call (f := 32) (args := #[.slice A n c, idv id]) (v := .bool b) rfl rfl rfl Tryd.func32 rfl rfl (fun u hu => HCN.out u (EnvX.bel hu)) ?_ hw1; intro K hK; go_big_quiet_op; go_big_quiet_on)
    (refine wpG_op rfl rfl rfl ?_; intro K hK; go_big_quiet_op; go_big_quiet_on)
    (refine wpG_op rfl rfl rfl ?_; intro K hK; go_big_quiet_op; go_big_quiet_on)
    clear hone hw1
    refine wpG_nil ?_
    intro u3 E2'
    have EX2 := Lib.hid E2'
    clear E2'
    go_wp2
    go_ret
    exact ⟨by rw [HR.out]; first | done | rfl, EnvX.bel EX2.out⟩
end Go.Proofs.YtbjojpgedcikiaaDoor

namespace Go.Proofs.YtbjojpgedcikiaaDoor
set_option maxRecDepth 8000
open Go.RowKit

section
variable {a : Act} {dst : Option Tmp} {x y : Operand} {ty : TypeId} {pos : String} {after : Array Edge} {gd : Option (Nat × Bool)}
theorem minZ_op {m k : Int} (u : World) (hx : a.eval x = .int .i64 m) (hy : a.eval y = .int .i64 k) {ats : Array TypeId} :
    (execOp a.eval ⟨dst, .call { callee := .builtin .min, args := #[x, y], argTypes := ats }, ty, pos, after, gd⟩).run Tryd.prog u = .ok (.value (.int .i64 (min m k))) u := by
  unfold execOp
  simp only [resolve, invoke, builtin, Sem.run_bind, Sem.run_pure, Result.andThen_ok, List.map_toArray, List.map_cons, List.map_nil, hx, hy, Lib.run_min_ints]
theorem FAt_ids0 (u : World) : FAt Tryd.prog ⟨dst, .buildSlice 22 0 #[], ty, pos, after, gd⟩ a (fun v N => ∃ g, v = .slice (some ⟨g, 0, none⟩) 0 0 ∧ N = [(g, Obj.cells #[] 24 (0, 0))]) u := by
  have h : (execOp a.eval ⟨dst, .buildSlice 22 0 #[], ty, pos, after, gd⟩).run Tryd.prog u = .ok (.value (.slice (some ⟨u.heap.size, 0, none⟩) 0 0)) (u.alloc (.cells #[] 24)) := by
    unfold execOp
    go_simp
  unfold FAt
  rw [h]
  refine ⟨(Below.refl _ _).alloc (Nat.le_refl _) _, _, ⟨_, rfl, rfl⟩, fun y hy => ?_⟩
  cases List.mem_singleton.1 hy
  exact ⟨Nat.le_refl _, heap_alloc_new u _⟩
end
set_option maxRecDepth 20000 in
set_option maxHeartbeats 8000000 in
theorem lclone_any (l : List (List Int)) (A : Option Addr) (n c : Nat) (w : World) (hl : l.length = n) (hn : n ≤ 1000000) (hI : isIds l) (hA : IdsIn w w.heap.size A l) :
    Calls Tryd.prog 24 #[.slice A n c] w fun e w' => (∃ v, e = .returned v ∧ OwnI w' w.heap.size v l) ∧ Below w.heap.size w w' := by
  have HPL : Hid ((l.flatten.map u8v).length = n * 32) := by show _ = _; rw [List.length_map, hI.flat_len, hl]
  have HNB : Hid (n ≤ 1000000) := hn
  have HLN := Lib.hid hl
  have E1 : Hid (EnvX w w []) := EnvX.start w
  have q22 : ∀ (w : World) (a : Option Addr) (n c n' c' : Nat), (binOp .eql 22 (.slice a n c) (.slice none n' c')).run Tryd.prog w = .ok (.bool a.isNone) w := fun w a n c n' c' => Lib.run_eql_slice_nil w _ _ a n c n' c' Tryd.underlying22
  cases A with
  | none =>
    obtain rfl : l = [] := by
      refine List.eq_nil_of_length_eq_zero (Nat.eq_zero_of_not_pos fun hp => ?_)
      obtain ⟨ad, e, _⟩ := hA.load hI (i := 0) hp
      cases e
    subst hl
    clear hI hA HPL
    go_enter Tryd.func24, Tryd.ntmps24
    go_wp2
    go_ret
    exact ⟨⟨_, rfl, OwnI.nil _ _⟩, Below.refl _ _⟩
  | some ad =>
    have HA : Hid (CellsIn w w.heap.size (some ad) (l.flatten.map u8v)) := fun hp => by
      obtain ⟨ad', e, hb, hc⟩ := hA (by rwa [List.length_map] at hp)
      exact ⟨ad', e, hb, hc⟩
    clear hI hA hl
    go_enter Tryd.func24, Tryd.ntmps24
    go_upto_region 3 with (fail)
    refine wp_region_Hx (w0 := w) [0, 1, 2, 3] [] rfl E1.out ?_
    refine (hOp_fresh (R := fun v N => ∃ g, v = .slice (some ⟨g, 0, none⟩) 0 0 ∧ N = [(g, Obj.cells #[] 24 (0, 0))]) (M0 := []) rfl rfl (fun _ h => h) (fun u hu => FAt_ids0 u) ?_)
    rintro _ _ ⟨g0, rfl, rfl⟩ hf he1; intro K' hK'; go_big_quiet_op; go_big_quiet_on
    have HG0 := Lib.hid (hf _ (List.mem_singleton.2 rfl))
    clear hf
    change lexH _ _ _ _ _ _ [(g0, Obj.cells #[] 24 (0, 0))]
    refine lexH_phase [1] [2, 3] ?_
    have hw2 : EnvX w _ [(g0, Obj.cells #[] 24 (0, 0))] := he1.choose_spec
    have hone := @EnvC.one _ _ _ hw2
    (refine wpG_op rfl rfl rfl ?_; intro K hK; go_big_quiet_op; go_big_quiet_on)
    clear hone hw2
    refine wpG_nil ?_
    refine (hOp_own (gd := none) (R := GrownR w 24 32 (0 + n) ([] ++ l.flatten.map u8v) []) rfl rfl rfl rfl (fun u hu => appX_op elIdL (n := 0) (m := n) (xs := []) [] hu rfl HPL.out u8_ones (.inl ⟨g0, 0, #[], rfl, rfl, Nat.le_refl _, Nat.zero_le _, rfl, rfl⟩) (List.forall_mem_cons.2 ⟨⟨(List.Mem.head _), HG0.out.1⟩, fun _ h => by cases h⟩) (src_in HA.out (EnvX.bel hu)) (fun _ h => by cases h) (by have := HNB.out; omega) rfl rfl) ?_)
    rintro x1 M' ⟨N2, rfl, hF2, hn2⟩ he3; intro K' hK'; go_big_quiet_op; go_big_quiet_on
    have HF2 := Lib.hid (And.intro hF2 hn2)
    clear hF2 hn2
    change lexH _ _ _ _ _ _ (N2 ++ [])
    refine lexH_phase [3] [] ?_
    have hw4 : EnvX w _ (N2 ++ []) := he3.choose_spec
    have hone := @EnvC.one _ _ _ hw4
    (refine wpG_op rfl rfl rfl ?_; intro K hK; go_big_quiet_op; go_big_quiet_on)
    clear hone hw4
    refine wpG_nil ?_
    intro u6 E2'
    have EX5 := Lib.hid E2'
    clear E2'
    go_wp2
    go_ret
    refine ⟨⟨_, rfl, ?_⟩, EnvX.bel EX5.out⟩
    have h := HF2.out.1
    rw [List.nil_append, Nat.zero_add] at h
    have h2 := h.own HPL.out (fun y hy => ⟨(HF2.out.2 y hy).1, EnvX.box EX5.out _ _ (List.mem_append_left _ hy)⟩)
    unfold OwnI
    rw [HLN.out]
    exact h2
set_option maxRecDepth 20000 in
set_option maxHeartbeats 8000000 in
theorem link_next_many (l : List (List Int)) (id : List Int) (lev : Int) (A : Option Addr) (n c : Nat) (w : World) (hl : l.length = n) (hn : n ≤ 1000000) (hlev : I64 lev) (hI : isIds l) (hid : isId id) (hA : IdsIn w w.heap.size A l) (k1 : 32 < n) :
    Calls Tryd.prog 11 #[.slice A n c, idv id, .int .i64 lev] w fun e w' => (∃ v, e = .returned v ∧ OwnI w' w.heap.size v (nextT l id lev)) ∧ Below w.heap.size w w' := by
  rw [next_many (by omega)]
  have k1' : (n : Int) > 32 := by omega
  have HB : Below w.heap.size w (w.alloc (.cells (arrB 32 id) 24)) := (Below.refl _ _).alloc (Nat.le_refl _) _
  clear hid hI hA hl
  unfold idv
  go_enter Tryd.func11, Tryd.ntmps11
  go_wp2
  go_ret
  exact ⟨⟨_, rfl, OwnI.nil _ _⟩, HB⟩
set_option maxRecDepth 20000 in
set_option maxHeartbeats 8000000 in
theorem link_next_none (id : List Int) (lev : Int) (A : Option Addr) (c : Nat) (w : World) (hid : isId id) :
    Calls Tryd.prog 11 #[.slice A 0 c, idv id, .int .i64 lev] w fun e w' => (∃ v, e = .returned v ∧ OwnI w' w.heap.size v (nextT [] id lev)) ∧ Below w.heap.size w w' := by
  rw [next_none]
  have HD := Lib.hid hid
  have E1 : Hid (EnvX w (w.alloc (.cells (arrB 32 id) 24)) [(w.heap.size, Obj.cells (arrB 32 id) 24 (0, 0))]) := (EnvX.start w).new _
  clear hid
  unfold idv
  go_enter Tryd.func11, Tryd.ntmps11
  go_upto_region 4 with (fail)
  generalize w.alloc (.cells (arrB 32 id) 24) = W at *
  refine wp_region_Hx (w0 := w) [0, 1, 2] [(w.heap.size, Obj.cells (arrB 32 id) 24 (0, 0))] rfl E1.out ?_
  refine lexH_phase [0] [1, 2] ?_
  have hw1 : EnvX w _ [(w.heap.size, Obj.cells (arrB 32 id) 24 (0, 0))] := E1.out
  have hone := @EnvC.one _ _ _ hw1
  (refine wpG_val (v := idv id) rfl rfl (fun u hu => load_run_op u (box_load hu (List.Mem.head _) HD.out.1) rfl) ?_ hw1; intro K hK; go_big_quiet_op; go_big_quiet_on)
  clear hone hw1
  refine wpG_nil ?_
  refine (hOp_fresh (R := BuiltI id) (M0 := [(w.heap.size, Obj.cells (arrB 32 id) 24 (0, 0))]) rfl rfl (fun _ h => h) (fun u hu => FAt_buildI HD.out.1 rfl u) ?_)
  rintro _ _ ⟨gq, rfl, rfl⟩ hf he2; intro K' hK'; go_big_quiet_op; go_big_quiet_on
  have HGQ := Lib.hid (hf _ (List.mem_singleton.2 rfl))
  clear hf
  change lexH _ _ _ _ _ _ [(gq, Obj.cells (arrB 32 id) 24 (0, 0)), (w.heap.size, Obj.cells (arrB 32 id) 24 (0, 0))]
  refine lexH_phase [2] [] ?_
  have hw3 : EnvX w _ [(gq, Obj.cells (arrB 32 id) 24 (0, 0)), (w.heap.size, Obj.cells (arrB 32 id) 24 (0, 0))] := he2.choose_spec
  have hone := @EnvC.one _ _ _ hw3
  (refine wpG_op rfl rfl rfl ?_; intro K hK; go_big_quiet_op; go_big_quiet_on)
  clear hone hw3
  refine wpG_nil ?_
  intro u5 E2'
  have EX4 := Lib.hid E2'
  clear E2'
  go_wp2
  go_ret
  have hF : FreshI [id] (.slice (some ⟨gq, 0, none⟩) 1 1) [(gq, Obj.cells (arrB 32 id) 24 (0, 0))] := .inl ⟨gq, 1, arrB 32 id, rfl, rfl, Nat.le_refl _, by decide, arrB_size _ _ (by rw [HD.out.1]; omega), by
    rw [arrId_map HD.out.1]
    show (id.map u8v).take 32 = (id ++ []).map u8v
    rw [List.append_nil, List.take_of_length_le (by rw [List.length_map, HD.out.1]; exact Nat.le_refl _)]⟩
  exact ⟨⟨_, rfl, hF.own (fun y hy => by cases List.mem_singleton.1 hy; exact HD.out) (fun y hy => by cases List.mem_singleton.1 hy; exact ⟨HGQ.out.1, EnvX.box EX4.out _ _ (List.Mem.head _)⟩)⟩, EnvX.bel EX4.out⟩
set_option maxRecDepth 20000 in
set_option maxHeartbeats 8000000 in
theorem link_next_some (x : List Int) (r : List (List Int)) (l : List (List Int)) (hxr : l = x :: r) (id : List Int) (lev : Int) (A : Option Addr) (n c : Nat) (w : World) (hl : l.length = n) (hn : n ≤ 1000000) (hlev : I64 lev) (hI : isIds l) (hid : isId id) (hA : IdsIn w w.heap.size A l) (h32 : n ≤ 32) :
    Calls Tryd.prog 11 #[.slice A n c, idv id, .int .i64 lev] w fun e w' => (∃ v, e = .returned v ∧ OwnI w' w.heap.size v (nextT l id lev)) ∧ Below w.heap.size w w' := by
  have HX0 := Lib.hid hxr
  have hrl : r.length + 1 = n := by rw [← hl, hxr]; rfl
  have HCL : Hid (∀ u, Below w.heap.size w u → Calls Tryd.prog 24 #[.slice A n c] u fun e w' => (∃ v, e = .returned v ∧ OwnI w' u.heap.size v l) ∧ Below u.heap.size u w') := fun u hu => lclone_any l A n c u hl hn hI (hA.up hu)
  have HIL := Lib.hid hI
  rw [hxr, next_some (by omega)]
  have HN : Hid (n ≤ 32) := h32
  have HRL := Lib.hid hrl
  have HII : Hid (isIds (x :: r)) := by rw [← hxr]; exact hI
  have HLE0 := Lib.hid hl
  have hlv := lvN_le lev
  have n32 : ¬ (n : Int) > 32 := by omega
  have n0 : ¬ (n : Int) = 0 := by omega
  unfold I64 at hlev
  clear hI hA hl hxr hrl
  have HD := Lib.hid hid
  have E1 : Hid (EnvX w (w.alloc (.cells (arrB 32 id) 24)) [(w.heap.size, Obj.cells (arrB 32 id) 24 (0, 0))]) := (EnvX.start w).new _
  clear hid
  unfold idv
  go_enter Tryd.func11, Tryd.ntmps11
  go_upto_region 5 with (fail)
  generalize w.alloc (.cells (arrB 32 id) 24) = W at *
  refine wp_region_Hx (w0 := w) [0, 1, 2] [(w.heap.size, Obj.cells (arrB 32 id) 24 (0, 0))] rfl E1.out ?_
  refine lexH_phase [0] [1, 2] ?_
  have hw1 : EnvX w _ [(w.heap.size, Obj.cells (arrB 32 id) 24 (0, 0))] := E1.out
  have hone := @EnvC.one _ _ _ hw1
  (refine wpG_op rfl rfl rfl ?_; intro K hK; go_big_quiet_op; go_big_quiet_on)
  clear hone hw1
  refine wpG_nil ?_
  refine (hOp_fresh (R := FreshI l) (M0 := [(w.heap.size, Obj.cells (arrB 32 id) 24 (0, 0))]) rfl rfl (fun _ h => h) (fun u hu => FAt_call (fid := 24) (xs := #[.tmp 19]) (args := #[.slice A n c]) rfl Tryd.func24 rfl rfl u (callsI_fresh (HCL.out u (EnvX.bel hu)))) ?_)
  rintro x0 N0 hF hf he2; intro K' hK'; go_big_quiet_op; go_big_quiet_on
  have HF0 := Lib.hid (And.intro hF hf)
  clear hF
  clear hf
  change lexH _ _ _ _ _ _ (N0 ++ ((w.heap.size, Obj.cells (arrB 32 id) 24 (0, 0)) :: []))
  refine lexH_phase [2] [] ?_
  have hw3 : EnvX w _ (N0 ++ ((w.heap.size, Obj.cells (arrB 32 id) 24 (0, 0)) :: [])) := he2.choose_spec
  have hone := @EnvC.one _ _ _ hw3
  (refine wpG_op rfl rfl rfl ?_; intro K hK; go_big_quiet_op; go_big_quiet_on)
  clear hone hw3
  refine wpG_nil ?_
  intro u5 E2'
  have EX4 := Lib.hid E2'
  clear E2'
  have HIN : Hid (NInv w id (stepL x r id 0) x0 u5) := ⟨N0, by
    rw [step_zero, ← HX0.out]
    exact HF0.out.1, fun y hy => ⟨(HF0.out.2 y hy).1, (HF0.out.2 y hy).2⟩, EX4.out⟩
  clear EX4 E1 HF0
  go_upto_region 7 with (fail)
  go_loopw [7, 8] (fun v iv u => ∃ k : Nat, k ≤ lvN lev ∧ iv = .int .i64 ((k + 1 : Nat) : Int) ∧ Hid (NInv w id (stepL x r id k) v u)) (fun _ iv _ => 32 - (intOf iv).toNat)
  case atStart => exact ⟨0, Nat.zero_le _, rfl, HIN⟩
  case round =>
    obtain ⟨k, hk, rfl, hinv⟩ := hrel
    obtain ⟨N, hF, hN, hE⟩ := hinv.out
    clear hinv HIN
    have hXl := step_len x r id k
    obtain ⟨X, hX⟩ : ∃ X, stepL x r id k = X := ⟨_, rfl⟩
    have hXI : isIds X := by rw [← hX]; exact step_ids HII.out HD.out
    rw [hX] at hF hXl
    obtain ⟨g, cap, cur, rfl, rfl, hc⟩ := hF.full (by omega)
    have HFX := Lib.hid hF
    have HXI : Hid (isIds X ∧ X.length ≤ 1000000) := ⟨hXI, by have := HN.out; have := HRL.out; omega⟩
    have HGG : Hid (w.heap.size ≤ g ∧ w.heap.size ≠ g) := ⟨(hN _ (List.mem_singleton.2 rfl)).1, (hN _ (List.mem_singleton.2 rfl)).2 _ (List.Mem.head _)⟩
    have EK : Hid (EnvX w wr [(g, Obj.cells cur 24 (0, 0)), (w.heap.size, Obj.cells (arrB 32 id) 24 (0, 0))]) := hE
    clear hN hE hXI
    by_cases hlt : k < lvN lev
    · have HLE : Hid (decide (((k + 1 : Nat) : Int) ≤ min lev 31) = true) := decide_eq_true (by unfold lvN at hlt; omega)
      have HKL : Hid (k + 1 ≤ lvN lev ∧ k + 1 ≤ 31) := ⟨hlt, by omega⟩
      have HC := Lib.hid hc
      have HXL := Lib.hid hXl
      have HXX := Lib.hid hX
      have HFF := Lib.hid hF
      have hb31 : ((k + 1 : Nat) : Int) ≤ 31 := by omega
      clear hc hXl hX hF hlt hk
      obtain ⟨xl, hxl⟩ : ∃ xl, X.length = xl := ⟨_, rfl⟩
      have HXN := Lib.hid hxl
      rw [hxl]
      clear hxl
      go_upto_region 7 with (fail)
      refine wp_region_Hx (w0 := w) [0, 1, 2, 3] [(g, Obj.cells cur 24 (0, 0)), (w.heap.size, Obj.cells (arrB 32 id) 24 (0, 0))] rfl EK.out ?_
      refine lexH_phase [0, 1, 2, 3] [] ?_
      have hw61 : EnvX w _ [(g, Obj.cells cur 24 (0, 0)), (w.heap.size, Obj.cells (arrB 32 id) 24 (0, 0))] := EK.out
      have hone := @EnvC.one _ _ _ hw61
      (refine wpG_op rfl rfl rfl ?_; intro K hK; go_big_quiet_op; go_big_quiet_on)
      (refine wpG_op rfl rfl rfl ?_; intro K hK; go_big_quiet_op; go_big_quiet_on)
      (refine wpG_val (v := .int .i64 (min lev 31)) rfl rfl (fun u hu => minZ_op u rfl rfl) ?_ hw61; intro K hK; go_big_quiet_op; go_big_quiet_on)
      (refine wpG_val (v := .bool true) rfl rfl (fun u hu => leZ_op u HLE.out rfl rfl) ?_ hw61; intro K hK; go_big_quiet_op; go_big_quiet_on)
      clear hone hw61
      refine wpG_nil ?_
      intro u63 E2'
      have EX62 := Lib.hid E2'
      clear E2'
      by_cases hrk : k < r.length
      · have q3 : ¬ ((k + 1 : Nat) : Int) = (xl : Int) := by have := HXN.out; have := HXL.out; omega
        have HKX : Hid (k + 1 < xl) := by show _ < _; have := HXN.out; have := HXL.out; omega
        obtain ⟨cs, hcs, h5, h6⟩ := setI_facts (X := X) (k := k + 1) HXI.out.1 HXN.out HD.out.1 HKX.out (by rw [← HXN.out]; exact HC.out.1) HC.out.2.2.1 (by rw [← HXN.out]; exact HC.out.2.2.2)
        have hset := step_set (x := x) (id := id) hrk
        rw [HXX.out] at hset
        rw [hset] at h6
        have HLN : Hid ((stepL x r id (k + 1)).length = xl) := by show _ = _; rw [← hset, List.length_set]; exact HXN.out
        have HCS := Lib.hid hcs
        have HC5 := Lib.hid (And.intro h5 h6)
        have HCP : Hid (xl ≤ cap ∧ cap ≤ maxLen) := ⟨by rw [← HXN.out]; exact HC.out.1, HC.out.2.1⟩
        clear hcs h5 h6 hset hrk
        go_upto_region 11 with (fail)
        refine wp_region_Hx (w0 := w) [0, 1, 2, 3, 4] [(g, Obj.cells cur 24 (0, 0)), (w.heap.size, Obj.cells (arrB 32 id) 24 (0, 0))] rfl EX62.out ?_
        refine lexH_phase [0, 1, 2, 3] [4] ?_
        have hw101 : EnvX w _ [(g, Obj.cells cur 24 (0, 0)), (w.heap.size, Obj.cells (arrB 32 id) 24 (0, 0))] := EX62.out
        have hone := @EnvC.one _ _ _ hw101
        (refine wpG_op rfl rfl rfl ?_; intro K hK; go_big_quiet_op; go_big_quiet_on)
        (refine wpG_op rfl rfl rfl ?_; intro K hK; go_big_quiet_op; go_big_quiet_on)
        (refine wpG_val (v := idv id) rfl rfl (fun u hu => load_run_op u (box_load hu (List.Mem.tail _ (List.Mem.head _)) HD.out.1) rfl) ?_ hw101; intro K hK; go_big_quiet_op; go_big_quiet_on)
        (refine wpG_val (v := .pointer (some ⟨g, 0 + (k + 1) * 32, none⟩)) rfl rfl (fun u hu => idxSl0_op Tryd.underlying22 aggIdT.size HKX.out u rfl rfl) ?_ hw101; intro K hK; go_big_quiet_op; go_big_quiet_on)
        clear hone hw101
        refine wpG_nil ?_
        refine (hOp_putAt rfl (g) (0 + (k + 1) * 32) (.agg (arrB 32 id)) rfl rfl HGG.out.1 24 (cur) (cs) (List.Mem.head _) HCS.out.1 HCS.out.2.1 HCS.out.2.2.1 HCS.out.2.2.2 [(g, Obj.cells (cs) 24 (0, 0)), (w.heap.size, Obj.cells (arrB 32 id) 24 (0, 0))] (List.forall_mem_cons.2 ⟨.inl rfl, List.forall_mem_cons.2 ⟨.inr ⟨(List.Mem.tail _ (List.Mem.head _)), HGG.out.2⟩, fun _ h => by cases h⟩⟩) ?_)
        intro he102
        intro u104 E2'
        have EX103 := Lib.hid E2'
        clear E2'
        have HNX : Hid (NInv w id (stepL x r id (k + 1)) (.slice (some ⟨g, 0, none⟩) xl cap) u104) := by
          refine ⟨[(g, Obj.cells cs 24 (0, 0))], .inl ⟨g, cap, cs, by rw [HLN.out], rfl, by rw [HLN.out]; exact HCP.out.1, HCP.out.2, HC5.out.1, by rw [HLN.out]; exact HC5.out.2⟩, fun y hy => ?_, EX103.out⟩
          cases List.mem_singleton.1 hy
          exact ⟨HGG.out.1, fun z hz => by cases List.mem_singleton.1 hz; exact HGG.out.2⟩
        go_wp2
        go_roundw
        case rel => exact ⟨k + 1, HKL.out.1, by go_num, HNX⟩
        case measure => simp [intOf]; have := HKL.out.2; omega
      · obtain rfl : xl = k + 1 := by have := HXN.out; have := HXL.out; omega
        have happ := step_app (x := x) (id := id) (show r.length ≤ k by omega)
        rw [HXX.out] at happ
        have HAPP := Lib.hid happ
        have HFX : Hid (FreshI X (.slice (some ⟨g, 0, none⟩) (k + 1) cap) [(g, Obj.cells cur 24 (0, 0))]) := by
          have h := HFF.out
          rw [HXN.out] at h
          exact h
        clear happ hrk
        go_upto_region 10 with (fail)
        refine wp_region_Hx (w0 := w) [0, 1, 2, 3, 4] [(g, Obj.cells cur 24 (0, 0)), (w.heap.size, Obj.cells (arrB 32 id) 24 (0, 0))] rfl EX62.out ?_
        refine lexH_phase [0, 1] [2, 3, 4] ?_
        have hw101 : EnvX w _ [(g, Obj.cells cur 24 (0, 0)), (w.heap.size, Obj.cells (arrB 32 id) 24 (0, 0))] := EX62.out
        have hone := @EnvC.one _ _ _ hw101
        (refine wpG_op rfl rfl rfl ?_; intro K hK; go_big_quiet_op; go_big_quiet_on)
        (refine wpG_val (v := idv id) rfl rfl (fun u hu => load_run_op u (box_load hu (List.Mem.tail _ (List.Mem.head _)) HD.out.1) rfl) ?_ hw101; intro K hK; go_big_quiet_op; go_big_quiet_on)
        clear hone hw101
        refine wpG_nil ?_
        refine (hOp_fresh (R := BuiltI id) (M0 := [(g, Obj.cells cur 24 (0, 0)), (w.heap.size, Obj.cells (arrB 32 id) 24 (0, 0))]) rfl rfl (fun _ h => h) (fun u hu => FAt_buildI HD.out.1 rfl u) ?_)
        rintro _ _ ⟨gq, rfl, rfl⟩ hf he102; intro K' hK'; go_big_quiet_op; go_big_quiet_on
        clear hf
        change lexH _ _ _ _ _ _ [(gq, Obj.cells (arrB 32 id) 24 (0, 0)), (g, Obj.cells cur 24 (0, 0)), (w.heap.size, Obj.cells (arrB 32 id) 24 (0, 0))]
        refine (hOp_own (gd := none) (R := GrownI w (X ++ [id]) [(w.heap.size, Obj.cells (arrB 32 id) 24 (0, 0))]) rfl rfl rfl rfl (fun u hu => appI_op [(w.heap.size, Obj.cells (arrB 32 id) 24 (0, 0))] hu HXI.out.1 HD.out.1 HFX.out (List.forall_mem_cons.2 ⟨⟨(List.Mem.tail _ (List.Mem.head _)), HGG.out.1⟩, fun _ h => by cases h⟩) (List.Mem.head _) (List.forall_mem_cons.2 ⟨⟨(List.Mem.tail _ (List.Mem.tail _ (List.Mem.head _))), fun y hy => by cases List.mem_singleton.1 hy; exact HGG.out.2⟩, fun _ h => by cases h⟩) HXI.out.2 rfl rfl) ?_)
        rintro x9 M' ⟨N9, rfl, hF9, hn9⟩ he103; intro K' hK'; go_big_quiet_op; go_big_quiet_on
        have HF9 := Lib.hid (And.intro hF9 hn9)
        clear hF9 hn9
        change lexH _ _ _ _ _ _ (N9 ++ ((w.heap.size, Obj.cells (arrB 32 id) 24 (0, 0)) :: []))
        refine lexH_phase [4] [] ?_
        have hw104 : EnvX w _ (N9 ++ ((w.heap.size, Obj.cells (arrB 32 id) 24 (0, 0)) :: [])) := he103.choose_spec
        have hone := @EnvC.one _ _ _ hw104
        (refine wpG_op rfl rfl rfl ?_; intro K hK; go_big_quiet_op; go_big_quiet_on)
        clear hone hw104
        refine wpG_nil ?_
        intro u106 E2'
        have EX105 := Lib.hid E2'
        clear E2'
        have HNX : Hid (NInv w id (stepL x r id (k + 1)) x9 u106) := ⟨N9, by rw [← HAPP.out]; exact HF9.out.1, HF9.out.2, EX105.out⟩
        go_wp2
        go_roundw
        case rel => exact ⟨k + 1, HKL.out.1, by go_num, HNX⟩
        case measure => simp [intOf]; have := HKL.out.2; omega
    · obtain rfl : k = lvN lev := by omega
      have HO : Hid (OwnI wr w.heap.size (.slice (some ⟨g, 0, none⟩) X.length cap) (stepL x r id (lvN lev)) ∧ Below w.heap.size w wr) := by
        rw [hX]
        exact ⟨hF.own HXI.out.1 (fun y hy => by cases List.mem_singleton.1 hy; exact ⟨HGG.out.1, EnvX.box EK.out _ _ (List.Mem.head _)⟩), EnvX.bel EK.out⟩
      have HLE : Hid (decide (((lvN lev + 1 : Nat) : Int) ≤ min lev 31) = false) := decide_eq_false (by unfold lvN; omega)
      have HXX := Lib.hid hX
      have HCX := Lib.hid hc
      clear hF hc hXl hX
      generalize X.length = xl at *
      go_upto_region 7 with (fail)
      refine wp_region_Hx (w0 := w) [0, 1, 2, 3] [(g, Obj.cells cur 24 (0, 0)), (w.heap.size, Obj.cells (arrB 32 id) 24 (0, 0))] rfl EK.out ?_
      refine lexH_phase [0, 1, 2, 3] [] ?_
      have hw161 : EnvX w _ [(g, Obj.cells cur 24 (0, 0)), (w.heap.size, Obj.cells (arrB 32 id) 24 (0, 0))] := EK.out
      have hone := @EnvC.one _ _ _ hw161
      (refine wpG_op rfl rfl rfl ?_; intro K hK; go_big_quiet_op; go_big_quiet_on)
      (refine wpG_op rfl rfl rfl ?_; intro K hK; go_big_quiet_op; go_big_quiet_on)
      (refine wpG_val (v := .int .i64 (min lev 31)) rfl rfl (fun u hu => minZ_op u rfl rfl) ?_ hw161; intro K hK; go_big_quiet_op; go_big_quiet_on)
      (refine wpG_val (v := .bool false) rfl rfl (fun u hu => leZ_op u HLE.out rfl rfl) ?_ hw161; intro K hK; go_big_quiet_op; go_big_quiet_on)
      clear hone hw161
      refine wpG_nil ?_
      intro u163 E2'
      have EX162 := Lib.hid E2'
      clear E2'
      have HO2 : Hid (OwnI u163 w.heap.size (.slice (some ⟨g, 0, none⟩) xl cap) (stepL x r id (lvN lev)) ∧ Below w.heap.size w u163) := by
        refine ⟨?_, EnvX.bel EX162.out⟩
        rw [HXX.out]
        exact HFX.out.own HXI.out.1 (fun y hy => by cases List.mem_singleton.1 hy; exact ⟨HGG.out.1, EnvX.box EX162.out _ _ (List.Mem.head _)⟩)
      go_wp2
      go_ret
      exact ⟨⟨_, rfl, HO2.out.1⟩, HO2.out.2⟩
theorem link_next (l : List (List Int)) (id : List Int) (lev : Int) (A : Option Addr) (n c : Nat) (w : World) (hl : l.length = n) (hn : n ≤ 1000000) (hlev : I64 lev) (hI : isIds l) (hid : isId id) (hA : IdsIn w w.heap.size A l) :
    Calls Tryd.prog 11 #[.slice A n c, idv id, .int .i64 lev] w fun e w' => (∃ v, e = .returned v ∧ OwnI w' w.heap.size v (nextT l id lev)) ∧ Below w.heap.size w w' := by
  by_cases k1 : 32 < n
  · exact link_next_many l id lev A n c w hl hn hlev hI hid hA k1
  · match l, hl, hI, hA with
    | [], hl, _, _ =>
      subst hl
      exact link_next_none id lev A c w hid
    | x :: r, hl, hI, hA => exact link_next_some x r (x :: r) rfl id lev A n c w hl hn hlev hI hid hA (by omega)
end Go.Proofs.YtbjojpgedcikiaaDoor

namespace Go.Proofs.YtbjojpgedcikiaaDoor
set_option maxRecDepth 8000
open Go.RowKit

set_option maxHeartbeats 4000000 in
set_option maxRecDepth 100000 in
theorem blen64_any (x : Int) (w : World) (h0 : 0 ≤ x) (h1 : x < 16777216) :
    Calls Tryd.prog 75 #[.int .u64 x] w fun e w' => e = .returned (.int .i64 (Lib.bitLen x.toNat)) ∧ w' = w := by
  have n1 : ¬ 4294967296 ≤ x := by omega
  have hw : x ≤ 18446744073709551615 := by omega
  by_cases hA : x < 256
  · have n2 : ¬ 65536 ≤ x := by omega
    have n3 : ¬ 256 ≤ x := by omega
    have hA2 : x ≤ 255 := by omega
    have l := Lib.bitLen_le8' x (by omega) (by omega)
    have HE := Lib.hid (Lib.len8_of x (by omega) (by omega))
    go_enter Tryd.func75, Tryd.ntmps75
    go_wp2
    go_ret
    refine ⟨congrArg Ending.returned (congrArg (Value.int IntKind.i64) ?_), rfl⟩
    rw [HE.out]
    unfold wrap64
    omega
  · by_cases hB : x < 65536
    · have n2 : ¬ 65536 ≤ x := by omega
      have n3 : 256 ≤ x := by omega
      have q0 : 0 ≤ x / 256 := by omega
      have q1 : x / 256 ≤ 255 := by omega
      have HE := Lib.hid (Lib.len8_of (x / 256) q0 q1)
      go_enter Tryd.func75, Tryd.ntmps75
      go_wp2
      go_ret
      refine ⟨congrArg Ending.returned (congrArg (Value.int IntKind.i64) ?_), rfl⟩
      have e : (x / 256).toNat = x.toNat / 256 := by omega
      have l := Lib.bitLen_le8' (x / 256) (by omega) (by omega)
      have s := Lib.bitLen_shift8 x.toNat (by omega) (by omega)
      rw [HE.out]
      rw [e] at l ⊢
      unfold wrap64
      omega
    · have n2 : 65536 ≤ x := by omega
      have q0 : 0 ≤ x / 65536 := by omega
      have q1 : x / 65536 ≤ 255 := by omega
      have HE := Lib.hid (Lib.len8_of (x / 65536) q0 q1)
      have n3 : ¬ 256 ≤ x / 65536 := by omega
      go_enter Tryd.func75, Tryd.ntmps75
      go_wp2
      go_ret
      refine ⟨congrArg Ending.returned (congrArg (Value.int IntKind.i64) ?_), rfl⟩
      have e : (x / 65536).toNat = x.toNat / 65536 := by omega
      have l := Lib.bitLen_le8' (x / 65536) (by omega) (by omega)
      have s := Lib.bitLen_shift16 x.toNat (by omega) (by omega)
      rw [HE.out]
      rw [e] at l ⊢
      unfold wrap64
      omega
set_option maxHeartbeats 1000000 in
theorem blen_any (x : Int) (w : World) (h0 : 0 ≤ x) (h1 : x < 16777216) :
    Calls Tryd.prog 72 #[.int .u64 x] w fun e w' => e = .returned (.int .i64 (Lib.bitLen x.toNat)) ∧ w' = w := by
  have HC := Lib.hid (blen64_any x w h0 h1)
  go_enter Tryd.func72, Tryd.ntmps72
  go_wp2_with (go_at_call 75; refine HC.out.mono ?_; rintro e w' ⟨rfl, rfl⟩)
  go_ret
  exact ⟨rfl, rfl⟩
theorem bitLen_pow : ∀ (x : Nat), 1 ≤ x → x < 2 ^ 64 → ∃ e, Lib.bitLen x = e + 1 ∧ 2 ^ e ≤ x ∧ x < 2 * 2 ^ e := by
  intro x
  induction x using Nat.strongRecOn with
  | _ x ih =>
    intro h1 h2
    by_cases hx : x = 1
    · subst hx
      exact ⟨0, by decide +kernel, by decide, by decide⟩
    · obtain ⟨e, e1, e2, e3⟩ := ih (x / 2) (by omega) (by omega) (by omega)
      refine ⟨e + 1, by rw [Lib.bitLen_half x (by omega) h2, e1]; omega, ?_, ?_⟩
      · rw [Nat.pow_succ]; omega
      · rw [Nat.pow_succ]; omega
theorem half_bit {n : Nat} (h : 2 ≤ n) (hn : n ≤ 1099511627776) : ∃ e, Lib.bitLen (n - 1) = e + 1 ∧ halfT n = 2 ^ e ∧ e < 40 := by
  obtain ⟨e, e1, e2, e3⟩ := bitLen_pow (n - 1) (by omega) (by omega)
  refine ⟨e, e1, half_unique (by omega) (by omega), ?_⟩
  rcases Nat.lt_or_ge e 40 with h | h
  · exact h
  · have := Nat.pow_le_pow_right (n := 2) (by decide) h
    omega
def standT (n i : Int) : Bool := decide (n ≤ 64 ∧ 0 ≤ i ∧ i < n)
set_option maxHeartbeats 1000000 in
theorem stand_any (n i : Int) (w : World) (hn0 : -9223372036854775808 ≤ n) (hn1 : n ≤ 9223372036854775807) (hi0 : -9223372036854775808 ≤ i) (hi1 : i ≤ 9223372036854775807) :
    Calls Tryd.prog 59 #[.int .i64 n, .int .i64 i] w fun e w' => e = .returned (.bool (standT n i)) ∧ Below w.heap.size w w' := by
  by_cases h1 : n ≤ 64
  · by_cases h2 : 0 ≤ i
    · by_cases h3 : i < n
      · have hs : standT n i = true := by unfold standT; simp only [decide_eq_true_eq]; omega
        rw [hs]
        go_enter Tryd.func59, Tryd.ntmps59
        go_wp2
        go_ret
        exact ⟨rfl, Below.refl _ _⟩
      · have hs : standT n i = false := by unfold standT; simp only [decide_eq_false_iff_not]; omega
        rw [hs]
        go_enter Tryd.func59, Tryd.ntmps59
        go_wp2
        go_ret
        exact ⟨rfl, Below.refl _ _⟩
    · have hs : standT n i = false := by unfold standT; simp only [decide_eq_false_iff_not]; omega
      rw [hs]
      go_enter Tryd.func59, Tryd.ntmps59
      go_wp2
      go_ret
      exact ⟨rfl, Below.refl _ _⟩
  · have hs : standT n i = false := by unfold standT; simp only [decide_eq_false_iff_not]; omega
    rw [hs]
    go_enter Tryd.func59, Tryd.ntmps59
    go_wp2
    go_ret
    exact ⟨rfl, Below.refl _ _⟩
end Go.Proofs.YtbjojpgedcikiaaDoor
