/- Part of a proof. -/
import Derived.Test.YtbjojpgedcikiaaDoorCg
namespace Go.Proofs.YtbjojpgedcikiaaDoor
set_option maxRecDepth 8000
open Go.RowKit

theorem aggSpan : AggT 82 2 := ⟨fun w => by simp [isAgg, run_underlying Tryd.underlying82], by kernel_rfl⟩
theorem aggFork : AggT 85 5 := ⟨fun w => by simp [isAgg, run_underlying Tryd.underlying85], by kernel_rfl⟩
theorem aggIds2 : AggT 70 64 := ⟨fun w => by simp [isAgg, run_underlying Tryd.underlying70], by kernel_rfl⟩
theorem aggStep : AggT 72 96 := ⟨fun w => by simp [isAgg, run_underlying Tryd.underlying72], by kernel_rfl⟩
theorem aggId : AggT 24 32 := ⟨fun w => by simp [isAgg, run_underlying Tryd.underlying24], by kernel_rfl⟩
def ii (n : Nat) : Value := .int .i64 (n : Int)
def spanC (f n : Nat) : List Value := [ii f, ii (f + n)]
def cutC (f n : Nat) : List Value := [ii f, ii (f + halfT n), ii (f + halfT n), ii (f + n)]
theorem info_span : (Tryd.prog.info? 82).map (·.size) = some 2 := by kernel_rfl
theorem info_spans : (Tryd.prog.info? 83).map (·.size) = some 4 := by kernel_rfl
section
variable {a : Act} {dst : Option Tmp} {x y : Operand} {ty : TypeId} {pos : String} {after : Array Edge} {gd : Option (Nat × Bool)}
theorem conv_uint_op {m : Nat} (u : World) (hm : m < 9223372036854775808) (hx : a.eval x = .int .i64 (m : Int)) :
    (execOp a.eval ⟨dst, .convert 3 79 x, ty, pos, after, gd⟩).run Tryd.prog u = .ok (.value (.int .u64 (m : Int))) u := by
  have hq : IntKind.u64.wrap (m : Int) = (m : Int) := by rw [IntKind.wrap_u64]; omega
  unfold execOp
  simp only [hx]
  go_simp
theorem shl_op {e p : Nat} (u : World) (hp : 2 ^ e = p) (he : e < 62) (hx : a.eval x = .int .i64 1) (hy : a.eval y = .int .i64 (e : Int)) :
    (execOp a.eval ⟨dst, .binOp .shl 3 x y 3, ty, pos, after, gd⟩).run Tryd.prog u = .ok (.value (.int .i64 (p : Int))) u := by
  have h0 : ¬ (e : Int) < 0 := by omega
  have h1 : ¬ (64 : Int) ≤ (e : Int) := by omega
  have hp2 : 2 ^ e < 2 ^ 62 := Nat.pow_lt_pow_right (by decide) he
  have hc : ((2 : Int) ^ e) = (p : Int) := by rw [← hp]; simp
  have hq : IntKind.i64.wrap (p : Int) = (p : Int) := wrap64_in (by rw [hp] at hp2; unfold InI; omega)
  unfold execOp
  simp only [hx, hy]
  go_simp
end
set_option maxRecDepth 20000 in
set_option maxHeartbeats 4000000 in
theorem cut_any (f n : Nat) (w : World) (h2 : 2 ≤ n) (hn : f + n ≤ 1000000) :
    Calls Tryd.prog 66 #[.agg (spanC f n).toArray] w fun e w' => e = .returned (.agg (cutC f n).toArray) ∧ Below w.heap.size w w' := by
  obtain ⟨e, e1, e2, e3⟩ := half_bit h2 (by omega)
  obtain ⟨b1, b2, b3, -⟩ := half_spec h2
  unfold spanC cutC
  rw [e2] at b1 b2 b3 ⊢
  have HLEN : Hid (∀ u, Calls Tryd.prog 72 #[.int .u64 ((n - 1 : Nat) : Int)] u fun en w' => en = .returned (.int .i64 ((e + 1 : Nat) : Int)) ∧ Below u.heap.size u w') := fun u => by
    refine (blen_any ((n - 1 : Nat) : Int) u (by omega) (by omega)).mono ?_
    rintro en w' ⟨rfl, rfl⟩
    exact ⟨by rw [Int.toNat_natCast, e1], Below.refl _ _⟩
  have q1 : Hid ((f + n : Nat) - (f : Int) = (n : Int) ∧ (n : Int) - 1 = ((n - 1 : Nat) : Int) ∧ ((e + 1 : Nat) : Int) - 1 = (e : Int)) := ⟨by omega, by omega, by omega⟩
  have q2 : Hid ((f : Int) + ((2 ^ e : Nat) : Int) = ((f + 2 ^ e : Nat) : Int)) := by show _ = _; omega
  have q3 : Hid (InI (n : Int) ∧ InI ((n - 1 : Nat) : Int) ∧ InI (e : Int) ∧ InI ((f + 2 ^ e : Nat) : Int) ∧ n - 1 < 9223372036854775808 ∧ e < 62) := by show _ ∧ _; unfold InI; omega
  clear e1 e2 e3 b1 b2 b3
  generalize hp : 2 ^ e = p at *
  have HP := Lib.hid hp
  clear hp
  have E1 : Hid (EnvX w ((w.alloc (.cells #[ii f, ii (f + n)] 82)).alloc (.cells #[ii 0, ii 0, ii 0, ii 0] 83)) [(w.heap.size + 1, Obj.cells #[ii 0, ii 0, ii 0, ii 0] 83 (0, 0)), (w.heap.size, Obj.cells #[ii f, ii (f + n)] 82 (0, 0))]) := (EnvX.start w).two _ _
  go_enter Tryd.func66, Tryd.ntmps66
  go_upto_region 1 with (fail)
  change Code.wp _ _ _ _ ((w.alloc (.cells #[ii f, ii (f + n)] 82)).alloc (.cells #[ii 0, ii 0, ii 0, ii 0] 83))
  generalize (w.alloc (.cells #[ii f, ii (f + n)] 82)).alloc (.cells #[ii 0, ii 0, ii 0, ii 0] 83) = W at *
  refine wp_region_H (w0 := w) [(w.heap.size + 1, Obj.cells #[ii 0, ii 0, ii 0, ii 0] 83 (0, 0)), (w.heap.size, Obj.cells #[ii f, ii (f + n)] 82 (0, 0))] (by kernel_rfl) E1.out ?_
  refine anyH_phase [0, 1, 2, 3, 4, 5, 6, 7, 8, 9, 10, 11, 12, 13] 0 rfl ⟨_, (EnvX.drew E1.out)⟩ (by kernel_rfl) ?_
  have hw1 : EnvX w _ [(w.heap.size + 1, Obj.cells #[ii 0, ii 0, ii 0, ii 0] 83 (0, 0)), (w.heap.size, Obj.cells #[ii f, ii (f + n)] 82 (0, 0))] := (EnvX.drew E1.out)
  have hone := @EnvC.one _ _ _ hw1
  (refine wpG_op rfl rfl rfl ?_; intro K hK; go_big_quiet_op; go_big_quiet_on)
  (refine wpG_val (v := ii f) rfl rfl (fun u hu => load_any_op u (run_load_one oneInt u (box_cell (k := 0) hu (List.Mem.tail _ (List.Mem.head _)) rfl)) rfl) ?_ hw1; intro K hK; go_big_quiet_op; go_big_quiet_on)
  (refine wpG_op rfl rfl rfl ?_; intro K hK; go_big_quiet_op; go_big_quiet_on)
  (refine wpG_val (v := ii (f + n)) rfl rfl (fun u hu => load_any_op u (run_load_one oneInt u (box_cell (k := 1) hu (List.Mem.tail _ (List.Mem.head _)) rfl)) rfl) ?_ hw1; intro K hK; go_big_quiet_op; go_big_quiet_on)
  (refine wpG_op rfl rfl rfl ?_; intro K hK; go_big_quiet_op; go_big_quiet_on)
  (refine wpG_val (v := ii f) rfl rfl (fun u hu => load_any_op u (run_load_one oneInt u (box_cell (k := 0) hu (List.Mem.tail _ (List.Mem.head _)) rfl)) rfl) ?_ hw1; intro K hK; go_big_quiet_op; go_big_quiet_on)
  (refine wpG_val (v := ii n) rfl rfl (fun u hu => sub_op u q1.out.1 q3.out.1 rfl rfl) ?_ hw1; intro K hK; go_big_quiet_op; go_big_quiet_on)
  (refine wpG_val (v := ii (n - 1)) rfl rfl (fun u hu => sub_op u q1.out.2.1 q3.out.2.1 rfl rfl) ?_ hw1; intro K hK; go_big_quiet_op; go_big_quiet_on)
  (refine wpG_val (v := .int .u64 ((n - 1 : Nat) : Int)) rfl rfl (fun u hu => conv_uint_op u q3.out.2.2.2.2.1 rfl) ?_ hw1; intro K hK; go_big_quiet_op; go_big_quiet_on)
  (refine wpG_call (f := 72) (args := #[.int .u64 ((n - 1 : Nat) : Int)]) (v := ii (e + 1)) rfl rfl rfl Tryd.func72 rfl rfl (fun u hu => HLEN.out u) ?_ hw1; intro K hK; go_big_quiet_op; go_big_quiet_on)
  (refine wpG_val (v := ii e) rfl rfl (fun u hu => sub_op u q1.out.2.2 q3.out.2.2.1 rfl rfl) ?_ hw1; intro K hK; go_big_quiet_op; go_big_quiet_on)
  (refine wpG_val (v := ii p) rfl rfl (fun u hu => shl_op u HP.out q3.out.2.2.2.2.2 rfl rfl) ?_ hw1; intro K hK; go_big_quiet_op; go_big_quiet_on)
  (refine wpG_val (v := ii (f + p)) rfl rfl (fun u hu => add_op u q2.out q3.out.2.2.2.1 rfl rfl) ?_ hw1; intro K hK; go_big_quiet_op; go_big_quiet_on)
  (refine wpG_op rfl rfl rfl ?_; intro K hK; go_big_quiet_op; go_big_quiet_on)
  clear hone hw1
  refine wpG_nil ?_
  refine anyH_done (by kernel_rfl) ?_
  intro u3 E2'
  have EX2 := Lib.hid E2'
  clear E2'
  go_upto_region 2 with (fail)
  refine wp_region_Hx (w0 := w) [0, 1, 2, 3, 4, 5, 6, 7, 8, 9] [(w.heap.size + 1, Obj.cells #[ii 0, ii 0, ii 0, ii 0] 83 (0, 0)), (w.heap.size, Obj.cells #[ii f, ii (f + n)] 82 (0, 0))] rfl EX2.out ?_
  refine lexH_phase [0, 1, 2, 3, 4, 5, 6, 7, 8] [9] ?_
  have hw4 : EnvX w _ [(w.heap.size + 1, Obj.cells #[ii 0, ii 0, ii 0, ii 0] 83 (0, 0)), (w.heap.size, Obj.cells #[ii f, ii (f + n)] 82 (0, 0))] := EX2.out
  have hone := @EnvC.one _ _ _ hw4
  (refine wpG_op rfl rfl rfl ?_; intro K hK; go_big_quiet_op; go_big_quiet_on)
  (refine wpG_val (v := ii f) rfl rfl (fun u hu => load_any_op u (run_load_one oneInt u (box_cell (k := 0) hu (List.Mem.tail _ (List.Mem.head _)) rfl)) rfl) ?_ hw4; intro K hK; go_big_quiet_op; go_big_quiet_on)
  (refine wpG_op rfl rfl rfl ?_; intro K hK; go_big_quiet_op; go_big_quiet_on)
  (refine wpG_val (v := .agg #[ii f, ii (f + p)]) rfl rfl (fun u hu => buildA_op u (by kernel_rfl)) ?_ hw4; intro K hK; go_big_quiet_op; go_big_quiet_on)
  (refine wpG_op rfl rfl rfl ?_; intro K hK; go_big_quiet_op; go_big_quiet_on)
  (refine wpG_op rfl rfl rfl ?_; intro K hK; go_big_quiet_op; go_big_quiet_on)
  (refine wpG_val (v := ii (f + n)) rfl rfl (fun u hu => load_any_op u (run_load_one oneInt u (box_cell (k := 1) hu (List.Mem.tail _ (List.Mem.head _)) rfl)) rfl) ?_ hw4; intro K hK; go_big_quiet_op; go_big_quiet_on)
  (refine wpG_val (v := .agg #[ii (f + p), ii (f + n)]) rfl rfl (fun u hu => buildA_op u (by kernel_rfl)) ?_ hw4; intro K hK; go_big_quiet_op; go_big_quiet_on)
  (refine wpG_val (v := .agg #[ii f, ii (f + p), ii (f + p), ii (f + n)]) rfl rfl (fun u hu => buildA_op u (by kernel_rfl)) ?_ hw4; intro K hK; go_big_quiet_op; go_big_quiet_on)
  clear hone hw4
  refine wpG_nil ?_
  refine (hOp_store rfl (w.heap.size + 1) (#[ii f, ii (f + p), ii (f + p), ii (f + n)]) rfl rfl (Nat.le_succ _) 83 (#[ii 0, ii 0, ii 0, ii 0]) (List.Mem.head _) info_spans rfl (by kernel_rfl) [(w.heap.size + 1, Obj.cells (#[ii f, ii (f + p), ii (f + p), ii (f + n)]) 83 (0, 0)), (w.heap.size, Obj.cells #[ii f, ii (f + n)] 82 (0, 0))] (List.forall_mem_cons.2 ⟨.inl rfl, List.forall_mem_cons.2 ⟨.inr ⟨List.Mem.tail _ (List.Mem.head _), by omega⟩, (fun _ h => by cases h)⟩⟩) ?_)
  intro he5
  intro u7 E2'
  have EX6 := Lib.hid E2'
  clear E2'
  have Q0 := Lib.hid (EnvX.box EX6.out _ _ (List.Mem.head _))
  go_wp2_with ((with_reducible refine bodyPost_ret (v := .agg #[ii f, ii (f + p), ii (f + p), ii (f + n)]) ?_ ?_ ?_); (exact results_cell_row (p := 2) (ty := 83) Tryd.results66 _ _ (w.heap.size + 1) 83 #[ii f, ii (f + p), ii (f + p), ii (f + n)] (0, 0) _ rfl Q0.out Tryd.underlying83 rfl info_spans); (rfl))
  first | exact EX6.out.bel | exact ⟨rfl, EX6.out.bel⟩
end Go.Proofs.YtbjojpgedcikiaaDoor

namespace Go.Proofs.YtbjojpgedcikiaaDoor
set_option maxRecDepth 8000
open Go.RowKit

set_option maxRecDepth 20000 in
set_option maxHeartbeats 1000000 in
theorem leaf_any (A : Option Addr) (n c : Nat) (xs : List Int) (w : World) (hl : xs.length = n) (hn : n ≤ 1000000) (hx : Bytes w w.heap.size A xs) (hr : ∀ x ∈ xs, 0 ≤ x ∧ x ≤ 255) (ht : Tables w) :
    Calls Tryd.prog 21 #[.slice A n c] w fun e w' => e = .returned (idv (leafT xs)) ∧ Below w.heap.size w w' := by
  subst hl
  obtain ⟨W, hW⟩ : ∃ W, ((w.alloc (.cells (arrB 32 []) 24)).alloc (.cells #[.int .u8 0] 5)).alloc (.cells #[.slice (some ⟨w.heap.size + 1, 0, none⟩) 1 1, .slice A xs.length c] 38) = W := ⟨_, rfl⟩
  have r0 : Row W w.heap.size 24 (arrB 32 []) := by rw [← hW]; exact ((Row.new w 24 _).alloc _).alloc _
  have r1 : Row W (w.heap.size + 1) 5 #[.int .u8 0] := by rw [← hW]; exact (Row.newAt (by simp) 5 _).alloc _
  have r2 : Row W (w.heap.size + 1 + 1) 38 #[.slice (some ⟨w.heap.size + 1, 0, none⟩) 1 1, .slice A xs.length c] := by rw [← hW]; exact Row.newAt (by simp) 38 _
  have hbW : Below w.heap.size w W := by rw [← hW]; exact (((Below.refl _ _).alloc (Nat.le_refl _) _).alloc (by simp) _).alloc (by simp; omega) _
  have hs : W.heap.size = w.heap.size + 3 := by rw [← hW]; simp
  have hb0 : Bytes W W.heap.size (some ⟨w.heap.size + 1, 0, none⟩) [0] := (own_of_row (B := 0) (n := 1) (xs := [0]) r1 rfl (Nat.zero_le _) (by decide)).up
  have hP : Parts W W.heap.size (some ⟨w.heap.size + 1 + 1, 0, none⟩) [[0], xs] := parts_two (c := 1) (c' := c) (by omega) (by rw [r2.cell]; rfl) hb0 (by intro x hx; simp at hx; omega) (by rw [r2.cell]; rfl) (hx.up hbW) hr
  have HOF := Lib.hid (shaof_any (some ⟨w.heap.size + 1 + 1, 0, none⟩) 2 2 [[0], xs] W rfl hP (by omega) (by simp; omega) (ht.below hbW))
  have HE : Hid ([[0], xs].flatten = 0 :: xs) := by show _ = _; simp
  have R0 := Lib.hid r0
  have HB := Lib.hid hbW
  have hz : Hid ((arrB 32 (leafT xs)).size = 32 ∧ (arrB 32 []).size = 32 ∧ (arrB 32 (leafT xs)).all (·.oneCell') = true) := ⟨arrB_size _ _ (by unfold leafT; rw [sumL_len]; omega), arrB_size _ _ (by simp), arrB_one _ _⟩
  have HW := Lib.hid hW
  clear r0 r1 r2 hbW hs hb0 hP hx hr hW
  rw [HE.out] at HOF
  go_enter Tryd.func21, Tryd.ntmps21
  go_upto_region 1 with (fail)
  rw [zero_cells]
  have hW := HW.out
  go_wp2_with fail
  clear hW
  refine HOF.out.mono ?_
  rintro e w2 ⟨rfl, hb2⟩
  have Q0 : Hid (w2.heap[w.heap.size]? = some (.cells (arrB 32 []) 24 (0, 0))) := R0.out.below hb2 R0.out.lt
  have HB2 := Lib.hid (HB.out.trans (hb2.mono HB.out.size))
  clear hb2 HOF R0 HB
  change Hid ((arrB 32 (sumL (0 :: xs))).size = 32 ∧ (arrB 32 []).size = 32 ∧ (arrB 32 (sumL (0 :: xs))).all (·.oneCell') = true) at hz
  generalize hcn : arrB 32 (sumL (0 :: xs)) = cn at *
  have HCN := Lib.hid hcn
  clear hcn
  generalize arrB 32 [] = zs at *
  go_wp2_with (first
    | ((with_reducible refine wpList_store_row (o := ⟨none, .store 24 _ _, _, _, _, _⟩) ?_ 24 (.tmp 2) (.tmp 6) ?_ w.heap.size cn ?_ ?_ 24 zs Q0.out (info26 cn hz.out.1) (by rw [hz.out.1, hz.out.2.1]) hz.out.2.2 ?_); (rfl); (rfl); (rfl); (rfl))
    | ((with_reducible refine bodyPost_ret (v := .agg cn) ?_ ?_ ?_); (exact results_cell_row (p := 2) (ty := 24) Tryd.results21 _ _ w.heap.size 24 cn (0, 0) _ rfl (setRow_heap _ _ zs cn 24 (0, 0) Q0.out) Tryd.underlying24 rfl (info26 cn hz.out.1)); (rfl)))
  exact ⟨by unfold idv leafT; rw [HCN.out], below_setRow HB2.out (Nat.le_refl _) _⟩
/-- two ids side by side -/
theorem ids2_list {a b : List Int} (ha : a.length = 32) (hb : b.length = 32) : (arrB 32 a ++ arrB 32 b) = (a.map u8v ++ b.map u8v).toArray := by
  rw [arr_id ha, arr_id hb]
  simp
theorem run_loadIds2 {w0 u : World} {M : Boxes} {g : Nat} {t : TypeId} {a b : List Int} (hu : EnvC w0 M u) (hm : (g, Obj.cells (arrB 32 a ++ arrB 32 b) t (0, 0)) ∈ M) (ha : a.length = 32) (hb : b.length = 32) :
    (loadVar 70 ⟨g, 0, none⟩).run Tryd.prog u = .ok (.agg (arrB 32 a ++ arrB 32 b)) u := by
  have h := box_agg aggIds2 (k := 0) hu hm (a.map u8v ++ b.map u8v) (by simp [ha, hb]) (by
    rw [ids2_list ha hb, List.drop_zero, List.take_of_length_le (by simp [ha, hb])])
  rw [ids2_list ha hb]
  exact h
theorem zero_ids2 : (Tryd.prog.info? 70).map (fun i => i.zero.map (·.cells.size)) = some (some 64) := by kernel_rfl
theorem built_ids {A B : Array Value} (hA : A.size = 32) (hB : B.size = 32) : Tryd.prog.built 70 [(0, .agg A), (1, .agg B)] = some (A ++ B) := by
  have hz := zero_ids2
  cases hq : Tryd.prog.info? 70 with
  | none => rw [hq] at hz; cases hz
  | some it =>
    rw [hq] at hz
    simp only [Option.map_some, Option.some.injEq] at hz
    cases hzz : it.zero with
    | none => rw [hzz] at hz; cases hz
    | some z =>
      rw [hzz] at hz
      simp only [Option.map_some, Option.some.injEq] at hz
      have hi := infoI
      cases hq2 : Tryd.prog.info? 24 with
      | none => rw [hq2] at hi; cases hi
      | some ie =>
        rw [hq2] at hi
        simp only [Option.map_some, Option.some.injEq, Prod.mk.injEq] at hi
        unfold Program.built
        simp only [hq, Tryd.underlying70, hzz, hq2, hi.1]
        exact fill_two A B z.cells hA hB rfl rfl (by omega)
section
variable {a : Act} {dst : Option Tmp} {x : Operand} {ty : TypeId} {pos : String} {after : Array Edge} {gd : Option (Nat × Bool)}
end
def preN (a b : List Int) : Nat → List Int
  | 0 => [1]
  | 1 => 1 :: a
  | _ => 1 :: (a ++ b)
def selN (a b : List Int) : Nat → List Int
  | 0 => a
  | _ => b
theorem pre_step (a b : List Int) {k : Nat} (h : k < 2) : preN a b (k + 1) = preN a b k ++ selN a b k := by
  match k, h with
  | 0, _ => simp [preN, selN]
  | 1, _ => simp [preN, selN]
theorem pre_len {a b : List Int} (ha : a.length = 32) (hb : b.length = 32) {k : Nat} (h : k ≤ 2) : (preN a b k).length = 1 + k * 32 := by
  match k, h with
  | 0, _ => simp [preN]
  | 1, _ => simp [preN, ha]
  | 2, _ => simp [preN, ha, hb]
theorem sel_cut {a b : List Int} (ha : a.length = 32) (hb : b.length = 32) {k : Nat} (h : k < 2) : (arrB 32 a ++ arrB 32 b).extract (k * 32) (k * 32 + 32) = arrB 32 (selN a b k) := by
  rw [ids2_list ha hb]
  match k, h with
  | 0, _ =>
    show _ = arrB 32 a
    rw [arr_id ha]
    simp [ha]
  | 1, _ =>
    show _ = arrB 32 b
    rw [arr_id hb]
    simp [ha, hb]
    exact List.take_of_length_le (by simp [hb])
set_option maxRecDepth 20000 in
set_option maxHeartbeats 4000000 in
theorem text_any (a b : List Int) (w : World) (ha : a.length = 32) (hb : b.length = 32) :
    Calls Tryd.prog 55 #[.agg (arrB 32 a ++ arrB 32 b)] w fun e w' => (∃ v, e = .returned v ∧ w'.ownsRow w.heap.size 5 1 v 65 ((textT a b).map u8v)) ∧ Below w.heap.size w w' := by
  have HA := Lib.hid (And.intro ha (Nat.le_refl 0))
  have HB := Lib.hid (And.intro hb (Nat.le_refl 0))
  clear ha hb
  have E1 : Hid (EnvX w ((w.alloc (.cells (arrB 32 a ++ arrB 32 b) 70)).alloc (.cells #[.int .u8 1] 5)) [(w.heap.size + 1, Obj.cells #[.int .u8 1] 5 (0, 0)), (w.heap.size, Obj.cells (arrB 32 a ++ arrB 32 b) 70 (0, 0))]) := (EnvX.start w).two _ _
  go_enter Tryd.func55, Tryd.ntmps55
  go_upto_region 2 with (fail)
  generalize (w.alloc (.cells (arrB 32 a ++ arrB 32 b) 70)).alloc (.cells #[.int .u8 1] 5) = W at *
  refine wp_region_Hx (w0 := w) [0, 1] [(w.heap.size + 1, Obj.cells #[.int .u8 1] 5 (0, 0)), (w.heap.size, Obj.cells (arrB 32 a ++ arrB 32 b) 70 (0, 0))] rfl E1.out ?_
  refine lexH_phase [0, 1] [] ?_
  have hw1 : EnvX w _ [(w.heap.size + 1, Obj.cells #[.int .u8 1] 5 (0, 0)), (w.heap.size, Obj.cells (arrB 32 a ++ arrB 32 b) 70 (0, 0))] := E1.out
  have hone := @EnvC.one _ _ _ hw1
  (refine wpG_val (v := .agg (arrB 32 a ++ arrB 32 b)) rfl rfl (fun u hu => load_any_op u (run_loadIds2 hu (List.Mem.tail _ (List.Mem.head _)) HA.out.1 HB.out.1) rfl) ?_ hw1; intro K hK; go_big_quiet_op; go_big_quiet_on)
  (refine wpG_op rfl rfl rfl ?_; intro K hK; go_big_quiet_op; go_big_quiet_on)
  clear hone hw1
  refine wpG_nil ?_
  intro u3 E2'
  have EX2 := Lib.hid E2'
  clear E2'
  have HINV : Hid (∃ N, FreshR 5 1 (1 + 0 * 32) ((preN a b 0).map u8v) (.slice (some ⟨w.heap.size + 1, 0, none⟩) 1 1) N ∧ freshN w N [] ∧ EnvX w u3 N) := by
    refine ⟨_, .inl ⟨w.heap.size + 1, 1, #[.int .u8 1], rfl, rfl, by omega, by decide, rfl, rfl⟩, ?_, EnvX.sub EX2.out (fun y hy => ?_)⟩
    · intro y hy
      cases List.mem_singleton.1 hy
      exact ⟨Nat.le_succ _, fun z hz => by cases hz⟩
    · cases List.mem_singleton.1 hy
      exact List.Mem.head _
  clear EX2
  go_upto_region 3 with (fail)
  go_loopw [3, 8] (fun v i u => ∃ k : Nat, k ≤ 2 ∧ i = .int .i64 k ∧ Hid (∃ N, FreshR 5 1 (1 + k * 32) ((preN a b k).map u8v) v N ∧ freshN w N [] ∧ EnvX w u N)) (fun _ i _ => 2 - (intOf i).toNat)
  case atStart => exact ⟨0, by omega, rfl, HINV⟩
  case round =>
    obtain ⟨k, hk, rfl, hinv⟩ := hrel
    obtain ⟨N, hF, hN, hE⟩ := hinv.out
    clear hinv HINV
    by_cases hlt : k < 2
    · have hk2 : (k : Int) < 2 := by omega
      have EK : Hid (EnvX w wr (N ++ [])) := by show EnvX _ _ _; rw [List.append_nil]; exact hE
      have HF := Lib.hid hF
      have HN := Lib.hid hN
      have HK := Lib.hid hlt
      have HIX := Lib.hid (sel_cut HA.out.1 HB.out.1 hlt)
      have HX : Hid ((selN a b k).length = 32) := by
        match k, hlt with
        | 0, _ => exact HA.out.1
        | 1, _ => exact HB.out.1
      have HPS := Lib.hid (pre_step a b hlt)
      have HPL := Lib.hid (pre_len HA.out.1 HB.out.1 (Nat.le_of_lt hlt))
      have HKS : Hid (1 + k * 32 + 32 ≤ 2000000) := by show _ ≤ _; omega
      clear hE hF hN
      generalize selN a b k = x at *
      go_upto_region 4 with (fail)
      refine wp_region_Hx (w0 := w) [0, 1, 2] (N ++ []) rfl EK.out ?_
      refine lexH_phase [0] [1, 2] ?_
      have hw4 : EnvX w _ (N ++ []) := EK.out
      have hone := @EnvC.one _ _ _ hw4
      (refine wpG_val (v := idv x) rfl rfl (fun u hu => index_op Tryd.underlying70 aggId HK.out HIX.out u rfl rfl) ?_ hw4; intro K hK; go_big_quiet_op; go_big_quiet_on)
      clear hone hw4
      refine wpG_nil ?_
      refine (hOp_fresh (R := fun x N => ∃ g, x = .pointer (some ⟨g, 0, none⟩) ∧ N = [(g, Obj.cells (arrB 32 []) 24 (0, 0))]) (M0 := (N ++ [])) rfl rfl (fun _ h => h) (fun u hu => FAt_new (new_id _) u) ?_)
      rintro x N ⟨g9, rfl, rfl⟩ hf he5; intro K' hK'; go_big_quiet_op; go_big_quiet_on
      have HG9 := Lib.hid hf
      clear hf
      change lexH _ _ _ _ _ _ ((g9, Obj.cells (arrB 32 []) 24 (0, 0)) :: (N ++ []))
      refine (hOp_store rfl (g9) (arrB 32 x) rfl rfl (HG9.out _ (List.mem_singleton.2 rfl)).1 24 ((arrB 32 [])) (List.Mem.head _) (info26 _ (arrB_size _ _ (by rw [HX.out]; omega))) ((arrB_size _ _ (by simp)).trans (arrB_size _ _ (by rw [HX.out]; omega)).symm) (arrB_one _ _) ((g9, Obj.cells (arrB 32 x) 24 (0, 0)) :: (N ++ [])) (fun y hy => (List.mem_cons.1 hy).imp id (fun h => ⟨List.mem_cons_of_mem _ (by simpa using h), (HG9.out _ (List.mem_singleton.2 rfl)).2 _ (by simpa using h)⟩)) ?_)
      intro he6
      intro u8 E2'
      have EX7 := Lib.hid E2'
      clear E2'
      go_upto_region 5 with (fail)
      refine wp_region_Hx (w0 := w) [0, 1, 2, 3] ((g9, Obj.cells (arrB 32 x) 24 (0, 0)) :: (N ++ [])) rfl EX7.out ?_
      refine lexH_phase [0, 1] [2, 3] ?_
      have hw9 : EnvX w _ ((g9, Obj.cells (arrB 32 x) 24 (0, 0)) :: (N ++ [])) := EX7.out
      have hone := @EnvC.one _ _ _ hw9
      (refine wpG_op rfl rfl rfl ?_; intro K hK; go_big_quiet_op; go_big_quiet_on)
      (refine wpG_val (v := .slice (some ⟨g9, 0, none⟩) 32 32) rfl rfl (fun u hu => sliceArr_op u rfl) ?_ hw9; intro K hK; go_big_quiet_op; go_big_quiet_on)
      clear hone hw9
      refine wpG_nil ?_
      refine (hOp_own (gd := none) (R := GrownR w 5 1 (1 + k * 32 + 32) ((preN a b k).map u8v ++ x.map u8v) []) rfl rfl rfl rfl (fun u hu => appR_op elB (m := 32) (c := 32) [] hu (by rw [List.length_map, HPL.out]; omega) (by rw [List.length_map, HX.out]) (fun z hz => by obtain ⟨q, _, rfl⟩ := List.mem_map.1 hz; rfl) HF.out (fun y hy => ⟨List.mem_cons_of_mem _ (List.mem_append_left _ hy), (HN.out y hy).1⟩) (by rw [← arr_id HX.out]; exact List.Mem.head _) (fun z hz => by cases hz) HKS.out rfl rfl) ?_)
      rintro x M' ⟨N2, rfl, hF2, hf2⟩ he10; intro K' hK'; go_big_quiet_op; go_big_quiet_on
      have HF2 := Lib.hid (And.intro hF2 hf2)
      clear hF2 hf2
      change lexH _ _ _ _ _ _ (N2 ++ [])
      refine lexH_phase [3] [] ?_
      have hw11 : EnvX w _ (N2 ++ []) := he10.choose_spec
      have hone := @EnvC.one _ _ _ hw11
      (refine wpG_op rfl rfl rfl ?_; intro K hK; go_big_quiet_op; go_big_quiet_on)
      clear hone hw11
      refine wpG_nil ?_
      intro u13 E2'
      have EX12 := Lib.hid E2'
      clear E2'
      go_wp2
      go_roundw
      case rel =>
        refine ⟨k + 1, by omega, by go_num, N2, ?_, HF2.out.2, by simpa using EX12.out⟩
        have h := HF2.out.1
        rw [HPS.out, List.map_append, show 1 + (k + 1) * 32 = 1 + k * 32 + 32 by omega]
        exact h
      case measure => simp [intOf]; omega
    · obtain rfl : k = 2 := by omega
      have HO := Lib.hid (And.intro (hF.own (B := w.heap.size) (by rw [List.length_map, pre_len HA.out.1 HB.out.1 (Nat.le_refl _)]) (fun y hy => ⟨(hN y hy).1, EnvX.box hE _ _ hy⟩)) (EnvX.bel hE))
      clear hF hN hE
      go_wp2
      go_ret
      exact ⟨⟨_, rfl, HO.out.1⟩, HO.out.2⟩
theorem box_bytes65 {w0 u : World} {M : Boxes} {g cap : Nat} {cur : Array Value} {xs : List Int} (hu : EnvC w0 M u) (hm : (g, Obj.cells cur 5 (0, 0)) ∈ M) (hl : xs.length = 65) (h : 65 ≤ cap ∧ cap ≤ maxLen ∧ cur.size = cap * 1 ∧ cur.toList.take (65 * 1) = xs.map u8v) : Bytes u u.heap.size (some ⟨g, 0, none⟩) xs := by
  have : OwnB u 0 (.slice (some ⟨g, 0, none⟩) xs.length cap) xs := ⟨by simp, .inr ⟨g, cap, cur, rfl, Nat.zero_le _, EnvX.box hu g _ hm, by rw [hl]; exact h.1, h.2.1, h.2.2.1, by rw [hl]; exact h.2.2.2⟩⟩
  exact this.bytes.2
set_option maxRecDepth 20000 in
set_option maxHeartbeats 4000000 in
theorem node_any (a b : List Int) (w : World) (ha : a.length = 32 ∧ ∀ x ∈ a, 0 ≤ x ∧ x ≤ 255) (hb : b.length = 32 ∧ ∀ x ∈ b, 0 ≤ x ∧ x ≤ 255) (ht : Tables w) :
    Calls Tryd.prog 38 #[idv a, idv b] w fun e w' => e = .returned (idv (nodeT a b)) ∧ Below w.heap.size w w' := by
  have HA := Lib.hid ha
  have HB := Lib.hid hb
  have HAB : Hid ((arrB 32 a).size = 32 ∧ (arrB 32 b).size = 32) := ⟨arrB_size _ _ (by omega), arrB_size _ _ (by omega)⟩
  have HTX := Lib.hid (fun u => text_any a b u ha.1 hb.1)
  have HTL : Hid ((textT a b).length = 65) := by show _ = _; unfold textT; simp [ha.1, hb.1]
  have HSUM : Hid (∀ u g cap, Bytes u u.heap.size (some ⟨g, 0, none⟩) (textT a b) → EnvX w u [] → Calls Tryd.prog 23 #[.slice (some ⟨g, 0, none⟩) 65 cap] u fun e w' => e = .returned (idv (nodeT a b)) ∧ Below u.heap.size u w') := fun u g cap h1 h2 =>
    sum_any (some ⟨g, 0, none⟩) 65 cap (textT a b) u HTL.out (by omega) h1 (textT_byte ha.2 hb.2) (ht.below (EnvX.bel h2))
  have HLE : Hid (w.heap.size ≤ w.heap.size + 1 + 1) := by show _ ≤ _; omega
  have HNL : Hid ((nodeT a b).length ≤ 32) := by show _ ≤ _; rw [(node_id _ _).1]; omega
  have E1 : Hid (EnvX w (((w.alloc (.cells (arrB 32 a) 24)).alloc (.cells (arrB 32 b) 24)).alloc (.cells (arrB 32 []) 24)) [(w.heap.size + 1 + 1, Obj.cells (arrB 32 []) 24 (0, 0)), (w.heap.size + 1, Obj.cells (arrB 32 b) 24 (0, 0)), (w.heap.size, Obj.cells (arrB 32 a) 24 (0, 0))]) := by
    have h := ((EnvX.start w).two (Obj.cells (arrB 32 a) 24 (0, 0)) (Obj.cells (arrB 32 b) 24 (0, 0))).new (Obj.cells (arrB 32 []) 24 (0, 0))
    have hs : ((w.alloc (Obj.cells (arrB 32 a) 24 (0, 0))).alloc (Obj.cells (arrB 32 b) 24 (0, 0))).heap.size = w.heap.size + 1 + 1 := by simp
    rw [hs] at h
    exact h
  clear ha hb ht
  unfold idv
  go_enter Tryd.func38, Tryd.ntmps38
  go_upto_region 1 with (fail)
  rw [zero_cells]
  generalize ((w.alloc (.cells (arrB 32 a) 24)).alloc (.cells (arrB 32 b) 24)).alloc (.cells (arrB 32 []) 24) = W at *
  refine wp_region_Hx (w0 := w) [0, 1, 2, 3, 4, 5] [(w.heap.size + 1 + 1, Obj.cells (arrB 32 []) 24 (0, 0)), (w.heap.size + 1, Obj.cells (arrB 32 b) 24 (0, 0)), (w.heap.size, Obj.cells (arrB 32 a) 24 (0, 0))] rfl E1.out ?_
  refine lexH_phase [0, 1, 2] [3, 4, 5] ?_
  have hw1 : EnvX w _ [(w.heap.size + 1 + 1, Obj.cells (arrB 32 []) 24 (0, 0)), (w.heap.size + 1, Obj.cells (arrB 32 b) 24 (0, 0)), (w.heap.size, Obj.cells (arrB 32 a) 24 (0, 0))] := E1.out
  have hone := @EnvC.one _ _ _ hw1
  (refine wpG_val (v := idv a) rfl rfl (fun u hu => load_run_op u (box_load hu (List.Mem.tail _ (List.Mem.tail _ (List.Mem.head _))) HA.out.1) rfl) ?_ hw1; intro K hK; go_big_quiet_op; go_big_quiet_on)
  (refine wpG_val (v := idv b) rfl rfl (fun u hu => load_run_op u (box_load hu (List.Mem.tail _ (List.Mem.head _)) HB.out.1) rfl) ?_ hw1; intro K hK; go_big_quiet_op; go_big_quiet_on)
  (refine wpG_val (v := .agg (arrB 32 a ++ arrB 32 b)) rfl rfl (fun u hu => buildA_op u (built_ids HAB.out.1 HAB.out.2)) ?_ hw1; intro K hK; go_big_quiet_op; go_big_quiet_on)
  clear hone hw1
  refine wpG_nil ?_
  refine (hOp_fresh (R := FreshR 5 1 65 ((textT a b).map u8v)) (M0 := [(w.heap.size + 1 + 1, Obj.cells (arrB 32 []) 24 (0, 0)), (w.heap.size + 1, Obj.cells (arrB 32 b) 24 (0, 0)), (w.heap.size, Obj.cells (arrB 32 a) 24 (0, 0))]) rfl rfl (fun _ h => h) (fun u hu => FAt_call (fid := 55) (xs := #[.tmp 7]) (args := #[.agg (arrB 32 a ++ arrB 32 b)]) rfl Tryd.func55 rfl rfl u (callsR_fresh (HTX.out u))) ?_)
  rintro x N hF hf he2; intro K' hK'; go_big_quiet_op; go_big_quiet_on
  obtain ⟨g, cap, cur, rfl, rfl, hcur⟩ | ⟨_, _, h0, _⟩ := hF
  case inr => cases h0
  have HCUR := Lib.hid hcur
  clear hcur
  clear hf
  change lexH _ _ _ _ _ _ [(g, Obj.cells cur 5 (0, 0)), (w.heap.size + 1 + 1, Obj.cells (arrB 32 []) 24 (0, 0)), (w.heap.size + 1, Obj.cells (arrB 32 b) 24 (0, 0)), (w.heap.size, Obj.cells (arrB 32 a) 24 (0, 0))]
  refine lexH_phase [4] [5] ?_
  have hw3 : EnvX w _ [(g, Obj.cells cur 5 (0, 0)), (w.heap.size + 1 + 1, Obj.cells (arrB 32 []) 24 (0, 0)), (w.heap.size + 1, Obj.cells (arrB 32 b) 24 (0, 0)), (w.heap.size, Obj.cells (arrB 32 a) 24 (0, 0))] := he2.choose_spec
  have hone := @EnvC.one _ _ _ hw3
  (refine wpG_call (f := 23) (args := #[.slice (some ⟨g, 0, none⟩) 65 cap]) (v := idv (nodeT a b)) rfl rfl rfl Tryd.func23 rfl rfl (fun u hu => HSUM.out u _ _ (box_bytes65 hu (List.Mem.head _) HTL.out HCUR.out) (EnvX.sub hu (fun _ h => by cases h))) ?_ hw3; intro K hK; go_big_quiet_op; go_big_quiet_on)
  clear hone hw3
  refine wpG_nil ?_
  refine (hOp_store rfl (w.heap.size + 1 + 1) (arrB 32 (nodeT a b)) rfl rfl HLE.out 24 ((arrB 32 [])) (List.Mem.tail _ (List.Mem.head _)) (info26 _ (arrB_size _ _ HNL.out)) ((arrB_size _ _ (by simp)).trans (arrB_size _ _ HNL.out).symm) (arrB_one _ _) [(w.heap.size + 1 + 1, Obj.cells (arrB 32 (nodeT a b)) 24 (0, 0))] (List.forall_mem_cons.2 ⟨.inl rfl, (fun _ h => by cases h)⟩) ?_)
  intro he4
  intro u6 E2'
  have EX5 := Lib.hid E2'
  clear E2'
  have hsz : Hid ((arrB 32 (nodeT a b)).size = 32) := arrB_size _ _ HNL.out
  have Q0 := Lib.hid (EnvX.box EX5.out _ _ (List.Mem.head _))
  have HBEL := Lib.hid EX5.out.bel
  clear EX5
  generalize hcn : arrB 32 (nodeT a b) = cn at *
  have HCN := Lib.hid hcn
  clear hcn
  go_wp2_with ((with_reducible refine bodyPost_ret (v := .agg cn) ?_ ?_ ?_); (exact results_cell_row (p := 4) (ty := 24) Tryd.results38 _ _ (w.heap.size + 1 + 1) 24 cn (0, 0) _ rfl Q0.out Tryd.underlying24 rfl (info26 cn hsz.out)); (rfl))
  exact ⟨by rw [HCN.out], HBEL.out⟩
end Go.Proofs.YtbjojpgedcikiaaDoor

namespace Go.Proofs.YtbjojpgedcikiaaDoor
set_option maxRecDepth 8000
open Go.RowKit

def ptr (g : Nat) : Value := .pointer (some ⟨g, 0, none⟩)
def ndV : Value := .func (.func 38) #[] #[]
def r1V (bl bw bn : Nat) : Value := .func (.func 65) #[] #[ptr bl, ptr bw, ptr bn]
theorem oneFnR : ∀ w, (isAgg 91).run Tryd.prog w = .ok false w := fun w => by simp [isAgg, run_underlying Tryd.underlying91]
theorem oneJoin : ∀ w, (isAgg 65).run Tryd.prog w = .ok false w := fun w => by simp [isAgg, run_underlying Tryd.underlying65]
def bxL (A : Option Addr) (m c : Nat) : Obj := .cells #[.slice A m c] 22 (0, 0)
def bxR (bl bw bn : Nat) : Obj := .cells #[r1V bl bw bn] 91 (0, 0)
def bxN : Obj := .cells #[ndV] 65 (0, 0)
def sideF (f n k : Nat) : Nat := if k = 0 then f else f + halfT n
def sideN (n k : Nat) : Nat := if k = 0 then halfT n else n - halfT n
def sideR (L : List (List Int)) (f n k : Nat) : List Int := rootT ((L.drop (sideF f n k)).take (sideN n k))
theorem side_cut {f n k : Nat} (h2 : 2 ≤ n) (hk : k < 2) : (cutC f n).toArray.extract (k * 2) (k * 2 + 2) = (spanC (sideF f n k) (sideN n k)).toArray := by
  obtain ⟨b1, b2, b3, -⟩ := half_spec h2
  match k, hk with
  | 0, _ => rfl
  | 1, _ =>
    show _ = (spanC (f + halfT n) (n - halfT n)).toArray
    have e : f + halfT n + (n - halfT n) = f + n := by omega
    unfold spanC cutC
    rw [e]
    rfl
theorem side_in {f n k m : Nat} (h2 : 2 ≤ n) (hk : k < 2) (hm : f + n ≤ m) : 1 ≤ sideN n k ∧ sideN n k < n ∧ sideF f n k + sideN n k ≤ m := by
  obtain ⟨b1, b2, b3, -⟩ := half_spec h2
  match k, hk with
  | 0, _ => exact ⟨b1, b2, by show f + halfT n ≤ m; omega⟩
  | 1, _ => exact ⟨by show 1 ≤ n - halfT n; omega, by show n - halfT n < n; omega, by show f + halfT n + (n - halfT n) ≤ m; omega⟩
theorem side_root {L : List (List Int)} {f n : Nat} (h2 : 2 ≤ n) (hm : f + n ≤ L.length) : nodeT (sideR L f n 0) (sideR L f n 1) = rootT ((L.drop f).take n) := by
  obtain ⟨b1, b2, b3, -⟩ := half_spec h2
  have hl : ((L.drop f).take n).length = n := by rw [List.length_take, List.length_drop]; omega
  have hc := root_cut (l := (L.drop f).take n) (by omega)
  rw [hl] at hc
  rw [hc]
  show nodeT (rootT ((L.drop f).take (halfT n))) (rootT ((L.drop (f + halfT n)).take (n - halfT n))) = _
  rw [List.take_take, Nat.min_eq_left (by omega), List.drop_take, List.drop_drop]
def sumsC (r0 r1 : List Int) : Nat → Array Value
  | 0 => arrB 32 [] ++ arrB 32 []
  | 1 => arrB 32 r0 ++ arrB 32 []
  | _ => arrB 32 r0 ++ arrB 32 r1
def pick2 (r0 r1 : List Int) (k : Nat) : List Int := if k = 0 then r0 else r1
theorem z32_len : (arrB 32 []).toList.length = 32 := by rw [Array.length_toList]; exact arrB_size _ _ (by simp)
theorem idA_cells {r : List Int} (h : r.length = 32) : (arrB 32 r).toList.length = 32 := by rw [Array.length_toList]; exact arrB_size _ _ (by omega)
theorem sums_step {r0 r1 : List Int} (h0 : r0.length = 32) (h1 : r1.length = 32) {k : Nat} (hk : k < 2) :
    (sumsC r0 r1 k).toList.take (k * 32) ++ (arrB 32 (pick2 r0 r1 k)).toList ++ (sumsC r0 r1 k).toList.drop (k * 32 + (arrB 32 (pick2 r0 r1 k)).size) = (sumsC r0 r1 (k + 1)).toList := by
  have l0 := idA_cells h0
  have l1 := idA_cells h1
  have lz := z32_len
  match k, hk with
  | 0, _ =>
    show (arrB 32 [] ++ arrB 32 []).toList.take 0 ++ (arrB 32 r0).toList ++ (arrB 32 [] ++ arrB 32 []).toList.drop (0 * 32 + (arrB 32 r0).size) = (arrB 32 r0 ++ arrB 32 []).toList
    rw [arrB_size 32 r0 (by omega), Array.toList_append, Array.toList_append, List.drop_append_of_le_length (by omega), List.drop_of_length_le (by omega)]
    rfl
  | 1, _ =>
    show (arrB 32 r0 ++ arrB 32 []).toList.take 32 ++ (arrB 32 r1).toList ++ (arrB 32 r0 ++ arrB 32 []).toList.drop (1 * 32 + (arrB 32 r1).size) = (arrB 32 r0 ++ arrB 32 r1).toList
    rw [arrB_size 32 r1 (by omega), Array.toList_append, Array.toList_append, List.take_append_of_le_length (by omega), List.take_of_length_le (by omega), List.drop_of_length_le (by rw [List.length_append]; omega), List.append_nil]
theorem sums_size {r0 r1 : List Int} (h0 : r0.length = 32) (h1 : r1.length = 32) (k : Nat) : (sumsC r0 r1 k).size = 64 := by
  have z := arrB_size 32 [] (by simp)
  have s0 := arrB_size 32 r0 (by omega)
  have s1 := arrB_size 32 r1 (by omega)
  match k with
  | 0 => simp only [sumsC, Array.size_append, z]
  | 1 => simp only [sumsC, Array.size_append, z, s0]
  | _ + 2 => simp only [sumsC, Array.size_append, s0, s1]
/-- an id at a place of a box -/
theorem box_idAt {w0 u : World} {M : Boxes} {g k : Nat} {t : TypeId} {cs : Array Value} {r : List Int} (hr : r.length = 32) (hu : EnvC w0 M u) (hm : (g, Obj.cells cs t (0, 0)) ∈ M) (h : (cs.toList.drop k).take 32 = (arrB 32 r).toList) :
    (loadVar 24 ⟨g, k, none⟩).run Tryd.prog u = .ok (idv r) u := by
  have := box_agg aggId hu hm (arrB 32 r).toList (idA_cells hr) h
  rw [Array.toArray_toList] at this
  exact this
theorem pair_at {A B : Array Value} (hA : A.toList.length = 32) (hB : B.toList.length = 32) : ((A ++ B).toList.drop (0 + 0 * 32)).take 32 = A.toList ∧ ((A ++ B).toList.drop (0 + 1 * 32)).take 32 = B.toList := by
  rw [Array.toList_append]
  refine ⟨?_, ?_⟩
  · rw [List.drop_zero, List.take_append_of_le_length (by omega), List.take_of_length_le (by omega)]
  · rw [show 0 + 1 * 32 = A.toList.length by omega, List.drop_left, List.take_of_length_le (by omega)]
theorem new_ids2 {dst : Option Tmp} {ty : TypeId} {pos : String} {after : Array Edge} {gd : Option (Nat × Bool)} (a : Act) : NewAt Tryd.prog ⟨dst, .alloc 70, ty, pos, after, gd⟩ a (.cells (arrB 32 [] ++ arrB 32 []) 70 (0, 0)) :=
  new_of (z := .agg (arrB 32 [] ++ arrB 32 [])) (n := 64) (by kernel_rfl) a
theorem new_span {dst : Option Tmp} {ty : TypeId} {pos : String} {after : Array Edge} {gd : Option (Nat × Bool)} (a : Act) : NewAt Tryd.prog ⟨dst, .alloc 82, ty, pos, after, gd⟩ a (.cells #[ii 0, ii 0] 82 (0, 0)) :=
  new_of (z := .agg #[ii 0, ii 0]) (n := 2) (by kernel_rfl) a
set_option maxRecDepth 20000 in
set_option maxHeartbeats 4000000 in
theorem root1_any (A : Option Addr) (m c : Nat) (L : List (List Int)) (bl bw bn : Nat) (hL : isIds L) (hm : L.length = m) (hm6 : m ≤ 1000000) : ∀ (n f : Nat) (w : World), 1 ≤ n → f + n ≤ m →
    EnvX w w [(bl, bxL A m c), (bw, bxR bl bw bn), (bn, bxN)] → IdsIn w w.heap.size A L → Tables w →
    Calls Tryd.prog 65 #[.agg (spanC f n).toArray, ptr bl, ptr bw, ptr bn] w fun e w' => e = .returned (idv (rootT ((L.drop f).take n))) ∧ Below w.heap.size w w' := by
  intro n
  induction n using Nat.strongRecOn with
  | _ n ih =>
    intro f w h1 hfm hE hA ht
    have E1 : Hid (EnvX w ((w.alloc (.cells (spanC f n).toArray 82)).alloc (.cells (arrB 32 []) 24)) [(w.heap.size + 1, Obj.cells (arrB 32 []) 24 (0, 0)), (w.heap.size, Obj.cells (spanC f n).toArray 82 (0, 0)), (bl, bxL A m c), (bw, bxR bl bw bn), (bn, bxN)]) := hE.two _ _
    have q1 : Hid (((f + n : Nat) : Int) - (f : Int) = (n : Int) ∧ InI (n : Int)) := by show _ ∧ _; unfold InI; omega
    have HLE : Hid (w.heap.size ≤ w.heap.size + 1) := Nat.le_succ _
    unfold ptr
    by_cases hn1 : n = 1
    · have HB : Hid (decide ((n : Int) = 1) = true) := decide_eq_true (by omega)
      have hlt : f < L.length := by omega
      obtain ⟨ad, rfl, hld⟩ := hA.load hL (i := f) hlt
      have HLD : Hid (∀ u, EnvX w u [] → (loadVar 24 (ad.add (f * 32))).run Tryd.prog u = .ok (idv (L.getD f [])) u) := fun u hu => by
        obtain ⟨ad2, e2, h2⟩ := (hA.up (EnvX.bel hu)).load hL (i := f) hlt
        cases e2
        exact h2
      have HR : Hid (rootT ((L.drop f).take n) = L.getD f []) := by
        show _ = _
        subst hn1
        rw [List.getD_eq_getElem?_getD, List.getElem?_eq_getElem hlt, List.drop_eq_getElem_cons hlt, List.take_succ_cons, List.take_zero, root_one]
        rfl
      have HX := Lib.hid (hL.get hlt).1
      have HFM : Hid (f < m) := by show _ < _; omega
      rw [HR.out]
      generalize L.getD f [] = x at *
      clear ih hE hA ht hld HR hn1
      go_enter Tryd.func65, Tryd.ntmps65
      go_upto_region 1 with (fail)
      rw [zero_cells]
      generalize (w.alloc (.cells (spanC f n).toArray 82)).alloc (.cells (arrB 32 []) 24) = W at *
      refine wp_region_Hx (w0 := w) [0, 1, 2, 3, 4, 5] [(w.heap.size + 1, Obj.cells (arrB 32 []) 24 (0, 0)), (w.heap.size, Obj.cells (spanC f n).toArray 82 (0, 0)), (bl, bxL (some ad) m c), (bw, bxR bl bw bn), (bn, bxN)] rfl E1.out ?_
      refine lexH_phase [0, 1, 2, 3, 4, 5] [] ?_
      have hw1 : EnvX w _ [(w.heap.size + 1, Obj.cells (arrB 32 []) 24 (0, 0)), (w.heap.size, Obj.cells (spanC f n).toArray 82 (0, 0)), (bl, bxL (some ad) m c), (bw, bxR bl bw bn), (bn, bxN)] := E1.out
      have hone := @EnvC.one _ _ _ hw1
      (refine wpG_op rfl rfl rfl ?_; intro K hK; go_big_quiet_op; go_big_quiet_on)
      (refine wpG_val (v := ii (f + n)) rfl rfl (fun u hu => load_any_op u (run_load_one oneInt u (box_cell (k := 1) hu (List.Mem.tail _ (List.Mem.head _)) rfl)) rfl) ?_ hw1; intro K hK; go_big_quiet_op; go_big_quiet_on)
      (refine wpG_op rfl rfl rfl ?_; intro K hK; go_big_quiet_op; go_big_quiet_on)
      (refine wpG_val (v := ii f) rfl rfl (fun u hu => load_any_op u (run_load_one oneInt u (box_cell (k := 0) hu (List.Mem.tail _ (List.Mem.head _)) rfl)) rfl) ?_ hw1; intro K hK; go_big_quiet_op; go_big_quiet_on)
      (refine wpG_val (v := ii n) rfl rfl (fun u hu => sub_op u q1.out.1 q1.out.2 rfl rfl) ?_ hw1; intro K hK; go_big_quiet_op; go_big_quiet_on)
      (refine wpG_val (v := .bool true) rfl rfl (fun u hu => eqlI_op u HB.out rfl rfl) ?_ hw1; intro K hK; go_big_quiet_op; go_big_quiet_on)
      clear hone hw1
      refine wpG_nil ?_
      intro u3 E2'
      have EX2 := Lib.hid E2'
      clear E2'
      go_upto_region 2 with (fail)
      refine wp_region_Hx (w0 := w) [0, 1, 2, 3, 4, 5] [(w.heap.size + 1, Obj.cells (arrB 32 []) 24 (0, 0)), (w.heap.size, Obj.cells (spanC f n).toArray 82 (0, 0)), (bl, bxL (some ad) m c), (bw, bxR bl bw bn), (bn, bxN)] rfl EX2.out ?_
      refine lexH_phase [0, 1, 2, 3, 4] [5] ?_
      have hw4 : EnvX w _ [(w.heap.size + 1, Obj.cells (arrB 32 []) 24 (0, 0)), (w.heap.size, Obj.cells (spanC f n).toArray 82 (0, 0)), (bl, bxL (some ad) m c), (bw, bxR bl bw bn), (bn, bxN)] := EX2.out
      have hone := @EnvC.one _ _ _ hw4
      (refine wpG_val (v := .slice (some ad) m c) rfl rfl (fun u hu => load_any_op u (run_load_one oneIds u (box_cell (k := 0) hu (List.Mem.tail _ (List.Mem.tail _ (List.Mem.head _))) rfl)) rfl) ?_ hw4; intro K hK; go_big_quiet_op; go_big_quiet_on)
      (refine wpG_op rfl rfl rfl ?_; intro K hK; go_big_quiet_op; go_big_quiet_on)
      (refine wpG_val (v := ii f) rfl rfl (fun u hu => load_any_op u (run_load_one oneInt u (box_cell (k := 0) hu (List.Mem.tail _ (List.Mem.head _)) rfl)) rfl) ?_ hw4; intro K hK; go_big_quiet_op; go_big_quiet_on)
      (refine wpG_val (v := .pointer (some (ad.add (f * 32)))) rfl rfl (fun u hu => idxSl_op Tryd.underlying22 aggId.size HFM.out u rfl rfl) ?_ hw4; intro K hK; go_big_quiet_op; go_big_quiet_on)
      (refine wpG_val (v := idv x) rfl rfl (fun u hu => load_any_op u (HLD.out u (EnvX.sub hu (fun _ h => by cases h))) rfl) ?_ hw4; intro K hK; go_big_quiet_op; go_big_quiet_on)
      clear hone hw4
      refine wpG_nil ?_
      refine (hOp_store rfl (w.heap.size + 1) (arrB 32 x) rfl rfl HLE.out 24 ((arrB 32 [])) (List.Mem.head _) (info26 _ (arrB_size _ _ (by rw [HX.out]; omega))) ((arrB_size _ _ (by simp)).trans (arrB_size _ _ (by rw [HX.out]; omega)).symm) (arrB_one _ _) [(w.heap.size + 1, Obj.cells (arrB 32 x) 24 (0, 0))] (List.forall_mem_cons.2 ⟨.inl rfl, (fun _ h => by cases h)⟩) ?_)
      intro he5
      intro u7 E2'
      have EX6 := Lib.hid E2'
      clear E2'
      have hsz : Hid ((arrB 32 x).size = 32) := arrB_size _ _ (by rw [HX.out]; omega)
      have Q0 := Lib.hid (EnvX.box EX6.out _ _ (List.Mem.head _))
      have HBEL := Lib.hid EX6.out.bel
      clear EX6
      unfold idv
      generalize hcn : arrB 32 x = cn at *
      have HCN := Lib.hid hcn
      clear hcn
      go_wp2_with ((with_reducible refine bodyPost_ret (v := .agg cn) ?_ ?_ ?_); (exact results_cell_row (p := 5) (ty := 24) Tryd.results65 _ _ (w.heap.size + 1) 24 cn (0, 0) _ rfl Q0.out Tryd.underlying24 rfl (info26 cn hsz.out)); (rfl))
      first | exact HBEL.out | exact ⟨rfl, HBEL.out⟩ | exact ⟨by unfold idv; rw [HCN.out], HBEL.out⟩
    · have h2 : 2 ≤ n := by omega
      have HB : Hid (decide ((n : Int) = 1) = false) := decide_eq_false (by omega)
      have HCUT := Lib.hid (fun u => cut_any f n u h2 (by omega))
      have HSC := Lib.hid (fun k (hk : k < 2) => side_cut (f := f) h2 hk)
      have HSI := Lib.hid (fun k (hk : k < 2) => side_in (f := f) (m := m) h2 hk hfm)
      have HRID : Hid (∀ k, (sideR L f n k).length = 32 ∧ ∀ x ∈ sideR L f n k, 0 ≤ x ∧ x ≤ 255) := fun k => root_id ((hL.drop _).take _)
      have HCALL : Hid (∀ k, k < 2 → ∀ u, EnvX w u [(bl, bxL A m c), (bw, bxR bl bw bn), (bn, bxN)] → Calls Tryd.prog 65 #[.agg (spanC (sideF f n k) (sideN n k)).toArray, ptr bl, ptr bw, ptr bn] u fun e w' => e = .returned (idv (sideR L f n k)) ∧ Below u.heap.size u w') := fun k hk u hu => by
        obtain ⟨s1, s2, s3⟩ := side_in (f := f) (m := m) h2 hk hfm
        exact ih (sideN n k) s2 (sideF f n k) u s1 s3 ⟨Below.refl _ _, EnvX.box hu⟩ (hA.up (EnvX.bel hu)) (ht.below (EnvX.bel hu))
      have HND : Hid (∀ u, EnvX w u [] → Calls Tryd.prog 38 #[idv (sideR L f n 0), idv (sideR L f n 1)] u fun e w' => e = .returned (idv (rootT ((L.drop f).take n))) ∧ Below u.heap.size u w') := fun u hu => by
        rw [← side_root h2 (by omega)]
        exact node_any _ _ u (HRID.out 0) (HRID.out 1) (ht.below (EnvX.bel hu))
      have HNL : Hid ((rootT ((L.drop f).take n)).length ≤ 32) := by show _ ≤ _; rw [(root_id ((hL.drop _).take _)).1]; omega
      clear ih hE hA ht
      have HST := Lib.hid (fun k (hk : k < 2) => sums_step (HRID.out 0).1 (HRID.out 1).1 hk)
      have HSZ := Lib.hid (sums_size (HRID.out 0).1 (HRID.out 1).1)
      have HPK : Hid (∀ k, k < 2 → sideR L f n k = pick2 (sideR L f n 0) (sideR L f n 1) k) := fun k hk => by
        match k, hk with
        | 0, _ => rfl
        | 1, _ => rfl
      go_enter Tryd.func65, Tryd.ntmps65
      go_upto_region 1 with (fail)
      rw [zero_cells]
      generalize (w.alloc (.cells (spanC f n).toArray 82)).alloc (.cells (arrB 32 []) 24) = W at *
      refine wp_region_Hx (w0 := w) [0, 1, 2, 3, 4, 5] [(w.heap.size + 1, Obj.cells (arrB 32 []) 24 (0, 0)), (w.heap.size, Obj.cells (spanC f n).toArray 82 (0, 0)), (bl, bxL A m c), (bw, bxR bl bw bn), (bn, bxN)] rfl E1.out ?_
      refine lexH_phase [0, 1, 2, 3, 4, 5] [] ?_
      have hw1 : EnvX w _ [(w.heap.size + 1, Obj.cells (arrB 32 []) 24 (0, 0)), (w.heap.size, Obj.cells (spanC f n).toArray 82 (0, 0)), (bl, bxL A m c), (bw, bxR bl bw bn), (bn, bxN)] := E1.out
      have hone := @EnvC.one _ _ _ hw1
      (refine wpG_op rfl rfl rfl ?_; intro K hK; go_big_quiet_op; go_big_quiet_on)
      (refine wpG_val (v := ii (f + n)) rfl rfl (fun u hu => load_any_op u (run_load_one oneInt u (box_cell (k := 1) hu (List.Mem.tail _ (List.Mem.head _)) rfl)) rfl) ?_ hw1; intro K hK; go_big_quiet_op; go_big_quiet_on)
      (refine wpG_op rfl rfl rfl ?_; intro K hK; go_big_quiet_op; go_big_quiet_on)
      (refine wpG_val (v := ii f) rfl rfl (fun u hu => load_any_op u (run_load_one oneInt u (box_cell (k := 0) hu (List.Mem.tail _ (List.Mem.head _)) rfl)) rfl) ?_ hw1; intro K hK; go_big_quiet_op; go_big_quiet_on)
      (refine wpG_val (v := ii n) rfl rfl (fun u hu => sub_op u q1.out.1 q1.out.2 rfl rfl) ?_ hw1; intro K hK; go_big_quiet_op; go_big_quiet_on)
      (refine wpG_val (v := .bool false) rfl rfl (fun u hu => eqlI_op u HB.out rfl rfl) ?_ hw1; intro K hK; go_big_quiet_op; go_big_quiet_on)
      clear hone hw1
      refine wpG_nil ?_
      intro u3 E2'
      have EX2 := Lib.hid E2'
      clear E2'
      go_upto_region 3 with (fail)
      refine wp_region_Hx (w0 := w) [0] [(w.heap.size + 1, Obj.cells (arrB 32 []) 24 (0, 0)), (w.heap.size, Obj.cells (spanC f n).toArray 82 (0, 0)), (bl, bxL A m c), (bw, bxR bl bw bn), (bn, bxN)] rfl EX2.out ?_
      refine (hOp_fresh (R := fun x N => ∃ g, x = .pointer (some ⟨g, 0, none⟩) ∧ N = [(g, Obj.cells (arrB 32 [] ++ arrB 32 []) 70 (0, 0))]) (M0 := [(w.heap.size + 1, Obj.cells (arrB 32 []) 24 (0, 0)), (w.heap.size, Obj.cells (spanC f n).toArray 82 (0, 0)), (bl, bxL A m c), (bw, bxR bl bw bn), (bn, bxN)]) rfl rfl (fun _ h => h) (fun u hu => FAt_new (new_ids2 _) u) ?_)
      rintro x N ⟨gs, rfl, rfl⟩ hf he4; intro K' hK'; go_big_quiet_op; go_big_quiet_on
      have HGS := Lib.hid (hf _ (List.mem_singleton.2 rfl))
      clear hf
      change lexH _ _ _ _ _ _ [(gs, Obj.cells (arrB 32 [] ++ arrB 32 []) 70 (0, 0)), (w.heap.size + 1, Obj.cells (arrB 32 []) 24 (0, 0)), (w.heap.size, Obj.cells (spanC f n).toArray 82 (0, 0)), (bl, bxL A m c), (bw, bxR bl bw bn), (bn, bxN)]
      intro u6 E2'
      have EX5 := Lib.hid E2'
      clear E2'
      go_upto_region 4 with (fail)
      refine wp_region_Hx (w0 := w) [0, 1, 2] [(gs, Obj.cells (arrB 32 [] ++ arrB 32 []) 70 (0, 0)), (w.heap.size + 1, Obj.cells (arrB 32 []) 24 (0, 0)), (w.heap.size, Obj.cells (spanC f n).toArray 82 (0, 0)), (bl, bxL A m c), (bw, bxR bl bw bn), (bn, bxN)] rfl EX5.out ?_
      refine lexH_phase [0, 1, 2] [] ?_
      have hw7 : EnvX w _ [(gs, Obj.cells (arrB 32 [] ++ arrB 32 []) 70 (0, 0)), (w.heap.size + 1, Obj.cells (arrB 32 []) 24 (0, 0)), (w.heap.size, Obj.cells (spanC f n).toArray 82 (0, 0)), (bl, bxL A m c), (bw, bxR bl bw bn), (bn, bxN)] := EX5.out
      have hone := @EnvC.one _ _ _ hw7
      (refine wpG_val (v := .agg (spanC f n).toArray) rfl rfl (fun u hu => load_any_op u (box_agg aggSpan (k := 0) hu (List.Mem.tail _ (List.Mem.tail _ (List.Mem.head _))) (spanC f n) rfl rfl) rfl) ?_ hw7; intro K hK; go_big_quiet_op; go_big_quiet_on)
      (refine wpG_call (f := 66) (args := #[.agg (spanC f n).toArray]) (v := .agg (cutC f n).toArray) rfl rfl rfl Tryd.func66 rfl rfl (fun u hu => HCUT.out u) ?_ hw7; intro K hK; go_big_quiet_op; go_big_quiet_on)
      (refine wpG_op rfl rfl rfl ?_; intro K hK; go_big_quiet_op; go_big_quiet_on)
      clear hone hw7
      refine wpG_nil ?_
      intro u9 E2'
      have EX8 := Lib.hid E2'
      clear E2'
      go_upto_region 5 with (fail)
      have EI : Hid (EnvX w u9 ((gs, Obj.cells (sumsC (sideR L f n 0) (sideR L f n 1) 0) 70 (0, 0)) :: [(w.heap.size + 1, Obj.cells (arrB 32 []) 24 (0, 0)), (w.heap.size, Obj.cells (spanC f n).toArray 82 (0, 0)), (bl, bxL A m c), (bw, bxR bl bw bn), (bn, bxN)])) := EX8
      clear EX8
      go_loopw [22] (fun i u => ∃ k : Nat, k ≤ 2 ∧ i = .int .i64 k ∧ Hid (EnvX w u ((gs, Obj.cells (sumsC (sideR L f n 0) (sideR L f n 1) k) 70 (0, 0)) :: [(w.heap.size + 1, Obj.cells (arrB 32 []) 24 (0, 0)), (w.heap.size, Obj.cells (spanC f n).toArray 82 (0, 0)), (bl, bxL A m c), (bw, bxR bl bw bn), (bn, bxN)]))) (fun i _ => 2 - (intOf i).toNat)
      case atStart => exact ⟨0, by omega, rfl, EI⟩
      case round =>
        obtain ⟨k, hk, rfl, EK⟩ := hrel
        clear EI
        by_cases hlt : k < 2
        · have hk2 : (k : Int) < 2 := by omega
          have HK := Lib.hid hlt
          have HIX := Lib.hid (HSC.out k hlt)
          have HCK := Lib.hid (HCALL.out k hlt)
          have HSTK := Lib.hid (HST.out k hlt)
          rw [← HPK.out k hlt] at HSTK
          have HRK := Lib.hid (HRID.out k).1
          have HSK := Lib.hid (HSZ.out k)
          have HK32 : Hid (k * 32 + 32 ≤ 64) := by show _ ≤ _; omega
          go_upto_region 6 with (fail)
          refine wp_region_Hx (w0 := w) [0, 1, 2, 3, 4] [(gs, Obj.cells (sumsC (sideR L f n 0) (sideR L f n 1) k) 70 (0, 0)), (w.heap.size + 1, Obj.cells (arrB 32 []) 24 (0, 0)), (w.heap.size, Obj.cells (spanC f n).toArray 82 (0, 0)), (bl, bxL A m c), (bw, bxR bl bw bn), (bn, bxN)] rfl EK.out ?_
          refine lexH_phase [0, 1] [2, 3, 4] ?_
          have hw10 : EnvX w _ [(gs, Obj.cells (sumsC (sideR L f n 0) (sideR L f n 1) k) 70 (0, 0)), (w.heap.size + 1, Obj.cells (arrB 32 []) 24 (0, 0)), (w.heap.size, Obj.cells (spanC f n).toArray 82 (0, 0)), (bl, bxL A m c), (bw, bxR bl bw bn), (bn, bxN)] := EK.out
          have hone := @EnvC.one _ _ _ hw10
          (refine wpG_op rfl rfl rfl ?_; intro K hK; go_big_quiet_op; go_big_quiet_on)
          (refine wpG_val (v := .agg (spanC (sideF f n k) (sideN n k)).toArray) rfl rfl (fun u hu => index_op Tryd.underlying83 aggSpan HK.out HIX.out u rfl rfl) ?_ hw10; intro K hK; go_big_quiet_op; go_big_quiet_on)
          clear hone hw10
          refine wpG_nil ?_
          refine (hOp_fresh (R := fun x N => ∃ g, x = .pointer (some ⟨g, 0, none⟩) ∧ N = [(g, Obj.cells #[ii 0, ii 0] 82 (0, 0))]) (M0 := [(gs, Obj.cells (sumsC (sideR L f n 0) (sideR L f n 1) k) 70 (0, 0)), (w.heap.size + 1, Obj.cells (arrB 32 []) 24 (0, 0)), (w.heap.size, Obj.cells (spanC f n).toArray 82 (0, 0)), (bl, bxL A m c), (bw, bxR bl bw bn), (bn, bxN)]) rfl rfl (fun _ h => h) (fun u hu => FAt_new (new_span _) u) ?_)
          rintro x N ⟨g8, rfl, rfl⟩ hf he11; intro K' hK'; go_big_quiet_op; go_big_quiet_on
          have HG8 := Lib.hid (hf _ (List.mem_singleton.2 rfl))
          clear hf
          change lexH _ _ _ _ _ _ [(g8, Obj.cells #[ii 0, ii 0] 82 (0, 0)), (gs, Obj.cells (sumsC (sideR L f n 0) (sideR L f n 1) k) 70 (0, 0)), (w.heap.size + 1, Obj.cells (arrB 32 []) 24 (0, 0)), (w.heap.size, Obj.cells (spanC f n).toArray 82 (0, 0)), (bl, bxL A m c), (bw, bxR bl bw bn), (bn, bxN)]
          refine lexH_phase [3] [4] ?_
          have hw12 : EnvX w _ [(g8, Obj.cells #[ii 0, ii 0] 82 (0, 0)), (gs, Obj.cells (sumsC (sideR L f n 0) (sideR L f n 1) k) 70 (0, 0)), (w.heap.size + 1, Obj.cells (arrB 32 []) 24 (0, 0)), (w.heap.size, Obj.cells (spanC f n).toArray 82 (0, 0)), (bl, bxL A m c), (bw, bxR bl bw bn), (bn, bxN)] := he11.choose_spec
          have hone := @EnvC.one _ _ _ hw12
          (refine wpG_op rfl rfl rfl ?_; intro K hK; go_big_quiet_op; go_big_quiet_on)
          clear hone hw12
          refine wpG_nil ?_
          refine (hOp_store rfl (g8) ((spanC (sideF f n k) (sideN n k)).toArray) rfl rfl HG8.out.1 82 (#[ii 0, ii 0]) (List.Mem.head _) info_span rfl (by kernel_rfl) [(g8, Obj.cells ((spanC (sideF f n k) (sideN n k)).toArray) 82 (0, 0)), (gs, Obj.cells (sumsC (sideR L f n 0) (sideR L f n 1) k) 70 (0, 0)), (w.heap.size + 1, Obj.cells (arrB 32 []) 24 (0, 0)), (w.heap.size, Obj.cells (spanC f n).toArray 82 (0, 0)), (bl, bxL A m c), (bw, bxR bl bw bn), (bn, bxN)] (List.forall_mem_cons.2 ⟨.inl rfl, fun y hy => .inr ⟨List.mem_cons_of_mem _ hy, HG8.out.2 y hy⟩⟩) ?_)
          intro he13
          intro u15 E2'
          have EX14 := Lib.hid E2'
          clear E2'
          go_upto_region 7 with (fail)
          refine wp_region_Hx (w0 := w) [0, 1, 2, 3, 4, 5] [(g8, Obj.cells ((spanC (sideF f n k) (sideN n k)).toArray) 82 (0, 0)), (gs, Obj.cells (sumsC (sideR L f n 0) (sideR L f n 1) k) 70 (0, 0)), (w.heap.size + 1, Obj.cells (arrB 32 []) 24 (0, 0)), (w.heap.size, Obj.cells (spanC f n).toArray 82 (0, 0)), (bl, bxL A m c), (bw, bxR bl bw bn), (bn, bxN)] rfl EX14.out ?_
          refine lexH_phase [0, 1, 2, 3, 4] [5] ?_
          have hw16 : EnvX w _ [(g8, Obj.cells ((spanC (sideF f n k) (sideN n k)).toArray) 82 (0, 0)), (gs, Obj.cells (sumsC (sideR L f n 0) (sideR L f n 1) k) 70 (0, 0)), (w.heap.size + 1, Obj.cells (arrB 32 []) 24 (0, 0)), (w.heap.size, Obj.cells (spanC f n).toArray 82 (0, 0)), (bl, bxL A m c), (bw, bxR bl bw bn), (bn, bxN)] := EX14.out
          have hone := @EnvC.one _ _ _ hw16
          (refine wpG_op rfl rfl rfl ?_; intro K hK; go_big_quiet_op; go_big_quiet_on)
          (refine wpG_val (v := r1V bl bw bn) rfl rfl (fun u hu => load_any_op u (run_load_one oneFnR u (box_cell (k := 0) hu (List.Mem.tail _ (List.Mem.tail _ (List.Mem.tail _ (List.Mem.tail _ (List.Mem.tail _ (List.Mem.head _)))))) rfl)) rfl) ?_ hw16; intro K hK; go_big_quiet_op; go_big_quiet_on)
          (refine wpG_val (v := .agg (spanC (sideF f n k) (sideN n k)).toArray) rfl rfl (fun u hu => load_any_op u (box_agg aggSpan (k := 0) hu (List.Mem.head _) (spanC (sideF f n k) (sideN n k)) rfl rfl) rfl) ?_ hw16; intro K hK; go_big_quiet_op; go_big_quiet_on)
          (refine wpG_callV (f := 65) (args := #[.agg (spanC (sideF f n k) (sideN n k)).toArray]) (caps := #[ptr bl, ptr bw, ptr bn]) (all := #[.agg (spanC (sideF f n k) (sideN n k)).toArray, ptr bl, ptr bw, ptr bn]) (v := idv (sideR L f n k)) rfl rfl rfl rfl rfl Tryd.func65 rfl rfl (fun u hu => HCK.out u (EnvX.sub hu (fun y hy => List.mem_cons_of_mem _ (List.mem_cons_of_mem _ (List.mem_cons_of_mem _ (List.mem_cons_of_mem _ hy)))))) ?_ hw16; intro K hK; go_big_quiet_op; go_big_quiet_on)
          (refine wpG_val (v := .pointer (some ⟨gs, 0 + k * 32, none⟩)) rfl rfl (fun u hu => idxArr_op Tryd.underlying70 aggId.size HK.out u rfl rfl) ?_ hw16; intro K hK; go_big_quiet_op; go_big_quiet_on)
          clear hone hw16
          refine wpG_nil ?_
          refine (hOp_putAt rfl (gs) (0 + k * 32) (idv (sideR L f n k)) rfl rfl HGS.out.1 70 (sumsC (sideR L f n 0) (sideR L f n 1) k) (sumsC (sideR L f n 0) (sideR L f n 1) (k + 1)) (List.Mem.tail _ (List.Mem.head _)) (info26 _ (arrB_size _ _ (by rw [HRK.out]; omega))) (by show 0 + k * 32 + (arrB 32 (sideR L f n k)).size ≤ _; rw [HSK.out, arrB_size _ _ (by rw [HRK.out]; omega)]; have := HK32.out; omega) (arrB_one _ _) (by rw [Nat.zero_add]; exact HSTK.out) [(gs, Obj.cells (sumsC (sideR L f n 0) (sideR L f n 1) (k + 1)) 70 (0, 0)), (w.heap.size + 1, Obj.cells (arrB 32 []) 24 (0, 0)), (w.heap.size, Obj.cells (spanC f n).toArray 82 (0, 0)), (bl, bxL A m c), (bw, bxR bl bw bn), (bn, bxN)] (List.forall_mem_cons.2 ⟨.inl rfl, fun y hy => .inr ⟨List.mem_cons_of_mem _ (List.mem_cons_of_mem _ hy), HGS.out.2 y hy⟩⟩) ?_)
          intro he17
          intro u19 E2'
          have EX18 := Lib.hid E2'
          clear E2'
          go_wp2
          go_roundw
          case rel => exact ⟨k + 1, by omega, by go_num, EX18⟩
          case measure => simp [intOf]; omega
        · obtain rfl : k = 2 := by omega
          have EK2 : Hid (EnvX w wr ((gs, Obj.cells (arrB 32 (sideR L f n 0) ++ arrB 32 (sideR L f n 1)) 70 (0, 0)) :: [(w.heap.size + 1, Obj.cells (arrB 32 []) 24 (0, 0)), (w.heap.size, Obj.cells (spanC f n).toArray 82 (0, 0)), (bl, bxL A m c), (bw, bxR bl bw bn), (bn, bxN)])) := EK
          have HP2 := Lib.hid (pair_at (idA_cells (HRID.out 0).1) (idA_cells (HRID.out 1).1))
          go_upto_region 9 with (fail)
          refine wp_region_Hx (w0 := w) [0, 1, 2, 3, 4, 5, 6] [(gs, Obj.cells (arrB 32 (sideR L f n 0) ++ arrB 32 (sideR L f n 1)) 70 (0, 0)), (w.heap.size + 1, Obj.cells (arrB 32 []) 24 (0, 0)), (w.heap.size, Obj.cells (spanC f n).toArray 82 (0, 0)), (bl, bxL A m c), (bw, bxR bl bw bn), (bn, bxN)] rfl EK2.out ?_
          refine lexH_phase [0, 1, 2, 3, 4, 5] [6] ?_
          have hw20 : EnvX w _ [(gs, Obj.cells (arrB 32 (sideR L f n 0) ++ arrB 32 (sideR L f n 1)) 70 (0, 0)), (w.heap.size + 1, Obj.cells (arrB 32 []) 24 (0, 0)), (w.heap.size, Obj.cells (spanC f n).toArray 82 (0, 0)), (bl, bxL A m c), (bw, bxR bl bw bn), (bn, bxN)] := EK2.out
          have hone := @EnvC.one _ _ _ hw20
          (refine wpG_val (v := ndV) rfl rfl (fun u hu => load_any_op u (run_load_one oneJoin u (box_cell (k := 0) hu (List.Mem.tail _ (List.Mem.tail _ (List.Mem.tail _ (List.Mem.tail _ (List.Mem.tail _ (List.Mem.head _)))))) rfl)) rfl) ?_ hw20; intro K hK; go_big_quiet_op; go_big_quiet_on)
          (refine wpG_val (v := .pointer (some ⟨gs, 0 + 0 * 32, none⟩)) rfl rfl (fun u hu => idxArr_op (i := 0) Tryd.underlying70 aggId.size (by decide) u rfl rfl) ?_ hw20; intro K hK; go_big_quiet_op; go_big_quiet_on)
          (refine wpG_val (v := idv (sideR L f n 0)) rfl rfl (fun u hu => load_any_op u (box_idAt (HRID.out 0).1 hu (List.Mem.head _) HP2.out.1) rfl) ?_ hw20; intro K hK; go_big_quiet_op; go_big_quiet_on)
          (refine wpG_val (v := .pointer (some ⟨gs, 0 + 1 * 32, none⟩)) rfl rfl (fun u hu => idxArr_op (i := 1) Tryd.underlying70 aggId.size (by decide) u rfl rfl) ?_ hw20; intro K hK; go_big_quiet_op; go_big_quiet_on)
          (refine wpG_val (v := idv (sideR L f n 1)) rfl rfl (fun u hu => load_any_op u (box_idAt (HRID.out 1).1 hu (List.Mem.head _) HP2.out.2) rfl) ?_ hw20; intro K hK; go_big_quiet_op; go_big_quiet_on)
          (refine wpG_callV (f := 38) (args := #[idv (sideR L f n 0), idv (sideR L f n 1)]) (caps := #[]) (all := #[idv (sideR L f n 0), idv (sideR L f n 1)]) (v := idv (rootT ((L.drop f).take n))) rfl rfl rfl rfl rfl Tryd.func38 rfl rfl (fun u hu => HND.out u (EnvX.sub hu (fun _ h => by cases h))) ?_ hw20; intro K hK; go_big_quiet_op; go_big_quiet_on)
          clear hone hw20
          refine wpG_nil ?_
          refine (hOp_store rfl (w.heap.size + 1) (arrB 32 (rootT ((L.drop f).take n))) rfl rfl HLE.out 24 ((arrB 32 [])) (List.Mem.tail _ (List.Mem.head _)) (info26 _ (arrB_size _ _ (by exact HNL.out))) ((arrB_size _ _ (by simp)).trans (arrB_size _ _ (by exact HNL.out)).symm) (arrB_one _ _) [(w.heap.size + 1, Obj.cells (arrB 32 (rootT ((L.drop f).take n))) 24 (0, 0))] (List.forall_mem_cons.2 ⟨.inl rfl, (fun _ h => by cases h)⟩) ?_)
          intro he21
          intro u23 E2'
          have EX22 := Lib.hid E2'
          clear E2'
          have hsz : Hid ((arrB 32 (rootT ((L.drop f).take n))).size = 32) := arrB_size _ _ HNL.out
          have Q0 := Lib.hid (EnvX.box EX22.out _ _ (List.Mem.head _))
          have HBEL := Lib.hid EX22.out.bel
          clear EX22
          unfold idv
          generalize hcn : arrB 32 (rootT ((L.drop f).take n)) = cn at *
          have HCN := Lib.hid hcn
          clear hcn
          go_wp2_with ((with_reducible refine bodyPost_ret (v := .agg cn) ?_ ?_ ?_); (exact results_cell_row (p := 5) (ty := 24) Tryd.results65 _ _ (w.heap.size + 1) 24 cn (0, 0) _ rfl Q0.out Tryd.underlying24 rfl (info26 cn hsz.out)); (rfl))
          first | exact HBEL.out | exact ⟨rfl, HBEL.out⟩ | exact ⟨by unfold idv; rw [HCN.out], HBEL.out⟩
end Go.Proofs.YtbjojpgedcikiaaDoor
