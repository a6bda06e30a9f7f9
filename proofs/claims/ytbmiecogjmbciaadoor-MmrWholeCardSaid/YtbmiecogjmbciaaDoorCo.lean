/- Part of a proof. -/
import Derived.Test.YtbmiecogjmbciaaDoorCn
namespace Go.Proofs.YtbmiecogjmbciaaDoor
set_option maxRecDepth 8000
open Go.RowKit

/-- two whole results -/
theorem results_two_rows {P : Program} {fn : Func} {p p' : Tmp} {ty : TypeId} (h : fn.results = #[.cell p ty, .cell p' ty]) (tmps : Array Value) (w : World) (g g' : Nat) (t : TypeId) (cs cs' : Array Value) (fr : Nat × Nat) (d : TypeDesc)
    (hp : tmps.getD p undef = .pointer (some ⟨g, 0, none⟩)) (hp' : tmps.getD p' undef = .pointer (some ⟨g', 0, none⟩)) (hg : w.heap[g]? = some (.cells cs t fr)) (hg' : w.heap[g']? = some (.cells cs' t fr))
    (hu : P.underlying ty = some d) (hd : (match d with | .struct _ | .array _ _ => true | _ => false) = true) (hi : (P.info? ty).map (·.size) = some cs.size) (hi' : (P.info? ty).map (·.size) = some cs'.size) :
    (results fn tmps).run P w = .ok (.tuple #[.agg cs, .agg cs']) w := by
  have hp1 : tmps[p]?.getD undef = .pointer (some ⟨g, 0, none⟩) := by simpa using hp
  have hp2 : tmps[p']?.getD undef = .pointer (some ⟨g', 0, none⟩) := by simpa using hp'
  simp [results, h, hp1, hp2, asAddr, run_loadVar_row w g t ty cs fr d hg hu hd hi, run_loadVar_row w g' t ty cs' fr d hg' hu hd hi']
/-- an operation that only yields a value, wherever it stands -/
theorem FAt_val {P : Program} {o : Oper} {a : Act} {v : Value} {u : World} (h : (execOp a.eval o).run P u = .ok (.value v) u) : FAt P o a (fun x N => x = v ∧ N = []) u := by
  unfold FAt
  rw [h]
  exact ⟨Below.refl _ _, [], ⟨rfl, rfl⟩, fun y hy => by cases hy⟩
theorem wide_load {a : Act} {dst : Option Tmp} {x : Operand} {ty : TypeId} {pos : String} {after : Array Edge} {gd : Option (Nat × Bool)} {ad : Addr} {n : Nat} (u : World) (hr : (loadVar 27 ad).run Tryd.prog u = .ok (.agg (wcs n).toList.toArray) u) (hx : a.eval x = .pointer (some ad)) :
    (execOp a.eval ⟨dst, .load 27 x, ty, pos, after, gd⟩).run Tryd.prog u = .ok (.value (.agg (wcs n))) u := by
  rw [agg_list] at hr
  exact load_any_op u hr hx
def stA (a b c d : Nat) (o : Tot) : Array Value := ([ii a, ii b, ii c, ii d] ++ totC o).toArray
theorem stA_size {a b c d : Nat} {o : Tot} (h : len32 o) : (stA a b c d o).size = 41 := by
  unfold stA
  rw [List.size_toArray, List.length_append, totC_len h]
  rfl
theorem stA_one (a b c d : Nat) (o : Tot) : (stA a b c d o).all (·.oneCell') = true := Array.all_eq_true_iff_forall_mem.2 (fun u hu => by
  unfold stA at hu
  rcases List.mem_append.1 (List.mem_toArray.1 hu) with h | h
  · simp only [List.mem_cons, List.not_mem_nil, or_false] at h
    rcases h with rfl | rfl | rfl | rfl <;> rfl
  · exact totC_one o u h)
theorem stA_tot {a b c d : Nat} {o : Tot} (h : len32 o) : ((stA a b c d o).toList.drop (0 + 4)).take 37 = totC o := by
  show (totC o).take 37 = _
  exact List.take_of_length_le (by rw [totC_len h]; exact Nat.le_refl _)
theorem stA_W {a b c d : Nat} {o : Tot} (h : len32 o) : ((stA a b c d o).toList.drop (0 + 4 + 32)).take 4 = (wcs o.w).toList := by
  show ((totC o).drop 32).take 4 = _
  exact totC_W h
theorem stA_N {a b c d : Nat} {o : Tot} (h : len32 o) : (stA a b c d o)[0 + 4 + 36]? = some (.int .i64 o.n) := by
  have := totC_N h
  unfold totA at this
  rw [List.getElem?_toArray] at this
  unfold stA
  rw [List.getElem?_toArray]
  exact this
theorem built_step {a b c d : Nat} {o : Tot} (h : len32 o) : Tryd.prog.built 63 [(0, .agg #[ii a, ii b, ii c, ii d]), (1, .agg (totA o))] = some (stA a b c d o) := by
  have hs := totA_size h
  have e : cellsOfP [(0, .agg #[ii a, ii b, ii c, ii d]), (1, .agg (totA o))] = [ii a, ii b, ii c, ii d] ++ totC o := by simp [cellsOfP, Value.cells, totA]
  have := built_struct (t := 63) (n := 41) Tryd.underlying63 (by kernel_rfl) (places := [(0, 4), (4, 37)]) (by kernel_rfl) (ps := [(0, .agg #[ii a, ii b, ii c, ii d]), (1, .agg (totA o))]) (by
    refine ⟨rfl, ?_, trivial⟩
    show some (4, 37) = some (0 + 4, (totA o).size)
    rw [hs]) (by rw [e, List.length_append, totC_len h]; rfl)
  rw [this, e]
  rfl
theorem zero_step : (#[Value.int .i64 0, Value.int .i64 0, Value.int .i64 0, Value.int .i64 0, Value.int .u8 0, Value.int .u8 0, Value.int .u8 0, Value.int .u8 0, Value.int .u8 0, Value.int .u8 0, Value.int .u8 0, Value.int .u8 0, Value.int .u8 0, Value.int .u8 0, Value.int .u8 0, Value.int .u8 0, Value.int .u8 0, Value.int .u8 0, Value.int .u8 0, Value.int .u8 0, Value.int .u8 0, Value.int .u8 0, Value.int .u8 0, Value.int .u8 0, Value.int .u8 0, Value.int .u8 0, Value.int .u8 0, Value.int .u8 0, Value.int .u8 0, Value.int .u8 0, Value.int .u8 0, Value.int .u8 0, Value.int .u8 0, Value.int .u8 0, Value.int .u8 0, Value.int .u8 0, Value.int .u64 0, Value.int .u64 0, Value.int .u64 0, Value.int .u64 0, Value.int .i64 0] : Array Value) = stA 0 0 0 0 zTot := by kernel_rfl
theorem new_step {dst : Option Tmp} {ty : TypeId} {pos : String} {after : Array Edge} {gd : Option (Nat × Bool)} (a : Act) : NewAt Tryd.prog ⟨dst, .alloc 63, ty, pos, after, gd⟩ a (.cells (stA 0 0 0 0 zTot) 63 (0, 0)) := fun u => by
  rw [← zero_step]
  go_simp
theorem infoStep (cs : Array Value) (h : cs.size = 41) : (Tryd.prog.info? 63).map (·.size) = some cs.size := by rw [h]; exact aggMStep.size
set_option maxRecDepth 20000 in
set_option maxHeartbeats 4000000 in
theorem mright_any (a b c d : Nat) (w : World) :
    Calls Tryd.prog 58 #[.agg #[ii a, ii b, ii c, ii d]] w fun e w' => e = .returned (.bool (decide (c < a))) ∧ Below w.heap.size w w' := by
  have HD : Hid (decide ((c : Int) < (a : Int)) = decide (c < a)) := decide_eq_decide.2 (by omega)
  have E1 : Hid (EnvX w (w.alloc (.cells (#[ii a, ii b, ii c, ii d]) 60)) [(w.heap.size, Obj.cells (#[ii a, ii b, ii c, ii d]) 60 (0, 0))]) := (EnvX.start w).new _
  go_enter Tryd.func58, Tryd.ntmps58
  go_upto_region 1 with (fail)
  change Code.wp _ _ _ _ (w.alloc (.cells (#[ii a, ii b, ii c, ii d]) 60))
  generalize w.alloc (.cells (#[ii a, ii b, ii c, ii d]) 60) = W at *
  refine wp_region_Hx (w0 := w) [0, 1, 2, 3, 4, 5, 6, 7] [(w.heap.size, Obj.cells (#[ii a, ii b, ii c, ii d]) 60 (0, 0))] rfl E1.out ?_
  refine lexH_phase [0, 1, 2, 3, 4, 5, 6, 7] [] ?_
  have hw1 : EnvX w _ [(w.heap.size, Obj.cells (#[ii a, ii b, ii c, ii d]) 60 (0, 0))] := E1.out
  have hone := @EnvC.one _ _ _ hw1
  (refine wpG_val (v := .pointer (some ⟨w.heap.size, 0 + 2, none⟩)) rfl rfl (fun u hu => fieldSd_op (k := 1) (off := 2) rfl u rfl) ?_ hw1; intro K hK; go_big_quiet_op; go_big_quiet_on)
  (refine wpG_val (v := .pointer (some ⟨w.heap.size, 0 + 2 + 0, none⟩)) rfl rfl (fun u hu => fieldSp_op (k := 0) (off := 0) rfl u rfl) ?_ hw1; intro K hK; go_big_quiet_op; go_big_quiet_on)
  (refine wpG_val (v := ii c) rfl rfl (fun u hu => load_any_op u (run_load_one oneInt u (box_cell (k := 0 + 2 + 0) hu (List.Mem.head _) rfl)) rfl) ?_ hw1; intro K hK; go_big_quiet_op; go_big_quiet_on)
  (refine wpG_val (v := .pointer (some ⟨w.heap.size, 0 + 0, none⟩)) rfl rfl (fun u hu => fieldSd_op (k := 0) (off := 0) rfl u rfl) ?_ hw1; intro K hK; go_big_quiet_op; go_big_quiet_on)
  (refine wpG_val (v := .pointer (some ⟨w.heap.size, 0 + 0 + 0, none⟩)) rfl rfl (fun u hu => fieldSp_op (k := 0) (off := 0) rfl u rfl) ?_ hw1; intro K hK; go_big_quiet_op; go_big_quiet_on)
  (refine wpG_val (v := ii a) rfl rfl (fun u hu => load_any_op u (run_load_one oneInt u (box_cell (k := 0 + 0 + 0) hu (List.Mem.head _) rfl)) rfl) ?_ hw1; intro K hK; go_big_quiet_op; go_big_quiet_on)
  (refine wpG_val (v := .bool (decide (c < a))) rfl rfl (fun u hu => lssI_op u HD.out rfl rfl) ?_ hw1; intro K hK; go_big_quiet_op; go_big_quiet_on)
  (refine wpG_op rfl rfl rfl ?_; intro K hK; go_big_quiet_op; go_big_quiet_on)
  clear hone hw1
  refine wpG_nil ?_
  intro u3 E2'
  have EX2 := Lib.hid E2'
  clear E2'
  go_wp2
  go_ret
  exact ⟨rfl, EnvX.bel EX2.out⟩
set_option maxRecDepth 20000 in
set_option maxHeartbeats 4000000 in
theorem morder_true (a b c d : Nat) (s t : Tot) (w : World) (hs : okT s) (ht : okT t) (h : c < a) :
    Calls Tryd.prog 57 #[.agg #[ii a, ii b, ii c, ii d], .agg (totA s), .agg (totA t)] w fun e w' => e = .returned (.tuple #[.agg (totA t), .agg (totA s)]) ∧ Below w.heap.size w w' := by
  have HS := Lib.hid hs
  have HT := Lib.hid ht
  have HR : Hid (∀ u, Calls Tryd.prog 58 #[.agg #[ii a, ii b, ii c, ii d]] u fun e w' => e = .returned (.bool true) ∧ Below u.heap.size u w') := fun u => by
    have k := mright_any a b c d u
    rwa [decide_eq_true h] at k
  clear hs ht h
  have E1 : Hid (EnvX w (((((w.alloc (.cells (#[ii a, ii b, ii c, ii d]) 60)).alloc (.cells (totA s) 29)).alloc (.cells (totA t) 29)).alloc (.cells (totA zTot) 29)).alloc (.cells (totA zTot) 29)) [(w.heap.size + 1 + 1 + 1 + 1, Obj.cells (totA zTot) 29 (0, 0)), (w.heap.size + 1 + 1 + 1, Obj.cells (totA zTot) 29 (0, 0)), (w.heap.size + 1 + 1, Obj.cells (totA t) 29 (0, 0)), (w.heap.size + 1, Obj.cells (totA s) 29 (0, 0)), (w.heap.size, Obj.cells (#[ii a, ii b, ii c, ii d]) 60 (0, 0))]) := EnvX.five _ _ _ _ _
  go_enter Tryd.func57, Tryd.ntmps57
  go_upto_region 1 with (fail)
  rw [zero_totA]
  change Code.wp _ _ _ _ (((((w.alloc (.cells (#[ii a, ii b, ii c, ii d]) 60)).alloc (.cells (totA s) 29)).alloc (.cells (totA t) 29)).alloc (.cells (totA zTot) 29)).alloc (.cells (totA zTot) 29))
  generalize ((((w.alloc (.cells (#[ii a, ii b, ii c, ii d]) 60)).alloc (.cells (totA s) 29)).alloc (.cells (totA t) 29)).alloc (.cells (totA zTot) 29)).alloc (.cells (totA zTot) 29) = W at *
  refine wp_region_Hx (w0 := w) [0, 1] [(w.heap.size + 1 + 1 + 1 + 1, Obj.cells (totA zTot) 29 (0, 0)), (w.heap.size + 1 + 1 + 1, Obj.cells (totA zTot) 29 (0, 0)), (w.heap.size + 1 + 1, Obj.cells (totA t) 29 (0, 0)), (w.heap.size + 1, Obj.cells (totA s) 29 (0, 0)), (w.heap.size, Obj.cells (#[ii a, ii b, ii c, ii d]) 60 (0, 0))] rfl E1.out ?_
  refine lexH_phase [0, 1] [] ?_
  have hw1 : EnvX w _ [(w.heap.size + 1 + 1 + 1 + 1, Obj.cells (totA zTot) 29 (0, 0)), (w.heap.size + 1 + 1 + 1, Obj.cells (totA zTot) 29 (0, 0)), (w.heap.size + 1 + 1, Obj.cells (totA t) 29 (0, 0)), (w.heap.size + 1, Obj.cells (totA s) 29 (0, 0)), (w.heap.size, Obj.cells (#[ii a, ii b, ii c, ii d]) 60 (0, 0))] := E1.out
  have hone := @EnvC.one _ _ _ hw1
  (refine wpG_val (v := .agg #[ii a, ii b, ii c, ii d]) rfl rfl (fun u hu => load_any_op u (box_agg aggMSides (k := 0) hu (List.Mem.tail _ (List.Mem.tail _ (List.Mem.tail _ (List.Mem.tail _ (List.Mem.head _))))) [ii a, ii b, ii c, ii d] rfl rfl) rfl) ?_ hw1; intro K hK; go_big_quiet_op; go_big_quiet_on)
  (refine wpG_call (f := 58) (args := #[.agg #[ii a, ii b, ii c, ii d]]) (v := .bool true) rfl rfl rfl Tryd.func58 rfl rfl (fun u hu => HR.out u) ?_ hw1; intro K hK; go_big_quiet_op; go_big_quiet_on)
  clear hone hw1
  refine wpG_nil ?_
  intro u3 E2'
  have EX2 := Lib.hid E2'
  clear E2'
  go_upto_region 2 with (fail)
  refine wp_region_H (w0 := w) [(w.heap.size + 1 + 1 + 1 + 1, Obj.cells (totA zTot) 29 (0, 0)), (w.heap.size + 1 + 1 + 1, Obj.cells (totA zTot) 29 (0, 0)), (w.heap.size + 1 + 1, Obj.cells (totA t) 29 (0, 0)), (w.heap.size + 1, Obj.cells (totA s) 29 (0, 0)), (w.heap.size, Obj.cells (#[ii a, ii b, ii c, ii d]) 60 (0, 0))] (by kernel_rfl) EX2.out ?_
  refine anyH_two (i := 0) (j := 1) (by kernel_rfl) ?_ ?_
  · skip
    refine (hOp_fresh (R := fun x N => x = .agg (totA t) ∧ N = []) (M0 := [(w.heap.size + 1 + 1 + 1 + 1, Obj.cells (totA zTot) 29 (0, 0)), (w.heap.size + 1 + 1 + 1, Obj.cells (totA zTot) 29 (0, 0)), (w.heap.size + 1 + 1, Obj.cells (totA t) 29 (0, 0)), (w.heap.size + 1, Obj.cells (totA s) 29 (0, 0)), (w.heap.size, Obj.cells (#[ii a, ii b, ii c, ii d]) 60 (0, 0))]) rfl rfl (fun _ h => h) (fun u hu => FAt_val (load_any_op u (box_tot hu (List.Mem.tail _ (List.Mem.tail _ (List.Mem.head _))) HT.out.len) rfl)) ?_)
    rintro x N ⟨rfl, rfl⟩ hf he4; intro K' hK'; go_big_quiet_op; go_big_quiet_on
    clear hf
    change anyH _ _ _ _ _ _ _ _ [(w.heap.size + 1 + 1 + 1 + 1, Obj.cells (totA zTot) 29 (0, 0)), (w.heap.size + 1 + 1 + 1, Obj.cells (totA zTot) 29 (0, 0)), (w.heap.size + 1 + 1, Obj.cells (totA t) 29 (0, 0)), (w.heap.size + 1, Obj.cells (totA s) 29 (0, 0)), (w.heap.size, Obj.cells (#[ii a, ii b, ii c, ii d]) 60 (0, 0))]
    refine anyH_two (i := 1) (j := 2) (by kernel_rfl) ?_ ?_
    · skip
      refine (hOp_fresh (R := fun x N => x = .agg (totA s) ∧ N = []) (M0 := [(w.heap.size + 1 + 1 + 1 + 1, Obj.cells (totA zTot) 29 (0, 0)), (w.heap.size + 1 + 1 + 1, Obj.cells (totA zTot) 29 (0, 0)), (w.heap.size + 1 + 1, Obj.cells (totA t) 29 (0, 0)), (w.heap.size + 1, Obj.cells (totA s) 29 (0, 0)), (w.heap.size, Obj.cells (#[ii a, ii b, ii c, ii d]) 60 (0, 0))]) rfl rfl (fun _ h => h) (fun u hu => FAt_val (load_any_op u (box_tot hu (List.Mem.tail _ (List.Mem.tail _ (List.Mem.tail _ (List.Mem.head _)))) HS.out.len) rfl)) ?_)
      rintro x N ⟨rfl, rfl⟩ hf he5; intro K' hK'; go_big_quiet_op; go_big_quiet_on
      clear hf
      change anyH _ _ _ _ _ _ _ _ [(w.heap.size + 1 + 1 + 1 + 1, Obj.cells (totA zTot) 29 (0, 0)), (w.heap.size + 1 + 1 + 1, Obj.cells (totA zTot) 29 (0, 0)), (w.heap.size + 1 + 1, Obj.cells (totA t) 29 (0, 0)), (w.heap.size + 1, Obj.cells (totA s) 29 (0, 0)), (w.heap.size, Obj.cells (#[ii a, ii b, ii c, ii d]) 60 (0, 0))]
      refine anyH_one (i := 2) (by kernel_rfl) (hOp_store rfl (w.heap.size + 1 + 1 + 1) (totA t) rfl rfl (by omega) 29 ((totA zTot)) (List.Mem.tail _ (List.Mem.head _)) (infoTot _ (totA_size HT.out.len)) (zTot_size.trans (totA_size HT.out.len).symm) (totA_one _) [(w.heap.size + 1 + 1 + 1, Obj.cells (totA t) 29 (0, 0)), (w.heap.size + 1 + 1 + 1 + 1, Obj.cells (totA zTot) 29 (0, 0)), (w.heap.size + 1 + 1, Obj.cells (totA t) 29 (0, 0)), (w.heap.size + 1, Obj.cells (totA s) 29 (0, 0)), (w.heap.size, Obj.cells (#[ii a, ii b, ii c, ii d]) 60 (0, 0))] (List.forall_mem_cons.2 ⟨.inl rfl, List.forall_mem_cons.2 ⟨.inr ⟨(List.Mem.head _), by show ¬ (w.heap.size + 1 + 1 + 1 + 1) = (w.heap.size + 1 + 1 + 1); omega⟩, List.forall_mem_cons.2 ⟨.inr ⟨(List.Mem.tail _ (List.Mem.tail _ (List.Mem.head _))), by show ¬ (w.heap.size + 1 + 1) = (w.heap.size + 1 + 1 + 1); omega⟩, List.forall_mem_cons.2 ⟨.inr ⟨(List.Mem.tail _ (List.Mem.tail _ (List.Mem.tail _ (List.Mem.head _)))), by show ¬ (w.heap.size + 1) = (w.heap.size + 1 + 1 + 1); omega⟩, List.forall_mem_cons.2 ⟨.inr ⟨(List.Mem.tail _ (List.Mem.tail _ (List.Mem.tail _ (List.Mem.tail _ (List.Mem.head _))))), by show ¬ (w.heap.size) = (w.heap.size + 1 + 1 + 1); omega⟩, fun _ h => by cases h⟩⟩⟩⟩⟩) ?_)
      intro he6
      refine anyH_one (i := 3) (by kernel_rfl) (hOp_store rfl (w.heap.size + 1 + 1 + 1 + 1) (totA s) rfl rfl (by omega) 29 ((totA zTot)) (List.Mem.tail _ (List.Mem.head _)) (infoTot _ (totA_size HS.out.len)) (zTot_size.trans (totA_size HS.out.len).symm) (totA_one _) [(w.heap.size + 1 + 1 + 1 + 1, Obj.cells (totA s) 29 (0, 0)), (w.heap.size + 1 + 1 + 1, Obj.cells (totA t) 29 (0, 0)), (w.heap.size + 1 + 1, Obj.cells (totA t) 29 (0, 0)), (w.heap.size + 1, Obj.cells (totA s) 29 (0, 0)), (w.heap.size, Obj.cells (#[ii a, ii b, ii c, ii d]) 60 (0, 0))] (List.forall_mem_cons.2 ⟨.inl rfl, List.forall_mem_cons.2 ⟨.inr ⟨(List.Mem.head _), by show ¬ (w.heap.size + 1 + 1 + 1) = (w.heap.size + 1 + 1 + 1 + 1); omega⟩, List.forall_mem_cons.2 ⟨.inr ⟨(List.Mem.tail _ (List.Mem.tail _ (List.Mem.head _))), by show ¬ (w.heap.size + 1 + 1) = (w.heap.size + 1 + 1 + 1 + 1); omega⟩, List.forall_mem_cons.2 ⟨.inr ⟨(List.Mem.tail _ (List.Mem.tail _ (List.Mem.tail _ (List.Mem.head _)))), by show ¬ (w.heap.size + 1) = (w.heap.size + 1 + 1 + 1 + 1); omega⟩, List.forall_mem_cons.2 ⟨.inr ⟨(List.Mem.tail _ (List.Mem.tail _ (List.Mem.tail _ (List.Mem.tail _ (List.Mem.head _))))), by show ¬ (w.heap.size) = (w.heap.size + 1 + 1 + 1 + 1); omega⟩, fun _ h => by cases h⟩⟩⟩⟩⟩) ?_)
      intro he7
      refine anyH_done (by kernel_rfl) ?_
      intro u9 E2'
      have EX8 := Lib.hid E2'
      clear E2'
      have Q0 := Lib.hid (EnvX.box EX8.out _ _ (List.Mem.tail _ (List.Mem.head _)))
      have Q1 := Lib.hid (EnvX.box EX8.out _ _ (List.Mem.head _))
      have HBEL := Lib.hid EX8.out.bel
      clear EX8
      go_wp2_with ((with_reducible refine bodyPost_ret (v := .tuple #[.agg (totA t), .agg (totA s)]) ?_ ?_ ?_); (exact results_two_rows (p := 6) (p' := 7) (ty := 29) Tryd.results57 _ _ (w.heap.size + 1 + 1 + 1) (w.heap.size + 1 + 1 + 1 + 1) 29 (totA t) (totA s) (0, 0) _ rfl rfl Q0.out Q1.out Tryd.underlying29 rfl (infoTot _ (totA_size HT.out.len)) (infoTot _ (totA_size HS.out.len))); (rfl))
      first | exact HBEL.out | exact ⟨rfl, HBEL.out⟩
    · skip
      refine (hOp_store rfl (w.heap.size + 1 + 1 + 1) (totA t) rfl rfl (by omega) 29 ((totA zTot)) (List.Mem.tail _ (List.Mem.head _)) (infoTot _ (totA_size HT.out.len)) (zTot_size.trans (totA_size HT.out.len).symm) (totA_one _) [(w.heap.size + 1 + 1 + 1, Obj.cells (totA t) 29 (0, 0)), (w.heap.size + 1 + 1 + 1 + 1, Obj.cells (totA zTot) 29 (0, 0)), (w.heap.size + 1 + 1, Obj.cells (totA t) 29 (0, 0)), (w.heap.size + 1, Obj.cells (totA s) 29 (0, 0)), (w.heap.size, Obj.cells (#[ii a, ii b, ii c, ii d]) 60 (0, 0))] (List.forall_mem_cons.2 ⟨.inl rfl, List.forall_mem_cons.2 ⟨.inr ⟨(List.Mem.head _), by show ¬ (w.heap.size + 1 + 1 + 1 + 1) = (w.heap.size + 1 + 1 + 1); omega⟩, List.forall_mem_cons.2 ⟨.inr ⟨(List.Mem.tail _ (List.Mem.tail _ (List.Mem.head _))), by show ¬ (w.heap.size + 1 + 1) = (w.heap.size + 1 + 1 + 1); omega⟩, List.forall_mem_cons.2 ⟨.inr ⟨(List.Mem.tail _ (List.Mem.tail _ (List.Mem.tail _ (List.Mem.head _)))), by show ¬ (w.heap.size + 1) = (w.heap.size + 1 + 1 + 1); omega⟩, List.forall_mem_cons.2 ⟨.inr ⟨(List.Mem.tail _ (List.Mem.tail _ (List.Mem.tail _ (List.Mem.tail _ (List.Mem.head _))))), by show ¬ (w.heap.size) = (w.heap.size + 1 + 1 + 1); omega⟩, fun _ h => by cases h⟩⟩⟩⟩⟩) ?_)
      intro he10
      refine anyH_one (i := 1) (by kernel_rfl) (hOp_fresh (R := fun x N => x = .agg (totA s) ∧ N = []) (M0 := [(w.heap.size + 1 + 1 + 1, Obj.cells (totA t) 29 (0, 0)), (w.heap.size + 1 + 1 + 1 + 1, Obj.cells (totA zTot) 29 (0, 0)), (w.heap.size + 1 + 1, Obj.cells (totA t) 29 (0, 0)), (w.heap.size + 1, Obj.cells (totA s) 29 (0, 0)), (w.heap.size, Obj.cells (#[ii a, ii b, ii c, ii d]) 60 (0, 0))]) rfl rfl (fun _ h => h) (fun u hu => FAt_val (load_any_op u (box_tot hu (List.Mem.tail _ (List.Mem.tail _ (List.Mem.tail _ (List.Mem.head _)))) HS.out.len) rfl)) ?_)
      rintro x N ⟨rfl, rfl⟩ hf he11; intro K' hK'; go_big_quiet_op; go_big_quiet_on
      clear hf
      change anyH _ _ _ _ _ _ _ _ [(w.heap.size + 1 + 1 + 1, Obj.cells (totA t) 29 (0, 0)), (w.heap.size + 1 + 1 + 1 + 1, Obj.cells (totA zTot) 29 (0, 0)), (w.heap.size + 1 + 1, Obj.cells (totA t) 29 (0, 0)), (w.heap.size + 1, Obj.cells (totA s) 29 (0, 0)), (w.heap.size, Obj.cells (#[ii a, ii b, ii c, ii d]) 60 (0, 0))]
      refine anyH_one (i := 3) (by kernel_rfl) (hOp_store rfl (w.heap.size + 1 + 1 + 1 + 1) (totA s) rfl rfl (by omega) 29 ((totA zTot)) (List.Mem.tail _ (List.Mem.head _)) (infoTot _ (totA_size HS.out.len)) (zTot_size.trans (totA_size HS.out.len).symm) (totA_one _) [(w.heap.size + 1 + 1 + 1 + 1, Obj.cells (totA s) 29 (0, 0)), (w.heap.size + 1 + 1 + 1, Obj.cells (totA t) 29 (0, 0)), (w.heap.size + 1 + 1, Obj.cells (totA t) 29 (0, 0)), (w.heap.size + 1, Obj.cells (totA s) 29 (0, 0)), (w.heap.size, Obj.cells (#[ii a, ii b, ii c, ii d]) 60 (0, 0))] (List.forall_mem_cons.2 ⟨.inl rfl, List.forall_mem_cons.2 ⟨.inr ⟨(List.Mem.head _), by show ¬ (w.heap.size + 1 + 1 + 1) = (w.heap.size + 1 + 1 + 1 + 1); omega⟩, List.forall_mem_cons.2 ⟨.inr ⟨(List.Mem.tail _ (List.Mem.tail _ (List.Mem.head _))), by show ¬ (w.heap.size + 1 + 1) = (w.heap.size + 1 + 1 + 1 + 1); omega⟩, List.forall_mem_cons.2 ⟨.inr ⟨(List.Mem.tail _ (List.Mem.tail _ (List.Mem.tail _ (List.Mem.head _)))), by show ¬ (w.heap.size + 1) = (w.heap.size + 1 + 1 + 1 + 1); omega⟩, List.forall_mem_cons.2 ⟨.inr ⟨(List.Mem.tail _ (List.Mem.tail _ (List.Mem.tail _ (List.Mem.tail _ (List.Mem.head _))))), by show ¬ (w.heap.size) = (w.heap.size + 1 + 1 + 1 + 1); omega⟩, fun _ h => by cases h⟩⟩⟩⟩⟩) ?_)
      intro he12
      refine anyH_done (by kernel_rfl) ?_
      intro u14 E2'
      have EX13 := Lib.hid E2'
      clear E2'
      have Q0 := Lib.hid (EnvX.box EX13.out _ _ (List.Mem.tail _ (List.Mem.head _)))
      have Q1 := Lib.hid (EnvX.box EX13.out _ _ (List.Mem.head _))
      have HBEL := Lib.hid EX13.out.bel
      clear EX13
      go_wp2_with ((with_reducible refine bodyPost_ret (v := .tuple #[.agg (totA t), .agg (totA s)]) ?_ ?_ ?_); (exact results_two_rows (p := 6) (p' := 7) (ty := 29) Tryd.results57 _ _ (w.heap.size + 1 + 1 + 1) (w.heap.size + 1 + 1 + 1 + 1) 29 (totA t) (totA s) (0, 0) _ rfl rfl Q0.out Q1.out Tryd.underlying29 rfl (infoTot _ (totA_size HT.out.len)) (infoTot _ (totA_size HS.out.len))); (rfl))
      first | exact HBEL.out | exact ⟨rfl, HBEL.out⟩
  · skip
    refine (hOp_fresh (R := fun x N => x = .agg (totA s) ∧ N = []) (M0 := [(w.heap.size + 1 + 1 + 1 + 1, Obj.cells (totA zTot) 29 (0, 0)), (w.heap.size + 1 + 1 + 1, Obj.cells (totA zTot) 29 (0, 0)), (w.heap.size + 1 + 1, Obj.cells (totA t) 29 (0, 0)), (w.heap.size + 1, Obj.cells (totA s) 29 (0, 0)), (w.heap.size, Obj.cells (#[ii a, ii b, ii c, ii d]) 60 (0, 0))]) rfl rfl (fun _ h => h) (fun u hu => FAt_val (load_any_op u (box_tot hu (List.Mem.tail _ (List.Mem.tail _ (List.Mem.tail _ (List.Mem.head _)))) HS.out.len) rfl)) ?_)
    rintro x N ⟨rfl, rfl⟩ hf he15; intro K' hK'; go_big_quiet_op; go_big_quiet_on
    clear hf
    change anyH _ _ _ _ _ _ _ _ [(w.heap.size + 1 + 1 + 1 + 1, Obj.cells (totA zTot) 29 (0, 0)), (w.heap.size + 1 + 1 + 1, Obj.cells (totA zTot) 29 (0, 0)), (w.heap.size + 1 + 1, Obj.cells (totA t) 29 (0, 0)), (w.heap.size + 1, Obj.cells (totA s) 29 (0, 0)), (w.heap.size, Obj.cells (#[ii a, ii b, ii c, ii d]) 60 (0, 0))]
    refine anyH_one (i := 0) (by kernel_rfl) (hOp_fresh (R := fun x N => x = .agg (totA t) ∧ N = []) (M0 := [(w.heap.size + 1 + 1 + 1 + 1, Obj.cells (totA zTot) 29 (0, 0)), (w.heap.size + 1 + 1 + 1, Obj.cells (totA zTot) 29 (0, 0)), (w.heap.size + 1 + 1, Obj.cells (totA t) 29 (0, 0)), (w.heap.size + 1, Obj.cells (totA s) 29 (0, 0)), (w.heap.size, Obj.cells (#[ii a, ii b, ii c, ii d]) 60 (0, 0))]) rfl rfl (fun _ h => h) (fun u hu => FAt_val (load_any_op u (box_tot hu (List.Mem.tail _ (List.Mem.tail _ (List.Mem.head _))) HT.out.len) rfl)) ?_)
    rintro x N ⟨rfl, rfl⟩ hf he16; intro K' hK'; go_big_quiet_op; go_big_quiet_on
    clear hf
    change anyH _ _ _ _ _ _ _ _ [(w.heap.size + 1 + 1 + 1 + 1, Obj.cells (totA zTot) 29 (0, 0)), (w.heap.size + 1 + 1 + 1, Obj.cells (totA zTot) 29 (0, 0)), (w.heap.size + 1 + 1, Obj.cells (totA t) 29 (0, 0)), (w.heap.size + 1, Obj.cells (totA s) 29 (0, 0)), (w.heap.size, Obj.cells (#[ii a, ii b, ii c, ii d]) 60 (0, 0))]
    refine anyH_one (i := 2) (by kernel_rfl) (hOp_store rfl (w.heap.size + 1 + 1 + 1) (totA t) rfl rfl (by omega) 29 ((totA zTot)) (List.Mem.tail _ (List.Mem.head _)) (infoTot _ (totA_size HT.out.len)) (zTot_size.trans (totA_size HT.out.len).symm) (totA_one _) [(w.heap.size + 1 + 1 + 1, Obj.cells (totA t) 29 (0, 0)), (w.heap.size + 1 + 1 + 1 + 1, Obj.cells (totA zTot) 29 (0, 0)), (w.heap.size + 1 + 1, Obj.cells (totA t) 29 (0, 0)), (w.heap.size + 1, Obj.cells (totA s) 29 (0, 0)), (w.heap.size, Obj.cells (#[ii a, ii b, ii c, ii d]) 60 (0, 0))] (List.forall_mem_cons.2 ⟨.inl rfl, List.forall_mem_cons.2 ⟨.inr ⟨(List.Mem.head _), by show ¬ (w.heap.size + 1 + 1 + 1 + 1) = (w.heap.size + 1 + 1 + 1); omega⟩, List.forall_mem_cons.2 ⟨.inr ⟨(List.Mem.tail _ (List.Mem.tail _ (List.Mem.head _))), by show ¬ (w.heap.size + 1 + 1) = (w.heap.size + 1 + 1 + 1); omega⟩, List.forall_mem_cons.2 ⟨.inr ⟨(List.Mem.tail _ (List.Mem.tail _ (List.Mem.tail _ (List.Mem.head _)))), by show ¬ (w.heap.size + 1) = (w.heap.size + 1 + 1 + 1); omega⟩, List.forall_mem_cons.2 ⟨.inr ⟨(List.Mem.tail _ (List.Mem.tail _ (List.Mem.tail _ (List.Mem.tail _ (List.Mem.head _))))), by show ¬ (w.heap.size) = (w.heap.size + 1 + 1 + 1); omega⟩, fun _ h => by cases h⟩⟩⟩⟩⟩) ?_)
    intro he17
    refine anyH_one (i := 3) (by kernel_rfl) (hOp_store rfl (w.heap.size + 1 + 1 + 1 + 1) (totA s) rfl rfl (by omega) 29 ((totA zTot)) (List.Mem.tail _ (List.Mem.head _)) (infoTot _ (totA_size HS.out.len)) (zTot_size.trans (totA_size HS.out.len).symm) (totA_one _) [(w.heap.size + 1 + 1 + 1 + 1, Obj.cells (totA s) 29 (0, 0)), (w.heap.size + 1 + 1 + 1, Obj.cells (totA t) 29 (0, 0)), (w.heap.size + 1 + 1, Obj.cells (totA t) 29 (0, 0)), (w.heap.size + 1, Obj.cells (totA s) 29 (0, 0)), (w.heap.size, Obj.cells (#[ii a, ii b, ii c, ii d]) 60 (0, 0))] (List.forall_mem_cons.2 ⟨.inl rfl, List.forall_mem_cons.2 ⟨.inr ⟨(List.Mem.head _), by show ¬ (w.heap.size + 1 + 1 + 1) = (w.heap.size + 1 + 1 + 1 + 1); omega⟩, List.forall_mem_cons.2 ⟨.inr ⟨(List.Mem.tail _ (List.Mem.tail _ (List.Mem.head _))), by show ¬ (w.heap.size + 1 + 1) = (w.heap.size + 1 + 1 + 1 + 1); omega⟩, List.forall_mem_cons.2 ⟨.inr ⟨(List.Mem.tail _ (List.Mem.tail _ (List.Mem.tail _ (List.Mem.head _)))), by show ¬ (w.heap.size + 1) = (w.heap.size + 1 + 1 + 1 + 1); omega⟩, List.forall_mem_cons.2 ⟨.inr ⟨(List.Mem.tail _ (List.Mem.tail _ (List.Mem.tail _ (List.Mem.tail _ (List.Mem.head _))))), by show ¬ (w.heap.size) = (w.heap.size + 1 + 1 + 1 + 1); omega⟩, fun _ h => by cases h⟩⟩⟩⟩⟩) ?_)
    intro he18
    refine anyH_done (by kernel_rfl) ?_
    intro u20 E2'
    have EX19 := Lib.hid E2'
    clear E2'
    have Q0 := Lib.hid (EnvX.box EX19.out _ _ (List.Mem.tail _ (List.Mem.head _)))
    have Q1 := Lib.hid (EnvX.box EX19.out _ _ (List.Mem.head _))
    have HBEL := Lib.hid EX19.out.bel
    clear EX19
    go_wp2_with ((with_reducible refine bodyPost_ret (v := .tuple #[.agg (totA t), .agg (totA s)]) ?_ ?_ ?_); (exact results_two_rows (p := 6) (p' := 7) (ty := 29) Tryd.results57 _ _ (w.heap.size + 1 + 1 + 1) (w.heap.size + 1 + 1 + 1 + 1) 29 (totA t) (totA s) (0, 0) _ rfl rfl Q0.out Q1.out Tryd.underlying29 rfl (infoTot _ (totA_size HT.out.len)) (infoTot _ (totA_size HS.out.len))); (rfl))
    first | exact HBEL.out | exact ⟨rfl, HBEL.out⟩
set_option maxRecDepth 20000 in
set_option maxHeartbeats 4000000 in
theorem morder_false (a b c d : Nat) (s t : Tot) (w : World) (hs : okT s) (ht : okT t) (h : ¬ c < a) :
    Calls Tryd.prog 57 #[.agg #[ii a, ii b, ii c, ii d], .agg (totA s), .agg (totA t)] w fun e w' => e = .returned (.tuple #[.agg (totA s), .agg (totA t)]) ∧ Below w.heap.size w w' := by
  have HS := Lib.hid hs
  have HT := Lib.hid ht
  have HR : Hid (∀ u, Calls Tryd.prog 58 #[.agg #[ii a, ii b, ii c, ii d]] u fun e w' => e = .returned (.bool false) ∧ Below u.heap.size u w') := fun u => by
    have k := mright_any a b c d u
    rwa [decide_eq_false h] at k
  clear hs ht h
  have E1 : Hid (EnvX w (((((w.alloc (.cells (#[ii a, ii b, ii c, ii d]) 60)).alloc (.cells (totA s) 29)).alloc (.cells (totA t) 29)).alloc (.cells (totA zTot) 29)).alloc (.cells (totA zTot) 29)) [(w.heap.size + 1 + 1 + 1 + 1, Obj.cells (totA zTot) 29 (0, 0)), (w.heap.size + 1 + 1 + 1, Obj.cells (totA zTot) 29 (0, 0)), (w.heap.size + 1 + 1, Obj.cells (totA t) 29 (0, 0)), (w.heap.size + 1, Obj.cells (totA s) 29 (0, 0)), (w.heap.size, Obj.cells (#[ii a, ii b, ii c, ii d]) 60 (0, 0))]) := EnvX.five _ _ _ _ _
  go_enter Tryd.func57, Tryd.ntmps57
  go_upto_region 1 with (fail)
  rw [zero_totA]
  change Code.wp _ _ _ _ (((((w.alloc (.cells (#[ii a, ii b, ii c, ii d]) 60)).alloc (.cells (totA s) 29)).alloc (.cells (totA t) 29)).alloc (.cells (totA zTot) 29)).alloc (.cells (totA zTot) 29))
  generalize ((((w.alloc (.cells (#[ii a, ii b, ii c, ii d]) 60)).alloc (.cells (totA s) 29)).alloc (.cells (totA t) 29)).alloc (.cells (totA zTot) 29)).alloc (.cells (totA zTot) 29) = W at *
  refine wp_region_Hx (w0 := w) [0, 1] [(w.heap.size + 1 + 1 + 1 + 1, Obj.cells (totA zTot) 29 (0, 0)), (w.heap.size + 1 + 1 + 1, Obj.cells (totA zTot) 29 (0, 0)), (w.heap.size + 1 + 1, Obj.cells (totA t) 29 (0, 0)), (w.heap.size + 1, Obj.cells (totA s) 29 (0, 0)), (w.heap.size, Obj.cells (#[ii a, ii b, ii c, ii d]) 60 (0, 0))] rfl E1.out ?_
  refine lexH_phase [0, 1] [] ?_
  have hw1 : EnvX w _ [(w.heap.size + 1 + 1 + 1 + 1, Obj.cells (totA zTot) 29 (0, 0)), (w.heap.size + 1 + 1 + 1, Obj.cells (totA zTot) 29 (0, 0)), (w.heap.size + 1 + 1, Obj.cells (totA t) 29 (0, 0)), (w.heap.size + 1, Obj.cells (totA s) 29 (0, 0)), (w.heap.size, Obj.cells (#[ii a, ii b, ii c, ii d]) 60 (0, 0))] := E1.out
  have hone := @EnvC.one _ _ _ hw1
  (refine wpG_val (v := .agg #[ii a, ii b, ii c, ii d]) rfl rfl (fun u hu => load_any_op u (box_agg aggMSides (k := 0) hu (List.Mem.tail _ (List.Mem.tail _ (List.Mem.tail _ (List.Mem.tail _ (List.Mem.head _))))) [ii a, ii b, ii c, ii d] rfl rfl) rfl) ?_ hw1; intro K hK; go_big_quiet_op; go_big_quiet_on)
  (refine wpG_call (f := 58) (args := #[.agg #[ii a, ii b, ii c, ii d]]) (v := .bool false) rfl rfl rfl Tryd.func58 rfl rfl (fun u hu => HR.out u) ?_ hw1; intro K hK; go_big_quiet_op; go_big_quiet_on)
  clear hone hw1
  refine wpG_nil ?_
  intro u3 E2'
  have EX2 := Lib.hid E2'
  clear E2'
  go_upto_region 3 with (fail)
  refine wp_region_H (w0 := w) [(w.heap.size + 1 + 1 + 1 + 1, Obj.cells (totA zTot) 29 (0, 0)), (w.heap.size + 1 + 1 + 1, Obj.cells (totA zTot) 29 (0, 0)), (w.heap.size + 1 + 1, Obj.cells (totA t) 29 (0, 0)), (w.heap.size + 1, Obj.cells (totA s) 29 (0, 0)), (w.heap.size, Obj.cells (#[ii a, ii b, ii c, ii d]) 60 (0, 0))] (by kernel_rfl) EX2.out ?_
  refine anyH_two (i := 0) (j := 1) (by kernel_rfl) ?_ ?_
  · skip
    refine (hOp_fresh (R := fun x N => x = .agg (totA s) ∧ N = []) (M0 := [(w.heap.size + 1 + 1 + 1 + 1, Obj.cells (totA zTot) 29 (0, 0)), (w.heap.size + 1 + 1 + 1, Obj.cells (totA zTot) 29 (0, 0)), (w.heap.size + 1 + 1, Obj.cells (totA t) 29 (0, 0)), (w.heap.size + 1, Obj.cells (totA s) 29 (0, 0)), (w.heap.size, Obj.cells (#[ii a, ii b, ii c, ii d]) 60 (0, 0))]) rfl rfl (fun _ h => h) (fun u hu => FAt_val (load_any_op u (box_tot hu (List.Mem.tail _ (List.Mem.tail _ (List.Mem.tail _ (List.Mem.head _)))) HS.out.len) rfl)) ?_)
    rintro x N ⟨rfl, rfl⟩ hf he4; intro K' hK'; go_big_quiet_op; go_big_quiet_on
    clear hf
    change anyH _ _ _ _ _ _ _ _ [(w.heap.size + 1 + 1 + 1 + 1, Obj.cells (totA zTot) 29 (0, 0)), (w.heap.size + 1 + 1 + 1, Obj.cells (totA zTot) 29 (0, 0)), (w.heap.size + 1 + 1, Obj.cells (totA t) 29 (0, 0)), (w.heap.size + 1, Obj.cells (totA s) 29 (0, 0)), (w.heap.size, Obj.cells (#[ii a, ii b, ii c, ii d]) 60 (0, 0))]
    refine anyH_two (i := 1) (j := 2) (by kernel_rfl) ?_ ?_
    · skip
      refine (hOp_fresh (R := fun x N => x = .agg (totA t) ∧ N = []) (M0 := [(w.heap.size + 1 + 1 + 1 + 1, Obj.cells (totA zTot) 29 (0, 0)), (w.heap.size + 1 + 1 + 1, Obj.cells (totA zTot) 29 (0, 0)), (w.heap.size + 1 + 1, Obj.cells (totA t) 29 (0, 0)), (w.heap.size + 1, Obj.cells (totA s) 29 (0, 0)), (w.heap.size, Obj.cells (#[ii a, ii b, ii c, ii d]) 60 (0, 0))]) rfl rfl (fun _ h => h) (fun u hu => FAt_val (load_any_op u (box_tot hu (List.Mem.tail _ (List.Mem.tail _ (List.Mem.head _))) HT.out.len) rfl)) ?_)
      rintro x N ⟨rfl, rfl⟩ hf he5; intro K' hK'; go_big_quiet_op; go_big_quiet_on
      clear hf
      change anyH _ _ _ _ _ _ _ _ [(w.heap.size + 1 + 1 + 1 + 1, Obj.cells (totA zTot) 29 (0, 0)), (w.heap.size + 1 + 1 + 1, Obj.cells (totA zTot) 29 (0, 0)), (w.heap.size + 1 + 1, Obj.cells (totA t) 29 (0, 0)), (w.heap.size + 1, Obj.cells (totA s) 29 (0, 0)), (w.heap.size, Obj.cells (#[ii a, ii b, ii c, ii d]) 60 (0, 0))]
      refine anyH_one (i := 2) (by kernel_rfl) (hOp_store rfl (w.heap.size + 1 + 1 + 1) (totA s) rfl rfl (by omega) 29 ((totA zTot)) (List.Mem.tail _ (List.Mem.head _)) (infoTot _ (totA_size HS.out.len)) (zTot_size.trans (totA_size HS.out.len).symm) (totA_one _) [(w.heap.size + 1 + 1 + 1, Obj.cells (totA s) 29 (0, 0)), (w.heap.size + 1 + 1 + 1 + 1, Obj.cells (totA zTot) 29 (0, 0)), (w.heap.size + 1 + 1, Obj.cells (totA t) 29 (0, 0)), (w.heap.size + 1, Obj.cells (totA s) 29 (0, 0)), (w.heap.size, Obj.cells (#[ii a, ii b, ii c, ii d]) 60 (0, 0))] (List.forall_mem_cons.2 ⟨.inl rfl, List.forall_mem_cons.2 ⟨.inr ⟨(List.Mem.head _), by show ¬ (w.heap.size + 1 + 1 + 1 + 1) = (w.heap.size + 1 + 1 + 1); omega⟩, List.forall_mem_cons.2 ⟨.inr ⟨(List.Mem.tail _ (List.Mem.tail _ (List.Mem.head _))), by show ¬ (w.heap.size + 1 + 1) = (w.heap.size + 1 + 1 + 1); omega⟩, List.forall_mem_cons.2 ⟨.inr ⟨(List.Mem.tail _ (List.Mem.tail _ (List.Mem.tail _ (List.Mem.head _)))), by show ¬ (w.heap.size + 1) = (w.heap.size + 1 + 1 + 1); omega⟩, List.forall_mem_cons.2 ⟨.inr ⟨(List.Mem.tail _ (List.Mem.tail _ (List.Mem.tail _ (List.Mem.tail _ (List.Mem.head _))))), by show ¬ (w.heap.size) = (w.heap.size + 1 + 1 + 1); omega⟩, fun _ h => by cases h⟩⟩⟩⟩⟩) ?_)
      intro he6
      refine anyH_one (i := 3) (by kernel_rfl) (hOp_store rfl (w.heap.size + 1 + 1 + 1 + 1) (totA t) rfl rfl (by omega) 29 ((totA zTot)) (List.Mem.tail _ (List.Mem.head _)) (infoTot _ (totA_size HT.out.len)) (zTot_size.trans (totA_size HT.out.len).symm) (totA_one _) [(w.heap.size + 1 + 1 + 1 + 1, Obj.cells (totA t) 29 (0, 0)), (w.heap.size + 1 + 1 + 1, Obj.cells (totA s) 29 (0, 0)), (w.heap.size + 1 + 1, Obj.cells (totA t) 29 (0, 0)), (w.heap.size + 1, Obj.cells (totA s) 29 (0, 0)), (w.heap.size, Obj.cells (#[ii a, ii b, ii c, ii d]) 60 (0, 0))] (List.forall_mem_cons.2 ⟨.inl rfl, List.forall_mem_cons.2 ⟨.inr ⟨(List.Mem.head _), by show ¬ (w.heap.size + 1 + 1 + 1) = (w.heap.size + 1 + 1 + 1 + 1); omega⟩, List.forall_mem_cons.2 ⟨.inr ⟨(List.Mem.tail _ (List.Mem.tail _ (List.Mem.head _))), by show ¬ (w.heap.size + 1 + 1) = (w.heap.size + 1 + 1 + 1 + 1); omega⟩, List.forall_mem_cons.2 ⟨.inr ⟨(List.Mem.tail _ (List.Mem.tail _ (List.Mem.tail _ (List.Mem.head _)))), by show ¬ (w.heap.size + 1) = (w.heap.size + 1 + 1 + 1 + 1); omega⟩, List.forall_mem_cons.2 ⟨.inr ⟨(List.Mem.tail _ (List.Mem.tail _ (List.Mem.tail _ (List.Mem.tail _ (List.Mem.head _))))), by show ¬ (w.heap.size) = (w.heap.size + 1 + 1 + 1 + 1); omega⟩, fun _ h => by cases h⟩⟩⟩⟩⟩) ?_)
      intro he7
      refine anyH_done (by kernel_rfl) ?_
      intro u9 E2'
      have EX8 := Lib.hid E2'
      clear E2'
      have Q0 := Lib.hid (EnvX.box EX8.out _ _ (List.Mem.tail _ (List.Mem.head _)))
      have Q1 := Lib.hid (EnvX.box EX8.out _ _ (List.Mem.head _))
      have HBEL := Lib.hid EX8.out.bel
      clear EX8
      go_wp2_with ((with_reducible refine bodyPost_ret (v := .tuple #[.agg (totA s), .agg (totA t)]) ?_ ?_ ?_); (exact results_two_rows (p := 6) (p' := 7) (ty := 29) Tryd.results57 _ _ (w.heap.size + 1 + 1 + 1) (w.heap.size + 1 + 1 + 1 + 1) 29 (totA s) (totA t) (0, 0) _ rfl rfl Q0.out Q1.out Tryd.underlying29 rfl (infoTot _ (totA_size HS.out.len)) (infoTot _ (totA_size HT.out.len))); (rfl))
      first | exact HBEL.out | exact ⟨rfl, HBEL.out⟩
    · skip
      refine (hOp_store rfl (w.heap.size + 1 + 1 + 1) (totA s) rfl rfl (by omega) 29 ((totA zTot)) (List.Mem.tail _ (List.Mem.head _)) (infoTot _ (totA_size HS.out.len)) (zTot_size.trans (totA_size HS.out.len).symm) (totA_one _) [(w.heap.size + 1 + 1 + 1, Obj.cells (totA s) 29 (0, 0)), (w.heap.size + 1 + 1 + 1 + 1, Obj.cells (totA zTot) 29 (0, 0)), (w.heap.size + 1 + 1, Obj.cells (totA t) 29 (0, 0)), (w.heap.size + 1, Obj.cells (totA s) 29 (0, 0)), (w.heap.size, Obj.cells (#[ii a, ii b, ii c, ii d]) 60 (0, 0))] (List.forall_mem_cons.2 ⟨.inl rfl, List.forall_mem_cons.2 ⟨.inr ⟨(List.Mem.head _), by show ¬ (w.heap.size + 1 + 1 + 1 + 1) = (w.heap.size + 1 + 1 + 1); omega⟩, List.forall_mem_cons.2 ⟨.inr ⟨(List.Mem.tail _ (List.Mem.tail _ (List.Mem.head _))), by show ¬ (w.heap.size + 1 + 1) = (w.heap.size + 1 + 1 + 1); omega⟩, List.forall_mem_cons.2 ⟨.inr ⟨(List.Mem.tail _ (List.Mem.tail _ (List.Mem.tail _ (List.Mem.head _)))), by show ¬ (w.heap.size + 1) = (w.heap.size + 1 + 1 + 1); omega⟩, List.forall_mem_cons.2 ⟨.inr ⟨(List.Mem.tail _ (List.Mem.tail _ (List.Mem.tail _ (List.Mem.tail _ (List.Mem.head _))))), by show ¬ (w.heap.size) = (w.heap.size + 1 + 1 + 1); omega⟩, fun _ h => by cases h⟩⟩⟩⟩⟩) ?_)
      intro he10
      refine anyH_one (i := 1) (by kernel_rfl) (hOp_fresh (R := fun x N => x = .agg (totA t) ∧ N = []) (M0 := [(w.heap.size + 1 + 1 + 1, Obj.cells (totA s) 29 (0, 0)), (w.heap.size + 1 + 1 + 1 + 1, Obj.cells (totA zTot) 29 (0, 0)), (w.heap.size + 1 + 1, Obj.cells (totA t) 29 (0, 0)), (w.heap.size + 1, Obj.cells (totA s) 29 (0, 0)), (w.heap.size, Obj.cells (#[ii a, ii b, ii c, ii d]) 60 (0, 0))]) rfl rfl (fun _ h => h) (fun u hu => FAt_val (load_any_op u (box_tot hu (List.Mem.tail _ (List.Mem.tail _ (List.Mem.head _))) HT.out.len) rfl)) ?_)
      rintro x N ⟨rfl, rfl⟩ hf he11; intro K' hK'; go_big_quiet_op; go_big_quiet_on
      clear hf
      change anyH _ _ _ _ _ _ _ _ [(w.heap.size + 1 + 1 + 1, Obj.cells (totA s) 29 (0, 0)), (w.heap.size + 1 + 1 + 1 + 1, Obj.cells (totA zTot) 29 (0, 0)), (w.heap.size + 1 + 1, Obj.cells (totA t) 29 (0, 0)), (w.heap.size + 1, Obj.cells (totA s) 29 (0, 0)), (w.heap.size, Obj.cells (#[ii a, ii b, ii c, ii d]) 60 (0, 0))]
      refine anyH_one (i := 3) (by kernel_rfl) (hOp_store rfl (w.heap.size + 1 + 1 + 1 + 1) (totA t) rfl rfl (by omega) 29 ((totA zTot)) (List.Mem.tail _ (List.Mem.head _)) (infoTot _ (totA_size HT.out.len)) (zTot_size.trans (totA_size HT.out.len).symm) (totA_one _) [(w.heap.size + 1 + 1 + 1 + 1, Obj.cells (totA t) 29 (0, 0)), (w.heap.size + 1 + 1 + 1, Obj.cells (totA s) 29 (0, 0)), (w.heap.size + 1 + 1, Obj.cells (totA t) 29 (0, 0)), (w.heap.size + 1, Obj.cells (totA s) 29 (0, 0)), (w.heap.size, Obj.cells (#[ii a, ii b, ii c, ii d]) 60 (0, 0))] (List.forall_mem_cons.2 ⟨.inl rfl, List.forall_mem_cons.2 ⟨.inr ⟨(List.Mem.head _), by show ¬ (w.heap.size + 1 + 1 + 1) = (w.heap.size + 1 + 1 + 1 + 1); omega⟩, List.forall_mem_cons.2 ⟨.inr ⟨(List.Mem.tail _ (List.Mem.tail _ (List.Mem.head _))), by show ¬ (w.heap.size + 1 + 1) = (w.heap.size + 1 + 1 + 1 + 1); omega⟩, List.forall_mem_cons.2 ⟨.inr ⟨(List.Mem.tail _ (List.Mem.tail _ (List.Mem.tail _ (List.Mem.head _)))), by show ¬ (w.heap.size + 1) = (w.heap.size + 1 + 1 + 1 + 1); omega⟩, List.forall_mem_cons.2 ⟨.inr ⟨(List.Mem.tail _ (List.Mem.tail _ (List.Mem.tail _ (List.Mem.tail _ (List.Mem.head _))))), by show ¬ (w.heap.size) = (w.heap.size + 1 + 1 + 1 + 1); omega⟩, fun _ h => by cases h⟩⟩⟩⟩⟩) ?_)
      intro he12
      refine anyH_done (by kernel_rfl) ?_
      intro u14 E2'
      have EX13 := Lib.hid E2'
      clear E2'
      have Q0 := Lib.hid (EnvX.box EX13.out _ _ (List.Mem.tail _ (List.Mem.head _)))
      have Q1 := Lib.hid (EnvX.box EX13.out _ _ (List.Mem.head _))
      have HBEL := Lib.hid EX13.out.bel
      clear EX13
      go_wp2_with ((with_reducible refine bodyPost_ret (v := .tuple #[.agg (totA s), .agg (totA t)]) ?_ ?_ ?_); (exact results_two_rows (p := 6) (p' := 7) (ty := 29) Tryd.results57 _ _ (w.heap.size + 1 + 1 + 1) (w.heap.size + 1 + 1 + 1 + 1) 29 (totA s) (totA t) (0, 0) _ rfl rfl Q0.out Q1.out Tryd.underlying29 rfl (infoTot _ (totA_size HS.out.len)) (infoTot _ (totA_size HT.out.len))); (rfl))
      first | exact HBEL.out | exact ⟨rfl, HBEL.out⟩
  · skip
    refine (hOp_fresh (R := fun x N => x = .agg (totA t) ∧ N = []) (M0 := [(w.heap.size + 1 + 1 + 1 + 1, Obj.cells (totA zTot) 29 (0, 0)), (w.heap.size + 1 + 1 + 1, Obj.cells (totA zTot) 29 (0, 0)), (w.heap.size + 1 + 1, Obj.cells (totA t) 29 (0, 0)), (w.heap.size + 1, Obj.cells (totA s) 29 (0, 0)), (w.heap.size, Obj.cells (#[ii a, ii b, ii c, ii d]) 60 (0, 0))]) rfl rfl (fun _ h => h) (fun u hu => FAt_val (load_any_op u (box_tot hu (List.Mem.tail _ (List.Mem.tail _ (List.Mem.head _))) HT.out.len) rfl)) ?_)
    rintro x N ⟨rfl, rfl⟩ hf he15; intro K' hK'; go_big_quiet_op; go_big_quiet_on
    clear hf
    change anyH _ _ _ _ _ _ _ _ [(w.heap.size + 1 + 1 + 1 + 1, Obj.cells (totA zTot) 29 (0, 0)), (w.heap.size + 1 + 1 + 1, Obj.cells (totA zTot) 29 (0, 0)), (w.heap.size + 1 + 1, Obj.cells (totA t) 29 (0, 0)), (w.heap.size + 1, Obj.cells (totA s) 29 (0, 0)), (w.heap.size, Obj.cells (#[ii a, ii b, ii c, ii d]) 60 (0, 0))]
    refine anyH_one (i := 0) (by kernel_rfl) (hOp_fresh (R := fun x N => x = .agg (totA s) ∧ N = []) (M0 := [(w.heap.size + 1 + 1 + 1 + 1, Obj.cells (totA zTot) 29 (0, 0)), (w.heap.size + 1 + 1 + 1, Obj.cells (totA zTot) 29 (0, 0)), (w.heap.size + 1 + 1, Obj.cells (totA t) 29 (0, 0)), (w.heap.size + 1, Obj.cells (totA s) 29 (0, 0)), (w.heap.size, Obj.cells (#[ii a, ii b, ii c, ii d]) 60 (0, 0))]) rfl rfl (fun _ h => h) (fun u hu => FAt_val (load_any_op u (box_tot hu (List.Mem.tail _ (List.Mem.tail _ (List.Mem.tail _ (List.Mem.head _)))) HS.out.len) rfl)) ?_)
    rintro x N ⟨rfl, rfl⟩ hf he16; intro K' hK'; go_big_quiet_op; go_big_quiet_on
    clear hf
    change anyH _ _ _ _ _ _ _ _ [(w.heap.size + 1 + 1 + 1 + 1, Obj.cells (totA zTot) 29 (0, 0)), (w.heap.size + 1 + 1 + 1, Obj.cells (totA zTot) 29 (0, 0)), (w.heap.size + 1 + 1, Obj.cells (totA t) 29 (0, 0)), (w.heap.size + 1, Obj.cells (totA s) 29 (0, 0)), (w.heap.size, Obj.cells (#[ii a, ii b, ii c, ii d]) 60 (0, 0))]
    refine anyH_one (i := 2) (by kernel_rfl) (hOp_store rfl (w.heap.size + 1 + 1 + 1) (totA s) rfl rfl (by omega) 29 ((totA zTot)) (List.Mem.tail _ (List.Mem.head _)) (infoTot _ (totA_size HS.out.len)) (zTot_size.trans (totA_size HS.out.len).symm) (totA_one _) [(w.heap.size + 1 + 1 + 1, Obj.cells (totA s) 29 (0, 0)), (w.heap.size + 1 + 1 + 1 + 1, Obj.cells (totA zTot) 29 (0, 0)), (w.heap.size + 1 + 1, Obj.cells (totA t) 29 (0, 0)), (w.heap.size + 1, Obj.cells (totA s) 29 (0, 0)), (w.heap.size, Obj.cells (#[ii a, ii b, ii c, ii d]) 60 (0, 0))] (List.forall_mem_cons.2 ⟨.inl rfl, List.forall_mem_cons.2 ⟨.inr ⟨(List.Mem.head _), by show ¬ (w.heap.size + 1 + 1 + 1 + 1) = (w.heap.size + 1 + 1 + 1); omega⟩, List.forall_mem_cons.2 ⟨.inr ⟨(List.Mem.tail _ (List.Mem.tail _ (List.Mem.head _))), by show ¬ (w.heap.size + 1 + 1) = (w.heap.size + 1 + 1 + 1); omega⟩, List.forall_mem_cons.2 ⟨.inr ⟨(List.Mem.tail _ (List.Mem.tail _ (List.Mem.tail _ (List.Mem.head _)))), by show ¬ (w.heap.size + 1) = (w.heap.size + 1 + 1 + 1); omega⟩, List.forall_mem_cons.2 ⟨.inr ⟨(List.Mem.tail _ (List.Mem.tail _ (List.Mem.tail _ (List.Mem.tail _ (List.Mem.head _))))), by show ¬ (w.heap.size) = (w.heap.size + 1 + 1 + 1); omega⟩, fun _ h => by cases h⟩⟩⟩⟩⟩) ?_)
    intro he17
    refine anyH_one (i := 3) (by kernel_rfl) (hOp_store rfl (w.heap.size + 1 + 1 + 1 + 1) (totA t) rfl rfl (by omega) 29 ((totA zTot)) (List.Mem.tail _ (List.Mem.head _)) (infoTot _ (totA_size HT.out.len)) (zTot_size.trans (totA_size HT.out.len).symm) (totA_one _) [(w.heap.size + 1 + 1 + 1 + 1, Obj.cells (totA t) 29 (0, 0)), (w.heap.size + 1 + 1 + 1, Obj.cells (totA s) 29 (0, 0)), (w.heap.size + 1 + 1, Obj.cells (totA t) 29 (0, 0)), (w.heap.size + 1, Obj.cells (totA s) 29 (0, 0)), (w.heap.size, Obj.cells (#[ii a, ii b, ii c, ii d]) 60 (0, 0))] (List.forall_mem_cons.2 ⟨.inl rfl, List.forall_mem_cons.2 ⟨.inr ⟨(List.Mem.head _), by show ¬ (w.heap.size + 1 + 1 + 1) = (w.heap.size + 1 + 1 + 1 + 1); omega⟩, List.forall_mem_cons.2 ⟨.inr ⟨(List.Mem.tail _ (List.Mem.tail _ (List.Mem.head _))), by show ¬ (w.heap.size + 1 + 1) = (w.heap.size + 1 + 1 + 1 + 1); omega⟩, List.forall_mem_cons.2 ⟨.inr ⟨(List.Mem.tail _ (List.Mem.tail _ (List.Mem.tail _ (List.Mem.head _)))), by show ¬ (w.heap.size + 1) = (w.heap.size + 1 + 1 + 1 + 1); omega⟩, List.forall_mem_cons.2 ⟨.inr ⟨(List.Mem.tail _ (List.Mem.tail _ (List.Mem.tail _ (List.Mem.tail _ (List.Mem.head _))))), by show ¬ (w.heap.size) = (w.heap.size + 1 + 1 + 1 + 1); omega⟩, fun _ h => by cases h⟩⟩⟩⟩⟩) ?_)
    intro he18
    refine anyH_done (by kernel_rfl) ?_
    intro u20 E2'
    have EX19 := Lib.hid E2'
    clear E2'
    have Q0 := Lib.hid (EnvX.box EX19.out _ _ (List.Mem.tail _ (List.Mem.head _)))
    have Q1 := Lib.hid (EnvX.box EX19.out _ _ (List.Mem.head _))
    have HBEL := Lib.hid EX19.out.bel
    clear EX19
    go_wp2_with ((with_reducible refine bodyPost_ret (v := .tuple #[.agg (totA s), .agg (totA t)]) ?_ ?_ ?_); (exact results_two_rows (p := 6) (p' := 7) (ty := 29) Tryd.results57 _ _ (w.heap.size + 1 + 1 + 1) (w.heap.size + 1 + 1 + 1 + 1) 29 (totA s) (totA t) (0, 0) _ rfl rfl Q0.out Q1.out Tryd.underlying29 rfl (infoTot _ (totA_size HS.out.len)) (infoTot _ (totA_size HT.out.len))); (rfl))
    first | exact HBEL.out | exact ⟨rfl, HBEL.out⟩
set_option maxRecDepth 20000 in
set_option maxHeartbeats 4000000 in
theorem mstep_join (a b c d : Nat) (o t x y : Tot) (w : World) (ho : okT o) (hx : okT x) (hy : okT y) (hxy : (x, y) = if c < a then (o, t) else (t, o)) (ht : okT t) (hT : Tables w) :
    Calls Tryd.prog 38 #[.agg (stA a b c d o), .agg (totA t)] w fun e w' => e = .returned (.agg (totA (joinT x y))) ∧ Below w.heap.size w w' := by
  have HO := Lib.hid ho
  have HT := Lib.hid ht
  have HOR : Hid (∀ u, Calls Tryd.prog 57 #[.agg #[ii a, ii b, ii c, ii d], .agg (totA t), .agg (totA o)] u fun e w' => e = .returned (.tuple #[.agg (totA x), .agg (totA y)]) ∧ Below u.heap.size u w') := fun u => by
    by_cases h : c < a
    · rw [if_pos h] at hxy
      cases hxy
      exact morder_true a b c d t o u ht ho h
    · rw [if_neg h] at hxy
      cases hxy
      exact morder_false a b c d t o u ht ho h
  have HJN : Hid (∀ u, Below w.heap.size w u → Calls Tryd.prog 20 #[.agg (totA x), .agg (totA y)] u fun e w' => e = .returned (.agg (totA (joinT x y))) ∧ Below u.heap.size u w') := fun u hb => mjoin_any x y u hx hy (hT.below hb)
  have HLE : Hid (w.heap.size ≤ w.heap.size + 1 + 1) := by show _ ≤ _; omega
  clear ho hx hy hxy ht hT
  have E1 : Hid (EnvX w (((w.alloc (.cells (stA a b c d o) 63)).alloc (.cells (totA t) 29)).alloc (.cells (totA zTot) 29)) [(w.heap.size + 1 + 1, Obj.cells (totA zTot) 29 (0, 0)), (w.heap.size + 1, Obj.cells (totA t) 29 (0, 0)), (w.heap.size, Obj.cells (stA a b c d o) 63 (0, 0))]) := EnvX.three _ _ _
  go_enter Tryd.func38, Tryd.ntmps38
  go_upto_region 1 with (fail)
  rw [zero_totA]
  change Code.wp _ _ _ _ (((w.alloc (.cells (stA a b c d o) 63)).alloc (.cells (totA t) 29)).alloc (.cells (totA zTot) 29))
  generalize ((w.alloc (.cells (stA a b c d o) 63)).alloc (.cells (totA t) 29)).alloc (.cells (totA zTot) 29) = W at *
  refine wp_region_Hx (w0 := w) [0, 1, 2, 3, 4, 5, 6, 7, 8, 9] [(w.heap.size + 1 + 1, Obj.cells (totA zTot) 29 (0, 0)), (w.heap.size + 1, Obj.cells (totA t) 29 (0, 0)), (w.heap.size, Obj.cells (stA a b c d o) 63 (0, 0))] rfl E1.out ?_
  refine lexH_phase [0, 1, 2, 3, 4, 5, 6, 7, 8] [9] ?_
  have hw1 : EnvX w _ [(w.heap.size + 1 + 1, Obj.cells (totA zTot) 29 (0, 0)), (w.heap.size + 1, Obj.cells (totA t) 29 (0, 0)), (w.heap.size, Obj.cells (stA a b c d o) 63 (0, 0))] := E1.out
  have hone := @EnvC.one _ _ _ hw1
  (refine wpG_val (v := .pointer (some ⟨w.heap.size, 0 + 0, none⟩)) rfl rfl (fun u hu => fieldSt_op (k := 0) (off := 0) rfl u rfl) ?_ hw1; intro K hK; go_big_quiet_op; go_big_quiet_on)
  (refine wpG_val (v := .agg #[ii a, ii b, ii c, ii d]) rfl rfl (fun u hu => load_any_op u (box_agg aggMSides (k := 0 + 0) hu (List.Mem.tail _ (List.Mem.tail _ (List.Mem.head _))) [ii a, ii b, ii c, ii d] rfl rfl) rfl) ?_ hw1; intro K hK; go_big_quiet_op; go_big_quiet_on)
  (refine wpG_val (v := .agg (totA t)) rfl rfl (fun u hu => load_any_op u (box_tot hu (List.Mem.tail _ (List.Mem.head _)) HT.out.len) rfl) ?_ hw1; intro K hK; go_big_quiet_op; go_big_quiet_on)
  (refine wpG_val (v := .pointer (some ⟨w.heap.size, 0 + 4, none⟩)) rfl rfl (fun u hu => fieldSt_op (k := 1) (off := 4) rfl u rfl) ?_ hw1; intro K hK; go_big_quiet_op; go_big_quiet_on)
  (refine wpG_val (v := .agg (totA o)) rfl rfl (fun u hu => load_any_op u (box_agg aggTot (k := 0 + 4) hu (List.Mem.tail _ (List.Mem.tail _ (List.Mem.head _))) (totC o) (totC_len HO.out.len) (stA_tot HO.out.len)) rfl) ?_ hw1; intro K hK; go_big_quiet_op; go_big_quiet_on)
  (refine wpG_call (f := 57) (args := #[.agg #[ii a, ii b, ii c, ii d], .agg (totA t), .agg (totA o)]) (v := .tuple #[.agg (totA x), .agg (totA y)]) rfl rfl rfl Tryd.func57 rfl rfl (fun u hu => HOR.out u) ?_ hw1; intro K hK; go_big_quiet_op; go_big_quiet_on)
  (refine wpG_op rfl rfl rfl ?_; intro K hK; go_big_quiet_op; go_big_quiet_on)
  (refine wpG_op rfl rfl rfl ?_; intro K hK; go_big_quiet_op; go_big_quiet_on)
  (refine wpG_call (f := 20) (args := #[.agg (totA x), .agg (totA y)]) (v := .agg (totA (joinT x y))) rfl rfl rfl Tryd.func20 rfl rfl (fun u hu => HJN.out u (EnvX.bel hu)) ?_ hw1; intro K hK; go_big_quiet_op; go_big_quiet_on)
  clear hone hw1
  refine wpG_nil ?_
  refine (hOp_store rfl (w.heap.size + 1 + 1) (totA (joinT x y)) rfl rfl HLE.out 29 ((totA zTot)) (List.Mem.head _) (infoTot _ (totA_size join_ok.len)) (zTot_size.trans (totA_size join_ok.len).symm) (totA_one _) [(w.heap.size + 1 + 1, Obj.cells (totA (joinT x y)) 29 (0, 0))] (List.forall_mem_cons.2 ⟨.inl rfl, (fun _ h => by cases h)⟩) ?_)
  intro he2
  intro u4 E2'
  have EX3 := Lib.hid E2'
  clear E2'
  have Q0 := Lib.hid (EnvX.box EX3.out _ _ (List.Mem.head _))
  have HBEL := Lib.hid EX3.out.bel
  clear EX3
  go_wp2_with ((with_reducible refine bodyPost_ret (v := .agg (totA (joinT x y))) ?_ ?_ ?_); (exact results_cell_row (p := 4) (ty := 29) Tryd.results38 _ _ (w.heap.size + 1 + 1) 29 (totA (joinT x y)) (0, 0) _ rfl Q0.out Tryd.underlying29 rfl (infoTot _ (totA_size join_ok.len))); (rfl))
  first | exact HBEL.out | exact ⟨rfl, HBEL.out⟩
set_option maxRecDepth 20000 in
set_option maxHeartbeats 4000000 in
theorem mholds_true (a b c fn : Nat) (o t : Tot) (w : World) (ho : okT o) (ht : okT t) (hb : c + fn ≤ 1000000) (h : t.w + o.w < Big) :
    Calls Tryd.prog 37 #[.agg (stA a b c (c + fn) o), .agg (totA t)] w fun e w' => e = .returned (.bool (decide (o.n = (fn : Int)))) ∧ Below w.heap.size w w' := by
  have HO := Lib.hid ho
  have HT := Lib.hid ht
  have HSZ : Hid (∀ u, Calls Tryd.prog 53 #[.agg #[ii c, ii (c + fn)]] u fun e w' => e = .returned (ii fn) ∧ Below u.heap.size u w') := fun u => msize_any c fn u hb
  have HADD : Hid (∀ u, Calls Tryd.prog 27 #[.agg (wcs t.w), .agg (wcs o.w)] u fun e w' => e = .returned (.tuple #[.agg (wcs ((t.w + o.w) % Big)), .bool true]) ∧ Below u.heap.size u w') := fun u => by
    have k := add_any t.w o.w u ht.2.1 ho.2.1
    rwa [decide_eq_true h] at k
  clear ho ht hb h
  have E1 : Hid (EnvX w ((w.alloc (.cells (stA a b c (c + fn) o) 63)).alloc (.cells (totA t) 29)) [(w.heap.size + 1, Obj.cells (totA t) 29 (0, 0)), (w.heap.size, Obj.cells (stA a b c (c + fn) o) 63 (0, 0))]) := (EnvX.start w).two _ _
  go_enter Tryd.func37, Tryd.ntmps37
  go_upto_region 1 with (fail)
  change Code.wp _ _ _ _ ((w.alloc (.cells (stA a b c (c + fn) o) 63)).alloc (.cells (totA t) 29))
  generalize (w.alloc (.cells (stA a b c (c + fn) o) 63)).alloc (.cells (totA t) 29) = W at *
  refine wp_region_Hx (w0 := w) [0, 1, 2, 3, 4, 5, 6, 7, 8, 9, 10, 11] [(w.heap.size + 1, Obj.cells (totA t) 29 (0, 0)), (w.heap.size, Obj.cells (stA a b c (c + fn) o) 63 (0, 0))] rfl E1.out ?_
  refine lexH_phase [0, 1, 2, 3, 4, 5, 6, 7, 8] [9, 10, 11] ?_
  have hw1 : EnvX w _ [(w.heap.size + 1, Obj.cells (totA t) 29 (0, 0)), (w.heap.size, Obj.cells (stA a b c (c + fn) o) 63 (0, 0))] := E1.out
  have hone := @EnvC.one _ _ _ hw1
  (refine wpG_op rfl rfl rfl ?_; intro K hK; go_big_quiet_op; go_big_quiet_on)
  (refine wpG_val (v := .agg (wcs t.w)) rfl rfl (fun u hu => load_any_op u (box_totW hu (List.Mem.head _) HT.out.len) rfl) ?_ hw1; intro K hK; go_big_quiet_op; go_big_quiet_on)
  (refine wpG_val (v := .pointer (some ⟨w.heap.size, 0 + 4, none⟩)) rfl rfl (fun u hu => fieldSt_op (k := 1) (off := 4) rfl u rfl) ?_ hw1; intro K hK; go_big_quiet_op; go_big_quiet_on)
  (refine wpG_val (v := .pointer (some ⟨w.heap.size, 0 + 4 + 32, none⟩)) rfl rfl (fun u hu => fieldTo_op (k := 1) (off := 32) rfl u rfl) ?_ hw1; intro K hK; go_big_quiet_op; go_big_quiet_on)
  (refine wpG_val (v := .agg (wcs o.w)) rfl rfl (fun u hu => wide_load u (box_agg aggWd (k := 0 + 4 + 32) hu (List.Mem.tail _ (List.Mem.head _)) _ (wcs_list _) (stA_W HO.out.len)) rfl) ?_ hw1; intro K hK; go_big_quiet_op; go_big_quiet_on)
  (refine wpG_call (f := 27) (args := #[.agg (wcs t.w), .agg (wcs o.w)]) (v := .tuple #[.agg (wcs ((t.w + o.w) % Big)), .bool true]) rfl rfl rfl Tryd.func27 rfl rfl (fun u hu => HADD.out u) ?_ hw1; intro K hK; go_big_quiet_op; go_big_quiet_on)
  (refine wpG_op rfl rfl rfl ?_; intro K hK; go_big_quiet_op; go_big_quiet_on)
  (refine wpG_op rfl rfl rfl ?_; intro K hK; go_big_quiet_op; go_big_quiet_on)
  (refine wpG_op rfl rfl rfl ?_; intro K hK; go_big_quiet_op; go_big_quiet_on)
  clear hone hw1
  refine wpG_nil ?_
  refine (hOp_fresh (R := fun x N => ∃ g, x = .pointer (some ⟨g, 0, none⟩) ∧ N = [(g, Obj.cells (wcs 0) 27 (0, 0))]) (M0 := [(w.heap.size + 1, Obj.cells (totA t) 29 (0, 0)), (w.heap.size, Obj.cells (stA a b c (c + fn) o) 63 (0, 0))]) rfl rfl (fun _ h => h) (fun u hu => FAt_new (new_wd _) u) ?_)
  rintro _ _ ⟨g5, rfl, rfl⟩ hf he2; intro K' hK'; go_big_quiet_op; go_big_quiet_on
  have HG5 := Lib.hid (hf _ (List.mem_singleton.2 rfl))
  clear hf
  change lexH _ _ _ _ _ _ [(g5, Obj.cells (wcs 0) 27 (0, 0)), (w.heap.size + 1, Obj.cells (totA t) 29 (0, 0)), (w.heap.size, Obj.cells (stA a b c (c + fn) o) 63 (0, 0))]
  refine (hOp_store rfl (g5) (wcs ((t.w + o.w) % Big)) rfl rfl HG5.out.1 27 ((wcs 0)) (List.Mem.head _) (wc_info _) ((wc_size _).trans (wc_size _).symm) (wc_one _) [(g5, Obj.cells (wcs ((t.w + o.w) % Big)) 27 (0, 0)), (w.heap.size + 1, Obj.cells (totA t) 29 (0, 0)), (w.heap.size, Obj.cells (stA a b c (c + fn) o) 63 (0, 0))] (List.forall_mem_cons.2 ⟨.inl rfl, fun y hy => .inr ⟨List.mem_cons_of_mem _ hy, HG5.out.2 y hy⟩⟩) ?_)
  intro he3
  refine lexH_phase [11] [] ?_
  have hw4 : EnvX w _ [(g5, Obj.cells (wcs ((t.w + o.w) % Big)) 27 (0, 0)), (w.heap.size + 1, Obj.cells (totA t) 29 (0, 0)), (w.heap.size, Obj.cells (stA a b c (c + fn) o) 63 (0, 0))] := he3.choose_spec
  have hone := @EnvC.one _ _ _ hw4
  (refine wpG_op rfl rfl rfl ?_; intro K hK; go_big_quiet_op; go_big_quiet_on)
  clear hone hw4
  refine wpG_nil ?_
  intro u6 E2'
  have EX5 := Lib.hid E2'
  clear E2'
  go_upto_region 2 with (fail)
  refine wp_region_H (w0 := w) [(g5, Obj.cells (wcs ((t.w + o.w) % Big)) 27 (0, 0)), (w.heap.size + 1, Obj.cells (totA t) 29 (0, 0)), (w.heap.size, Obj.cells (stA a b c (c + fn) o) 63 (0, 0))] (by kernel_rfl) EX5.out ?_
  refine anyH_phase [0, 1, 2, 3, 4, 5, 6, 7, 8, 9, 10, 11] 0 rfl ⟨_, (EnvX.drew EX5.out)⟩ (by kernel_rfl) ?_
  have hw7 : EnvX w _ [(g5, Obj.cells (wcs ((t.w + o.w) % Big)) 27 (0, 0)), (w.heap.size + 1, Obj.cells (totA t) 29 (0, 0)), (w.heap.size, Obj.cells (stA a b c (c + fn) o) 63 (0, 0))] := (EnvX.drew EX5.out)
  have hone := @EnvC.one _ _ _ hw7
  (refine wpG_op rfl rfl rfl ?_; intro K hK; go_big_quiet_op; go_big_quiet_on)
  (refine wpG_op rfl rfl rfl ?_; intro K hK; go_big_quiet_op; go_big_quiet_on)
  (refine wpG_val (v := .pointer (some ⟨w.heap.size, 0 + 4, none⟩)) rfl rfl (fun u hu => fieldSt_op (k := 1) (off := 4) rfl u rfl) ?_ hw7; intro K hK; go_big_quiet_op; go_big_quiet_on)
  (refine wpG_val (v := .pointer (some ⟨w.heap.size, 0 + 4 + 36, none⟩)) rfl rfl (fun u hu => fieldTo_op (k := 2) (off := 36) rfl u rfl) ?_ hw7; intro K hK; go_big_quiet_op; go_big_quiet_on)
  (refine wpG_val (v := .int .i64 o.n) rfl rfl (fun u hu => load_any_op u (run_load_one oneInt u (box_cell (k := 0 + 4 + 36) hu (List.Mem.tail _ (List.Mem.tail _ (List.Mem.head _))) (stA_N HO.out.len))) rfl) ?_ hw7; intro K hK; go_big_quiet_op; go_big_quiet_on)
  (refine wpG_val (v := .pointer (some ⟨w.heap.size, 0 + 0, none⟩)) rfl rfl (fun u hu => fieldSt_op (k := 0) (off := 0) rfl u rfl) ?_ hw7; intro K hK; go_big_quiet_op; go_big_quiet_on)
  (refine wpG_val (v := .pointer (some ⟨w.heap.size, 0 + 0 + 2, none⟩)) rfl rfl (fun u hu => fieldSd_op (k := 1) (off := 2) rfl u rfl) ?_ hw7; intro K hK; go_big_quiet_op; go_big_quiet_on)
  (refine wpG_val (v := .agg #[ii c, ii (c + fn)]) rfl rfl (fun u hu => load_any_op u (box_agg aggMSpan (k := 0 + 0 + 2) hu (List.Mem.tail _ (List.Mem.tail _ (List.Mem.head _))) [ii c, ii (c + fn)] rfl rfl) rfl) ?_ hw7; intro K hK; go_big_quiet_op; go_big_quiet_on)
  (refine wpG_call (f := 53) (args := #[.agg #[ii c, ii (c + fn)]]) (v := ii fn) rfl rfl rfl Tryd.func53 rfl rfl (fun u hu => HSZ.out u) ?_ hw7; intro K hK; go_big_quiet_op; go_big_quiet_on)
  (refine wpG_val (v := .bool (decide (o.n = (fn : Int)))) rfl rfl (fun u hu => eqlI_op u rfl rfl rfl) ?_ hw7; intro K hK; go_big_quiet_op; go_big_quiet_on)
  (refine wpG_op rfl rfl rfl ?_; intro K hK; go_big_quiet_op; go_big_quiet_on)
  (refine wpG_op rfl rfl rfl ?_; intro K hK; go_big_quiet_op; go_big_quiet_on)
  clear hone hw7
  refine wpG_nil ?_
  refine anyH_done (by kernel_rfl) ?_
  intro u9 E2'
  have EX8 := Lib.hid E2'
  clear E2'
  go_wp2
  go_ret
  exact ⟨rfl, EnvX.bel EX8.out⟩
set_option maxRecDepth 20000 in
set_option maxHeartbeats 4000000 in
theorem mholds_false (a b c fn : Nat) (o t : Tot) (w : World) (ho : okT o) (ht : okT t) (hb : c + fn ≤ 1000000) (h : ¬ t.w + o.w < Big) :
    Calls Tryd.prog 37 #[.agg (stA a b c (c + fn) o), .agg (totA t)] w fun e w' => e = .returned (.bool false) ∧ Below w.heap.size w w' := by
  have HO := Lib.hid ho
  have HT := Lib.hid ht
  have HSZ : Hid (∀ u, Calls Tryd.prog 53 #[.agg #[ii c, ii (c + fn)]] u fun e w' => e = .returned (ii fn) ∧ Below u.heap.size u w') := fun u => msize_any c fn u hb
  have HADD : Hid (∀ u, Calls Tryd.prog 27 #[.agg (wcs t.w), .agg (wcs o.w)] u fun e w' => e = .returned (.tuple #[.agg (wcs ((t.w + o.w) % Big)), .bool false]) ∧ Below u.heap.size u w') := fun u => by
    have k := add_any t.w o.w u ht.2.1 ho.2.1
    rwa [decide_eq_false h] at k
  clear ho ht hb h
  have E1 : Hid (EnvX w ((w.alloc (.cells (stA a b c (c + fn) o) 63)).alloc (.cells (totA t) 29)) [(w.heap.size + 1, Obj.cells (totA t) 29 (0, 0)), (w.heap.size, Obj.cells (stA a b c (c + fn) o) 63 (0, 0))]) := (EnvX.start w).two _ _
  go_enter Tryd.func37, Tryd.ntmps37
  go_upto_region 1 with (fail)
  change Code.wp _ _ _ _ ((w.alloc (.cells (stA a b c (c + fn) o) 63)).alloc (.cells (totA t) 29))
  generalize (w.alloc (.cells (stA a b c (c + fn) o) 63)).alloc (.cells (totA t) 29) = W at *
  refine wp_region_Hx (w0 := w) [0, 1, 2, 3, 4, 5, 6, 7, 8, 9, 10, 11] [(w.heap.size + 1, Obj.cells (totA t) 29 (0, 0)), (w.heap.size, Obj.cells (stA a b c (c + fn) o) 63 (0, 0))] rfl E1.out ?_
  refine lexH_phase [0, 1, 2, 3, 4, 5, 6, 7, 8] [9, 10, 11] ?_
  have hw1 : EnvX w _ [(w.heap.size + 1, Obj.cells (totA t) 29 (0, 0)), (w.heap.size, Obj.cells (stA a b c (c + fn) o) 63 (0, 0))] := E1.out
  have hone := @EnvC.one _ _ _ hw1
  (refine wpG_op rfl rfl rfl ?_; intro K hK; go_big_quiet_op; go_big_quiet_on)
  (refine wpG_val (v := .agg (wcs t.w)) rfl rfl (fun u hu => load_any_op u (box_totW hu (List.Mem.head _) HT.out.len) rfl) ?_ hw1; intro K hK; go_big_quiet_op; go_big_quiet_on)
  (refine wpG_val (v := .pointer (some ⟨w.heap.size, 0 + 4, none⟩)) rfl rfl (fun u hu => fieldSt_op (k := 1) (off := 4) rfl u rfl) ?_ hw1; intro K hK; go_big_quiet_op; go_big_quiet_on)
  (refine wpG_val (v := .pointer (some ⟨w.heap.size, 0 + 4 + 32, none⟩)) rfl rfl (fun u hu => fieldTo_op (k := 1) (off := 32) rfl u rfl) ?_ hw1; intro K hK; go_big_quiet_op; go_big_quiet_on)
  (refine wpG_val (v := .agg (wcs o.w)) rfl rfl (fun u hu => wide_load u (box_agg aggWd (k := 0 + 4 + 32) hu (List.Mem.tail _ (List.Mem.head _)) _ (wcs_list _) (stA_W HO.out.len)) rfl) ?_ hw1; intro K hK; go_big_quiet_op; go_big_quiet_on)
  (refine wpG_call (f := 27) (args := #[.agg (wcs t.w), .agg (wcs o.w)]) (v := .tuple #[.agg (wcs ((t.w + o.w) % Big)), .bool false]) rfl rfl rfl Tryd.func27 rfl rfl (fun u hu => HADD.out u) ?_ hw1; intro K hK; go_big_quiet_op; go_big_quiet_on)
  (refine wpG_op rfl rfl rfl ?_; intro K hK; go_big_quiet_op; go_big_quiet_on)
  (refine wpG_op rfl rfl rfl ?_; intro K hK; go_big_quiet_op; go_big_quiet_on)
  (refine wpG_op rfl rfl rfl ?_; intro K hK; go_big_quiet_op; go_big_quiet_on)
  clear hone hw1
  refine wpG_nil ?_
  refine (hOp_fresh (R := fun x N => ∃ g, x = .pointer (some ⟨g, 0, none⟩) ∧ N = [(g, Obj.cells (wcs 0) 27 (0, 0))]) (M0 := [(w.heap.size + 1, Obj.cells (totA t) 29 (0, 0)), (w.heap.size, Obj.cells (stA a b c (c + fn) o) 63 (0, 0))]) rfl rfl (fun _ h => h) (fun u hu => FAt_new (new_wd _) u) ?_)
  rintro _ _ ⟨g5, rfl, rfl⟩ hf he2; intro K' hK'; go_big_quiet_op; go_big_quiet_on
  have HG5 := Lib.hid (hf _ (List.mem_singleton.2 rfl))
  clear hf
  change lexH _ _ _ _ _ _ [(g5, Obj.cells (wcs 0) 27 (0, 0)), (w.heap.size + 1, Obj.cells (totA t) 29 (0, 0)), (w.heap.size, Obj.cells (stA a b c (c + fn) o) 63 (0, 0))]
  refine (hOp_store rfl (g5) (wcs ((t.w + o.w) % Big)) rfl rfl HG5.out.1 27 ((wcs 0)) (List.Mem.head _) (wc_info _) ((wc_size _).trans (wc_size _).symm) (wc_one _) [(g5, Obj.cells (wcs ((t.w + o.w) % Big)) 27 (0, 0)), (w.heap.size + 1, Obj.cells (totA t) 29 (0, 0)), (w.heap.size, Obj.cells (stA a b c (c + fn) o) 63 (0, 0))] (List.forall_mem_cons.2 ⟨.inl rfl, fun y hy => .inr ⟨List.mem_cons_of_mem _ hy, HG5.out.2 y hy⟩⟩) ?_)
  intro he3
  refine lexH_phase [11] [] ?_
  have hw4 : EnvX w _ [(g5, Obj.cells (wcs ((t.w + o.w) % Big)) 27 (0, 0)), (w.heap.size + 1, Obj.cells (totA t) 29 (0, 0)), (w.heap.size, Obj.cells (stA a b c (c + fn) o) 63 (0, 0))] := he3.choose_spec
  have hone := @EnvC.one _ _ _ hw4
  (refine wpG_op rfl rfl rfl ?_; intro K hK; go_big_quiet_op; go_big_quiet_on)
  clear hone hw4
  refine wpG_nil ?_
  intro u6 E2'
  have EX5 := Lib.hid E2'
  clear E2'
  go_upto_region 2 with (fail)
  refine wp_region_H (w0 := w) [(g5, Obj.cells (wcs ((t.w + o.w) % Big)) 27 (0, 0)), (w.heap.size + 1, Obj.cells (totA t) 29 (0, 0)), (w.heap.size, Obj.cells (stA a b c (c + fn) o) 63 (0, 0))] (by kernel_rfl) EX5.out ?_
  refine anyH_phase [0, 1, 2, 3, 4, 5, 6, 7, 8, 9, 10, 11] 0 rfl ⟨_, (EnvX.drew EX5.out)⟩ (by kernel_rfl) ?_
  have hw7 : EnvX w _ [(g5, Obj.cells (wcs ((t.w + o.w) % Big)) 27 (0, 0)), (w.heap.size + 1, Obj.cells (totA t) 29 (0, 0)), (w.heap.size, Obj.cells (stA a b c (c + fn) o) 63 (0, 0))] := (EnvX.drew EX5.out)
  have hone := @EnvC.one _ _ _ hw7
  (refine wpG_op rfl rfl rfl ?_; intro K hK; go_big_quiet_op; go_big_quiet_on)
  (refine wpG_op rfl rfl rfl ?_; intro K hK; go_big_quiet_op; go_big_quiet_on)
  (refine wpG_skip rfl rfl ?_ hw7; intro K hK; go_big_quiet_op; go_big_quiet_on)
  (refine wpG_skip rfl rfl ?_ hw7; intro K hK; go_big_quiet_op; go_big_quiet_on)
  (refine wpG_skip rfl rfl ?_ hw7; intro K hK; go_big_quiet_op; go_big_quiet_on)
  (refine wpG_skip rfl rfl ?_ hw7; intro K hK; go_big_quiet_op; go_big_quiet_on)
  (refine wpG_skip rfl rfl ?_ hw7; intro K hK; go_big_quiet_op; go_big_quiet_on)
  (refine wpG_skip rfl rfl ?_ hw7; intro K hK; go_big_quiet_op; go_big_quiet_on)
  (refine wpG_skip rfl rfl ?_ hw7; intro K hK; go_big_quiet_op; go_big_quiet_on)
  (refine wpG_skip rfl rfl ?_ hw7; intro K hK; go_big_quiet_op; go_big_quiet_on)
  (refine wpG_op rfl rfl rfl ?_; intro K hK; go_big_quiet_op; go_big_quiet_on)
  (refine wpG_op rfl rfl rfl ?_; intro K hK; go_big_quiet_op; go_big_quiet_on)
  clear hone hw7
  refine wpG_nil ?_
  refine anyH_done (by kernel_rfl) ?_
  intro u9 E2'
  have EX8 := Lib.hid E2'
  clear E2'
  go_wp2
  go_ret
  exact ⟨rfl, EnvX.bel EX8.out⟩
set_option maxRecDepth 20000 in
set_option maxHeartbeats 4000000 in
theorem mahead_true (a b c d : Nat) (o : Tot) (w : World) (ho : okT o) (h : c < a) :
    Calls Tryd.prog 39 #[.agg (stA a b c d o)] w fun e w' => e = .returned (.agg (wcs o.w)) ∧ Below w.heap.size w w' := by
  have HO := Lib.hid ho
  have HR : Hid (∀ u, Calls Tryd.prog 58 #[.agg #[ii a, ii b, ii c, ii d]] u fun e w' => e = .returned (.bool true) ∧ Below u.heap.size u w') := fun u => by
    have k := mright_any a b c d u
    rwa [decide_eq_true h] at k
  clear ho h
  have E1 : Hid (EnvX w ((w.alloc (.cells (stA a b c d o) 63)).alloc (.cells (wcs 0) 27)) [(w.heap.size + 1, Obj.cells (wcs 0) 27 (0, 0)), (w.heap.size, Obj.cells (stA a b c d o) 63 (0, 0))]) := (EnvX.start w).two _ _
  go_enter Tryd.func39, Tryd.ntmps39
  go_upto_region 1 with (fail)
  rw [zero_wcs]
  change Code.wp _ _ _ _ ((w.alloc (.cells (stA a b c d o) 63)).alloc (.cells (wcs 0) 27))
  generalize (w.alloc (.cells (stA a b c d o) 63)).alloc (.cells (wcs 0) 27) = W at *
  refine wp_region_Hx (w0 := w) [0, 1, 2] [(w.heap.size + 1, Obj.cells (wcs 0) 27 (0, 0)), (w.heap.size, Obj.cells (stA a b c d o) 63 (0, 0))] rfl E1.out ?_
  refine lexH_phase [0, 1, 2] [] ?_
  have hw1 : EnvX w _ [(w.heap.size + 1, Obj.cells (wcs 0) 27 (0, 0)), (w.heap.size, Obj.cells (stA a b c d o) 63 (0, 0))] := E1.out
  have hone := @EnvC.one _ _ _ hw1
  (refine wpG_val (v := .pointer (some ⟨w.heap.size, 0 + 0, none⟩)) rfl rfl (fun u hu => fieldSt_op (k := 0) (off := 0) rfl u rfl) ?_ hw1; intro K hK; go_big_quiet_op; go_big_quiet_on)
  (refine wpG_val (v := .agg #[ii a, ii b, ii c, ii d]) rfl rfl (fun u hu => load_any_op u (box_agg aggMSides (k := 0 + 0) hu (List.Mem.tail _ (List.Mem.head _)) [ii a, ii b, ii c, ii d] rfl rfl) rfl) ?_ hw1; intro K hK; go_big_quiet_op; go_big_quiet_on)
  (refine wpG_call (f := 58) (args := #[.agg #[ii a, ii b, ii c, ii d]]) (v := .bool true) rfl rfl rfl Tryd.func58 rfl rfl (fun u hu => HR.out u) ?_ hw1; intro K hK; go_big_quiet_op; go_big_quiet_on)
  clear hone hw1
  refine wpG_nil ?_
  intro u3 E2'
  have EX2 := Lib.hid E2'
  clear E2'
  go_upto_region 2 with (fail)
  refine wp_region_Hx (w0 := w) [0, 1, 2, 3] [(w.heap.size + 1, Obj.cells (wcs 0) 27 (0, 0)), (w.heap.size, Obj.cells (stA a b c d o) 63 (0, 0))] rfl EX2.out ?_
  refine lexH_phase [0, 1, 2] [3] ?_
  have hw4 : EnvX w _ [(w.heap.size + 1, Obj.cells (wcs 0) 27 (0, 0)), (w.heap.size, Obj.cells (stA a b c d o) 63 (0, 0))] := EX2.out
  have hone := @EnvC.one _ _ _ hw4
  (refine wpG_val (v := .pointer (some ⟨w.heap.size, 0 + 4, none⟩)) rfl rfl (fun u hu => fieldSt_op (k := 1) (off := 4) rfl u rfl) ?_ hw4; intro K hK; go_big_quiet_op; go_big_quiet_on)
  (refine wpG_val (v := .pointer (some ⟨w.heap.size, 0 + 4 + 32, none⟩)) rfl rfl (fun u hu => fieldTo_op (k := 1) (off := 32) rfl u rfl) ?_ hw4; intro K hK; go_big_quiet_op; go_big_quiet_on)
  (refine wpG_val (v := .agg (wcs o.w)) rfl rfl (fun u hu => wide_load u (box_agg aggWd (k := 0 + 4 + 32) hu (List.Mem.tail _ (List.Mem.head _)) _ (wcs_list _) (stA_W HO.out.len)) rfl) ?_ hw4; intro K hK; go_big_quiet_op; go_big_quiet_on)
  clear hone hw4
  refine wpG_nil ?_
  refine (hOp_store rfl (w.heap.size + 1) (wcs o.w) rfl rfl (Nat.le_succ _) 27 ((wcs 0)) (List.Mem.head _) (wc_info _) ((wc_size _).trans (wc_size _).symm) (wc_one _) [(w.heap.size + 1, Obj.cells (wcs o.w) 27 (0, 0))] (List.forall_mem_cons.2 ⟨.inl rfl, (fun _ h => by cases h)⟩) ?_)
  intro he5
  intro u7 E2'
  have EX6 := Lib.hid E2'
  clear E2'
  have Q0 := Lib.hid (EnvX.box EX6.out _ _ (List.Mem.head _))
  have HBEL := Lib.hid EX6.out.bel
  clear EX6
  go_wp2_with ((with_reducible refine bodyPost_ret (v := .agg (wcs o.w)) ?_ ?_ ?_); (exact results_cell_row (p := 2) (ty := 27) Tryd.results39 _ _ (w.heap.size + 1) 27 (wcs o.w) (0, 0) _ rfl Q0.out Tryd.underlying27 rfl (wc_info _)); (rfl))
  first | exact HBEL.out | exact ⟨rfl, HBEL.out⟩
set_option maxRecDepth 20000 in
set_option maxHeartbeats 4000000 in
theorem mahead_false (a b c d : Nat) (o : Tot) (w : World) (ho : okT o) (h : ¬ c < a) :
    Calls Tryd.prog 39 #[.agg (stA a b c d o)] w fun e w' => e = .returned (.agg (wcs 0)) ∧ Below w.heap.size w w' := by
  have HO := Lib.hid ho
  have HR : Hid (∀ u, Calls Tryd.prog 58 #[.agg #[ii a, ii b, ii c, ii d]] u fun e w' => e = .returned (.bool false) ∧ Below u.heap.size u w') := fun u => by
    have k := mright_any a b c d u
    rwa [decide_eq_false h] at k
  clear ho h
  have E1 : Hid (EnvX w ((w.alloc (.cells (stA a b c d o) 63)).alloc (.cells (wcs 0) 27)) [(w.heap.size + 1, Obj.cells (wcs 0) 27 (0, 0)), (w.heap.size, Obj.cells (stA a b c d o) 63 (0, 0))]) := (EnvX.start w).two _ _
  go_enter Tryd.func39, Tryd.ntmps39
  go_upto_region 1 with (fail)
  rw [zero_wcs]
  change Code.wp _ _ _ _ ((w.alloc (.cells (stA a b c d o) 63)).alloc (.cells (wcs 0) 27))
  generalize (w.alloc (.cells (stA a b c d o) 63)).alloc (.cells (wcs 0) 27) = W at *
  refine wp_region_Hx (w0 := w) [0, 1, 2] [(w.heap.size + 1, Obj.cells (wcs 0) 27 (0, 0)), (w.heap.size, Obj.cells (stA a b c d o) 63 (0, 0))] rfl E1.out ?_
  refine lexH_phase [0, 1, 2] [] ?_
  have hw1 : EnvX w _ [(w.heap.size + 1, Obj.cells (wcs 0) 27 (0, 0)), (w.heap.size, Obj.cells (stA a b c d o) 63 (0, 0))] := E1.out
  have hone := @EnvC.one _ _ _ hw1
  (refine wpG_val (v := .pointer (some ⟨w.heap.size, 0 + 0, none⟩)) rfl rfl (fun u hu => fieldSt_op (k := 0) (off := 0) rfl u rfl) ?_ hw1; intro K hK; go_big_quiet_op; go_big_quiet_on)
  (refine wpG_val (v := .agg #[ii a, ii b, ii c, ii d]) rfl rfl (fun u hu => load_any_op u (box_agg aggMSides (k := 0 + 0) hu (List.Mem.tail _ (List.Mem.head _)) [ii a, ii b, ii c, ii d] rfl rfl) rfl) ?_ hw1; intro K hK; go_big_quiet_op; go_big_quiet_on)
  (refine wpG_call (f := 58) (args := #[.agg #[ii a, ii b, ii c, ii d]]) (v := .bool false) rfl rfl rfl Tryd.func58 rfl rfl (fun u hu => HR.out u) ?_ hw1; intro K hK; go_big_quiet_op; go_big_quiet_on)
  clear hone hw1
  refine wpG_nil ?_
  intro u3 E2'
  have EX2 := Lib.hid E2'
  clear E2'
  go_upto_region 3 with (fail)
  refine wp_region_Hx (w0 := w) [0, 1] [(w.heap.size + 1, Obj.cells (wcs 0) 27 (0, 0)), (w.heap.size, Obj.cells (stA a b c d o) 63 (0, 0))] rfl EX2.out ?_
  refine lexH_phase [0] [1] ?_
  have hw4 : EnvX w _ [(w.heap.size + 1, Obj.cells (wcs 0) 27 (0, 0)), (w.heap.size, Obj.cells (stA a b c d o) 63 (0, 0))] := EX2.out
  have hone := @EnvC.one _ _ _ hw4
  (refine wpG_val (v := .agg (wcs 0)) rfl rfl (fun u hu => buildA_op u built_w0) ?_ hw4; intro K hK; go_big_quiet_op; go_big_quiet_on)
  clear hone hw4
  refine wpG_nil ?_
  refine (hOp_store rfl (w.heap.size + 1) (wcs 0) rfl rfl (Nat.le_succ _) 27 ((wcs 0)) (List.Mem.head _) (wc_info _) ((wc_size _).trans (wc_size _).symm) (wc_one _) [(w.heap.size + 1, Obj.cells (wcs 0) 27 (0, 0))] (List.forall_mem_cons.2 ⟨.inl rfl, (fun _ h => by cases h)⟩) ?_)
  intro he5
  intro u7 E2'
  have EX6 := Lib.hid E2'
  clear E2'
  have Q0 := Lib.hid (EnvX.box EX6.out _ _ (List.Mem.head _))
  have HBEL := Lib.hid EX6.out.bel
  clear EX6
  go_wp2_with ((with_reducible refine bodyPost_ret (v := .agg (wcs 0)) ?_ ?_ ?_); (exact results_cell_row (p := 2) (ty := 27) Tryd.results39 _ _ (w.heap.size + 1) 27 (wcs 0) (0, 0) _ rfl Q0.out Tryd.underlying27 rfl (wc_info _)); (rfl))
  first | exact HBEL.out | exact ⟨rfl, HBEL.out⟩
end Go.Proofs.YtbmiecogjmbciaaDoor
