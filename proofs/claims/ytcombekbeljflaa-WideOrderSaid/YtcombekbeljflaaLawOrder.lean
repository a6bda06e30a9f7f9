/- The walk of the law WideOrder. -/
import Derived.Test.YtcombekbeljflaaAwake
import Derived.Test.YtcombekbeljflaaG2
import Derived.Test.YtcombekbeljflaaOrd
import Derived.Test.YtcombekbeljflaaBytes
import Derived.Deep.MidRow
import Derived.OpenShut
namespace Go.Proofs.Ytcombekbeljflaa
open Go.RowKit

theorem conv_id (g : Nat) (f : Nat → Int) (w : World) (h : Row w g 30 (idF f)) : (convert 39 9 (.slice (some ⟨g, 0, none⟩) 32 32)).run Try.prog w = .ok (.string (strOfNums (listF f))) w := by
  have hl : (listF f).length = 32 := listF_len f
  have hc : (loadCells ⟨g, 0, none⟩ 32).run Try.prog w = .ok ((listF f).map (Value.int .u8)).toArray w := by
    have := run_loadCells_list (P := Try.prog) w ⟨g, 0, none⟩ ((listF f).map (Value.int .u8)) (fun j v hj => by
      have hj' : j < 32 := by
        rcases Nat.lt_or_ge j 32 with h' | h'
        · exact h'
        · rw [List.getElem?_eq_none (by simp [hl]; omega)] at hj
          cases hj
      rw [Addr.add_mid, Nat.zero_add, h.cell j, idF_get f j hj']
      simp only [List.getElem?_map] at hj
      rw [List.getElem?_eq_getElem (by omega)] at hj
      have hg := listF_get f j hj'
      rw [List.getD, List.getElem?_eq_getElem (by omega)] at hg
      simp only [Option.map_some, Option.some.injEq] at hj
      rw [← hj]
      simp only [Option.getD_some] at hg
      rw [hg])
    simpa [hl] using this
  rw [run_convert_bytes_string w 39 9 5 _ 32 32 Try.underlying39 Try.underlying5 Try.underlying9, run_bytesToString w _ 32 32 (listF f) hc, foldl_push_bytes]
  simp [strOfNums, ByteArray.empty, ByteArray.emptyWithCapacity]
  rfl
theorem less_strings (a b : Nat) (ha : a < Big) (hb : b < Big) : Go.Op.bytesLess (strOfNums (listF (bytesOf a))).toList (strOfNums (listF (bytesOf b))).toList = decide (a < b) := by
  rw [ByteArray.toList_eq, ByteArray.toList_eq, strOfNums_data, strOfNums_data]
  exact less_numbers a b ha hb

theorem idF_noughts : idF (fun _ => 0) = (List.replicate 32 (.int .u8 0)).toArray := by rfl
theorem new_id {dst : Option Tmp} {ty : TypeId} {pos : String} {after : Array Edge} {gd : Option (Nat × Bool)} (a : Act) : NewAt Try.prog ⟨dst, .alloc 30, ty, pos, after, gd⟩ a (io (fun _ => 0)) := fun u => by
  have h := idF_noughts
  unfold io
  rw [h]
  go_simp
theorem slice_op {dst : Option Tmp} {x : Operand} {ty : TypeId} {pos : String} {after : Array Edge} {gd : Option (Nat × Bool)} {a : Act} {g : Nat} (hx : a.eval x = .pointer (some ⟨g, 0, none⟩)) (u : World) :
    (execOp a.eval ⟨dst, .slice 30 x none none none, ty, pos, after, gd⟩).run Try.prog u = .ok (.value (.slice (some ⟨g, 0, none⟩) 32 32)) u := by
  unfold execOp
  simp only [hx]
  go_simp
theorem conv_op {dst : Option Tmp} {x : Operand} {ty : TypeId} {pos : String} {after : Array Edge} {gd : Option (Nat × Bool)} {a : Act} {g : Nat} {f : Nat → Int} (hx : a.eval x = .slice (some ⟨g, 0, none⟩) 32 32) (u : World) (h : u.heap[g]? = some (io f)) :
    (execOp a.eval ⟨dst, .convert 39 9 x, ty, pos, after, gd⟩).run Try.prog u = .ok (.value (.string (strOfNums (listF f)))) u := by
  have h1 := conv_id g f u h
  unfold execOp
  simp only [hx, Sem.run_bind, h1]
  rfl
theorem lss_op {dst : Option Tmp} {x y : Operand} {ty : TypeId} {pos : String} {after : Array Edge} {gd : Option (Nat × Bool)} {a : Act} {s t : ByteArray} {b : Bool} (hb : Go.Op.bytesLess s.toList t.toList = b) (hx : a.eval x = .string s) (hy : a.eval y = .string t) (u : World) :
    (execOp a.eval ⟨dst, .binOp .lss 9 x y 9, ty, pos, after, gd⟩).run Try.prog u = .ok (.value (.bool b)) u := by
  subst hb
  unfold execOp
  simp only [hx, hy]
  go_simp
theorem eqN_same (m : Nat) : eqN m m = true := by simp [eqN]
theorem of32_bytes (a : Nat) (u : World) (ha : a < Big) :
    Calls Try.prog 21 #[.agg (idF (bytesOf a))] u fun e w' => e = .returned (.agg (wcs a)) ∧ Below u.heap.size u w' := by
  have h := of32_any (byteAt a) (byteAt_lt a) u
  rw [num_bytes a ha] at h
  exact h
theorem cmpI_all (m n : Nat) : (m < n → cmpI m n = -1) ∧ (m = n → cmpI m n = 0) ∧ (n < m → cmpI m n = 1) := by
  unfold cmpI
  refine ⟨fun h => ?_, fun h => ?_, fun h => ?_⟩
  · rw [if_pos h]
  · rw [if_neg (by omega), if_pos h]
  · rw [if_neg (by omega), if_neg (by omega)]
theorem cmpI_ge (m n : Nat) : 0 ≤ cmpI m n ↔ n ≤ m := by
  unfold cmpI
  split
  · omega
  · split <;> omega
set_option maxRecDepth 100000 in
set_option maxHeartbeats 8000000 in
theorem worder_gt (a b c : Nat) (ha : Hid (a < Big)) (hb : Hid (b < Big)) (hc : Hid (c < Big)) (h1 : Hid (cmpI a b = 1)) (h2 : Hid (cmpI b a = (-1))) (e1 : Hid (eqN a b = false)) (hl : Hid (Go.Op.bytesLess (strOfNums (listF (bytesOf a))).toList (strOfNums (listF (bytesOf b))).toList = false)) (w : World) :
    Calls Try.prog 6 #[.agg (wcs (a)), .agg (wcs (b)), .agg (wcs (c))] w fun e w' => e = .returned (.bool true) ∧ Below w.heap.size w w' := by
  have E1 : Hid (EnvX w (((w.alloc (.cells (wcs (a)) 24)).alloc (.cells (wcs (b)) 24)).alloc (.cells (wcs (c)) 24)) [(w.heap.size + 1 + 1, (wo (c))), (w.heap.size + 1, (wo (b))), (w.heap.size, (wo (a)))]) := by
    have h := ((((EnvX.start w).new (wo (a))).new (wo (b))).new (wo (c)))
    try simp only [World.size_alloc] at h
    exact h
  go_enter Try.func6, Try.ntmps6
  go_upto_region 1 with (fail)
  generalize (((w.alloc (.cells (wcs (a)) 24)).alloc (.cells (wcs (b)) 24)).alloc (.cells (wcs (c)) 24)) = w1 at *
  refine wp_region_Gx (w0 := w) [0, 1] [] [(w.heap.size + 1 + 1, (wo (c))), (w.heap.size + 1, (wo (b))), (w.heap.size, (wo (a)))] rfl E1.out ?_
  have hone := @EnvC.one _ _ _ (E1.out)
  (refine wpG_call (f := 10) (args := #[]) (v := .bool true) rfl rfl rfl Try.func10 rfl rfl (fun u _ => awake_any u) ?_ (E1.out); intro K hK; go_big_quiet_op; go_big_quiet_on)
  (refine wpG_op rfl rfl rfl ?_; intro K hK; go_big_quiet_op; go_big_quiet_on)
  clear hone
  refine wpG_nil ?_
  rintro u2 ⟨hl2, E2'⟩
  have EX1 := Lib.hid E2'
  clear hl2 E2' E1
  go_upto_region 2 with (fail)
  refine wp_region_Gx (w0 := w) [0, 1, 2, 3] [] [(w.heap.size + 1 + 1, (wo (c))), (w.heap.size + 1, (wo (b))), (w.heap.size, (wo (a)))] rfl EX1.out ?_
  have hone := @EnvC.one _ _ _ (EX1.out)
  (refine wpG_load rfl rfl (w.heap.size) rfl 24 _ _ (fun u hu => EnvC.box hu _ (wo (a)) (List.Mem.tail _ (List.Mem.tail _ (List.Mem.head _)))) Try.underlying24 rfl (wc_info _) ?_ (EX1.out); intro K hK; go_big_quiet_op; go_big_quiet_on)
  (refine wpG_load rfl rfl (w.heap.size + 1) rfl 24 _ _ (fun u hu => EnvC.box hu _ (wo (b)) (List.Mem.tail _ (List.Mem.head _))) Try.underlying24 rfl (wc_info _) ?_ (EX1.out); intro K hK; go_big_quiet_op; go_big_quiet_on)
  (refine wpG_call (f := 23) (args := #[.agg (wcs (a)), .agg (wcs (b))]) (v := .int .i64 1) rfl rfl rfl Try.func23 rfl rfl (fun u _ => (by rw [← h1.out]; exact cmp_any (a) (b) u ha.out hb.out)) ?_ (EX1.out); intro K hK; go_big_quiet_op; go_big_quiet_on)
  (refine wpG_op rfl rfl rfl ?_; intro K hK; go_big_quiet_op; go_big_quiet_on)
  clear hone
  refine wpG_nil ?_
  rintro u4 ⟨hl2, E2'⟩
  have EX3 := Lib.hid E2'
  clear hl2 E2' EX1
  go_upto_region 3 with (fail)
  refine wp_region_Gx (w0 := w) [0, 1, 2, 3, 4, 5, 6, 7, 8, 9, 10, 11, 12, 13, 14, 15, 16, 17, 18, 19, 20, 21, 22, 23, 24, 25] [] [(w.heap.size + 1 + 1, (wo (c))), (w.heap.size + 1, (wo (b))), (w.heap.size, (wo (a)))] rfl EX3.out ?_
  have hone := @EnvC.one _ _ _ (EX3.out)
  (refine wpG_op rfl rfl rfl ?_; intro K hK; go_big_quiet_op; go_big_quiet_on)
  (refine wpG_op rfl rfl rfl ?_; intro K hK; go_big_quiet_op; go_big_quiet_on)
  (refine wpG_op rfl rfl rfl ?_; intro K hK; go_big_quiet_op; go_big_quiet_on)
  (refine wpG_op rfl rfl rfl ?_; intro K hK; go_big_quiet_op; go_big_quiet_on)
  (refine wpG_load rfl rfl (w.heap.size + 1) rfl 24 _ _ (fun u hu => EnvC.box hu _ (wo (b)) (List.Mem.tail _ (List.Mem.head _))) Try.underlying24 rfl (wc_info _) ?_ (EX3.out); intro K hK; go_big_quiet_op; go_big_quiet_on)
  (refine wpG_load rfl rfl (w.heap.size) rfl 24 _ _ (fun u hu => EnvC.box hu _ (wo (a)) (List.Mem.tail _ (List.Mem.tail _ (List.Mem.head _)))) Try.underlying24 rfl (wc_info _) ?_ (EX3.out); intro K hK; go_big_quiet_op; go_big_quiet_on)
  (refine wpG_call (f := 23) (args := #[.agg (wcs (b)), .agg (wcs (a))]) (v := .int .i64 (-1)) rfl rfl rfl Try.func23 rfl rfl (fun u _ => (by rw [← h2.out]; exact cmp_any (b) (a) u hb.out ha.out)) ?_ (EX3.out); intro K hK; go_big_quiet_op; go_big_quiet_on)
  (refine wpG_op rfl rfl rfl ?_; intro K hK; go_big_quiet_op; go_big_quiet_on)
  (refine wpG_op rfl rfl rfl ?_; intro K hK; go_big_quiet_op; go_big_quiet_on)
  (refine wpG_op rfl rfl rfl ?_; intro K hK; go_big_quiet_op; go_big_quiet_on)
  (refine wpG_op rfl rfl rfl ?_; intro K hK; go_big_quiet_op; go_big_quiet_on)
  (refine wpG_op rfl rfl rfl ?_; intro K hK; go_big_quiet_op; go_big_quiet_on)
  (refine wpG_op rfl rfl rfl ?_; intro K hK; go_big_quiet_op; go_big_quiet_on)
  (refine wpG_load rfl rfl (w.heap.size) rfl 24 _ _ (fun u hu => EnvC.box hu _ (wo (a)) (List.Mem.tail _ (List.Mem.tail _ (List.Mem.head _)))) Try.underlying24 rfl (wc_info _) ?_ (EX3.out); intro K hK; go_big_quiet_op; go_big_quiet_on)
  (refine wpG_load rfl rfl (w.heap.size + 1) rfl 24 _ _ (fun u hu => EnvC.box hu _ (wo (b)) (List.Mem.tail _ (List.Mem.head _))) Try.underlying24 rfl (wc_info _) ?_ (EX3.out); intro K hK; go_big_quiet_op; go_big_quiet_on)
  (refine wpG_val (v := .bool (false)) rfl rfl (fun u _ => eql_op (ha.out) (hb.out) (e1.out) rfl rfl u) ?_ (EX3.out); intro K hK; go_big_quiet_op; go_big_quiet_on)
  (refine wpG_op rfl rfl rfl ?_; intro K hK; go_big_quiet_op; go_big_quiet_on)
  (refine wpG_op rfl rfl rfl ?_; intro K hK; go_big_quiet_op; go_big_quiet_on)
  (refine wpG_op rfl rfl rfl ?_; intro K hK; go_big_quiet_op; go_big_quiet_on)
  (refine wpG_op rfl rfl rfl ?_; intro K hK; go_big_quiet_op; go_big_quiet_on)
  (refine wpG_op rfl rfl rfl ?_; intro K hK; go_big_quiet_op; go_big_quiet_on)
  (refine wpG_op rfl rfl rfl ?_; intro K hK; go_big_quiet_op; go_big_quiet_on)
  (refine wpG_op rfl rfl rfl ?_; intro K hK; go_big_quiet_op; go_big_quiet_on)
  (refine wpG_op rfl rfl rfl ?_; intro K hK; go_big_quiet_op; go_big_quiet_on)
  (refine wpG_op rfl rfl rfl ?_; intro K hK; go_big_quiet_op; go_big_quiet_on)
  (refine wpG_op rfl rfl rfl ?_; intro K hK; go_big_quiet_op; go_big_quiet_on)
  clear hone
  refine wpG_nil ?_
  rintro u6 ⟨hl2, E2'⟩
  have EX5 := Lib.hid E2'
  clear hl2 E2' EX3
  go_upto_region 5 with (fail)
  refine wp_region_Gx (w0 := w) [0, 1] [2, 3] [(w.heap.size + 1 + 1, (wo (c))), (w.heap.size + 1, (wo (b))), (w.heap.size, (wo (a)))] rfl EX5.out ?_
  have hone := @EnvC.one _ _ _ (EX5.out)
  (refine wpG_load rfl rfl (w.heap.size) rfl 24 _ _ (fun u hu => EnvC.box hu _ (wo (a)) (List.Mem.tail _ (List.Mem.tail _ (List.Mem.head _)))) Try.underlying24 rfl (wc_info _) ?_ (EX5.out); intro K hK; go_big_quiet_op; go_big_quiet_on)
  (refine wpG_call (f := 19) (args := #[.agg (wcs (a))]) (v := .agg (idF (bytesOf a))) rfl rfl rfl Try.func19 rfl rfl (fun u _ => bytes_any a u) ?_ (EX5.out); intro K hK; go_big_quiet_op; go_big_quiet_on)
  clear hone
  refine wpG_nil ?_
  (refine (gOp_new (io (fun _ => 0)) rfl (new_id _) ?_); intro g7 hbg7 hfg7; intro K' hK'; go_big_quiet_op; go_big_quiet_on)
  have ng7x0 : Hid (w.heap.size + 1 + 1 ≠ g7) := hfg7 (w.heap.size + 1 + 1, _) (List.Mem.head _)
  have ng7x1 : Hid (w.heap.size + 1 ≠ g7) := hfg7 (w.heap.size + 1, _) (List.Mem.tail _ (List.Mem.head _))
  have ng7x2 : Hid (w.heap.size ≠ g7) := hfg7 (w.heap.size, _) (List.Mem.tail _ (List.Mem.tail _ (List.Mem.head _)))
  clear hfg7
  refine (gOp_store rfl (g7) (idF (bytesOf a)) rfl rfl hbg7 30 (idF (fun _ => 0)) (List.Mem.head _) (infoId _ (idF_size _)) ((idF_size _).trans (idF_size _).symm) (idF_one _) [(g7, (io (bytesOf a))), (w.heap.size + 1 + 1, (wo (c))), (w.heap.size + 1, (wo (b))), (w.heap.size, (wo (a)))] (List.forall_mem_cons.2 ⟨.inl rfl, (List.forall_mem_cons.2 ⟨.inr ⟨(List.Mem.tail _ (List.Mem.head _)), ng7x0.out⟩, (List.forall_mem_cons.2 ⟨.inr ⟨(List.Mem.tail _ (List.Mem.tail _ (List.Mem.head _))), ng7x1.out⟩, (List.forall_mem_cons.2 ⟨.inr ⟨(List.Mem.tail _ (List.Mem.tail _ (List.Mem.tail _ (List.Mem.head _)))), ng7x2.out⟩, (fun _ h => by cases h)⟩)⟩)⟩)⟩) ?_)
  rintro u9 ⟨hl2, E2'⟩
  have EX8 := Lib.hid E2'
  clear hl2 E2' EX5
  go_upto_region 6 with (fail)
  refine wp_region_Gx (w0 := w) [0, 1] [2, 3] [(g7, (io (bytesOf a))), (w.heap.size + 1 + 1, (wo (c))), (w.heap.size + 1, (wo (b))), (w.heap.size, (wo (a)))] rfl EX8.out ?_
  have hone := @EnvC.one _ _ _ (EX8.out)
  (refine wpG_load rfl rfl (w.heap.size + 1) rfl 24 _ _ (fun u hu => EnvC.box hu _ (wo (b)) (List.Mem.tail _ (List.Mem.tail _ (List.Mem.head _)))) Try.underlying24 rfl (wc_info _) ?_ (EX8.out); intro K hK; go_big_quiet_op; go_big_quiet_on)
  (refine wpG_call (f := 19) (args := #[.agg (wcs (b))]) (v := .agg (idF (bytesOf b))) rfl rfl rfl Try.func19 rfl rfl (fun u _ => bytes_any b u) ?_ (EX8.out); intro K hK; go_big_quiet_op; go_big_quiet_on)
  clear hone
  refine wpG_nil ?_
  (refine (gOp_new (io (fun _ => 0)) rfl (new_id _) ?_); intro g10 hbg10 hfg10; intro K' hK'; go_big_quiet_op; go_big_quiet_on)
  have ng10x0 : Hid (g7 ≠ g10) := hfg10 (g7, _) (List.Mem.head _)
  have ng10x1 : Hid (w.heap.size + 1 + 1 ≠ g10) := hfg10 (w.heap.size + 1 + 1, _) (List.Mem.tail _ (List.Mem.head _))
  have ng10x2 : Hid (w.heap.size + 1 ≠ g10) := hfg10 (w.heap.size + 1, _) (List.Mem.tail _ (List.Mem.tail _ (List.Mem.head _)))
  have ng10x3 : Hid (w.heap.size ≠ g10) := hfg10 (w.heap.size, _) (List.Mem.tail _ (List.Mem.tail _ (List.Mem.tail _ (List.Mem.head _))))
  clear hfg10
  refine (gOp_store rfl (g10) (idF (bytesOf b)) rfl rfl hbg10 30 (idF (fun _ => 0)) (List.Mem.head _) (infoId _ (idF_size _)) ((idF_size _).trans (idF_size _).symm) (idF_one _) [(g10, (io (bytesOf b))), (g7, (io (bytesOf a))), (w.heap.size + 1 + 1, (wo (c))), (w.heap.size + 1, (wo (b))), (w.heap.size, (wo (a)))] (List.forall_mem_cons.2 ⟨.inl rfl, (List.forall_mem_cons.2 ⟨.inr ⟨(List.Mem.tail _ (List.Mem.head _)), ng10x0.out⟩, (List.forall_mem_cons.2 ⟨.inr ⟨(List.Mem.tail _ (List.Mem.tail _ (List.Mem.head _))), ng10x1.out⟩, (List.forall_mem_cons.2 ⟨.inr ⟨(List.Mem.tail _ (List.Mem.tail _ (List.Mem.tail _ (List.Mem.head _)))), ng10x2.out⟩, (List.forall_mem_cons.2 ⟨.inr ⟨(List.Mem.tail _ (List.Mem.tail _ (List.Mem.tail _ (List.Mem.tail _ (List.Mem.head _))))), ng10x3.out⟩, (fun _ h => by cases h)⟩)⟩)⟩)⟩)⟩) ?_)
  rintro u12 ⟨hl2, E2'⟩
  have EX11 := Lib.hid E2'
  clear hl2 E2' EX8
  go_upto_region 7 with (fail)
  refine wp_region_G (w0 := w) [0, 1, 2, 3, 4, 5] [(g10, (io (bytesOf b))), (g7, (io (bytesOf a))), (w.heap.size + 1 + 1, (wo (c))), (w.heap.size + 1, (wo (b))), (w.heap.size, (wo (a)))] 0 (by kernel_rfl) (by kernel_rfl) rfl EX11.out ?_
  have hone := @EnvC.one _ _ _ (EX11.out.drew)
  (refine wpG_val (v := .slice (some ⟨g7, 0, none⟩) 32 32) rfl rfl (fun u _ => slice_op rfl u) ?_ (EX11.out.drew); intro K hK; go_big_quiet_op; go_big_quiet_on)
  (refine wpG_val (v := .string (strOfNums (listF (bytesOf a)))) rfl rfl (fun u _ => conv_op rfl u (EnvC.box (by assumption) _ _ (List.Mem.tail _ (List.Mem.head _)))) ?_ (EX11.out.drew); intro K hK; go_big_quiet_op; go_big_quiet_on)
  (refine wpG_val (v := .slice (some ⟨g10, 0, none⟩) 32 32) rfl rfl (fun u _ => slice_op rfl u) ?_ (EX11.out.drew); intro K hK; go_big_quiet_op; go_big_quiet_on)
  (refine wpG_val (v := .string (strOfNums (listF (bytesOf b)))) rfl rfl (fun u _ => conv_op rfl u (EnvC.box (by assumption) _ _ (List.Mem.head _))) ?_ (EX11.out.drew); intro K hK; go_big_quiet_op; go_big_quiet_on)
  (refine wpG_val (v := .bool false) rfl rfl (fun u _ => lss_op hl.out rfl rfl u) ?_ (EX11.out.drew); intro K hK; go_big_quiet_op; go_big_quiet_on)
  (refine wpG_op rfl rfl rfl ?_; intro K hK; go_big_quiet_op; go_big_quiet_on)
  clear hone
  refine wpG_nil ?_
  refine anyG_done (by kernel_rfl) ?_
  rintro u14 ⟨hl2, E2'⟩
  have EX13 := Lib.hid E2'
  clear hl2 E2' EX11
  go_upto_region 8 with (fail)
  refine wp_region_G (w0 := w) [0, 1, 2, 3, 4, 5, 6, 7, 8, 9, 10, 11, 12, 13, 14, 15, 16, 17, 18, 19, 20, 21, 22, 23, 24, 25, 26] [(g10, (io (bytesOf b))), (g7, (io (bytesOf a))), (w.heap.size + 1 + 1, (wo (c))), (w.heap.size + 1, (wo (b))), (w.heap.size, (wo (a)))] 0 (by kernel_rfl) (by kernel_rfl) rfl EX13.out ?_
  have hone := @EnvC.one _ _ _ (EX13.out.drew)
  (refine wpG_op rfl rfl rfl ?_; intro K hK; go_big_quiet_op; go_big_quiet_on)
  (refine wpG_op rfl rfl rfl ?_; intro K hK; go_big_quiet_op; go_big_quiet_on)
  (refine wpG_op rfl rfl rfl ?_; intro K hK; go_big_quiet_op; go_big_quiet_on)
  (refine wpG_op rfl rfl rfl ?_; intro K hK; go_big_quiet_op; go_big_quiet_on)
  (refine wpG_op rfl rfl rfl ?_; intro K hK; go_big_quiet_op; go_big_quiet_on)
  (refine wpG_load rfl rfl (g7) rfl 30 _ _ (fun u hu => EnvC.box hu _ (io (bytesOf a)) (List.Mem.tail _ (List.Mem.head _))) Try.underlying30 rfl (infoId _ (idF_size _)) ?_ (EX13.out.drew); intro K hK; go_big_quiet_op; go_big_quiet_on)
  (refine wpG_call (f := 21) (args := #[.agg (idF (bytesOf a))]) (v := .agg (wcs (a))) rfl rfl rfl Try.func21 rfl rfl (fun u _ => of32_bytes a u ha.out) ?_ (EX13.out.drew); intro K hK; go_big_quiet_op; go_big_quiet_on)
  (refine wpG_load rfl rfl (w.heap.size) rfl 24 _ _ (fun u hu => EnvC.box hu _ (wo (a)) (List.Mem.tail _ (List.Mem.tail _ (List.Mem.tail _ (List.Mem.tail _ (List.Mem.head _)))))) Try.underlying24 rfl (wc_info _) ?_ (EX13.out.drew); intro K hK; go_big_quiet_op; go_big_quiet_on)
  (refine wpG_val (v := .bool (true)) rfl rfl (fun u _ => eql_op (ha.out) (ha.out) (eqN_same a) rfl rfl u) ?_ (EX13.out.drew); intro K hK; go_big_quiet_op; go_big_quiet_on)
  (refine wpG_op rfl rfl rfl ?_; intro K hK; go_big_quiet_op; go_big_quiet_on)
  (refine wpG_op rfl rfl rfl ?_; intro K hK; go_big_quiet_op; go_big_quiet_on)
  (refine wpG_op rfl rfl rfl ?_; intro K hK; go_big_quiet_op; go_big_quiet_on)
  (refine wpG_op rfl rfl rfl ?_; intro K hK; go_big_quiet_op; go_big_quiet_on)
  (refine wpG_op rfl rfl rfl ?_; intro K hK; go_big_quiet_op; go_big_quiet_on)
  (refine wpG_skip rfl rfl ?_ EX13.out.drew; intro K hK; go_big_quiet_op; go_big_quiet_on)
  (refine wpG_skip rfl rfl ?_ EX13.out.drew; intro K hK; go_big_quiet_op; go_big_quiet_on)
  (refine wpG_skip rfl rfl ?_ EX13.out.drew; intro K hK; go_big_quiet_op; go_big_quiet_on)
  (refine wpG_skip rfl rfl ?_ EX13.out.drew; intro K hK; go_big_quiet_op; go_big_quiet_on)
  (refine wpG_op rfl rfl rfl ?_; intro K hK; go_big_quiet_op; go_big_quiet_on)
  (refine wpG_op rfl rfl rfl ?_; intro K hK; go_big_quiet_op; go_big_quiet_on)
  (refine wpG_skip rfl rfl ?_ EX13.out.drew; intro K hK; go_big_quiet_op; go_big_quiet_on)
  (refine wpG_skip rfl rfl ?_ EX13.out.drew; intro K hK; go_big_quiet_op; go_big_quiet_on)
  (refine wpG_skip rfl rfl ?_ EX13.out.drew; intro K hK; go_big_quiet_op; go_big_quiet_on)
  (refine wpG_skip rfl rfl ?_ EX13.out.drew; intro K hK; go_big_quiet_op; go_big_quiet_on)
  (refine wpG_op rfl rfl rfl ?_; intro K hK; go_big_quiet_op; go_big_quiet_on)
  (refine wpG_op rfl rfl rfl ?_; intro K hK; go_big_quiet_op; go_big_quiet_on)
  (refine wpG_op rfl rfl rfl ?_; intro K hK; go_big_quiet_op; go_big_quiet_on)
  clear hone
  refine wpG_nil ?_
  refine anyG_done (by kernel_rfl) ?_
  rintro u16 ⟨hl2, E2'⟩
  have EX15 := Lib.hid E2'
  clear hl2 E2' EX13
  go_wp2_with fail
  go_ret
  exact ⟨rfl, EX15.out.bel⟩
set_option maxRecDepth 100000 in
set_option maxHeartbeats 8000000 in
theorem worder_eq (a b c : Nat) (ha : Hid (a < Big)) (hb : Hid (b < Big)) (hc : Hid (c < Big)) (h1 : Hid (cmpI a b = 0)) (h2 : Hid (cmpI b a = 0)) (e1 : Hid (eqN a b = true)) (hl : Hid (Go.Op.bytesLess (strOfNums (listF (bytesOf a))).toList (strOfNums (listF (bytesOf b))).toList = false)) (w : World) :
    Calls Try.prog 6 #[.agg (wcs (a)), .agg (wcs (b)), .agg (wcs (c))] w fun e w' => e = .returned (.bool true) ∧ Below w.heap.size w w' := by
  have E1 : Hid (EnvX w (((w.alloc (.cells (wcs (a)) 24)).alloc (.cells (wcs (b)) 24)).alloc (.cells (wcs (c)) 24)) [(w.heap.size + 1 + 1, (wo (c))), (w.heap.size + 1, (wo (b))), (w.heap.size, (wo (a)))]) := by
    have h := ((((EnvX.start w).new (wo (a))).new (wo (b))).new (wo (c)))
    try simp only [World.size_alloc] at h
    exact h
  go_enter Try.func6, Try.ntmps6
  go_upto_region 1 with (fail)
  generalize (((w.alloc (.cells (wcs (a)) 24)).alloc (.cells (wcs (b)) 24)).alloc (.cells (wcs (c)) 24)) = w1 at *
  refine wp_region_Gx (w0 := w) [0, 1] [] [(w.heap.size + 1 + 1, (wo (c))), (w.heap.size + 1, (wo (b))), (w.heap.size, (wo (a)))] rfl E1.out ?_
  have hone := @EnvC.one _ _ _ (E1.out)
  (refine wpG_call (f := 10) (args := #[]) (v := .bool true) rfl rfl rfl Try.func10 rfl rfl (fun u _ => awake_any u) ?_ (E1.out); intro K hK; go_big_quiet_op; go_big_quiet_on)
  (refine wpG_op rfl rfl rfl ?_; intro K hK; go_big_quiet_op; go_big_quiet_on)
  clear hone
  refine wpG_nil ?_
  rintro u2 ⟨hl2, E2'⟩
  have EX1 := Lib.hid E2'
  clear hl2 E2' E1
  go_upto_region 2 with (fail)
  refine wp_region_Gx (w0 := w) [0, 1, 2, 3] [] [(w.heap.size + 1 + 1, (wo (c))), (w.heap.size + 1, (wo (b))), (w.heap.size, (wo (a)))] rfl EX1.out ?_
  have hone := @EnvC.one _ _ _ (EX1.out)
  (refine wpG_load rfl rfl (w.heap.size) rfl 24 _ _ (fun u hu => EnvC.box hu _ (wo (a)) (List.Mem.tail _ (List.Mem.tail _ (List.Mem.head _)))) Try.underlying24 rfl (wc_info _) ?_ (EX1.out); intro K hK; go_big_quiet_op; go_big_quiet_on)
  (refine wpG_load rfl rfl (w.heap.size + 1) rfl 24 _ _ (fun u hu => EnvC.box hu _ (wo (b)) (List.Mem.tail _ (List.Mem.head _))) Try.underlying24 rfl (wc_info _) ?_ (EX1.out); intro K hK; go_big_quiet_op; go_big_quiet_on)
  (refine wpG_call (f := 23) (args := #[.agg (wcs (a)), .agg (wcs (b))]) (v := .int .i64 0) rfl rfl rfl Try.func23 rfl rfl (fun u _ => (by rw [← h1.out]; exact cmp_any (a) (b) u ha.out hb.out)) ?_ (EX1.out); intro K hK; go_big_quiet_op; go_big_quiet_on)
  (refine wpG_op rfl rfl rfl ?_; intro K hK; go_big_quiet_op; go_big_quiet_on)
  clear hone
  refine wpG_nil ?_
  rintro u4 ⟨hl2, E2'⟩
  have EX3 := Lib.hid E2'
  clear hl2 E2' EX1
  go_upto_region 3 with (fail)
  refine wp_region_Gx (w0 := w) [0, 1, 2, 3, 4, 5, 6, 7, 8, 9, 10, 11, 12, 13, 14, 15, 16, 17, 18, 19, 20, 21, 22, 23, 24, 25] [] [(w.heap.size + 1 + 1, (wo (c))), (w.heap.size + 1, (wo (b))), (w.heap.size, (wo (a)))] rfl EX3.out ?_
  have hone := @EnvC.one _ _ _ (EX3.out)
  (refine wpG_op rfl rfl rfl ?_; intro K hK; go_big_quiet_op; go_big_quiet_on)
  (refine wpG_op rfl rfl rfl ?_; intro K hK; go_big_quiet_op; go_big_quiet_on)
  (refine wpG_op rfl rfl rfl ?_; intro K hK; go_big_quiet_op; go_big_quiet_on)
  (refine wpG_op rfl rfl rfl ?_; intro K hK; go_big_quiet_op; go_big_quiet_on)
  (refine wpG_load rfl rfl (w.heap.size + 1) rfl 24 _ _ (fun u hu => EnvC.box hu _ (wo (b)) (List.Mem.tail _ (List.Mem.head _))) Try.underlying24 rfl (wc_info _) ?_ (EX3.out); intro K hK; go_big_quiet_op; go_big_quiet_on)
  (refine wpG_load rfl rfl (w.heap.size) rfl 24 _ _ (fun u hu => EnvC.box hu _ (wo (a)) (List.Mem.tail _ (List.Mem.tail _ (List.Mem.head _)))) Try.underlying24 rfl (wc_info _) ?_ (EX3.out); intro K hK; go_big_quiet_op; go_big_quiet_on)
  (refine wpG_call (f := 23) (args := #[.agg (wcs (b)), .agg (wcs (a))]) (v := .int .i64 0) rfl rfl rfl Try.func23 rfl rfl (fun u _ => (by rw [← h2.out]; exact cmp_any (b) (a) u hb.out ha.out)) ?_ (EX3.out); intro K hK; go_big_quiet_op; go_big_quiet_on)
  (refine wpG_op rfl rfl rfl ?_; intro K hK; go_big_quiet_op; go_big_quiet_on)
  (refine wpG_op rfl rfl rfl ?_; intro K hK; go_big_quiet_op; go_big_quiet_on)
  (refine wpG_op rfl rfl rfl ?_; intro K hK; go_big_quiet_op; go_big_quiet_on)
  (refine wpG_op rfl rfl rfl ?_; intro K hK; go_big_quiet_op; go_big_quiet_on)
  (refine wpG_op rfl rfl rfl ?_; intro K hK; go_big_quiet_op; go_big_quiet_on)
  (refine wpG_op rfl rfl rfl ?_; intro K hK; go_big_quiet_op; go_big_quiet_on)
  (refine wpG_load rfl rfl (w.heap.size) rfl 24 _ _ (fun u hu => EnvC.box hu _ (wo (a)) (List.Mem.tail _ (List.Mem.tail _ (List.Mem.head _)))) Try.underlying24 rfl (wc_info _) ?_ (EX3.out); intro K hK; go_big_quiet_op; go_big_quiet_on)
  (refine wpG_load rfl rfl (w.heap.size + 1) rfl 24 _ _ (fun u hu => EnvC.box hu _ (wo (b)) (List.Mem.tail _ (List.Mem.head _))) Try.underlying24 rfl (wc_info _) ?_ (EX3.out); intro K hK; go_big_quiet_op; go_big_quiet_on)
  (refine wpG_val (v := .bool (true)) rfl rfl (fun u _ => eql_op (ha.out) (hb.out) (e1.out) rfl rfl u) ?_ (EX3.out); intro K hK; go_big_quiet_op; go_big_quiet_on)
  (refine wpG_op rfl rfl rfl ?_; intro K hK; go_big_quiet_op; go_big_quiet_on)
  (refine wpG_op rfl rfl rfl ?_; intro K hK; go_big_quiet_op; go_big_quiet_on)
  (refine wpG_op rfl rfl rfl ?_; intro K hK; go_big_quiet_op; go_big_quiet_on)
  (refine wpG_op rfl rfl rfl ?_; intro K hK; go_big_quiet_op; go_big_quiet_on)
  (refine wpG_op rfl rfl rfl ?_; intro K hK; go_big_quiet_op; go_big_quiet_on)
  (refine wpG_op rfl rfl rfl ?_; intro K hK; go_big_quiet_op; go_big_quiet_on)
  (refine wpG_op rfl rfl rfl ?_; intro K hK; go_big_quiet_op; go_big_quiet_on)
  (refine wpG_op rfl rfl rfl ?_; intro K hK; go_big_quiet_op; go_big_quiet_on)
  (refine wpG_op rfl rfl rfl ?_; intro K hK; go_big_quiet_op; go_big_quiet_on)
  (refine wpG_op rfl rfl rfl ?_; intro K hK; go_big_quiet_op; go_big_quiet_on)
  clear hone
  refine wpG_nil ?_
  rintro u6 ⟨hl2, E2'⟩
  have EX5 := Lib.hid E2'
  clear hl2 E2' EX3
  go_upto_region 5 with (fail)
  refine wp_region_Gx (w0 := w) [0, 1] [2, 3] [(w.heap.size + 1 + 1, (wo (c))), (w.heap.size + 1, (wo (b))), (w.heap.size, (wo (a)))] rfl EX5.out ?_
  have hone := @EnvC.one _ _ _ (EX5.out)
  (refine wpG_load rfl rfl (w.heap.size) rfl 24 _ _ (fun u hu => EnvC.box hu _ (wo (a)) (List.Mem.tail _ (List.Mem.tail _ (List.Mem.head _)))) Try.underlying24 rfl (wc_info _) ?_ (EX5.out); intro K hK; go_big_quiet_op; go_big_quiet_on)
  (refine wpG_call (f := 19) (args := #[.agg (wcs (a))]) (v := .agg (idF (bytesOf a))) rfl rfl rfl Try.func19 rfl rfl (fun u _ => bytes_any a u) ?_ (EX5.out); intro K hK; go_big_quiet_op; go_big_quiet_on)
  clear hone
  refine wpG_nil ?_
  (refine (gOp_new (io (fun _ => 0)) rfl (new_id _) ?_); intro g7 hbg7 hfg7; intro K' hK'; go_big_quiet_op; go_big_quiet_on)
  have ng7x0 : Hid (w.heap.size + 1 + 1 ≠ g7) := hfg7 (w.heap.size + 1 + 1, _) (List.Mem.head _)
  have ng7x1 : Hid (w.heap.size + 1 ≠ g7) := hfg7 (w.heap.size + 1, _) (List.Mem.tail _ (List.Mem.head _))
  have ng7x2 : Hid (w.heap.size ≠ g7) := hfg7 (w.heap.size, _) (List.Mem.tail _ (List.Mem.tail _ (List.Mem.head _)))
  clear hfg7
  refine (gOp_store rfl (g7) (idF (bytesOf a)) rfl rfl hbg7 30 (idF (fun _ => 0)) (List.Mem.head _) (infoId _ (idF_size _)) ((idF_size _).trans (idF_size _).symm) (idF_one _) [(g7, (io (bytesOf a))), (w.heap.size + 1 + 1, (wo (c))), (w.heap.size + 1, (wo (b))), (w.heap.size, (wo (a)))] (List.forall_mem_cons.2 ⟨.inl rfl, (List.forall_mem_cons.2 ⟨.inr ⟨(List.Mem.tail _ (List.Mem.head _)), ng7x0.out⟩, (List.forall_mem_cons.2 ⟨.inr ⟨(List.Mem.tail _ (List.Mem.tail _ (List.Mem.head _))), ng7x1.out⟩, (List.forall_mem_cons.2 ⟨.inr ⟨(List.Mem.tail _ (List.Mem.tail _ (List.Mem.tail _ (List.Mem.head _)))), ng7x2.out⟩, (fun _ h => by cases h)⟩)⟩)⟩)⟩) ?_)
  rintro u9 ⟨hl2, E2'⟩
  have EX8 := Lib.hid E2'
  clear hl2 E2' EX5
  go_upto_region 6 with (fail)
  refine wp_region_Gx (w0 := w) [0, 1] [2, 3] [(g7, (io (bytesOf a))), (w.heap.size + 1 + 1, (wo (c))), (w.heap.size + 1, (wo (b))), (w.heap.size, (wo (a)))] rfl EX8.out ?_
  have hone := @EnvC.one _ _ _ (EX8.out)
  (refine wpG_load rfl rfl (w.heap.size + 1) rfl 24 _ _ (fun u hu => EnvC.box hu _ (wo (b)) (List.Mem.tail _ (List.Mem.tail _ (List.Mem.head _)))) Try.underlying24 rfl (wc_info _) ?_ (EX8.out); intro K hK; go_big_quiet_op; go_big_quiet_on)
  (refine wpG_call (f := 19) (args := #[.agg (wcs (b))]) (v := .agg (idF (bytesOf b))) rfl rfl rfl Try.func19 rfl rfl (fun u _ => bytes_any b u) ?_ (EX8.out); intro K hK; go_big_quiet_op; go_big_quiet_on)
  clear hone
  refine wpG_nil ?_
  (refine (gOp_new (io (fun _ => 0)) rfl (new_id _) ?_); intro g10 hbg10 hfg10; intro K' hK'; go_big_quiet_op; go_big_quiet_on)
  have ng10x0 : Hid (g7 ≠ g10) := hfg10 (g7, _) (List.Mem.head _)
  have ng10x1 : Hid (w.heap.size + 1 + 1 ≠ g10) := hfg10 (w.heap.size + 1 + 1, _) (List.Mem.tail _ (List.Mem.head _))
  have ng10x2 : Hid (w.heap.size + 1 ≠ g10) := hfg10 (w.heap.size + 1, _) (List.Mem.tail _ (List.Mem.tail _ (List.Mem.head _)))
  have ng10x3 : Hid (w.heap.size ≠ g10) := hfg10 (w.heap.size, _) (List.Mem.tail _ (List.Mem.tail _ (List.Mem.tail _ (List.Mem.head _))))
  clear hfg10
  refine (gOp_store rfl (g10) (idF (bytesOf b)) rfl rfl hbg10 30 (idF (fun _ => 0)) (List.Mem.head _) (infoId _ (idF_size _)) ((idF_size _).trans (idF_size _).symm) (idF_one _) [(g10, (io (bytesOf b))), (g7, (io (bytesOf a))), (w.heap.size + 1 + 1, (wo (c))), (w.heap.size + 1, (wo (b))), (w.heap.size, (wo (a)))] (List.forall_mem_cons.2 ⟨.inl rfl, (List.forall_mem_cons.2 ⟨.inr ⟨(List.Mem.tail _ (List.Mem.head _)), ng10x0.out⟩, (List.forall_mem_cons.2 ⟨.inr ⟨(List.Mem.tail _ (List.Mem.tail _ (List.Mem.head _))), ng10x1.out⟩, (List.forall_mem_cons.2 ⟨.inr ⟨(List.Mem.tail _ (List.Mem.tail _ (List.Mem.tail _ (List.Mem.head _)))), ng10x2.out⟩, (List.forall_mem_cons.2 ⟨.inr ⟨(List.Mem.tail _ (List.Mem.tail _ (List.Mem.tail _ (List.Mem.tail _ (List.Mem.head _))))), ng10x3.out⟩, (fun _ h => by cases h)⟩)⟩)⟩)⟩)⟩) ?_)
  rintro u12 ⟨hl2, E2'⟩
  have EX11 := Lib.hid E2'
  clear hl2 E2' EX8
  go_upto_region 7 with (fail)
  refine wp_region_G (w0 := w) [0, 1, 2, 3, 4, 5] [(g10, (io (bytesOf b))), (g7, (io (bytesOf a))), (w.heap.size + 1 + 1, (wo (c))), (w.heap.size + 1, (wo (b))), (w.heap.size, (wo (a)))] 0 (by kernel_rfl) (by kernel_rfl) rfl EX11.out ?_
  have hone := @EnvC.one _ _ _ (EX11.out.drew)
  (refine wpG_val (v := .slice (some ⟨g7, 0, none⟩) 32 32) rfl rfl (fun u _ => slice_op rfl u) ?_ (EX11.out.drew); intro K hK; go_big_quiet_op; go_big_quiet_on)
  (refine wpG_val (v := .string (strOfNums (listF (bytesOf a)))) rfl rfl (fun u _ => conv_op rfl u (EnvC.box (by assumption) _ _ (List.Mem.tail _ (List.Mem.head _)))) ?_ (EX11.out.drew); intro K hK; go_big_quiet_op; go_big_quiet_on)
  (refine wpG_val (v := .slice (some ⟨g10, 0, none⟩) 32 32) rfl rfl (fun u _ => slice_op rfl u) ?_ (EX11.out.drew); intro K hK; go_big_quiet_op; go_big_quiet_on)
  (refine wpG_val (v := .string (strOfNums (listF (bytesOf b)))) rfl rfl (fun u _ => conv_op rfl u (EnvC.box (by assumption) _ _ (List.Mem.head _))) ?_ (EX11.out.drew); intro K hK; go_big_quiet_op; go_big_quiet_on)
  (refine wpG_val (v := .bool false) rfl rfl (fun u _ => lss_op hl.out rfl rfl u) ?_ (EX11.out.drew); intro K hK; go_big_quiet_op; go_big_quiet_on)
  (refine wpG_op rfl rfl rfl ?_; intro K hK; go_big_quiet_op; go_big_quiet_on)
  clear hone
  refine wpG_nil ?_
  refine anyG_done (by kernel_rfl) ?_
  rintro u14 ⟨hl2, E2'⟩
  have EX13 := Lib.hid E2'
  clear hl2 E2' EX11
  go_upto_region 8 with (fail)
  refine wp_region_G (w0 := w) [0, 1, 2, 3, 4, 5, 6, 7, 8, 9, 10, 11, 12, 13, 14, 15, 16, 17, 18, 19, 20, 21, 22, 23, 24, 25, 26] [(g10, (io (bytesOf b))), (g7, (io (bytesOf a))), (w.heap.size + 1 + 1, (wo (c))), (w.heap.size + 1, (wo (b))), (w.heap.size, (wo (a)))] 0 (by kernel_rfl) (by kernel_rfl) rfl EX13.out ?_
  have hone := @EnvC.one _ _ _ (EX13.out.drew)
  (refine wpG_op rfl rfl rfl ?_; intro K hK; go_big_quiet_op; go_big_quiet_on)
  (refine wpG_op rfl rfl rfl ?_; intro K hK; go_big_quiet_op; go_big_quiet_on)
  (refine wpG_op rfl rfl rfl ?_; intro K hK; go_big_quiet_op; go_big_quiet_on)
  (refine wpG_op rfl rfl rfl ?_; intro K hK; go_big_quiet_op; go_big_quiet_on)
  (refine wpG_op rfl rfl rfl ?_; intro K hK; go_big_quiet_op; go_big_quiet_on)
  (refine wpG_load rfl rfl (g7) rfl 30 _ _ (fun u hu => EnvC.box hu _ (io (bytesOf a)) (List.Mem.tail _ (List.Mem.head _))) Try.underlying30 rfl (infoId _ (idF_size _)) ?_ (EX13.out.drew); intro K hK; go_big_quiet_op; go_big_quiet_on)
  (refine wpG_call (f := 21) (args := #[.agg (idF (bytesOf a))]) (v := .agg (wcs (a))) rfl rfl rfl Try.func21 rfl rfl (fun u _ => of32_bytes a u ha.out) ?_ (EX13.out.drew); intro K hK; go_big_quiet_op; go_big_quiet_on)
  (refine wpG_load rfl rfl (w.heap.size) rfl 24 _ _ (fun u hu => EnvC.box hu _ (wo (a)) (List.Mem.tail _ (List.Mem.tail _ (List.Mem.tail _ (List.Mem.tail _ (List.Mem.head _)))))) Try.underlying24 rfl (wc_info _) ?_ (EX13.out.drew); intro K hK; go_big_quiet_op; go_big_quiet_on)
  (refine wpG_val (v := .bool (true)) rfl rfl (fun u _ => eql_op (ha.out) (ha.out) (eqN_same a) rfl rfl u) ?_ (EX13.out.drew); intro K hK; go_big_quiet_op; go_big_quiet_on)
  (refine wpG_op rfl rfl rfl ?_; intro K hK; go_big_quiet_op; go_big_quiet_on)
  (refine wpG_op rfl rfl rfl ?_; intro K hK; go_big_quiet_op; go_big_quiet_on)
  (refine wpG_op rfl rfl rfl ?_; intro K hK; go_big_quiet_op; go_big_quiet_on)
  (refine wpG_op rfl rfl rfl ?_; intro K hK; go_big_quiet_op; go_big_quiet_on)
  (refine wpG_op rfl rfl rfl ?_; intro K hK; go_big_quiet_op; go_big_quiet_on)
  (refine wpG_skip rfl rfl ?_ EX13.out.drew; intro K hK; go_big_quiet_op; go_big_quiet_on)
  (refine wpG_skip rfl rfl ?_ EX13.out.drew; intro K hK; go_big_quiet_op; go_big_quiet_on)
  (refine wpG_skip rfl rfl ?_ EX13.out.drew; intro K hK; go_big_quiet_op; go_big_quiet_on)
  (refine wpG_skip rfl rfl ?_ EX13.out.drew; intro K hK; go_big_quiet_op; go_big_quiet_on)
  (refine wpG_op rfl rfl rfl ?_; intro K hK; go_big_quiet_op; go_big_quiet_on)
  (refine wpG_op rfl rfl rfl ?_; intro K hK; go_big_quiet_op; go_big_quiet_on)
  (refine wpG_skip rfl rfl ?_ EX13.out.drew; intro K hK; go_big_quiet_op; go_big_quiet_on)
  (refine wpG_skip rfl rfl ?_ EX13.out.drew; intro K hK; go_big_quiet_op; go_big_quiet_on)
  (refine wpG_skip rfl rfl ?_ EX13.out.drew; intro K hK; go_big_quiet_op; go_big_quiet_on)
  (refine wpG_skip rfl rfl ?_ EX13.out.drew; intro K hK; go_big_quiet_op; go_big_quiet_on)
  (refine wpG_op rfl rfl rfl ?_; intro K hK; go_big_quiet_op; go_big_quiet_on)
  (refine wpG_op rfl rfl rfl ?_; intro K hK; go_big_quiet_op; go_big_quiet_on)
  (refine wpG_op rfl rfl rfl ?_; intro K hK; go_big_quiet_op; go_big_quiet_on)
  clear hone
  refine wpG_nil ?_
  refine anyG_done (by kernel_rfl) ?_
  rintro u16 ⟨hl2, E2'⟩
  have EX15 := Lib.hid E2'
  clear hl2 E2' EX13
  go_wp2_with fail
  go_ret
  exact ⟨rfl, EX15.out.bel⟩
set_option maxRecDepth 100000 in
set_option maxHeartbeats 8000000 in
theorem worder_ge (a b c : Nat) (ha : Hid (a < Big)) (hb : Hid (b < Big)) (hc : Hid (c < Big)) (h1 : Hid (cmpI a b = (-1))) (h2 : Hid (cmpI b a = 1)) (e1 : Hid (eqN a b = false)) (hl : Hid (Go.Op.bytesLess (strOfNums (listF (bytesOf a))).toList (strOfNums (listF (bytesOf b))).toList = true)) (c3 : Int) (h3 : Hid (cmpI b c = c3)) (n3 : 0 ≤ c3) (w : World) :
    Calls Try.prog 6 #[.agg (wcs (a)), .agg (wcs (b)), .agg (wcs (c))] w fun e w' => e = .returned (.bool true) ∧ Below w.heap.size w w' := by
  have E1 : Hid (EnvX w (((w.alloc (.cells (wcs (a)) 24)).alloc (.cells (wcs (b)) 24)).alloc (.cells (wcs (c)) 24)) [(w.heap.size + 1 + 1, (wo (c))), (w.heap.size + 1, (wo (b))), (w.heap.size, (wo (a)))]) := by
    have h := ((((EnvX.start w).new (wo (a))).new (wo (b))).new (wo (c)))
    try simp only [World.size_alloc] at h
    exact h
  go_enter Try.func6, Try.ntmps6
  go_upto_region 1 with (fail)
  generalize (((w.alloc (.cells (wcs (a)) 24)).alloc (.cells (wcs (b)) 24)).alloc (.cells (wcs (c)) 24)) = w1 at *
  refine wp_region_Gx (w0 := w) [0, 1] [] [(w.heap.size + 1 + 1, (wo (c))), (w.heap.size + 1, (wo (b))), (w.heap.size, (wo (a)))] rfl E1.out ?_
  have hone := @EnvC.one _ _ _ (E1.out)
  (refine wpG_call (f := 10) (args := #[]) (v := .bool true) rfl rfl rfl Try.func10 rfl rfl (fun u _ => awake_any u) ?_ (E1.out); intro K hK; go_big_quiet_op; go_big_quiet_on)
  (refine wpG_op rfl rfl rfl ?_; intro K hK; go_big_quiet_op; go_big_quiet_on)
  clear hone
  refine wpG_nil ?_
  rintro u2 ⟨hl2, E2'⟩
  have EX1 := Lib.hid E2'
  clear hl2 E2' E1
  go_upto_region 2 with (fail)
  refine wp_region_Gx (w0 := w) [0, 1, 2, 3] [] [(w.heap.size + 1 + 1, (wo (c))), (w.heap.size + 1, (wo (b))), (w.heap.size, (wo (a)))] rfl EX1.out ?_
  have hone := @EnvC.one _ _ _ (EX1.out)
  (refine wpG_load rfl rfl (w.heap.size) rfl 24 _ _ (fun u hu => EnvC.box hu _ (wo (a)) (List.Mem.tail _ (List.Mem.tail _ (List.Mem.head _)))) Try.underlying24 rfl (wc_info _) ?_ (EX1.out); intro K hK; go_big_quiet_op; go_big_quiet_on)
  (refine wpG_load rfl rfl (w.heap.size + 1) rfl 24 _ _ (fun u hu => EnvC.box hu _ (wo (b)) (List.Mem.tail _ (List.Mem.head _))) Try.underlying24 rfl (wc_info _) ?_ (EX1.out); intro K hK; go_big_quiet_op; go_big_quiet_on)
  (refine wpG_call (f := 23) (args := #[.agg (wcs (a)), .agg (wcs (b))]) (v := .int .i64 (-1)) rfl rfl rfl Try.func23 rfl rfl (fun u _ => (by rw [← h1.out]; exact cmp_any (a) (b) u ha.out hb.out)) ?_ (EX1.out); intro K hK; go_big_quiet_op; go_big_quiet_on)
  (refine wpG_op rfl rfl rfl ?_; intro K hK; go_big_quiet_op; go_big_quiet_on)
  clear hone
  refine wpG_nil ?_
  rintro u4 ⟨hl2, E2'⟩
  have EX3 := Lib.hid E2'
  clear hl2 E2' EX1
  go_upto_region 3 with (fail)
  refine wp_region_Gx (w0 := w) [0, 1, 2, 3, 4, 5, 6, 7, 8, 9, 10, 11, 12, 13, 14, 15, 16, 17, 18, 19, 20, 21, 22, 23, 24, 25] [] [(w.heap.size + 1 + 1, (wo (c))), (w.heap.size + 1, (wo (b))), (w.heap.size, (wo (a)))] rfl EX3.out ?_
  have hone := @EnvC.one _ _ _ (EX3.out)
  (refine wpG_op rfl rfl rfl ?_; intro K hK; go_big_quiet_op; go_big_quiet_on)
  (refine wpG_op rfl rfl rfl ?_; intro K hK; go_big_quiet_op; go_big_quiet_on)
  (refine wpG_op rfl rfl rfl ?_; intro K hK; go_big_quiet_op; go_big_quiet_on)
  (refine wpG_op rfl rfl rfl ?_; intro K hK; go_big_quiet_op; go_big_quiet_on)
  (refine wpG_load rfl rfl (w.heap.size + 1) rfl 24 _ _ (fun u hu => EnvC.box hu _ (wo (b)) (List.Mem.tail _ (List.Mem.head _))) Try.underlying24 rfl (wc_info _) ?_ (EX3.out); intro K hK; go_big_quiet_op; go_big_quiet_on)
  (refine wpG_load rfl rfl (w.heap.size) rfl 24 _ _ (fun u hu => EnvC.box hu _ (wo (a)) (List.Mem.tail _ (List.Mem.tail _ (List.Mem.head _)))) Try.underlying24 rfl (wc_info _) ?_ (EX3.out); intro K hK; go_big_quiet_op; go_big_quiet_on)
  (refine wpG_call (f := 23) (args := #[.agg (wcs (b)), .agg (wcs (a))]) (v := .int .i64 1) rfl rfl rfl Try.func23 rfl rfl (fun u _ => (by rw [← h2.out]; exact cmp_any (b) (a) u hb.out ha.out)) ?_ (EX3.out); intro K hK; go_big_quiet_op; go_big_quiet_on)
  (refine wpG_op rfl rfl rfl ?_; intro K hK; go_big_quiet_op; go_big_quiet_on)
  (refine wpG_op rfl rfl rfl ?_; intro K hK; go_big_quiet_op; go_big_quiet_on)
  (refine wpG_op rfl rfl rfl ?_; intro K hK; go_big_quiet_op; go_big_quiet_on)
  (refine wpG_op rfl rfl rfl ?_; intro K hK; go_big_quiet_op; go_big_quiet_on)
  (refine wpG_op rfl rfl rfl ?_; intro K hK; go_big_quiet_op; go_big_quiet_on)
  (refine wpG_op rfl rfl rfl ?_; intro K hK; go_big_quiet_op; go_big_quiet_on)
  (refine wpG_load rfl rfl (w.heap.size) rfl 24 _ _ (fun u hu => EnvC.box hu _ (wo (a)) (List.Mem.tail _ (List.Mem.tail _ (List.Mem.head _)))) Try.underlying24 rfl (wc_info _) ?_ (EX3.out); intro K hK; go_big_quiet_op; go_big_quiet_on)
  (refine wpG_load rfl rfl (w.heap.size + 1) rfl 24 _ _ (fun u hu => EnvC.box hu _ (wo (b)) (List.Mem.tail _ (List.Mem.head _))) Try.underlying24 rfl (wc_info _) ?_ (EX3.out); intro K hK; go_big_quiet_op; go_big_quiet_on)
  (refine wpG_val (v := .bool (false)) rfl rfl (fun u _ => eql_op (ha.out) (hb.out) (e1.out) rfl rfl u) ?_ (EX3.out); intro K hK; go_big_quiet_op; go_big_quiet_on)
  (refine wpG_op rfl rfl rfl ?_; intro K hK; go_big_quiet_op; go_big_quiet_on)
  (refine wpG_op rfl rfl rfl ?_; intro K hK; go_big_quiet_op; go_big_quiet_on)
  (refine wpG_op rfl rfl rfl ?_; intro K hK; go_big_quiet_op; go_big_quiet_on)
  (refine wpG_op rfl rfl rfl ?_; intro K hK; go_big_quiet_op; go_big_quiet_on)
  (refine wpG_op rfl rfl rfl ?_; intro K hK; go_big_quiet_op; go_big_quiet_on)
  (refine wpG_op rfl rfl rfl ?_; intro K hK; go_big_quiet_op; go_big_quiet_on)
  (refine wpG_op rfl rfl rfl ?_; intro K hK; go_big_quiet_op; go_big_quiet_on)
  (refine wpG_op rfl rfl rfl ?_; intro K hK; go_big_quiet_op; go_big_quiet_on)
  (refine wpG_op rfl rfl rfl ?_; intro K hK; go_big_quiet_op; go_big_quiet_on)
  (refine wpG_op rfl rfl rfl ?_; intro K hK; go_big_quiet_op; go_big_quiet_on)
  clear hone
  refine wpG_nil ?_
  rintro u6 ⟨hl2, E2'⟩
  have EX5 := Lib.hid E2'
  clear hl2 E2' EX3
  go_upto_region 5 with (fail)
  refine wp_region_Gx (w0 := w) [0, 1] [2, 3] [(w.heap.size + 1 + 1, (wo (c))), (w.heap.size + 1, (wo (b))), (w.heap.size, (wo (a)))] rfl EX5.out ?_
  have hone := @EnvC.one _ _ _ (EX5.out)
  (refine wpG_load rfl rfl (w.heap.size) rfl 24 _ _ (fun u hu => EnvC.box hu _ (wo (a)) (List.Mem.tail _ (List.Mem.tail _ (List.Mem.head _)))) Try.underlying24 rfl (wc_info _) ?_ (EX5.out); intro K hK; go_big_quiet_op; go_big_quiet_on)
  (refine wpG_call (f := 19) (args := #[.agg (wcs (a))]) (v := .agg (idF (bytesOf a))) rfl rfl rfl Try.func19 rfl rfl (fun u _ => bytes_any a u) ?_ (EX5.out); intro K hK; go_big_quiet_op; go_big_quiet_on)
  clear hone
  refine wpG_nil ?_
  (refine (gOp_new (io (fun _ => 0)) rfl (new_id _) ?_); intro g7 hbg7 hfg7; intro K' hK'; go_big_quiet_op; go_big_quiet_on)
  have ng7x0 : Hid (w.heap.size + 1 + 1 ≠ g7) := hfg7 (w.heap.size + 1 + 1, _) (List.Mem.head _)
  have ng7x1 : Hid (w.heap.size + 1 ≠ g7) := hfg7 (w.heap.size + 1, _) (List.Mem.tail _ (List.Mem.head _))
  have ng7x2 : Hid (w.heap.size ≠ g7) := hfg7 (w.heap.size, _) (List.Mem.tail _ (List.Mem.tail _ (List.Mem.head _)))
  clear hfg7
  refine (gOp_store rfl (g7) (idF (bytesOf a)) rfl rfl hbg7 30 (idF (fun _ => 0)) (List.Mem.head _) (infoId _ (idF_size _)) ((idF_size _).trans (idF_size _).symm) (idF_one _) [(g7, (io (bytesOf a))), (w.heap.size + 1 + 1, (wo (c))), (w.heap.size + 1, (wo (b))), (w.heap.size, (wo (a)))] (List.forall_mem_cons.2 ⟨.inl rfl, (List.forall_mem_cons.2 ⟨.inr ⟨(List.Mem.tail _ (List.Mem.head _)), ng7x0.out⟩, (List.forall_mem_cons.2 ⟨.inr ⟨(List.Mem.tail _ (List.Mem.tail _ (List.Mem.head _))), ng7x1.out⟩, (List.forall_mem_cons.2 ⟨.inr ⟨(List.Mem.tail _ (List.Mem.tail _ (List.Mem.tail _ (List.Mem.head _)))), ng7x2.out⟩, (fun _ h => by cases h)⟩)⟩)⟩)⟩) ?_)
  rintro u9 ⟨hl2, E2'⟩
  have EX8 := Lib.hid E2'
  clear hl2 E2' EX5
  go_upto_region 6 with (fail)
  refine wp_region_Gx (w0 := w) [0, 1] [2, 3] [(g7, (io (bytesOf a))), (w.heap.size + 1 + 1, (wo (c))), (w.heap.size + 1, (wo (b))), (w.heap.size, (wo (a)))] rfl EX8.out ?_
  have hone := @EnvC.one _ _ _ (EX8.out)
  (refine wpG_load rfl rfl (w.heap.size + 1) rfl 24 _ _ (fun u hu => EnvC.box hu _ (wo (b)) (List.Mem.tail _ (List.Mem.tail _ (List.Mem.head _)))) Try.underlying24 rfl (wc_info _) ?_ (EX8.out); intro K hK; go_big_quiet_op; go_big_quiet_on)
  (refine wpG_call (f := 19) (args := #[.agg (wcs (b))]) (v := .agg (idF (bytesOf b))) rfl rfl rfl Try.func19 rfl rfl (fun u _ => bytes_any b u) ?_ (EX8.out); intro K hK; go_big_quiet_op; go_big_quiet_on)
  clear hone
  refine wpG_nil ?_
  (refine (gOp_new (io (fun _ => 0)) rfl (new_id _) ?_); intro g10 hbg10 hfg10; intro K' hK'; go_big_quiet_op; go_big_quiet_on)
  have ng10x0 : Hid (g7 ≠ g10) := hfg10 (g7, _) (List.Mem.head _)
  have ng10x1 : Hid (w.heap.size + 1 + 1 ≠ g10) := hfg10 (w.heap.size + 1 + 1, _) (List.Mem.tail _ (List.Mem.head _))
  have ng10x2 : Hid (w.heap.size + 1 ≠ g10) := hfg10 (w.heap.size + 1, _) (List.Mem.tail _ (List.Mem.tail _ (List.Mem.head _)))
  have ng10x3 : Hid (w.heap.size ≠ g10) := hfg10 (w.heap.size, _) (List.Mem.tail _ (List.Mem.tail _ (List.Mem.tail _ (List.Mem.head _))))
  clear hfg10
  refine (gOp_store rfl (g10) (idF (bytesOf b)) rfl rfl hbg10 30 (idF (fun _ => 0)) (List.Mem.head _) (infoId _ (idF_size _)) ((idF_size _).trans (idF_size _).symm) (idF_one _) [(g10, (io (bytesOf b))), (g7, (io (bytesOf a))), (w.heap.size + 1 + 1, (wo (c))), (w.heap.size + 1, (wo (b))), (w.heap.size, (wo (a)))] (List.forall_mem_cons.2 ⟨.inl rfl, (List.forall_mem_cons.2 ⟨.inr ⟨(List.Mem.tail _ (List.Mem.head _)), ng10x0.out⟩, (List.forall_mem_cons.2 ⟨.inr ⟨(List.Mem.tail _ (List.Mem.tail _ (List.Mem.head _))), ng10x1.out⟩, (List.forall_mem_cons.2 ⟨.inr ⟨(List.Mem.tail _ (List.Mem.tail _ (List.Mem.tail _ (List.Mem.head _)))), ng10x2.out⟩, (List.forall_mem_cons.2 ⟨.inr ⟨(List.Mem.tail _ (List.Mem.tail _ (List.Mem.tail _ (List.Mem.tail _ (List.Mem.head _))))), ng10x3.out⟩, (fun _ h => by cases h)⟩)⟩)⟩)⟩)⟩) ?_)
  rintro u12 ⟨hl2, E2'⟩
  have EX11 := Lib.hid E2'
  clear hl2 E2' EX8
  go_upto_region 7 with (fail)
  refine wp_region_G (w0 := w) [0, 1, 2, 3, 4, 5] [(g10, (io (bytesOf b))), (g7, (io (bytesOf a))), (w.heap.size + 1 + 1, (wo (c))), (w.heap.size + 1, (wo (b))), (w.heap.size, (wo (a)))] 0 (by kernel_rfl) (by kernel_rfl) rfl EX11.out ?_
  have hone := @EnvC.one _ _ _ (EX11.out.drew)
  (refine wpG_val (v := .slice (some ⟨g7, 0, none⟩) 32 32) rfl rfl (fun u _ => slice_op rfl u) ?_ (EX11.out.drew); intro K hK; go_big_quiet_op; go_big_quiet_on)
  (refine wpG_val (v := .string (strOfNums (listF (bytesOf a)))) rfl rfl (fun u _ => conv_op rfl u (EnvC.box (by assumption) _ _ (List.Mem.tail _ (List.Mem.head _)))) ?_ (EX11.out.drew); intro K hK; go_big_quiet_op; go_big_quiet_on)
  (refine wpG_val (v := .slice (some ⟨g10, 0, none⟩) 32 32) rfl rfl (fun u _ => slice_op rfl u) ?_ (EX11.out.drew); intro K hK; go_big_quiet_op; go_big_quiet_on)
  (refine wpG_val (v := .string (strOfNums (listF (bytesOf b)))) rfl rfl (fun u _ => conv_op rfl u (EnvC.box (by assumption) _ _ (List.Mem.head _))) ?_ (EX11.out.drew); intro K hK; go_big_quiet_op; go_big_quiet_on)
  (refine wpG_val (v := .bool true) rfl rfl (fun u _ => lss_op hl.out rfl rfl u) ?_ (EX11.out.drew); intro K hK; go_big_quiet_op; go_big_quiet_on)
  (refine wpG_op rfl rfl rfl ?_; intro K hK; go_big_quiet_op; go_big_quiet_on)
  clear hone
  refine wpG_nil ?_
  refine anyG_done (by kernel_rfl) ?_
  rintro u14 ⟨hl2, E2'⟩
  have EX13 := Lib.hid E2'
  clear hl2 E2' EX11
  go_upto_region 8 with (fail)
  refine wp_region_G (w0 := w) [0, 1, 2, 3, 4, 5, 6, 7, 8, 9, 10, 11, 12, 13, 14, 15, 16, 17, 18, 19, 20, 21, 22, 23, 24, 25, 26] [(g10, (io (bytesOf b))), (g7, (io (bytesOf a))), (w.heap.size + 1 + 1, (wo (c))), (w.heap.size + 1, (wo (b))), (w.heap.size, (wo (a)))] 0 (by kernel_rfl) (by kernel_rfl) rfl EX13.out ?_
  have hone := @EnvC.one _ _ _ (EX13.out.drew)
  (refine wpG_op rfl rfl rfl ?_; intro K hK; go_big_quiet_op; go_big_quiet_on)
  (refine wpG_op rfl rfl rfl ?_; intro K hK; go_big_quiet_op; go_big_quiet_on)
  (refine wpG_op rfl rfl rfl ?_; intro K hK; go_big_quiet_op; go_big_quiet_on)
  (refine wpG_op rfl rfl rfl ?_; intro K hK; go_big_quiet_op; go_big_quiet_on)
  (refine wpG_op rfl rfl rfl ?_; intro K hK; go_big_quiet_op; go_big_quiet_on)
  (refine wpG_load rfl rfl (g7) rfl 30 _ _ (fun u hu => EnvC.box hu _ (io (bytesOf a)) (List.Mem.tail _ (List.Mem.head _))) Try.underlying30 rfl (infoId _ (idF_size _)) ?_ (EX13.out.drew); intro K hK; go_big_quiet_op; go_big_quiet_on)
  (refine wpG_call (f := 21) (args := #[.agg (idF (bytesOf a))]) (v := .agg (wcs (a))) rfl rfl rfl Try.func21 rfl rfl (fun u _ => of32_bytes a u ha.out) ?_ (EX13.out.drew); intro K hK; go_big_quiet_op; go_big_quiet_on)
  (refine wpG_load rfl rfl (w.heap.size) rfl 24 _ _ (fun u hu => EnvC.box hu _ (wo (a)) (List.Mem.tail _ (List.Mem.tail _ (List.Mem.tail _ (List.Mem.tail _ (List.Mem.head _)))))) Try.underlying24 rfl (wc_info _) ?_ (EX13.out.drew); intro K hK; go_big_quiet_op; go_big_quiet_on)
  (refine wpG_val (v := .bool (true)) rfl rfl (fun u _ => eql_op (ha.out) (ha.out) (eqN_same a) rfl rfl u) ?_ (EX13.out.drew); intro K hK; go_big_quiet_op; go_big_quiet_on)
  (refine wpG_op rfl rfl rfl ?_; intro K hK; go_big_quiet_op; go_big_quiet_on)
  (refine wpG_op rfl rfl rfl ?_; intro K hK; go_big_quiet_op; go_big_quiet_on)
  (refine wpG_op rfl rfl rfl ?_; intro K hK; go_big_quiet_op; go_big_quiet_on)
  (refine wpG_op rfl rfl rfl ?_; intro K hK; go_big_quiet_op; go_big_quiet_on)
  (refine wpG_op rfl rfl rfl ?_; intro K hK; go_big_quiet_op; go_big_quiet_on)
  (refine wpG_load rfl rfl (w.heap.size + 1) rfl 24 _ _ (fun u hu => EnvC.box hu _ (wo (b)) (List.Mem.tail _ (List.Mem.tail _ (List.Mem.tail _ (List.Mem.head _))))) Try.underlying24 rfl (wc_info _) ?_ (EX13.out.drew); intro K hK; go_big_quiet_op; go_big_quiet_on)
  (refine wpG_load rfl rfl (w.heap.size + 1 + 1) rfl 24 _ _ (fun u hu => EnvC.box hu _ (wo (c)) (List.Mem.tail _ (List.Mem.tail _ (List.Mem.head _)))) Try.underlying24 rfl (wc_info _) ?_ (EX13.out.drew); intro K hK; go_big_quiet_op; go_big_quiet_on)
  (refine wpG_call (f := 23) (args := #[.agg (wcs (b)), .agg (wcs (c))]) (v := .int .i64 c3) rfl rfl rfl Try.func23 rfl rfl (fun u _ => (by rw [← h3.out]; exact cmp_any (b) (c) u hb.out hc.out)) ?_ (EX13.out.drew); intro K hK; go_big_quiet_op; go_big_quiet_on)
  (refine wpG_op rfl rfl rfl ?_; intro K hK; go_big_quiet_op; go_big_quiet_on)
  (refine wpG_op rfl rfl rfl ?_; intro K hK; go_big_quiet_op; go_big_quiet_on)
  (refine wpG_op rfl rfl rfl ?_; intro K hK; go_big_quiet_op; go_big_quiet_on)
  (refine wpG_skip rfl rfl ?_ EX13.out.drew; intro K hK; go_big_quiet_op; go_big_quiet_on)
  (refine wpG_skip rfl rfl ?_ EX13.out.drew; intro K hK; go_big_quiet_op; go_big_quiet_on)
  (refine wpG_skip rfl rfl ?_ EX13.out.drew; intro K hK; go_big_quiet_op; go_big_quiet_on)
  (refine wpG_skip rfl rfl ?_ EX13.out.drew; intro K hK; go_big_quiet_op; go_big_quiet_on)
  (refine wpG_op rfl rfl rfl ?_; intro K hK; go_big_quiet_op; go_big_quiet_on)
  (refine wpG_op rfl rfl rfl ?_; intro K hK; go_big_quiet_op; go_big_quiet_on)
  (refine wpG_op rfl rfl rfl ?_; intro K hK; go_big_quiet_op; go_big_quiet_on)
  clear hone
  refine wpG_nil ?_
  refine anyG_done (by kernel_rfl) ?_
  rintro u16 ⟨hl2, E2'⟩
  have EX15 := Lib.hid E2'
  clear hl2 E2' EX13
  go_wp2_with fail
  go_ret
  exact ⟨rfl, EX15.out.bel⟩
set_option maxRecDepth 100000 in
set_option maxHeartbeats 8000000 in
theorem worder_lt (a b c : Nat) (ha : Hid (a < Big)) (hb : Hid (b < Big)) (hc : Hid (c < Big)) (h1 : Hid (cmpI a b = (-1))) (h2 : Hid (cmpI b a = 1)) (e1 : Hid (eqN a b = false)) (hl : Hid (Go.Op.bytesLess (strOfNums (listF (bytesOf a))).toList (strOfNums (listF (bytesOf b))).toList = true)) (c3 : Int) (h3 : Hid (cmpI b c = c3)) (n3 : ¬ 0 ≤ c3) (h4 : Hid (cmpI a c = -1)) (w : World) :
    Calls Try.prog 6 #[.agg (wcs (a)), .agg (wcs (b)), .agg (wcs (c))] w fun e w' => e = .returned (.bool true) ∧ Below w.heap.size w w' := by
  have E1 : Hid (EnvX w (((w.alloc (.cells (wcs (a)) 24)).alloc (.cells (wcs (b)) 24)).alloc (.cells (wcs (c)) 24)) [(w.heap.size + 1 + 1, (wo (c))), (w.heap.size + 1, (wo (b))), (w.heap.size, (wo (a)))]) := by
    have h := ((((EnvX.start w).new (wo (a))).new (wo (b))).new (wo (c)))
    try simp only [World.size_alloc] at h
    exact h
  go_enter Try.func6, Try.ntmps6
  go_upto_region 1 with (fail)
  generalize (((w.alloc (.cells (wcs (a)) 24)).alloc (.cells (wcs (b)) 24)).alloc (.cells (wcs (c)) 24)) = w1 at *
  refine wp_region_Gx (w0 := w) [0, 1] [] [(w.heap.size + 1 + 1, (wo (c))), (w.heap.size + 1, (wo (b))), (w.heap.size, (wo (a)))] rfl E1.out ?_
  have hone := @EnvC.one _ _ _ (E1.out)
  (refine wpG_call (f := 10) (args := #[]) (v := .bool true) rfl rfl rfl Try.func10 rfl rfl (fun u _ => awake_any u) ?_ (E1.out); intro K hK; go_big_quiet_op; go_big_quiet_on)
  (refine wpG_op rfl rfl rfl ?_; intro K hK; go_big_quiet_op; go_big_quiet_on)
  clear hone
  refine wpG_nil ?_
  rintro u2 ⟨hl2, E2'⟩
  have EX1 := Lib.hid E2'
  clear hl2 E2' E1
  go_upto_region 2 with (fail)
  refine wp_region_Gx (w0 := w) [0, 1, 2, 3] [] [(w.heap.size + 1 + 1, (wo (c))), (w.heap.size + 1, (wo (b))), (w.heap.size, (wo (a)))] rfl EX1.out ?_
  have hone := @EnvC.one _ _ _ (EX1.out)
  (refine wpG_load rfl rfl (w.heap.size) rfl 24 _ _ (fun u hu => EnvC.box hu _ (wo (a)) (List.Mem.tail _ (List.Mem.tail _ (List.Mem.head _)))) Try.underlying24 rfl (wc_info _) ?_ (EX1.out); intro K hK; go_big_quiet_op; go_big_quiet_on)
  (refine wpG_load rfl rfl (w.heap.size + 1) rfl 24 _ _ (fun u hu => EnvC.box hu _ (wo (b)) (List.Mem.tail _ (List.Mem.head _))) Try.underlying24 rfl (wc_info _) ?_ (EX1.out); intro K hK; go_big_quiet_op; go_big_quiet_on)
  (refine wpG_call (f := 23) (args := #[.agg (wcs (a)), .agg (wcs (b))]) (v := .int .i64 (-1)) rfl rfl rfl Try.func23 rfl rfl (fun u _ => (by rw [← h1.out]; exact cmp_any (a) (b) u ha.out hb.out)) ?_ (EX1.out); intro K hK; go_big_quiet_op; go_big_quiet_on)
  (refine wpG_op rfl rfl rfl ?_; intro K hK; go_big_quiet_op; go_big_quiet_on)
  clear hone
  refine wpG_nil ?_
  rintro u4 ⟨hl2, E2'⟩
  have EX3 := Lib.hid E2'
  clear hl2 E2' EX1
  go_upto_region 3 with (fail)
  refine wp_region_Gx (w0 := w) [0, 1, 2, 3, 4, 5, 6, 7, 8, 9, 10, 11, 12, 13, 14, 15, 16, 17, 18, 19, 20, 21, 22, 23, 24, 25] [] [(w.heap.size + 1 + 1, (wo (c))), (w.heap.size + 1, (wo (b))), (w.heap.size, (wo (a)))] rfl EX3.out ?_
  have hone := @EnvC.one _ _ _ (EX3.out)
  (refine wpG_op rfl rfl rfl ?_; intro K hK; go_big_quiet_op; go_big_quiet_on)
  (refine wpG_op rfl rfl rfl ?_; intro K hK; go_big_quiet_op; go_big_quiet_on)
  (refine wpG_op rfl rfl rfl ?_; intro K hK; go_big_quiet_op; go_big_quiet_on)
  (refine wpG_op rfl rfl rfl ?_; intro K hK; go_big_quiet_op; go_big_quiet_on)
  (refine wpG_load rfl rfl (w.heap.size + 1) rfl 24 _ _ (fun u hu => EnvC.box hu _ (wo (b)) (List.Mem.tail _ (List.Mem.head _))) Try.underlying24 rfl (wc_info _) ?_ (EX3.out); intro K hK; go_big_quiet_op; go_big_quiet_on)
  (refine wpG_load rfl rfl (w.heap.size) rfl 24 _ _ (fun u hu => EnvC.box hu _ (wo (a)) (List.Mem.tail _ (List.Mem.tail _ (List.Mem.head _)))) Try.underlying24 rfl (wc_info _) ?_ (EX3.out); intro K hK; go_big_quiet_op; go_big_quiet_on)
  (refine wpG_call (f := 23) (args := #[.agg (wcs (b)), .agg (wcs (a))]) (v := .int .i64 1) rfl rfl rfl Try.func23 rfl rfl (fun u _ => (by rw [← h2.out]; exact cmp_any (b) (a) u hb.out ha.out)) ?_ (EX3.out); intro K hK; go_big_quiet_op; go_big_quiet_on)
  (refine wpG_op rfl rfl rfl ?_; intro K hK; go_big_quiet_op; go_big_quiet_on)
  (refine wpG_op rfl rfl rfl ?_; intro K hK; go_big_quiet_op; go_big_quiet_on)
  (refine wpG_op rfl rfl rfl ?_; intro K hK; go_big_quiet_op; go_big_quiet_on)
  (refine wpG_op rfl rfl rfl ?_; intro K hK; go_big_quiet_op; go_big_quiet_on)
  (refine wpG_op rfl rfl rfl ?_; intro K hK; go_big_quiet_op; go_big_quiet_on)
  (refine wpG_op rfl rfl rfl ?_; intro K hK; go_big_quiet_op; go_big_quiet_on)
  (refine wpG_load rfl rfl (w.heap.size) rfl 24 _ _ (fun u hu => EnvC.box hu _ (wo (a)) (List.Mem.tail _ (List.Mem.tail _ (List.Mem.head _)))) Try.underlying24 rfl (wc_info _) ?_ (EX3.out); intro K hK; go_big_quiet_op; go_big_quiet_on)
  (refine wpG_load rfl rfl (w.heap.size + 1) rfl 24 _ _ (fun u hu => EnvC.box hu _ (wo (b)) (List.Mem.tail _ (List.Mem.head _))) Try.underlying24 rfl (wc_info _) ?_ (EX3.out); intro K hK; go_big_quiet_op; go_big_quiet_on)
  (refine wpG_val (v := .bool (false)) rfl rfl (fun u _ => eql_op (ha.out) (hb.out) (e1.out) rfl rfl u) ?_ (EX3.out); intro K hK; go_big_quiet_op; go_big_quiet_on)
  (refine wpG_op rfl rfl rfl ?_; intro K hK; go_big_quiet_op; go_big_quiet_on)
  (refine wpG_op rfl rfl rfl ?_; intro K hK; go_big_quiet_op; go_big_quiet_on)
  (refine wpG_op rfl rfl rfl ?_; intro K hK; go_big_quiet_op; go_big_quiet_on)
  (refine wpG_op rfl rfl rfl ?_; intro K hK; go_big_quiet_op; go_big_quiet_on)
  (refine wpG_op rfl rfl rfl ?_; intro K hK; go_big_quiet_op; go_big_quiet_on)
  (refine wpG_op rfl rfl rfl ?_; intro K hK; go_big_quiet_op; go_big_quiet_on)
  (refine wpG_op rfl rfl rfl ?_; intro K hK; go_big_quiet_op; go_big_quiet_on)
  (refine wpG_op rfl rfl rfl ?_; intro K hK; go_big_quiet_op; go_big_quiet_on)
  (refine wpG_op rfl rfl rfl ?_; intro K hK; go_big_quiet_op; go_big_quiet_on)
  (refine wpG_op rfl rfl rfl ?_; intro K hK; go_big_quiet_op; go_big_quiet_on)
  clear hone
  refine wpG_nil ?_
  rintro u6 ⟨hl2, E2'⟩
  have EX5 := Lib.hid E2'
  clear hl2 E2' EX3
  go_upto_region 5 with (fail)
  refine wp_region_Gx (w0 := w) [0, 1] [2, 3] [(w.heap.size + 1 + 1, (wo (c))), (w.heap.size + 1, (wo (b))), (w.heap.size, (wo (a)))] rfl EX5.out ?_
  have hone := @EnvC.one _ _ _ (EX5.out)
  (refine wpG_load rfl rfl (w.heap.size) rfl 24 _ _ (fun u hu => EnvC.box hu _ (wo (a)) (List.Mem.tail _ (List.Mem.tail _ (List.Mem.head _)))) Try.underlying24 rfl (wc_info _) ?_ (EX5.out); intro K hK; go_big_quiet_op; go_big_quiet_on)
  (refine wpG_call (f := 19) (args := #[.agg (wcs (a))]) (v := .agg (idF (bytesOf a))) rfl rfl rfl Try.func19 rfl rfl (fun u _ => bytes_any a u) ?_ (EX5.out); intro K hK; go_big_quiet_op; go_big_quiet_on)
  clear hone
  refine wpG_nil ?_
  (refine (gOp_new (io (fun _ => 0)) rfl (new_id _) ?_); intro g7 hbg7 hfg7; intro K' hK'; go_big_quiet_op; go_big_quiet_on)
  have ng7x0 : Hid (w.heap.size + 1 + 1 ≠ g7) := hfg7 (w.heap.size + 1 + 1, _) (List.Mem.head _)
  have ng7x1 : Hid (w.heap.size + 1 ≠ g7) := hfg7 (w.heap.size + 1, _) (List.Mem.tail _ (List.Mem.head _))
  have ng7x2 : Hid (w.heap.size ≠ g7) := hfg7 (w.heap.size, _) (List.Mem.tail _ (List.Mem.tail _ (List.Mem.head _)))
  clear hfg7
  refine (gOp_store rfl (g7) (idF (bytesOf a)) rfl rfl hbg7 30 (idF (fun _ => 0)) (List.Mem.head _) (infoId _ (idF_size _)) ((idF_size _).trans (idF_size _).symm) (idF_one _) [(g7, (io (bytesOf a))), (w.heap.size + 1 + 1, (wo (c))), (w.heap.size + 1, (wo (b))), (w.heap.size, (wo (a)))] (List.forall_mem_cons.2 ⟨.inl rfl, (List.forall_mem_cons.2 ⟨.inr ⟨(List.Mem.tail _ (List.Mem.head _)), ng7x0.out⟩, (List.forall_mem_cons.2 ⟨.inr ⟨(List.Mem.tail _ (List.Mem.tail _ (List.Mem.head _))), ng7x1.out⟩, (List.forall_mem_cons.2 ⟨.inr ⟨(List.Mem.tail _ (List.Mem.tail _ (List.Mem.tail _ (List.Mem.head _)))), ng7x2.out⟩, (fun _ h => by cases h)⟩)⟩)⟩)⟩) ?_)
  rintro u9 ⟨hl2, E2'⟩
  have EX8 := Lib.hid E2'
  clear hl2 E2' EX5
  go_upto_region 6 with (fail)
  refine wp_region_Gx (w0 := w) [0, 1] [2, 3] [(g7, (io (bytesOf a))), (w.heap.size + 1 + 1, (wo (c))), (w.heap.size + 1, (wo (b))), (w.heap.size, (wo (a)))] rfl EX8.out ?_
  have hone := @EnvC.one _ _ _ (EX8.out)
  (refine wpG_load rfl rfl (w.heap.size + 1) rfl 24 _ _ (fun u hu => EnvC.box hu _ (wo (b)) (List.Mem.tail _ (List.Mem.tail _ (List.Mem.head _)))) Try.underlying24 rfl (wc_info _) ?_ (EX8.out); intro K hK; go_big_quiet_op; go_big_quiet_on)
  (refine wpG_call (f := 19) (args := #[.agg (wcs (b))]) (v := .agg (idF (bytesOf b))) rfl rfl rfl Try.func19 rfl rfl (fun u _ => bytes_any b u) ?_ (EX8.out); intro K hK; go_big_quiet_op; go_big_quiet_on)
  clear hone
  refine wpG_nil ?_
  (refine (gOp_new (io (fun _ => 0)) rfl (new_id _) ?_); intro g10 hbg10 hfg10; intro K' hK'; go_big_quiet_op; go_big_quiet_on)
  have ng10x0 : Hid (g7 ≠ g10) := hfg10 (g7, _) (List.Mem.head _)
  have ng10x1 : Hid (w.heap.size + 1 + 1 ≠ g10) := hfg10 (w.heap.size + 1 + 1, _) (List.Mem.tail _ (List.Mem.head _))
  have ng10x2 : Hid (w.heap.size + 1 ≠ g10) := hfg10 (w.heap.size + 1, _) (List.Mem.tail _ (List.Mem.tail _ (List.Mem.head _)))
  have ng10x3 : Hid (w.heap.size ≠ g10) := hfg10 (w.heap.size, _) (List.Mem.tail _ (List.Mem.tail _ (List.Mem.tail _ (List.Mem.head _))))
  clear hfg10
  refine (gOp_store rfl (g10) (idF (bytesOf b)) rfl rfl hbg10 30 (idF (fun _ => 0)) (List.Mem.head _) (infoId _ (idF_size _)) ((idF_size _).trans (idF_size _).symm) (idF_one _) [(g10, (io (bytesOf b))), (g7, (io (bytesOf a))), (w.heap.size + 1 + 1, (wo (c))), (w.heap.size + 1, (wo (b))), (w.heap.size, (wo (a)))] (List.forall_mem_cons.2 ⟨.inl rfl, (List.forall_mem_cons.2 ⟨.inr ⟨(List.Mem.tail _ (List.Mem.head _)), ng10x0.out⟩, (List.forall_mem_cons.2 ⟨.inr ⟨(List.Mem.tail _ (List.Mem.tail _ (List.Mem.head _))), ng10x1.out⟩, (List.forall_mem_cons.2 ⟨.inr ⟨(List.Mem.tail _ (List.Mem.tail _ (List.Mem.tail _ (List.Mem.head _)))), ng10x2.out⟩, (List.forall_mem_cons.2 ⟨.inr ⟨(List.Mem.tail _ (List.Mem.tail _ (List.Mem.tail _ (List.Mem.tail _ (List.Mem.head _))))), ng10x3.out⟩, (fun _ h => by cases h)⟩)⟩)⟩)⟩)⟩) ?_)
  rintro u12 ⟨hl2, E2'⟩
  have EX11 := Lib.hid E2'
  clear hl2 E2' EX8
  go_upto_region 7 with (fail)
  refine wp_region_G (w0 := w) [0, 1, 2, 3, 4, 5] [(g10, (io (bytesOf b))), (g7, (io (bytesOf a))), (w.heap.size + 1 + 1, (wo (c))), (w.heap.size + 1, (wo (b))), (w.heap.size, (wo (a)))] 0 (by kernel_rfl) (by kernel_rfl) rfl EX11.out ?_
  have hone := @EnvC.one _ _ _ (EX11.out.drew)
  (refine wpG_val (v := .slice (some ⟨g7, 0, none⟩) 32 32) rfl rfl (fun u _ => slice_op rfl u) ?_ (EX11.out.drew); intro K hK; go_big_quiet_op; go_big_quiet_on)
  (refine wpG_val (v := .string (strOfNums (listF (bytesOf a)))) rfl rfl (fun u _ => conv_op rfl u (EnvC.box (by assumption) _ _ (List.Mem.tail _ (List.Mem.head _)))) ?_ (EX11.out.drew); intro K hK; go_big_quiet_op; go_big_quiet_on)
  (refine wpG_val (v := .slice (some ⟨g10, 0, none⟩) 32 32) rfl rfl (fun u _ => slice_op rfl u) ?_ (EX11.out.drew); intro K hK; go_big_quiet_op; go_big_quiet_on)
  (refine wpG_val (v := .string (strOfNums (listF (bytesOf b)))) rfl rfl (fun u _ => conv_op rfl u (EnvC.box (by assumption) _ _ (List.Mem.head _))) ?_ (EX11.out.drew); intro K hK; go_big_quiet_op; go_big_quiet_on)
  (refine wpG_val (v := .bool true) rfl rfl (fun u _ => lss_op hl.out rfl rfl u) ?_ (EX11.out.drew); intro K hK; go_big_quiet_op; go_big_quiet_on)
  (refine wpG_op rfl rfl rfl ?_; intro K hK; go_big_quiet_op; go_big_quiet_on)
  clear hone
  refine wpG_nil ?_
  refine anyG_done (by kernel_rfl) ?_
  rintro u14 ⟨hl2, E2'⟩
  have EX13 := Lib.hid E2'
  clear hl2 E2' EX11
  go_upto_region 8 with (fail)
  refine wp_region_G (w0 := w) [0, 1, 2, 3, 4, 5, 6, 7, 8, 9, 10, 11, 12, 13, 14, 15, 16, 17, 18, 19, 20, 21, 22, 23, 24, 25, 26] [(g10, (io (bytesOf b))), (g7, (io (bytesOf a))), (w.heap.size + 1 + 1, (wo (c))), (w.heap.size + 1, (wo (b))), (w.heap.size, (wo (a)))] 0 (by kernel_rfl) (by kernel_rfl) rfl EX13.out ?_
  have hone := @EnvC.one _ _ _ (EX13.out.drew)
  (refine wpG_op rfl rfl rfl ?_; intro K hK; go_big_quiet_op; go_big_quiet_on)
  (refine wpG_op rfl rfl rfl ?_; intro K hK; go_big_quiet_op; go_big_quiet_on)
  (refine wpG_op rfl rfl rfl ?_; intro K hK; go_big_quiet_op; go_big_quiet_on)
  (refine wpG_op rfl rfl rfl ?_; intro K hK; go_big_quiet_op; go_big_quiet_on)
  (refine wpG_op rfl rfl rfl ?_; intro K hK; go_big_quiet_op; go_big_quiet_on)
  (refine wpG_load rfl rfl (g7) rfl 30 _ _ (fun u hu => EnvC.box hu _ (io (bytesOf a)) (List.Mem.tail _ (List.Mem.head _))) Try.underlying30 rfl (infoId _ (idF_size _)) ?_ (EX13.out.drew); intro K hK; go_big_quiet_op; go_big_quiet_on)
  (refine wpG_call (f := 21) (args := #[.agg (idF (bytesOf a))]) (v := .agg (wcs (a))) rfl rfl rfl Try.func21 rfl rfl (fun u _ => of32_bytes a u ha.out) ?_ (EX13.out.drew); intro K hK; go_big_quiet_op; go_big_quiet_on)
  (refine wpG_load rfl rfl (w.heap.size) rfl 24 _ _ (fun u hu => EnvC.box hu _ (wo (a)) (List.Mem.tail _ (List.Mem.tail _ (List.Mem.tail _ (List.Mem.tail _ (List.Mem.head _)))))) Try.underlying24 rfl (wc_info _) ?_ (EX13.out.drew); intro K hK; go_big_quiet_op; go_big_quiet_on)
  (refine wpG_val (v := .bool (true)) rfl rfl (fun u _ => eql_op (ha.out) (ha.out) (eqN_same a) rfl rfl u) ?_ (EX13.out.drew); intro K hK; go_big_quiet_op; go_big_quiet_on)
  (refine wpG_op rfl rfl rfl ?_; intro K hK; go_big_quiet_op; go_big_quiet_on)
  (refine wpG_op rfl rfl rfl ?_; intro K hK; go_big_quiet_op; go_big_quiet_on)
  (refine wpG_op rfl rfl rfl ?_; intro K hK; go_big_quiet_op; go_big_quiet_on)
  (refine wpG_op rfl rfl rfl ?_; intro K hK; go_big_quiet_op; go_big_quiet_on)
  (refine wpG_op rfl rfl rfl ?_; intro K hK; go_big_quiet_op; go_big_quiet_on)
  (refine wpG_load rfl rfl (w.heap.size + 1) rfl 24 _ _ (fun u hu => EnvC.box hu _ (wo (b)) (List.Mem.tail _ (List.Mem.tail _ (List.Mem.tail _ (List.Mem.head _))))) Try.underlying24 rfl (wc_info _) ?_ (EX13.out.drew); intro K hK; go_big_quiet_op; go_big_quiet_on)
  (refine wpG_load rfl rfl (w.heap.size + 1 + 1) rfl 24 _ _ (fun u hu => EnvC.box hu _ (wo (c)) (List.Mem.tail _ (List.Mem.tail _ (List.Mem.head _)))) Try.underlying24 rfl (wc_info _) ?_ (EX13.out.drew); intro K hK; go_big_quiet_op; go_big_quiet_on)
  (refine wpG_call (f := 23) (args := #[.agg (wcs (b)), .agg (wcs (c))]) (v := .int .i64 c3) rfl rfl rfl Try.func23 rfl rfl (fun u _ => (by rw [← h3.out]; exact cmp_any (b) (c) u hb.out hc.out)) ?_ (EX13.out.drew); intro K hK; go_big_quiet_op; go_big_quiet_on)
  (refine wpG_op rfl rfl rfl ?_; intro K hK; go_big_quiet_op; go_big_quiet_on)
  (refine wpG_op rfl rfl rfl ?_; intro K hK; go_big_quiet_op; go_big_quiet_on)
  (refine wpG_op rfl rfl rfl ?_; intro K hK; go_big_quiet_op; go_big_quiet_on)
  (refine wpG_load rfl rfl (w.heap.size) rfl 24 _ _ (fun u hu => EnvC.box hu _ (wo (a)) (List.Mem.tail _ (List.Mem.tail _ (List.Mem.tail _ (List.Mem.tail _ (List.Mem.head _)))))) Try.underlying24 rfl (wc_info _) ?_ (EX13.out.drew); intro K hK; go_big_quiet_op; go_big_quiet_on)
  (refine wpG_load rfl rfl (w.heap.size + 1 + 1) rfl 24 _ _ (fun u hu => EnvC.box hu _ (wo (c)) (List.Mem.tail _ (List.Mem.tail _ (List.Mem.head _)))) Try.underlying24 rfl (wc_info _) ?_ (EX13.out.drew); intro K hK; go_big_quiet_op; go_big_quiet_on)
  (refine wpG_call (f := 23) (args := #[.agg (wcs (a)), .agg (wcs (c))]) (v := .int .i64 (-1)) rfl rfl rfl Try.func23 rfl rfl (fun u _ => (by rw [← h4.out]; exact cmp_any (a) (c) u ha.out hc.out)) ?_ (EX13.out.drew); intro K hK; go_big_quiet_op; go_big_quiet_on)
  (refine wpG_op rfl rfl rfl ?_; intro K hK; go_big_quiet_op; go_big_quiet_on)
  (refine wpG_op rfl rfl rfl ?_; intro K hK; go_big_quiet_op; go_big_quiet_on)
  (refine wpG_op rfl rfl rfl ?_; intro K hK; go_big_quiet_op; go_big_quiet_on)
  (refine wpG_op rfl rfl rfl ?_; intro K hK; go_big_quiet_op; go_big_quiet_on)
  clear hone
  refine wpG_nil ?_
  refine anyG_done (by kernel_rfl) ?_
  rintro u16 ⟨hl2, E2'⟩
  have EX15 := Lib.hid E2'
  clear hl2 E2' EX13
  go_wp2_with fail
  go_ret
  exact ⟨rfl, EX15.out.bel⟩

theorem law_order (a b c : Nat) (w : World) (ha : a < Big) (hb : b < Big) (hc : c < Big) :
    Calls Try.prog 6 #[.agg (wcs a), .agg (wcs b), .agg (wcs c)] w fun e w' => e = .returned (.bool true) ∧ Below w.heap.size w w' := by
  have hl := less_strings a b ha hb
  have s1 := cmpI_all a b
  have s2 := cmpI_all b a
  have s3 := cmpI_all a c
  have g := cmpI_ge b c
  rcases Nat.lt_trichotomy a b with h | h | h
  · have e : eqN a b = false := by simp only [eqN]; simpa using Nat.ne_of_lt h
    have hl' := hl.trans (decide_eq_true h)
    by_cases hg : c ≤ b
    · exact worder_ge a b c ha hb hc (s1.1 h) (s2.2.2 h) e hl' _ rfl (by omega) w
    · exact worder_lt a b c ha hb hc (s1.1 h) (s2.2.2 h) e hl' _ rfl (by omega) (s3.1 (by omega)) w
  · exact worder_eq a b c ha hb hc (s1.2.1 h) (s2.2.1 h.symm) (show eqN a b = true by rw [h]; exact eqN_same b) (hl.trans (decide_eq_false (by omega))) w
  · have e : eqN a b = false := by simp only [eqN]; simpa using Nat.ne_of_gt h
    exact worder_gt a b c ha hb hc (s1.2.2 h) (s2.1 h) e (hl.trans (decide_eq_false (by omega))) w
end Go.Proofs.Ytcombekbeljflaa
