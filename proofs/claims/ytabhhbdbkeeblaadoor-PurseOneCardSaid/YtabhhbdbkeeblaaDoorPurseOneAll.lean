/-
  PROVED: the law stepladderlaw10.PurseOne answers true for every input, and leaves its arguments as they were.
  Conditions: the two package-level tables of package sha hold at the call what their initialisers lay; the card ties that to the text of the program (a pruned copy of the project: the packages that the roots of this seat load).
-/
import Derived.Test.YtabhhbdbkeeblaaDoorZp
namespace Go.Proofs.YtabhhbdbkeeblaaDoor
set_option maxRecDepth 8000
theorem apply_nil {p : List CoinR} (hm : mayP p = true) : applyP p [] = (p, 0) := by
  unfold applyP
  rw [if_neg (by rw [hm]; decide)]
  rfl
theorem loneX_no {t : TxR} {l : List TxR} (h : t.ins ≠ []) : loneX (t :: l) = false := by unfold loneX; simpa using h
theorem apply_one {p : List CoinR} (hm : mayP p = true) {t : TxR} (ht : t.ins ≠ []) : applyP p [t] = ((spendP p t).1, (spendP p t).2.2) := by
  unfold applyP
  rw [if_neg (by rw [hm]; decide), if_neg (by simp), loneX_no ht]
  simp only [Bool.false_eq_true, if_false]
  unfold runP
  rcases hs : spendP p t with ⟨q, n, e⟩
  cases e with
  | zero =>
    simp only
    unfold runP
    simp only
    rw [if_pos ht]
  | succ e =>
    obtain ⟨rfl, rfl⟩ := spend_err hs
    simp only
theorem apply_two {p : List CoinR} (hm : mayP p = true) {t u : TxR} (ht : t.ins ≠ []) (hu : u.ins ≠ []) : applyP p [t, u] =
    if (spendP p t).2.2 = 0 then (if (spendP (spendP p t).1 u).2.2 = 0 then ((spendP (spendP p t).1 u).1, 0) else (p, (spendP (spendP p t).1 u).2.2)) else (p, (spendP p t).2.2) := by
  unfold applyP
  rw [if_neg (by rw [hm]; decide), if_neg (by simp), loneX_no ht]
  simp only [Bool.false_eq_true, if_false]
  unfold runP
  rcases hs : spendP p t with ⟨q, n, e⟩
  cases e with
  | zero =>
    simp only
    unfold runP
    rcases hs2 : spendP q u with ⟨q2, n2, e2⟩
    cases e2 with
    | zero =>
      simp only
      unfold runP
      simp only
      rw [if_pos ht]
      simp
    | succ e2 => simp
  | succ e => simp
open Go.RowKit
section
variable {st e : TypeId} {z bytes : Nat} {zero : Value}
def BuiltR2 (e : TypeId) (ys zs : List Value) (v : Value) (N : Boxes) : Prop := ∃ g, v = .slice (some ⟨g, 0, none⟩) 2 2 ∧ N = [(g, Obj.cells (ys ++ zs).toArray e (0, 0))]
theorem run_buildR2 (T : ElemT st e z bytes zero) (ys zs : List Value) (hy : ys.length = z) (hz : zs.length = z) (u : World) : (Instr.buildSlice st 2 #[(0, .agg ys.toArray), (1, .agg zs.toArray)]).run Tryd.prog u = .ok (.slice (some ⟨u.heap.size, 0, none⟩) 2 2) (u.alloc (.cells (ys ++ zs).toArray e)) := by
  cases hq : Tryd.prog.info? e with
  | none => have := T.info; rw [hq] at this; cases this
  | some i =>
    have hi := T.info
    rw [hq] at hi
    simp only [Option.map_some, Option.some.injEq, Prod.mk.injEq] at hi
    obtain ⟨k1, k2, k3⟩ := hi
    have hsm := T.small
    have hsz2 := T.smallz
    have hpz := T.pos
    refine run_buildSlice u st e 2 _ (ys ++ zs).toArray i zero T.und hq k1 (by omega) (by omega) ?_
    have hs1 : (Value.agg ys.toArray).cells.size = z := by simp [Value.cells, hy]
    have hs2 : (Value.agg zs.toArray).cells.size = z := by simp [Value.cells, hz]
    rw [k2]
    have hf := Great.fill_whole (s := z) T.pos [.agg ys.toArray, .agg zs.toArray] ((Array.range (2 * z)).map (zero.cells[· % zero.cells.size]!)) (by
      intro v hv
      simp only [List.mem_cons, List.not_mem_nil, or_false] at hv
      rcases hv with rfl | rfl
      · exact hs1
      · exact hs2) (by simp)
    simpa [Value.cells] using hf
theorem FAt_buildR2 (T : ElemT st e z bytes zero) {ys zs : List Value} (hy : ys.length = z) (hz : zs.length = z) {a : Act} {dst : Option Tmp} {x x' : Operand} {ty : TypeId} {pos : String} {after : Array Edge} {gd : Option (Nat × Bool)} (hx : a.eval x = .agg ys.toArray) (hx' : a.eval x' = .agg zs.toArray) (u : World) :
    FAt Tryd.prog ⟨dst, .buildSlice st 2 #[(0, x), (1, x')], ty, pos, after, gd⟩ a (BuiltR2 e ys zs) u := by
  unfold FAt execOp
  simp only [List.map_toArray, List.map_cons, List.map_nil, hx, hx', Sem.run_bind, Sem.run_pure, run_buildR2 T ys zs hy hz u, Result.andThen_ok]
  refine ⟨(Below.refl _ _).alloc (Nat.le_refl _) _, _, ⟨_, rfl, rfl⟩, fun y hy => ?_⟩
  cases List.mem_singleton.1 hy
  exact ⟨Nat.le_refl _, heap_alloc_new u _⟩
end
theorem two_few {t s : TxM} (ht : fewX t.r = true) (hs : fewX s.r = true) : ∀ x ∈ [t, s], fewX x.r = true := fun x hx => by
  simp only [List.mem_cons, List.not_mem_nil, or_false] at hx
  rcases hx with rfl | rfl
  · exact ht
  · exact hs
theorem tx_one {w0 u : World} {M : Boxes} {g : Nat} {ty : TypeId} {t : TxM} (hu : EnvC w0 M u) (hm : (g, Obj.cells (txC t).toArray ty (0, 0)) ∈ M) (ht : TxOk u t) : TxsIn u (some ⟨g, 0, none⟩) [t] :=
  ⟨cells_box hu hm (by simp), fun x hx => by cases List.mem_singleton.1 hx; exact ht⟩
theorem tx_two {w0 u : World} {M : Boxes} {g : Nat} {ty : TypeId} {t s : TxM} (hu : EnvC w0 M u) (hm : (g, Obj.cells (txC t ++ txC s).toArray ty (0, 0)) ∈ M) (ht : TxOk u t) (hs : TxOk u s) : TxsIn u (some ⟨g, 0, none⟩) [t, s] :=
  ⟨cells_box hu hm (by simp), fun x hx => by
    simp only [List.mem_cons, List.not_mem_nil, or_false] at hx
    rcases hx with rfl | rfl
    · exact ht
    · exact hs⟩
set_option maxRecDepth 20000 in
set_option maxHeartbeats 8000000 in
theorem law_one10_fewt (H : PurseC) (p : List CoinR) (t s : TxM) (A : Option Addr) (n c : Nat) (w : World) (hl : p.length = n) (hnc : n ≤ c) (hcm : c ≤ maxLen) (hI : okP p) (hA : CoinsIn w w.heap.size A p) (kt : TxOk w t) (ks : TxOk w s) (ht : Tables w) (k1 : fewX t.r = false) :
    Calls Tryd.prog 6 #[.slice A n c, txV t, txV s] w fun e w' => e = .returned (.bool true) ∧ Below w.heap.size w w' := by
  have HT := Lib.hid ht
  have HH := Lib.hid H
  have HN63 : Hid (n < 9223372036854775808) := by show _ < _; unfold maxLen at hcm; omega
  have HL := Lib.hid hl
  have HNC := Lib.hid (And.intro hnc hcm)
  have HPP := Lib.hid hI
  have HAA : Hid (CoinsIn w w.heap.size A p) := hA
  have K_t := Lib.hid kt
  have K_s := Lib.hid ks
  have HAW : Hid (∀ u, EnvX w u [] → Calls Tryd.prog 9 #[] u fun e w' => e = .returned (.bool true) ∧ Below u.heap.size u w') := fun u hu => pawake_any H u (ht.below (EnvX.bel hu))
  have E1 : Hid (EnvX w ((w.alloc (.cells (txA t) 26)).alloc (.cells (txA s) 26)) [(w.heap.size + 1, Obj.cells (txA s) 26 (0, 0)), (w.heap.size, Obj.cells (txA t) 26 (0, 0))]) := (EnvX.start w).two _ _
  have HF_t : Hid (fewX t.r = false) := k1
  have HF_s : Hid (fewX s.r = fewX s.r) := rfl
  clear k1
  clear ht H hl hnc hcm hI hA kt ks
  unfold txV
  go_enter Tryd.func6, Tryd.ntmps6
  go_upto_region 1 with (fail)
  generalize (w.alloc (.cells (txA t) 26)).alloc (.cells (txA s) 26) = W at *
  refine wp_region_Hx (w0 := w) [0, 1] [(w.heap.size + 1, Obj.cells (txA s) 26 (0, 0)), (w.heap.size, Obj.cells (txA t) 26 (0, 0))] rfl E1.out ?_
  refine lexH_phase [0, 1] [] ?_
  have hw1 : EnvX w _ [(w.heap.size + 1, Obj.cells (txA s) 26 (0, 0)), (w.heap.size, Obj.cells (txA t) 26 (0, 0))] := E1.out
  have hone := @EnvC.one _ _ _ hw1
  (refine wpG_call (f := 9) (args := #[]) (v := .bool true) rfl rfl rfl Tryd.func9 rfl rfl (fun u hu => HAW.out u (EnvX.sub hu (fun _ h => by cases h))) ?_ hw1; intro K hK; go_big_quiet_op; go_big_quiet_on)
  (refine wpG_op rfl rfl rfl ?_; intro K hK; go_big_quiet_op; go_big_quiet_on)
  clear hone hw1
  refine wpG_nil ?_
  intro u3 E2'
  have EX2 := Lib.hid E2'
  clear E2'
  go_upto_region 2 with (fail)
  refine wp_region_Hx (w0 := w) [0, 1, 2] [(w.heap.size + 1, Obj.cells (txA s) 26 (0, 0)), (w.heap.size, Obj.cells (txA t) 26 (0, 0))] rfl EX2.out ?_
  refine lexH_phase [0, 1, 2] [] ?_
  have hw4 : EnvX w _ [(w.heap.size + 1, Obj.cells (txA s) 26 (0, 0)), (w.heap.size, Obj.cells (txA t) 26 (0, 0))] := EX2.out
  have hone := @EnvC.one _ _ _ hw4
  (refine wpG_val (v := txV t) rfl rfl (fun u hu => load_any_op u (box_tx hu (List.Mem.tail _ (List.Mem.head _))) rfl) ?_ hw4; intro K hK; go_big_quiet_op; go_big_quiet_on)
  (refine wpG_call (f := 10) (args := #[txV t]) (v := .bool false) rfl rfl rfl Tryd.func10 rfl rfl (fun u hu => by have h1 := few_any t u (K_t.out.up (EnvX.bel hu)); rwa [HF_t.out] at h1) ?_ hw4; intro K hK; go_big_quiet_op; go_big_quiet_on)
  (refine wpG_op rfl rfl rfl ?_; intro K hK; go_big_quiet_op; go_big_quiet_on)
  clear hone hw4
  refine wpG_nil ?_
  intro u6 E2'
  have EX5 := Lib.hid E2'
  clear E2'
  go_upto_region 3 with (fail)
  refine wp_region_Hx (w0 := w) [0, 1, 2] [(w.heap.size + 1, Obj.cells (txA s) 26 (0, 0)), (w.heap.size, Obj.cells (txA t) 26 (0, 0))] rfl EX5.out ?_
  refine lexH_phase [0, 1, 2] [] ?_
  have hw7 : EnvX w _ [(w.heap.size + 1, Obj.cells (txA s) 26 (0, 0)), (w.heap.size, Obj.cells (txA t) 26 (0, 0))] := EX5.out
  have hone := @EnvC.one _ _ _ hw7
  (refine wpG_val (v := txV s) rfl rfl (fun u hu => load_any_op u (box_tx hu (List.Mem.head _)) rfl) ?_ hw7; intro K hK; go_big_quiet_op; go_big_quiet_on)
  (refine wpG_call (f := 10) (args := #[txV s]) (v := .bool (fewX s.r)) rfl rfl rfl Tryd.func10 rfl rfl (fun u hu => by have h1 := few_any s u (K_s.out.up (EnvX.bel hu)); rwa [HF_s.out] at h1) ?_ hw7; intro K hK; go_big_quiet_op; go_big_quiet_on)
  (refine wpG_op rfl rfl rfl ?_; intro K hK; go_big_quiet_op; go_big_quiet_on)
  clear hone hw7
  refine wpG_nil ?_
  intro u9 E2'
  have EX8 := Lib.hid E2'
  clear E2'
  go_upto_region 4 with (fail)
  refine wp_region_Hx (w0 := w) [0, 1, 2, 3, 4, 5, 6, 7, 8, 9, 10, 11, 12, 13, 14, 15, 16, 17, 18, 19] [(w.heap.size + 1, Obj.cells (txA s) 26 (0, 0)), (w.heap.size, Obj.cells (txA t) 26 (0, 0))] rfl EX8.out ?_
  refine lexH_phase [0, 1, 2, 3, 4, 5, 6, 7, 8, 9, 10, 11, 12, 13, 14, 15, 16, 17, 18, 19] [] ?_
  have hw10 : EnvX w _ [(w.heap.size + 1, Obj.cells (txA s) 26 (0, 0)), (w.heap.size, Obj.cells (txA t) 26 (0, 0))] := EX8.out
  have hone := @EnvC.one _ _ _ hw10
  iterate 7 (refine wpG_op rfl rfl rfl ?_; intro K hK; go_big_quiet_op; go_big_quiet_on)
  iterate 2 (refine wpG_skip rfl rfl ?_ hw10; intro K hK; go_big_quiet_op; go_big_quiet_on)
  iterate 2 (refine wpG_op rfl rfl rfl ?_; intro K hK; go_big_quiet_op; go_big_quiet_on)
  iterate 3 (refine wpG_skip rfl rfl ?_ hw10; intro K hK; go_big_quiet_op; go_big_quiet_on)
  iterate 2 (refine wpG_op rfl rfl rfl ?_; intro K hK; go_big_quiet_op; go_big_quiet_on)
  iterate 3 (refine wpG_skip rfl rfl ?_ hw10; intro K hK; go_big_quiet_op; go_big_quiet_on)
  (refine wpG_op rfl rfl rfl ?_; intro K hK; go_big_quiet_op; go_big_quiet_on)
  clear hone hw10
  refine wpG_nil ?_
  intro u12 E2'
  have EX11 := Lib.hid E2'
  clear E2'
  go_upto_region 5 with (fail)
  refine wp_region_Hx (w0 := w) [0, 1] [(w.heap.size + 1, Obj.cells (txA s) 26 (0, 0)), (w.heap.size, Obj.cells (txA t) 26 (0, 0))] rfl EX11.out ?_
  refine lexH_phase [0, 1] [] ?_
  have hw13 : EnvX w _ [(w.heap.size + 1, Obj.cells (txA s) 26 (0, 0)), (w.heap.size, Obj.cells (txA t) 26 (0, 0))] := EX11.out
  have hone := @EnvC.one _ _ _ hw13
  iterate 2 (refine wpG_op rfl rfl rfl ?_; intro K hK; go_big_quiet_op; go_big_quiet_on)
  clear hone hw13
  refine wpG_nil ?_
  intro u15 E2'
  have EX14 := Lib.hid E2'
  clear E2'
  have HBE := Lib.hid (EnvX.bel EX14.out)
  go_wp2
  go_ret
  exact ⟨rfl, HBE.out⟩
set_option maxRecDepth 20000 in
set_option maxHeartbeats 8000000 in
theorem law_one10_fews (H : PurseC) (p : List CoinR) (t s : TxM) (A : Option Addr) (n c : Nat) (w : World) (hl : p.length = n) (hnc : n ≤ c) (hcm : c ≤ maxLen) (hI : okP p) (hA : CoinsIn w w.heap.size A p) (kt : TxOk w t) (ks : TxOk w s) (ht : Tables w) (k1 : fewX t.r = true) (k2 : fewX s.r = false) :
    Calls Tryd.prog 6 #[.slice A n c, txV t, txV s] w fun e w' => e = .returned (.bool true) ∧ Below w.heap.size w w' := by
  have HT := Lib.hid ht
  have HH := Lib.hid H
  have HN63 : Hid (n < 9223372036854775808) := by show _ < _; unfold maxLen at hcm; omega
  have HL := Lib.hid hl
  have HNC := Lib.hid (And.intro hnc hcm)
  have HPP := Lib.hid hI
  have HAA : Hid (CoinsIn w w.heap.size A p) := hA
  have K_t := Lib.hid kt
  have K_s := Lib.hid ks
  have HAW : Hid (∀ u, EnvX w u [] → Calls Tryd.prog 9 #[] u fun e w' => e = .returned (.bool true) ∧ Below u.heap.size u w') := fun u hu => pawake_any H u (ht.below (EnvX.bel hu))
  have E1 : Hid (EnvX w ((w.alloc (.cells (txA t) 26)).alloc (.cells (txA s) 26)) [(w.heap.size + 1, Obj.cells (txA s) 26 (0, 0)), (w.heap.size, Obj.cells (txA t) 26 (0, 0))]) := (EnvX.start w).two _ _
  have HF_t : Hid (fewX t.r = true) := k1
  have HF_s : Hid (fewX s.r = false) := k2
  clear k1 k2
  clear ht H hl hnc hcm hI hA kt ks
  unfold txV
  go_enter Tryd.func6, Tryd.ntmps6
  go_upto_region 1 with (fail)
  generalize (w.alloc (.cells (txA t) 26)).alloc (.cells (txA s) 26) = W at *
  refine wp_region_Hx (w0 := w) [0, 1] [(w.heap.size + 1, Obj.cells (txA s) 26 (0, 0)), (w.heap.size, Obj.cells (txA t) 26 (0, 0))] rfl E1.out ?_
  refine lexH_phase [0, 1] [] ?_
  have hw1 : EnvX w _ [(w.heap.size + 1, Obj.cells (txA s) 26 (0, 0)), (w.heap.size, Obj.cells (txA t) 26 (0, 0))] := E1.out
  have hone := @EnvC.one _ _ _ hw1
  (refine wpG_call (f := 9) (args := #[]) (v := .bool true) rfl rfl rfl Tryd.func9 rfl rfl (fun u hu => HAW.out u (EnvX.sub hu (fun _ h => by cases h))) ?_ hw1; intro K hK; go_big_quiet_op; go_big_quiet_on)
  (refine wpG_op rfl rfl rfl ?_; intro K hK; go_big_quiet_op; go_big_quiet_on)
  clear hone hw1
  refine wpG_nil ?_
  intro u3 E2'
  have EX2 := Lib.hid E2'
  clear E2'
  go_upto_region 2 with (fail)
  refine wp_region_Hx (w0 := w) [0, 1, 2] [(w.heap.size + 1, Obj.cells (txA s) 26 (0, 0)), (w.heap.size, Obj.cells (txA t) 26 (0, 0))] rfl EX2.out ?_
  refine lexH_phase [0, 1, 2] [] ?_
  have hw4 : EnvX w _ [(w.heap.size + 1, Obj.cells (txA s) 26 (0, 0)), (w.heap.size, Obj.cells (txA t) 26 (0, 0))] := EX2.out
  have hone := @EnvC.one _ _ _ hw4
  (refine wpG_val (v := txV t) rfl rfl (fun u hu => load_any_op u (box_tx hu (List.Mem.tail _ (List.Mem.head _))) rfl) ?_ hw4; intro K hK; go_big_quiet_op; go_big_quiet_on)
  (refine wpG_call (f := 10) (args := #[txV t]) (v := .bool true) rfl rfl rfl Tryd.func10 rfl rfl (fun u hu => by have h1 := few_any t u (K_t.out.up (EnvX.bel hu)); rwa [HF_t.out] at h1) ?_ hw4; intro K hK; go_big_quiet_op; go_big_quiet_on)
  (refine wpG_op rfl rfl rfl ?_; intro K hK; go_big_quiet_op; go_big_quiet_on)
  clear hone hw4
  refine wpG_nil ?_
  intro u6 E2'
  have EX5 := Lib.hid E2'
  clear E2'
  go_upto_region 3 with (fail)
  refine wp_region_Hx (w0 := w) [0, 1, 2] [(w.heap.size + 1, Obj.cells (txA s) 26 (0, 0)), (w.heap.size, Obj.cells (txA t) 26 (0, 0))] rfl EX5.out ?_
  refine lexH_phase [0, 1, 2] [] ?_
  have hw7 : EnvX w _ [(w.heap.size + 1, Obj.cells (txA s) 26 (0, 0)), (w.heap.size, Obj.cells (txA t) 26 (0, 0))] := EX5.out
  have hone := @EnvC.one _ _ _ hw7
  (refine wpG_val (v := txV s) rfl rfl (fun u hu => load_any_op u (box_tx hu (List.Mem.head _)) rfl) ?_ hw7; intro K hK; go_big_quiet_op; go_big_quiet_on)
  (refine wpG_call (f := 10) (args := #[txV s]) (v := .bool false) rfl rfl rfl Tryd.func10 rfl rfl (fun u hu => by have h1 := few_any s u (K_s.out.up (EnvX.bel hu)); rwa [HF_s.out] at h1) ?_ hw7; intro K hK; go_big_quiet_op; go_big_quiet_on)
  (refine wpG_op rfl rfl rfl ?_; intro K hK; go_big_quiet_op; go_big_quiet_on)
  clear hone hw7
  refine wpG_nil ?_
  intro u9 E2'
  have EX8 := Lib.hid E2'
  clear E2'
  go_upto_region 4 with (fail)
  refine wp_region_Hx (w0 := w) [0, 1, 2, 3, 4, 5, 6, 7, 8, 9, 10, 11, 12, 13, 14, 15, 16, 17, 18, 19] [(w.heap.size + 1, Obj.cells (txA s) 26 (0, 0)), (w.heap.size, Obj.cells (txA t) 26 (0, 0))] rfl EX8.out ?_
  refine lexH_phase [0, 1, 2, 3, 4, 5, 6, 7, 8, 9, 10, 11, 12, 13, 14, 15, 16, 17, 18, 19] [] ?_
  have hw10 : EnvX w _ [(w.heap.size + 1, Obj.cells (txA s) 26 (0, 0)), (w.heap.size, Obj.cells (txA t) 26 (0, 0))] := EX8.out
  have hone := @EnvC.one _ _ _ hw10
  iterate 11 (refine wpG_op rfl rfl rfl ?_; intro K hK; go_big_quiet_op; go_big_quiet_on)
  iterate 3 (refine wpG_skip rfl rfl ?_ hw10; intro K hK; go_big_quiet_op; go_big_quiet_on)
  iterate 2 (refine wpG_op rfl rfl rfl ?_; intro K hK; go_big_quiet_op; go_big_quiet_on)
  iterate 3 (refine wpG_skip rfl rfl ?_ hw10; intro K hK; go_big_quiet_op; go_big_quiet_on)
  (refine wpG_op rfl rfl rfl ?_; intro K hK; go_big_quiet_op; go_big_quiet_on)
  clear hone hw10
  refine wpG_nil ?_
  intro u12 E2'
  have EX11 := Lib.hid E2'
  clear E2'
  go_upto_region 5 with (fail)
  refine wp_region_Hx (w0 := w) [0, 1] [(w.heap.size + 1, Obj.cells (txA s) 26 (0, 0)), (w.heap.size, Obj.cells (txA t) 26 (0, 0))] rfl EX11.out ?_
  refine lexH_phase [0, 1] [] ?_
  have hw13 : EnvX w _ [(w.heap.size + 1, Obj.cells (txA s) 26 (0, 0)), (w.heap.size, Obj.cells (txA t) 26 (0, 0))] := EX11.out
  have hone := @EnvC.one _ _ _ hw13
  iterate 2 (refine wpG_op rfl rfl rfl ?_; intro K hK; go_big_quiet_op; go_big_quiet_on)
  clear hone hw13
  refine wpG_nil ?_
  intro u15 E2'
  have EX14 := Lib.hid E2'
  clear E2'
  have HBE := Lib.hid (EnvX.bel EX14.out)
  go_wp2
  go_ret
  exact ⟨rfl, HBE.out⟩
set_option maxRecDepth 20000 in
set_option maxHeartbeats 8000000 in
theorem law_one10_many (H : PurseC) (p : List CoinR) (t s : TxM) (A : Option Addr) (n c : Nat) (w : World) (hl : p.length = n) (hnc : n ≤ c) (hcm : c ≤ maxLen) (hI : okP p) (hA : CoinsIn w w.heap.size A p) (kt : TxOk w t) (ks : TxOk w s) (ht : Tables w) (k1 : fewX t.r = true) (k2 : fewX s.r = true) (k3 : 60 < n) :
    Calls Tryd.prog 6 #[.slice A n c, txV t, txV s] w fun e w' => e = .returned (.bool true) ∧ Below w.heap.size w w' := by
  have HT := Lib.hid ht
  have HH := Lib.hid H
  have HN63 : Hid (n < 9223372036854775808) := by show _ < _; unfold maxLen at hcm; omega
  have HL := Lib.hid hl
  have HNC := Lib.hid (And.intro hnc hcm)
  have HPP := Lib.hid hI
  have HAA : Hid (CoinsIn w w.heap.size A p) := hA
  have K_t := Lib.hid kt
  have K_s := Lib.hid ks
  have HAW : Hid (∀ u, EnvX w u [] → Calls Tryd.prog 9 #[] u fun e w' => e = .returned (.bool true) ∧ Below u.heap.size u w') := fun u hu => pawake_any H u (ht.below (EnvX.bel hu))
  have E1 : Hid (EnvX w ((w.alloc (.cells (txA t) 26)).alloc (.cells (txA s) 26)) [(w.heap.size + 1, Obj.cells (txA s) 26 (0, 0)), (w.heap.size, Obj.cells (txA t) 26 (0, 0))]) := (EnvX.start w).two _ _
  have HF_t : Hid (fewX t.r = true) := k1
  have HF_s : Hid (fewX s.r = true) := k2
  have D60 : Hid (decide ((60 : Int) < (n : Int)) = true) := decide_eq_true (by omega)
  clear k1 k2
  clear ht H hl hnc hcm hI hA kt ks
  unfold txV
  go_enter Tryd.func6, Tryd.ntmps6
  go_upto_region 1 with (fail)
  generalize (w.alloc (.cells (txA t) 26)).alloc (.cells (txA s) 26) = W at *
  refine wp_region_Hx (w0 := w) [0, 1] [(w.heap.size + 1, Obj.cells (txA s) 26 (0, 0)), (w.heap.size, Obj.cells (txA t) 26 (0, 0))] rfl E1.out ?_
  refine lexH_phase [0, 1] [] ?_
  have hw1 : EnvX w _ [(w.heap.size + 1, Obj.cells (txA s) 26 (0, 0)), (w.heap.size, Obj.cells (txA t) 26 (0, 0))] := E1.out
  have hone := @EnvC.one _ _ _ hw1
  (refine wpG_call (f := 9) (args := #[]) (v := .bool true) rfl rfl rfl Tryd.func9 rfl rfl (fun u hu => HAW.out u (EnvX.sub hu (fun _ h => by cases h))) ?_ hw1; intro K hK; go_big_quiet_op; go_big_quiet_on)
  (refine wpG_op rfl rfl rfl ?_; intro K hK; go_big_quiet_op; go_big_quiet_on)
  clear hone hw1
  refine wpG_nil ?_
  intro u3 E2'
  have EX2 := Lib.hid E2'
  clear E2'
  go_upto_region 2 with (fail)
  refine wp_region_Hx (w0 := w) [0, 1, 2] [(w.heap.size + 1, Obj.cells (txA s) 26 (0, 0)), (w.heap.size, Obj.cells (txA t) 26 (0, 0))] rfl EX2.out ?_
  refine lexH_phase [0, 1, 2] [] ?_
  have hw4 : EnvX w _ [(w.heap.size + 1, Obj.cells (txA s) 26 (0, 0)), (w.heap.size, Obj.cells (txA t) 26 (0, 0))] := EX2.out
  have hone := @EnvC.one _ _ _ hw4
  (refine wpG_val (v := txV t) rfl rfl (fun u hu => load_any_op u (box_tx hu (List.Mem.tail _ (List.Mem.head _))) rfl) ?_ hw4; intro K hK; go_big_quiet_op; go_big_quiet_on)
  (refine wpG_call (f := 10) (args := #[txV t]) (v := .bool true) rfl rfl rfl Tryd.func10 rfl rfl (fun u hu => by have h1 := few_any t u (K_t.out.up (EnvX.bel hu)); rwa [HF_t.out] at h1) ?_ hw4; intro K hK; go_big_quiet_op; go_big_quiet_on)
  (refine wpG_op rfl rfl rfl ?_; intro K hK; go_big_quiet_op; go_big_quiet_on)
  clear hone hw4
  refine wpG_nil ?_
  intro u6 E2'
  have EX5 := Lib.hid E2'
  clear E2'
  go_upto_region 3 with (fail)
  refine wp_region_Hx (w0 := w) [0, 1, 2] [(w.heap.size + 1, Obj.cells (txA s) 26 (0, 0)), (w.heap.size, Obj.cells (txA t) 26 (0, 0))] rfl EX5.out ?_
  refine lexH_phase [0, 1, 2] [] ?_
  have hw7 : EnvX w _ [(w.heap.size + 1, Obj.cells (txA s) 26 (0, 0)), (w.heap.size, Obj.cells (txA t) 26 (0, 0))] := EX5.out
  have hone := @EnvC.one _ _ _ hw7
  (refine wpG_val (v := txV s) rfl rfl (fun u hu => load_any_op u (box_tx hu (List.Mem.head _)) rfl) ?_ hw7; intro K hK; go_big_quiet_op; go_big_quiet_on)
  (refine wpG_call (f := 10) (args := #[txV s]) (v := .bool true) rfl rfl rfl Tryd.func10 rfl rfl (fun u hu => by have h1 := few_any s u (K_s.out.up (EnvX.bel hu)); rwa [HF_s.out] at h1) ?_ hw7; intro K hK; go_big_quiet_op; go_big_quiet_on)
  (refine wpG_op rfl rfl rfl ?_; intro K hK; go_big_quiet_op; go_big_quiet_on)
  clear hone hw7
  refine wpG_nil ?_
  intro u9 E2'
  have EX8 := Lib.hid E2'
  clear E2'
  go_upto_region 4 with (fail)
  refine wp_region_Hx (w0 := w) [0, 1, 2, 3, 4, 5, 6, 7, 8, 9, 10, 11, 12, 13, 14, 15, 16, 17, 18, 19] [(w.heap.size + 1, Obj.cells (txA s) 26 (0, 0)), (w.heap.size, Obj.cells (txA t) 26 (0, 0))] rfl EX8.out ?_
  refine lexH_phase [0, 1, 2, 3, 4, 5, 6, 7, 8, 9, 10, 11, 12, 13, 14, 15, 16, 17, 18, 19] [] ?_
  have hw10 : EnvX w _ [(w.heap.size + 1, Obj.cells (txA s) 26 (0, 0)), (w.heap.size, Obj.cells (txA t) 26 (0, 0))] := EX8.out
  have hone := @EnvC.one _ _ _ hw10
  iterate 12 (refine wpG_op rfl rfl rfl ?_; intro K hK; go_big_quiet_op; go_big_quiet_on)
  (refine wpG_val (v := .int .i64 (n : Int)) rfl rfl (fun u hu => len_op Tryd.underlying22 HN63.out u rfl) ?_ hw10; intro K hK; go_big_quiet_op; go_big_quiet_on)
  (refine wpG_val (v := .bool true) rfl rfl (fun u hu => gtZ_op u D60.out rfl rfl) ?_ hw10; intro K hK; go_big_quiet_op; go_big_quiet_on)
  iterate 2 (refine wpG_op rfl rfl rfl ?_; intro K hK; go_big_quiet_op; go_big_quiet_on)
  iterate 3 (refine wpG_skip rfl rfl ?_ hw10; intro K hK; go_big_quiet_op; go_big_quiet_on)
  (refine wpG_op rfl rfl rfl ?_; intro K hK; go_big_quiet_op; go_big_quiet_on)
  clear hone hw10
  refine wpG_nil ?_
  intro u12 E2'
  have EX11 := Lib.hid E2'
  clear E2'
  go_upto_region 5 with (fail)
  refine wp_region_Hx (w0 := w) [0, 1] [(w.heap.size + 1, Obj.cells (txA s) 26 (0, 0)), (w.heap.size, Obj.cells (txA t) 26 (0, 0))] rfl EX11.out ?_
  refine lexH_phase [0, 1] [] ?_
  have hw13 : EnvX w _ [(w.heap.size + 1, Obj.cells (txA s) 26 (0, 0)), (w.heap.size, Obj.cells (txA t) 26 (0, 0))] := EX11.out
  have hone := @EnvC.one _ _ _ hw13
  iterate 2 (refine wpG_op rfl rfl rfl ?_; intro K hK; go_big_quiet_op; go_big_quiet_on)
  clear hone hw13
  refine wpG_nil ?_
  intro u15 E2'
  have EX14 := Lib.hid E2'
  clear E2'
  have HBE := Lib.hid (EnvX.bel EX14.out)
  go_wp2
  go_ret
  exact ⟨rfl, HBE.out⟩
set_option maxRecDepth 20000 in
set_option maxHeartbeats 8000000 in
theorem law_one10_may (H : PurseC) (p : List CoinR) (t s : TxM) (A : Option Addr) (n c : Nat) (w : World) (hl : p.length = n) (hnc : n ≤ c) (hcm : c ≤ maxLen) (hI : okP p) (hA : CoinsIn w w.heap.size A p) (kt : TxOk w t) (ks : TxOk w s) (ht : Tables w) (k1 : fewX t.r = true) (k2 : fewX s.r = true) (k3 : ¬ 60 < n) (k4 : mayP p = false) :
    Calls Tryd.prog 6 #[.slice A n c, txV t, txV s] w fun e w' => e = .returned (.bool true) ∧ Below w.heap.size w w' := by
  have HT := Lib.hid ht
  have HH := Lib.hid H
  have HN63 : Hid (n < 9223372036854775808) := by show _ < _; unfold maxLen at hcm; omega
  have HL := Lib.hid hl
  have HNC := Lib.hid (And.intro hnc hcm)
  have HPP := Lib.hid hI
  have HAA : Hid (CoinsIn w w.heap.size A p) := hA
  have K_t := Lib.hid kt
  have K_s := Lib.hid ks
  have HAW : Hid (∀ u, EnvX w u [] → Calls Tryd.prog 9 #[] u fun e w' => e = .returned (.bool true) ∧ Below u.heap.size u w') := fun u hu => pawake_any H u (ht.below (EnvX.bel hu))
  have E1 : Hid (EnvX w ((w.alloc (.cells (txA t) 26)).alloc (.cells (txA s) 26)) [(w.heap.size + 1, Obj.cells (txA s) 26 (0, 0)), (w.heap.size, Obj.cells (txA t) 26 (0, 0))]) := (EnvX.start w).two _ _
  have HF_t : Hid (fewX t.r = true) := k1
  have HF_s : Hid (fewX s.r = true) := k2
  have D60 : Hid (decide ((60 : Int) < (n : Int)) = false) := decide_eq_false (by omega)
  have HF_p : Hid (mayP p = false) := k4
  have HMY : Hid (∀ u, Below w.heap.size w u → Calls Tryd.prog 20 #[.slice A n c] u fun e w' => e = .returned (.bool false) ∧ Below u.heap.size u w') := fun u hu => by
    have h := HH.out.may p A n c u HL.out HNC.out.1 HNC.out.2 HPP.out (CellsIn.up HAA.out hu) (HT.out.below hu)
    rwa [HF_p.out] at h
  clear k1 k2 k4
  clear ht H hl hnc hcm hI hA kt ks
  unfold txV
  go_enter Tryd.func6, Tryd.ntmps6
  go_upto_region 1 with (fail)
  generalize (w.alloc (.cells (txA t) 26)).alloc (.cells (txA s) 26) = W at *
  refine wp_region_Hx (w0 := w) [0, 1] [(w.heap.size + 1, Obj.cells (txA s) 26 (0, 0)), (w.heap.size, Obj.cells (txA t) 26 (0, 0))] rfl E1.out ?_
  refine lexH_phase [0, 1] [] ?_
  have hw1 : EnvX w _ [(w.heap.size + 1, Obj.cells (txA s) 26 (0, 0)), (w.heap.size, Obj.cells (txA t) 26 (0, 0))] := E1.out
  have hone := @EnvC.one _ _ _ hw1
  (refine wpG_call (f := 9) (args := #[]) (v := .bool true) rfl rfl rfl Tryd.func9 rfl rfl (fun u hu => HAW.out u (EnvX.sub hu (fun _ h => by cases h))) ?_ hw1; intro K hK; go_big_quiet_op; go_big_quiet_on)
  (refine wpG_op rfl rfl rfl ?_; intro K hK; go_big_quiet_op; go_big_quiet_on)
  clear hone hw1
  refine wpG_nil ?_
  intro u3 E2'
  have EX2 := Lib.hid E2'
  clear E2'
  go_upto_region 2 with (fail)
  refine wp_region_Hx (w0 := w) [0, 1, 2] [(w.heap.size + 1, Obj.cells (txA s) 26 (0, 0)), (w.heap.size, Obj.cells (txA t) 26 (0, 0))] rfl EX2.out ?_
  refine lexH_phase [0, 1, 2] [] ?_
  have hw4 : EnvX w _ [(w.heap.size + 1, Obj.cells (txA s) 26 (0, 0)), (w.heap.size, Obj.cells (txA t) 26 (0, 0))] := EX2.out
  have hone := @EnvC.one _ _ _ hw4
  (refine wpG_val (v := txV t) rfl rfl (fun u hu => load_any_op u (box_tx hu (List.Mem.tail _ (List.Mem.head _))) rfl) ?_ hw4; intro K hK; go_big_quiet_op; go_big_quiet_on)
  (refine wpG_call (f := 10) (args := #[txV t]) (v := .bool true) rfl rfl rfl Tryd.func10 rfl rfl (fun u hu => by have h1 := few_any t u (K_t.out.up (EnvX.bel hu)); rwa [HF_t.out] at h1) ?_ hw4; intro K hK; go_big_quiet_op; go_big_quiet_on)
  (refine wpG_op rfl rfl rfl ?_; intro K hK; go_big_quiet_op; go_big_quiet_on)
  clear hone hw4
  refine wpG_nil ?_
  intro u6 E2'
  have EX5 := Lib.hid E2'
  clear E2'
  go_upto_region 3 with (fail)
  refine wp_region_Hx (w0 := w) [0, 1, 2] [(w.heap.size + 1, Obj.cells (txA s) 26 (0, 0)), (w.heap.size, Obj.cells (txA t) 26 (0, 0))] rfl EX5.out ?_
  refine lexH_phase [0, 1, 2] [] ?_
  have hw7 : EnvX w _ [(w.heap.size + 1, Obj.cells (txA s) 26 (0, 0)), (w.heap.size, Obj.cells (txA t) 26 (0, 0))] := EX5.out
  have hone := @EnvC.one _ _ _ hw7
  (refine wpG_val (v := txV s) rfl rfl (fun u hu => load_any_op u (box_tx hu (List.Mem.head _)) rfl) ?_ hw7; intro K hK; go_big_quiet_op; go_big_quiet_on)
  (refine wpG_call (f := 10) (args := #[txV s]) (v := .bool true) rfl rfl rfl Tryd.func10 rfl rfl (fun u hu => by have h1 := few_any s u (K_s.out.up (EnvX.bel hu)); rwa [HF_s.out] at h1) ?_ hw7; intro K hK; go_big_quiet_op; go_big_quiet_on)
  (refine wpG_op rfl rfl rfl ?_; intro K hK; go_big_quiet_op; go_big_quiet_on)
  clear hone hw7
  refine wpG_nil ?_
  intro u9 E2'
  have EX8 := Lib.hid E2'
  clear E2'
  go_upto_region 4 with (fail)
  refine wp_region_Hx (w0 := w) [0, 1, 2, 3, 4, 5, 6, 7, 8, 9, 10, 11, 12, 13, 14, 15, 16, 17, 18, 19] [(w.heap.size + 1, Obj.cells (txA s) 26 (0, 0)), (w.heap.size, Obj.cells (txA t) 26 (0, 0))] rfl EX8.out ?_
  refine lexH_phase [0, 1, 2, 3, 4, 5, 6, 7, 8, 9, 10, 11, 12, 13, 14, 15, 16, 17, 18, 19] [] ?_
  have hw10 : EnvX w _ [(w.heap.size + 1, Obj.cells (txA s) 26 (0, 0)), (w.heap.size, Obj.cells (txA t) 26 (0, 0))] := EX8.out
  have hone := @EnvC.one _ _ _ hw10
  iterate 12 (refine wpG_op rfl rfl rfl ?_; intro K hK; go_big_quiet_op; go_big_quiet_on)
  (refine wpG_val (v := .int .i64 (n : Int)) rfl rfl (fun u hu => len_op Tryd.underlying22 HN63.out u rfl) ?_ hw10; intro K hK; go_big_quiet_op; go_big_quiet_on)
  (refine wpG_val (v := .bool false) rfl rfl (fun u hu => gtZ_op u D60.out rfl rfl) ?_ hw10; intro K hK; go_big_quiet_op; go_big_quiet_on)
  iterate 3 (refine wpG_op rfl rfl rfl ?_; intro K hK; go_big_quiet_op; go_big_quiet_on)
  (refine wpG_call (f := 20) (args := #[.slice A n c]) (v := .bool false) rfl rfl rfl Tryd.func20 rfl rfl (fun u hu => HMY.out u (EnvX.bel hu)) ?_ hw10; intro K hK; go_big_quiet_op; go_big_quiet_on)
  iterate 2 (refine wpG_op rfl rfl rfl ?_; intro K hK; go_big_quiet_op; go_big_quiet_on)
  clear hone hw10
  refine wpG_nil ?_
  intro u12 E2'
  have EX11 := Lib.hid E2'
  clear E2'
  go_upto_region 5 with (fail)
  refine wp_region_Hx (w0 := w) [0, 1] [(w.heap.size + 1, Obj.cells (txA s) 26 (0, 0)), (w.heap.size, Obj.cells (txA t) 26 (0, 0))] rfl EX11.out ?_
  refine lexH_phase [0, 1] [] ?_
  have hw13 : EnvX w _ [(w.heap.size + 1, Obj.cells (txA s) 26 (0, 0)), (w.heap.size, Obj.cells (txA t) 26 (0, 0))] := EX11.out
  have hone := @EnvC.one _ _ _ hw13
  iterate 2 (refine wpG_op rfl rfl rfl ?_; intro K hK; go_big_quiet_op; go_big_quiet_on)
  clear hone hw13
  refine wpG_nil ?_
  intro u15 E2'
  have EX14 := Lib.hid E2'
  clear E2'
  have HBE := Lib.hid (EnvX.bel EX14.out)
  go_wp2
  go_ret
  exact ⟨rfl, HBE.out⟩
set_option maxRecDepth 20000 in
set_option maxHeartbeats 8000000 in
theorem law_one10_noneT (H : PurseC) (p : List CoinR) (t s : TxM) (A : Option Addr) (n c : Nat) (w : World) (hl : p.length = n) (hnc : n ≤ c) (hcm : c ≤ maxLen) (hI : okP p) (hA : CoinsIn w w.heap.size A p) (kt : TxOk w t) (ks : TxOk w s) (ht : Tables w) (k1 : fewX t.r = true) (k2 : fewX s.r = true) (k3 : ¬ 60 < n) (k4 : mayP p = true) (k5 : t.n1 = 0) :
    Calls Tryd.prog 6 #[.slice A n c, txV t, txV s] w fun e w' => e = .returned (.bool true) ∧ Below w.heap.size w w' := by
  have HT := Lib.hid ht
  have HH := Lib.hid H
  have HN63 : Hid (n < 9223372036854775808) := by show _ < _; unfold maxLen at hcm; omega
  have HL := Lib.hid hl
  have HNC := Lib.hid (And.intro hnc hcm)
  have HPP := Lib.hid hI
  have HAA : Hid (CoinsIn w w.heap.size A p) := hA
  have K_t := Lib.hid kt
  have K_s := Lib.hid ks
  have HAW : Hid (∀ u, EnvX w u [] → Calls Tryd.prog 9 #[] u fun e w' => e = .returned (.bool true) ∧ Below u.heap.size u w') := fun u hu => pawake_any H u (ht.below (EnvX.bel hu))
  have E1 : Hid (EnvX w ((w.alloc (.cells (txA t) 26)).alloc (.cells (txA s) 26)) [(w.heap.size + 1, Obj.cells (txA s) 26 (0, 0)), (w.heap.size, Obj.cells (txA t) 26 (0, 0))]) := (EnvX.start w).two _ _
  have HF_t : Hid (fewX t.r = true) := k1
  have HF_s : Hid (fewX s.r = true) := k2
  have D60 : Hid (decide ((60 : Int) < (n : Int)) = false) := decide_eq_false (by omega)
  have HF_p : Hid (mayP p = true) := k4
  have HMY : Hid (∀ u, Below w.heap.size w u → Calls Tryd.prog 20 #[.slice A n c] u fun e w' => e = .returned (.bool true) ∧ Below u.heap.size u w') := fun u hu => by
    have h := HH.out.may p A n c u HL.out HNC.out.1 HNC.out.2 HPP.out (CellsIn.up HAA.out hu) (HT.out.below hu)
    rwa [HF_p.out] at h
  clear k1 k2 k4
  clear ht H hl hnc hcm hI hA kt ks
  unfold txV
  go_enter Tryd.func6, Tryd.ntmps6
  go_upto_region 1 with (fail)
  generalize (w.alloc (.cells (txA t) 26)).alloc (.cells (txA s) 26) = W at *
  have HN48 : Hid (n ≤ 1000) := by show _ ≤ _; omega
  have HN1 : Hid (t.n1 < 9223372036854775808) := K_t.out.n63.1
  have HS1 : Hid (s.n1 < 9223372036854775808) := K_s.out.n63.1
  have HAN := Lib.hid (apply_nil (p := p) HF_p.out)
  have HSPP : Hid (samePu p p = true) := decide_eq_true rfl
  have Z1 : Hid (decide ((t.n1 : Int) = 0) = true) := decide_eq_true (by omega)
  clear k5
  refine wp_region_Hx (w0 := w) [0, 1] [(w.heap.size + 1, Obj.cells (txA s) 26 (0, 0)), (w.heap.size, Obj.cells (txA t) 26 (0, 0))] rfl E1.out ?_
  refine lexH_phase [0, 1] [] ?_
  have hw1 : EnvX w _ [(w.heap.size + 1, Obj.cells (txA s) 26 (0, 0)), (w.heap.size, Obj.cells (txA t) 26 (0, 0))] := E1.out
  have hone := @EnvC.one _ _ _ hw1
  (refine wpG_call (f := 9) (args := #[]) (v := .bool true) rfl rfl rfl Tryd.func9 rfl rfl (fun u hu => HAW.out u (EnvX.sub hu (fun _ h => by cases h))) ?_ hw1; intro K hK; go_big_quiet_op; go_big_quiet_on)
  (refine wpG_op rfl rfl rfl ?_; intro K hK; go_big_quiet_op; go_big_quiet_on)
  clear hone hw1
  refine wpG_nil ?_
  intro u3 E2'
  have EX2 := Lib.hid E2'
  clear E2'
  go_upto_region 2 with (fail)
  refine wp_region_Hx (w0 := w) [0, 1, 2] [(w.heap.size + 1, Obj.cells (txA s) 26 (0, 0)), (w.heap.size, Obj.cells (txA t) 26 (0, 0))] rfl EX2.out ?_
  refine lexH_phase [0, 1, 2] [] ?_
  have hw4 : EnvX w _ [(w.heap.size + 1, Obj.cells (txA s) 26 (0, 0)), (w.heap.size, Obj.cells (txA t) 26 (0, 0))] := EX2.out
  have hone := @EnvC.one _ _ _ hw4
  (refine wpG_val (v := txV t) rfl rfl (fun u hu => load_any_op u (box_tx hu (List.Mem.tail _ (List.Mem.head _))) rfl) ?_ hw4; intro K hK; go_big_quiet_op; go_big_quiet_on)
  (refine wpG_call (f := 10) (args := #[txV t]) (v := .bool true) rfl rfl rfl Tryd.func10 rfl rfl (fun u hu => by have h1 := few_any t u (K_t.out.up (EnvX.bel hu)); rwa [HF_t.out] at h1) ?_ hw4; intro K hK; go_big_quiet_op; go_big_quiet_on)
  (refine wpG_op rfl rfl rfl ?_; intro K hK; go_big_quiet_op; go_big_quiet_on)
  clear hone hw4
  refine wpG_nil ?_
  intro u6 E2'
  have EX5 := Lib.hid E2'
  clear E2'
  go_upto_region 3 with (fail)
  refine wp_region_Hx (w0 := w) [0, 1, 2] [(w.heap.size + 1, Obj.cells (txA s) 26 (0, 0)), (w.heap.size, Obj.cells (txA t) 26 (0, 0))] rfl EX5.out ?_
  refine lexH_phase [0, 1, 2] [] ?_
  have hw7 : EnvX w _ [(w.heap.size + 1, Obj.cells (txA s) 26 (0, 0)), (w.heap.size, Obj.cells (txA t) 26 (0, 0))] := EX5.out
  have hone := @EnvC.one _ _ _ hw7
  (refine wpG_val (v := txV s) rfl rfl (fun u hu => load_any_op u (box_tx hu (List.Mem.head _)) rfl) ?_ hw7; intro K hK; go_big_quiet_op; go_big_quiet_on)
  (refine wpG_call (f := 10) (args := #[txV s]) (v := .bool true) rfl rfl rfl Tryd.func10 rfl rfl (fun u hu => by have h1 := few_any s u (K_s.out.up (EnvX.bel hu)); rwa [HF_s.out] at h1) ?_ hw7; intro K hK; go_big_quiet_op; go_big_quiet_on)
  (refine wpG_op rfl rfl rfl ?_; intro K hK; go_big_quiet_op; go_big_quiet_on)
  clear hone hw7
  refine wpG_nil ?_
  intro u9 E2'
  have EX8 := Lib.hid E2'
  clear E2'
  go_upto_region 4 with (fail)
  refine wp_region_Hx (w0 := w) [0, 1, 2, 3, 4, 5, 6, 7, 8, 9, 10, 11, 12, 13, 14, 15, 16, 17, 18, 19] [(w.heap.size + 1, Obj.cells (txA s) 26 (0, 0)), (w.heap.size, Obj.cells (txA t) 26 (0, 0))] rfl EX8.out ?_
  refine lexH_phase [0, 1, 2, 3, 4, 5, 6, 7, 8, 9, 10, 11, 12, 13, 14, 15, 16, 17, 18, 19] [] ?_
  have hw10 : EnvX w _ [(w.heap.size + 1, Obj.cells (txA s) 26 (0, 0)), (w.heap.size, Obj.cells (txA t) 26 (0, 0))] := EX8.out
  have hone := @EnvC.one _ _ _ hw10
  iterate 12 (refine wpG_op rfl rfl rfl ?_; intro K hK; go_big_quiet_op; go_big_quiet_on)
  (refine wpG_val (v := .int .i64 (n : Int)) rfl rfl (fun u hu => len_op Tryd.underlying22 HN63.out u rfl) ?_ hw10; intro K hK; go_big_quiet_op; go_big_quiet_on)
  (refine wpG_val (v := .bool false) rfl rfl (fun u hu => gtZ_op u D60.out rfl rfl) ?_ hw10; intro K hK; go_big_quiet_op; go_big_quiet_on)
  iterate 3 (refine wpG_op rfl rfl rfl ?_; intro K hK; go_big_quiet_op; go_big_quiet_on)
  (refine wpG_call (f := 20) (args := #[.slice A n c]) (v := .bool true) rfl rfl rfl Tryd.func20 rfl rfl (fun u hu => HMY.out u (EnvX.bel hu)) ?_ hw10; intro K hK; go_big_quiet_op; go_big_quiet_on)
  iterate 2 (refine wpG_op rfl rfl rfl ?_; intro K hK; go_big_quiet_op; go_big_quiet_on)
  clear hone hw10
  refine wpG_nil ?_
  intro u12 E2'
  have EX11 := Lib.hid E2'
  clear E2'
  go_upto_region 6 with (fail)
  refine wp_region_Hx (w0 := w) [0, 1, 2, 3, 4, 5, 6] [(w.heap.size + 1, Obj.cells (txA s) 26 (0, 0)), (w.heap.size, Obj.cells (txA t) 26 (0, 0))] rfl EX11.out ?_
  refine lexH_phase [0] [1, 2, 3, 4, 5, 6] ?_
  have hw13 : EnvX w _ [(w.heap.size + 1, Obj.cells (txA s) 26 (0, 0)), (w.heap.size, Obj.cells (txA t) 26 (0, 0))] := EX11.out
  have hone := @EnvC.one _ _ _ hw13
  (refine wpG_op rfl rfl rfl ?_; intro K hK; go_big_quiet_op; go_big_quiet_on)
  clear hone hw13
  refine wpG_nil ?_
  refine (hOp_turn (gd := none) (R := fun x M' => ∃ A c N, x = .tuple #[.slice A (p).length c, .int .i64 ((0 : Nat) : Int)] ∧ M' = N ++ [(w.heap.size + 1, Obj.cells (txA s) 26 (0, 0)), (w.heap.size, Obj.cells (txA t) 26 (0, 0))] ∧ ((p).length ≤ c ∧ c ≤ maxLen) ∧ CoB (p) A N) rfl rfl rfl rfl (fun u hu => OUpon_call (fid := 14) (xs := #[.tmp 49, .const (.slice none 0 0)]) (args := #[.slice A n c, .slice none 0 0]) rfl Tryd.func14 rfl rfl u (co_turn2 (by have h := HH.out.apply p A n c [] none 0 0 u HL.out HN48.out HNC.out.1 HNC.out.2 HPP.out (CellsIn.up HAA.out (EnvX.bel hu)) rfl (by decide) (Nat.le_refl _) (Nat.zero_le _) ⟨fun hp => absurd hp (Nat.lt_irrefl 0), fun t ht => by cases ht⟩ (fun t ht => by cases ht) (HT.out.below (EnvX.bel hu)); rwa [show rsT [] = [] from rfl, HAN.out] at h) hu)) ?_)
  rintro _ _ ⟨A6, c6, N6, rfl, rfl, hc6, hb6⟩ he14; intro K' hK'; go_big_quiet_op; go_big_quiet_on
  have HC6 := Lib.hid hc6
  have HB6 := Lib.hid hb6
  clear hc6 hb6
  change lexH _ _ _ _ _ _ (N6 ++ ((w.heap.size + 1, Obj.cells (txA s) 26 (0, 0)) :: ((w.heap.size, Obj.cells (txA t) 26 (0, 0)) :: [])))
  refine lexH_phase [2, 3, 4, 5, 6] [] ?_
  have hw15 : EnvX w _ (N6 ++ ((w.heap.size + 1, Obj.cells (txA s) 26 (0, 0)) :: ((w.heap.size, Obj.cells (txA t) 26 (0, 0)) :: []))) := he14.choose_spec
  have hone := @EnvC.one _ _ _ hw15
  iterate 5 (refine wpG_op rfl rfl rfl ?_; intro K hK; go_big_quiet_op; go_big_quiet_on)
  clear hone hw15
  refine wpG_nil ?_
  intro u17 E2'
  have EX16 := Lib.hid E2'
  clear E2'
  have HP10 : Hid (p.length ≤ 1000) := by show _ ≤ _; rw [HL.out]; exact HN48.out
  go_upto_region 7 with (fail)
  refine wp_region_Hx (w0 := w) [0, 1, 2, 3, 4, 5, 6, 7, 8, 9, 10, 11, 12, 13, 14, 15, 16, 17, 18, 19] (N6 ++ ((w.heap.size + 1, Obj.cells (txA s) 26 (0, 0)) :: ((w.heap.size, Obj.cells (txA t) 26 (0, 0)) :: []))) rfl EX16.out ?_
  refine lexH_phase [0, 1, 2, 3, 4, 5, 6, 7, 8, 9, 10, 11, 12, 13, 14, 15, 16, 17, 18, 19] [] ?_
  have hw18 : EnvX w _ (N6 ++ ((w.heap.size + 1, Obj.cells (txA s) 26 (0, 0)) :: ((w.heap.size, Obj.cells (txA t) 26 (0, 0)) :: []))) := EX16.out
  have hone := @EnvC.one _ _ _ hw18
  (refine wpG_op rfl rfl rfl ?_; intro K hK; go_big_quiet_op; go_big_quiet_on)
  (refine wpG_val (v := .bool false) rfl rfl (fun u hu => neErr_op u (by decide) rfl rfl) ?_ hw18; intro K hK; go_big_quiet_op; go_big_quiet_on)
  iterate 3 (refine wpG_op rfl rfl rfl ?_; intro K hK; go_big_quiet_op; go_big_quiet_on)
  (refine wpG_call (f := 21) (args := #[.slice A6 p.length c6, .slice A n c]) (v := .bool true) rfl rfl rfl Tryd.func21 rfl rfl (fun u hu => by have h := HH.out.same p p A6 A p.length c6 n c u rfl HP10.out HC6.out.1 HC6.out.2 HPP.out (CoB.read HB6.out hu (fun y MEM => (List.mem_append_left _ MEM))) HL.out HN48.out HNC.out.1 HNC.out.2 HPP.out (CellsIn.up HAA.out (EnvX.bel hu)) (HT.out.below (EnvX.bel hu)); rwa [HSPP.out] at h) ?_ hw18; intro K hK; go_big_quiet_op; go_big_quiet_on)
  iterate 3 (refine wpG_op rfl rfl rfl ?_; intro K hK; go_big_quiet_op; go_big_quiet_on)
  (refine wpG_val (v := .pointer (some ⟨w.heap.size, 0, none⟩)) rfl rfl (fun u hu => fieldTx_op (k := 0) (off := 0) (ad := ⟨w.heap.size, 0, none⟩) rfl u rfl) ?_ hw18; intro K hK; go_big_quiet_op; go_big_quiet_on)
  (refine wpG_val (v := .slice t.A1 t.n1 t.c1) rfl rfl (fun u hu => load_any_op u (box_tx_ins hu (List.mem_append_right _ (List.Mem.tail _ (List.Mem.head _)))) rfl) ?_ hw18; intro K hK; go_big_quiet_op; go_big_quiet_on)
  (refine wpG_val (v := .int .i64 (t.n1 : Int)) rfl rfl (fun u hu => len_op Tryd.underlying23 HN1.out u rfl) ?_ hw18; intro K hK; go_big_quiet_op; go_big_quiet_on)
  (refine wpG_val (v := .bool true) rfl rfl (fun u hu => eqlI_op u Z1.out rfl rfl) ?_ hw18; intro K hK; go_big_quiet_op; go_big_quiet_on)
  iterate 2 (refine wpG_op rfl rfl rfl ?_; intro K hK; go_big_quiet_op; go_big_quiet_on)
  iterate 4 (refine wpG_skip rfl rfl ?_ hw18; intro K hK; go_big_quiet_op; go_big_quiet_on)
  (refine wpG_op rfl rfl rfl ?_; intro K hK; go_big_quiet_op; go_big_quiet_on)
  clear hone hw18
  refine wpG_nil ?_
  intro u20 E2'
  have EX19 := Lib.hid E2'
  clear E2'
  go_upto_region 8 with (fail)
  refine wp_region_Hx (w0 := w) [0, 1, 2, 3, 4, 5, 6, 7] (N6 ++ ((w.heap.size + 1, Obj.cells (txA s) 26 (0, 0)) :: ((w.heap.size, Obj.cells (txA t) 26 (0, 0)) :: []))) rfl EX19.out ?_
  refine lexH_phase [0, 1, 2, 3, 4, 5, 6, 7] [] ?_
  have hw21 : EnvX w _ (N6 ++ ((w.heap.size + 1, Obj.cells (txA s) 26 (0, 0)) :: ((w.heap.size, Obj.cells (txA t) 26 (0, 0)) :: []))) := EX19.out
  have hone := @EnvC.one _ _ _ hw21
  (refine wpG_op rfl rfl rfl ?_; intro K hK; go_big_quiet_op; go_big_quiet_on)
  (refine wpG_val (v := .bool true) rfl rfl (fun u hu => eqErr_op u (by decide) rfl rfl) ?_ hw21; intro K hK; go_big_quiet_op; go_big_quiet_on)
  iterate 3 (refine wpG_op rfl rfl rfl ?_; intro K hK; go_big_quiet_op; go_big_quiet_on)
  (refine wpG_call (f := 21) (args := #[.slice A6 p.length c6, .slice A n c]) (v := .bool true) rfl rfl rfl Tryd.func21 rfl rfl (fun u hu => by have h := HH.out.same p p A6 A p.length c6 n c u rfl HP10.out HC6.out.1 HC6.out.2 HPP.out (CoB.read HB6.out hu (fun y MEM => (List.mem_append_left _ MEM))) HL.out HN48.out HNC.out.1 HNC.out.2 HPP.out (CellsIn.up HAA.out (EnvX.bel hu)) (HT.out.below (EnvX.bel hu)); rwa [HSPP.out] at h) ?_ hw21; intro K hK; go_big_quiet_op; go_big_quiet_on)
  iterate 2 (refine wpG_op rfl rfl rfl ?_; intro K hK; go_big_quiet_op; go_big_quiet_on)
  clear hone hw21
  refine wpG_nil ?_
  intro u23 E2'
  have EX22 := Lib.hid E2'
  clear E2'
  have HBE := Lib.hid (EnvX.bel EX22.out)
  go_wp2
  go_ret
  exact ⟨rfl, HBE.out⟩
set_option maxRecDepth 20000 in
set_option maxHeartbeats 8000000 in
theorem law_one10_noneS (H : PurseC) (p : List CoinR) (t s : TxM) (A : Option Addr) (n c : Nat) (w : World) (hl : p.length = n) (hnc : n ≤ c) (hcm : c ≤ maxLen) (hI : okP p) (hA : CoinsIn w w.heap.size A p) (kt : TxOk w t) (ks : TxOk w s) (ht : Tables w) (k1 : fewX t.r = true) (k2 : fewX s.r = true) (k3 : ¬ 60 < n) (k4 : mayP p = true) (k5 : ¬ t.n1 = 0) (k6 : s.n1 = 0) :
    Calls Tryd.prog 6 #[.slice A n c, txV t, txV s] w fun e w' => e = .returned (.bool true) ∧ Below w.heap.size w w' := by
  have HT := Lib.hid ht
  have HH := Lib.hid H
  have HN63 : Hid (n < 9223372036854775808) := by show _ < _; unfold maxLen at hcm; omega
  have HL := Lib.hid hl
  have HNC := Lib.hid (And.intro hnc hcm)
  have HPP := Lib.hid hI
  have HAA : Hid (CoinsIn w w.heap.size A p) := hA
  have K_t := Lib.hid kt
  have K_s := Lib.hid ks
  have HAW : Hid (∀ u, EnvX w u [] → Calls Tryd.prog 9 #[] u fun e w' => e = .returned (.bool true) ∧ Below u.heap.size u w') := fun u hu => pawake_any H u (ht.below (EnvX.bel hu))
  have E1 : Hid (EnvX w ((w.alloc (.cells (txA t) 26)).alloc (.cells (txA s) 26)) [(w.heap.size + 1, Obj.cells (txA s) 26 (0, 0)), (w.heap.size, Obj.cells (txA t) 26 (0, 0))]) := (EnvX.start w).two _ _
  have HF_t : Hid (fewX t.r = true) := k1
  have HF_s : Hid (fewX s.r = true) := k2
  have D60 : Hid (decide ((60 : Int) < (n : Int)) = false) := decide_eq_false (by omega)
  have HF_p : Hid (mayP p = true) := k4
  have HMY : Hid (∀ u, Below w.heap.size w u → Calls Tryd.prog 20 #[.slice A n c] u fun e w' => e = .returned (.bool true) ∧ Below u.heap.size u w') := fun u hu => by
    have h := HH.out.may p A n c u HL.out HNC.out.1 HNC.out.2 HPP.out (CellsIn.up HAA.out hu) (HT.out.below hu)
    rwa [HF_p.out] at h
  clear k1 k2 k4
  clear ht H hl hnc hcm hI hA kt ks
  unfold txV
  go_enter Tryd.func6, Tryd.ntmps6
  go_upto_region 1 with (fail)
  generalize (w.alloc (.cells (txA t) 26)).alloc (.cells (txA s) 26) = W at *
  have HN48 : Hid (n ≤ 1000) := by show _ ≤ _; omega
  have HN1 : Hid (t.n1 < 9223372036854775808) := K_t.out.n63.1
  have HS1 : Hid (s.n1 < 9223372036854775808) := K_s.out.n63.1
  have HAN := Lib.hid (apply_nil (p := p) HF_p.out)
  have HSPP : Hid (samePu p p = true) := decide_eq_true rfl
  have Z1 : Hid (decide ((t.n1 : Int) = 0) = false) := decide_eq_false (by omega)
  have Z2 : Hid (decide ((s.n1 : Int) = 0) = true) := decide_eq_true (by omega)
  clear k5 k6
  refine wp_region_Hx (w0 := w) [0, 1] [(w.heap.size + 1, Obj.cells (txA s) 26 (0, 0)), (w.heap.size, Obj.cells (txA t) 26 (0, 0))] rfl E1.out ?_
  refine lexH_phase [0, 1] [] ?_
  have hw1 : EnvX w _ [(w.heap.size + 1, Obj.cells (txA s) 26 (0, 0)), (w.heap.size, Obj.cells (txA t) 26 (0, 0))] := E1.out
  have hone := @EnvC.one _ _ _ hw1
  (refine wpG_call (f := 9) (args := #[]) (v := .bool true) rfl rfl rfl Tryd.func9 rfl rfl (fun u hu => HAW.out u (EnvX.sub hu (fun _ h => by cases h))) ?_ hw1; intro K hK; go_big_quiet_op; go_big_quiet_on)
  (refine wpG_op rfl rfl rfl ?_; intro K hK; go_big_quiet_op; go_big_quiet_on)
  clear hone hw1
  refine wpG_nil ?_
  intro u3 E2'
  have EX2 := Lib.hid E2'
  clear E2'
  go_upto_region 2 with (fail)
  refine wp_region_Hx (w0 := w) [0, 1, 2] [(w.heap.size + 1, Obj.cells (txA s) 26 (0, 0)), (w.heap.size, Obj.cells (txA t) 26 (0, 0))] rfl EX2.out ?_
  refine lexH_phase [0, 1, 2] [] ?_
  have hw4 : EnvX w _ [(w.heap.size + 1, Obj.cells (txA s) 26 (0, 0)), (w.heap.size, Obj.cells (txA t) 26 (0, 0))] := EX2.out
  have hone := @EnvC.one _ _ _ hw4
  (refine wpG_val (v := txV t) rfl rfl (fun u hu => load_any_op u (box_tx hu (List.Mem.tail _ (List.Mem.head _))) rfl) ?_ hw4; intro K hK; go_big_quiet_op; go_big_quiet_on)
  (refine wpG_call (f := 10) (args := #[txV t]) (v := .bool true) rfl rfl rfl Tryd.func10 rfl rfl (fun u hu => by have h1 := few_any t u (K_t.out.up (EnvX.bel hu)); rwa [HF_t.out] at h1) ?_ hw4; intro K hK; go_big_quiet_op; go_big_quiet_on)
  (refine wpG_op rfl rfl rfl ?_; intro K hK; go_big_quiet_op; go_big_quiet_on)
  clear hone hw4
  refine wpG_nil ?_
  intro u6 E2'
  have EX5 := Lib.hid E2'
  clear E2'
  go_upto_region 3 with (fail)
  refine wp_region_Hx (w0 := w) [0, 1, 2] [(w.heap.size + 1, Obj.cells (txA s) 26 (0, 0)), (w.heap.size, Obj.cells (txA t) 26 (0, 0))] rfl EX5.out ?_
  refine lexH_phase [0, 1, 2] [] ?_
  have hw7 : EnvX w _ [(w.heap.size + 1, Obj.cells (txA s) 26 (0, 0)), (w.heap.size, Obj.cells (txA t) 26 (0, 0))] := EX5.out
  have hone := @EnvC.one _ _ _ hw7
  (refine wpG_val (v := txV s) rfl rfl (fun u hu => load_any_op u (box_tx hu (List.Mem.head _)) rfl) ?_ hw7; intro K hK; go_big_quiet_op; go_big_quiet_on)
  (refine wpG_call (f := 10) (args := #[txV s]) (v := .bool true) rfl rfl rfl Tryd.func10 rfl rfl (fun u hu => by have h1 := few_any s u (K_s.out.up (EnvX.bel hu)); rwa [HF_s.out] at h1) ?_ hw7; intro K hK; go_big_quiet_op; go_big_quiet_on)
  (refine wpG_op rfl rfl rfl ?_; intro K hK; go_big_quiet_op; go_big_quiet_on)
  clear hone hw7
  refine wpG_nil ?_
  intro u9 E2'
  have EX8 := Lib.hid E2'
  clear E2'
  go_upto_region 4 with (fail)
  refine wp_region_Hx (w0 := w) [0, 1, 2, 3, 4, 5, 6, 7, 8, 9, 10, 11, 12, 13, 14, 15, 16, 17, 18, 19] [(w.heap.size + 1, Obj.cells (txA s) 26 (0, 0)), (w.heap.size, Obj.cells (txA t) 26 (0, 0))] rfl EX8.out ?_
  refine lexH_phase [0, 1, 2, 3, 4, 5, 6, 7, 8, 9, 10, 11, 12, 13, 14, 15, 16, 17, 18, 19] [] ?_
  have hw10 : EnvX w _ [(w.heap.size + 1, Obj.cells (txA s) 26 (0, 0)), (w.heap.size, Obj.cells (txA t) 26 (0, 0))] := EX8.out
  have hone := @EnvC.one _ _ _ hw10
  iterate 12 (refine wpG_op rfl rfl rfl ?_; intro K hK; go_big_quiet_op; go_big_quiet_on)
  (refine wpG_val (v := .int .i64 (n : Int)) rfl rfl (fun u hu => len_op Tryd.underlying22 HN63.out u rfl) ?_ hw10; intro K hK; go_big_quiet_op; go_big_quiet_on)
  (refine wpG_val (v := .bool false) rfl rfl (fun u hu => gtZ_op u D60.out rfl rfl) ?_ hw10; intro K hK; go_big_quiet_op; go_big_quiet_on)
  iterate 3 (refine wpG_op rfl rfl rfl ?_; intro K hK; go_big_quiet_op; go_big_quiet_on)
  (refine wpG_call (f := 20) (args := #[.slice A n c]) (v := .bool true) rfl rfl rfl Tryd.func20 rfl rfl (fun u hu => HMY.out u (EnvX.bel hu)) ?_ hw10; intro K hK; go_big_quiet_op; go_big_quiet_on)
  iterate 2 (refine wpG_op rfl rfl rfl ?_; intro K hK; go_big_quiet_op; go_big_quiet_on)
  clear hone hw10
  refine wpG_nil ?_
  intro u12 E2'
  have EX11 := Lib.hid E2'
  clear E2'
  go_upto_region 6 with (fail)
  refine wp_region_Hx (w0 := w) [0, 1, 2, 3, 4, 5, 6] [(w.heap.size + 1, Obj.cells (txA s) 26 (0, 0)), (w.heap.size, Obj.cells (txA t) 26 (0, 0))] rfl EX11.out ?_
  refine lexH_phase [0] [1, 2, 3, 4, 5, 6] ?_
  have hw13 : EnvX w _ [(w.heap.size + 1, Obj.cells (txA s) 26 (0, 0)), (w.heap.size, Obj.cells (txA t) 26 (0, 0))] := EX11.out
  have hone := @EnvC.one _ _ _ hw13
  (refine wpG_op rfl rfl rfl ?_; intro K hK; go_big_quiet_op; go_big_quiet_on)
  clear hone hw13
  refine wpG_nil ?_
  refine (hOp_turn (gd := none) (R := fun x M' => ∃ A c N, x = .tuple #[.slice A (p).length c, .int .i64 ((0 : Nat) : Int)] ∧ M' = N ++ [(w.heap.size + 1, Obj.cells (txA s) 26 (0, 0)), (w.heap.size, Obj.cells (txA t) 26 (0, 0))] ∧ ((p).length ≤ c ∧ c ≤ maxLen) ∧ CoB (p) A N) rfl rfl rfl rfl (fun u hu => OUpon_call (fid := 14) (xs := #[.tmp 49, .const (.slice none 0 0)]) (args := #[.slice A n c, .slice none 0 0]) rfl Tryd.func14 rfl rfl u (co_turn2 (by have h := HH.out.apply p A n c [] none 0 0 u HL.out HN48.out HNC.out.1 HNC.out.2 HPP.out (CellsIn.up HAA.out (EnvX.bel hu)) rfl (by decide) (Nat.le_refl _) (Nat.zero_le _) ⟨fun hp => absurd hp (Nat.lt_irrefl 0), fun t ht => by cases ht⟩ (fun t ht => by cases ht) (HT.out.below (EnvX.bel hu)); rwa [show rsT [] = [] from rfl, HAN.out] at h) hu)) ?_)
  rintro _ _ ⟨A6, c6, N6, rfl, rfl, hc6, hb6⟩ he14; intro K' hK'; go_big_quiet_op; go_big_quiet_on
  have HC6 := Lib.hid hc6
  have HB6 := Lib.hid hb6
  clear hc6 hb6
  change lexH _ _ _ _ _ _ (N6 ++ ((w.heap.size + 1, Obj.cells (txA s) 26 (0, 0)) :: ((w.heap.size, Obj.cells (txA t) 26 (0, 0)) :: [])))
  refine lexH_phase [2, 3, 4, 5, 6] [] ?_
  have hw15 : EnvX w _ (N6 ++ ((w.heap.size + 1, Obj.cells (txA s) 26 (0, 0)) :: ((w.heap.size, Obj.cells (txA t) 26 (0, 0)) :: []))) := he14.choose_spec
  have hone := @EnvC.one _ _ _ hw15
  iterate 5 (refine wpG_op rfl rfl rfl ?_; intro K hK; go_big_quiet_op; go_big_quiet_on)
  clear hone hw15
  refine wpG_nil ?_
  intro u17 E2'
  have EX16 := Lib.hid E2'
  clear E2'
  have HP10 : Hid (p.length ≤ 1000) := by show _ ≤ _; rw [HL.out]; exact HN48.out
  go_upto_region 7 with (fail)
  refine wp_region_Hx (w0 := w) [0, 1, 2, 3, 4, 5, 6, 7, 8, 9, 10, 11, 12, 13, 14, 15, 16, 17, 18, 19] (N6 ++ ((w.heap.size + 1, Obj.cells (txA s) 26 (0, 0)) :: ((w.heap.size, Obj.cells (txA t) 26 (0, 0)) :: []))) rfl EX16.out ?_
  refine lexH_phase [0, 1, 2, 3, 4, 5, 6, 7, 8, 9, 10, 11, 12, 13, 14, 15, 16, 17, 18, 19] [] ?_
  have hw18 : EnvX w _ (N6 ++ ((w.heap.size + 1, Obj.cells (txA s) 26 (0, 0)) :: ((w.heap.size, Obj.cells (txA t) 26 (0, 0)) :: []))) := EX16.out
  have hone := @EnvC.one _ _ _ hw18
  (refine wpG_op rfl rfl rfl ?_; intro K hK; go_big_quiet_op; go_big_quiet_on)
  (refine wpG_val (v := .bool false) rfl rfl (fun u hu => neErr_op u (by decide) rfl rfl) ?_ hw18; intro K hK; go_big_quiet_op; go_big_quiet_on)
  iterate 3 (refine wpG_op rfl rfl rfl ?_; intro K hK; go_big_quiet_op; go_big_quiet_on)
  (refine wpG_call (f := 21) (args := #[.slice A6 p.length c6, .slice A n c]) (v := .bool true) rfl rfl rfl Tryd.func21 rfl rfl (fun u hu => by have h := HH.out.same p p A6 A p.length c6 n c u rfl HP10.out HC6.out.1 HC6.out.2 HPP.out (CoB.read HB6.out hu (fun y MEM => (List.mem_append_left _ MEM))) HL.out HN48.out HNC.out.1 HNC.out.2 HPP.out (CellsIn.up HAA.out (EnvX.bel hu)) (HT.out.below (EnvX.bel hu)); rwa [HSPP.out] at h) ?_ hw18; intro K hK; go_big_quiet_op; go_big_quiet_on)
  iterate 3 (refine wpG_op rfl rfl rfl ?_; intro K hK; go_big_quiet_op; go_big_quiet_on)
  (refine wpG_val (v := .pointer (some ⟨w.heap.size, 0, none⟩)) rfl rfl (fun u hu => fieldTx_op (k := 0) (off := 0) (ad := ⟨w.heap.size, 0, none⟩) rfl u rfl) ?_ hw18; intro K hK; go_big_quiet_op; go_big_quiet_on)
  (refine wpG_val (v := .slice t.A1 t.n1 t.c1) rfl rfl (fun u hu => load_any_op u (box_tx_ins hu (List.mem_append_right _ (List.Mem.tail _ (List.Mem.head _)))) rfl) ?_ hw18; intro K hK; go_big_quiet_op; go_big_quiet_on)
  (refine wpG_val (v := .int .i64 (t.n1 : Int)) rfl rfl (fun u hu => len_op Tryd.underlying23 HN1.out u rfl) ?_ hw18; intro K hK; go_big_quiet_op; go_big_quiet_on)
  (refine wpG_val (v := .bool false) rfl rfl (fun u hu => eqlI_op u Z1.out rfl rfl) ?_ hw18; intro K hK; go_big_quiet_op; go_big_quiet_on)
  iterate 2 (refine wpG_op rfl rfl rfl ?_; intro K hK; go_big_quiet_op; go_big_quiet_on)
  (refine wpG_val (v := .pointer (some ⟨w.heap.size + 1, 0, none⟩)) rfl rfl (fun u hu => fieldTx_op (k := 0) (off := 0) (ad := ⟨w.heap.size + 1, 0, none⟩) rfl u rfl) ?_ hw18; intro K hK; go_big_quiet_op; go_big_quiet_on)
  (refine wpG_val (v := .slice s.A1 s.n1 s.c1) rfl rfl (fun u hu => load_any_op u (box_tx_ins hu (List.mem_append_right _ (List.Mem.head _))) rfl) ?_ hw18; intro K hK; go_big_quiet_op; go_big_quiet_on)
  (refine wpG_val (v := .int .i64 (s.n1 : Int)) rfl rfl (fun u hu => len_op Tryd.underlying23 HS1.out u rfl) ?_ hw18; intro K hK; go_big_quiet_op; go_big_quiet_on)
  (refine wpG_val (v := .bool true) rfl rfl (fun u hu => eqlI_op u Z2.out rfl rfl) ?_ hw18; intro K hK; go_big_quiet_op; go_big_quiet_on)
  (refine wpG_op rfl rfl rfl ?_; intro K hK; go_big_quiet_op; go_big_quiet_on)
  clear hone hw18
  refine wpG_nil ?_
  intro u20 E2'
  have EX19 := Lib.hid E2'
  clear E2'
  go_upto_region 8 with (fail)
  refine wp_region_Hx (w0 := w) [0, 1, 2, 3, 4, 5, 6, 7] (N6 ++ ((w.heap.size + 1, Obj.cells (txA s) 26 (0, 0)) :: ((w.heap.size, Obj.cells (txA t) 26 (0, 0)) :: []))) rfl EX19.out ?_
  refine lexH_phase [0, 1, 2, 3, 4, 5, 6, 7] [] ?_
  have hw21 : EnvX w _ (N6 ++ ((w.heap.size + 1, Obj.cells (txA s) 26 (0, 0)) :: ((w.heap.size, Obj.cells (txA t) 26 (0, 0)) :: []))) := EX19.out
  have hone := @EnvC.one _ _ _ hw21
  (refine wpG_op rfl rfl rfl ?_; intro K hK; go_big_quiet_op; go_big_quiet_on)
  (refine wpG_val (v := .bool true) rfl rfl (fun u hu => eqErr_op u (by decide) rfl rfl) ?_ hw21; intro K hK; go_big_quiet_op; go_big_quiet_on)
  iterate 3 (refine wpG_op rfl rfl rfl ?_; intro K hK; go_big_quiet_op; go_big_quiet_on)
  (refine wpG_call (f := 21) (args := #[.slice A6 p.length c6, .slice A n c]) (v := .bool true) rfl rfl rfl Tryd.func21 rfl rfl (fun u hu => by have h := HH.out.same p p A6 A p.length c6 n c u rfl HP10.out HC6.out.1 HC6.out.2 HPP.out (CoB.read HB6.out hu (fun y MEM => (List.mem_append_left _ MEM))) HL.out HN48.out HNC.out.1 HNC.out.2 HPP.out (CellsIn.up HAA.out (EnvX.bel hu)) (HT.out.below (EnvX.bel hu)); rwa [HSPP.out] at h) ?_ hw21; intro K hK; go_big_quiet_op; go_big_quiet_on)
  iterate 2 (refine wpG_op rfl rfl rfl ?_; intro K hK; go_big_quiet_op; go_big_quiet_on)
  clear hone hw21
  refine wpG_nil ?_
  intro u23 E2'
  have EX22 := Lib.hid E2'
  clear E2'
  have HBE := Lib.hid (EnvX.bel EX22.out)
  go_wp2
  go_ret
  exact ⟨rfl, HBE.out⟩
set_option maxRecDepth 20000 in
set_option maxHeartbeats 8000000 in
theorem law_one10_main (H : PurseC) (p : List CoinR) (t s : TxM) (A : Option Addr) (n c : Nat) (w : World) (hl : p.length = n) (hnc : n ≤ c) (hcm : c ≤ maxLen) (hI : okP p) (hA : CoinsIn w w.heap.size A p) (kt : TxOk w t) (ks : TxOk w s) (ht : Tables w) (k1 : fewX t.r = true) (k2 : fewX s.r = true) (k3 : ¬ 60 < n) (k4 : mayP p = true) (k5 : ¬ t.n1 = 0) (k6 : ¬ s.n1 = 0) :
    Calls Tryd.prog 6 #[.slice A n c, txV t, txV s] w fun e w' => e = .returned (.bool true) ∧ Below w.heap.size w w' := by
  have HT := Lib.hid ht
  have HH := Lib.hid H
  have HN63 : Hid (n < 9223372036854775808) := by show _ < _; unfold maxLen at hcm; omega
  have HL := Lib.hid hl
  have HNC := Lib.hid (And.intro hnc hcm)
  have HPP := Lib.hid hI
  have HAA : Hid (CoinsIn w w.heap.size A p) := hA
  have K_t := Lib.hid kt
  have K_s := Lib.hid ks
  have HAW : Hid (∀ u, EnvX w u [] → Calls Tryd.prog 9 #[] u fun e w' => e = .returned (.bool true) ∧ Below u.heap.size u w') := fun u hu => pawake_any H u (ht.below (EnvX.bel hu))
  have E1 : Hid (EnvX w ((w.alloc (.cells (txA t) 26)).alloc (.cells (txA s) 26)) [(w.heap.size + 1, Obj.cells (txA s) 26 (0, 0)), (w.heap.size, Obj.cells (txA t) 26 (0, 0))]) := (EnvX.start w).two _ _
  have HF_t : Hid (fewX t.r = true) := k1
  have HF_s : Hid (fewX s.r = true) := k2
  have D60 : Hid (decide ((60 : Int) < (n : Int)) = false) := decide_eq_false (by omega)
  have HF_p : Hid (mayP p = true) := k4
  have HMY : Hid (∀ u, Below w.heap.size w u → Calls Tryd.prog 20 #[.slice A n c] u fun e w' => e = .returned (.bool true) ∧ Below u.heap.size u w') := fun u hu => by
    have h := HH.out.may p A n c u HL.out HNC.out.1 HNC.out.2 HPP.out (CellsIn.up HAA.out hu) (HT.out.below hu)
    rwa [HF_p.out] at h
  clear k1 k2 k4
  clear ht H hl hnc hcm hI hA kt ks
  unfold txV
  go_enter Tryd.func6, Tryd.ntmps6
  go_upto_region 1 with (fail)
  generalize (w.alloc (.cells (txA t) 26)).alloc (.cells (txA s) 26) = W at *
  have HN48 : Hid (n ≤ 1000) := by show _ ≤ _; omega
  have HN1 : Hid (t.n1 < 9223372036854775808) := K_t.out.n63.1
  have HS1 : Hid (s.n1 < 9223372036854775808) := K_s.out.n63.1
  have HAN := Lib.hid (apply_nil (p := p) HF_p.out)
  have HSPP : Hid (samePu p p = true) := decide_eq_true rfl
  have Z1 : Hid (decide ((t.n1 : Int) = 0) = false) := decide_eq_false (by omega)
  have Z2 : Hid (decide ((s.n1 : Int) = 0) = false) := decide_eq_false (by omega)
  have ht1 : t.r.ins ≠ [] := fun h => k5 (by rw [← K_t.out.l1, h]; rfl)
  have hs1 : s.r.ins ≠ [] := fun h => k6 (by rw [← K_s.out.l1, h]; rfl)
  rcases hsp : spendP p t.r with ⟨a, na, ea⟩
  rcases hsc : spendP a s.r with ⟨cc, nc, ec⟩
  rcases h2 : applyP p [t.r, s.r] with ⟨d, ei⟩
  have hsa := spend_all HPP.out.id HF_p.out t.r
  rw [hsp] at hsa
  simp only at hsa
  have hsb := spend_all hsa.2.1 hsa.1 s.r
  rw [hsc] at hsb
  simp only at hsb
  have haa := apply_all HPP.out.id HF_p.out [t.r, s.r]
  rw [h2] at haa
  simp only at haa
  have h1e := apply_one HF_p.out ht1
  rw [hsp] at h1e
  simp only at h1e
  have h2e := apply_two HF_p.out ht1 hs1
  rw [h2, hsp] at h2e
  simp only [hsc] at h2e
  have HAO : Hid (okP a) := okP_of hsa.2.1 (mayP_iff.1 hsa.1).2.1
  have HCO : Hid (okP cc) := okP_of hsb.2.1 (mayP_iff.1 hsb.1).2.1
  have HDO : Hid (okP d) := okP_of haa.2.1 (mayP_iff.1 haa.1).2.1
  have HA48 : Hid (a.length ≤ 1000) := by have := (mayP_iff.1 hsa.1).1; show _ ≤ _; omega
  have HC48 : Hid (cc.length ≤ 1000) := by have := (mayP_iff.1 hsb.1).1; show _ ≤ _; omega
  have HD48 : Hid (d.length ≤ 1000) := by have := (mayP_iff.1 haa.1).1; show _ ≤ _; omega
  have HSP := Lib.hid hsp
  have HSC := Lib.hid hsc
  have HA1 := Lib.hid h1e
  have HA2 := Lib.hid h2
  have HA2E := Lib.hid h2e
  have HSAA : Hid (samePu a a = true) := decide_eq_true rfl
  clear k5 k6 ht1 hs1 hsp hsc h2 hsa hsb haa h1e h2e
  refine wp_region_Hx (w0 := w) [0, 1] [(w.heap.size + 1, Obj.cells (txA s) 26 (0, 0)), (w.heap.size, Obj.cells (txA t) 26 (0, 0))] rfl E1.out ?_
  refine lexH_phase [0, 1] [] ?_
  have hw1 : EnvX w _ [(w.heap.size + 1, Obj.cells (txA s) 26 (0, 0)), (w.heap.size, Obj.cells (txA t) 26 (0, 0))] := E1.out
  have hone := @EnvC.one _ _ _ hw1
  (refine wpG_call (f := 9) (args := #[]) (v := .bool true) rfl rfl rfl Tryd.func9 rfl rfl (fun u hu => HAW.out u (EnvX.sub hu (fun _ h => by cases h))) ?_ hw1; intro K hK; go_big_quiet_op; go_big_quiet_on)
  (refine wpG_op rfl rfl rfl ?_; intro K hK; go_big_quiet_op; go_big_quiet_on)
  clear hone hw1
  refine wpG_nil ?_
  intro u3 E2'
  have EX2 := Lib.hid E2'
  clear E2'
  go_upto_region 2 with (fail)
  refine wp_region_Hx (w0 := w) [0, 1, 2] [(w.heap.size + 1, Obj.cells (txA s) 26 (0, 0)), (w.heap.size, Obj.cells (txA t) 26 (0, 0))] rfl EX2.out ?_
  refine lexH_phase [0, 1, 2] [] ?_
  have hw4 : EnvX w _ [(w.heap.size + 1, Obj.cells (txA s) 26 (0, 0)), (w.heap.size, Obj.cells (txA t) 26 (0, 0))] := EX2.out
  have hone := @EnvC.one _ _ _ hw4
  (refine wpG_val (v := txV t) rfl rfl (fun u hu => load_any_op u (box_tx hu (List.Mem.tail _ (List.Mem.head _))) rfl) ?_ hw4; intro K hK; go_big_quiet_op; go_big_quiet_on)
  (refine wpG_call (f := 10) (args := #[txV t]) (v := .bool true) rfl rfl rfl Tryd.func10 rfl rfl (fun u hu => by have h1 := few_any t u (K_t.out.up (EnvX.bel hu)); rwa [HF_t.out] at h1) ?_ hw4; intro K hK; go_big_quiet_op; go_big_quiet_on)
  (refine wpG_op rfl rfl rfl ?_; intro K hK; go_big_quiet_op; go_big_quiet_on)
  clear hone hw4
  refine wpG_nil ?_
  intro u6 E2'
  have EX5 := Lib.hid E2'
  clear E2'
  go_upto_region 3 with (fail)
  refine wp_region_Hx (w0 := w) [0, 1, 2] [(w.heap.size + 1, Obj.cells (txA s) 26 (0, 0)), (w.heap.size, Obj.cells (txA t) 26 (0, 0))] rfl EX5.out ?_
  refine lexH_phase [0, 1, 2] [] ?_
  have hw7 : EnvX w _ [(w.heap.size + 1, Obj.cells (txA s) 26 (0, 0)), (w.heap.size, Obj.cells (txA t) 26 (0, 0))] := EX5.out
  have hone := @EnvC.one _ _ _ hw7
  (refine wpG_val (v := txV s) rfl rfl (fun u hu => load_any_op u (box_tx hu (List.Mem.head _)) rfl) ?_ hw7; intro K hK; go_big_quiet_op; go_big_quiet_on)
  (refine wpG_call (f := 10) (args := #[txV s]) (v := .bool true) rfl rfl rfl Tryd.func10 rfl rfl (fun u hu => by have h1 := few_any s u (K_s.out.up (EnvX.bel hu)); rwa [HF_s.out] at h1) ?_ hw7; intro K hK; go_big_quiet_op; go_big_quiet_on)
  (refine wpG_op rfl rfl rfl ?_; intro K hK; go_big_quiet_op; go_big_quiet_on)
  clear hone hw7
  refine wpG_nil ?_
  intro u9 E2'
  have EX8 := Lib.hid E2'
  clear E2'
  go_upto_region 4 with (fail)
  refine wp_region_Hx (w0 := w) [0, 1, 2, 3, 4, 5, 6, 7, 8, 9, 10, 11, 12, 13, 14, 15, 16, 17, 18, 19] [(w.heap.size + 1, Obj.cells (txA s) 26 (0, 0)), (w.heap.size, Obj.cells (txA t) 26 (0, 0))] rfl EX8.out ?_
  refine lexH_phase [0, 1, 2, 3, 4, 5, 6, 7, 8, 9, 10, 11, 12, 13, 14, 15, 16, 17, 18, 19] [] ?_
  have hw10 : EnvX w _ [(w.heap.size + 1, Obj.cells (txA s) 26 (0, 0)), (w.heap.size, Obj.cells (txA t) 26 (0, 0))] := EX8.out
  have hone := @EnvC.one _ _ _ hw10
  iterate 12 (refine wpG_op rfl rfl rfl ?_; intro K hK; go_big_quiet_op; go_big_quiet_on)
  (refine wpG_val (v := .int .i64 (n : Int)) rfl rfl (fun u hu => len_op Tryd.underlying22 HN63.out u rfl) ?_ hw10; intro K hK; go_big_quiet_op; go_big_quiet_on)
  (refine wpG_val (v := .bool false) rfl rfl (fun u hu => gtZ_op u D60.out rfl rfl) ?_ hw10; intro K hK; go_big_quiet_op; go_big_quiet_on)
  iterate 3 (refine wpG_op rfl rfl rfl ?_; intro K hK; go_big_quiet_op; go_big_quiet_on)
  (refine wpG_call (f := 20) (args := #[.slice A n c]) (v := .bool true) rfl rfl rfl Tryd.func20 rfl rfl (fun u hu => HMY.out u (EnvX.bel hu)) ?_ hw10; intro K hK; go_big_quiet_op; go_big_quiet_on)
  iterate 2 (refine wpG_op rfl rfl rfl ?_; intro K hK; go_big_quiet_op; go_big_quiet_on)
  clear hone hw10
  refine wpG_nil ?_
  intro u12 E2'
  have EX11 := Lib.hid E2'
  clear E2'
  go_upto_region 6 with (fail)
  refine wp_region_Hx (w0 := w) [0, 1, 2, 3, 4, 5, 6] [(w.heap.size + 1, Obj.cells (txA s) 26 (0, 0)), (w.heap.size, Obj.cells (txA t) 26 (0, 0))] rfl EX11.out ?_
  refine lexH_phase [0] [1, 2, 3, 4, 5, 6] ?_
  have hw13 : EnvX w _ [(w.heap.size + 1, Obj.cells (txA s) 26 (0, 0)), (w.heap.size, Obj.cells (txA t) 26 (0, 0))] := EX11.out
  have hone := @EnvC.one _ _ _ hw13
  (refine wpG_op rfl rfl rfl ?_; intro K hK; go_big_quiet_op; go_big_quiet_on)
  clear hone hw13
  refine wpG_nil ?_
  refine (hOp_turn (gd := none) (R := fun x M' => ∃ A c N, x = .tuple #[.slice A (p).length c, .int .i64 ((0 : Nat) : Int)] ∧ M' = N ++ [(w.heap.size + 1, Obj.cells (txA s) 26 (0, 0)), (w.heap.size, Obj.cells (txA t) 26 (0, 0))] ∧ ((p).length ≤ c ∧ c ≤ maxLen) ∧ CoB (p) A N) rfl rfl rfl rfl (fun u hu => OUpon_call (fid := 14) (xs := #[.tmp 49, .const (.slice none 0 0)]) (args := #[.slice A n c, .slice none 0 0]) rfl Tryd.func14 rfl rfl u (co_turn2 (by have h := HH.out.apply p A n c [] none 0 0 u HL.out HN48.out HNC.out.1 HNC.out.2 HPP.out (CellsIn.up HAA.out (EnvX.bel hu)) rfl (by decide) (Nat.le_refl _) (Nat.zero_le _) ⟨fun hp => absurd hp (Nat.lt_irrefl 0), fun t ht => by cases ht⟩ (fun t ht => by cases ht) (HT.out.below (EnvX.bel hu)); rwa [show rsT [] = [] from rfl, HAN.out] at h) hu)) ?_)
  rintro _ _ ⟨A6, c6, N6, rfl, rfl, hc6, hb6⟩ he14; intro K' hK'; go_big_quiet_op; go_big_quiet_on
  have HC6 := Lib.hid hc6
  have HB6 := Lib.hid hb6
  clear hc6 hb6
  change lexH _ _ _ _ _ _ (N6 ++ ((w.heap.size + 1, Obj.cells (txA s) 26 (0, 0)) :: ((w.heap.size, Obj.cells (txA t) 26 (0, 0)) :: [])))
  refine lexH_phase [2, 3, 4, 5, 6] [] ?_
  have hw15 : EnvX w _ (N6 ++ ((w.heap.size + 1, Obj.cells (txA s) 26 (0, 0)) :: ((w.heap.size, Obj.cells (txA t) 26 (0, 0)) :: []))) := he14.choose_spec
  have hone := @EnvC.one _ _ _ hw15
  iterate 5 (refine wpG_op rfl rfl rfl ?_; intro K hK; go_big_quiet_op; go_big_quiet_on)
  clear hone hw15
  refine wpG_nil ?_
  intro u17 E2'
  have EX16 := Lib.hid E2'
  clear E2'
  have HP10 : Hid (p.length ≤ 1000) := by show _ ≤ _; rw [HL.out]; exact HN48.out
  go_upto_region 7 with (fail)
  refine wp_region_Hx (w0 := w) [0, 1, 2, 3, 4, 5, 6, 7, 8, 9, 10, 11, 12, 13, 14, 15, 16, 17, 18, 19] (N6 ++ ((w.heap.size + 1, Obj.cells (txA s) 26 (0, 0)) :: ((w.heap.size, Obj.cells (txA t) 26 (0, 0)) :: []))) rfl EX16.out ?_
  refine lexH_phase [0, 1, 2, 3, 4, 5, 6, 7, 8, 9, 10, 11, 12, 13, 14, 15, 16, 17, 18, 19] [] ?_
  have hw18 : EnvX w _ (N6 ++ ((w.heap.size + 1, Obj.cells (txA s) 26 (0, 0)) :: ((w.heap.size, Obj.cells (txA t) 26 (0, 0)) :: []))) := EX16.out
  have hone := @EnvC.one _ _ _ hw18
  (refine wpG_op rfl rfl rfl ?_; intro K hK; go_big_quiet_op; go_big_quiet_on)
  (refine wpG_val (v := .bool false) rfl rfl (fun u hu => neErr_op u (by decide) rfl rfl) ?_ hw18; intro K hK; go_big_quiet_op; go_big_quiet_on)
  iterate 3 (refine wpG_op rfl rfl rfl ?_; intro K hK; go_big_quiet_op; go_big_quiet_on)
  (refine wpG_call (f := 21) (args := #[.slice A6 p.length c6, .slice A n c]) (v := .bool true) rfl rfl rfl Tryd.func21 rfl rfl (fun u hu => by have h := HH.out.same p p A6 A p.length c6 n c u rfl HP10.out HC6.out.1 HC6.out.2 HPP.out (CoB.read HB6.out hu (fun y MEM => (List.mem_append_left _ MEM))) HL.out HN48.out HNC.out.1 HNC.out.2 HPP.out (CellsIn.up HAA.out (EnvX.bel hu)) (HT.out.below (EnvX.bel hu)); rwa [HSPP.out] at h) ?_ hw18; intro K hK; go_big_quiet_op; go_big_quiet_on)
  iterate 3 (refine wpG_op rfl rfl rfl ?_; intro K hK; go_big_quiet_op; go_big_quiet_on)
  (refine wpG_val (v := .pointer (some ⟨w.heap.size, 0, none⟩)) rfl rfl (fun u hu => fieldTx_op (k := 0) (off := 0) (ad := ⟨w.heap.size, 0, none⟩) rfl u rfl) ?_ hw18; intro K hK; go_big_quiet_op; go_big_quiet_on)
  (refine wpG_val (v := .slice t.A1 t.n1 t.c1) rfl rfl (fun u hu => load_any_op u (box_tx_ins hu (List.mem_append_right _ (List.Mem.tail _ (List.Mem.head _)))) rfl) ?_ hw18; intro K hK; go_big_quiet_op; go_big_quiet_on)
  (refine wpG_val (v := .int .i64 (t.n1 : Int)) rfl rfl (fun u hu => len_op Tryd.underlying23 HN1.out u rfl) ?_ hw18; intro K hK; go_big_quiet_op; go_big_quiet_on)
  (refine wpG_val (v := .bool false) rfl rfl (fun u hu => eqlI_op u Z1.out rfl rfl) ?_ hw18; intro K hK; go_big_quiet_op; go_big_quiet_on)
  iterate 2 (refine wpG_op rfl rfl rfl ?_; intro K hK; go_big_quiet_op; go_big_quiet_on)
  (refine wpG_val (v := .pointer (some ⟨w.heap.size + 1, 0, none⟩)) rfl rfl (fun u hu => fieldTx_op (k := 0) (off := 0) (ad := ⟨w.heap.size + 1, 0, none⟩) rfl u rfl) ?_ hw18; intro K hK; go_big_quiet_op; go_big_quiet_on)
  (refine wpG_val (v := .slice s.A1 s.n1 s.c1) rfl rfl (fun u hu => load_any_op u (box_tx_ins hu (List.mem_append_right _ (List.Mem.head _))) rfl) ?_ hw18; intro K hK; go_big_quiet_op; go_big_quiet_on)
  (refine wpG_val (v := .int .i64 (s.n1 : Int)) rfl rfl (fun u hu => len_op Tryd.underlying23 HS1.out u rfl) ?_ hw18; intro K hK; go_big_quiet_op; go_big_quiet_on)
  (refine wpG_val (v := .bool false) rfl rfl (fun u hu => eqlI_op u Z2.out rfl rfl) ?_ hw18; intro K hK; go_big_quiet_op; go_big_quiet_on)
  (refine wpG_op rfl rfl rfl ?_; intro K hK; go_big_quiet_op; go_big_quiet_on)
  clear hone hw18
  refine wpG_nil ?_
  intro u20 E2'
  have EX19 := Lib.hid E2'
  clear E2'
  go_upto_region 9 with (fail)
  refine wp_region_Hx (w0 := w) [0, 1, 2, 3, 4, 5, 6, 7, 8, 9] (N6 ++ ((w.heap.size + 1, Obj.cells (txA s) 26 (0, 0)) :: ((w.heap.size, Obj.cells (txA t) 26 (0, 0)) :: []))) rfl EX19.out ?_
  refine lexH_phase [0, 1] [2, 3, 4, 5, 6, 7, 8, 9] ?_
  have hw21 : EnvX w _ (N6 ++ ((w.heap.size + 1, Obj.cells (txA s) 26 (0, 0)) :: ((w.heap.size, Obj.cells (txA t) 26 (0, 0)) :: []))) := EX19.out
  have hone := @EnvC.one _ _ _ hw21
  (refine wpG_op rfl rfl rfl ?_; intro K hK; go_big_quiet_op; go_big_quiet_on)
  (refine wpG_val (v := txV t) rfl rfl (fun u hu => load_any_op u (box_tx hu (List.mem_append_right _ (List.Mem.tail _ (List.Mem.head _)))) rfl) ?_ hw21; intro K hK; go_big_quiet_op; go_big_quiet_on)
  clear hone hw21
  refine wpG_nil ?_
  refine (hOp_turn (gd := none) (R := fun x M' => ∃ A c N, x = .tuple #[.slice A (a).length c, .int .i64 na, .int .i64 ((ea : Nat) : Int)] ∧ M' = N ++ (N6 ++ ((w.heap.size + 1, Obj.cells (txA s) 26 (0, 0)) :: ((w.heap.size, Obj.cells (txA t) 26 (0, 0)) :: []))) ∧ ((a).length ≤ c ∧ c ≤ maxLen) ∧ CoB (a) A N) rfl rfl rfl rfl (fun u hu => OUpon_call (fid := 12) (xs := #[.tmp 81, .tmp 82]) (args := #[.slice A n c, txV t]) rfl Tryd.func12 rfl rfl u (co_turn3 (by have h := HH.out.spend p A n c t u HL.out HN48.out HNC.out.1 HNC.out.2 HPP.out (CellsIn.up HAA.out (EnvX.bel hu)) (K_t.out.up (EnvX.bel hu)) HF_t.out (HT.out.below (EnvX.bel hu)); rwa [HSP.out] at h) hu)) ?_)
  rintro _ _ ⟨A9, c9, N9, rfl, rfl, hc9, hb9⟩ he22; intro K' hK'; go_big_quiet_op; go_big_quiet_on
  have HC9 := Lib.hid hc9
  have HB9 := Lib.hid hb9
  clear hc9 hb9
  change lexH _ _ _ _ _ _ (N9 ++ (N6 ++ ((w.heap.size + 1, Obj.cells (txA s) 26 (0, 0)) :: ((w.heap.size, Obj.cells (txA t) 26 (0, 0)) :: []))))
  refine lexH_phase [3, 4, 5, 6, 7, 8, 9] [] ?_
  have hw23 : EnvX w _ (N9 ++ (N6 ++ ((w.heap.size + 1, Obj.cells (txA s) 26 (0, 0)) :: ((w.heap.size, Obj.cells (txA t) 26 (0, 0)) :: [])))) := he22.choose_spec
  have hone := @EnvC.one _ _ _ hw23
  iterate 7 (refine wpG_op rfl rfl rfl ?_; intro K hK; go_big_quiet_op; go_big_quiet_on)
  clear hone hw23
  refine wpG_nil ?_
  intro u25 E2'
  have EX24 := Lib.hid E2'
  clear E2'
  go_upto_region 10 with (fail)
  refine wp_region_Hx (w0 := w) [0, 1, 2, 3, 4, 5, 6, 7, 8] (N9 ++ (N6 ++ ((w.heap.size + 1, Obj.cells (txA s) 26 (0, 0)) :: ((w.heap.size, Obj.cells (txA t) 26 (0, 0)) :: [])))) rfl EX24.out ?_
  refine lexH_phase [0, 1] [2, 3, 4, 5, 6, 7, 8] ?_
  have hw26 : EnvX w _ (N9 ++ (N6 ++ ((w.heap.size + 1, Obj.cells (txA s) 26 (0, 0)) :: ((w.heap.size, Obj.cells (txA t) 26 (0, 0)) :: [])))) := EX24.out
  have hone := @EnvC.one _ _ _ hw26
  (refine wpG_op rfl rfl rfl ?_; intro K hK; go_big_quiet_op; go_big_quiet_on)
  (refine wpG_val (v := .agg (txC t).toArray) rfl rfl (fun u hu => load_any_op u (box_tx hu (List.mem_append_right _ (List.mem_append_right _ (List.Mem.tail _ (List.Mem.head _))))) rfl) ?_ hw26; intro K hK; go_big_quiet_op; go_big_quiet_on)
  clear hone hw26
  refine wpG_nil ?_
  refine (hOp_fresh (R := BuiltR 26 (txC t)) (M0 := (N9 ++ (N6 ++ ((w.heap.size + 1, Obj.cells (txA s) 26 (0, 0)) :: ((w.heap.size, Obj.cells (txA t) 26 (0, 0)) :: []))))) rfl rfl (fun _ h => h) (fun u hu => FAt_buildR elTx rfl (txC_one _) rfl u) ?_)
  rintro _ _ ⟨ga, rfl, rfl⟩ hf he27; intro K' hK'; go_big_quiet_op; go_big_quiet_on
  clear hf
  change lexH _ _ _ _ _ _ ((ga, Obj.cells (txC t).toArray 26 (0, 0)) :: (N9 ++ (N6 ++ ((w.heap.size + 1, Obj.cells (txA s) 26 (0, 0)) :: ((w.heap.size, Obj.cells (txA t) 26 (0, 0)) :: [])))))
  refine (hOp_turn (gd := none) (R := fun x M' => ∃ A c N, x = .tuple #[.slice A (a).length c, .int .i64 ((ea : Nat) : Int)] ∧ M' = N ++ ((ga, Obj.cells (txC t).toArray 26 (0, 0)) :: (N9 ++ (N6 ++ ((w.heap.size + 1, Obj.cells (txA s) 26 (0, 0)) :: ((w.heap.size, Obj.cells (txA t) 26 (0, 0)) :: []))))) ∧ ((a).length ≤ c ∧ c ≤ maxLen) ∧ CoB (a) A N) rfl rfl rfl rfl (fun u hu => OUpon_call (fid := 14) (xs := #[.tmp 88, .tmp 90]) (args := #[.slice A n c, .slice (some ⟨ga, 0, none⟩) 1 1]) rfl Tryd.func14 rfl rfl u (co_turn2 (by have h := HH.out.apply p A n c [t] (some ⟨ga, 0, none⟩) 1 1 u HL.out HN48.out HNC.out.1 HNC.out.2 HPP.out (CellsIn.up HAA.out (EnvX.bel hu)) rfl (by decide) (Nat.le_refl _) (by decide) (tx_one hu (List.Mem.head _) (K_t.out.up (EnvX.bel hu))) (fun x hx => by cases List.mem_singleton.1 hx; exact HF_t.out) (HT.out.below (EnvX.bel hu)); rwa [show rsT [t] = [t.r] from rfl, HA1.out] at h) hu)) ?_)
  rintro _ _ ⟨A10, c10, N10, rfl, rfl, hc10, hb10⟩ he28; intro K' hK'; go_big_quiet_op; go_big_quiet_on
  have HC10 := Lib.hid hc10
  have HB10 := Lib.hid hb10
  clear hc10 hb10
  change lexH _ _ _ _ _ _ (N10 ++ ((ga, Obj.cells (txC t).toArray 26 (0, 0)) :: (N9 ++ (N6 ++ ((w.heap.size + 1, Obj.cells (txA s) 26 (0, 0)) :: ((w.heap.size, Obj.cells (txA t) 26 (0, 0)) :: []))))))
  refine lexH_phase [4, 5, 6, 7, 8] [] ?_
  have hw29 : EnvX w _ (N10 ++ ((ga, Obj.cells (txC t).toArray 26 (0, 0)) :: (N9 ++ (N6 ++ ((w.heap.size + 1, Obj.cells (txA s) 26 (0, 0)) :: ((w.heap.size, Obj.cells (txA t) 26 (0, 0)) :: [])))))) := he28.choose_spec
  have hone := @EnvC.one _ _ _ hw29
  iterate 5 (refine wpG_op rfl rfl rfl ?_; intro K hK; go_big_quiet_op; go_big_quiet_on)
  clear hone hw29
  refine wpG_nil ?_
  intro u31 E2'
  have EX30 := Lib.hid E2'
  clear E2'
  go_upto_region 11 with (fail)
  refine wp_region_Hx (w0 := w) [0, 1, 2, 3, 4, 5, 6, 7, 8, 9] (N10 ++ ((ga, Obj.cells (txC t).toArray 26 (0, 0)) :: (N9 ++ (N6 ++ ((w.heap.size + 1, Obj.cells (txA s) 26 (0, 0)) :: ((w.heap.size, Obj.cells (txA t) 26 (0, 0)) :: [])))))) rfl EX30.out ?_
  refine lexH_phase [0, 1] [2, 3, 4, 5, 6, 7, 8, 9] ?_
  have hw32 : EnvX w _ (N10 ++ ((ga, Obj.cells (txC t).toArray 26 (0, 0)) :: (N9 ++ (N6 ++ ((w.heap.size + 1, Obj.cells (txA s) 26 (0, 0)) :: ((w.heap.size, Obj.cells (txA t) 26 (0, 0)) :: [])))))) := EX30.out
  have hone := @EnvC.one _ _ _ hw32
  (refine wpG_op rfl rfl rfl ?_; intro K hK; go_big_quiet_op; go_big_quiet_on)
  (refine wpG_val (v := txV s) rfl rfl (fun u hu => load_any_op u (box_tx hu (List.mem_append_right _ (List.Mem.tail _ (List.mem_append_right _ (List.mem_append_right _ (List.Mem.head _)))))) rfl) ?_ hw32; intro K hK; go_big_quiet_op; go_big_quiet_on)
  clear hone hw32
  refine wpG_nil ?_
  refine (hOp_turn (gd := none) (R := fun x M' => ∃ A c N, x = .tuple #[.slice A (cc).length c, .int .i64 nc, .int .i64 ((ec : Nat) : Int)] ∧ M' = N ++ (N10 ++ ((ga, Obj.cells (txC t).toArray 26 (0, 0)) :: (N9 ++ (N6 ++ ((w.heap.size + 1, Obj.cells (txA s) 26 (0, 0)) :: ((w.heap.size, Obj.cells (txA t) 26 (0, 0)) :: [])))))) ∧ ((cc).length ≤ c ∧ c ≤ maxLen) ∧ CoB (cc) A N) rfl rfl rfl rfl (fun u hu => OUpon_call (fid := 12) (xs := #[.tmp 95, .tmp 96]) (args := #[.slice A9 a.length c9, txV s]) rfl Tryd.func12 rfl rfl u (co_turn3 (by have h := HH.out.spend a A9 a.length c9 s u rfl HA48.out HC9.out.1 HC9.out.2 HAO.out (CoB.read HB9.out hu (fun y MEM => (List.mem_append_right _ (List.Mem.tail _ (List.mem_append_left _ MEM))))) (K_s.out.up (EnvX.bel hu)) HF_s.out (HT.out.below (EnvX.bel hu)); rwa [HSC.out] at h) hu)) ?_)
  rintro _ _ ⟨A11, c11, N11, rfl, rfl, hc11, hb11⟩ he33; intro K' hK'; go_big_quiet_op; go_big_quiet_on
  have HC11 := Lib.hid hc11
  have HB11 := Lib.hid hb11
  clear hc11 hb11
  change lexH _ _ _ _ _ _ (N11 ++ (N10 ++ ((ga, Obj.cells (txC t).toArray 26 (0, 0)) :: (N9 ++ (N6 ++ ((w.heap.size + 1, Obj.cells (txA s) 26 (0, 0)) :: ((w.heap.size, Obj.cells (txA t) 26 (0, 0)) :: [])))))))
  refine lexH_phase [3, 4, 5, 6, 7, 8, 9] [] ?_
  have hw34 : EnvX w _ (N11 ++ (N10 ++ ((ga, Obj.cells (txC t).toArray 26 (0, 0)) :: (N9 ++ (N6 ++ ((w.heap.size + 1, Obj.cells (txA s) 26 (0, 0)) :: ((w.heap.size, Obj.cells (txA t) 26 (0, 0)) :: []))))))) := he33.choose_spec
  have hone := @EnvC.one _ _ _ hw34
  iterate 7 (refine wpG_op rfl rfl rfl ?_; intro K hK; go_big_quiet_op; go_big_quiet_on)
  clear hone hw34
  refine wpG_nil ?_
  intro u36 E2'
  have EX35 := Lib.hid E2'
  clear E2'
  go_upto_region 12 with (fail)
  refine wp_region_Hx (w0 := w) [0, 1, 2, 3, 4, 5, 6, 7, 8, 9] (N11 ++ (N10 ++ ((ga, Obj.cells (txC t).toArray 26 (0, 0)) :: (N9 ++ (N6 ++ ((w.heap.size + 1, Obj.cells (txA s) 26 (0, 0)) :: ((w.heap.size, Obj.cells (txA t) 26 (0, 0)) :: []))))))) rfl EX35.out ?_
  refine lexH_phase [0, 1, 2] [3, 4, 5, 6, 7, 8, 9] ?_
  have hw37 : EnvX w _ (N11 ++ (N10 ++ ((ga, Obj.cells (txC t).toArray 26 (0, 0)) :: (N9 ++ (N6 ++ ((w.heap.size + 1, Obj.cells (txA s) 26 (0, 0)) :: ((w.heap.size, Obj.cells (txA t) 26 (0, 0)) :: []))))))) := EX35.out
  have hone := @EnvC.one _ _ _ hw37
  (refine wpG_op rfl rfl rfl ?_; intro K hK; go_big_quiet_op; go_big_quiet_on)
  (refine wpG_val (v := .agg (txC t).toArray) rfl rfl (fun u hu => load_any_op u (box_tx hu (List.mem_append_right _ (List.mem_append_right _ (List.Mem.tail _ (List.mem_append_right _ (List.mem_append_right _ (List.Mem.tail _ (List.Mem.head _)))))))) rfl) ?_ hw37; intro K hK; go_big_quiet_op; go_big_quiet_on)
  (refine wpG_val (v := .agg (txC s).toArray) rfl rfl (fun u hu => load_any_op u (box_tx hu (List.mem_append_right _ (List.mem_append_right _ (List.Mem.tail _ (List.mem_append_right _ (List.mem_append_right _ (List.Mem.head _))))))) rfl) ?_ hw37; intro K hK; go_big_quiet_op; go_big_quiet_on)
  clear hone hw37
  refine wpG_nil ?_
  refine (hOp_fresh (R := BuiltR2 26 (txC t) (txC s)) (M0 := (N11 ++ (N10 ++ ((ga, Obj.cells (txC t).toArray 26 (0, 0)) :: (N9 ++ (N6 ++ ((w.heap.size + 1, Obj.cells (txA s) 26 (0, 0)) :: ((w.heap.size, Obj.cells (txA t) 26 (0, 0)) :: [])))))))) rfl rfl (fun _ h => h) (fun u hu => FAt_buildR2 elTx rfl rfl rfl rfl u) ?_)
  rintro _ _ ⟨gd, rfl, rfl⟩ hf he38; intro K' hK'; go_big_quiet_op; go_big_quiet_on
  clear hf
  change lexH _ _ _ _ _ _ ((gd, Obj.cells (txC t ++ txC s).toArray 26 (0, 0)) :: (N11 ++ (N10 ++ ((ga, Obj.cells (txC t).toArray 26 (0, 0)) :: (N9 ++ (N6 ++ ((w.heap.size + 1, Obj.cells (txA s) 26 (0, 0)) :: ((w.heap.size, Obj.cells (txA t) 26 (0, 0)) :: []))))))))
  refine (hOp_turn (gd := none) (R := fun x M' => ∃ A c N, x = .tuple #[.slice A (d).length c, .int .i64 ((ei : Nat) : Int)] ∧ M' = N ++ ((gd, Obj.cells (txC t ++ txC s).toArray 26 (0, 0)) :: (N11 ++ (N10 ++ ((ga, Obj.cells (txC t).toArray 26 (0, 0)) :: (N9 ++ (N6 ++ ((w.heap.size + 1, Obj.cells (txA s) 26 (0, 0)) :: ((w.heap.size, Obj.cells (txA t) 26 (0, 0)) :: [])))))))) ∧ ((d).length ≤ c ∧ c ≤ maxLen) ∧ CoB (d) A N) rfl rfl rfl rfl (fun u hu => OUpon_call (fid := 14) (xs := #[.tmp 102, .tmp 105]) (args := #[.slice A n c, .slice (some ⟨gd, 0, none⟩) 2 2]) rfl Tryd.func14 rfl rfl u (co_turn2 (by have h := HH.out.apply p A n c [t, s] (some ⟨gd, 0, none⟩) 2 2 u HL.out HN48.out HNC.out.1 HNC.out.2 HPP.out (CellsIn.up HAA.out (EnvX.bel hu)) rfl (by decide) (Nat.le_refl _) (by decide) (tx_two hu (List.Mem.head _) (K_t.out.up (EnvX.bel hu)) (K_s.out.up (EnvX.bel hu))) (two_few HF_t.out HF_s.out) (HT.out.below (EnvX.bel hu)); rwa [show rsT [t, s] = [t.r, s.r] from rfl, HA2.out] at h) hu)) ?_)
  rintro _ _ ⟨A12, c12, N12, rfl, rfl, hc12, hb12⟩ he39; intro K' hK'; go_big_quiet_op; go_big_quiet_on
  have HC12 := Lib.hid hc12
  have HB12 := Lib.hid hb12
  clear hc12 hb12
  change lexH _ _ _ _ _ _ (N12 ++ ((gd, Obj.cells (txC t ++ txC s).toArray 26 (0, 0)) :: (N11 ++ (N10 ++ ((ga, Obj.cells (txC t).toArray 26 (0, 0)) :: (N9 ++ (N6 ++ ((w.heap.size + 1, Obj.cells (txA s) 26 (0, 0)) :: ((w.heap.size, Obj.cells (txA t) 26 (0, 0)) :: [])))))))))
  refine lexH_phase [5, 6, 7, 8, 9] [] ?_
  have hw40 : EnvX w _ (N12 ++ ((gd, Obj.cells (txC t ++ txC s).toArray 26 (0, 0)) :: (N11 ++ (N10 ++ ((ga, Obj.cells (txC t).toArray 26 (0, 0)) :: (N9 ++ (N6 ++ ((w.heap.size + 1, Obj.cells (txA s) 26 (0, 0)) :: ((w.heap.size, Obj.cells (txA t) 26 (0, 0)) :: []))))))))) := he39.choose_spec
  have hone := @EnvC.one _ _ _ hw40
  iterate 5 (refine wpG_op rfl rfl rfl ?_; intro K hK; go_big_quiet_op; go_big_quiet_on)
  clear hone hw40
  refine wpG_nil ?_
  intro u42 E2'
  have EX41 := Lib.hid E2'
  clear E2'
  go_upto_region 13 with (fail)
  refine wp_region_Hx (w0 := w) [0, 1, 2, 3, 4, 5, 6, 7, 8] (N12 ++ ((gd, Obj.cells (txC t ++ txC s).toArray 26 (0, 0)) :: (N11 ++ (N10 ++ ((ga, Obj.cells (txC t).toArray 26 (0, 0)) :: (N9 ++ (N6 ++ ((w.heap.size + 1, Obj.cells (txA s) 26 (0, 0)) :: ((w.heap.size, Obj.cells (txA t) 26 (0, 0)) :: []))))))))) rfl EX41.out ?_
  refine lexH_phase [0, 1, 2, 3, 4, 5, 6, 7, 8] [] ?_
  have hw43 : EnvX w _ (N12 ++ ((gd, Obj.cells (txC t ++ txC s).toArray 26 (0, 0)) :: (N11 ++ (N10 ++ ((ga, Obj.cells (txC t).toArray 26 (0, 0)) :: (N9 ++ (N6 ++ ((w.heap.size + 1, Obj.cells (txA s) 26 (0, 0)) :: ((w.heap.size, Obj.cells (txA t) 26 (0, 0)) :: []))))))))) := EX41.out
  have hone := @EnvC.one _ _ _ hw43
  iterate 2 (refine wpG_op rfl rfl rfl ?_; intro K hK; go_big_quiet_op; go_big_quiet_on)
  (refine wpG_val (v := .bool false) rfl rfl (fun u hu => neErr_op u (decide_eq_false (fun h => h rfl)) rfl rfl) ?_ hw43; intro K hK; go_big_quiet_op; go_big_quiet_on)
  iterate 3 (refine wpG_op rfl rfl rfl ?_; intro K hK; go_big_quiet_op; go_big_quiet_on)
  (refine wpG_call (f := 21) (args := #[.slice A9 a.length c9, .slice A10 a.length c10]) (v := .bool true) rfl rfl rfl Tryd.func21 rfl rfl (fun u hu => by have h := HH.out.same a a A9 A10 a.length c9 a.length c10 u rfl HA48.out HC9.out.1 HC9.out.2 HAO.out (CoB.read HB9.out hu (fun y MEM => (List.mem_append_right _ (List.Mem.tail _ (List.mem_append_right _ (List.mem_append_right _ (List.Mem.tail _ (List.mem_append_left _ MEM)))))))) rfl HA48.out HC10.out.1 HC10.out.2 HAO.out (CoB.read HB10.out hu (fun y MEM => (List.mem_append_right _ (List.Mem.tail _ (List.mem_append_right _ (List.mem_append_left _ MEM)))))) (HT.out.below (EnvX.bel hu)); rwa [HSAA.out] at h) ?_ hw43; intro K hK; go_big_quiet_op; go_big_quiet_on)
  iterate 2 (refine wpG_op rfl rfl rfl ?_; intro K hK; go_big_quiet_op; go_big_quiet_on)
  clear hone hw43
  refine wpG_nil ?_
  intro u45 E2'
  have EX44 := Lib.hid E2'
  clear E2'
  cases ea with
  | succ ea =>
    have h2 := HA2E.out
    rw [if_neg (Nat.succ_ne_zero _)] at h2
    have CEA : Hid (decide (((ea + 1 : Nat) : Int) ≠ 0) = true) := decide_eq_true (by omega)
    have CEI : Hid (decide (((ei : Nat) : Int) = ((ea + 1 : Nat) : Int)) = true) := by
      cases h2
      exact decide_eq_true rfl
    clear h2 HA2E
    go_upto_region 15 with (fail)
    refine wp_region_Hx (w0 := w) [0, 1, 2, 3, 4, 5, 6, 7, 8, 9, 10, 11, 12, 13, 14, 15, 16, 17, 18, 19, 20, 21, 22, 23, 24, 25, 26, 27, 28, 29, 30, 31, 32, 33, 34] (N12 ++ ((gd, Obj.cells (txC t ++ txC s).toArray 26 (0, 0)) :: (N11 ++ (N10 ++ ((ga, Obj.cells (txC t).toArray 26 (0, 0)) :: (N9 ++ (N6 ++ ((w.heap.size + 1, Obj.cells (txA s) 26 (0, 0)) :: ((w.heap.size, Obj.cells (txA t) 26 (0, 0)) :: []))))))))) rfl EX44.out ?_
    refine lexH_phase [0, 1, 2, 3, 4, 5, 6, 7, 8, 9, 10, 11, 12, 13, 14, 15, 16, 17, 18, 19, 20, 21, 22, 23, 24, 25, 26, 27, 28, 29, 30, 31, 32, 33, 34] [] ?_
    have hw46 : EnvX w _ (N12 ++ ((gd, Obj.cells (txC t ++ txC s).toArray 26 (0, 0)) :: (N11 ++ (N10 ++ ((ga, Obj.cells (txC t).toArray 26 (0, 0)) :: (N9 ++ (N6 ++ ((w.heap.size + 1, Obj.cells (txA s) 26 (0, 0)) :: ((w.heap.size, Obj.cells (txA t) 26 (0, 0)) :: []))))))))) := EX44.out
    have hone := @EnvC.one _ _ _ hw46
    (refine wpG_op rfl rfl rfl ?_; intro K hK; go_big_quiet_op; go_big_quiet_on)
    (refine wpG_val (v := .bool true) rfl rfl (fun u hu => neErr_op u CEA.out rfl rfl) ?_ hw46; intro K hK; go_big_quiet_op; go_big_quiet_on)
    iterate 3 (refine wpG_op rfl rfl rfl ?_; intro K hK; go_big_quiet_op; go_big_quiet_on)
    (refine wpG_val (v := .bool true) rfl rfl (fun u hu => eqErr_op u CEI.out rfl rfl) ?_ hw46; intro K hK; go_big_quiet_op; go_big_quiet_on)
    iterate 2 (refine wpG_op rfl rfl rfl ?_; intro K hK; go_big_quiet_op; go_big_quiet_on)
    iterate 25 (refine wpG_skip rfl rfl ?_ hw46; intro K hK; go_big_quiet_op; go_big_quiet_on)
    iterate 2 (refine wpG_op rfl rfl rfl ?_; intro K hK; go_big_quiet_op; go_big_quiet_on)
    clear hone hw46
    refine wpG_nil ?_
    intro u48 E2'
    have EX47 := Lib.hid E2'
    clear E2'
    have HBE := Lib.hid (EnvX.bel EX47.out)
    go_wp2
    go_ret
    exact ⟨rfl, HBE.out⟩
  | zero =>
    have h2 := HA2E.out
    rw [if_pos rfl] at h2
    have CEA : Hid (decide (((0 : Nat) : Int) ≠ 0) = false) := decide_eq_false (by omega)
    cases ec with
    | succ ec =>
      rw [if_neg (Nat.succ_ne_zero _)] at h2
      have CEI : Hid (decide (((ec + 1 : Nat) : Int) = ((ei : Nat) : Int)) = true) := by
        cases h2
        exact decide_eq_true rfl
      have CEC : Hid (decide (((ei : Nat) : Int) ≠ 0) = true) := by
        cases h2
        exact decide_eq_true (by omega)
      have HSD : Hid (samePu d p = true) := by
        cases h2
        exact decide_eq_true rfl
      clear h2 HA2E
      go_upto_region 15 with (fail)
      refine wp_region_Hx (w0 := w) [0, 1, 2, 3, 4, 5, 6, 7, 8, 9, 10, 11, 12, 13, 14, 15, 16, 17, 18, 19, 20, 21, 22, 23, 24, 25, 26, 27, 28, 29, 30, 31, 32, 33, 34] (N12 ++ ((gd, Obj.cells (txC t ++ txC s).toArray 26 (0, 0)) :: (N11 ++ (N10 ++ ((ga, Obj.cells (txC t).toArray 26 (0, 0)) :: (N9 ++ (N6 ++ ((w.heap.size + 1, Obj.cells (txA s) 26 (0, 0)) :: ((w.heap.size, Obj.cells (txA t) 26 (0, 0)) :: []))))))))) rfl EX44.out ?_
      refine lexH_phase [0, 1, 2, 3, 4, 5, 6, 7, 8, 9, 10, 11, 12, 13, 14, 15, 16, 17, 18, 19, 20, 21, 22, 23, 24, 25, 26, 27, 28, 29, 30, 31, 32, 33, 34] [] ?_
      have hw46 : EnvX w _ (N12 ++ ((gd, Obj.cells (txC t ++ txC s).toArray 26 (0, 0)) :: (N11 ++ (N10 ++ ((ga, Obj.cells (txC t).toArray 26 (0, 0)) :: (N9 ++ (N6 ++ ((w.heap.size + 1, Obj.cells (txA s) 26 (0, 0)) :: ((w.heap.size, Obj.cells (txA t) 26 (0, 0)) :: []))))))))) := EX44.out
      have hone := @EnvC.one _ _ _ hw46
      (refine wpG_op rfl rfl rfl ?_; intro K hK; go_big_quiet_op; go_big_quiet_on)
      (refine wpG_val (v := .bool false) rfl rfl (fun u hu => neErr_op u CEA.out rfl rfl) ?_ hw46; intro K hK; go_big_quiet_op; go_big_quiet_on)
      (refine wpG_op rfl rfl rfl ?_; intro K hK; go_big_quiet_op; go_big_quiet_on)
      iterate 3 (refine wpG_skip rfl rfl ?_ hw46; intro K hK; go_big_quiet_op; go_big_quiet_on)
      iterate 3 (refine wpG_op rfl rfl rfl ?_; intro K hK; go_big_quiet_op; go_big_quiet_on)
      (refine wpG_val (v := .bool true) rfl rfl (fun u hu => eqErr_op u (decide_eq_true rfl) rfl rfl) ?_ hw46; intro K hK; go_big_quiet_op; go_big_quiet_on)
      iterate 3 (refine wpG_op rfl rfl rfl ?_; intro K hK; go_big_quiet_op; go_big_quiet_on)
      (refine wpG_val (v := .bool true) rfl rfl (fun u hu => eqErr_op u CEI.out rfl rfl) ?_ hw46; intro K hK; go_big_quiet_op; go_big_quiet_on)
      iterate 3 (refine wpG_op rfl rfl rfl ?_; intro K hK; go_big_quiet_op; go_big_quiet_on)
      (refine wpG_val (v := .bool true) rfl rfl (fun u hu => neErr_op u CEC.out rfl rfl) ?_ hw46; intro K hK; go_big_quiet_op; go_big_quiet_on)
      iterate 3 (refine wpG_op rfl rfl rfl ?_; intro K hK; go_big_quiet_op; go_big_quiet_on)
      (refine wpG_call (f := 21) (args := #[.slice A12 d.length c12, .slice A n c]) (v := .bool true) rfl rfl rfl Tryd.func21 rfl rfl (fun u hu => by have h := HH.out.same d p A12 A d.length c12 n c u rfl HD48.out HC12.out.1 HC12.out.2 HDO.out (CoB.read HB12.out hu (fun y MEM => (List.mem_append_left _ MEM))) HL.out HN48.out HNC.out.1 HNC.out.2 HPP.out (CellsIn.up HAA.out (EnvX.bel hu)) (HT.out.below (EnvX.bel hu)); rwa [HSD.out] at h) ?_ hw46; intro K hK; go_big_quiet_op; go_big_quiet_on)
      iterate 2 (refine wpG_op rfl rfl rfl ?_; intro K hK; go_big_quiet_op; go_big_quiet_on)
      iterate 7 (refine wpG_skip rfl rfl ?_ hw46; intro K hK; go_big_quiet_op; go_big_quiet_on)
      iterate 4 (refine wpG_op rfl rfl rfl ?_; intro K hK; go_big_quiet_op; go_big_quiet_on)
      clear hone hw46
      refine wpG_nil ?_
      intro u48 E2'
      have EX47 := Lib.hid E2'
      clear E2'
      have HBE := Lib.hid (EnvX.bel EX47.out)
      go_wp2
      go_ret
      exact ⟨rfl, HBE.out⟩
    | zero =>
      rw [if_pos rfl] at h2
      have CEI : Hid (decide (((0 : Nat) : Int) = ((ei : Nat) : Int)) = true) := by
        cases h2
        exact decide_eq_true rfl
      have CEC : Hid (decide (((ei : Nat) : Int) ≠ 0) = false) := by
        cases h2
        exact decide_eq_false (by omega)
      have CEC2 : Hid (decide (((ei : Nat) : Int) = 0) = true) := by
        cases h2
        exact decide_eq_true rfl
      have HSD : Hid (samePu cc d = true) := by
        cases h2
        exact decide_eq_true rfl
      clear h2 HA2E
      go_upto_region 15 with (fail)
      refine wp_region_Hx (w0 := w) [0, 1, 2, 3, 4, 5, 6, 7, 8, 9, 10, 11, 12, 13, 14, 15, 16, 17, 18, 19, 20, 21, 22, 23, 24, 25, 26, 27, 28, 29, 30, 31, 32, 33, 34] (N12 ++ ((gd, Obj.cells (txC t ++ txC s).toArray 26 (0, 0)) :: (N11 ++ (N10 ++ ((ga, Obj.cells (txC t).toArray 26 (0, 0)) :: (N9 ++ (N6 ++ ((w.heap.size + 1, Obj.cells (txA s) 26 (0, 0)) :: ((w.heap.size, Obj.cells (txA t) 26 (0, 0)) :: []))))))))) rfl EX44.out ?_
      refine lexH_phase [0, 1, 2, 3, 4, 5, 6, 7, 8, 9, 10, 11, 12, 13, 14, 15, 16, 17, 18, 19, 20, 21, 22, 23, 24, 25, 26, 27, 28, 29, 30, 31, 32, 33, 34] [] ?_
      have hw46 : EnvX w _ (N12 ++ ((gd, Obj.cells (txC t ++ txC s).toArray 26 (0, 0)) :: (N11 ++ (N10 ++ ((ga, Obj.cells (txC t).toArray 26 (0, 0)) :: (N9 ++ (N6 ++ ((w.heap.size + 1, Obj.cells (txA s) 26 (0, 0)) :: ((w.heap.size, Obj.cells (txA t) 26 (0, 0)) :: []))))))))) := EX44.out
      have hone := @EnvC.one _ _ _ hw46
      (refine wpG_op rfl rfl rfl ?_; intro K hK; go_big_quiet_op; go_big_quiet_on)
      (refine wpG_val (v := .bool false) rfl rfl (fun u hu => neErr_op u CEA.out rfl rfl) ?_ hw46; intro K hK; go_big_quiet_op; go_big_quiet_on)
      (refine wpG_op rfl rfl rfl ?_; intro K hK; go_big_quiet_op; go_big_quiet_on)
      iterate 3 (refine wpG_skip rfl rfl ?_ hw46; intro K hK; go_big_quiet_op; go_big_quiet_on)
      iterate 3 (refine wpG_op rfl rfl rfl ?_; intro K hK; go_big_quiet_op; go_big_quiet_on)
      (refine wpG_val (v := .bool true) rfl rfl (fun u hu => eqErr_op u (decide_eq_true rfl) rfl rfl) ?_ hw46; intro K hK; go_big_quiet_op; go_big_quiet_on)
      iterate 3 (refine wpG_op rfl rfl rfl ?_; intro K hK; go_big_quiet_op; go_big_quiet_on)
      (refine wpG_val (v := .bool true) rfl rfl (fun u hu => eqErr_op u CEI.out rfl rfl) ?_ hw46; intro K hK; go_big_quiet_op; go_big_quiet_on)
      iterate 3 (refine wpG_op rfl rfl rfl ?_; intro K hK; go_big_quiet_op; go_big_quiet_on)
      (refine wpG_val (v := .bool false) rfl rfl (fun u hu => neErr_op u CEC.out rfl rfl) ?_ hw46; intro K hK; go_big_quiet_op; go_big_quiet_on)
      (refine wpG_op rfl rfl rfl ?_; intro K hK; go_big_quiet_op; go_big_quiet_on)
      iterate 3 (refine wpG_skip rfl rfl ?_ hw46; intro K hK; go_big_quiet_op; go_big_quiet_on)
      iterate 3 (refine wpG_op rfl rfl rfl ?_; intro K hK; go_big_quiet_op; go_big_quiet_on)
      (refine wpG_val (v := .bool true) rfl rfl (fun u hu => eqErr_op u CEC2.out rfl rfl) ?_ hw46; intro K hK; go_big_quiet_op; go_big_quiet_on)
      iterate 3 (refine wpG_op rfl rfl rfl ?_; intro K hK; go_big_quiet_op; go_big_quiet_on)
      (refine wpG_call (f := 21) (args := #[.slice A11 cc.length c11, .slice A12 d.length c12]) (v := .bool true) rfl rfl rfl Tryd.func21 rfl rfl (fun u hu => by have h := HH.out.same cc d A11 A12 cc.length c11 d.length c12 u rfl HC48.out HC11.out.1 HC11.out.2 HCO.out (CoB.read HB11.out hu (fun y MEM => (List.mem_append_right _ (List.Mem.tail _ (List.mem_append_left _ MEM))))) rfl HD48.out HC12.out.1 HC12.out.2 HDO.out (CoB.read HB12.out hu (fun y MEM => (List.mem_append_left _ MEM))) (HT.out.below (EnvX.bel hu)); rwa [HSD.out] at h) ?_ hw46; intro K hK; go_big_quiet_op; go_big_quiet_on)
      iterate 5 (refine wpG_op rfl rfl rfl ?_; intro K hK; go_big_quiet_op; go_big_quiet_on)
      clear hone hw46
      refine wpG_nil ?_
      intro u48 E2'
      have EX47 := Lib.hid E2'
      clear E2'
      have HBE := Lib.hid (EnvX.bel EX47.out)
      go_wp2
      go_ret
      exact ⟨rfl, HBE.out⟩
theorem law_one10 (H : PurseC) (p : List CoinR) (t s : TxM) (A : Option Addr) (n c : Nat) (w : World) (hl : p.length = n) (hnc : n ≤ c) (hcm : c ≤ maxLen) (hI : okP p) (hA : CoinsIn w w.heap.size A p) (kt : TxOk w t) (ks : TxOk w s) (ht : Tables w) :
    Calls Tryd.prog 6 #[.slice A n c, txV t, txV s] w fun e w' => e = .returned (.bool true) ∧ Below w.heap.size w w' := by
  cases k1 : fewX t.r with
  | false => exact law_one10_fewt H p t s A n c w hl hnc hcm hI hA kt ks ht k1
  | true =>
    cases k2 : fewX s.r with
    | false => exact law_one10_fews H p t s A n c w hl hnc hcm hI hA kt ks ht k1 k2
    | true =>
      by_cases k3 : 60 < n
      · exact law_one10_many H p t s A n c w hl hnc hcm hI hA kt ks ht k1 k2 k3
      · cases k4 : mayP p with
        | false => exact law_one10_may H p t s A n c w hl hnc hcm hI hA kt ks ht k1 k2 k3 k4
        | true =>
          by_cases k5 : t.n1 = 0
          · exact law_one10_noneT H p t s A n c w hl hnc hcm hI hA kt ks ht k1 k2 k3 k4 k5
          · by_cases k6 : s.n1 = 0
            · exact law_one10_noneS H p t s A n c w hl hnc hcm hI hA kt ks ht k1 k2 k3 k4 k5 k6
            · exact law_one10_main H p t s A n c w hl hnc hcm hI hA kt ks ht k1 k2 k3 k4 k5 k6
end Go.Proofs.YtabhhbdbkeeblaaDoor
namespace Go.Proofs.YtabhhbdbkeeblaaDoor.purseOne
set_option maxRecDepth 8000
open Go.ChangeShapes Go.WideShapes Go.ChangeAt Go.RowKit
theorem contract (H : Type) (enc : TypeId × Value → H) (W : World) (base : Nat) (args : Array Value) (ds gs : List (DataW H)) (before : List MemPlace)
    (hval : ∀ (j : Nat) t v, Tryd.f6.params[j]? = some t → args[j]? = some v → Value.okWide Tryd.prog W .any base t v)
    (hW : DataW.Whole enc Tryd.prog Tryd.f6.params.toList Rows.purseOneSpec.vars false W args.toList ds gs before) (hL : laidMetH Tryd.prog Rows.purseOneRow.laid W) :
    Calls Tryd.prog 6 args W fun e W' => ∃ v, e = .returned v ∧ Rows.purseOneSpec.post enc Tryd.prog Tryd.f6 false true false false W args v W' := by
  have hW' := hW
  obtain ⟨p, q, hA0, hV, rfl, hfz, hnd⟩ := hW
  have hA : DataW.TrodAll enc Tryd.prog W 0 (fun _ => true) true Tryd.f6.params.toList args.toList ds p := hA0
  rw [Tryd.params6] at hA hval
  obtain ⟨v0, vs0, d0, ds0, p0, q0, hargs, rfl, rfl, h0, r0⟩ := trodAll_cons hA
  obtain ⟨v1, vs1, d1, ds1, p1, q1, rfl, rfl, rfl, h1, r1⟩ := trodAll_cons r0
  obtain ⟨v2, vs2, d2, ds2, p2, q2, rfl, rfl, rfl, h2, r2⟩ := trodAll_cons r1
  obtain ⟨rfl, rfl, rfl⟩ := trodAll_nil r2
  obtain rfl : args = #[v0, v1, v2] := by cases args; simp_all
  obtain ⟨rfl, rfl⟩ := trodVars_none hV
  have lt0 : ∀ x ∈ p0, x.block < W.heap.size := by obtain ⟨m, hm⟩ := h0; exact DataW.trod_lt m _ _ _ hm
  obtain ⟨a0, n0, c0, x0, rfl, lx0, nc0, cm0, kx0, px0⟩ := open_coins (hval 0 22 v0 rfl rfl) h0
  have lt1 : ∀ x ∈ p1, x.block < W.heap.size := by obtain ⟨m, hm⟩ := h1; exact DataW.trod_lt m _ _ _ hm
  obtain ⟨x1, rfl, kx1⟩ := open_tx (hval 1 26 v1 rfl rfl) h1
  have lt2 : ∀ x ∈ p2, x.block < W.heap.size := by obtain ⟨m, hm⟩ := h2; exact DataW.trod_lt m _ _ _ hm
  obtain ⟨x2, rfl, kx2⟩ := open_tx (hval 2 26 v2 rfl rfl) h2
  clear hA0
  refine (law_one10 purseC x0 x1 x2 a0 n0 c0 W lx0 nc0 cm0 kx0 px0 kx1 kx2 (tables_of_laid hL)).mono fun e W' ⟨he, bel⟩ => ?_
  subst he
  exact ⟨_, rfl, _, _, _, [], _, [], hW', trodAll_mk1 (shut_bool Tryd.underlying4 _), (trodAll_cons_mk (Below.trod laidOut (by kernel_rfl) (of_decide_eq_true (by kernel_rfl)) h0 bel lt0) (trodAll_cons_mk (Below.trod laidOut (by kernel_rfl) (of_decide_eq_true (by kernel_rfl)) h1 bel lt1) (trodAll_cons_mk (Below.trod laidOut (by kernel_rfl) (of_decide_eq_true (by kernel_rfl)) h2 bel lt2) trodAll_mk0))), rfl, bel.frame _, fun h => by cases h⟩
def start : Array Value := #[.slice none 0 0, zeroX, zeroX]
theorem reads (os : Os) {H : Type} (enc : TypeId × Value → H) : ∃ places, DataW.whole enc Tryd.prog ((laidWorld os).forCall (fun _ _ => 0) ⟨#[], start, []⟩).memory Tryd.f6.params.toList Rows.purseOneSpec.vars false start.toList 8 = some ([.nil, zeroXD, zeroXD], [], places) :=
  ⟨[], by kernel_rfl⟩
set_option maxRecDepth 100000 in
theorem lifted (os : Os) (started : os.Started) (H : Type) (enc : TypeId × Value → H) (F : Stop.Interp) :
    ReturnsInHanded {} Tryd.checked os 6 .any ((OpenSpec.ofChange Rows.purseOneSpec).preRow enc Tryd.prog Tryd.f6 Rows.purseOneRow.domain false Rows.purseOneRow.laid) (((OpenSpec.ofChange Rows.purseOneSpec).at F).post enc Tryd.prog Tryd.f6 false true false false) := by
  obtain ⟨places, hx⟩ := reads os enc
  refine returnsInHanded_of_row (C := Tryd.checked) (s := OpenSpec.ofChange Rows.purseOneSpec) own started (by kernel_rfl) Tryd.func6
    (witness_row_at (enc := enc) (C := Tryd.checked) false (laidWorld os) start rfl (by kernel_rfl) (by kernel_rfl) (by kernel_rfl)
      (OpenSpec.preRow_of_cond 8 hx (by kernel_rfl) (fun k hk => by cases hk) (by kernel_rfl) (laidMet_of_run' 8 (by kernel_rfl) (by kernel_rfl)))) ?_
  intro W base args ds gs before hval hW _ _ _ hL _ _
  exact contract H enc W base args ds gs before hval hW hL
theorem said : Rows.PurseOneSaid :=
  OpenClaim.holds_of_cond 6 Tryd.f6 rfl rfl rfl rfl rfl rfl rfl ⟨rfl, rfl, rfl, rfl, rfl⟩ rfl rfl rfl rfl rfl (by kernel_rfl) Tryd.func6 (by kernel_rfl)
    (of_decide_eq_true (by kernel_rfl)) (by unfold Func.isWrapper; first | (rw [if_pos (by decide +kernel)]; kernel_rfl) | (rw [if_neg (by decide +kernel)]; exact ⟨rfl, rfl⟩))
    (fun os started H enc _ F => by rw [OpenClaim.pre_eq_preRow]; exact lifted os started H enc F)
theorem plain (f : FuncId) (fn : Func) (hf : Tryd.pinned.checked.prog.funcNamed "stepladder/stepladderlaw10.PurseOne" = some f) (hfn : Tryd.pinned.checked.prog.funcs[f]? = some fn) :
    false = Tryd.pinned.checked.prog.looks [] ∧ ∀ (j : Nat) t, fn.params[j]? = some t → Tryd.pinned.checked.prog.wantsStandIn t = false := by
  obtain rfl : f = 6 := Option.some.inj ((show Tryd.prog.funcNamed "stepladder/stepladderlaw10.PurseOne" = some 6 by kernel_rfl).symm.trans hf) |>.symm
  obtain rfl : fn = Tryd.f6 := (Option.some.inj (Tryd.func6.symm.trans hfn)).symm
  refine ⟨by kernel_rfl, fun j t ht => ?_⟩
  rw [Tryd.params6] at ht
  have hm : t = 22 ∨ t = 26 ∨ t = 26 := by simpa using Array.mem_of_getElem? ht
  rcases hm with rfl | rfl | rfl
  · exact (show Tryd.prog.wantsStandIn 22 = false by kernel_rfl)
  · exact (show Tryd.prog.wantsStandIn 26 = false by kernel_rfl)
  · exact (show Tryd.prog.wantsStandIn 26 = false by kernel_rfl)
theorem card : Rows.PurseOneCardSaid :=
  Claim7.holds_tied_plain_at .later [] _ _ _ _ said (fun _ h => by cases h) (by kernel_rfl) (fun _ h => by cases h) purseOne_row_tie rfl ⟨rfl, rfl⟩ (by kernel_rfl) rfl plain (by kernel_rfl)
end Go.Proofs.YtabhhbdbkeeblaaDoor.purseOne
