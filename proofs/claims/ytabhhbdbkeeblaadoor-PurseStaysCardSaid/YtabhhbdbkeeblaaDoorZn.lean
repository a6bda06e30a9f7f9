/- Part of a proof. -/
import Derived.Test.YtabhhbdbkeeblaaDoorZm
namespace Go.Proofs.YtabhhbdbkeeblaaDoor
set_option maxRecDepth 8000
open Go.RowKit
/-- what spending comes to: coins of one's own, if there is no error -/
def SpE (p : List CoinR) (t : TxR) (w : World) (B : Nat) (e : Ending) : Prop := ∃ v, e = .returned (.tuple #[v, .int .i64 (spendP p t).2.1, .int .i64 ((spendP p t).2.2 : Int)]) ∧ ((spendP p t).2.2 = 0 → w.ownsRow B 50 35 v (spendP p t).1.length (((spendP p t).1).map coC).flatten)
theorem SpE.mk {p : List CoinR} {t : TxR} {w : World} {B : Nat} {q : List CoinR} {m : Int} {k : Nat} (v : Value) (h : spendP p t = (q, m, k)) (hv : k = 0 → w.ownsRow B 50 35 v q.length (q.map coC).flatten) : SpE p t w B (.returned (.tuple #[v, .int .i64 m, .int .i64 (k : Int)])) := ⟨v, by rw [h], by rw [h]; exact hv⟩
def SpN (p : List CoinR) (t : TxR) (x : Value) (N : Boxes) : Prop := ∃ v, x = .tuple #[v, .int .i64 (spendP p t).2.1, .int .i64 ((spendP p t).2.2 : Int)] ∧ ((spendP p t).2.2 = 0 → FreshR 50 35 (spendP p t).1.length (((spendP p t).1).map coC).flatten v N)
theorem callsS_fresh {f : FuncId} {args : Array Value} {u : World} {p : List CoinR} {t : TxR} (h : Calls Tryd.prog f args u fun e w' => SpE p t w' u.heap.size e ∧ Below u.heap.size u w') :
    Calls Tryd.prog f args u fun e w' => ∃ x N, e = .returned x ∧ SpN p t x N ∧ Below u.heap.size u w' ∧ ∀ y ∈ N, u.heap.size ≤ y.1 ∧ w'.heap[y.1]? = some y.2 :=
  h.mono fun e w' ⟨⟨v, he, hv⟩, hb⟩ => by
    by_cases h0 : (spendP p t).2.2 = 0
    · obtain ⟨N, hF, hN⟩ := fresh_of_own (hv h0)
      exact ⟨_, N, he, ⟨v, rfl, fun _ => hF⟩, hb, fun y hy => ⟨(hN y hy).1, (hN y hy).2.1⟩⟩
    · exact ⟨_, [], he, ⟨v, rfl, fun h => absurd h h0⟩, hb, fun y hy => by cases hy⟩
theorem callsW_none {f : FuncId} {args : Array Value} {u : World} {p : List CoinR} {xs : List InR} (h : Calls Tryd.prog f args u fun e w' => WoE p xs w' u.heap.size e ∧ Below u.heap.size u w') (hn : takeP p xs = none) :
    Calls Tryd.prog f args u fun e w' => e = .returned (.tuple #[.slice none 0 0, .int .i64 0, .bool false]) ∧ Below u.heap.size u w' :=
  h.mono fun e w' ⟨⟨v, m, b, he, hv⟩, hb⟩ => by
    unfold WoR at hv
    rw [hn] at hv
    obtain ⟨rfl, rfl, rfl⟩ := hv
    exact ⟨he, hb⟩
def WoN (l : List CoinR) (m : Int) (x : Value) (N : Boxes) : Prop := ∃ v, x = .tuple #[v, .int .i64 m, .bool true] ∧ FreshR 50 35 l.length (l.map coC).flatten v N
theorem callsW_some {f : FuncId} {args : Array Value} {u : World} {p : List CoinR} {xs : List InR} {l : List CoinR} {m : Int} (h : Calls Tryd.prog f args u fun e w' => WoE p xs w' u.heap.size e ∧ Below u.heap.size u w') (hn : takeP p xs = some (l, m)) :
    Calls Tryd.prog f args u fun e w' => ∃ x N, e = .returned x ∧ WoN l m x N ∧ Below u.heap.size u w' ∧ ∀ y ∈ N, u.heap.size ≤ y.1 ∧ w'.heap[y.1]? = some y.2 :=
  h.mono fun e w' ⟨⟨v, m', b, he, hv⟩, hb⟩ => by
    unfold WoR at hv
    rw [hn] at hv
    obtain ⟨hv, rfl, rfl⟩ := hv
    obtain ⟨N, hF, hN⟩ := fresh_of_own hv
    exact ⟨_, N, he, ⟨v, rfl, hF⟩, hb, fun y hy => ⟨(hN y hy).1, (hN y hy).2.1⟩⟩
theorem FreshR.lenOf {e : TypeId} {z n : Nat} {xs : List Value} {x : Value} {N : Boxes} (h : FreshR e z n xs x N) : xs.length = n * z := by
  rcases h with ⟨g, cap, cur, _, _, h1, _, h3, h4⟩ | ⟨_, _, h1, h2⟩
  · rw [← h4, List.length_take, Array.length_toList, h3]
    have : n * z ≤ cap * z := Nat.mul_le_mul_right _ h1
    omega
  · rw [h2, h1]
    simp
set_option maxRecDepth 20000 in
set_option maxHeartbeats 16000000 in
theorem pexchange_any (p : List CoinR) (A : Option Addr) (n c : Nat) (r : TxR) (A1 : Option Addr) (n1 c1 : Nat) (A2 : Option Addr) (n2 c2 : Nat) (w : World) (hl : p.length = n) (hnc : n ≤ c) (hcm : c ≤ maxLen) (hI : okP p) (hA : CoinsIn w w.heap.size A p) (ht : TxOk w ⟨r, A1, n1, c1, A2, n2, c2⟩) (hmy : mayP p = true) (hmx : mayX r = true) (hin : r.ins ≠ []) :
    Calls Tryd.prog 44 #[.slice A n c, txV ⟨r, A1, n1, c1, A2, n2, c2⟩, idv (idX r)] w fun e w' => SpE p r w' w.heap.size e ∧ Below w.heap.size w w' := by
  have hid := idX_id r
  have hsn : takeP p r.ins = none → spendP p r = (p, 0, 8) := fun h => spend_none hmy hmx hin h
  have hss : ∀ l m, takeP p r.ins = some (l, m) → spendP p r = if m < worthX r then (p, 0, 8) else if thereP l (idX r) then (p, 0, 10) else if 48 < (madeP l (newC (idX r) 0 r.outs)).length then (p, 0, 11) else (madeP l (newC (idX r) 0 r.outs), m - worthX r, 0) := fun l m h => spend_some hmy hmx hin h
  have hm3 := mayX_iff.1 hmx
  have hl1 : r.ins.length = n1 := ht.l1
  have hl2 : r.outs.length = n2 := ht.l2
  have HL2 := Lib.hid hl2
  have HWO : Hid (∀ u, Below w.heap.size w u → Calls Tryd.prog 56 #[.slice A n c, .slice A1 n1 c1] u fun e w' => WoE p r.ins w' u.heap.size e ∧ Below u.heap.size u w') := fun u hu =>
    pwithout_any p A n c r.ins A1 n1 c1 u hl hI hmy (CellsIn.up hA hu) hl1 (by rw [← hl1]; have := hm3.1; omega) ht.o1 (ht.m1.up hu)
  have HWX : Hid (∀ u, Below w.heap.size w u → Calls Tryd.prog 57 #[.slice A2 n2 c2] u fun e w' => e = .returned (.int .i64 (worthX r)) ∧ Below u.heap.size u w') := fun u hu =>
    pworth_any r.outs A2 n2 c2 u hl2 (by rw [← hl2]; have := hm3.2.2.1; omega) (ht.m2.up hu) (fun o ho => decide_eq_true (hm3.2.2.2.2.2 o ho))
  have hwb : 0 ≤ worthX r ∧ worthX r ≤ 1099511627776 * r.outs.length := worthL_bound (l := r.outs) (fun o ho => decide_eq_true (hm3.2.2.2.2.2 o ho))
  have h3o : n2 ≤ 3 ∧ 1 ≤ n2 := ⟨by rw [← hl2]; exact hm3.2.2.1, by rw [← hl2]; exact hm3.2.1⟩
  rw [hl2] at hwb
  have HWB := Lib.hid hwb
  have H3O := Lib.hid h3o
  have HOO : Hid (okOuts r.outs) := ht.o2
  have HM2 : Hid (OutsIn w w.heap.size A2 r.outs) := ht.m2
  have HPP := Lib.hid hI
  have HMY := Lib.hid hmy
  obtain ⟨id, hide⟩ : ∃ id, idX r = id := ⟨_, rfl⟩
  rw [hide] at hid hss ⊢
  have HID := Lib.hid hid
  have HIL : Hid (id.length = 32) := hid.1
  obtain ⟨wx, hwx⟩ : ∃ wx, worthX r = wx := ⟨_, rfl⟩
  rw [hwx] at HWX HWB hss
  have E1 : Hid (EnvX w ((w.alloc (.cells (txA ⟨r, A1, n1, c1, A2, n2, c2⟩) 26)).alloc (.cells (arrB 32 id) 40)) [(w.heap.size + 1, Obj.cells (arrB 32 id) 40 (0, 0)), (w.heap.size, Obj.cells (txA ⟨r, A1, n1, c1, A2, n2, c2⟩) 26 (0, 0))]) := (EnvX.start w).two _ _
  clear hl hnc hcm hI hA ht hmy hmx hin hid hide hwx hm3 hl1 hl2 hwb h3o
  unfold txV idv
  rcases htk : takeP p r.ins with _ | ⟨l, m⟩
  · have HF : Hid (spendP p r = (p, 0, 8)) := hsn htk
    have HWN : Hid (∀ u, Below w.heap.size w u → Calls Tryd.prog 56 #[.slice A n c, .slice A1 n1 c1] u fun e w' => e = .returned (.tuple #[.slice none 0 0, .int .i64 0, .bool false]) ∧ Below u.heap.size u w') := fun u hu => callsW_none (HWO.out u hu) htk
    have HSB : Hid (IntKind.i64.wrap (0 - wx) = 0 - wx) := wrapS (by have := HWB.out; have := H3O.out; omega)
    clear hsn hss htk
    go_enter Tryd.func44, Tryd.ntmps44
    go_upto_region 1 with (fail)
    generalize (w.alloc (.cells (txA ⟨r, A1, n1, c1, A2, n2, c2⟩) 26)).alloc (.cells (arrB 32 id) 40) = W at *
    refine wp_region_Hx (w0 := w) [0, 1, 2, 3, 4, 5, 6, 7, 8, 9, 10] [(w.heap.size + 1, Obj.cells (arrB 32 id) 40 (0, 0)), (w.heap.size, Obj.cells (txA ⟨r, A1, n1, c1, A2, n2, c2⟩) 26 (0, 0))] rfl E1.out ?_
    refine lexH_phase [0, 1, 2, 3, 4, 5, 6, 7, 8, 9, 10] [] ?_
    have hw1 : EnvX w _ [(w.heap.size + 1, Obj.cells (arrB 32 id) 40 (0, 0)), (w.heap.size, Obj.cells (txA ⟨r, A1, n1, c1, A2, n2, c2⟩) 26 (0, 0))] := E1.out
    have hone := @EnvC.one _ _ _ hw1
    (refine wpG_op rfl rfl rfl ?_; intro K hK; go_big_quiet_op; go_big_quiet_on)
    (refine wpG_val (v := .pointer (some ⟨w.heap.size, 0, none⟩)) rfl rfl (fun u hu => fieldTx_op (k := 0) (off := 0) (ad := ⟨w.heap.size, 0, none⟩) rfl u rfl) ?_ hw1; intro K hK; go_big_quiet_op; go_big_quiet_on)
    (refine wpG_val (v := .slice A1 n1 c1) rfl rfl (fun u hu => load_any_op u (box_tx_ins hu (List.Mem.tail _ (List.Mem.head _))) rfl) ?_ hw1; intro K hK; go_big_quiet_op; go_big_quiet_on)
    (refine wpG_call (f := 56) (args := #[.slice A n c, .slice A1 n1 c1]) (v := .tuple #[.slice none 0 0, .int .i64 0, .bool false]) rfl rfl rfl Tryd.func56 rfl rfl (fun u hu => HWN.out u (EnvX.bel hu)) ?_ hw1; intro K hK; go_big_quiet_op; go_big_quiet_on)
    iterate 7 (refine wpG_op rfl rfl rfl ?_; intro K hK; go_big_quiet_op; go_big_quiet_on)
    clear hone hw1
    refine wpG_nil ?_
    intro u3 E2'
    have EX2 := Lib.hid E2'
    clear E2'
    go_upto_region 2 with (fail)
    refine wp_region_Hx (w0 := w) [0, 1, 2, 3, 4, 5] [(w.heap.size + 1, Obj.cells (arrB 32 id) 40 (0, 0)), (w.heap.size, Obj.cells (txA ⟨r, A1, n1, c1, A2, n2, c2⟩) 26 (0, 0))] rfl EX2.out ?_
    refine lexH_phase [0, 1, 2, 3, 4, 5] [] ?_
    have hw4 : EnvX w _ [(w.heap.size + 1, Obj.cells (arrB 32 id) 40 (0, 0)), (w.heap.size, Obj.cells (txA ⟨r, A1, n1, c1, A2, n2, c2⟩) 26 (0, 0))] := EX2.out
    have hone := @EnvC.one _ _ _ hw4
    (refine wpG_op rfl rfl rfl ?_; intro K hK; go_big_quiet_op; go_big_quiet_on)
    (refine wpG_val (v := .pointer (some ⟨w.heap.size, 1, none⟩)) rfl rfl (fun u hu => fieldTx_op (k := 1) (off := 1) (ad := ⟨w.heap.size, 0, none⟩) rfl u rfl) ?_ hw4; intro K hK; go_big_quiet_op; go_big_quiet_on)
    (refine wpG_val (v := .slice A2 n2 c2) rfl rfl (fun u hu => load_any_op u (box_tx_outs hu (List.Mem.tail _ (List.Mem.head _))) rfl) ?_ hw4; intro K hK; go_big_quiet_op; go_big_quiet_on)
    (refine wpG_call (f := 57) (args := #[.slice A2 n2 c2]) (v := .int .i64 wx) rfl rfl rfl Tryd.func57 rfl rfl (fun u hu => HWX.out u (EnvX.bel hu)) ?_ hw4; intro K hK; go_big_quiet_op; go_big_quiet_on)
    (refine wpG_val (v := .int .i64 (0 - wx)) rfl rfl (fun u hu => subZ_op u HSB.out rfl rfl) ?_ hw4; intro K hK; go_big_quiet_op; go_big_quiet_on)
    (refine wpG_op rfl rfl rfl ?_; intro K hK; go_big_quiet_op; go_big_quiet_on)
    clear hone hw4
    refine wpG_nil ?_
    intro u6 E2'
    have EX5 := Lib.hid E2'
    clear E2'
    go_upto_region 3 with (fail)
    refine wp_region_Hx (w0 := w) [0, 1, 2, 3, 4, 5, 6] [(w.heap.size + 1, Obj.cells (arrB 32 id) 40 (0, 0)), (w.heap.size, Obj.cells (txA ⟨r, A1, n1, c1, A2, n2, c2⟩) 26 (0, 0))] rfl EX5.out ?_
    refine lexH_phase [0, 1, 2, 3, 4, 5, 6] [] ?_
    have hw7 : EnvX w _ [(w.heap.size + 1, Obj.cells (arrB 32 id) 40 (0, 0)), (w.heap.size, Obj.cells (txA ⟨r, A1, n1, c1, A2, n2, c2⟩) 26 (0, 0))] := EX5.out
    have hone := @EnvC.one _ _ _ hw7
    iterate 3 (refine wpG_op rfl rfl rfl ?_; intro K hK; go_big_quiet_op; go_big_quiet_on)
    iterate 2 (refine wpG_skip rfl rfl ?_ hw7; intro K hK; go_big_quiet_op; go_big_quiet_on)
    iterate 2 (refine wpG_op rfl rfl rfl ?_; intro K hK; go_big_quiet_op; go_big_quiet_on)
    clear hone hw7
    refine wpG_nil ?_
    intro u9 E2'
    have EX8 := Lib.hid E2'
    clear E2'
    go_upto_region 4 with (fail)
    refine wp_region_Hx (w0 := w) [0, 1, 2] [(w.heap.size + 1, Obj.cells (arrB 32 id) 40 (0, 0)), (w.heap.size, Obj.cells (txA ⟨r, A1, n1, c1, A2, n2, c2⟩) 26 (0, 0))] rfl EX8.out ?_
    refine lexH_phase [0, 1, 2] [] ?_
    have hw10 : EnvX w _ [(w.heap.size + 1, Obj.cells (arrB 32 id) 40 (0, 0)), (w.heap.size, Obj.cells (txA ⟨r, A1, n1, c1, A2, n2, c2⟩) 26 (0, 0))] := EX8.out
    have hone := @EnvC.one _ _ _ hw10
    iterate 3 (refine wpG_op rfl rfl rfl ?_; intro K hK; go_big_quiet_op; go_big_quiet_on)
    clear hone hw10
    refine wpG_nil ?_
    intro u12 E2'
    have EX11 := Lib.hid E2'
    clear E2'
    have HBE := Lib.hid (EnvX.bel EX11.out)
    go_wp2
    go_returns
    exact ⟨SpE.mk (.slice none 0 0) HF.out (fun h => by cases h), HBE.out⟩
  · have htb := take_bounds HMY.out HPP.out htk
    have HTB := Lib.hid htb
    have HUP : Hid (upP l) := (mayP_iff.1 HMY.out).2.2.sublist (take_some _ _ _ htk).1
    have hsp := hss l m htk
    have HWS : Hid (∀ u, Below w.heap.size w u → Calls Tryd.prog 56 #[.slice A n c, .slice A1 n1 c1] u fun e w' => ∃ x N, e = .returned x ∧ WoN l m x N ∧ Below u.heap.size u w' ∧ ∀ y ∈ N, u.heap.size ≤ y.1 ∧ w'.heap[y.1]? = some y.2) := fun u hu => callsW_some (HWO.out u hu) htk
    have HSB : Hid (IntKind.i64.wrap (m - wx) = m - wx) := wrapS (by have := HWB.out; have := H3O.out; have := htb.2.2; omega)
    have HSP := Lib.hid hsp
    clear hsn hss htk htb hsp
    go_enter Tryd.func44, Tryd.ntmps44
    go_upto_region 1 with (fail)
    generalize (w.alloc (.cells (txA ⟨r, A1, n1, c1, A2, n2, c2⟩) 26)).alloc (.cells (arrB 32 id) 40) = W at *
    refine wp_region_Hx (w0 := w) [0, 1, 2, 3, 4, 5, 6, 7, 8, 9, 10] [(w.heap.size + 1, Obj.cells (arrB 32 id) 40 (0, 0)), (w.heap.size, Obj.cells (txA ⟨r, A1, n1, c1, A2, n2, c2⟩) 26 (0, 0))] rfl E1.out ?_
    refine lexH_phase [0, 1, 2] [3, 4, 5, 6, 7, 8, 9, 10] ?_
    have hw1 : EnvX w _ [(w.heap.size + 1, Obj.cells (arrB 32 id) 40 (0, 0)), (w.heap.size, Obj.cells (txA ⟨r, A1, n1, c1, A2, n2, c2⟩) 26 (0, 0))] := E1.out
    have hone := @EnvC.one _ _ _ hw1
    (refine wpG_op rfl rfl rfl ?_; intro K hK; go_big_quiet_op; go_big_quiet_on)
    (refine wpG_val (v := .pointer (some ⟨w.heap.size, 0, none⟩)) rfl rfl (fun u hu => fieldTx_op (k := 0) (off := 0) (ad := ⟨w.heap.size, 0, none⟩) rfl u rfl) ?_ hw1; intro K hK; go_big_quiet_op; go_big_quiet_on)
    (refine wpG_val (v := .slice A1 n1 c1) rfl rfl (fun u hu => load_any_op u (box_tx_ins hu (List.Mem.tail _ (List.Mem.head _))) rfl) ?_ hw1; intro K hK; go_big_quiet_op; go_big_quiet_on)
    clear hone hw1
    refine wpG_nil ?_
    refine (hOp_fresh (R := WoN l m) (M0 := [(w.heap.size + 1, Obj.cells (arrB 32 id) 40 (0, 0)), (w.heap.size, Obj.cells (txA ⟨r, A1, n1, c1, A2, n2, c2⟩) 26 (0, 0))]) rfl rfl (fun _ h => h) (fun u hu => FAt_call (fid := 56) (xs := #[.tmp 14, .tmp 16]) (args := #[.slice A n c, .slice A1 n1 c1]) rfl Tryd.func56 rfl rfl u (HWS.out u (EnvX.bel hu))) ?_)
    rintro _ N0 ⟨v0, rfl, hF⟩ hf he2; intro K' hK'; go_big_quiet_op; go_big_quiet_on
    obtain ⟨A3, c3, rfl, hc1, hc2⟩ := FreshR.formC hF
    have HF0 := Lib.hid hF
    have HC3 := Lib.hid (And.intro hc1 hc2)
    clear hF hc1 hc2
    clear hf
    change lexH _ _ _ _ _ _ (N0 ++ ((w.heap.size + 1, Obj.cells (arrB 32 id) 40 (0, 0)) :: ((w.heap.size, Obj.cells (txA ⟨r, A1, n1, c1, A2, n2, c2⟩) 26 (0, 0)) :: [])))
    refine lexH_phase [4, 5, 6, 7, 8, 9, 10] [] ?_
    have hw3 : EnvX w _ (N0 ++ ((w.heap.size + 1, Obj.cells (arrB 32 id) 40 (0, 0)) :: ((w.heap.size, Obj.cells (txA ⟨r, A1, n1, c1, A2, n2, c2⟩) 26 (0, 0)) :: []))) := he2.choose_spec
    have hone := @EnvC.one _ _ _ hw3
    iterate 7 (refine wpG_op rfl rfl rfl ?_; intro K hK; go_big_quiet_op; go_big_quiet_on)
    clear hone hw3
    refine wpG_nil ?_
    intro u5 E2'
    have EX4 := Lib.hid E2'
    clear E2'
    have HCO : Hid (∀ u M, EnvX w u M → (∀ y ∈ N0, y ∈ M) → CoinsIn u u.heap.size A3 l) := fun u M hu hm => own_cells (HF0.out.own (w := u) (B := 0) (flat35 HTB.out.1.lens) (fun y hy => ⟨Nat.zero_le _, hu.box _ _ (hm y hy)⟩))
    go_upto_region 2 with (fail)
    refine wp_region_Hx (w0 := w) [0, 1, 2, 3, 4, 5] (N0 ++ ((w.heap.size + 1, Obj.cells (arrB 32 id) 40 (0, 0)) :: ((w.heap.size, Obj.cells (txA ⟨r, A1, n1, c1, A2, n2, c2⟩) 26 (0, 0)) :: []))) rfl EX4.out ?_
    refine lexH_phase [0, 1, 2, 3, 4, 5] [] ?_
    have hw6 : EnvX w _ (N0 ++ ((w.heap.size + 1, Obj.cells (arrB 32 id) 40 (0, 0)) :: ((w.heap.size, Obj.cells (txA ⟨r, A1, n1, c1, A2, n2, c2⟩) 26 (0, 0)) :: []))) := EX4.out
    have hone := @EnvC.one _ _ _ hw6
    (refine wpG_op rfl rfl rfl ?_; intro K hK; go_big_quiet_op; go_big_quiet_on)
    (refine wpG_val (v := .pointer (some ⟨w.heap.size, 1, none⟩)) rfl rfl (fun u hu => fieldTx_op (k := 1) (off := 1) (ad := ⟨w.heap.size, 0, none⟩) rfl u rfl) ?_ hw6; intro K hK; go_big_quiet_op; go_big_quiet_on)
    (refine wpG_val (v := .slice A2 n2 c2) rfl rfl (fun u hu => load_any_op u (box_tx_outs hu (List.mem_append_right _ (List.Mem.tail _ (List.Mem.head _)))) rfl) ?_ hw6; intro K hK; go_big_quiet_op; go_big_quiet_on)
    (refine wpG_call (f := 57) (args := #[.slice A2 n2 c2]) (v := .int .i64 wx) rfl rfl rfl Tryd.func57 rfl rfl (fun u hu => HWX.out u (EnvX.bel hu)) ?_ hw6; intro K hK; go_big_quiet_op; go_big_quiet_on)
    (refine wpG_val (v := .int .i64 (m - wx)) rfl rfl (fun u hu => subZ_op u HSB.out rfl rfl) ?_ hw6; intro K hK; go_big_quiet_op; go_big_quiet_on)
    (refine wpG_op rfl rfl rfl ?_; intro K hK; go_big_quiet_op; go_big_quiet_on)
    clear hone hw6
    refine wpG_nil ?_
    intro u8 E2'
    have EX7 := Lib.hid E2'
    clear E2'
    by_cases hlt : m < wx
    · have C4 : Hid (decide (m - wx < 0) = true) := decide_eq_true (by omega)
      have HF : Hid (spendP p r = (p, 0, 8)) := by show _ = _; rw [HSP.out, if_pos hlt]
      clear hlt
      go_upto_region 3 with (fail)
      refine wp_region_Hx (w0 := w) [0, 1, 2, 3, 4, 5, 6] (N0 ++ ((w.heap.size + 1, Obj.cells (arrB 32 id) 40 (0, 0)) :: ((w.heap.size, Obj.cells (txA ⟨r, A1, n1, c1, A2, n2, c2⟩) 26 (0, 0)) :: []))) rfl EX7.out ?_
      refine lexH_phase [0, 1, 2, 3, 4, 5, 6] [] ?_
      have hw9 : EnvX w _ (N0 ++ ((w.heap.size + 1, Obj.cells (arrB 32 id) 40 (0, 0)) :: ((w.heap.size, Obj.cells (txA ⟨r, A1, n1, c1, A2, n2, c2⟩) 26 (0, 0)) :: []))) := EX7.out
      have hone := @EnvC.one _ _ _ hw9
      iterate 4 (refine wpG_op rfl rfl rfl ?_; intro K hK; go_big_quiet_op; go_big_quiet_on)
      (refine wpG_val (v := .bool true) rfl rfl (fun u hu => ltZ_op u C4.out rfl rfl) ?_ hw9; intro K hK; go_big_quiet_op; go_big_quiet_on)
      iterate 2 (refine wpG_op rfl rfl rfl ?_; intro K hK; go_big_quiet_op; go_big_quiet_on)
      clear hone hw9
      refine wpG_nil ?_
      intro u11 E2'
      have EX10 := Lib.hid E2'
      clear E2'
      go_upto_region 4 with (fail)
      refine wp_region_Hx (w0 := w) [0, 1, 2] (N0 ++ ((w.heap.size + 1, Obj.cells (arrB 32 id) 40 (0, 0)) :: ((w.heap.size, Obj.cells (txA ⟨r, A1, n1, c1, A2, n2, c2⟩) 26 (0, 0)) :: []))) rfl EX10.out ?_
      refine lexH_phase [0, 1, 2] [] ?_
      have hw12 : EnvX w _ (N0 ++ ((w.heap.size + 1, Obj.cells (arrB 32 id) 40 (0, 0)) :: ((w.heap.size, Obj.cells (txA ⟨r, A1, n1, c1, A2, n2, c2⟩) 26 (0, 0)) :: []))) := EX10.out
      have hone := @EnvC.one _ _ _ hw12
      iterate 3 (refine wpG_op rfl rfl rfl ?_; intro K hK; go_big_quiet_op; go_big_quiet_on)
      clear hone hw12
      refine wpG_nil ?_
      intro u14 E2'
      have EX13 := Lib.hid E2'
      clear E2'
      have HBE := Lib.hid (EnvX.bel EX13.out)
      go_wp2
      go_returns
      exact ⟨SpE.mk (.slice none 0 0) HF.out (fun h => by cases h), HBE.out⟩
    have C4 : Hid (decide (m - wx < 0) = false) := decide_eq_false (by omega)
    have HSP2 : Hid (spendP p r = if thereP l id then (p, 0, 10) else if 48 < (madeP l (newC id 0 r.outs)).length then (p, 0, 11) else (madeP l (newC id 0 r.outs), m - wx, 0)) := by show _ = _; rw [HSP.out, if_neg hlt]
    clear hlt HSP
    obtain ⟨bt, hbt⟩ : ∃ bt, thereP l id = bt := ⟨_, rfl⟩
    have HBT := Lib.hid hbt
    rw [hbt] at HSP2
    have HHS : Hid (∀ u M, EnvX w u M → (∀ y ∈ N0, y ∈ M) → Calls Tryd.prog 58 #[.slice A3 l.length c3, idv id] u fun e w' => e = .returned (.bool bt) ∧ Below u.heap.size u w') := fun u M hu hm => by
      have h := phas_any l A3 l.length c3 id u rfl (by have := HTB.out.2.1; omega) HC3.out.1 HC3.out.2 HTB.out.1 HUP.out (HCO.out u M hu hm) HTB.out.2.2.2.2 HID.out
      rwa [hbt] at h
    clear hbt
    go_upto_region 3 with (fail)
    refine wp_region_Hx (w0 := w) [0, 1, 2, 3, 4, 5, 6] (N0 ++ ((w.heap.size + 1, Obj.cells (arrB 32 id) 40 (0, 0)) :: ((w.heap.size, Obj.cells (txA ⟨r, A1, n1, c1, A2, n2, c2⟩) 26 (0, 0)) :: []))) rfl EX7.out ?_
    refine lexH_phase [0, 1, 2, 3, 4, 5, 6] [] ?_
    have hw9 : EnvX w _ (N0 ++ ((w.heap.size + 1, Obj.cells (arrB 32 id) 40 (0, 0)) :: ((w.heap.size, Obj.cells (txA ⟨r, A1, n1, c1, A2, n2, c2⟩) 26 (0, 0)) :: []))) := EX7.out
    have hone := @EnvC.one _ _ _ hw9
    iterate 4 (refine wpG_op rfl rfl rfl ?_; intro K hK; go_big_quiet_op; go_big_quiet_on)
    (refine wpG_val (v := .bool false) rfl rfl (fun u hu => ltZ_op u C4.out rfl rfl) ?_ hw9; intro K hK; go_big_quiet_op; go_big_quiet_on)
    iterate 2 (refine wpG_op rfl rfl rfl ?_; intro K hK; go_big_quiet_op; go_big_quiet_on)
    clear hone hw9
    refine wpG_nil ?_
    intro u11 E2'
    have EX10 := Lib.hid E2'
    clear E2'
    cases bt with
    | true =>
      have HF : Hid (spendP p r = (p, 0, 10)) := HSP2.out
      go_upto_region 5 with (fail)
      refine wp_region_Hx (w0 := w) [0, 1, 2, 3] (N0 ++ ((w.heap.size + 1, Obj.cells (arrB 32 id) 40 (0, 0)) :: ((w.heap.size, Obj.cells (txA ⟨r, A1, n1, c1, A2, n2, c2⟩) 26 (0, 0)) :: []))) rfl EX10.out ?_
      refine lexH_phase [0, 1, 2, 3] [] ?_
      have hw12 : EnvX w _ (N0 ++ ((w.heap.size + 1, Obj.cells (arrB 32 id) 40 (0, 0)) :: ((w.heap.size, Obj.cells (txA ⟨r, A1, n1, c1, A2, n2, c2⟩) 26 (0, 0)) :: []))) := EX10.out
      have hone := @EnvC.one _ _ _ hw12
      (refine wpG_op rfl rfl rfl ?_; intro K hK; go_big_quiet_op; go_big_quiet_on)
      (refine wpG_val (v := idv id) rfl rfl (fun u hu => load_any_op u (box_idvP hu (List.mem_append_right _ (List.Mem.head _)) HIL.out) rfl) ?_ hw12; intro K hK; go_big_quiet_op; go_big_quiet_on)
      (refine wpG_call (f := 58) (args := #[.slice A3 l.length c3, idv id]) (v := .bool true) rfl rfl rfl Tryd.func58 rfl rfl (fun u hu => HHS.out u _ hu (fun y hy => List.mem_append_left _ hy)) ?_ hw12; intro K hK; go_big_quiet_op; go_big_quiet_on)
      (refine wpG_op rfl rfl rfl ?_; intro K hK; go_big_quiet_op; go_big_quiet_on)
      clear hone hw12
      refine wpG_nil ?_
      intro u14 E2'
      have EX13 := Lib.hid E2'
      clear E2'
      go_upto_region 6 with (fail)
      refine wp_region_Hx (w0 := w) [0, 1, 2] (N0 ++ ((w.heap.size + 1, Obj.cells (arrB 32 id) 40 (0, 0)) :: ((w.heap.size, Obj.cells (txA ⟨r, A1, n1, c1, A2, n2, c2⟩) 26 (0, 0)) :: []))) rfl EX13.out ?_
      refine lexH_phase [0, 1, 2] [] ?_
      have hw15 : EnvX w _ (N0 ++ ((w.heap.size + 1, Obj.cells (arrB 32 id) 40 (0, 0)) :: ((w.heap.size, Obj.cells (txA ⟨r, A1, n1, c1, A2, n2, c2⟩) 26 (0, 0)) :: []))) := EX13.out
      have hone := @EnvC.one _ _ _ hw15
      iterate 3 (refine wpG_op rfl rfl rfl ?_; intro K hK; go_big_quiet_op; go_big_quiet_on)
      clear hone hw15
      refine wpG_nil ?_
      intro u17 E2'
      have EX16 := Lib.hid E2'
      clear E2'
      have HBE := Lib.hid (EnvX.bel EX16.out)
      go_wp2
      go_returns
      exact ⟨SpE.mk (.slice none 0 0) HF.out (fun h => by cases h), HBE.out⟩
    | false =>
      have HSP3 : Hid (spendP p r = if 48 < l.length + n2 then (p, 0, 11) else (madeP l (newC id 0 r.outs), m - wx, 0)) := by
        show _ = _
        rw [HSP2.out, madeP_len, newC_len, HL2.out, Nat.add_comm n2]
        rfl
      have HFU : Hid (∀ u, Calls Tryd.prog 59 #[.slice A3 l.length c3, .slice A2 n2 c2] u fun e w' => e = .returned (.bool (decide (48 < l.length + n2))) ∧ Below u.heap.size u w') := fun u => pfull_any A3 l.length c3 A2 n2 c2 u (by have := HTB.out.2.1; omega) (by have := H3O.out; omega)
      clear HSP2
      go_upto_region 5 with (fail)
      refine wp_region_Hx (w0 := w) [0, 1, 2, 3] (N0 ++ ((w.heap.size + 1, Obj.cells (arrB 32 id) 40 (0, 0)) :: ((w.heap.size, Obj.cells (txA ⟨r, A1, n1, c1, A2, n2, c2⟩) 26 (0, 0)) :: []))) rfl EX10.out ?_
      refine lexH_phase [0, 1, 2, 3] [] ?_
      have hw12 : EnvX w _ (N0 ++ ((w.heap.size + 1, Obj.cells (arrB 32 id) 40 (0, 0)) :: ((w.heap.size, Obj.cells (txA ⟨r, A1, n1, c1, A2, n2, c2⟩) 26 (0, 0)) :: []))) := EX10.out
      have hone := @EnvC.one _ _ _ hw12
      (refine wpG_op rfl rfl rfl ?_; intro K hK; go_big_quiet_op; go_big_quiet_on)
      (refine wpG_val (v := idv id) rfl rfl (fun u hu => load_any_op u (box_idvP hu (List.mem_append_right _ (List.Mem.head _)) HIL.out) rfl) ?_ hw12; intro K hK; go_big_quiet_op; go_big_quiet_on)
      (refine wpG_call (f := 58) (args := #[.slice A3 l.length c3, idv id]) (v := .bool false) rfl rfl rfl Tryd.func58 rfl rfl (fun u hu => HHS.out u _ hu (fun y hy => List.mem_append_left _ hy)) ?_ hw12; intro K hK; go_big_quiet_op; go_big_quiet_on)
      (refine wpG_op rfl rfl rfl ?_; intro K hK; go_big_quiet_op; go_big_quiet_on)
      clear hone hw12
      refine wpG_nil ?_
      intro u14 E2'
      have EX13 := Lib.hid E2'
      clear E2'
      by_cases hf : 48 < l.length + n2
      · rw [decide_eq_true hf] at HFU
        have HF : Hid (spendP p r = (p, 0, 11)) := by show _ = _; rw [HSP3.out, if_pos hf]
        clear hf
        go_upto_region 7 with (fail)
        refine wp_region_Hx (w0 := w) [0, 1, 2, 3, 4] (N0 ++ ((w.heap.size + 1, Obj.cells (arrB 32 id) 40 (0, 0)) :: ((w.heap.size, Obj.cells (txA ⟨r, A1, n1, c1, A2, n2, c2⟩) 26 (0, 0)) :: []))) rfl EX13.out ?_
        refine lexH_phase [0, 1, 2, 3, 4] [] ?_
        have hw15 : EnvX w _ (N0 ++ ((w.heap.size + 1, Obj.cells (arrB 32 id) 40 (0, 0)) :: ((w.heap.size, Obj.cells (txA ⟨r, A1, n1, c1, A2, n2, c2⟩) 26 (0, 0)) :: []))) := EX13.out
        have hone := @EnvC.one _ _ _ hw15
        (refine wpG_op rfl rfl rfl ?_; intro K hK; go_big_quiet_op; go_big_quiet_on)
        (refine wpG_val (v := .pointer (some ⟨w.heap.size, 1, none⟩)) rfl rfl (fun u hu => fieldTx_op (k := 1) (off := 1) (ad := ⟨w.heap.size, 0, none⟩) rfl u rfl) ?_ hw15; intro K hK; go_big_quiet_op; go_big_quiet_on)
        (refine wpG_val (v := .slice A2 n2 c2) rfl rfl (fun u hu => load_any_op u (box_tx_outs hu (List.mem_append_right _ (List.Mem.tail _ (List.Mem.head _)))) rfl) ?_ hw15; intro K hK; go_big_quiet_op; go_big_quiet_on)
        (refine wpG_call (f := 59) (args := #[.slice A3 l.length c3, .slice A2 n2 c2]) (v := .bool true) rfl rfl rfl Tryd.func59 rfl rfl (fun u hu => HFU.out u) ?_ hw15; intro K hK; go_big_quiet_op; go_big_quiet_on)
        (refine wpG_op rfl rfl rfl ?_; intro K hK; go_big_quiet_op; go_big_quiet_on)
        clear hone hw15
        refine wpG_nil ?_
        intro u17 E2'
        have EX16 := Lib.hid E2'
        clear E2'
        go_upto_region 8 with (fail)
        refine wp_region_Hx (w0 := w) [0, 1, 2] (N0 ++ ((w.heap.size + 1, Obj.cells (arrB 32 id) 40 (0, 0)) :: ((w.heap.size, Obj.cells (txA ⟨r, A1, n1, c1, A2, n2, c2⟩) 26 (0, 0)) :: []))) rfl EX16.out ?_
        refine lexH_phase [0, 1, 2] [] ?_
        have hw18 : EnvX w _ (N0 ++ ((w.heap.size + 1, Obj.cells (arrB 32 id) 40 (0, 0)) :: ((w.heap.size, Obj.cells (txA ⟨r, A1, n1, c1, A2, n2, c2⟩) 26 (0, 0)) :: []))) := EX16.out
        have hone := @EnvC.one _ _ _ hw18
        iterate 3 (refine wpG_op rfl rfl rfl ?_; intro K hK; go_big_quiet_op; go_big_quiet_on)
        clear hone hw18
        refine wpG_nil ?_
        intro u20 E2'
        have EX19 := Lib.hid E2'
        clear E2'
        have HBE := Lib.hid (EnvX.bel EX19.out)
        go_wp2
        go_returns
        exact ⟨SpE.mk (.slice none 0 0) HF.out (fun h => by cases h), HBE.out⟩
      · rw [decide_eq_false hf] at HFU
        have HF : Hid (spendP p r = (madeP l (newC id 0 r.outs), m - wx, 0)) := by show _ = _; rw [HSP3.out, if_neg hf]
        have HWI : Hid (∀ u M, EnvX w u M → (∀ y ∈ N0, y ∈ M) → Calls Tryd.prog 60 #[.slice A3 l.length c3, idv id, .slice A2 n2 c2] u fun e w' => (∃ v, e = .returned v ∧ w'.ownsRow u.heap.size 50 35 v (madeP l (newC id 0 r.outs)).length ((madeP l (newC id 0 r.outs)).map coC).flatten) ∧ Below u.heap.size u w') := fun u M hu hm =>
          pwith_any l A3 l.length c3 id r.outs A2 n2 c2 u rfl (by have := HTB.out.2.1; omega) HC3.out.1 HC3.out.2 HTB.out.1 HUP.out (HCO.out u M hu hm) HID.out HBT.out HL2.out (by have := H3O.out; omega) (by have := H3O.out; omega) HOO.out (CellsIn.up HM2.out (EnvX.bel hu))
        have HMO : Hid (okP (madeP l (newC id 0 r.outs))) := madeP_ok HTB.out.1 (newC_ok HID.out (fun o ho => HOO.out o ho) (by rw [HL2.out]; have := H3O.out; omega))
        clear hf HSP3
        generalize madeP l (newC id 0 r.outs) = q9 at *
        go_upto_region 7 with (fail)
        refine wp_region_Hx (w0 := w) [0, 1, 2, 3, 4] (N0 ++ ((w.heap.size + 1, Obj.cells (arrB 32 id) 40 (0, 0)) :: ((w.heap.size, Obj.cells (txA ⟨r, A1, n1, c1, A2, n2, c2⟩) 26 (0, 0)) :: []))) rfl EX13.out ?_
        refine lexH_phase [0, 1, 2, 3, 4] [] ?_
        have hw15 : EnvX w _ (N0 ++ ((w.heap.size + 1, Obj.cells (arrB 32 id) 40 (0, 0)) :: ((w.heap.size, Obj.cells (txA ⟨r, A1, n1, c1, A2, n2, c2⟩) 26 (0, 0)) :: []))) := EX13.out
        have hone := @EnvC.one _ _ _ hw15
        (refine wpG_op rfl rfl rfl ?_; intro K hK; go_big_quiet_op; go_big_quiet_on)
        (refine wpG_val (v := .pointer (some ⟨w.heap.size, 1, none⟩)) rfl rfl (fun u hu => fieldTx_op (k := 1) (off := 1) (ad := ⟨w.heap.size, 0, none⟩) rfl u rfl) ?_ hw15; intro K hK; go_big_quiet_op; go_big_quiet_on)
        (refine wpG_val (v := .slice A2 n2 c2) rfl rfl (fun u hu => load_any_op u (box_tx_outs hu (List.mem_append_right _ (List.Mem.tail _ (List.Mem.head _)))) rfl) ?_ hw15; intro K hK; go_big_quiet_op; go_big_quiet_on)
        (refine wpG_call (f := 59) (args := #[.slice A3 l.length c3, .slice A2 n2 c2]) (v := .bool false) rfl rfl rfl Tryd.func59 rfl rfl (fun u hu => HFU.out u) ?_ hw15; intro K hK; go_big_quiet_op; go_big_quiet_on)
        (refine wpG_op rfl rfl rfl ?_; intro K hK; go_big_quiet_op; go_big_quiet_on)
        clear hone hw15
        refine wpG_nil ?_
        intro u17 E2'
        have EX16 := Lib.hid E2'
        clear E2'
        go_upto_region 9 with (fail)
        refine wp_region_Hx (w0 := w) [0, 1, 2, 3, 4, 5, 6, 7, 8] (N0 ++ ((w.heap.size + 1, Obj.cells (arrB 32 id) 40 (0, 0)) :: ((w.heap.size, Obj.cells (txA ⟨r, A1, n1, c1, A2, n2, c2⟩) 26 (0, 0)) :: []))) rfl EX16.out ?_
        refine lexH_phase [0, 1, 2, 3] [4, 5, 6, 7, 8] ?_
        have hw18 : EnvX w _ (N0 ++ ((w.heap.size + 1, Obj.cells (arrB 32 id) 40 (0, 0)) :: ((w.heap.size, Obj.cells (txA ⟨r, A1, n1, c1, A2, n2, c2⟩) 26 (0, 0)) :: []))) := EX16.out
        have hone := @EnvC.one _ _ _ hw18
        (refine wpG_op rfl rfl rfl ?_; intro K hK; go_big_quiet_op; go_big_quiet_on)
        (refine wpG_val (v := idv id) rfl rfl (fun u hu => load_any_op u (box_idvP hu (List.mem_append_right _ (List.Mem.head _)) HIL.out) rfl) ?_ hw18; intro K hK; go_big_quiet_op; go_big_quiet_on)
        (refine wpG_val (v := .pointer (some ⟨w.heap.size, 1, none⟩)) rfl rfl (fun u hu => fieldTx_op (k := 1) (off := 1) (ad := ⟨w.heap.size, 0, none⟩) rfl u rfl) ?_ hw18; intro K hK; go_big_quiet_op; go_big_quiet_on)
        (refine wpG_val (v := .slice A2 n2 c2) rfl rfl (fun u hu => load_any_op u (box_tx_outs hu (List.mem_append_right _ (List.Mem.tail _ (List.Mem.head _)))) rfl) ?_ hw18; intro K hK; go_big_quiet_op; go_big_quiet_on)
        clear hone hw18
        refine wpG_nil ?_
        refine (hOp_fresh (R := FreshR 50 35 q9.length (q9.map coC).flatten) (M0 := (N0 ++ ((w.heap.size + 1, Obj.cells (arrB 32 id) 40 (0, 0)) :: ((w.heap.size, Obj.cells (txA ⟨r, A1, n1, c1, A2, n2, c2⟩) 26 (0, 0)) :: [])))) rfl rfl (fun _ h => h) (fun u hu => FAt_call (fid := 60) (xs := #[.tmp 42, .tmp 43, .tmp 45]) (args := #[.slice A3 l.length c3, idv id, .slice A2 n2 c2]) rfl Tryd.func60 rfl rfl u (callsR_fresh (HWI.out u _ hu (fun y hy => List.mem_append_left _ hy)))) ?_)
        rintro x9 N9 hF hf he19; intro K' hK'; go_big_quiet_op; go_big_quiet_on
        have HF9 := Lib.hid (And.intro hF hf)
        clear hF
        clear hf
        change lexH _ _ _ _ _ _ (N9 ++ (N0 ++ ((w.heap.size + 1, Obj.cells (arrB 32 id) 40 (0, 0)) :: ((w.heap.size, Obj.cells (txA ⟨r, A1, n1, c1, A2, n2, c2⟩) 26 (0, 0)) :: []))))
        refine lexH_phase [5, 6, 7, 8] [] ?_
        have hw20 : EnvX w _ (N9 ++ (N0 ++ ((w.heap.size + 1, Obj.cells (arrB 32 id) 40 (0, 0)) :: ((w.heap.size, Obj.cells (txA ⟨r, A1, n1, c1, A2, n2, c2⟩) 26 (0, 0)) :: [])))) := he19.choose_spec
        have hone := @EnvC.one _ _ _ hw20
        iterate 4 (refine wpG_op rfl rfl rfl ?_; intro K hK; go_big_quiet_op; go_big_quiet_on)
        clear hone hw20
        refine wpG_nil ?_
        intro u22 E2'
        have EX21 := Lib.hid E2'
        clear E2'
        have HOW := Lib.hid (HF9.out.1.own (w := u22) (B := w.heap.size) (flat35 HMO.out.lens) (fun y hy => ⟨(HF9.out.2 y hy).1, EnvX.box EX21.out _ _ (List.mem_append_left _ hy)⟩))
        have HBE := Lib.hid (EnvX.bel EX21.out)
        go_wp2
        go_returns
        exact ⟨SpE.mk x9 HF.out (fun _ => HOW.out), HBE.out⟩
set_option maxRecDepth 20000 in
set_option maxHeartbeats 16000000 in
theorem pspend_any (p : List CoinR) (A : Option Addr) (n c : Nat) (r : TxR) (A1 : Option Addr) (n1 c1 : Nat) (A2 : Option Addr) (n2 c2 : Nat) (w : World) (hl : p.length = n) (hnc : n ≤ c) (hcm : c ≤ maxLen) (hI : okP p) (hA : CoinsIn w w.heap.size A p) (ht : TxOk w ⟨r, A1, n1, c1, A2, n2, c2⟩) (htt : Tables w) :
    Calls Tryd.prog 25 #[.slice A n c, txV ⟨r, A1, n1, c1, A2, n2, c2⟩] w fun e w' => SpE p r w' w.heap.size e ∧ Below w.heap.size w w' := by
  have HMY : Hid (∀ u, Below w.heap.size w u → Calls Tryd.prog 20 #[.slice A n c] u fun e w' => e = .returned (.bool (mayP p)) ∧ Below u.heap.size u w') := fun u hu => pmayP_any p A n c u hl hnc hcm hI (CellsIn.up hA hu)
  have HTM : Hid (∀ u, Below w.heap.size w u → Calls Tryd.prog 43 #[txV ⟨r, A1, n1, c1, A2, n2, c2⟩] u fun e w' => e = .returned (.bool (mayX r)) ∧ Below u.heap.size u w') := fun u hu => mayP_any ⟨r, A1, n1, c1, A2, n2, c2⟩ u (ht.up hu)
  have HCI : Hid (∀ u, Below w.heap.size w u → Calls Tryd.prog 24 #[txV ⟨r, A1, n1, c1, A2, n2, c2⟩] u fun e w' => e = .returned (idv (idX r)) ∧ Below u.heap.size u w') := fun u hu => pidX_any ⟨r, A1, n1, c1, A2, n2, c2⟩ u (ht.up hu) (htt.below hu)
  have HEX : Hid (mayP p = true → mayX r = true → r.ins ≠ [] → ∀ u, Below w.heap.size w u → Calls Tryd.prog 44 #[.slice A n c, txV ⟨r, A1, n1, c1, A2, n2, c2⟩, idv (idX r)] u fun e w' => SpE p r w' u.heap.size e ∧ Below u.heap.size u w') := fun k1 k2 k3 u hu =>
    pexchange_any p A n c r A1 n1 c1 A2 n2 c2 u hl hnc hcm hI (CellsIn.up hA hu) (ht.up hu) k1 k2 k3
  have HM63 : Hid (n1 < 9223372036854775808) := ht.n63.1
  have hl1 : r.ins.length = n1 := ht.l1
  have E1 : Hid (EnvX w (w.alloc (.cells (txA ⟨r, A1, n1, c1, A2, n2, c2⟩) 26)) [(w.heap.size, Obj.cells (txA ⟨r, A1, n1, c1, A2, n2, c2⟩) 26 (0, 0))]) := (EnvX.start w).new _
  have hs1 : mayP p = false → spendP p r = (p, 0, 1) := fun h => spend_arg1 h
  have hs2 : mayX r = false → spendP p r = (p, 0, 1) := fun h => spend_arg2 h
  have hs3 : n1 = 0 → spendP p r = (p, 0, 1) := fun h => spend_arg3 (List.eq_nil_of_length_eq_zero (by rw [hl1, h]))
  have hs4 : n1 ≠ 0 → r.ins ≠ [] := fun h e => h (by rw [← hl1, e]; rfl)
  clear hl hnc hcm hI hA ht htt hl1
  unfold txV at *
  obtain ⟨id, hid⟩ : ∃ id, idX r = id := ⟨_, rfl⟩
  rw [hid] at HCI HEX
  clear hid
  obtain ⟨b1, h1⟩ : ∃ b1, mayP p = b1 := ⟨_, rfl⟩
  obtain ⟨b2, h2⟩ : ∃ b2, mayX r = b2 := ⟨_, rfl⟩
  rw [h1] at HMY HEX hs1
  rw [h2] at HTM HEX hs2
  clear h1 h2
  cases b1 with
  | false =>
    have HF : Hid (spendP p r = (p, 0, 1)) := hs1 rfl
    clear hs1 hs2 hs3 hs4 HEX
    go_enter Tryd.func25, Tryd.ntmps25
    go_upto_region 1 with (fail)
    generalize w.alloc (.cells (txA ⟨r, A1, n1, c1, A2, n2, c2⟩) 26) = W at *
    refine wp_region_Hx (w0 := w) [0, 1, 2, 3, 4, 5, 6, 7, 8, 9, 10, 11, 12, 13] [(w.heap.size, Obj.cells (txA ⟨r, A1, n1, c1, A2, n2, c2⟩) 26 (0, 0))] rfl E1.out ?_
    refine lexH_phase [0, 1, 2, 3, 4, 5, 6, 7, 8, 9, 10, 11, 12, 13] [] ?_
    have hw1 : EnvX w _ [(w.heap.size, Obj.cells (txA ⟨r, A1, n1, c1, A2, n2, c2⟩) 26 (0, 0))] := E1.out
    have hone := @EnvC.one _ _ _ hw1
    (refine wpG_op rfl rfl rfl ?_; intro K hK; go_big_quiet_op; go_big_quiet_on)
    (refine wpG_call (f := 20) (args := #[.slice A n c]) (v := .bool false) rfl rfl rfl Tryd.func20 rfl rfl (fun u hu => HMY.out u (EnvX.bel hu)) ?_ hw1; intro K hK; go_big_quiet_op; go_big_quiet_on)
    iterate 2 (refine wpG_op rfl rfl rfl ?_; intro K hK; go_big_quiet_op; go_big_quiet_on)
    iterate 3 (refine wpG_skip rfl rfl ?_ hw1; intro K hK; go_big_quiet_op; go_big_quiet_on)
    iterate 2 (refine wpG_op rfl rfl rfl ?_; intro K hK; go_big_quiet_op; go_big_quiet_on)
    iterate 4 (refine wpG_skip rfl rfl ?_ hw1; intro K hK; go_big_quiet_op; go_big_quiet_on)
    (refine wpG_op rfl rfl rfl ?_; intro K hK; go_big_quiet_op; go_big_quiet_on)
    clear hone hw1
    refine wpG_nil ?_
    intro u3 E2'
    have EX2 := Lib.hid E2'
    clear E2'
    go_upto_region 2 with (fail)
    refine wp_region_Hx (w0 := w) [0, 1, 2] [(w.heap.size, Obj.cells (txA ⟨r, A1, n1, c1, A2, n2, c2⟩) 26 (0, 0))] rfl EX2.out ?_
    refine lexH_phase [0, 1, 2] [] ?_
    have hw4 : EnvX w _ [(w.heap.size, Obj.cells (txA ⟨r, A1, n1, c1, A2, n2, c2⟩) 26 (0, 0))] := EX2.out
    have hone := @EnvC.one _ _ _ hw4
    iterate 3 (refine wpG_op rfl rfl rfl ?_; intro K hK; go_big_quiet_op; go_big_quiet_on)
    clear hone hw4
    refine wpG_nil ?_
    intro u6 E2'
    have EX5 := Lib.hid E2'
    clear E2'
    have HBE := Lib.hid (EnvX.bel EX5.out)
    go_wp2
    go_returns
    exact ⟨SpE.mk (.slice none 0 0) HF.out (fun h => by cases h), HBE.out⟩
  | true =>
    cases b2 with
    | false =>
      have HF : Hid (spendP p r = (p, 0, 1)) := hs2 rfl
      clear hs1 hs2 hs3 hs4 HEX
      go_enter Tryd.func25, Tryd.ntmps25
      go_upto_region 1 with (fail)
      generalize w.alloc (.cells (txA ⟨r, A1, n1, c1, A2, n2, c2⟩) 26) = W at *
      refine wp_region_Hx (w0 := w) [0, 1, 2, 3, 4, 5, 6, 7, 8, 9, 10, 11, 12, 13] [(w.heap.size, Obj.cells (txA ⟨r, A1, n1, c1, A2, n2, c2⟩) 26 (0, 0))] rfl E1.out ?_
      refine lexH_phase [0, 1, 2, 3, 4, 5, 6, 7, 8, 9, 10, 11, 12, 13] [] ?_
      have hw1 : EnvX w _ [(w.heap.size, Obj.cells (txA ⟨r, A1, n1, c1, A2, n2, c2⟩) 26 (0, 0))] := E1.out
      have hone := @EnvC.one _ _ _ hw1
      (refine wpG_op rfl rfl rfl ?_; intro K hK; go_big_quiet_op; go_big_quiet_on)
      (refine wpG_call (f := 20) (args := #[.slice A n c]) (v := .bool true) rfl rfl rfl Tryd.func20 rfl rfl (fun u hu => HMY.out u (EnvX.bel hu)) ?_ hw1; intro K hK; go_big_quiet_op; go_big_quiet_on)
      iterate 2 (refine wpG_op rfl rfl rfl ?_; intro K hK; go_big_quiet_op; go_big_quiet_on)
      (refine wpG_val (v := .agg (txA ⟨r, A1, n1, c1, A2, n2, c2⟩)) rfl rfl (fun u hu => load_any_op u (box_tx hu (List.Mem.head _)) rfl) ?_ hw1; intro K hK; go_big_quiet_op; go_big_quiet_on)
      (refine wpG_call (f := 43) (args := #[.agg (txA ⟨r, A1, n1, c1, A2, n2, c2⟩)]) (v := .bool false) rfl rfl rfl Tryd.func43 rfl rfl (fun u hu => HTM.out u (EnvX.bel hu)) ?_ hw1; intro K hK; go_big_quiet_op; go_big_quiet_on)
      iterate 3 (refine wpG_op rfl rfl rfl ?_; intro K hK; go_big_quiet_op; go_big_quiet_on)
      iterate 4 (refine wpG_skip rfl rfl ?_ hw1; intro K hK; go_big_quiet_op; go_big_quiet_on)
      (refine wpG_op rfl rfl rfl ?_; intro K hK; go_big_quiet_op; go_big_quiet_on)
      clear hone hw1
      refine wpG_nil ?_
      intro u3 E2'
      have EX2 := Lib.hid E2'
      clear E2'
      go_upto_region 2 with (fail)
      refine wp_region_Hx (w0 := w) [0, 1, 2] [(w.heap.size, Obj.cells (txA ⟨r, A1, n1, c1, A2, n2, c2⟩) 26 (0, 0))] rfl EX2.out ?_
      refine lexH_phase [0, 1, 2] [] ?_
      have hw4 : EnvX w _ [(w.heap.size, Obj.cells (txA ⟨r, A1, n1, c1, A2, n2, c2⟩) 26 (0, 0))] := EX2.out
      have hone := @EnvC.one _ _ _ hw4
      iterate 3 (refine wpG_op rfl rfl rfl ?_; intro K hK; go_big_quiet_op; go_big_quiet_on)
      clear hone hw4
      refine wpG_nil ?_
      intro u6 E2'
      have EX5 := Lib.hid E2'
      clear E2'
      have HBE := Lib.hid (EnvX.bel EX5.out)
      go_wp2
      go_returns
      exact ⟨SpE.mk (.slice none 0 0) HF.out (fun h => by cases h), HBE.out⟩
    | true =>
      by_cases hz : n1 = 0
      · have HF : Hid (spendP p r = (p, 0, 1)) := hs3 hz
        have C12 : Hid (decide ((n1 : Int) = 0) = true) := decide_eq_true (by omega)
        clear hs1 hs2 hs3 hs4 HEX hz
        go_enter Tryd.func25, Tryd.ntmps25
        go_upto_region 1 with (fail)
        generalize w.alloc (.cells (txA ⟨r, A1, n1, c1, A2, n2, c2⟩) 26) = W at *
        refine wp_region_Hx (w0 := w) [0, 1, 2, 3, 4, 5, 6, 7, 8, 9, 10, 11, 12, 13] [(w.heap.size, Obj.cells (txA ⟨r, A1, n1, c1, A2, n2, c2⟩) 26 (0, 0))] rfl E1.out ?_
        refine lexH_phase [0, 1, 2, 3, 4, 5, 6, 7, 8, 9, 10, 11, 12, 13] [] ?_
        have hw1 : EnvX w _ [(w.heap.size, Obj.cells (txA ⟨r, A1, n1, c1, A2, n2, c2⟩) 26 (0, 0))] := E1.out
        have hone := @EnvC.one _ _ _ hw1
        (refine wpG_op rfl rfl rfl ?_; intro K hK; go_big_quiet_op; go_big_quiet_on)
        (refine wpG_call (f := 20) (args := #[.slice A n c]) (v := .bool true) rfl rfl rfl Tryd.func20 rfl rfl (fun u hu => HMY.out u (EnvX.bel hu)) ?_ hw1; intro K hK; go_big_quiet_op; go_big_quiet_on)
        iterate 2 (refine wpG_op rfl rfl rfl ?_; intro K hK; go_big_quiet_op; go_big_quiet_on)
        (refine wpG_val (v := .agg (txA ⟨r, A1, n1, c1, A2, n2, c2⟩)) rfl rfl (fun u hu => load_any_op u (box_tx hu (List.Mem.head _)) rfl) ?_ hw1; intro K hK; go_big_quiet_op; go_big_quiet_on)
        (refine wpG_call (f := 43) (args := #[.agg (txA ⟨r, A1, n1, c1, A2, n2, c2⟩)]) (v := .bool true) rfl rfl rfl Tryd.func43 rfl rfl (fun u hu => HTM.out u (EnvX.bel hu)) ?_ hw1; intro K hK; go_big_quiet_op; go_big_quiet_on)
        iterate 3 (refine wpG_op rfl rfl rfl ?_; intro K hK; go_big_quiet_op; go_big_quiet_on)
        (refine wpG_val (v := .pointer (some ⟨w.heap.size, 0, none⟩)) rfl rfl (fun u hu => fieldTx_op (k := 0) (off := 0) (ad := ⟨w.heap.size, 0, none⟩) rfl u rfl) ?_ hw1; intro K hK; go_big_quiet_op; go_big_quiet_on)
        (refine wpG_val (v := .slice A1 n1 c1) rfl rfl (fun u hu => load_any_op u (box_tx_ins hu (List.Mem.head _)) rfl) ?_ hw1; intro K hK; go_big_quiet_op; go_big_quiet_on)
        (refine wpG_val (v := .int .i64 (n1 : Int)) rfl rfl (fun u hu => len_op Tryd.underlying23 HM63.out u rfl) ?_ hw1; intro K hK; go_big_quiet_op; go_big_quiet_on)
        (refine wpG_val (v := .bool true) rfl rfl (fun u hu => eqlI_op u C12.out rfl rfl) ?_ hw1; intro K hK; go_big_quiet_op; go_big_quiet_on)
        (refine wpG_op rfl rfl rfl ?_; intro K hK; go_big_quiet_op; go_big_quiet_on)
        clear hone hw1
        refine wpG_nil ?_
        intro u3 E2'
        have EX2 := Lib.hid E2'
        clear E2'
        go_upto_region 2 with (fail)
        refine wp_region_Hx (w0 := w) [0, 1, 2] [(w.heap.size, Obj.cells (txA ⟨r, A1, n1, c1, A2, n2, c2⟩) 26 (0, 0))] rfl EX2.out ?_
        refine lexH_phase [0, 1, 2] [] ?_
        have hw4 : EnvX w _ [(w.heap.size, Obj.cells (txA ⟨r, A1, n1, c1, A2, n2, c2⟩) 26 (0, 0))] := EX2.out
        have hone := @EnvC.one _ _ _ hw4
        iterate 3 (refine wpG_op rfl rfl rfl ?_; intro K hK; go_big_quiet_op; go_big_quiet_on)
        clear hone hw4
        refine wpG_nil ?_
        intro u6 E2'
        have EX5 := Lib.hid E2'
        clear E2'
        have HBE := Lib.hid (EnvX.bel EX5.out)
        go_wp2
        go_returns
        exact ⟨SpE.mk (.slice none 0 0) HF.out (fun h => by cases h), HBE.out⟩
      · have HEX2 := Lib.hid (HEX.out rfl rfl (hs4 hz))
        have C12 : Hid (decide ((n1 : Int) = 0) = false) := decide_eq_false (by omega)
        clear hs1 hs2 hs3 hs4 HEX hz
        go_enter Tryd.func25, Tryd.ntmps25
        go_upto_region 1 with (fail)
        generalize w.alloc (.cells (txA ⟨r, A1, n1, c1, A2, n2, c2⟩) 26) = W at *
        refine wp_region_Hx (w0 := w) [0, 1, 2, 3, 4, 5, 6, 7, 8, 9, 10, 11, 12, 13] [(w.heap.size, Obj.cells (txA ⟨r, A1, n1, c1, A2, n2, c2⟩) 26 (0, 0))] rfl E1.out ?_
        refine lexH_phase [0, 1, 2, 3, 4, 5, 6, 7, 8, 9, 10, 11, 12, 13] [] ?_
        have hw1 : EnvX w _ [(w.heap.size, Obj.cells (txA ⟨r, A1, n1, c1, A2, n2, c2⟩) 26 (0, 0))] := E1.out
        have hone := @EnvC.one _ _ _ hw1
        (refine wpG_op rfl rfl rfl ?_; intro K hK; go_big_quiet_op; go_big_quiet_on)
        (refine wpG_call (f := 20) (args := #[.slice A n c]) (v := .bool true) rfl rfl rfl Tryd.func20 rfl rfl (fun u hu => HMY.out u (EnvX.bel hu)) ?_ hw1; intro K hK; go_big_quiet_op; go_big_quiet_on)
        iterate 2 (refine wpG_op rfl rfl rfl ?_; intro K hK; go_big_quiet_op; go_big_quiet_on)
        (refine wpG_val (v := .agg (txA ⟨r, A1, n1, c1, A2, n2, c2⟩)) rfl rfl (fun u hu => load_any_op u (box_tx hu (List.Mem.head _)) rfl) ?_ hw1; intro K hK; go_big_quiet_op; go_big_quiet_on)
        (refine wpG_call (f := 43) (args := #[.agg (txA ⟨r, A1, n1, c1, A2, n2, c2⟩)]) (v := .bool true) rfl rfl rfl Tryd.func43 rfl rfl (fun u hu => HTM.out u (EnvX.bel hu)) ?_ hw1; intro K hK; go_big_quiet_op; go_big_quiet_on)
        iterate 3 (refine wpG_op rfl rfl rfl ?_; intro K hK; go_big_quiet_op; go_big_quiet_on)
        (refine wpG_val (v := .pointer (some ⟨w.heap.size, 0, none⟩)) rfl rfl (fun u hu => fieldTx_op (k := 0) (off := 0) (ad := ⟨w.heap.size, 0, none⟩) rfl u rfl) ?_ hw1; intro K hK; go_big_quiet_op; go_big_quiet_on)
        (refine wpG_val (v := .slice A1 n1 c1) rfl rfl (fun u hu => load_any_op u (box_tx_ins hu (List.Mem.head _)) rfl) ?_ hw1; intro K hK; go_big_quiet_op; go_big_quiet_on)
        (refine wpG_val (v := .int .i64 (n1 : Int)) rfl rfl (fun u hu => len_op Tryd.underlying23 HM63.out u rfl) ?_ hw1; intro K hK; go_big_quiet_op; go_big_quiet_on)
        (refine wpG_val (v := .bool false) rfl rfl (fun u hu => eqlI_op u C12.out rfl rfl) ?_ hw1; intro K hK; go_big_quiet_op; go_big_quiet_on)
        (refine wpG_op rfl rfl rfl ?_; intro K hK; go_big_quiet_op; go_big_quiet_on)
        clear hone hw1
        refine wpG_nil ?_
        intro u3 E2'
        have EX2 := Lib.hid E2'
        clear E2'
        go_upto_region 3 with (fail)
        refine wp_region_H (w0 := w) [(w.heap.size, Obj.cells (txA ⟨r, A1, n1, c1, A2, n2, c2⟩) 26 (0, 0))] (by kernel_rfl) EX2.out ?_
        refine anyH_phase [0, 1, 2, 3] 7 rfl ⟨_, (EnvX.drew EX2.out)⟩ (by kernel_rfl) ?_
        have hw4 : EnvX w _ [(w.heap.size, Obj.cells (txA ⟨r, A1, n1, c1, A2, n2, c2⟩) 26 (0, 0))] := (EnvX.drew EX2.out)
        have hone := @EnvC.one _ _ _ hw4
        (refine wpG_op rfl rfl rfl ?_; intro K hK; go_big_quiet_op; go_big_quiet_on)
        iterate 2 (refine wpG_val (v := .agg (txA ⟨r, A1, n1, c1, A2, n2, c2⟩)) rfl rfl (fun u hu => load_any_op u (box_tx hu (List.Mem.head _)) rfl) ?_ hw4; intro K hK; go_big_quiet_op; go_big_quiet_on)
        (refine wpG_call (f := 24) (args := #[.agg (txA ⟨r, A1, n1, c1, A2, n2, c2⟩)]) (v := idv id) rfl rfl rfl Tryd.func24 rfl rfl (fun u hu => HCI.out u (EnvX.bel hu)) ?_ hw4; intro K hK; go_big_quiet_op; go_big_quiet_on)
        clear hone hw4
        refine wpG_nil ?_
        refine anyH_one (i := 4) (by kernel_rfl) (hOp_fresh (R := SpN p r) (M0 := [(w.heap.size, Obj.cells (txA ⟨r, A1, n1, c1, A2, n2, c2⟩) 26 (0, 0))]) rfl rfl (fun _ h => h) (fun u hu => FAt_call (fid := 44) (xs := #[.tmp 21, .tmp 22, .tmp 24]) (args := #[.slice A n c, .agg (txA ⟨r, A1, n1, c1, A2, n2, c2⟩), idv id]) rfl Tryd.func44 rfl rfl u (callsS_fresh (HEX2.out u (EnvX.bel hu)))) ?_)
        rintro _ N9 ⟨v9, rfl, hF⟩ hf he5; intro K' hK'; go_big_quiet_op; go_big_quiet_on
        have HF9 := Lib.hid (And.intro hF hf)
        clear hF
        clear hf
        change anyH _ _ _ _ _ _ _ _ (N9 ++ ((w.heap.size, Obj.cells (txA ⟨r, A1, n1, c1, A2, n2, c2⟩) 26 (0, 0)) :: []))
        refine anyH_phase [5, 6, 7, 8, 9, 10] 0 rfl ⟨_, he5.choose_spec⟩ (by kernel_rfl) ?_
        have hw6 : EnvX w _ (N9 ++ ((w.heap.size, Obj.cells (txA ⟨r, A1, n1, c1, A2, n2, c2⟩) 26 (0, 0)) :: [])) := he5.choose_spec
        have hone := @EnvC.one _ _ _ hw6
        iterate 6 (refine wpG_op rfl rfl rfl ?_; intro K hK; go_big_quiet_op; go_big_quiet_on)
        clear hone hw6
        refine wpG_nil ?_
        refine anyH_done (by kernel_rfl) ?_
        intro u8 E2'
        have EX7 := Lib.hid E2'
        clear E2'
        have HBE := Lib.hid (EnvX.bel EX7.out)
        have HOW : Hid ((spendP p r).2.2 = 0 → World.ownsRow u8 w.heap.size 50 35 v9 (spendP p r).1.length (((spendP p r).1).map coC).flatten) := fun h0 => by
          have hF := HF9.out.1 h0
          have hlen : (((spendP p r).1).map coC).flatten.length = (spendP p r).1.length * 35 := FreshR.lenOf hF
          exact hF.own hlen (fun y hy => ⟨(HF9.out.2 y hy).1, EnvX.box EX7.out _ _ (List.mem_append_left _ hy)⟩)
        go_wp2
        go_returns
        exact ⟨SpE.mk v9 rfl HOW.out, HBE.out⟩
set_option maxRecDepth 20000 in
set_option maxHeartbeats 16000000 in
theorem pSpendP_any (p : List CoinR) (A : Option Addr) (n c : Nat) (t : TxM) (w : World) (hl : p.length = n) (hn : n ≤ 1000) (hnc : n ≤ c) (hcm : c ≤ maxLen) (hI : okP p) (hA : CoinsIn w w.heap.size A p) (ht : TxOk w t) (htt : Tables w) :
    Calls Tryd.prog 12 #[.slice A n c, txV t] w fun e w' => (∃ v, e = .returned (.tuple #[v, .int .i64 (spendP p t.r).2.1, .int .i64 ((spendP p t.r).2.2 : Int)]) ∧ CoSl w' v (spendP p t.r).1) ∧ Below w.heap.size w w' := by
  have HSD : Hid (∀ u, Below w.heap.size w u → Calls Tryd.prog 25 #[.slice A n c, txV t] u fun e w' => SpE p t.r w' u.heap.size e ∧ Below u.heap.size u w') := fun u hu => by
    obtain ⟨r, A1, n1, c1, A2, n2, c2⟩ := t
    exact pspend_any p A n c r A1 n1 c1 A2 n2 c2 u hl hnc hcm hI (CellsIn.up hA hu) (ht.up hu) (htt.below hu)
  have HCLN : Hid (∀ u, Below w.heap.size w u → Calls Tryd.prog 26 #[.slice A n c] u fun e w' => (∃ v, e = .returned v ∧ w'.ownsRow u.heap.size 50 35 v n (p.map coC).flatten) ∧ Below u.heap.size u w') := fun u hu => pclone_any p A n c u hl (by omega) hI (CellsIn.up hA hu)
  have E1 : Hid (EnvX w (w.alloc (.cells (txA t) 26)) [(w.heap.size, Obj.cells (txA t) 26 (0, 0))]) := (EnvX.start w).new _
  have HL := Lib.hid hl
  have HSN : Hid (∀ x N, SpN p t.r x N → ∃ v, x = .tuple #[v, .int .i64 (spendP p t.r).2.1, .int .i64 ((spendP p t.r).2.2 : Int)] ∧ ((spendP p t.r).2.2 = 0 → FreshR 50 35 (spendP p t.r).1.length (((spendP p t.r).1).map coC).flatten v N)) := fun x N h => h
  rcases hs : spendP p t.r with ⟨q, m, e⟩
  rw [hs] at HSN
  simp only at HSN ⊢
  have he1 : e ≠ 0 → q = p ∧ m = 0 := fun h => by
    obtain ⟨k, rfl⟩ : ∃ k, e = k + 1 := ⟨e - 1, by omega⟩
    exact spend_err hs
  clear hl hn hnc hcm hI hA ht htt hs
  unfold txV at *
  by_cases hz : e = 0
  case neg =>
    obtain ⟨rfl, rfl⟩ := he1 hz
    have C2 : Hid (decide ((e : Int) ≠ 0) = true) := decide_eq_true (by omega)
    clear he1 hz
    go_enter Tryd.func12, Tryd.ntmps12
    go_upto_region 1 with (fail)
    generalize w.alloc (.cells (txA t) 26) = W at *
    refine wp_region_Hx (w0 := w) [0, 1, 2, 3, 4, 5, 6, 7, 8, 9] [(w.heap.size, Obj.cells (txA t) 26 (0, 0))] rfl E1.out ?_
    refine lexH_phase [0, 1] [2, 3, 4, 5, 6, 7, 8, 9] ?_
    have hw1 : EnvX w _ [(w.heap.size, Obj.cells (txA t) 26 (0, 0))] := E1.out
    have hone := @EnvC.one _ _ _ hw1
    (refine wpG_op rfl rfl rfl ?_; intro K hK; go_big_quiet_op; go_big_quiet_on)
    (refine wpG_val (v := .agg (txA t)) rfl rfl (fun u hu => load_any_op u (box_tx hu (List.Mem.head _)) rfl) ?_ hw1; intro K hK; go_big_quiet_op; go_big_quiet_on)
    clear hone hw1
    refine wpG_nil ?_
    refine (hOp_fresh (R := fun x N => ∃ v, x = .tuple #[v, .int .i64 0, .int .i64 ((e : Nat) : Int)] ∧ (e = 0 → FreshR 50 35 q.length (q.map coC).flatten v N)) (M0 := [(w.heap.size, Obj.cells (txA t) 26 (0, 0))]) rfl rfl (fun _ h => h) (fun u hu => FAt_call (fid := 25) (xs := #[.tmp 11, .tmp 12]) (args := #[.slice A n c, .agg (txA t)]) rfl Tryd.func25 rfl rfl u ((callsS_fresh (HSD.out u (EnvX.bel hu))).mono (fun _ _ ⟨x, N, k1, k2, k3⟩ => ⟨x, N, k1, HSN.out x N k2, k3⟩))) ?_)
    rintro _ N0 ⟨v0, rfl, hF⟩ hf he2; intro K' hK'; go_big_quiet_op; go_big_quiet_on
    have HF0 := Lib.hid (And.intro hF hf)
    clear hF
    clear hf
    change lexH _ _ _ _ _ _ (N0 ++ ((w.heap.size, Obj.cells (txA t) 26 (0, 0)) :: []))
    refine lexH_phase [3, 4, 5, 6, 7, 8, 9] [] ?_
    have hw3 : EnvX w _ (N0 ++ ((w.heap.size, Obj.cells (txA t) 26 (0, 0)) :: [])) := he2.choose_spec
    have hone := @EnvC.one _ _ _ hw3
    iterate 7 (refine wpG_op rfl rfl rfl ?_; intro K hK; go_big_quiet_op; go_big_quiet_on)
    clear hone hw3
    refine wpG_nil ?_
    intro u5 E2'
    have EX4 := Lib.hid E2'
    clear E2'
    go_upto_region 2 with (fail)
    refine wp_region_Hx (w0 := w) [0, 1] (N0 ++ ((w.heap.size, Obj.cells (txA t) 26 (0, 0)) :: [])) rfl EX4.out ?_
    refine lexH_phase [0, 1] [] ?_
    have hw6 : EnvX w _ (N0 ++ ((w.heap.size, Obj.cells (txA t) 26 (0, 0)) :: [])) := EX4.out
    have hone := @EnvC.one _ _ _ hw6
    (refine wpG_op rfl rfl rfl ?_; intro K hK; go_big_quiet_op; go_big_quiet_on)
    (refine wpG_val (v := .bool true) rfl rfl (fun u hu => neErr_op u C2.out rfl rfl) ?_ hw6; intro K hK; go_big_quiet_op; go_big_quiet_on)
    clear hone hw6
    refine wpG_nil ?_
    intro u8 E2'
    have EX7 := Lib.hid E2'
    clear E2'
    go_upto_region 3 with (fail)
    refine wp_region_Hx (w0 := w) [0, 1, 2, 3, 4, 5] (N0 ++ ((w.heap.size, Obj.cells (txA t) 26 (0, 0)) :: [])) rfl EX7.out ?_
    refine lexH_phase [0] [1, 2, 3, 4, 5] ?_
    have hw9 : EnvX w _ (N0 ++ ((w.heap.size, Obj.cells (txA t) 26 (0, 0)) :: [])) := EX7.out
    have hone := @EnvC.one _ _ _ hw9
    (refine wpG_op rfl rfl rfl ?_; intro K hK; go_big_quiet_op; go_big_quiet_on)
    clear hone hw9
    refine wpG_nil ?_
    refine (hOp_fresh (R := FreshR 50 35 n (q.map coC).flatten) (M0 := (N0 ++ ((w.heap.size, Obj.cells (txA t) 26 (0, 0)) :: []))) rfl rfl (fun _ h => h) (fun u hu => FAt_call (fid := 26) (xs := #[.tmp 19]) (args := #[.slice A n c]) rfl Tryd.func26 rfl rfl u (callsR_fresh (HCLN.out u (EnvX.bel hu)))) ?_)
    rintro x9 N9 hF hf he10; intro K' hK'; go_big_quiet_op; go_big_quiet_on
    have HF9 := Lib.hid (And.intro hF hf)
    clear hF
    clear hf
    change lexH _ _ _ _ _ _ (N9 ++ (N0 ++ ((w.heap.size, Obj.cells (txA t) 26 (0, 0)) :: [])))
    refine lexH_phase [2, 3, 4, 5] [] ?_
    have hw11 : EnvX w _ (N9 ++ (N0 ++ ((w.heap.size, Obj.cells (txA t) 26 (0, 0)) :: []))) := he10.choose_spec
    have hone := @EnvC.one _ _ _ hw11
    iterate 4 (refine wpG_op rfl rfl rfl ?_; intro K hK; go_big_quiet_op; go_big_quiet_on)
    clear hone hw11
    refine wpG_nil ?_
    intro u13 E2'
    have EX12 := Lib.hid E2'
    clear E2'
    have HCS : Hid (CoSl u13 x9 q) := by
      obtain ⟨A9, c9, rfl, k1, k2⟩ := FreshR.formC HF9.out.1
      exact ⟨A9, c9, by rw [HL.out], by rw [HL.out]; exact k1, k2, own_cells (HF9.out.1.own (B := 0) (FreshR.lenOf HF9.out.1) (fun y hy => ⟨Nat.zero_le _, EnvX.box EX12.out _ _ (List.mem_append_left _ hy)⟩))⟩
    have HBE := Lib.hid (EnvX.bel EX12.out)
    go_wp2
    go_returns
    exact ⟨⟨x9, rfl, HCS.out⟩, HBE.out⟩
  case pos =>
    subst hz
    have C2 : Hid (decide (((0 : Nat) : Int) ≠ 0) = false) := decide_eq_false (by omega)
    clear he1
    go_enter Tryd.func12, Tryd.ntmps12
    go_upto_region 1 with (fail)
    generalize w.alloc (.cells (txA t) 26) = W at *
    refine wp_region_Hx (w0 := w) [0, 1, 2, 3, 4, 5, 6, 7, 8, 9] [(w.heap.size, Obj.cells (txA t) 26 (0, 0))] rfl E1.out ?_
    refine lexH_phase [0, 1] [2, 3, 4, 5, 6, 7, 8, 9] ?_
    have hw1 : EnvX w _ [(w.heap.size, Obj.cells (txA t) 26 (0, 0))] := E1.out
    have hone := @EnvC.one _ _ _ hw1
    (refine wpG_op rfl rfl rfl ?_; intro K hK; go_big_quiet_op; go_big_quiet_on)
    (refine wpG_val (v := .agg (txA t)) rfl rfl (fun u hu => load_any_op u (box_tx hu (List.Mem.head _)) rfl) ?_ hw1; intro K hK; go_big_quiet_op; go_big_quiet_on)
    clear hone hw1
    refine wpG_nil ?_
    refine (hOp_fresh (R := fun x N => ∃ v, x = .tuple #[v, .int .i64 m, .int .i64 ((0 : Nat) : Int)] ∧ (0 = 0 → FreshR 50 35 q.length (q.map coC).flatten v N)) (M0 := [(w.heap.size, Obj.cells (txA t) 26 (0, 0))]) rfl rfl (fun _ h => h) (fun u hu => FAt_call (fid := 25) (xs := #[.tmp 11, .tmp 12]) (args := #[.slice A n c, .agg (txA t)]) rfl Tryd.func25 rfl rfl u ((callsS_fresh (HSD.out u (EnvX.bel hu))).mono (fun _ _ ⟨x, N, k1, k2, k3⟩ => ⟨x, N, k1, HSN.out x N k2, k3⟩))) ?_)
    rintro _ N0 ⟨v0, rfl, hF⟩ hf he2; intro K' hK'; go_big_quiet_op; go_big_quiet_on
    have HF0 := Lib.hid (And.intro hF hf)
    clear hF
    clear hf
    change lexH _ _ _ _ _ _ (N0 ++ ((w.heap.size, Obj.cells (txA t) 26 (0, 0)) :: []))
    refine lexH_phase [3, 4, 5, 6, 7, 8, 9] [] ?_
    have hw3 : EnvX w _ (N0 ++ ((w.heap.size, Obj.cells (txA t) 26 (0, 0)) :: [])) := he2.choose_spec
    have hone := @EnvC.one _ _ _ hw3
    iterate 7 (refine wpG_op rfl rfl rfl ?_; intro K hK; go_big_quiet_op; go_big_quiet_on)
    clear hone hw3
    refine wpG_nil ?_
    intro u5 E2'
    have EX4 := Lib.hid E2'
    clear E2'
    go_upto_region 2 with (fail)
    refine wp_region_Hx (w0 := w) [0, 1] (N0 ++ ((w.heap.size, Obj.cells (txA t) 26 (0, 0)) :: [])) rfl EX4.out ?_
    refine lexH_phase [0, 1] [] ?_
    have hw6 : EnvX w _ (N0 ++ ((w.heap.size, Obj.cells (txA t) 26 (0, 0)) :: [])) := EX4.out
    have hone := @EnvC.one _ _ _ hw6
    (refine wpG_op rfl rfl rfl ?_; intro K hK; go_big_quiet_op; go_big_quiet_on)
    (refine wpG_val (v := .bool false) rfl rfl (fun u hu => neErr_op u C2.out rfl rfl) ?_ hw6; intro K hK; go_big_quiet_op; go_big_quiet_on)
    clear hone hw6
    refine wpG_nil ?_
    intro u8 E2'
    have EX7 := Lib.hid E2'
    clear E2'
    go_upto_region 4 with (fail)
    refine wp_region_Hx (w0 := w) [0, 1, 2, 3, 4] (N0 ++ ((w.heap.size, Obj.cells (txA t) 26 (0, 0)) :: [])) rfl EX7.out ?_
    refine lexH_phase [0, 1, 2, 3, 4] [] ?_
    have hw9 : EnvX w _ (N0 ++ ((w.heap.size, Obj.cells (txA t) 26 (0, 0)) :: [])) := EX7.out
    have hone := @EnvC.one _ _ _ hw9
    iterate 5 (refine wpG_op rfl rfl rfl ?_; intro K hK; go_big_quiet_op; go_big_quiet_on)
    clear hone hw9
    refine wpG_nil ?_
    intro u11 E2'
    have EX10 := Lib.hid E2'
    clear E2'
    have HFF := HF0.out.1 rfl
    have HCS : Hid (CoSl u11 v0 q) := by
      obtain ⟨A9, c9, rfl, k1, k2⟩ := FreshR.formC HFF
      exact ⟨A9, c9, rfl, k1, k2, own_cells (HFF.own (B := 0) (FreshR.lenOf HFF) (fun y hy => ⟨Nat.zero_le _, EnvX.box EX10.out _ _ (List.mem_append_left _ hy)⟩))⟩
    have HBE := Lib.hid (EnvX.bel EX10.out)
    go_wp2
    go_returns
    exact ⟨⟨v0, rfl, HCS.out⟩, HBE.out⟩
theorem spend_len {p : List CoinR} (hp : okP p) (hn : p.length ≤ 60) (t : TxR) {a : List CoinR} {k : Int} {e : Nat} (h : spendP p t = (a, k, e)) : okP a ∧ a.length ≤ 1000 := by
  cases e with
  | zero =>
    have h1 := spend_may hp.id h
    have h2 := mayP_iff.1 h1.1
    exact ⟨okP_of h1.2.1 h2.2.1, by omega⟩
  | succ e =>
    obtain ⟨rfl, _⟩ := spend_err h
    exact ⟨hp, by omega⟩
end Go.Proofs.YtabhhbdbkeeblaaDoor
