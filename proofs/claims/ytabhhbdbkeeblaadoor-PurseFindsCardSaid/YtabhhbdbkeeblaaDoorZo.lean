/- Part of a proof. -/
import Derived.Test.YtabhhbdbkeeblaaDoorZn
namespace Go.Proofs.YtabhhbdbkeeblaaDoor
set_option maxRecDepth 8000
open Go.RowKit
/-- a first transaction that spends nothing: the coins, if there is no error -/
def mintR (q : List CoinR) (r : TxR) (k : Int) : List CoinR × Nat := if mayX r = false then ([], 1) else if thereP q (idX r) then ([], 10) else if k < worthX r then ([], 8) else if 48 < (madeP q (newC (idX r) 0 r.outs)).length then ([], 11) else (madeP q (newC (idX r) 0 r.outs), 0)
theorem mintR_apply {p : List CoinR} {l : List TxR} (h : mayP p = true) (h2 : ¬ 4 < l.length) {q : List CoinR} {m : Int} (hr : runP p 0 (if loneX l then l.tail else l) = .ok (q, m)) (hl : loneX l = true) (d : TxR) : (applyP p l).2 = (mintR q (l.getD 0 d) (50 + m)).2 ∧ ((applyP p l).2 = 0 → (applyP p l).1 = (mintR q (l.getD 0 d) (50 + m)).1) := by
  rw [apply_lone h h2 hr hl d]
  unfold mintR
  split
  · exact ⟨rfl, fun h => by cases h⟩
  · split
    · exact ⟨rfl, fun h => by cases h⟩
    · split
      · exact ⟨rfl, fun h => by cases h⟩
      · split
        · exact ⟨rfl, fun h => by cases h⟩
        · exact ⟨rfl, fun _ => rfl⟩
theorem apply_wrong {p : List CoinR} (hp : idP p) (l : List TxR) (h : (applyP p l).2 ≠ 0) : (applyP p l).1 = p := by
  cases hm : mayP p with
  | true => exact (apply_all hp hm l).2.2.2 h
  | false => rw [apply_arg hm]
/-- what a block comes to: coins of one's own, if there is no error -/
def ApE (a : List CoinR × Nat) (w : World) (B : Nat) (e : Ending) : Prop := ∃ v, e = .returned (.tuple #[v, .int .i64 (a.2 : Int)]) ∧ (a.2 = 0 → w.ownsRow B 50 35 v a.1.length ((a.1).map coC).flatten)
theorem ApE.mk {a : List CoinR × Nat} {w : World} {B : Nat} {k : Nat} (v : Value) (h : a.2 = k) (hv : k = 0 → w.ownsRow B 50 35 v a.1.length ((a.1).map coC).flatten) : ApE a w B (.returned (.tuple #[v, .int .i64 (k : Int)])) := ⟨v, by rw [h], by rw [h]; exact hv⟩
def ApN (a : List CoinR × Nat) (x : Value) (N : Boxes) : Prop := ∃ v, x = .tuple #[v, .int .i64 (a.2 : Int)] ∧ (a.2 = 0 → FreshR 50 35 a.1.length ((a.1).map coC).flatten v N)
theorem callsA_fresh {f : FuncId} {args : Array Value} {u : World} {a : List CoinR × Nat} (h : Calls Tryd.prog f args u fun e w' => ApE a w' u.heap.size e ∧ Below u.heap.size u w') :
    Calls Tryd.prog f args u fun e w' => ∃ x N, e = .returned x ∧ ApN a x N ∧ Below u.heap.size u w' ∧ ∀ y ∈ N, u.heap.size ≤ y.1 ∧ w'.heap[y.1]? = some y.2 :=
  h.mono fun e w' ⟨⟨v, he, hv⟩, hb⟩ => by
    by_cases h0 : a.2 = 0
    · obtain ⟨N, hF, hN⟩ := fresh_of_own (hv h0)
      exact ⟨_, N, he, ⟨v, rfl, fun _ => hF⟩, hb, fun y hy => ⟨(hN y hy).1, (hN y hy).2.1⟩⟩
    · exact ⟨_, [], he, ⟨v, rfl, fun h => absurd h h0⟩, hb, fun y hy => by cases hy⟩
theorem TxsIn.tail {w : World} {A : Option Addr} {l : List TxM} {c : Nat} (h : TxsIn w A l) (hc : l.length ≤ c) (h1 : 1 ≤ l.length) : TxsIn w (cutX 2 A 1 c) l.tail := by
  refine ⟨?_, fun t ht => h.each t (List.mem_of_mem_tail ht)⟩
  have hf := (rowsTx l).flat_drop 1
  have e : (l.tail.map txC).flatten = ((l.map txC).flatten).drop (1 * 2) := by
    rw [← hf, ← List.map_drop, List.drop_one]
  rw [e]
  refine CellsIn.drop h.cells 2 1 c ?_
  rcases Nat.lt_or_ge 1 c with h' | h'
  · exact .inl h'
  · refine .inr ?_
    rw [(rowsTx l).flat_len, List.length_map]
    omega
section
variable {a : Act} {dst : Option Tmp} {x y : Operand} {ty : TypeId} {pos : String} {after : Array Edge} {gd : Option (Nat × Bool)}
theorem idxSlH_op {t e : TypeId} {z : Nat} (hu : Tryd.prog.underlying t = some (.slice e)) (hz : (Tryd.prog.info? e).map (·.size) = some z) {A : Option Addr} {ad : Addr} {n c i : Nat} (hi : i < n) (hA : A = some ad) (u : World)
    (hx : a.eval x = .slice A n c) (hy : a.eval y = .int .i64 (i : Int)) :
    (execOp a.eval ⟨dst, .indexAddr t x y, ty, pos, after, gd⟩).run Tryd.prog u = .ok (.value (.pointer (some (ad.add (i * z))))) u := by
  subst hA
  exact idxSl_op hu hz hi u hx hy
end
set_option maxRecDepth 20000 in
set_option maxHeartbeats 16000000 in
theorem pmint_any (p : List CoinR) (A : Option Addr) (n c : Nat) (r : TxR) (A1 : Option Addr) (n1 c1 : Nat) (A2 : Option Addr) (n2 c2 : Nat) (k : Int) (w : World) (hl : p.length = n) (hn : n ≤ 1000) (hnc : n ≤ c) (hcm : c ≤ maxLen) (hI : okP p) (hup : upP p) (hA : CoinsIn w w.heap.size A p) (hb : ∀ c ∈ p, boundC c = true) (ht : TxOk w ⟨r, A1, n1, c1, A2, n2, c2⟩) :
    Calls Tryd.prog 48 #[.slice A n c, txV ⟨r, A1, n1, c1, A2, n2, c2⟩, idv (idX r), .int .i64 k] w fun e w' => ApE (mintR p r k) w' w.heap.size e ∧ Below w.heap.size w w' := by
  have hid := idX_id r
  have hl2 : r.outs.length = n2 := ht.l2
  have HL2 := Lib.hid hl2
  have HL := Lib.hid hl
  have HN1 : Hid (n ≤ 1000) := hn
  have HTM : Hid (∀ u, Below w.heap.size w u → Calls Tryd.prog 43 #[txV ⟨r, A1, n1, c1, A2, n2, c2⟩] u fun e w' => e = .returned (.bool (mayX r)) ∧ Below u.heap.size u w') := fun u hu => mayP_any ⟨r, A1, n1, c1, A2, n2, c2⟩ u (ht.up hu)
  have HHS : Hid (∀ u, Below w.heap.size w u → Calls Tryd.prog 58 #[.slice A n c, idv (idX r)] u fun e w' => e = .returned (.bool (thereP p (idX r))) ∧ Below u.heap.size u w') := fun u hu => phas_any p A n c (idX r) u hl hn hnc hcm hI hup (CellsIn.up hA hu) hb hid
  have HWX : Hid (mayX r = true → n2 ≤ 3 ∧ 1 ≤ n2 ∧ ∀ u, Below w.heap.size w u → Calls Tryd.prog 57 #[.slice A2 n2 c2] u fun e w' => e = .returned (.int .i64 (worthX r)) ∧ Below u.heap.size u w') := fun hm => by
    have hm3 := mayX_iff.1 hm
    have h3 : n2 ≤ 3 := by rw [← hl2]; exact hm3.2.2.1
    exact ⟨h3, by rw [← hl2]; exact hm3.2.1, fun u hu => pworth_any r.outs A2 n2 c2 u hl2 (by omega) (ht.m2.up hu) (fun o ho => decide_eq_true (hm3.2.2.2.2.2 o ho))⟩
  have HWI : Hid (thereP p (idX r) = false → n2 ≤ 3 → 1 ≤ n2 → ∀ u, Below w.heap.size w u → Calls Tryd.prog 60 #[.slice A n c, idv (idX r), .slice A2 n2 c2] u fun e w' => (∃ v, e = .returned v ∧ w'.ownsRow u.heap.size 50 35 v (madeP p (newC (idX r) 0 r.outs)).length ((madeP p (newC (idX r) 0 r.outs)).map coC).flatten) ∧ Below u.heap.size u w') := fun hth h3 h1 u hu =>
    pwith_any p A n c (idX r) r.outs A2 n2 c2 u hl hn hnc hcm hI hup (CellsIn.up hA hu) hid hth hl2 (by omega) (by omega) ht.o2 (CellsIn.up ht.m2 hu)
  have HMO : Hid (n2 ≤ 3 → okP (madeP p (newC (idX r) 0 r.outs))) := fun h3 => madeP_ok hI (newC_ok hid (fun o ho => ht.o2 o ho) (by rw [hl2]; omega))
  have HML : Hid ((madeP p (newC (idX r) 0 r.outs)).length = n + n2) := by show _ = _; rw [madeP_len, newC_len, hl, hl2, Nat.add_comm]
  have hmr : mintR p r k = if mayX r = false then ([], 1) else if thereP p (idX r) then ([], 10) else if k < worthX r then ([], 8) else if 48 < (madeP p (newC (idX r) 0 r.outs)).length then ([], 11) else (madeP p (newC (idX r) 0 r.outs), 0) := rfl
  have E1 : Hid (EnvX w ((w.alloc (.cells (txA ⟨r, A1, n1, c1, A2, n2, c2⟩) 26)).alloc (.cells (arrB 32 (idX r)) 40)) [(w.heap.size + 1, Obj.cells (arrB 32 (idX r)) 40 (0, 0)), (w.heap.size, Obj.cells (txA ⟨r, A1, n1, c1, A2, n2, c2⟩) 26 (0, 0))]) := (EnvX.start w).two _ _
  rw [HML.out] at hmr
  have HIL : Hid ((idX r).length = 32) := hid.1
  clear hl hn hnc hcm hI hup hA hb ht hl2 hid
  generalize madeP p (newC (idX r) 0 r.outs) = q9 at *
  generalize idX r = id at *
  generalize mintR p r k = mr at *
  have HMR := Lib.hid hmr
  clear hmr
  obtain ⟨b1, h1⟩ : ∃ b1, mayX r = b1 := ⟨_, rfl⟩
  obtain ⟨b2, h2⟩ : ∃ b2, thereP p id = b2 := ⟨_, rfl⟩
  rw [h1] at HTM HWX HMR
  rw [h2] at HHS HWI HMR
  clear h1 h2
  unfold txV idv at *
  cases b1 with
  | false =>
    have HF : Hid (mr.2 = 1) := by show _ = _; rw [HMR.out]; rfl
    go_enter Tryd.func48, Tryd.ntmps48
    go_upto_region 1 with (fail)
    generalize (w.alloc (.cells (txA ⟨r, A1, n1, c1, A2, n2, c2⟩) 26)).alloc (.cells (arrB 32 id) 40) = W at *
    refine wp_region_Hx (w0 := w) [0, 1, 2, 3] [(w.heap.size + 1, Obj.cells (arrB 32 id) 40 (0, 0)), (w.heap.size, Obj.cells (txA ⟨r, A1, n1, c1, A2, n2, c2⟩) 26 (0, 0))] rfl E1.out ?_
    refine lexH_phase [0, 1, 2, 3] [] ?_
    have hw1 : EnvX w _ [(w.heap.size + 1, Obj.cells (arrB 32 id) 40 (0, 0)), (w.heap.size, Obj.cells (txA ⟨r, A1, n1, c1, A2, n2, c2⟩) 26 (0, 0))] := E1.out
    have hone := @EnvC.one _ _ _ hw1
    (refine wpG_val (v := .agg (txA ⟨r, A1, n1, c1, A2, n2, c2⟩)) rfl rfl (fun u hu => load_any_op u (box_tx hu (List.Mem.tail _ (List.Mem.head _))) rfl) ?_ hw1; intro K hK; go_big_quiet_op; go_big_quiet_on)
    (refine wpG_call (f := 43) (args := #[.agg (txA ⟨r, A1, n1, c1, A2, n2, c2⟩)]) (v := .bool false) rfl rfl rfl Tryd.func43 rfl rfl (fun u hu => HTM.out u (EnvX.bel hu)) ?_ hw1; intro K hK; go_big_quiet_op; go_big_quiet_on)
    iterate 2 (refine wpG_op rfl rfl rfl ?_; intro K hK; go_big_quiet_op; go_big_quiet_on)
    clear hone hw1
    refine wpG_nil ?_
    intro u3 E2'
    have EX2 := Lib.hid E2'
    clear E2'
    go_upto_region 2 with (fail)
    refine wp_region_Hx (w0 := w) [0, 1] [(w.heap.size + 1, Obj.cells (arrB 32 id) 40 (0, 0)), (w.heap.size, Obj.cells (txA ⟨r, A1, n1, c1, A2, n2, c2⟩) 26 (0, 0))] rfl EX2.out ?_
    refine lexH_phase [0, 1] [] ?_
    have hw4 : EnvX w _ [(w.heap.size + 1, Obj.cells (arrB 32 id) 40 (0, 0)), (w.heap.size, Obj.cells (txA ⟨r, A1, n1, c1, A2, n2, c2⟩) 26 (0, 0))] := EX2.out
    have hone := @EnvC.one _ _ _ hw4
    iterate 2 (refine wpG_op rfl rfl rfl ?_; intro K hK; go_big_quiet_op; go_big_quiet_on)
    clear hone hw4
    refine wpG_nil ?_
    intro u6 E2'
    have EX5 := Lib.hid E2'
    clear E2'
    have HBE := Lib.hid (EnvX.bel EX5.out)
    go_wp2
    go_returns
    exact ⟨ApE.mk (k := 1) (.slice none 0 0) HF.out (fun h => by cases h), HBE.out⟩
  | true =>
    obtain ⟨h3, h31, hwx⟩ := HWX.out rfl
    have H3 := Lib.hid (And.intro h3 h31)
    have HW2 := Lib.hid hwx
    clear HWX h3 h31 hwx
    go_enter Tryd.func48, Tryd.ntmps48
    go_upto_region 1 with (fail)
    generalize (w.alloc (.cells (txA ⟨r, A1, n1, c1, A2, n2, c2⟩) 26)).alloc (.cells (arrB 32 id) 40) = W at *
    refine wp_region_Hx (w0 := w) [0, 1, 2, 3] [(w.heap.size + 1, Obj.cells (arrB 32 id) 40 (0, 0)), (w.heap.size, Obj.cells (txA ⟨r, A1, n1, c1, A2, n2, c2⟩) 26 (0, 0))] rfl E1.out ?_
    refine lexH_phase [0, 1, 2, 3] [] ?_
    have hw1 : EnvX w _ [(w.heap.size + 1, Obj.cells (arrB 32 id) 40 (0, 0)), (w.heap.size, Obj.cells (txA ⟨r, A1, n1, c1, A2, n2, c2⟩) 26 (0, 0))] := E1.out
    have hone := @EnvC.one _ _ _ hw1
    (refine wpG_val (v := .agg (txA ⟨r, A1, n1, c1, A2, n2, c2⟩)) rfl rfl (fun u hu => load_any_op u (box_tx hu (List.Mem.tail _ (List.Mem.head _))) rfl) ?_ hw1; intro K hK; go_big_quiet_op; go_big_quiet_on)
    (refine wpG_call (f := 43) (args := #[.agg (txA ⟨r, A1, n1, c1, A2, n2, c2⟩)]) (v := .bool true) rfl rfl rfl Tryd.func43 rfl rfl (fun u hu => HTM.out u (EnvX.bel hu)) ?_ hw1; intro K hK; go_big_quiet_op; go_big_quiet_on)
    iterate 2 (refine wpG_op rfl rfl rfl ?_; intro K hK; go_big_quiet_op; go_big_quiet_on)
    clear hone hw1
    refine wpG_nil ?_
    intro u3 E2'
    have EX2 := Lib.hid E2'
    clear E2'
    cases b2 with
    | true =>
      have HF : Hid (mr.2 = 10) := by show _ = _; rw [HMR.out]; rfl
      go_upto_region 3 with (fail)
      refine wp_region_Hx (w0 := w) [0, 1, 2, 3] [(w.heap.size + 1, Obj.cells (arrB 32 id) 40 (0, 0)), (w.heap.size, Obj.cells (txA ⟨r, A1, n1, c1, A2, n2, c2⟩) 26 (0, 0))] rfl EX2.out ?_
      refine lexH_phase [0, 1, 2, 3] [] ?_
      have hw4 : EnvX w _ [(w.heap.size + 1, Obj.cells (arrB 32 id) 40 (0, 0)), (w.heap.size, Obj.cells (txA ⟨r, A1, n1, c1, A2, n2, c2⟩) 26 (0, 0))] := EX2.out
      have hone := @EnvC.one _ _ _ hw4
      (refine wpG_op rfl rfl rfl ?_; intro K hK; go_big_quiet_op; go_big_quiet_on)
      (refine wpG_val (v := .agg (arrB 32 id)) rfl rfl (fun u hu => load_any_op u (box_idvP hu (List.Mem.head _) HIL.out) rfl) ?_ hw4; intro K hK; go_big_quiet_op; go_big_quiet_on)
      (refine wpG_call (f := 58) (args := #[.slice A n c, .agg (arrB 32 id)]) (v := .bool true) rfl rfl rfl Tryd.func58 rfl rfl (fun u hu => HHS.out u (EnvX.bel hu)) ?_ hw4; intro K hK; go_big_quiet_op; go_big_quiet_on)
      (refine wpG_op rfl rfl rfl ?_; intro K hK; go_big_quiet_op; go_big_quiet_on)
      clear hone hw4
      refine wpG_nil ?_
      intro u6 E2'
      have EX5 := Lib.hid E2'
      clear E2'
      go_upto_region 4 with (fail)
      refine wp_region_Hx (w0 := w) [0, 1] [(w.heap.size + 1, Obj.cells (arrB 32 id) 40 (0, 0)), (w.heap.size, Obj.cells (txA ⟨r, A1, n1, c1, A2, n2, c2⟩) 26 (0, 0))] rfl EX5.out ?_
      refine lexH_phase [0, 1] [] ?_
      have hw7 : EnvX w _ [(w.heap.size + 1, Obj.cells (arrB 32 id) 40 (0, 0)), (w.heap.size, Obj.cells (txA ⟨r, A1, n1, c1, A2, n2, c2⟩) 26 (0, 0))] := EX5.out
      have hone := @EnvC.one _ _ _ hw7
      iterate 2 (refine wpG_op rfl rfl rfl ?_; intro K hK; go_big_quiet_op; go_big_quiet_on)
      clear hone hw7
      refine wpG_nil ?_
      intro u9 E2'
      have EX8 := Lib.hid E2'
      clear E2'
      have HBE := Lib.hid (EnvX.bel EX8.out)
      go_wp2
      go_returns
      exact ⟨ApE.mk (k := 10) (.slice none 0 0) HF.out (fun h => by cases h), HBE.out⟩
    | false =>
      have HW3 := Lib.hid (HWI.out rfl H3.out.1 H3.out.2)
      have HMR2 : Hid (mr = if k < worthX r then ([], 8) else if 48 < n + n2 then ([], 11) else (q9, 0)) := HMR.out
      clear HWI HMR
      generalize worthX r = wx at *
      go_upto_region 3 with (fail)
      refine wp_region_Hx (w0 := w) [0, 1, 2, 3] [(w.heap.size + 1, Obj.cells (arrB 32 id) 40 (0, 0)), (w.heap.size, Obj.cells (txA ⟨r, A1, n1, c1, A2, n2, c2⟩) 26 (0, 0))] rfl EX2.out ?_
      refine lexH_phase [0, 1, 2, 3] [] ?_
      have hw4 : EnvX w _ [(w.heap.size + 1, Obj.cells (arrB 32 id) 40 (0, 0)), (w.heap.size, Obj.cells (txA ⟨r, A1, n1, c1, A2, n2, c2⟩) 26 (0, 0))] := EX2.out
      have hone := @EnvC.one _ _ _ hw4
      (refine wpG_op rfl rfl rfl ?_; intro K hK; go_big_quiet_op; go_big_quiet_on)
      (refine wpG_val (v := .agg (arrB 32 id)) rfl rfl (fun u hu => load_any_op u (box_idvP hu (List.Mem.head _) HIL.out) rfl) ?_ hw4; intro K hK; go_big_quiet_op; go_big_quiet_on)
      (refine wpG_call (f := 58) (args := #[.slice A n c, .agg (arrB 32 id)]) (v := .bool false) rfl rfl rfl Tryd.func58 rfl rfl (fun u hu => HHS.out u (EnvX.bel hu)) ?_ hw4; intro K hK; go_big_quiet_op; go_big_quiet_on)
      (refine wpG_op rfl rfl rfl ?_; intro K hK; go_big_quiet_op; go_big_quiet_on)
      clear hone hw4
      refine wpG_nil ?_
      intro u6 E2'
      have EX5 := Lib.hid E2'
      clear E2'
      by_cases hk : k < wx
      · have C5 : Hid (decide (k < wx) = true) := decide_eq_true hk
        have HF : Hid (mr.2 = 8) := by show _ = _; rw [HMR2.out, if_pos hk]
        clear hk
        go_upto_region 5 with (fail)
        refine wp_region_Hx (w0 := w) [0, 1, 2, 3, 4, 5] [(w.heap.size + 1, Obj.cells (arrB 32 id) 40 (0, 0)), (w.heap.size, Obj.cells (txA ⟨r, A1, n1, c1, A2, n2, c2⟩) 26 (0, 0))] rfl EX5.out ?_
        refine lexH_phase [0, 1, 2, 3, 4, 5] [] ?_
        have hw7 : EnvX w _ [(w.heap.size + 1, Obj.cells (arrB 32 id) 40 (0, 0)), (w.heap.size, Obj.cells (txA ⟨r, A1, n1, c1, A2, n2, c2⟩) 26 (0, 0))] := EX5.out
        have hone := @EnvC.one _ _ _ hw7
        (refine wpG_val (v := .pointer (some ⟨w.heap.size, 1, none⟩)) rfl rfl (fun u hu => fieldTx_op (k := 1) (off := 1) (ad := ⟨w.heap.size, 0, none⟩) rfl u rfl) ?_ hw7; intro K hK; go_big_quiet_op; go_big_quiet_on)
        (refine wpG_val (v := .slice A2 n2 c2) rfl rfl (fun u hu => load_any_op u (box_tx_outs hu (List.Mem.tail _ (List.Mem.head _))) rfl) ?_ hw7; intro K hK; go_big_quiet_op; go_big_quiet_on)
        (refine wpG_call (f := 57) (args := #[.slice A2 n2 c2]) (v := .int .i64 wx) rfl rfl rfl Tryd.func57 rfl rfl (fun u hu => HW2.out u (EnvX.bel hu)) ?_ hw7; intro K hK; go_big_quiet_op; go_big_quiet_on)
        (refine wpG_op rfl rfl rfl ?_; intro K hK; go_big_quiet_op; go_big_quiet_on)
        (refine wpG_val (v := .bool true) rfl rfl (fun u hu => gtZ_op u C5.out rfl rfl) ?_ hw7; intro K hK; go_big_quiet_op; go_big_quiet_on)
        (refine wpG_op rfl rfl rfl ?_; intro K hK; go_big_quiet_op; go_big_quiet_on)
        clear hone hw7
        refine wpG_nil ?_
        intro u9 E2'
        have EX8 := Lib.hid E2'
        clear E2'
        go_upto_region 6 with (fail)
        refine wp_region_Hx (w0 := w) [0, 1] [(w.heap.size + 1, Obj.cells (arrB 32 id) 40 (0, 0)), (w.heap.size, Obj.cells (txA ⟨r, A1, n1, c1, A2, n2, c2⟩) 26 (0, 0))] rfl EX8.out ?_
        refine lexH_phase [0, 1] [] ?_
        have hw10 : EnvX w _ [(w.heap.size + 1, Obj.cells (arrB 32 id) 40 (0, 0)), (w.heap.size, Obj.cells (txA ⟨r, A1, n1, c1, A2, n2, c2⟩) 26 (0, 0))] := EX8.out
        have hone := @EnvC.one _ _ _ hw10
        iterate 2 (refine wpG_op rfl rfl rfl ?_; intro K hK; go_big_quiet_op; go_big_quiet_on)
        clear hone hw10
        refine wpG_nil ?_
        intro u12 E2'
        have EX11 := Lib.hid E2'
        clear E2'
        have HBE := Lib.hid (EnvX.bel EX11.out)
        go_wp2
        go_returns
        exact ⟨ApE.mk (k := 8) (.slice none 0 0) HF.out (fun h => by cases h), HBE.out⟩
      have C5 : Hid (decide (k < wx) = false) := decide_eq_false hk
      have HMR3 : Hid (mr = if 48 < n + n2 then ([], 11) else (q9, 0)) := by show _ = _; rw [HMR2.out, if_neg hk]
      have HFU : Hid (∀ u, Calls Tryd.prog 59 #[.slice A n c, .slice A2 n2 c2] u fun e w' => e = .returned (.bool (decide (48 < n + n2))) ∧ Below u.heap.size u w') := fun u => pfull_any A n c A2 n2 c2 u (by have := HN1.out; omega) (by have := H3.out; omega)
      clear hk HMR2
      go_upto_region 5 with (fail)
      refine wp_region_Hx (w0 := w) [0, 1, 2, 3, 4, 5] [(w.heap.size + 1, Obj.cells (arrB 32 id) 40 (0, 0)), (w.heap.size, Obj.cells (txA ⟨r, A1, n1, c1, A2, n2, c2⟩) 26 (0, 0))] rfl EX5.out ?_
      refine lexH_phase [0, 1, 2, 3, 4, 5] [] ?_
      have hw7 : EnvX w _ [(w.heap.size + 1, Obj.cells (arrB 32 id) 40 (0, 0)), (w.heap.size, Obj.cells (txA ⟨r, A1, n1, c1, A2, n2, c2⟩) 26 (0, 0))] := EX5.out
      have hone := @EnvC.one _ _ _ hw7
      (refine wpG_val (v := .pointer (some ⟨w.heap.size, 1, none⟩)) rfl rfl (fun u hu => fieldTx_op (k := 1) (off := 1) (ad := ⟨w.heap.size, 0, none⟩) rfl u rfl) ?_ hw7; intro K hK; go_big_quiet_op; go_big_quiet_on)
      (refine wpG_val (v := .slice A2 n2 c2) rfl rfl (fun u hu => load_any_op u (box_tx_outs hu (List.Mem.tail _ (List.Mem.head _))) rfl) ?_ hw7; intro K hK; go_big_quiet_op; go_big_quiet_on)
      (refine wpG_call (f := 57) (args := #[.slice A2 n2 c2]) (v := .int .i64 wx) rfl rfl rfl Tryd.func57 rfl rfl (fun u hu => HW2.out u (EnvX.bel hu)) ?_ hw7; intro K hK; go_big_quiet_op; go_big_quiet_on)
      (refine wpG_op rfl rfl rfl ?_; intro K hK; go_big_quiet_op; go_big_quiet_on)
      (refine wpG_val (v := .bool false) rfl rfl (fun u hu => gtZ_op u C5.out rfl rfl) ?_ hw7; intro K hK; go_big_quiet_op; go_big_quiet_on)
      (refine wpG_op rfl rfl rfl ?_; intro K hK; go_big_quiet_op; go_big_quiet_on)
      clear hone hw7
      refine wpG_nil ?_
      intro u9 E2'
      have EX8 := Lib.hid E2'
      clear E2'
      by_cases hf : 48 < n + n2
      · rw [decide_eq_true hf] at HFU
        have HF : Hid (mr.2 = 11) := by show _ = _; rw [HMR3.out, if_pos hf]
        clear hf
        go_upto_region 7 with (fail)
        refine wp_region_Hx (w0 := w) [0, 1, 2, 3, 4] [(w.heap.size + 1, Obj.cells (arrB 32 id) 40 (0, 0)), (w.heap.size, Obj.cells (txA ⟨r, A1, n1, c1, A2, n2, c2⟩) 26 (0, 0))] rfl EX8.out ?_
        refine lexH_phase [0, 1, 2, 3, 4] [] ?_
        have hw10 : EnvX w _ [(w.heap.size + 1, Obj.cells (arrB 32 id) 40 (0, 0)), (w.heap.size, Obj.cells (txA ⟨r, A1, n1, c1, A2, n2, c2⟩) 26 (0, 0))] := EX8.out
        have hone := @EnvC.one _ _ _ hw10
        (refine wpG_op rfl rfl rfl ?_; intro K hK; go_big_quiet_op; go_big_quiet_on)
        (refine wpG_val (v := .pointer (some ⟨w.heap.size, 1, none⟩)) rfl rfl (fun u hu => fieldTx_op (k := 1) (off := 1) (ad := ⟨w.heap.size, 0, none⟩) rfl u rfl) ?_ hw10; intro K hK; go_big_quiet_op; go_big_quiet_on)
        (refine wpG_val (v := .slice A2 n2 c2) rfl rfl (fun u hu => load_any_op u (box_tx_outs hu (List.Mem.tail _ (List.Mem.head _))) rfl) ?_ hw10; intro K hK; go_big_quiet_op; go_big_quiet_on)
        (refine wpG_call (f := 59) (args := #[.slice A n c, .slice A2 n2 c2]) (v := .bool true) rfl rfl rfl Tryd.func59 rfl rfl (fun u hu => HFU.out u) ?_ hw10; intro K hK; go_big_quiet_op; go_big_quiet_on)
        (refine wpG_op rfl rfl rfl ?_; intro K hK; go_big_quiet_op; go_big_quiet_on)
        clear hone hw10
        refine wpG_nil ?_
        intro u12 E2'
        have EX11 := Lib.hid E2'
        clear E2'
        go_upto_region 8 with (fail)
        refine wp_region_Hx (w0 := w) [0, 1] [(w.heap.size + 1, Obj.cells (arrB 32 id) 40 (0, 0)), (w.heap.size, Obj.cells (txA ⟨r, A1, n1, c1, A2, n2, c2⟩) 26 (0, 0))] rfl EX11.out ?_
        refine lexH_phase [0, 1] [] ?_
        have hw13 : EnvX w _ [(w.heap.size + 1, Obj.cells (arrB 32 id) 40 (0, 0)), (w.heap.size, Obj.cells (txA ⟨r, A1, n1, c1, A2, n2, c2⟩) 26 (0, 0))] := EX11.out
        have hone := @EnvC.one _ _ _ hw13
        iterate 2 (refine wpG_op rfl rfl rfl ?_; intro K hK; go_big_quiet_op; go_big_quiet_on)
        clear hone hw13
        refine wpG_nil ?_
        intro u15 E2'
        have EX14 := Lib.hid E2'
        clear E2'
        have HBE := Lib.hid (EnvX.bel EX14.out)
        go_wp2
        go_returns
        exact ⟨ApE.mk (k := 11) (.slice none 0 0) HF.out (fun h => by cases h), HBE.out⟩
      · rw [decide_eq_false hf] at HFU
        have HF : Hid (mr.2 = 0) := by show _ = _; rw [HMR3.out, if_neg hf]
        have HQ : Hid (mr.1 = q9) := by show _ = _; rw [HMR3.out, if_neg hf]
        clear hf HMR3
        go_upto_region 7 with (fail)
        refine wp_region_Hx (w0 := w) [0, 1, 2, 3, 4] [(w.heap.size + 1, Obj.cells (arrB 32 id) 40 (0, 0)), (w.heap.size, Obj.cells (txA ⟨r, A1, n1, c1, A2, n2, c2⟩) 26 (0, 0))] rfl EX8.out ?_
        refine lexH_phase [0, 1, 2, 3, 4] [] ?_
        have hw10 : EnvX w _ [(w.heap.size + 1, Obj.cells (arrB 32 id) 40 (0, 0)), (w.heap.size, Obj.cells (txA ⟨r, A1, n1, c1, A2, n2, c2⟩) 26 (0, 0))] := EX8.out
        have hone := @EnvC.one _ _ _ hw10
        (refine wpG_op rfl rfl rfl ?_; intro K hK; go_big_quiet_op; go_big_quiet_on)
        (refine wpG_val (v := .pointer (some ⟨w.heap.size, 1, none⟩)) rfl rfl (fun u hu => fieldTx_op (k := 1) (off := 1) (ad := ⟨w.heap.size, 0, none⟩) rfl u rfl) ?_ hw10; intro K hK; go_big_quiet_op; go_big_quiet_on)
        (refine wpG_val (v := .slice A2 n2 c2) rfl rfl (fun u hu => load_any_op u (box_tx_outs hu (List.Mem.tail _ (List.Mem.head _))) rfl) ?_ hw10; intro K hK; go_big_quiet_op; go_big_quiet_on)
        (refine wpG_call (f := 59) (args := #[.slice A n c, .slice A2 n2 c2]) (v := .bool false) rfl rfl rfl Tryd.func59 rfl rfl (fun u hu => HFU.out u) ?_ hw10; intro K hK; go_big_quiet_op; go_big_quiet_on)
        (refine wpG_op rfl rfl rfl ?_; intro K hK; go_big_quiet_op; go_big_quiet_on)
        clear hone hw10
        refine wpG_nil ?_
        intro u12 E2'
        have EX11 := Lib.hid E2'
        clear E2'
        go_upto_region 9 with (fail)
        refine wp_region_Hx (w0 := w) [0, 1, 2, 3, 4, 5, 6] [(w.heap.size + 1, Obj.cells (arrB 32 id) 40 (0, 0)), (w.heap.size, Obj.cells (txA ⟨r, A1, n1, c1, A2, n2, c2⟩) 26 (0, 0))] rfl EX11.out ?_
        refine lexH_phase [0, 1, 2, 3] [4, 5, 6] ?_
        have hw13 : EnvX w _ [(w.heap.size + 1, Obj.cells (arrB 32 id) 40 (0, 0)), (w.heap.size, Obj.cells (txA ⟨r, A1, n1, c1, A2, n2, c2⟩) 26 (0, 0))] := EX11.out
        have hone := @EnvC.one _ _ _ hw13
        (refine wpG_op rfl rfl rfl ?_; intro K hK; go_big_quiet_op; go_big_quiet_on)
        (refine wpG_val (v := .agg (arrB 32 id)) rfl rfl (fun u hu => load_any_op u (box_idvP hu (List.Mem.head _) HIL.out) rfl) ?_ hw13; intro K hK; go_big_quiet_op; go_big_quiet_on)
        (refine wpG_val (v := .pointer (some ⟨w.heap.size, 1, none⟩)) rfl rfl (fun u hu => fieldTx_op (k := 1) (off := 1) (ad := ⟨w.heap.size, 0, none⟩) rfl u rfl) ?_ hw13; intro K hK; go_big_quiet_op; go_big_quiet_on)
        (refine wpG_val (v := .slice A2 n2 c2) rfl rfl (fun u hu => load_any_op u (box_tx_outs hu (List.Mem.tail _ (List.Mem.head _))) rfl) ?_ hw13; intro K hK; go_big_quiet_op; go_big_quiet_on)
        clear hone hw13
        refine wpG_nil ?_
        refine (hOp_fresh (R := FreshR 50 35 q9.length (q9.map coC).flatten) (M0 := [(w.heap.size + 1, Obj.cells (arrB 32 id) 40 (0, 0)), (w.heap.size, Obj.cells (txA ⟨r, A1, n1, c1, A2, n2, c2⟩) 26 (0, 0))]) rfl rfl (fun _ h => h) (fun u hu => FAt_call (fid := 60) (xs := #[.tmp 29, .tmp 30, .tmp 32]) (args := #[.slice A n c, .agg (arrB 32 id), .slice A2 n2 c2]) rfl Tryd.func60 rfl rfl u (callsR_fresh (HW3.out u (EnvX.bel hu)))) ?_)
        rintro x9 N9 hF hf he14; intro K' hK'; go_big_quiet_op; go_big_quiet_on
        have HF9 := Lib.hid (And.intro hF hf)
        clear hF
        clear hf
        change lexH _ _ _ _ _ _ (N9 ++ ((w.heap.size + 1, Obj.cells (arrB 32 id) 40 (0, 0)) :: ((w.heap.size, Obj.cells (txA ⟨r, A1, n1, c1, A2, n2, c2⟩) 26 (0, 0)) :: [])))
        refine lexH_phase [5, 6] [] ?_
        have hw15 : EnvX w _ (N9 ++ ((w.heap.size + 1, Obj.cells (arrB 32 id) 40 (0, 0)) :: ((w.heap.size, Obj.cells (txA ⟨r, A1, n1, c1, A2, n2, c2⟩) 26 (0, 0)) :: []))) := he14.choose_spec
        have hone := @EnvC.one _ _ _ hw15
        iterate 2 (refine wpG_op rfl rfl rfl ?_; intro K hK; go_big_quiet_op; go_big_quiet_on)
        clear hone hw15
        refine wpG_nil ?_
        intro u17 E2'
        have EX16 := Lib.hid E2'
        clear E2'
        have HOW := Lib.hid (HF9.out.1.own (w := u17) (B := w.heap.size) (FreshR.lenOf HF9.out.1) (fun y hy => ⟨(HF9.out.2 y hy).1, EnvX.box EX16.out _ _ (List.mem_append_left _ hy)⟩))
        have HBE := Lib.hid (EnvX.bel EX16.out)
        go_wp2
        go_returns
        exact ⟨ApE.mk (k := 0) x9 HF.out (fun _ => by rw [HQ.out]; exact HOW.out), HBE.out⟩
set_option maxRecDepth 20000 in
set_option maxHeartbeats 8000000 in
theorem papply_arg (p : List CoinR) (A : Option Addr) (n c : Nat) (l : List TxM) (A' : Option Addr) (n' c' : Nat) (w : World) (hl : p.length = n) (hnc : n ≤ c) (hcm : c ≤ maxLen) (hI : okP p) (hA : CoinsIn w w.heap.size A p) (hl' : l.length = n') (hnc' : n' ≤ c') (hcm' : c' ≤ maxLen) (hA' : TxsIn w A' l) (htt : Tables w) (k1 : mayP p = false) :
    Calls Tryd.prog 32 #[.slice A n c, .slice A' n' c'] w fun e w' => ApE (applyP p (rsT l)) w' w.heap.size e ∧ Below w.heap.size w w' := by
  have HMY : Hid (∀ u, Below w.heap.size w u → Calls Tryd.prog 20 #[.slice A n c] u fun e w' => e = .returned (.bool (mayP p)) ∧ Below u.heap.size u w') := fun u hu => pmayP_any p A n c u hl hnc hcm hI (CellsIn.up hA hu)
  have HM63 : Hid (n' < 9223372036854775808) := by show _ < _; unfold maxLen at hcm'; omega
  have E1 : Hid (EnvX w w []) := EnvX.start w
  have HF : Hid ((applyP p (rsT l)).2 = 1) := by show _ = _; rw [apply_arg k1]
  rw [k1] at HMY
  clear k1 hl hnc hcm hI hA hl' hnc' hcm' hA' htt
  go_enter Tryd.func32, Tryd.ntmps32
  go_upto_region 1 with (fail)
  refine wp_region_Hx (w0 := w) [0, 1, 2] [] rfl E1.out ?_
  refine lexH_phase [0, 1, 2] [] ?_
  have hw1 : EnvX w _ [] := E1.out
  have hone := @EnvC.one _ _ _ hw1
  (refine wpG_op rfl rfl rfl ?_; intro K hK; go_big_quiet_op; go_big_quiet_on)
  (refine wpG_call (f := 20) (args := #[.slice A n c]) (v := .bool false) rfl rfl rfl Tryd.func20 rfl rfl (fun u hu => HMY.out u (EnvX.bel hu)) ?_ hw1; intro K hK; go_big_quiet_op; go_big_quiet_on)
  (refine wpG_op rfl rfl rfl ?_; intro K hK; go_big_quiet_op; go_big_quiet_on)
  clear hone hw1
  refine wpG_nil ?_
  intro u3 E2'
  have EX2 := Lib.hid E2'
  clear E2'
  go_upto_region 2 with (fail)
  refine wp_region_Hx (w0 := w) [0, 1] [] rfl EX2.out ?_
  refine lexH_phase [0, 1] [] ?_
  have hw4 : EnvX w _ [] := EX2.out
  have hone := @EnvC.one _ _ _ hw4
  iterate 2 (refine wpG_op rfl rfl rfl ?_; intro K hK; go_big_quiet_op; go_big_quiet_on)
  clear hone hw4
  refine wpG_nil ?_
  intro u6 E2'
  have EX5 := Lib.hid E2'
  clear E2'
  have HBE := Lib.hid (EnvX.bel EX5.out)
  go_wp2
  go_returns
  exact ⟨ApE.mk (k := 1) (.slice none 0 0) HF.out (fun h => by cases h), HBE.out⟩
set_option maxRecDepth 20000 in
set_option maxHeartbeats 8000000 in
theorem papply_size (p : List CoinR) (A : Option Addr) (n c : Nat) (l : List TxM) (A' : Option Addr) (n' c' : Nat) (w : World) (hl : p.length = n) (hnc : n ≤ c) (hcm : c ≤ maxLen) (hI : okP p) (hA : CoinsIn w w.heap.size A p) (hl' : l.length = n') (hnc' : n' ≤ c') (hcm' : c' ≤ maxLen) (hA' : TxsIn w A' l) (htt : Tables w) (k1 : mayP p = true) (k2 : 4 < n') :
    Calls Tryd.prog 32 #[.slice A n c, .slice A' n' c'] w fun e w' => ApE (applyP p (rsT l)) w' w.heap.size e ∧ Below w.heap.size w w' := by
  have HMY : Hid (∀ u, Below w.heap.size w u → Calls Tryd.prog 20 #[.slice A n c] u fun e w' => e = .returned (.bool (mayP p)) ∧ Below u.heap.size u w') := fun u hu => pmayP_any p A n c u hl hnc hcm hI (CellsIn.up hA hu)
  have HM63 : Hid (n' < 9223372036854775808) := by show _ < _; unfold maxLen at hcm'; omega
  have E1 : Hid (EnvX w w []) := EnvX.start w
  have HF : Hid ((applyP p (rsT l)).2 = 3) := by show _ = _; rw [apply_size k1 (by unfold rsT; rw [List.length_map, hl']; exact k2)]
  have D4 : Hid (decide ((4 : Int) < (n' : Int)) = true) := decide_eq_true (by omega)
  rw [k1] at HMY
  clear k1 k2 hl hnc hcm hI hA hl' hnc' hcm' hA' htt
  go_enter Tryd.func32, Tryd.ntmps32
  go_upto_region 1 with (fail)
  refine wp_region_Hx (w0 := w) [0, 1, 2] [] rfl E1.out ?_
  refine lexH_phase [0, 1, 2] [] ?_
  have hw1 : EnvX w _ [] := E1.out
  have hone := @EnvC.one _ _ _ hw1
  (refine wpG_op rfl rfl rfl ?_; intro K hK; go_big_quiet_op; go_big_quiet_on)
  (refine wpG_call (f := 20) (args := #[.slice A n c]) (v := .bool true) rfl rfl rfl Tryd.func20 rfl rfl (fun u hu => HMY.out u (EnvX.bel hu)) ?_ hw1; intro K hK; go_big_quiet_op; go_big_quiet_on)
  (refine wpG_op rfl rfl rfl ?_; intro K hK; go_big_quiet_op; go_big_quiet_on)
  clear hone hw1
  refine wpG_nil ?_
  intro u3 E2'
  have EX2 := Lib.hid E2'
  clear E2'
  go_upto_region 3 with (fail)
  refine wp_region_Hx (w0 := w) [0, 1, 2] [] rfl EX2.out ?_
  refine lexH_phase [0, 1, 2] [] ?_
  have hw4 : EnvX w _ [] := EX2.out
  have hone := @EnvC.one _ _ _ hw4
  (refine wpG_op rfl rfl rfl ?_; intro K hK; go_big_quiet_op; go_big_quiet_on)
  (refine wpG_val (v := (.int .i64 (n' : Int))) rfl rfl (fun u hu => len_op Tryd.underlying27 HM63.out u rfl) ?_ hw4; intro K hK; go_big_quiet_op; go_big_quiet_on)
  (refine wpG_val (v := .bool true) rfl rfl (fun u hu => gtZ_op u D4.out rfl rfl) ?_ hw4; intro K hK; go_big_quiet_op; go_big_quiet_on)
  clear hone hw4
  refine wpG_nil ?_
  intro u6 E2'
  have EX5 := Lib.hid E2'
  clear E2'
  go_upto_region 4 with (fail)
  refine wp_region_Hx (w0 := w) [0, 1] [] rfl EX5.out ?_
  refine lexH_phase [0, 1] [] ?_
  have hw7 : EnvX w _ [] := EX5.out
  have hone := @EnvC.one _ _ _ hw7
  iterate 2 (refine wpG_op rfl rfl rfl ?_; intro K hK; go_big_quiet_op; go_big_quiet_on)
  clear hone hw7
  refine wpG_nil ?_
  intro u9 E2'
  have EX8 := Lib.hid E2'
  clear E2'
  have HBE := Lib.hid (EnvX.bel EX8.out)
  go_wp2
  go_returns
  exact ⟨ApE.mk (k := 3) (.slice none 0 0) HF.out (fun h => by cases h), HBE.out⟩
set_option maxRecDepth 20000 in
set_option maxHeartbeats 16000000 in
theorem papply_mainA (p : List CoinR) (A : Option Addr) (n c : Nat) (l : List TxM) (A' : Option Addr) (n' c' : Nat) (w : World) (hl : p.length = n) (hnc : n ≤ c) (hcm : c ≤ maxLen) (hI : okP p) (hA : CoinsIn w w.heap.size A p) (hl' : l.length = n') (hnc' : n' ≤ c') (hcm' : c' ≤ maxLen) (hA' : TxsIn w A' l) (htt : Tables w) (k1 : mayP p = true) (k2 : ¬ 4 < n') (k3 : n' = 0) :
    Calls Tryd.prog 32 #[.slice A n c, .slice A' n' c'] w fun e w' => ApE (applyP p (rsT l)) w' w.heap.size e ∧ Below w.heap.size w w' := by
  have HMY : Hid (∀ u, Below w.heap.size w u → Calls Tryd.prog 20 #[.slice A n c] u fun e w' => e = .returned (.bool (mayP p)) ∧ Below u.heap.size u w') := fun u hu => pmayP_any p A n c u hl hnc hcm hI (CellsIn.up hA hu)
  have HM63 : Hid (n' < 9223372036854775808) := by show _ < _; unfold maxLen at hcm'; omega
  have E1 : Hid (EnvX w w []) := EnvX.start w
  have D4 : Hid (decide ((4 : Int) < (n' : Int)) = false) := decide_eq_false (by omega)
  have HK := Lib.hid k1
  have HK2 : Hid (n' ≤ 4) := by show _ ≤ _; omega
  have HRL : Hid ((rsT l).length = n') := by show _ = _; unfold rsT; rw [List.length_map, hl']
  have HTT := Lib.hid htt
  have HL' := Lib.hid hl'
  have HTI := Lib.hid hA'
  have HPP := Lib.hid hI
  have HL := Lib.hid hl
  have HCLN : Hid (∀ u, Below w.heap.size w u → Calls Tryd.prog 26 #[.slice A n c] u fun e w' => (∃ v, e = .returned v ∧ w'.ownsRow u.heap.size 50 35 v n (p.map coC).flatten) ∧ Below u.heap.size u w') := fun u hu => pclone_any p A n c u hl (by have := (mayP_iff.1 k1).1; omega) hI (CellsIn.up hA hu)
  rw [k1] at HMY
  have HLO : Hid (loneX (rsT l) = false) := by
    have h : rsT l = [] := List.eq_nil_of_length_eq_zero (by rw [HRL.out, k3])
    show _ = _
    rw [h]
    rfl
  have C5 : Hid (decide ((0 : Int) < (n' : Int)) = false) := decide_eq_false (by omega)
  have HTO : Hid (TxsIn w A' l) := hA'
  have HLN : Hid ((l).length = n') := by show _ = _; exact hl'
  have HNO : Hid (n' ≤ 4 ∧ n' < 9223372036854775808) := ⟨by omega, by omega⟩
  have HOT : Hid ((if loneX (rsT l) then (rsT l).tail else rsT l) = rsT l) := by
    show _ = _
    rw [HLO.out]
    rfl
  clear k1 k2 k3 hl hnc hcm hI hA hl' hnc' hcm' hA' htt
  go_enter Tryd.func32, Tryd.ntmps32
  go_upto_region 1 with (fail)
  refine wp_region_Hx (w0 := w) [0, 1, 2] [] rfl E1.out ?_
  refine lexH_phase [0, 1, 2] [] ?_
  have hw1 : EnvX w _ [] := E1.out
  have hone := @EnvC.one _ _ _ hw1
  (refine wpG_op rfl rfl rfl ?_; intro K hK; go_big_quiet_op; go_big_quiet_on)
  (refine wpG_call (f := 20) (args := #[.slice A n c]) (v := .bool true) rfl rfl rfl Tryd.func20 rfl rfl (fun u hu => HMY.out u (EnvX.bel hu)) ?_ hw1; intro K hK; go_big_quiet_op; go_big_quiet_on)
  (refine wpG_op rfl rfl rfl ?_; intro K hK; go_big_quiet_op; go_big_quiet_on)
  clear hone hw1
  refine wpG_nil ?_
  intro u3 E2'
  have EX2 := Lib.hid E2'
  clear E2'
  go_upto_region 3 with (fail)
  refine wp_region_Hx (w0 := w) [0, 1, 2] [] rfl EX2.out ?_
  refine lexH_phase [0, 1, 2] [] ?_
  have hw4 : EnvX w _ [] := EX2.out
  have hone := @EnvC.one _ _ _ hw4
  (refine wpG_op rfl rfl rfl ?_; intro K hK; go_big_quiet_op; go_big_quiet_on)
  (refine wpG_val (v := (.int .i64 (n' : Int))) rfl rfl (fun u hu => len_op Tryd.underlying27 HM63.out u rfl) ?_ hw4; intro K hK; go_big_quiet_op; go_big_quiet_on)
  (refine wpG_val (v := .bool false) rfl rfl (fun u hu => gtZ_op u D4.out rfl rfl) ?_ hw4; intro K hK; go_big_quiet_op; go_big_quiet_on)
  clear hone hw4
  refine wpG_nil ?_
  intro u6 E2'
  have EX5 := Lib.hid E2'
  clear E2'
  go_upto_region 5 with (fail)
  refine wp_region_Hx (w0 := w) [0, 1, 2, 3, 4, 5, 6, 7, 8, 9, 10, 11, 12, 13] [] rfl EX5.out ?_
  refine lexH_phase [0, 1, 2, 3, 4, 5, 6, 7, 8, 9, 10, 11, 12, 13] [] ?_
  have hw7 : EnvX w _ [] := EX5.out
  have hone := @EnvC.one _ _ _ hw7
  (refine wpG_op rfl rfl rfl ?_; intro K hK; go_big_quiet_op; go_big_quiet_on)
  (refine wpG_val (v := (.int .i64 (n' : Int))) rfl rfl (fun u hu => len_op Tryd.underlying27 HM63.out u rfl) ?_ hw7; intro K hK; go_big_quiet_op; go_big_quiet_on)
  (refine wpG_val (v := .bool false) rfl rfl (fun u hu => gtZ_op u C5.out rfl rfl) ?_ hw7; intro K hK; go_big_quiet_op; go_big_quiet_on)
  (refine wpG_op rfl rfl rfl ?_; intro K hK; go_big_quiet_op; go_big_quiet_on)
  iterate 6 (refine wpG_skip rfl rfl ?_ hw7; intro K hK; go_big_quiet_op; go_big_quiet_on)
  iterate 4 (refine wpG_op rfl rfl rfl ?_; intro K hK; go_big_quiet_op; go_big_quiet_on)
  clear hone hw7
  refine wpG_nil ?_
  intro u9 E2'
  have EX8 := Lib.hid E2'
  clear E2'
  go_upto_region 6 with (fail)
  refine wp_region_Hx (w0 := w) [0] [] rfl EX8.out ?_
  refine lexH_phase [0] [] ?_
  have hw10 : EnvX w _ [] := EX8.out
  have hone := @EnvC.one _ _ _ hw10
  (refine wpG_op rfl rfl rfl ?_; intro K hK; go_big_quiet_op; go_big_quiet_on)
  clear hone hw10
  refine wpG_nil ?_
  intro u12 E2'
  have EX11 := Lib.hid E2'
  clear E2'
  go_upto_region 8 with (fail)
  refine wp_region_Hx (w0 := w) [0, 1, 2, 3] [] rfl EX11.out ?_
  refine lexH_phase [0] [1, 2, 3] ?_
  have hw13 : EnvX w _ [] := EX11.out
  have hone := @EnvC.one _ _ _ hw13
  (refine wpG_op rfl rfl rfl ?_; intro K hK; go_big_quiet_op; go_big_quiet_on)
  clear hone hw13
  refine wpG_nil ?_
  refine (hOp_fresh (R := FreshR 50 35 n (p.map coC).flatten) (M0 := []) rfl rfl (fun _ h => h) (fun u hu => FAt_call (fid := 26) (xs := #[.tmp 36]) (args := #[.slice A n c]) rfl Tryd.func26 rfl rfl u (callsR_fresh (HCLN.out u (EnvX.bel hu)))) ?_)
  rintro x0 N0 hF hf he14; intro K' hK'; go_big_quiet_op; go_big_quiet_on
  have HF0 := Lib.hid (And.intro hF hf)
  clear hF
  clear hf
  change lexH _ _ _ _ _ _ (N0 ++ [])
  rw [List.append_nil] at he14 ⊢
  refine lexH_phase [2, 3] [] ?_
  have hw15 : EnvX w _ N0 := he14.choose_spec
  have hone := @EnvC.one _ _ _ hw15
  iterate 2 (refine wpG_op rfl rfl rfl ?_; intro K hK; go_big_quiet_op; go_big_quiet_on)
  clear hone hw15
  refine wpG_nil ?_
  intro u17 E2'
  have EX16 := Lib.hid E2'
  clear E2'
  go_upto_region 9 with (fail)
  refine wp_region_Hx (w0 := w) [0, 1, 2] N0 rfl EX16.out ?_
  refine lexH_phase [0, 1, 2] [] ?_
  have hw18 : EnvX w _ N0 := EX16.out
  have hone := @EnvC.one _ _ _ hw18
  (refine wpG_op rfl rfl rfl ?_; intro K hK; go_big_quiet_op; go_big_quiet_on)
  (refine wpG_val (v := .int .i64 ((n' : Nat) : Int)) rfl rfl (fun u hu => len_op Tryd.underlying27 HNO.out.2 u rfl) ?_ hw18; intro K hK; go_big_quiet_op; go_big_quiet_on)
  (refine wpG_op rfl rfl rfl ?_; intro K hK; go_big_quiet_op; go_big_quiet_on)
  clear hone hw18
  refine wpG_nil ?_
  intro u20 E2'
  have EX19 := Lib.hid E2'
  clear E2'
  have HINV : Hid (runP p 0 ((rsT l).take 0) = .ok (p, 0) ∧ ∃ N, FreshR 50 35 p.length (p.map coC).flatten x0 N ∧ freshN w N [] ∧ EnvX w u20 N) := by
    refine ⟨rfl, N0, ?_, HF0.out.2, EX19.out⟩
    rw [HL.out]
    exact HF0.out.1
  clear EX19 E1 HF0
  go_upto_region 10 with (fail)
  go_loopw [8, 9, 40] (fun nv mv iv u => ∃ (i : Nat) (q : List CoinR) (m : Int), i ≤ n' ∧ iv = .int .i64 (i : Int) ∧ mv = .int .i64 (50 + m) ∧ Hid (runP p 0 ((rsT l).take i) = .ok (q, m) ∧ ∃ N, FreshR 50 35 q.length (q.map coC).flatten nv N ∧ freshN w N [] ∧ EnvX w u N)) (fun _ _ iv _ => n' - (intOf iv).toNat)
  case atStart => exact ⟨0, p, 0, by omega, rfl, rfl, HINV⟩
  case round =>
    obtain ⟨i, q, m, hi, rfl, rfl, hinv⟩ := hrel
    obtain ⟨hrun, N, hF, hfr, hE⟩ := hinv.out
    have EK := Lib.hid hE
    have HRUN := Lib.hid hrun
    have HRB := Lib.hid (run_bounds HK.out HPP.out hrun)
    have HF := Lib.hid hF
    have HFR := Lib.hid hfr
    obtain ⟨A3, c3, rfl, hc1, hc2⟩ := FreshR.formC HF.out
    have HC3 := Lib.hid (And.intro hc1 hc2)
    have HCO : Hid (∀ u M, EnvX w u M → (∀ y ∈ N, y ∈ M) → CoinsIn u u.heap.size A3 q) := fun u M hu hm => own_cells (HF.out.own (w := u) (B := 0) (FreshR.lenOf HF.out) (fun y hy => ⟨Nat.zero_le _, hu.box _ _ (hm y hy)⟩))
    clear hinv HINV hrun hF hfr hE hc1 hc2
    by_cases hlt : i < n'
    · have C10 : Hid (decide ((i : Int) < ((n' : Nat) : Int)) = true) := decide_eq_true (by omega)
      have HI : Hid (i < n') := hlt
      have hil : i < (l).length := by rw [HLN.out]; exact hlt
      have HIL : Hid (i < (rsT l).length) := by show _ < _; unfold rsT; rw [List.length_map]; exact hil
      obtain ⟨ad, hAO, -, hld⟩ := HTO.out.loads hil
      have HAO : Hid (A' = some ad) := hAO
      have HLD := Lib.hid hld
      have HTX : Hid (TxOk w ((l).getD i noTxM)) := HTO.out.get hil
      have hrg : (rsT l).getD i noTx = ((l).getD i noTxM).r := by
        unfold rsT
        rw [List.getD_eq_getElem?_getD, List.getElem?_map, List.getD_eq_getElem?_getD, List.getElem?_eq_getElem hil]
        rfl
      obtain ⟨t, ht⟩ : ∃ t, (l).getD i noTxM = t := ⟨_, rfl⟩
      rw [ht] at HLD HTX hrg
      have HRG := Lib.hid hrg
      have HSD : Hid (∀ u M, EnvX w u M → (∀ y ∈ N, y ∈ M) → Calls Tryd.prog 25 #[.slice A3 q.length c3, txV t] u fun e w' => SpE q t.r w' u.heap.size e ∧ Below u.heap.size u w') := fun u M hu hm => by
        obtain ⟨r, B1, m1, d1, B2, m2, d2⟩ := t
        exact pspend_any q A3 q.length c3 r B1 m1 d1 B2 m2 d2 u rfl HC3.out.1 HC3.out.2 HRB.out.1 (HCO.out u M hu hm) (HTX.out.up (EnvX.bel hu)) (HTT.out.below (EnvX.bel hu))
      have HSN : Hid (∀ x N, SpN q t.r x N → ∃ v, x = .tuple #[v, .int .i64 (spendP q t.r).2.1, .int .i64 ((spendP q t.r).2.2 : Int)] ∧ ((spendP q t.r).2.2 = 0 → FreshR 50 35 (spendP q t.r).1.length (((spendP q t.r).1).map coC).flatten v N)) := fun x N h => h
      rcases hs : spendP q t.r with ⟨q2, m2, e2⟩
      rw [hs] at HSN
      simp only at HSN
      have HS := Lib.hid hs
      clear hlt hil hAO hld hrg ht hs
      go_upto_region 10 with (fail)
      refine wp_region_Hx (w0 := w) [0] N rfl EK.out ?_
      refine lexH_phase [0] [] ?_
      have hw21 : EnvX w _ N := EK.out
      have hone := @EnvC.one _ _ _ hw21
      (refine wpG_val (v := .bool true) rfl rfl (fun u hu => ltZ_op u C10.out rfl rfl) ?_ hw21; intro K hK; go_big_quiet_op; go_big_quiet_on)
      clear hone hw21
      refine wpG_nil ?_
      intro u23 E2'
      have EX22 := Lib.hid E2'
      clear E2'
      go_upto_region 11 with (fail)
      refine wp_region_Hx (w0 := w) [0, 1, 2, 3] N rfl EX22.out ?_
      refine lexH_phase [0, 1] [2, 3] ?_
      have hw24 : EnvX w _ N := EX22.out
      have hone := @EnvC.one _ _ _ hw24
      (refine wpG_val (v := .pointer (some (ad.add (i * 2)))) rfl rfl (fun u hu => idxSlH_op (i := i) Tryd.underlying27 aggTx.size HI.out HAO.out u rfl rfl) ?_ hw24; intro K hK; go_big_quiet_op; go_big_quiet_on)
      (refine wpG_val (v := txV t) rfl rfl (fun u hu => load_any_op u (HLD.out u (EnvX.sub hu (fun _ h => by cases h))).1 rfl) ?_ hw24; intro K hK; go_big_quiet_op; go_big_quiet_on)
      clear hone hw24
      refine wpG_nil ?_
      refine (hOp_fresh (R := fun x N => ∃ g, x = .pointer (some ⟨g, 0, none⟩) ∧ N = [(g, Obj.cells (txA noTxM) 26 (0, 0))]) (M0 := N) rfl rfl (fun _ h => h) (fun u hu => FAt_new (new_tx _) u) ?_)
      rintro _ _ ⟨gx, rfl, rfl⟩ hf he25; intro K' hK'; go_big_quiet_op; go_big_quiet_on
      have HG6 := Lib.hid (hf _ (List.mem_singleton.2 rfl))
      clear hf
      change lexH _ _ _ _ _ _ ((gx, Obj.cells (txA noTxM) 26 (0, 0)) :: N)
      refine (hOp_store rfl (gx) (txA t) rfl rfl HG6.out.1 26 ((txA noTxM)) (List.Mem.head _) (infoTx _ (txA_size _)) ((txA_size _).trans (txA_size _).symm) (txA_one _) ((gx, Obj.cells (txA t) 26 (0, 0)) :: N) (List.forall_mem_cons.2 ⟨.inl rfl, fun y hy => .inr ⟨List.mem_cons_of_mem _ hy, HG6.out.2 y hy⟩⟩) ?_)
      intro he26
      intro u28 E2'
      have EX27 := Lib.hid E2'
      clear E2'
      rcases e2 with _ | e3
      case succ =>
        have C13 : Hid (decide (((e3 + 1 : Nat) : Int) ≠ 0) = true) := decide_eq_true (by omega)
        have HF2 : Hid ((applyP p (rsT l)).2 = e3 + 1) := by
          have h1 := run_stopO noTx HIL.out HRUN.out (by rw [HRG.out]; exact HS.out)
          show _ = _
          rw [apply_err HK.out (by rw [HRL.out]; have := HK2.out; omega) (by rw [HOT.out]; exact h1)]
        go_upto_region 12 with (fail)
        refine wp_region_Hx (w0 := w) [0, 1, 2, 3, 4, 5, 6, 7, 8, 9] ((gx, Obj.cells (txA t) 26 (0, 0)) :: N) rfl EX27.out ?_
        refine lexH_phase [0, 1] [2, 3, 4, 5, 6, 7, 8, 9] ?_
        have hw29 : EnvX w _ ((gx, Obj.cells (txA t) 26 (0, 0)) :: N) := EX27.out
        have hone := @EnvC.one _ _ _ hw29
        (refine wpG_op rfl rfl rfl ?_; intro K hK; go_big_quiet_op; go_big_quiet_on)
        (refine wpG_val (v := txV t) rfl rfl (fun u hu => load_any_op u (box_tx hu (List.Mem.head _)) rfl) ?_ hw29; intro K hK; go_big_quiet_op; go_big_quiet_on)
        clear hone hw29
        refine wpG_nil ?_
        refine (hOp_fresh (R := fun x N => ∃ v, x = .tuple #[v, .int .i64 m2, .int .i64 ((e3 + 1 : Nat) : Int)] ∧ (e3 + 1 = 0 → FreshR 50 35 q2.length (q2.map coC).flatten v N)) (M0 := ((gx, Obj.cells (txA t) 26 (0, 0)) :: N)) rfl rfl (fun _ h => h) (fun u hu => FAt_call (fid := 25) (xs := #[.tmp 45, .tmp 46]) (args := #[.slice A3 q.length c3, txV t]) rfl Tryd.func25 rfl rfl u ((callsS_fresh (HSD.out u _ hu (fun y hy => List.mem_cons_of_mem _ hy))).mono (fun _ _ ⟨x, N, k1, k2, k3⟩ => ⟨x, N, k1, HSN.out x N k2, k3⟩))) ?_)
        rintro _ N9 ⟨v9, rfl, hF⟩ hf he30; intro K' hK'; go_big_quiet_op; go_big_quiet_on
        have HF9 := Lib.hid (And.intro hF hf)
        clear hF
        clear hf
        change lexH _ _ _ _ _ _ (N9 ++ ((gx, Obj.cells (txA t) 26 (0, 0)) :: N))
        refine lexH_phase [3, 4, 5, 6, 7, 8, 9] [] ?_
        have hw31 : EnvX w _ (N9 ++ ((gx, Obj.cells (txA t) 26 (0, 0)) :: N)) := he30.choose_spec
        have hone := @EnvC.one _ _ _ hw31
        iterate 7 (refine wpG_op rfl rfl rfl ?_; intro K hK; go_big_quiet_op; go_big_quiet_on)
        clear hone hw31
        refine wpG_nil ?_
        intro u33 E2'
        have EX32 := Lib.hid E2'
        clear E2'
        go_upto_region 13 with (fail)
        refine wp_region_Hx (w0 := w) [0, 1] (N9 ++ ((gx, Obj.cells (txA t) 26 (0, 0)) :: N)) rfl EX32.out ?_
        refine lexH_phase [0, 1] [] ?_
        have hw34 : EnvX w _ (N9 ++ ((gx, Obj.cells (txA t) 26 (0, 0)) :: N)) := EX32.out
        have hone := @EnvC.one _ _ _ hw34
        (refine wpG_op rfl rfl rfl ?_; intro K hK; go_big_quiet_op; go_big_quiet_on)
        (refine wpG_val (v := .bool true) rfl rfl (fun u hu => neErr_op u C13.out rfl rfl) ?_ hw34; intro K hK; go_big_quiet_op; go_big_quiet_on)
        clear hone hw34
        refine wpG_nil ?_
        intro u36 E2'
        have EX35 := Lib.hid E2'
        clear E2'
        go_upto_region 14 with (fail)
        refine wp_region_Hx (w0 := w) [0, 1, 2] (N9 ++ ((gx, Obj.cells (txA t) 26 (0, 0)) :: N)) rfl EX35.out ?_
        refine lexH_phase [0, 1, 2] [] ?_
        have hw37 : EnvX w _ (N9 ++ ((gx, Obj.cells (txA t) 26 (0, 0)) :: N)) := EX35.out
        have hone := @EnvC.one _ _ _ hw37
        iterate 3 (refine wpG_op rfl rfl rfl ?_; intro K hK; go_big_quiet_op; go_big_quiet_on)
        clear hone hw37
        refine wpG_nil ?_
        intro u39 E2'
        have EX38 := Lib.hid E2'
        clear E2'
        have HBE := Lib.hid (EnvX.bel EX38.out)
        go_wp2
        go_returns
        exact ⟨ApE.mk (k := e3 + 1) (.slice none 0 0) HF2.out (fun h => absurd h (Nat.succ_ne_zero _)), HBE.out⟩
      have C13 : Hid (decide (((0 : Nat) : Int) ≠ 0) = false) := decide_eq_false (by omega)
      have hstp := run_stepO noTx HIL.out HRUN.out (by rw [HRG.out]; exact HS.out)
      have HSTP := Lib.hid hstp
      have hrb2 := run_bounds HK.out HPP.out hstp
      have HAD : Hid (IntKind.i64.wrap (50 + m + m2) = 50 + (m + m2)) := by show _ = _; rw [wrapS (by have := hrb2.2.2.1; have := hrb2.2.2.2.1; omega)]; omega
      clear hstp hrb2
      go_upto_region 12 with (fail)
      refine wp_region_Hx (w0 := w) [0, 1, 2, 3, 4, 5, 6, 7, 8, 9] ((gx, Obj.cells (txA t) 26 (0, 0)) :: N) rfl EX27.out ?_
      refine lexH_phase [0, 1] [2, 3, 4, 5, 6, 7, 8, 9] ?_
      have hw29 : EnvX w _ ((gx, Obj.cells (txA t) 26 (0, 0)) :: N) := EX27.out
      have hone := @EnvC.one _ _ _ hw29
      (refine wpG_op rfl rfl rfl ?_; intro K hK; go_big_quiet_op; go_big_quiet_on)
      (refine wpG_val (v := txV t) rfl rfl (fun u hu => load_any_op u (box_tx hu (List.Mem.head _)) rfl) ?_ hw29; intro K hK; go_big_quiet_op; go_big_quiet_on)
      clear hone hw29
      refine wpG_nil ?_
      refine (hOp_fresh (R := fun x N => ∃ v, x = .tuple #[v, .int .i64 m2, .int .i64 ((0 : Nat) : Int)] ∧ (0 = 0 → FreshR 50 35 q2.length (q2.map coC).flatten v N)) (M0 := ((gx, Obj.cells (txA t) 26 (0, 0)) :: N)) rfl rfl (fun _ h => h) (fun u hu => FAt_call (fid := 25) (xs := #[.tmp 45, .tmp 46]) (args := #[.slice A3 q.length c3, txV t]) rfl Tryd.func25 rfl rfl u ((callsS_fresh (HSD.out u _ hu (fun y hy => List.mem_cons_of_mem _ hy))).mono (fun _ _ ⟨x, N, k1, k2, k3⟩ => ⟨x, N, k1, HSN.out x N k2, k3⟩))) ?_)
      rintro _ N9 ⟨v9, rfl, hF⟩ hf he30; intro K' hK'; go_big_quiet_op; go_big_quiet_on
      have HF9 := Lib.hid (And.intro hF hf)
      clear hF
      clear hf
      change lexH _ _ _ _ _ _ (N9 ++ ((gx, Obj.cells (txA t) 26 (0, 0)) :: N))
      refine lexH_phase [3, 4, 5, 6, 7, 8, 9] [] ?_
      have hw31 : EnvX w _ (N9 ++ ((gx, Obj.cells (txA t) 26 (0, 0)) :: N)) := he30.choose_spec
      have hone := @EnvC.one _ _ _ hw31
      iterate 7 (refine wpG_op rfl rfl rfl ?_; intro K hK; go_big_quiet_op; go_big_quiet_on)
      clear hone hw31
      refine wpG_nil ?_
      intro u33 E2'
      have EX32 := Lib.hid E2'
      clear E2'
      go_upto_region 13 with (fail)
      refine wp_region_Hx (w0 := w) [0, 1] (N9 ++ ((gx, Obj.cells (txA t) 26 (0, 0)) :: N)) rfl EX32.out ?_
      refine lexH_phase [0, 1] [] ?_
      have hw34 : EnvX w _ (N9 ++ ((gx, Obj.cells (txA t) 26 (0, 0)) :: N)) := EX32.out
      have hone := @EnvC.one _ _ _ hw34
      (refine wpG_op rfl rfl rfl ?_; intro K hK; go_big_quiet_op; go_big_quiet_on)
      (refine wpG_val (v := .bool false) rfl rfl (fun u hu => neErr_op u C13.out rfl rfl) ?_ hw34; intro K hK; go_big_quiet_op; go_big_quiet_on)
      clear hone hw34
      refine wpG_nil ?_
      intro u36 E2'
      have EX35 := Lib.hid E2'
      clear E2'
      go_upto_region 15 with (fail)
      refine wp_region_Hx (w0 := w) [0, 1, 2, 3, 4, 5] (N9 ++ ((gx, Obj.cells (txA t) 26 (0, 0)) :: N)) rfl EX35.out ?_
      refine lexH_phase [0, 1, 2, 3, 4, 5] [] ?_
      have hw37 : EnvX w _ (N9 ++ ((gx, Obj.cells (txA t) 26 (0, 0)) :: N)) := EX35.out
      have hone := @EnvC.one _ _ _ hw37
      iterate 3 (refine wpG_op rfl rfl rfl ?_; intro K hK; go_big_quiet_op; go_big_quiet_on)
      (refine wpG_val (v := .int .i64 (50 + (m + m2))) rfl rfl (fun u hu => addZ_op u HAD.out rfl rfl) ?_ hw37; intro K hK; go_big_quiet_op; go_big_quiet_on)
      iterate 2 (refine wpG_op rfl rfl rfl ?_; intro K hK; go_big_quiet_op; go_big_quiet_on)
      clear hone hw37
      refine wpG_nil ?_
      intro u39 E2'
      have EX38 := Lib.hid E2'
      clear E2'
      have HNX : Hid (runP p 0 ((rsT l).take (i + 1)) = .ok (q2, (m + m2)) ∧ ∃ N, FreshR 50 35 q2.length (q2.map coC).flatten v9 N ∧ freshN w N [] ∧ EnvX w u39 N) := ⟨HSTP.out, N9, HF9.out.1 rfl, fun y hy => ⟨(HF9.out.2 y hy).1, fun z hz => by cases hz⟩, EnvX.sub EX38.out (fun y hy => List.mem_append_left _ hy)⟩
      have hii := HI.out
      have hn := HNO.out.1
      go_wp2
      go_roundw
      case rel => exact ⟨i + 1, q2, m + m2, by omega, by go_num, rfl, HNX⟩
      case measure => simp [intOf]; omega
    · have hino : i = n' := by omega
      have C10 : Hid (decide ((i : Int) < ((n' : Nat) : Int)) = false) := decide_eq_false (by omega)
      have HRA : Hid (runP p 0 (if loneX (rsT l) then (rsT l).tail else rsT l) = .ok (q, m)) := by
        have h := HRUN.out
        show _ = _
        rw [HOT.out]
        rwa [List.take_of_length_le (by unfold rsT; rw [List.length_map, HLN.out, hino]; exact Nat.le_refl _)] at h
      clear hlt hino
      go_upto_region 10 with (fail)
      refine wp_region_Hx (w0 := w) [0] N rfl EK.out ?_
      refine lexH_phase [0] [] ?_
      have hw501 : EnvX w _ N := EK.out
      have hone := @EnvC.one _ _ _ hw501
      (refine wpG_val (v := .bool false) rfl rfl (fun u hu => ltZ_op u C10.out rfl rfl) ?_ hw501; intro K hK; go_big_quiet_op; go_big_quiet_on)
      clear hone hw501
      refine wpG_nil ?_
      intro u503 E2'
      have EX502 := Lib.hid E2'
      clear E2'
      go_upto_region 17 with (fail)
      refine wp_region_Hx (w0 := w) [0, 1] N rfl EX502.out ?_
      refine lexH_phase [0, 1] [] ?_
      have hw504 : EnvX w _ N := EX502.out
      have hone := @EnvC.one _ _ _ hw504
      iterate 2 (refine wpG_op rfl rfl rfl ?_; intro K hK; go_big_quiet_op; go_big_quiet_on)
      clear hone hw504
      refine wpG_nil ?_
      intro u506 E2'
      have EX505 := Lib.hid E2'
      clear E2'
      have HAP : Hid (applyP p (rsT l) = (q, 0)) := apply_out HK.out (by rw [HRL.out]; have := HK2.out; omega) HRA.out HLO.out
      have HF2 : Hid ((applyP p (rsT l)).2 = 0) := by show _ = _; rw [HAP.out]
      go_upto_region 18 with (fail)
      refine wp_region_Hx (w0 := w) [0, 1, 2] N rfl EX505.out ?_
      refine lexH_phase [0, 1, 2] [] ?_
      have hw507 : EnvX w _ N := EX505.out
      have hone := @EnvC.one _ _ _ hw507
      iterate 3 (refine wpG_op rfl rfl rfl ?_; intro K hK; go_big_quiet_op; go_big_quiet_on)
      clear hone hw507
      refine wpG_nil ?_
      intro u509 E2'
      have EX508 := Lib.hid E2'
      clear E2'
      have HOW := Lib.hid (HF.out.own (w := u509) (B := w.heap.size) (FreshR.lenOf HF.out) (fun y hy => ⟨(HFR.out y hy).1, EnvX.box EX508.out _ _ hy⟩))
      have HBE := Lib.hid (EnvX.bel EX508.out)
      go_wp2
      go_returns
      exact ⟨ApE.mk (k := 0) (.slice A3 q.length c3) HF2.out (fun _ => by rw [HAP.out]; exact HOW.out), HBE.out⟩
set_option maxRecDepth 20000 in
set_option maxHeartbeats 16000000 in
theorem papply_mainB (p : List CoinR) (A : Option Addr) (n c : Nat) (l : List TxM) (A' : Option Addr) (n' c' : Nat) (w : World) (hl : p.length = n) (hnc : n ≤ c) (hcm : c ≤ maxLen) (hI : okP p) (hA : CoinsIn w w.heap.size A p) (hl' : l.length = n') (hnc' : n' ≤ c') (hcm' : c' ≤ maxLen) (hA' : TxsIn w A' l) (htt : Tables w) (k1 : mayP p = true) (k2 : ¬ 4 < n') (k3 : 0 < n') (k4 : loneX (rsT l) = false) :
    Calls Tryd.prog 32 #[.slice A n c, .slice A' n' c'] w fun e w' => ApE (applyP p (rsT l)) w' w.heap.size e ∧ Below w.heap.size w w' := by
  have HMY : Hid (∀ u, Below w.heap.size w u → Calls Tryd.prog 20 #[.slice A n c] u fun e w' => e = .returned (.bool (mayP p)) ∧ Below u.heap.size u w') := fun u hu => pmayP_any p A n c u hl hnc hcm hI (CellsIn.up hA hu)
  have HM63 : Hid (n' < 9223372036854775808) := by show _ < _; unfold maxLen at hcm'; omega
  have E1 : Hid (EnvX w w []) := EnvX.start w
  have D4 : Hid (decide ((4 : Int) < (n' : Int)) = false) := decide_eq_false (by omega)
  have HK := Lib.hid k1
  have HK2 : Hid (n' ≤ 4) := by show _ ≤ _; omega
  have HRL : Hid ((rsT l).length = n') := by show _ = _; unfold rsT; rw [List.length_map, hl']
  have HTT := Lib.hid htt
  have HL' := Lib.hid hl'
  have HTI := Lib.hid hA'
  have HPP := Lib.hid hI
  have HL := Lib.hid hl
  have HCLN : Hid (∀ u, Below w.heap.size w u → Calls Tryd.prog 26 #[.slice A n c] u fun e w' => (∃ v, e = .returned v ∧ w'.ownsRow u.heap.size 50 35 v n (p.map coC).flatten) ∧ Below u.heap.size u w') := fun u hu => pclone_any p A n c u hl (by have := (mayP_iff.1 k1).1; omega) hI (CellsIn.up hA hu)
  rw [k1] at HMY
  have HLO : Hid (loneX (rsT l) = false) := k4
  have C5 : Hid (decide ((0 : Int) < (n' : Int)) = true) := decide_eq_true (by omega)
  have HI0 : Hid (0 < n') := k3
  obtain ⟨ad0, hA0, -, hld0⟩ := hA'.loads (k := 0) (by rw [hl']; exact k3)
  have hA0' : A' = some ad0 := hA0
  subst hA0'
  have HLD0 := Lib.hid hld0
  have HL0 : Hid (∀ u, EnvX w u [] → (loadVar 23 ((ad0.add (0 * 2)).add 0)).run Tryd.prog u = .ok (.slice (l.getD 0 noTxM).A1 (l.getD 0 noTxM).n1 (l.getD 0 noTxM).c1) u) := fun u hu => by
    have h := (hld0 u hu).2.1
    rwa [show ((ad0.add (0 * 2)).add 0) = ad0.add (0 * 2) by unfold Addr.add; rfl]
  have ht0 : TxOk w (l.getD 0 noTxM) := hA'.get (i := 0) (by rw [hl']; exact k3)
  have HT0 := Lib.hid ht0
  have hrg0 : (rsT l).getD 0 noTx = (l.getD 0 noTxM).r := by
    unfold rsT
    rw [List.getD_eq_getElem?_getD, List.getElem?_map, List.getD_eq_getElem?_getD, List.getElem?_eq_getElem (show 0 < l.length by omega)]
    rfl
  have HRG0 := Lib.hid hrg0
  have HN0 : Hid ((l.getD 0 noTxM).n1 < 9223372036854775808) := ht0.n63.1
  have C9 : Hid (decide (((l.getD 0 noTxM).n1 : Int) = 0) = false) := by
    have hlg := lone_get (l := rsT l) noTx (by rw [HRL.out]; exact k3)
    rw [hrg0, k4] at hlg
    have h1 := ht0.l1
    show _ = _
    rw [hlg]
    refine decide_eq_decide.2 ⟨fun h => List.eq_nil_of_length_eq_zero (by rw [h1]; omega), fun h => ?_⟩
    have h2 : (l.getD 0 noTxM).n1 = 0 := by rw [← h1, h]; rfl
    omega
  generalize ht0g : l.getD 0 noTxM = tm0 at *
  have HTO : Hid (TxsIn w (some ad0) l) := hA'
  have HLN : Hid ((l).length = n') := by show _ = _; exact hl'
  have HNO : Hid (n' ≤ 4 ∧ n' < 9223372036854775808) := ⟨by omega, by omega⟩
  have HOT : Hid ((if loneX (rsT l) then (rsT l).tail else rsT l) = rsT l) := by
    show _ = _
    rw [HLO.out]
    rfl
  clear k1 k2 k3 k4 hl hnc hcm hI hA hl' hnc' hcm' hA' htt hA0 hld0 ht0 hrg0 ht0g
  go_enter Tryd.func32, Tryd.ntmps32
  go_upto_region 1 with (fail)
  refine wp_region_Hx (w0 := w) [0, 1, 2] [] rfl E1.out ?_
  refine lexH_phase [0, 1, 2] [] ?_
  have hw1 : EnvX w _ [] := E1.out
  have hone := @EnvC.one _ _ _ hw1
  (refine wpG_op rfl rfl rfl ?_; intro K hK; go_big_quiet_op; go_big_quiet_on)
  (refine wpG_call (f := 20) (args := #[.slice A n c]) (v := .bool true) rfl rfl rfl Tryd.func20 rfl rfl (fun u hu => HMY.out u (EnvX.bel hu)) ?_ hw1; intro K hK; go_big_quiet_op; go_big_quiet_on)
  (refine wpG_op rfl rfl rfl ?_; intro K hK; go_big_quiet_op; go_big_quiet_on)
  clear hone hw1
  refine wpG_nil ?_
  intro u3 E2'
  have EX2 := Lib.hid E2'
  clear E2'
  go_upto_region 3 with (fail)
  refine wp_region_Hx (w0 := w) [0, 1, 2] [] rfl EX2.out ?_
  refine lexH_phase [0, 1, 2] [] ?_
  have hw4 : EnvX w _ [] := EX2.out
  have hone := @EnvC.one _ _ _ hw4
  (refine wpG_op rfl rfl rfl ?_; intro K hK; go_big_quiet_op; go_big_quiet_on)
  (refine wpG_val (v := (.int .i64 (n' : Int))) rfl rfl (fun u hu => len_op Tryd.underlying27 HM63.out u rfl) ?_ hw4; intro K hK; go_big_quiet_op; go_big_quiet_on)
  (refine wpG_val (v := .bool false) rfl rfl (fun u hu => gtZ_op u D4.out rfl rfl) ?_ hw4; intro K hK; go_big_quiet_op; go_big_quiet_on)
  clear hone hw4
  refine wpG_nil ?_
  intro u6 E2'
  have EX5 := Lib.hid E2'
  clear E2'
  go_upto_region 5 with (fail)
  refine wp_region_Hx (w0 := w) [0, 1, 2, 3, 4, 5, 6, 7, 8, 9, 10, 11, 12, 13] [] rfl EX5.out ?_
  refine lexH_phase [0, 1, 2, 3, 4, 5, 6, 7, 8, 9, 10, 11, 12, 13] [] ?_
  have hw7 : EnvX w _ [] := EX5.out
  have hone := @EnvC.one _ _ _ hw7
  (refine wpG_op rfl rfl rfl ?_; intro K hK; go_big_quiet_op; go_big_quiet_on)
  (refine wpG_val (v := (.int .i64 (n' : Int))) rfl rfl (fun u hu => len_op Tryd.underlying27 HM63.out u rfl) ?_ hw7; intro K hK; go_big_quiet_op; go_big_quiet_on)
  (refine wpG_val (v := .bool true) rfl rfl (fun u hu => gtZ_op u C5.out rfl rfl) ?_ hw7; intro K hK; go_big_quiet_op; go_big_quiet_on)
  iterate 2 (refine wpG_op rfl rfl rfl ?_; intro K hK; go_big_quiet_op; go_big_quiet_on)
  (refine wpG_val (v := .pointer (some (ad0.add (0 * 2)))) rfl rfl (fun u hu => idxSl_op (i := 0) Tryd.underlying27 aggTx.size HI0.out u rfl rfl) ?_ hw7; intro K hK; go_big_quiet_op; go_big_quiet_on)
  (refine wpG_val (v := .pointer (some ((ad0.add (0 * 2)).add 0))) rfl rfl (fun u hu => fieldTx_op (k := 0) (off := 0) rfl u rfl) ?_ hw7; intro K hK; go_big_quiet_op; go_big_quiet_on)
  (refine wpG_val (v := .slice tm0.A1 tm0.n1 tm0.c1) rfl rfl (fun u hu => load_any_op u (HL0.out u (EnvX.sub hu (fun _ h => by cases h))) rfl) ?_ hw7; intro K hK; go_big_quiet_op; go_big_quiet_on)
  (refine wpG_val (v := .int .i64 (tm0.n1 : Int)) rfl rfl (fun u hu => len_op Tryd.underlying23 HN0.out u rfl) ?_ hw7; intro K hK; go_big_quiet_op; go_big_quiet_on)
  (refine wpG_val (v := .bool false) rfl rfl (fun u hu => eqlI_op u C9.out rfl rfl) ?_ hw7; intro K hK; go_big_quiet_op; go_big_quiet_on)
  iterate 4 (refine wpG_op rfl rfl rfl ?_; intro K hK; go_big_quiet_op; go_big_quiet_on)
  clear hone hw7
  refine wpG_nil ?_
  intro u9 E2'
  have EX8 := Lib.hid E2'
  clear E2'
  go_upto_region 6 with (fail)
  refine wp_region_Hx (w0 := w) [0] [] rfl EX8.out ?_
  refine lexH_phase [0] [] ?_
  have hw10 : EnvX w _ [] := EX8.out
  have hone := @EnvC.one _ _ _ hw10
  (refine wpG_op rfl rfl rfl ?_; intro K hK; go_big_quiet_op; go_big_quiet_on)
  clear hone hw10
  refine wpG_nil ?_
  intro u12 E2'
  have EX11 := Lib.hid E2'
  clear E2'
  go_upto_region 8 with (fail)
  refine wp_region_Hx (w0 := w) [0, 1, 2, 3] [] rfl EX11.out ?_
  refine lexH_phase [0] [1, 2, 3] ?_
  have hw13 : EnvX w _ [] := EX11.out
  have hone := @EnvC.one _ _ _ hw13
  (refine wpG_op rfl rfl rfl ?_; intro K hK; go_big_quiet_op; go_big_quiet_on)
  clear hone hw13
  refine wpG_nil ?_
  refine (hOp_fresh (R := FreshR 50 35 n (p.map coC).flatten) (M0 := []) rfl rfl (fun _ h => h) (fun u hu => FAt_call (fid := 26) (xs := #[.tmp 36]) (args := #[.slice A n c]) rfl Tryd.func26 rfl rfl u (callsR_fresh (HCLN.out u (EnvX.bel hu)))) ?_)
  rintro x0 N0 hF hf he14; intro K' hK'; go_big_quiet_op; go_big_quiet_on
  have HF0 := Lib.hid (And.intro hF hf)
  clear hF
  clear hf
  change lexH _ _ _ _ _ _ (N0 ++ [])
  rw [List.append_nil] at he14 ⊢
  refine lexH_phase [2, 3] [] ?_
  have hw15 : EnvX w _ N0 := he14.choose_spec
  have hone := @EnvC.one _ _ _ hw15
  iterate 2 (refine wpG_op rfl rfl rfl ?_; intro K hK; go_big_quiet_op; go_big_quiet_on)
  clear hone hw15
  refine wpG_nil ?_
  intro u17 E2'
  have EX16 := Lib.hid E2'
  clear E2'
  go_upto_region 9 with (fail)
  refine wp_region_Hx (w0 := w) [0, 1, 2] N0 rfl EX16.out ?_
  refine lexH_phase [0, 1, 2] [] ?_
  have hw18 : EnvX w _ N0 := EX16.out
  have hone := @EnvC.one _ _ _ hw18
  (refine wpG_op rfl rfl rfl ?_; intro K hK; go_big_quiet_op; go_big_quiet_on)
  (refine wpG_val (v := .int .i64 ((n' : Nat) : Int)) rfl rfl (fun u hu => len_op Tryd.underlying27 HNO.out.2 u rfl) ?_ hw18; intro K hK; go_big_quiet_op; go_big_quiet_on)
  (refine wpG_op rfl rfl rfl ?_; intro K hK; go_big_quiet_op; go_big_quiet_on)
  clear hone hw18
  refine wpG_nil ?_
  intro u20 E2'
  have EX19 := Lib.hid E2'
  clear E2'
  have HINV : Hid (runP p 0 ((rsT l).take 0) = .ok (p, 0) ∧ ∃ N, FreshR 50 35 p.length (p.map coC).flatten x0 N ∧ freshN w N [] ∧ EnvX w u20 N) := by
    refine ⟨rfl, N0, ?_, HF0.out.2, EX19.out⟩
    rw [HL.out]
    exact HF0.out.1
  clear EX19 E1 HF0
  go_upto_region 10 with (fail)
  go_loopw [8, 9, 40] (fun nv mv iv u => ∃ (i : Nat) (q : List CoinR) (m : Int), i ≤ n' ∧ iv = .int .i64 (i : Int) ∧ mv = .int .i64 (50 + m) ∧ Hid (runP p 0 ((rsT l).take i) = .ok (q, m) ∧ ∃ N, FreshR 50 35 q.length (q.map coC).flatten nv N ∧ freshN w N [] ∧ EnvX w u N)) (fun _ _ iv _ => n' - (intOf iv).toNat)
  case atStart => exact ⟨0, p, 0, by omega, rfl, rfl, HINV⟩
  case round =>
    obtain ⟨i, q, m, hi, rfl, rfl, hinv⟩ := hrel
    obtain ⟨hrun, N, hF, hfr, hE⟩ := hinv.out
    have EK := Lib.hid hE
    have HRUN := Lib.hid hrun
    have HRB := Lib.hid (run_bounds HK.out HPP.out hrun)
    have HF := Lib.hid hF
    have HFR := Lib.hid hfr
    obtain ⟨A3, c3, rfl, hc1, hc2⟩ := FreshR.formC HF.out
    have HC3 := Lib.hid (And.intro hc1 hc2)
    have HCO : Hid (∀ u M, EnvX w u M → (∀ y ∈ N, y ∈ M) → CoinsIn u u.heap.size A3 q) := fun u M hu hm => own_cells (HF.out.own (w := u) (B := 0) (FreshR.lenOf HF.out) (fun y hy => ⟨Nat.zero_le _, hu.box _ _ (hm y hy)⟩))
    clear hinv HINV hrun hF hfr hE hc1 hc2
    by_cases hlt : i < n'
    · have C10 : Hid (decide ((i : Int) < ((n' : Nat) : Int)) = true) := decide_eq_true (by omega)
      have HI : Hid (i < n') := hlt
      have hil : i < (l).length := by rw [HLN.out]; exact hlt
      have HIL : Hid (i < (rsT l).length) := by show _ < _; unfold rsT; rw [List.length_map]; exact hil
      obtain ⟨ad, hAO, -, hld⟩ := HTO.out.loads hil
      have HAO : Hid ((some ad0) = some ad) := hAO
      have HLD := Lib.hid hld
      have HTX : Hid (TxOk w ((l).getD i noTxM)) := HTO.out.get hil
      have hrg : (rsT l).getD i noTx = ((l).getD i noTxM).r := by
        unfold rsT
        rw [List.getD_eq_getElem?_getD, List.getElem?_map, List.getD_eq_getElem?_getD, List.getElem?_eq_getElem hil]
        rfl
      obtain ⟨t, ht⟩ : ∃ t, (l).getD i noTxM = t := ⟨_, rfl⟩
      rw [ht] at HLD HTX hrg
      have HRG := Lib.hid hrg
      have HSD : Hid (∀ u M, EnvX w u M → (∀ y ∈ N, y ∈ M) → Calls Tryd.prog 25 #[.slice A3 q.length c3, txV t] u fun e w' => SpE q t.r w' u.heap.size e ∧ Below u.heap.size u w') := fun u M hu hm => by
        obtain ⟨r, B1, m1, d1, B2, m2, d2⟩ := t
        exact pspend_any q A3 q.length c3 r B1 m1 d1 B2 m2 d2 u rfl HC3.out.1 HC3.out.2 HRB.out.1 (HCO.out u M hu hm) (HTX.out.up (EnvX.bel hu)) (HTT.out.below (EnvX.bel hu))
      have HSN : Hid (∀ x N, SpN q t.r x N → ∃ v, x = .tuple #[v, .int .i64 (spendP q t.r).2.1, .int .i64 ((spendP q t.r).2.2 : Int)] ∧ ((spendP q t.r).2.2 = 0 → FreshR 50 35 (spendP q t.r).1.length (((spendP q t.r).1).map coC).flatten v N)) := fun x N h => h
      rcases hs : spendP q t.r with ⟨q2, m2, e2⟩
      rw [hs] at HSN
      simp only at HSN
      have HS := Lib.hid hs
      clear hlt hil hAO hld hrg ht hs
      go_upto_region 10 with (fail)
      refine wp_region_Hx (w0 := w) [0] N rfl EK.out ?_
      refine lexH_phase [0] [] ?_
      have hw21 : EnvX w _ N := EK.out
      have hone := @EnvC.one _ _ _ hw21
      (refine wpG_val (v := .bool true) rfl rfl (fun u hu => ltZ_op u C10.out rfl rfl) ?_ hw21; intro K hK; go_big_quiet_op; go_big_quiet_on)
      clear hone hw21
      refine wpG_nil ?_
      intro u23 E2'
      have EX22 := Lib.hid E2'
      clear E2'
      go_upto_region 11 with (fail)
      refine wp_region_Hx (w0 := w) [0, 1, 2, 3] N rfl EX22.out ?_
      refine lexH_phase [0, 1] [2, 3] ?_
      have hw24 : EnvX w _ N := EX22.out
      have hone := @EnvC.one _ _ _ hw24
      (refine wpG_val (v := .pointer (some (ad.add (i * 2)))) rfl rfl (fun u hu => idxSlH_op (i := i) Tryd.underlying27 aggTx.size HI.out HAO.out u rfl rfl) ?_ hw24; intro K hK; go_big_quiet_op; go_big_quiet_on)
      (refine wpG_val (v := txV t) rfl rfl (fun u hu => load_any_op u (HLD.out u (EnvX.sub hu (fun _ h => by cases h))).1 rfl) ?_ hw24; intro K hK; go_big_quiet_op; go_big_quiet_on)
      clear hone hw24
      refine wpG_nil ?_
      refine (hOp_fresh (R := fun x N => ∃ g, x = .pointer (some ⟨g, 0, none⟩) ∧ N = [(g, Obj.cells (txA noTxM) 26 (0, 0))]) (M0 := N) rfl rfl (fun _ h => h) (fun u hu => FAt_new (new_tx _) u) ?_)
      rintro _ _ ⟨gx, rfl, rfl⟩ hf he25; intro K' hK'; go_big_quiet_op; go_big_quiet_on
      have HG6 := Lib.hid (hf _ (List.mem_singleton.2 rfl))
      clear hf
      change lexH _ _ _ _ _ _ ((gx, Obj.cells (txA noTxM) 26 (0, 0)) :: N)
      refine (hOp_store rfl (gx) (txA t) rfl rfl HG6.out.1 26 ((txA noTxM)) (List.Mem.head _) (infoTx _ (txA_size _)) ((txA_size _).trans (txA_size _).symm) (txA_one _) ((gx, Obj.cells (txA t) 26 (0, 0)) :: N) (List.forall_mem_cons.2 ⟨.inl rfl, fun y hy => .inr ⟨List.mem_cons_of_mem _ hy, HG6.out.2 y hy⟩⟩) ?_)
      intro he26
      intro u28 E2'
      have EX27 := Lib.hid E2'
      clear E2'
      rcases e2 with _ | e3
      case succ =>
        have C13 : Hid (decide (((e3 + 1 : Nat) : Int) ≠ 0) = true) := decide_eq_true (by omega)
        have HF2 : Hid ((applyP p (rsT l)).2 = e3 + 1) := by
          have h1 := run_stopO noTx HIL.out HRUN.out (by rw [HRG.out]; exact HS.out)
          show _ = _
          rw [apply_err HK.out (by rw [HRL.out]; have := HK2.out; omega) (by rw [HOT.out]; exact h1)]
        go_upto_region 12 with (fail)
        refine wp_region_Hx (w0 := w) [0, 1, 2, 3, 4, 5, 6, 7, 8, 9] ((gx, Obj.cells (txA t) 26 (0, 0)) :: N) rfl EX27.out ?_
        refine lexH_phase [0, 1] [2, 3, 4, 5, 6, 7, 8, 9] ?_
        have hw29 : EnvX w _ ((gx, Obj.cells (txA t) 26 (0, 0)) :: N) := EX27.out
        have hone := @EnvC.one _ _ _ hw29
        (refine wpG_op rfl rfl rfl ?_; intro K hK; go_big_quiet_op; go_big_quiet_on)
        (refine wpG_val (v := txV t) rfl rfl (fun u hu => load_any_op u (box_tx hu (List.Mem.head _)) rfl) ?_ hw29; intro K hK; go_big_quiet_op; go_big_quiet_on)
        clear hone hw29
        refine wpG_nil ?_
        refine (hOp_fresh (R := fun x N => ∃ v, x = .tuple #[v, .int .i64 m2, .int .i64 ((e3 + 1 : Nat) : Int)] ∧ (e3 + 1 = 0 → FreshR 50 35 q2.length (q2.map coC).flatten v N)) (M0 := ((gx, Obj.cells (txA t) 26 (0, 0)) :: N)) rfl rfl (fun _ h => h) (fun u hu => FAt_call (fid := 25) (xs := #[.tmp 45, .tmp 46]) (args := #[.slice A3 q.length c3, txV t]) rfl Tryd.func25 rfl rfl u ((callsS_fresh (HSD.out u _ hu (fun y hy => List.mem_cons_of_mem _ hy))).mono (fun _ _ ⟨x, N, k1, k2, k3⟩ => ⟨x, N, k1, HSN.out x N k2, k3⟩))) ?_)
        rintro _ N9 ⟨v9, rfl, hF⟩ hf he30; intro K' hK'; go_big_quiet_op; go_big_quiet_on
        have HF9 := Lib.hid (And.intro hF hf)
        clear hF
        clear hf
        change lexH _ _ _ _ _ _ (N9 ++ ((gx, Obj.cells (txA t) 26 (0, 0)) :: N))
        refine lexH_phase [3, 4, 5, 6, 7, 8, 9] [] ?_
        have hw31 : EnvX w _ (N9 ++ ((gx, Obj.cells (txA t) 26 (0, 0)) :: N)) := he30.choose_spec
        have hone := @EnvC.one _ _ _ hw31
        iterate 7 (refine wpG_op rfl rfl rfl ?_; intro K hK; go_big_quiet_op; go_big_quiet_on)
        clear hone hw31
        refine wpG_nil ?_
        intro u33 E2'
        have EX32 := Lib.hid E2'
        clear E2'
        go_upto_region 13 with (fail)
        refine wp_region_Hx (w0 := w) [0, 1] (N9 ++ ((gx, Obj.cells (txA t) 26 (0, 0)) :: N)) rfl EX32.out ?_
        refine lexH_phase [0, 1] [] ?_
        have hw34 : EnvX w _ (N9 ++ ((gx, Obj.cells (txA t) 26 (0, 0)) :: N)) := EX32.out
        have hone := @EnvC.one _ _ _ hw34
        (refine wpG_op rfl rfl rfl ?_; intro K hK; go_big_quiet_op; go_big_quiet_on)
        (refine wpG_val (v := .bool true) rfl rfl (fun u hu => neErr_op u C13.out rfl rfl) ?_ hw34; intro K hK; go_big_quiet_op; go_big_quiet_on)
        clear hone hw34
        refine wpG_nil ?_
        intro u36 E2'
        have EX35 := Lib.hid E2'
        clear E2'
        go_upto_region 14 with (fail)
        refine wp_region_Hx (w0 := w) [0, 1, 2] (N9 ++ ((gx, Obj.cells (txA t) 26 (0, 0)) :: N)) rfl EX35.out ?_
        refine lexH_phase [0, 1, 2] [] ?_
        have hw37 : EnvX w _ (N9 ++ ((gx, Obj.cells (txA t) 26 (0, 0)) :: N)) := EX35.out
        have hone := @EnvC.one _ _ _ hw37
        iterate 3 (refine wpG_op rfl rfl rfl ?_; intro K hK; go_big_quiet_op; go_big_quiet_on)
        clear hone hw37
        refine wpG_nil ?_
        intro u39 E2'
        have EX38 := Lib.hid E2'
        clear E2'
        have HBE := Lib.hid (EnvX.bel EX38.out)
        go_wp2
        go_returns
        exact ⟨ApE.mk (k := e3 + 1) (.slice none 0 0) HF2.out (fun h => absurd h (Nat.succ_ne_zero _)), HBE.out⟩
      have C13 : Hid (decide (((0 : Nat) : Int) ≠ 0) = false) := decide_eq_false (by omega)
      have hstp := run_stepO noTx HIL.out HRUN.out (by rw [HRG.out]; exact HS.out)
      have HSTP := Lib.hid hstp
      have hrb2 := run_bounds HK.out HPP.out hstp
      have HAD : Hid (IntKind.i64.wrap (50 + m + m2) = 50 + (m + m2)) := by show _ = _; rw [wrapS (by have := hrb2.2.2.1; have := hrb2.2.2.2.1; omega)]; omega
      clear hstp hrb2
      go_upto_region 12 with (fail)
      refine wp_region_Hx (w0 := w) [0, 1, 2, 3, 4, 5, 6, 7, 8, 9] ((gx, Obj.cells (txA t) 26 (0, 0)) :: N) rfl EX27.out ?_
      refine lexH_phase [0, 1] [2, 3, 4, 5, 6, 7, 8, 9] ?_
      have hw29 : EnvX w _ ((gx, Obj.cells (txA t) 26 (0, 0)) :: N) := EX27.out
      have hone := @EnvC.one _ _ _ hw29
      (refine wpG_op rfl rfl rfl ?_; intro K hK; go_big_quiet_op; go_big_quiet_on)
      (refine wpG_val (v := txV t) rfl rfl (fun u hu => load_any_op u (box_tx hu (List.Mem.head _)) rfl) ?_ hw29; intro K hK; go_big_quiet_op; go_big_quiet_on)
      clear hone hw29
      refine wpG_nil ?_
      refine (hOp_fresh (R := fun x N => ∃ v, x = .tuple #[v, .int .i64 m2, .int .i64 ((0 : Nat) : Int)] ∧ (0 = 0 → FreshR 50 35 q2.length (q2.map coC).flatten v N)) (M0 := ((gx, Obj.cells (txA t) 26 (0, 0)) :: N)) rfl rfl (fun _ h => h) (fun u hu => FAt_call (fid := 25) (xs := #[.tmp 45, .tmp 46]) (args := #[.slice A3 q.length c3, txV t]) rfl Tryd.func25 rfl rfl u ((callsS_fresh (HSD.out u _ hu (fun y hy => List.mem_cons_of_mem _ hy))).mono (fun _ _ ⟨x, N, k1, k2, k3⟩ => ⟨x, N, k1, HSN.out x N k2, k3⟩))) ?_)
      rintro _ N9 ⟨v9, rfl, hF⟩ hf he30; intro K' hK'; go_big_quiet_op; go_big_quiet_on
      have HF9 := Lib.hid (And.intro hF hf)
      clear hF
      clear hf
      change lexH _ _ _ _ _ _ (N9 ++ ((gx, Obj.cells (txA t) 26 (0, 0)) :: N))
      refine lexH_phase [3, 4, 5, 6, 7, 8, 9] [] ?_
      have hw31 : EnvX w _ (N9 ++ ((gx, Obj.cells (txA t) 26 (0, 0)) :: N)) := he30.choose_spec
      have hone := @EnvC.one _ _ _ hw31
      iterate 7 (refine wpG_op rfl rfl rfl ?_; intro K hK; go_big_quiet_op; go_big_quiet_on)
      clear hone hw31
      refine wpG_nil ?_
      intro u33 E2'
      have EX32 := Lib.hid E2'
      clear E2'
      go_upto_region 13 with (fail)
      refine wp_region_Hx (w0 := w) [0, 1] (N9 ++ ((gx, Obj.cells (txA t) 26 (0, 0)) :: N)) rfl EX32.out ?_
      refine lexH_phase [0, 1] [] ?_
      have hw34 : EnvX w _ (N9 ++ ((gx, Obj.cells (txA t) 26 (0, 0)) :: N)) := EX32.out
      have hone := @EnvC.one _ _ _ hw34
      (refine wpG_op rfl rfl rfl ?_; intro K hK; go_big_quiet_op; go_big_quiet_on)
      (refine wpG_val (v := .bool false) rfl rfl (fun u hu => neErr_op u C13.out rfl rfl) ?_ hw34; intro K hK; go_big_quiet_op; go_big_quiet_on)
      clear hone hw34
      refine wpG_nil ?_
      intro u36 E2'
      have EX35 := Lib.hid E2'
      clear E2'
      go_upto_region 15 with (fail)
      refine wp_region_Hx (w0 := w) [0, 1, 2, 3, 4, 5] (N9 ++ ((gx, Obj.cells (txA t) 26 (0, 0)) :: N)) rfl EX35.out ?_
      refine lexH_phase [0, 1, 2, 3, 4, 5] [] ?_
      have hw37 : EnvX w _ (N9 ++ ((gx, Obj.cells (txA t) 26 (0, 0)) :: N)) := EX35.out
      have hone := @EnvC.one _ _ _ hw37
      iterate 3 (refine wpG_op rfl rfl rfl ?_; intro K hK; go_big_quiet_op; go_big_quiet_on)
      (refine wpG_val (v := .int .i64 (50 + (m + m2))) rfl rfl (fun u hu => addZ_op u HAD.out rfl rfl) ?_ hw37; intro K hK; go_big_quiet_op; go_big_quiet_on)
      iterate 2 (refine wpG_op rfl rfl rfl ?_; intro K hK; go_big_quiet_op; go_big_quiet_on)
      clear hone hw37
      refine wpG_nil ?_
      intro u39 E2'
      have EX38 := Lib.hid E2'
      clear E2'
      have HNX : Hid (runP p 0 ((rsT l).take (i + 1)) = .ok (q2, (m + m2)) ∧ ∃ N, FreshR 50 35 q2.length (q2.map coC).flatten v9 N ∧ freshN w N [] ∧ EnvX w u39 N) := ⟨HSTP.out, N9, HF9.out.1 rfl, fun y hy => ⟨(HF9.out.2 y hy).1, fun z hz => by cases hz⟩, EnvX.sub EX38.out (fun y hy => List.mem_append_left _ hy)⟩
      have hii := HI.out
      have hn := HNO.out.1
      go_wp2
      go_roundw
      case rel => exact ⟨i + 1, q2, m + m2, by omega, by go_num, rfl, HNX⟩
      case measure => simp [intOf]; omega
    · have hino : i = n' := by omega
      have C10 : Hid (decide ((i : Int) < ((n' : Nat) : Int)) = false) := decide_eq_false (by omega)
      have HRA : Hid (runP p 0 (if loneX (rsT l) then (rsT l).tail else rsT l) = .ok (q, m)) := by
        have h := HRUN.out
        show _ = _
        rw [HOT.out]
        rwa [List.take_of_length_le (by unfold rsT; rw [List.length_map, HLN.out, hino]; exact Nat.le_refl _)] at h
      clear hlt hino
      go_upto_region 10 with (fail)
      refine wp_region_Hx (w0 := w) [0] N rfl EK.out ?_
      refine lexH_phase [0] [] ?_
      have hw501 : EnvX w _ N := EK.out
      have hone := @EnvC.one _ _ _ hw501
      (refine wpG_val (v := .bool false) rfl rfl (fun u hu => ltZ_op u C10.out rfl rfl) ?_ hw501; intro K hK; go_big_quiet_op; go_big_quiet_on)
      clear hone hw501
      refine wpG_nil ?_
      intro u503 E2'
      have EX502 := Lib.hid E2'
      clear E2'
      go_upto_region 17 with (fail)
      refine wp_region_Hx (w0 := w) [0, 1] N rfl EX502.out ?_
      refine lexH_phase [0, 1] [] ?_
      have hw504 : EnvX w _ N := EX502.out
      have hone := @EnvC.one _ _ _ hw504
      iterate 2 (refine wpG_op rfl rfl rfl ?_; intro K hK; go_big_quiet_op; go_big_quiet_on)
      clear hone hw504
      refine wpG_nil ?_
      intro u506 E2'
      have EX505 := Lib.hid E2'
      clear E2'
      have HAP : Hid (applyP p (rsT l) = (q, 0)) := apply_out HK.out (by rw [HRL.out]; have := HK2.out; omega) HRA.out HLO.out
      have HF2 : Hid ((applyP p (rsT l)).2 = 0) := by show _ = _; rw [HAP.out]
      go_upto_region 18 with (fail)
      refine wp_region_Hx (w0 := w) [0, 1, 2] N rfl EX505.out ?_
      refine lexH_phase [0, 1, 2] [] ?_
      have hw507 : EnvX w _ N := EX505.out
      have hone := @EnvC.one _ _ _ hw507
      iterate 3 (refine wpG_op rfl rfl rfl ?_; intro K hK; go_big_quiet_op; go_big_quiet_on)
      clear hone hw507
      refine wpG_nil ?_
      intro u509 E2'
      have EX508 := Lib.hid E2'
      clear E2'
      have HOW := Lib.hid (HF.out.own (w := u509) (B := w.heap.size) (FreshR.lenOf HF.out) (fun y hy => ⟨(HFR.out y hy).1, EnvX.box EX508.out _ _ hy⟩))
      have HBE := Lib.hid (EnvX.bel EX508.out)
      go_wp2
      go_returns
      exact ⟨ApE.mk (k := 0) (.slice A3 q.length c3) HF2.out (fun _ => by rw [HAP.out]; exact HOW.out), HBE.out⟩
set_option maxRecDepth 20000 in
set_option maxHeartbeats 16000000 in
theorem papply_mainC (p : List CoinR) (A : Option Addr) (n c : Nat) (l : List TxM) (A' : Option Addr) (n' c' : Nat) (w : World) (hl : p.length = n) (hnc : n ≤ c) (hcm : c ≤ maxLen) (hI : okP p) (hA : CoinsIn w w.heap.size A p) (hl' : l.length = n') (hnc' : n' ≤ c') (hcm' : c' ≤ maxLen) (hA' : TxsIn w A' l) (htt : Tables w) (k1 : mayP p = true) (k2 : ¬ 4 < n') (k3 : 0 < n') (k4 : loneX (rsT l) = true) :
    Calls Tryd.prog 32 #[.slice A n c, .slice A' n' c'] w fun e w' => ApE (applyP p (rsT l)) w' w.heap.size e ∧ Below w.heap.size w w' := by
  have HMY : Hid (∀ u, Below w.heap.size w u → Calls Tryd.prog 20 #[.slice A n c] u fun e w' => e = .returned (.bool (mayP p)) ∧ Below u.heap.size u w') := fun u hu => pmayP_any p A n c u hl hnc hcm hI (CellsIn.up hA hu)
  have HM63 : Hid (n' < 9223372036854775808) := by show _ < _; unfold maxLen at hcm'; omega
  have E1 : Hid (EnvX w w []) := EnvX.start w
  have D4 : Hid (decide ((4 : Int) < (n' : Int)) = false) := decide_eq_false (by omega)
  have HK := Lib.hid k1
  have HK2 : Hid (n' ≤ 4) := by show _ ≤ _; omega
  have HRL : Hid ((rsT l).length = n') := by show _ = _; unfold rsT; rw [List.length_map, hl']
  have HTT := Lib.hid htt
  have HL' := Lib.hid hl'
  have HTI := Lib.hid hA'
  have HPP := Lib.hid hI
  have HL := Lib.hid hl
  have HCLN : Hid (∀ u, Below w.heap.size w u → Calls Tryd.prog 26 #[.slice A n c] u fun e w' => (∃ v, e = .returned v ∧ w'.ownsRow u.heap.size 50 35 v n (p.map coC).flatten) ∧ Below u.heap.size u w') := fun u hu => pclone_any p A n c u hl (by have := (mayP_iff.1 k1).1; omega) hI (CellsIn.up hA hu)
  rw [k1] at HMY
  have HLO : Hid (loneX (rsT l) = true) := k4
  have C5 : Hid (decide ((0 : Int) < (n' : Int)) = true) := decide_eq_true (by omega)
  have HI0 : Hid (0 < n') := k3
  obtain ⟨ad0, hA0, -, hld0⟩ := hA'.loads (k := 0) (by rw [hl']; exact k3)
  have hA0' : A' = some ad0 := hA0
  subst hA0'
  have HLD0 := Lib.hid hld0
  have HL0 : Hid (∀ u, EnvX w u [] → (loadVar 23 ((ad0.add (0 * 2)).add 0)).run Tryd.prog u = .ok (.slice (l.getD 0 noTxM).A1 (l.getD 0 noTxM).n1 (l.getD 0 noTxM).c1) u) := fun u hu => by
    have h := (hld0 u hu).2.1
    rwa [show ((ad0.add (0 * 2)).add 0) = ad0.add (0 * 2) by unfold Addr.add; rfl]
  have ht0 : TxOk w (l.getD 0 noTxM) := hA'.get (i := 0) (by rw [hl']; exact k3)
  have HT0 := Lib.hid ht0
  have hrg0 : (rsT l).getD 0 noTx = (l.getD 0 noTxM).r := by
    unfold rsT
    rw [List.getD_eq_getElem?_getD, List.getElem?_map, List.getD_eq_getElem?_getD, List.getElem?_eq_getElem (show 0 < l.length by omega)]
    rfl
  have HRG0 := Lib.hid hrg0
  have HN0 : Hid ((l.getD 0 noTxM).n1 < 9223372036854775808) := ht0.n63.1
  have C9 : Hid (decide (((l.getD 0 noTxM).n1 : Int) = 0) = true) := by
    have hlg := lone_get (l := rsT l) noTx (by rw [HRL.out]; exact k3)
    rw [hrg0, k4] at hlg
    have h1 := ht0.l1
    show _ = _
    rw [hlg]
    refine decide_eq_decide.2 ⟨fun h => List.eq_nil_of_length_eq_zero (by rw [h1]; omega), fun h => ?_⟩
    have h2 : (l.getD 0 noTxM).n1 = 0 := by rw [← h1, h]; rfl
    omega
  generalize ht0g : l.getD 0 noTxM = tm0 at *
  have HTO : Hid (TxsIn w (cutX 2 (some ad0) 1 c') l.tail) := hA'.tail (by rw [hl']; exact hnc') (by rw [hl']; exact k3)
  have HN1L : Hid (1 ≤ n') := k3
  have HLN : Hid ((l.tail).length = (n' - 1)) := by show _ = _; rw [List.length_tail, hl']
  have HNO : Hid ((n' - 1) ≤ 4 ∧ (n' - 1) < 9223372036854775808) := ⟨by omega, by omega⟩
  have HOT : Hid ((if loneX (rsT l) then (rsT l).tail else rsT l) = rsT l.tail) := by
    show _ = _
    rw [HLO.out]
    unfold rsT
    simp [List.map_tail]
  clear k1 k2 k3 k4 hl hnc hcm hI hA hl' hnc' hcm' hA' htt hA0 hld0 ht0 hrg0 ht0g
  go_enter Tryd.func32, Tryd.ntmps32
  go_upto_region 1 with (fail)
  refine wp_region_Hx (w0 := w) [0, 1, 2] [] rfl E1.out ?_
  refine lexH_phase [0, 1, 2] [] ?_
  have hw1 : EnvX w _ [] := E1.out
  have hone := @EnvC.one _ _ _ hw1
  (refine wpG_op rfl rfl rfl ?_; intro K hK; go_big_quiet_op; go_big_quiet_on)
  (refine wpG_call (f := 20) (args := #[.slice A n c]) (v := .bool true) rfl rfl rfl Tryd.func20 rfl rfl (fun u hu => HMY.out u (EnvX.bel hu)) ?_ hw1; intro K hK; go_big_quiet_op; go_big_quiet_on)
  (refine wpG_op rfl rfl rfl ?_; intro K hK; go_big_quiet_op; go_big_quiet_on)
  clear hone hw1
  refine wpG_nil ?_
  intro u3 E2'
  have EX2 := Lib.hid E2'
  clear E2'
  go_upto_region 3 with (fail)
  refine wp_region_Hx (w0 := w) [0, 1, 2] [] rfl EX2.out ?_
  refine lexH_phase [0, 1, 2] [] ?_
  have hw4 : EnvX w _ [] := EX2.out
  have hone := @EnvC.one _ _ _ hw4
  (refine wpG_op rfl rfl rfl ?_; intro K hK; go_big_quiet_op; go_big_quiet_on)
  (refine wpG_val (v := (.int .i64 (n' : Int))) rfl rfl (fun u hu => len_op Tryd.underlying27 HM63.out u rfl) ?_ hw4; intro K hK; go_big_quiet_op; go_big_quiet_on)
  (refine wpG_val (v := .bool false) rfl rfl (fun u hu => gtZ_op u D4.out rfl rfl) ?_ hw4; intro K hK; go_big_quiet_op; go_big_quiet_on)
  clear hone hw4
  refine wpG_nil ?_
  intro u6 E2'
  have EX5 := Lib.hid E2'
  clear E2'
  go_upto_region 5 with (fail)
  refine wp_region_Hx (w0 := w) [0, 1, 2, 3, 4, 5, 6, 7, 8, 9, 10, 11, 12, 13] [] rfl EX5.out ?_
  refine lexH_phase [0, 1, 2, 3, 4, 5, 6, 7, 8, 9, 10, 11, 12, 13] [] ?_
  have hw7 : EnvX w _ [] := EX5.out
  have hone := @EnvC.one _ _ _ hw7
  (refine wpG_op rfl rfl rfl ?_; intro K hK; go_big_quiet_op; go_big_quiet_on)
  (refine wpG_val (v := (.int .i64 (n' : Int))) rfl rfl (fun u hu => len_op Tryd.underlying27 HM63.out u rfl) ?_ hw7; intro K hK; go_big_quiet_op; go_big_quiet_on)
  (refine wpG_val (v := .bool true) rfl rfl (fun u hu => gtZ_op u C5.out rfl rfl) ?_ hw7; intro K hK; go_big_quiet_op; go_big_quiet_on)
  iterate 2 (refine wpG_op rfl rfl rfl ?_; intro K hK; go_big_quiet_op; go_big_quiet_on)
  (refine wpG_val (v := .pointer (some (ad0.add (0 * 2)))) rfl rfl (fun u hu => idxSl_op (i := 0) Tryd.underlying27 aggTx.size HI0.out u rfl rfl) ?_ hw7; intro K hK; go_big_quiet_op; go_big_quiet_on)
  (refine wpG_val (v := .pointer (some ((ad0.add (0 * 2)).add 0))) rfl rfl (fun u hu => fieldTx_op (k := 0) (off := 0) rfl u rfl) ?_ hw7; intro K hK; go_big_quiet_op; go_big_quiet_on)
  (refine wpG_val (v := .slice tm0.A1 tm0.n1 tm0.c1) rfl rfl (fun u hu => load_any_op u (HL0.out u (EnvX.sub hu (fun _ h => by cases h))) rfl) ?_ hw7; intro K hK; go_big_quiet_op; go_big_quiet_on)
  (refine wpG_val (v := .int .i64 (tm0.n1 : Int)) rfl rfl (fun u hu => len_op Tryd.underlying23 HN0.out u rfl) ?_ hw7; intro K hK; go_big_quiet_op; go_big_quiet_on)
  (refine wpG_val (v := .bool true) rfl rfl (fun u hu => eqlI_op u C9.out rfl rfl) ?_ hw7; intro K hK; go_big_quiet_op; go_big_quiet_on)
  iterate 4 (refine wpG_op rfl rfl rfl ?_; intro K hK; go_big_quiet_op; go_big_quiet_on)
  clear hone hw7
  refine wpG_nil ?_
  intro u9 E2'
  have EX8 := Lib.hid E2'
  clear E2'
  go_upto_region 6 with (fail)
  refine wp_region_Hx (w0 := w) [0] [] rfl EX8.out ?_
  refine lexH_phase [0] [] ?_
  have hw10 : EnvX w _ [] := EX8.out
  have hone := @EnvC.one _ _ _ hw10
  (refine wpG_op rfl rfl rfl ?_; intro K hK; go_big_quiet_op; go_big_quiet_on)
  clear hone hw10
  refine wpG_nil ?_
  intro u12 E2'
  have EX11 := Lib.hid E2'
  clear E2'
  go_upto_region 7 with (fail)
  refine wp_region_Hx (w0 := w) [0, 1, 2] [] rfl EX11.out ?_
  refine lexH_phase [0, 1, 2] [] ?_
  have hw13 : EnvX w _ [] := EX11.out
  have hone := @EnvC.one _ _ _ hw13
  (refine wpG_op rfl rfl rfl ?_; intro K hK; go_big_quiet_op; go_big_quiet_on)
  (refine wpG_val (v := .slice (cutX 2 (some ad0) 1 c') (n' - 1) (c' - 1)) rfl rfl (fun u hu => cutXl_op elTx (j := 1) u HN1L.out rfl rfl) ?_ hw13; intro K hK; go_big_quiet_op; go_big_quiet_on)
  (refine wpG_op rfl rfl rfl ?_; intro K hK; go_big_quiet_op; go_big_quiet_on)
  clear hone hw13
  refine wpG_nil ?_
  intro u15 E2'
  have EX14 := Lib.hid E2'
  clear E2'
  go_upto_region 8 with (fail)
  refine wp_region_Hx (w0 := w) [0, 1, 2, 3] [] rfl EX14.out ?_
  refine lexH_phase [0] [1, 2, 3] ?_
  have hw16 : EnvX w _ [] := EX14.out
  have hone := @EnvC.one _ _ _ hw16
  (refine wpG_op rfl rfl rfl ?_; intro K hK; go_big_quiet_op; go_big_quiet_on)
  clear hone hw16
  refine wpG_nil ?_
  refine (hOp_fresh (R := FreshR 50 35 n (p.map coC).flatten) (M0 := []) rfl rfl (fun _ h => h) (fun u hu => FAt_call (fid := 26) (xs := #[.tmp 36]) (args := #[.slice A n c]) rfl Tryd.func26 rfl rfl u (callsR_fresh (HCLN.out u (EnvX.bel hu)))) ?_)
  rintro x0 N0 hF hf he17; intro K' hK'; go_big_quiet_op; go_big_quiet_on
  have HF0 := Lib.hid (And.intro hF hf)
  clear hF
  clear hf
  change lexH _ _ _ _ _ _ (N0 ++ [])
  rw [List.append_nil] at he17 ⊢
  refine lexH_phase [2, 3] [] ?_
  have hw18 : EnvX w _ N0 := he17.choose_spec
  have hone := @EnvC.one _ _ _ hw18
  iterate 2 (refine wpG_op rfl rfl rfl ?_; intro K hK; go_big_quiet_op; go_big_quiet_on)
  clear hone hw18
  refine wpG_nil ?_
  intro u20 E2'
  have EX19 := Lib.hid E2'
  clear E2'
  go_upto_region 9 with (fail)
  refine wp_region_Hx (w0 := w) [0, 1, 2] N0 rfl EX19.out ?_
  refine lexH_phase [0, 1, 2] [] ?_
  have hw21 : EnvX w _ N0 := EX19.out
  have hone := @EnvC.one _ _ _ hw21
  (refine wpG_op rfl rfl rfl ?_; intro K hK; go_big_quiet_op; go_big_quiet_on)
  (refine wpG_val (v := .int .i64 (((n' - 1) : Nat) : Int)) rfl rfl (fun u hu => len_op Tryd.underlying27 HNO.out.2 u rfl) ?_ hw21; intro K hK; go_big_quiet_op; go_big_quiet_on)
  (refine wpG_op rfl rfl rfl ?_; intro K hK; go_big_quiet_op; go_big_quiet_on)
  clear hone hw21
  refine wpG_nil ?_
  intro u23 E2'
  have EX22 := Lib.hid E2'
  clear E2'
  have HINV : Hid (runP p 0 ((rsT l.tail).take 0) = .ok (p, 0) ∧ ∃ N, FreshR 50 35 p.length (p.map coC).flatten x0 N ∧ freshN w N [] ∧ EnvX w u23 N) := by
    refine ⟨rfl, N0, ?_, HF0.out.2, EX22.out⟩
    rw [HL.out]
    exact HF0.out.1
  clear EX22 E1 HF0
  go_upto_region 10 with (fail)
  go_loopw [8, 9, 40] (fun nv mv iv u => ∃ (i : Nat) (q : List CoinR) (m : Int), i ≤ (n' - 1) ∧ iv = .int .i64 (i : Int) ∧ mv = .int .i64 (50 + m) ∧ Hid (runP p 0 ((rsT l.tail).take i) = .ok (q, m) ∧ ∃ N, FreshR 50 35 q.length (q.map coC).flatten nv N ∧ freshN w N [] ∧ EnvX w u N)) (fun _ _ iv _ => (n' - 1) - (intOf iv).toNat)
  case atStart => exact ⟨0, p, 0, by omega, rfl, rfl, HINV⟩
  case round =>
    obtain ⟨i, q, m, hi, rfl, rfl, hinv⟩ := hrel
    obtain ⟨hrun, N, hF, hfr, hE⟩ := hinv.out
    have EK := Lib.hid hE
    have HRUN := Lib.hid hrun
    have HRB := Lib.hid (run_bounds HK.out HPP.out hrun)
    have HF := Lib.hid hF
    have HFR := Lib.hid hfr
    obtain ⟨A3, c3, rfl, hc1, hc2⟩ := FreshR.formC HF.out
    have HC3 := Lib.hid (And.intro hc1 hc2)
    have HCO : Hid (∀ u M, EnvX w u M → (∀ y ∈ N, y ∈ M) → CoinsIn u u.heap.size A3 q) := fun u M hu hm => own_cells (HF.out.own (w := u) (B := 0) (FreshR.lenOf HF.out) (fun y hy => ⟨Nat.zero_le _, hu.box _ _ (hm y hy)⟩))
    clear hinv HINV hrun hF hfr hE hc1 hc2
    by_cases hlt : i < (n' - 1)
    · have C10 : Hid (decide ((i : Int) < (((n' - 1) : Nat) : Int)) = true) := decide_eq_true (by omega)
      have HI : Hid (i < (n' - 1)) := hlt
      have hil : i < (l.tail).length := by rw [HLN.out]; exact hlt
      have HIL : Hid (i < (rsT l.tail).length) := by show _ < _; unfold rsT; rw [List.length_map]; exact hil
      obtain ⟨ad, hAO, -, hld⟩ := HTO.out.loads hil
      have HAO : Hid ((cutX 2 (some ad0) 1 c') = some ad) := hAO
      have HLD := Lib.hid hld
      have HTX : Hid (TxOk w ((l.tail).getD i noTxM)) := HTO.out.get hil
      have hrg : (rsT l.tail).getD i noTx = ((l.tail).getD i noTxM).r := by
        unfold rsT
        rw [List.getD_eq_getElem?_getD, List.getElem?_map, List.getD_eq_getElem?_getD, List.getElem?_eq_getElem hil]
        rfl
      obtain ⟨t, ht⟩ : ∃ t, (l.tail).getD i noTxM = t := ⟨_, rfl⟩
      rw [ht] at HLD HTX hrg
      have HRG := Lib.hid hrg
      have HSD : Hid (∀ u M, EnvX w u M → (∀ y ∈ N, y ∈ M) → Calls Tryd.prog 25 #[.slice A3 q.length c3, txV t] u fun e w' => SpE q t.r w' u.heap.size e ∧ Below u.heap.size u w') := fun u M hu hm => by
        obtain ⟨r, B1, m1, d1, B2, m2, d2⟩ := t
        exact pspend_any q A3 q.length c3 r B1 m1 d1 B2 m2 d2 u rfl HC3.out.1 HC3.out.2 HRB.out.1 (HCO.out u M hu hm) (HTX.out.up (EnvX.bel hu)) (HTT.out.below (EnvX.bel hu))
      have HSN : Hid (∀ x N, SpN q t.r x N → ∃ v, x = .tuple #[v, .int .i64 (spendP q t.r).2.1, .int .i64 ((spendP q t.r).2.2 : Int)] ∧ ((spendP q t.r).2.2 = 0 → FreshR 50 35 (spendP q t.r).1.length (((spendP q t.r).1).map coC).flatten v N)) := fun x N h => h
      rcases hs : spendP q t.r with ⟨q2, m2, e2⟩
      rw [hs] at HSN
      simp only at HSN
      have HS := Lib.hid hs
      clear hlt hil hAO hld hrg ht hs
      go_upto_region 10 with (fail)
      refine wp_region_Hx (w0 := w) [0] N rfl EK.out ?_
      refine lexH_phase [0] [] ?_
      have hw21 : EnvX w _ N := EK.out
      have hone := @EnvC.one _ _ _ hw21
      (refine wpG_val (v := .bool true) rfl rfl (fun u hu => ltZ_op u C10.out rfl rfl) ?_ hw21; intro K hK; go_big_quiet_op; go_big_quiet_on)
      clear hone hw21
      refine wpG_nil ?_
      intro u23 E2'
      have EX22 := Lib.hid E2'
      clear E2'
      go_upto_region 11 with (fail)
      refine wp_region_Hx (w0 := w) [0, 1, 2, 3] N rfl EX22.out ?_
      refine lexH_phase [0, 1] [2, 3] ?_
      have hw24 : EnvX w _ N := EX22.out
      have hone := @EnvC.one _ _ _ hw24
      (refine wpG_val (v := .pointer (some (ad.add (i * 2)))) rfl rfl (fun u hu => idxSlH_op (i := i) Tryd.underlying27 aggTx.size HI.out HAO.out u rfl rfl) ?_ hw24; intro K hK; go_big_quiet_op; go_big_quiet_on)
      (refine wpG_val (v := txV t) rfl rfl (fun u hu => load_any_op u (HLD.out u (EnvX.sub hu (fun _ h => by cases h))).1 rfl) ?_ hw24; intro K hK; go_big_quiet_op; go_big_quiet_on)
      clear hone hw24
      refine wpG_nil ?_
      refine (hOp_fresh (R := fun x N => ∃ g, x = .pointer (some ⟨g, 0, none⟩) ∧ N = [(g, Obj.cells (txA noTxM) 26 (0, 0))]) (M0 := N) rfl rfl (fun _ h => h) (fun u hu => FAt_new (new_tx _) u) ?_)
      rintro _ _ ⟨gx, rfl, rfl⟩ hf he25; intro K' hK'; go_big_quiet_op; go_big_quiet_on
      have HG6 := Lib.hid (hf _ (List.mem_singleton.2 rfl))
      clear hf
      change lexH _ _ _ _ _ _ ((gx, Obj.cells (txA noTxM) 26 (0, 0)) :: N)
      refine (hOp_store rfl (gx) (txA t) rfl rfl HG6.out.1 26 ((txA noTxM)) (List.Mem.head _) (infoTx _ (txA_size _)) ((txA_size _).trans (txA_size _).symm) (txA_one _) ((gx, Obj.cells (txA t) 26 (0, 0)) :: N) (List.forall_mem_cons.2 ⟨.inl rfl, fun y hy => .inr ⟨List.mem_cons_of_mem _ hy, HG6.out.2 y hy⟩⟩) ?_)
      intro he26
      intro u28 E2'
      have EX27 := Lib.hid E2'
      clear E2'
      rcases e2 with _ | e3
      case succ =>
        have C13 : Hid (decide (((e3 + 1 : Nat) : Int) ≠ 0) = true) := decide_eq_true (by omega)
        have HF2 : Hid ((applyP p (rsT l)).2 = e3 + 1) := by
          have h1 := run_stopO noTx HIL.out HRUN.out (by rw [HRG.out]; exact HS.out)
          show _ = _
          rw [apply_err HK.out (by rw [HRL.out]; have := HK2.out; omega) (by rw [HOT.out]; exact h1)]
        go_upto_region 12 with (fail)
        refine wp_region_Hx (w0 := w) [0, 1, 2, 3, 4, 5, 6, 7, 8, 9] ((gx, Obj.cells (txA t) 26 (0, 0)) :: N) rfl EX27.out ?_
        refine lexH_phase [0, 1] [2, 3, 4, 5, 6, 7, 8, 9] ?_
        have hw29 : EnvX w _ ((gx, Obj.cells (txA t) 26 (0, 0)) :: N) := EX27.out
        have hone := @EnvC.one _ _ _ hw29
        (refine wpG_op rfl rfl rfl ?_; intro K hK; go_big_quiet_op; go_big_quiet_on)
        (refine wpG_val (v := txV t) rfl rfl (fun u hu => load_any_op u (box_tx hu (List.Mem.head _)) rfl) ?_ hw29; intro K hK; go_big_quiet_op; go_big_quiet_on)
        clear hone hw29
        refine wpG_nil ?_
        refine (hOp_fresh (R := fun x N => ∃ v, x = .tuple #[v, .int .i64 m2, .int .i64 ((e3 + 1 : Nat) : Int)] ∧ (e3 + 1 = 0 → FreshR 50 35 q2.length (q2.map coC).flatten v N)) (M0 := ((gx, Obj.cells (txA t) 26 (0, 0)) :: N)) rfl rfl (fun _ h => h) (fun u hu => FAt_call (fid := 25) (xs := #[.tmp 45, .tmp 46]) (args := #[.slice A3 q.length c3, txV t]) rfl Tryd.func25 rfl rfl u ((callsS_fresh (HSD.out u _ hu (fun y hy => List.mem_cons_of_mem _ hy))).mono (fun _ _ ⟨x, N, k1, k2, k3⟩ => ⟨x, N, k1, HSN.out x N k2, k3⟩))) ?_)
        rintro _ N9 ⟨v9, rfl, hF⟩ hf he30; intro K' hK'; go_big_quiet_op; go_big_quiet_on
        have HF9 := Lib.hid (And.intro hF hf)
        clear hF
        clear hf
        change lexH _ _ _ _ _ _ (N9 ++ ((gx, Obj.cells (txA t) 26 (0, 0)) :: N))
        refine lexH_phase [3, 4, 5, 6, 7, 8, 9] [] ?_
        have hw31 : EnvX w _ (N9 ++ ((gx, Obj.cells (txA t) 26 (0, 0)) :: N)) := he30.choose_spec
        have hone := @EnvC.one _ _ _ hw31
        iterate 7 (refine wpG_op rfl rfl rfl ?_; intro K hK; go_big_quiet_op; go_big_quiet_on)
        clear hone hw31
        refine wpG_nil ?_
        intro u33 E2'
        have EX32 := Lib.hid E2'
        clear E2'
        go_upto_region 13 with (fail)
        refine wp_region_Hx (w0 := w) [0, 1] (N9 ++ ((gx, Obj.cells (txA t) 26 (0, 0)) :: N)) rfl EX32.out ?_
        refine lexH_phase [0, 1] [] ?_
        have hw34 : EnvX w _ (N9 ++ ((gx, Obj.cells (txA t) 26 (0, 0)) :: N)) := EX32.out
        have hone := @EnvC.one _ _ _ hw34
        (refine wpG_op rfl rfl rfl ?_; intro K hK; go_big_quiet_op; go_big_quiet_on)
        (refine wpG_val (v := .bool true) rfl rfl (fun u hu => neErr_op u C13.out rfl rfl) ?_ hw34; intro K hK; go_big_quiet_op; go_big_quiet_on)
        clear hone hw34
        refine wpG_nil ?_
        intro u36 E2'
        have EX35 := Lib.hid E2'
        clear E2'
        go_upto_region 14 with (fail)
        refine wp_region_Hx (w0 := w) [0, 1, 2] (N9 ++ ((gx, Obj.cells (txA t) 26 (0, 0)) :: N)) rfl EX35.out ?_
        refine lexH_phase [0, 1, 2] [] ?_
        have hw37 : EnvX w _ (N9 ++ ((gx, Obj.cells (txA t) 26 (0, 0)) :: N)) := EX35.out
        have hone := @EnvC.one _ _ _ hw37
        iterate 3 (refine wpG_op rfl rfl rfl ?_; intro K hK; go_big_quiet_op; go_big_quiet_on)
        clear hone hw37
        refine wpG_nil ?_
        intro u39 E2'
        have EX38 := Lib.hid E2'
        clear E2'
        have HBE := Lib.hid (EnvX.bel EX38.out)
        go_wp2
        go_returns
        exact ⟨ApE.mk (k := e3 + 1) (.slice none 0 0) HF2.out (fun h => absurd h (Nat.succ_ne_zero _)), HBE.out⟩
      have C13 : Hid (decide (((0 : Nat) : Int) ≠ 0) = false) := decide_eq_false (by omega)
      have hstp := run_stepO noTx HIL.out HRUN.out (by rw [HRG.out]; exact HS.out)
      have HSTP := Lib.hid hstp
      have hrb2 := run_bounds HK.out HPP.out hstp
      have HAD : Hid (IntKind.i64.wrap (50 + m + m2) = 50 + (m + m2)) := by show _ = _; rw [wrapS (by have := hrb2.2.2.1; have := hrb2.2.2.2.1; omega)]; omega
      clear hstp hrb2
      go_upto_region 12 with (fail)
      refine wp_region_Hx (w0 := w) [0, 1, 2, 3, 4, 5, 6, 7, 8, 9] ((gx, Obj.cells (txA t) 26 (0, 0)) :: N) rfl EX27.out ?_
      refine lexH_phase [0, 1] [2, 3, 4, 5, 6, 7, 8, 9] ?_
      have hw29 : EnvX w _ ((gx, Obj.cells (txA t) 26 (0, 0)) :: N) := EX27.out
      have hone := @EnvC.one _ _ _ hw29
      (refine wpG_op rfl rfl rfl ?_; intro K hK; go_big_quiet_op; go_big_quiet_on)
      (refine wpG_val (v := txV t) rfl rfl (fun u hu => load_any_op u (box_tx hu (List.Mem.head _)) rfl) ?_ hw29; intro K hK; go_big_quiet_op; go_big_quiet_on)
      clear hone hw29
      refine wpG_nil ?_
      refine (hOp_fresh (R := fun x N => ∃ v, x = .tuple #[v, .int .i64 m2, .int .i64 ((0 : Nat) : Int)] ∧ (0 = 0 → FreshR 50 35 q2.length (q2.map coC).flatten v N)) (M0 := ((gx, Obj.cells (txA t) 26 (0, 0)) :: N)) rfl rfl (fun _ h => h) (fun u hu => FAt_call (fid := 25) (xs := #[.tmp 45, .tmp 46]) (args := #[.slice A3 q.length c3, txV t]) rfl Tryd.func25 rfl rfl u ((callsS_fresh (HSD.out u _ hu (fun y hy => List.mem_cons_of_mem _ hy))).mono (fun _ _ ⟨x, N, k1, k2, k3⟩ => ⟨x, N, k1, HSN.out x N k2, k3⟩))) ?_)
      rintro _ N9 ⟨v9, rfl, hF⟩ hf he30; intro K' hK'; go_big_quiet_op; go_big_quiet_on
      have HF9 := Lib.hid (And.intro hF hf)
      clear hF
      clear hf
      change lexH _ _ _ _ _ _ (N9 ++ ((gx, Obj.cells (txA t) 26 (0, 0)) :: N))
      refine lexH_phase [3, 4, 5, 6, 7, 8, 9] [] ?_
      have hw31 : EnvX w _ (N9 ++ ((gx, Obj.cells (txA t) 26 (0, 0)) :: N)) := he30.choose_spec
      have hone := @EnvC.one _ _ _ hw31
      iterate 7 (refine wpG_op rfl rfl rfl ?_; intro K hK; go_big_quiet_op; go_big_quiet_on)
      clear hone hw31
      refine wpG_nil ?_
      intro u33 E2'
      have EX32 := Lib.hid E2'
      clear E2'
      go_upto_region 13 with (fail)
      refine wp_region_Hx (w0 := w) [0, 1] (N9 ++ ((gx, Obj.cells (txA t) 26 (0, 0)) :: N)) rfl EX32.out ?_
      refine lexH_phase [0, 1] [] ?_
      have hw34 : EnvX w _ (N9 ++ ((gx, Obj.cells (txA t) 26 (0, 0)) :: N)) := EX32.out
      have hone := @EnvC.one _ _ _ hw34
      (refine wpG_op rfl rfl rfl ?_; intro K hK; go_big_quiet_op; go_big_quiet_on)
      (refine wpG_val (v := .bool false) rfl rfl (fun u hu => neErr_op u C13.out rfl rfl) ?_ hw34; intro K hK; go_big_quiet_op; go_big_quiet_on)
      clear hone hw34
      refine wpG_nil ?_
      intro u36 E2'
      have EX35 := Lib.hid E2'
      clear E2'
      go_upto_region 15 with (fail)
      refine wp_region_Hx (w0 := w) [0, 1, 2, 3, 4, 5] (N9 ++ ((gx, Obj.cells (txA t) 26 (0, 0)) :: N)) rfl EX35.out ?_
      refine lexH_phase [0, 1, 2, 3, 4, 5] [] ?_
      have hw37 : EnvX w _ (N9 ++ ((gx, Obj.cells (txA t) 26 (0, 0)) :: N)) := EX35.out
      have hone := @EnvC.one _ _ _ hw37
      iterate 3 (refine wpG_op rfl rfl rfl ?_; intro K hK; go_big_quiet_op; go_big_quiet_on)
      (refine wpG_val (v := .int .i64 (50 + (m + m2))) rfl rfl (fun u hu => addZ_op u HAD.out rfl rfl) ?_ hw37; intro K hK; go_big_quiet_op; go_big_quiet_on)
      iterate 2 (refine wpG_op rfl rfl rfl ?_; intro K hK; go_big_quiet_op; go_big_quiet_on)
      clear hone hw37
      refine wpG_nil ?_
      intro u39 E2'
      have EX38 := Lib.hid E2'
      clear E2'
      have HNX : Hid (runP p 0 ((rsT l.tail).take (i + 1)) = .ok (q2, (m + m2)) ∧ ∃ N, FreshR 50 35 q2.length (q2.map coC).flatten v9 N ∧ freshN w N [] ∧ EnvX w u39 N) := ⟨HSTP.out, N9, HF9.out.1 rfl, fun y hy => ⟨(HF9.out.2 y hy).1, fun z hz => by cases hz⟩, EnvX.sub EX38.out (fun y hy => List.mem_append_left _ hy)⟩
      have hii := HI.out
      have hn := HNO.out.1
      go_wp2
      go_roundw
      case rel => exact ⟨i + 1, q2, m + m2, by omega, by go_num, rfl, HNX⟩
      case measure => simp [intOf]; omega
    · have hino : i = (n' - 1) := by omega
      have C10 : Hid (decide ((i : Int) < (((n' - 1) : Nat) : Int)) = false) := decide_eq_false (by omega)
      have HRA : Hid (runP p 0 (if loneX (rsT l) then (rsT l).tail else rsT l) = .ok (q, m)) := by
        have h := HRUN.out
        show _ = _
        rw [HOT.out]
        rwa [List.take_of_length_le (by unfold rsT; rw [List.length_map, HLN.out, hino]; exact Nat.le_refl _)] at h
      clear hlt hino
      go_upto_region 10 with (fail)
      refine wp_region_Hx (w0 := w) [0] N rfl EK.out ?_
      refine lexH_phase [0] [] ?_
      have hw501 : EnvX w _ N := EK.out
      have hone := @EnvC.one _ _ _ hw501
      (refine wpG_val (v := .bool false) rfl rfl (fun u hu => ltZ_op u C10.out rfl rfl) ?_ hw501; intro K hK; go_big_quiet_op; go_big_quiet_on)
      clear hone hw501
      refine wpG_nil ?_
      intro u503 E2'
      have EX502 := Lib.hid E2'
      clear E2'
      go_upto_region 17 with (fail)
      refine wp_region_Hx (w0 := w) [0, 1] N rfl EX502.out ?_
      refine lexH_phase [0, 1] [] ?_
      have hw504 : EnvX w _ N := EX502.out
      have hone := @EnvC.one _ _ _ hw504
      iterate 2 (refine wpG_op rfl rfl rfl ?_; intro K hK; go_big_quiet_op; go_big_quiet_on)
      clear hone hw504
      refine wpG_nil ?_
      intro u506 E2'
      have EX505 := Lib.hid E2'
      clear E2'
      have hap := mintR_apply HK.out (by rw [HRL.out]; have := HK2.out; omega) HRA.out HLO.out noTx
      rw [HRG0.out] at hap
      have HAP := Lib.hid hap
      have HCI : Hid (∀ u, Below w.heap.size w u → Calls Tryd.prog 24 #[txV tm0] u fun e w' => e = .returned (idv (idX tm0.r)) ∧ Below u.heap.size u w') := fun u hu => pidX_any tm0 u (HT0.out.up hu) (HTT.out.below hu)
      have HMI : Hid (∀ u M, EnvX w u M → (∀ y ∈ N, y ∈ M) → Calls Tryd.prog 48 #[.slice A3 q.length c3, txV tm0, idv (idX tm0.r), .int .i64 (50 + m)] u fun e w' => ApE (mintR q tm0.r (50 + m)) w' u.heap.size e ∧ Below u.heap.size u w') := fun u M hu hm => by
        obtain ⟨k1, k2, k3⟩ := mayP_iff.1 HRB.out.2.2.2.2
        have hT := HT0.out.up (EnvX.bel hu)
        obtain ⟨r, B1, m1, d1, B2, m2, d2⟩ := tm0
        exact pmint_any q A3 q.length c3 r B1 m1 d1 B2 m2 d2 (50 + m) u rfl (by omega) HC3.out.1 HC3.out.2 HRB.out.1 k3 (HCO.out u M hu hm) k2 hT
      clear hap
      generalize mintR q tm0.r (50 + m) = mr at *
      generalize idX tm0.r = id at *
      go_upto_region 19 with (fail)
      refine wp_region_H (w0 := w) N (by kernel_rfl) EX505.out ?_
      refine anyH_phase [0, 1, 2, 3, 4, 5, 6, 7, 8] 5 rfl ⟨_, (EnvX.drew EX505.out)⟩ (by kernel_rfl) ?_
      have hw507 : EnvX w _ N := (EnvX.drew EX505.out)
      have hone := @EnvC.one _ _ _ hw507
      iterate 2 (refine wpG_op rfl rfl rfl ?_; intro K hK; go_big_quiet_op; go_big_quiet_on)
      (refine wpG_val (v := .pointer (some (ad0.add (0 * 2)))) rfl rfl (fun u hu => idxSl_op (i := 0) Tryd.underlying27 aggTx.size HI0.out u rfl rfl) ?_ hw507; intro K hK; go_big_quiet_op; go_big_quiet_on)
      (refine wpG_val (v := txV tm0) rfl rfl (fun u hu => load_any_op u (HLD0.out u (EnvX.sub hu (fun _ h => by cases h))).1 rfl) ?_ hw507; intro K hK; go_big_quiet_op; go_big_quiet_on)
      (refine wpG_op rfl rfl rfl ?_; intro K hK; go_big_quiet_op; go_big_quiet_on)
      (refine wpG_val (v := .pointer (some (ad0.add (0 * 2)))) rfl rfl (fun u hu => idxSl_op (i := 0) Tryd.underlying27 aggTx.size HI0.out u rfl rfl) ?_ hw507; intro K hK; go_big_quiet_op; go_big_quiet_on)
      (refine wpG_val (v := txV tm0) rfl rfl (fun u hu => load_any_op u (HLD0.out u (EnvX.sub hu (fun _ h => by cases h))).1 rfl) ?_ hw507; intro K hK; go_big_quiet_op; go_big_quiet_on)
      (refine wpG_call (f := 24) (args := #[txV tm0]) (v := idv id) rfl rfl rfl Tryd.func24 rfl rfl (fun u hu => HCI.out u (EnvX.bel hu)) ?_ hw507; intro K hK; go_big_quiet_op; go_big_quiet_on)
      (refine wpG_op rfl rfl rfl ?_; intro K hK; go_big_quiet_op; go_big_quiet_on)
      clear hone hw507
      refine wpG_nil ?_
      refine anyH_one (i := 9) (by kernel_rfl) (hOp_fresh (R := ApN mr) (M0 := N) rfl rfl (fun _ h => h) (fun u hu => FAt_call (fid := 48) (xs := #[.tmp 62, .tmp 65, .tmp 69, .tmp 70]) (args := #[.slice A3 q.length c3, txV tm0, idv id, .int .i64 (50 + m)]) rfl Tryd.func48 rfl rfl u (callsA_fresh (HMI.out u _ hu (fun y hy => hy)))) ?_)
      rintro _ N9 ⟨v9, rfl, hF⟩ hf he508; intro K' hK'; go_big_quiet_op; go_big_quiet_on
      have HF9 := Lib.hid (And.intro hF hf)
      clear hF
      clear hf
      change anyH _ _ _ _ _ _ _ _ (N9 ++ N)
      refine anyH_phase [10, 11, 12, 13] 0 rfl ⟨_, he508.choose_spec⟩ (by kernel_rfl) ?_
      have hw509 : EnvX w _ (N9 ++ N) := he508.choose_spec
      have hone := @EnvC.one _ _ _ hw509
      iterate 4 (refine wpG_op rfl rfl rfl ?_; intro K hK; go_big_quiet_op; go_big_quiet_on)
      clear hone hw509
      refine wpG_nil ?_
      refine anyH_done (by kernel_rfl) ?_
      intro u511 E2'
      have EX510 := Lib.hid E2'
      clear E2'
      have HBE := Lib.hid (EnvX.bel EX510.out)
      have HOW : Hid (mr.2 = 0 → World.ownsRow u511 w.heap.size 50 35 v9 (applyP p (rsT l)).1.length (((applyP p (rsT l)).1).map coC).flatten) := fun h0 => by
        have hF := HF9.out.1 h0
        rw [HAP.out.2 (by rw [HAP.out.1]; exact h0)]
        exact hF.own (FreshR.lenOf hF) (fun y hy => ⟨(HF9.out.2 y hy).1, EnvX.box EX510.out _ _ (List.mem_append_left _ hy)⟩)
      go_wp2
      go_returns
      exact ⟨ApE.mk (k := mr.2) v9 HAP.out.1 HOW.out, HBE.out⟩
theorem papply_any (p : List CoinR) (A : Option Addr) (n c : Nat) (l : List TxM) (A' : Option Addr) (n' c' : Nat) (w : World) (hl : p.length = n) (hnc : n ≤ c) (hcm : c ≤ maxLen) (hI : okP p) (hA : CoinsIn w w.heap.size A p) (hl' : l.length = n') (hnc' : n' ≤ c') (hcm' : c' ≤ maxLen) (hA' : TxsIn w A' l) (htt : Tables w) :
    Calls Tryd.prog 32 #[.slice A n c, .slice A' n' c'] w fun e w' => ApE (applyP p (rsT l)) w' w.heap.size e ∧ Below w.heap.size w w' := by
  by_cases k : mayP p = true
  · by_cases k2 : 4 < n'
    · exact papply_size p A n c l A' n' c' w hl hnc hcm hI hA hl' hnc' hcm' hA' htt k k2
    · by_cases k3 : n' = 0
      · exact papply_mainA p A n c l A' n' c' w hl hnc hcm hI hA hl' hnc' hcm' hA' htt k k2 k3
      · cases k4 : loneX (rsT l) with
        | false => exact papply_mainB p A n c l A' n' c' w hl hnc hcm hI hA hl' hnc' hcm' hA' htt k k2 (by omega) k4
        | true => exact papply_mainC p A n c l A' n' c' w hl hnc hcm hI hA hl' hnc' hcm' hA' htt k k2 (by omega) k4
  · exact papply_arg p A n c l A' n' c' w hl hnc hcm hI hA hl' hnc' hcm' hA' htt (by simpa using k)
set_option maxRecDepth 20000 in
set_option maxHeartbeats 16000000 in
theorem pApplyP_any (p : List CoinR) (A : Option Addr) (n c : Nat) (l : List TxM) (A' : Option Addr) (n' c' : Nat) (w : World) (hl : p.length = n) (hnc : n ≤ c) (hcm : c ≤ maxLen) (hI : okP p) (hA : CoinsIn w w.heap.size A p) (hn : n ≤ 1000) (hl' : l.length = n') (hnc' : n' ≤ c') (hcm' : c' ≤ maxLen) (hA' : TxsIn w A' l) (htt : Tables w) :
    Calls Tryd.prog 14 #[.slice A n c, .slice A' n' c'] w fun e w' => (∃ v, e = .returned (.tuple #[v, .int .i64 ((applyP p (rsT l)).2 : Int)]) ∧ CoSl w' v (applyP p (rsT l)).1) ∧ Below w.heap.size w w' := by
  have HSD : Hid (∀ u, Below w.heap.size w u → Calls Tryd.prog 32 #[.slice A n c, .slice A' n' c'] u fun e w' => ApE (applyP p (rsT l)) w' u.heap.size e ∧ Below u.heap.size u w') := fun u hu =>
    papply_any p A n c l A' n' c' u hl hnc hcm hI (CellsIn.up hA hu) hl' hnc' hcm' (hA'.up hu) (htt.below hu)
  have HCLN : Hid (∀ u, Below w.heap.size w u → Calls Tryd.prog 26 #[.slice A n c] u fun e w' => (∃ v, e = .returned v ∧ w'.ownsRow u.heap.size 50 35 v n (p.map coC).flatten) ∧ Below u.heap.size u w') := fun u hu => pclone_any p A n c u hl (by omega) hI (CellsIn.up hA hu)
  have E1 : Hid (EnvX w w []) := EnvX.start w
  have HL := Lib.hid hl
  have he1 : (applyP p (rsT l)).2 ≠ 0 → (applyP p (rsT l)).1 = p := apply_wrong hI.id (rsT l)
  have HSN : Hid (∀ x N, ApN (applyP p (rsT l)) x N → ∃ v, x = .tuple #[v, .int .i64 ((applyP p (rsT l)).2 : Int)] ∧ ((applyP p (rsT l)).2 = 0 → FreshR 50 35 (applyP p (rsT l)).1.length (((applyP p (rsT l)).1).map coC).flatten v N)) := fun x N h => h
  clear hl hn hnc hcm hI hA hl' hnc' hcm' hA' htt
  generalize applyP p (rsT l) = a at *
  obtain ⟨q, e⟩ := a
  simp only at HSN he1 ⊢
  by_cases hz : e = 0
  case neg =>
    obtain rfl := he1 hz
    have C2 : Hid (decide ((e : Int) ≠ 0) = true) := decide_eq_true (by omega)
    clear he1 hz
    go_enter Tryd.func14, Tryd.ntmps14
    go_upto_region 1 with (fail)
    refine wp_region_Hx (w0 := w) [0, 1, 2, 3, 4, 5, 6, 7] [] rfl E1.out ?_
    refine lexH_phase [0, 1] [2, 3, 4, 5, 6, 7] ?_
    have hw1 : EnvX w _ [] := E1.out
    have hone := @EnvC.one _ _ _ hw1
    iterate 2 (refine wpG_op rfl rfl rfl ?_; intro K hK; go_big_quiet_op; go_big_quiet_on)
    clear hone hw1
    refine wpG_nil ?_
    refine (hOp_fresh (R := fun x N => ∃ v, x = .tuple #[v, .int .i64 ((e : Nat) : Int)] ∧ (e = 0 → FreshR 50 35 q.length (q.map coC).flatten v N)) (M0 := []) rfl rfl (fun _ h => h) (fun u hu => FAt_call (fid := 32) (xs := #[.tmp 9, .tmp 10]) (args := #[.slice A n c, .slice A' n' c']) rfl Tryd.func32 rfl rfl u ((callsA_fresh (HSD.out u (EnvX.bel hu))).mono (fun _ _ ⟨x, N, k1, k2, k3⟩ => ⟨x, N, k1, HSN.out x N k2, k3⟩))) ?_)
    rintro _ N0 ⟨v0, rfl, hF⟩ hf he2; intro K' hK'; go_big_quiet_op; go_big_quiet_on
    have HF0 := Lib.hid (And.intro hF hf)
    clear hF
    clear hf
    change lexH _ _ _ _ _ _ (N0 ++ [])
    rw [List.append_nil] at he2 ⊢
    refine lexH_phase [3, 4, 5, 6, 7] [] ?_
    have hw3 : EnvX w _ N0 := he2.choose_spec
    have hone := @EnvC.one _ _ _ hw3
    iterate 5 (refine wpG_op rfl rfl rfl ?_; intro K hK; go_big_quiet_op; go_big_quiet_on)
    clear hone hw3
    refine wpG_nil ?_
    intro u5 E2'
    have EX4 := Lib.hid E2'
    clear E2'
    go_upto_region 2 with (fail)
    refine wp_region_Hx (w0 := w) [0, 1] N0 rfl EX4.out ?_
    refine lexH_phase [0, 1] [] ?_
    have hw6 : EnvX w _ N0 := EX4.out
    have hone := @EnvC.one _ _ _ hw6
    (refine wpG_op rfl rfl rfl ?_; intro K hK; go_big_quiet_op; go_big_quiet_on)
    (refine wpG_val (v := .bool true) rfl rfl (fun u hu => neErr_op u C2.out rfl rfl) ?_ hw6; intro K hK; go_big_quiet_op; go_big_quiet_on)
    clear hone hw6
    refine wpG_nil ?_
    intro u8 E2'
    have EX7 := Lib.hid E2'
    clear E2'
    go_upto_region 3 with (fail)
    refine wp_region_Hx (w0 := w) [0, 1, 2, 3, 4] N0 rfl EX7.out ?_
    refine lexH_phase [0] [1, 2, 3, 4] ?_
    have hw9 : EnvX w _ N0 := EX7.out
    have hone := @EnvC.one _ _ _ hw9
    (refine wpG_op rfl rfl rfl ?_; intro K hK; go_big_quiet_op; go_big_quiet_on)
    clear hone hw9
    refine wpG_nil ?_
    refine (hOp_fresh (R := FreshR 50 35 n (q.map coC).flatten) (M0 := N0) rfl rfl (fun _ h => h) (fun u hu => FAt_call (fid := 26) (xs := #[.tmp 16]) (args := #[.slice A n c]) rfl Tryd.func26 rfl rfl u (callsR_fresh (HCLN.out u (EnvX.bel hu)))) ?_)
    rintro x9 N9 hF hf he10; intro K' hK'; go_big_quiet_op; go_big_quiet_on
    have HF9 := Lib.hid (And.intro hF hf)
    clear hF
    clear hf
    change lexH _ _ _ _ _ _ (N9 ++ N0)
    refine lexH_phase [2, 3, 4] [] ?_
    have hw11 : EnvX w _ (N9 ++ N0) := he10.choose_spec
    have hone := @EnvC.one _ _ _ hw11
    iterate 3 (refine wpG_op rfl rfl rfl ?_; intro K hK; go_big_quiet_op; go_big_quiet_on)
    clear hone hw11
    refine wpG_nil ?_
    intro u13 E2'
    have EX12 := Lib.hid E2'
    clear E2'
    have HCS : Hid (CoSl u13 x9 q) := by
      obtain ⟨A9, c9, rfl, k1, k2⟩ := FreshR.formC HF9.out.1
      exact ⟨A9, c9, by rw [HL.out], by rw [HL.out]; exact k1, k2, own_cells (HF9.out.1.own (B := 0) (FreshR.lenOf HF9.out.1) (fun y hy => ⟨Nat.zero_le _, EnvX.box EX12.out _ _ (List.mem_append_left _ hy)⟩))⟩
    have HBE := Lib.hid (EnvX.bel EX12.out)
    go_wp2
    go_returns
    exact ⟨⟨x9, rfl, HCS.out⟩, HBE.out⟩
  case pos =>
    subst hz
    have C2 : Hid (decide (((0 : Nat) : Int) ≠ 0) = false) := decide_eq_false (by omega)
    clear he1
    go_enter Tryd.func14, Tryd.ntmps14
    go_upto_region 1 with (fail)
    refine wp_region_Hx (w0 := w) [0, 1, 2, 3, 4, 5, 6, 7] [] rfl E1.out ?_
    refine lexH_phase [0, 1] [2, 3, 4, 5, 6, 7] ?_
    have hw1 : EnvX w _ [] := E1.out
    have hone := @EnvC.one _ _ _ hw1
    iterate 2 (refine wpG_op rfl rfl rfl ?_; intro K hK; go_big_quiet_op; go_big_quiet_on)
    clear hone hw1
    refine wpG_nil ?_
    refine (hOp_fresh (R := fun x N => ∃ v, x = .tuple #[v, .int .i64 ((0 : Nat) : Int)] ∧ (0 = 0 → FreshR 50 35 q.length (q.map coC).flatten v N)) (M0 := []) rfl rfl (fun _ h => h) (fun u hu => FAt_call (fid := 32) (xs := #[.tmp 9, .tmp 10]) (args := #[.slice A n c, .slice A' n' c']) rfl Tryd.func32 rfl rfl u ((callsA_fresh (HSD.out u (EnvX.bel hu))).mono (fun _ _ ⟨x, N, k1, k2, k3⟩ => ⟨x, N, k1, HSN.out x N k2, k3⟩))) ?_)
    rintro _ N0 ⟨v0, rfl, hF⟩ hf he2; intro K' hK'; go_big_quiet_op; go_big_quiet_on
    have HF0 := Lib.hid (And.intro hF hf)
    clear hF
    clear hf
    change lexH _ _ _ _ _ _ (N0 ++ [])
    rw [List.append_nil] at he2 ⊢
    refine lexH_phase [3, 4, 5, 6, 7] [] ?_
    have hw3 : EnvX w _ N0 := he2.choose_spec
    have hone := @EnvC.one _ _ _ hw3
    iterate 5 (refine wpG_op rfl rfl rfl ?_; intro K hK; go_big_quiet_op; go_big_quiet_on)
    clear hone hw3
    refine wpG_nil ?_
    intro u5 E2'
    have EX4 := Lib.hid E2'
    clear E2'
    go_upto_region 2 with (fail)
    refine wp_region_Hx (w0 := w) [0, 1] N0 rfl EX4.out ?_
    refine lexH_phase [0, 1] [] ?_
    have hw6 : EnvX w _ N0 := EX4.out
    have hone := @EnvC.one _ _ _ hw6
    (refine wpG_op rfl rfl rfl ?_; intro K hK; go_big_quiet_op; go_big_quiet_on)
    (refine wpG_val (v := .bool false) rfl rfl (fun u hu => neErr_op u C2.out rfl rfl) ?_ hw6; intro K hK; go_big_quiet_op; go_big_quiet_on)
    clear hone hw6
    refine wpG_nil ?_
    intro u8 E2'
    have EX7 := Lib.hid E2'
    clear E2'
    go_upto_region 4 with (fail)
    refine wp_region_Hx (w0 := w) [0, 1, 2] N0 rfl EX7.out ?_
    refine lexH_phase [0, 1, 2] [] ?_
    have hw9 : EnvX w _ N0 := EX7.out
    have hone := @EnvC.one _ _ _ hw9
    iterate 3 (refine wpG_op rfl rfl rfl ?_; intro K hK; go_big_quiet_op; go_big_quiet_on)
    clear hone hw9
    refine wpG_nil ?_
    intro u11 E2'
    have EX10 := Lib.hid E2'
    clear E2'
    have HFF := HF0.out.1 rfl
    have HCS : Hid (CoSl u11 v0 q) := by
      obtain ⟨A9, c9, rfl, k1, k2⟩ := FreshR.formC HFF
      exact ⟨A9, c9, rfl, k1, k2, own_cells (HFF.own (B := 0) (FreshR.lenOf HFF) (fun y hy => ⟨Nat.zero_le _, EnvX.box EX10.out _ _ hy⟩))⟩
    have HBE := Lib.hid (EnvX.bel EX10.out)
    go_wp2
    go_returns
    exact ⟨⟨v0, rfl, HCS.out⟩, HBE.out⟩
theorem purseC : PurseC where
  may := fun p A n c w hl hnc hcm hI hA _ => pmayP_any p A n c w hl hnc hcm hI hA
  same := fun p q A A' n c m c' w hl _ hnc hcm hI hA hl' _ hnc' hcm' hI' hA' _ => psameP_any p q A A' n c m c' w hl hnc hcm hI hA hl' hnc' hcm' hI' hA'
  find := fun p A n c x w hl hn hnc hcm hI hA hx _ => pFindP_any p A n c x w hl hn hnc hcm hI hA hx
  sum := fun p A n c w hl _ hnc hcm hI hA _ => psumP_any p A n c w hl hnc hcm hI hA
  spend := fun p A n c t w hl hn hnc hcm hI hA ht _ htt => pSpendP_any p A n c t w hl hn hnc hcm hI hA ht htt
  apply := fun p A n c l A' n' c' w hl hn hnc hcm hI hA hl' _ hnc' hcm' hA' _ htt => pApplyP_any p A n c l A' n' c' w hl hnc hcm hI hA hn hl' hnc' hcm' hA' htt
end Go.Proofs.YtabhhbdbkeeblaaDoor
