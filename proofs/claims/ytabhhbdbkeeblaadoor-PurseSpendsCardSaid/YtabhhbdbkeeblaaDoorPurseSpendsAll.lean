/-
  PROVED: the law stepladderlaw10.PurseSpends answers true for every input, and leaves its arguments as they were.
  Conditions: the two package-level tables of package sha hold at the call what their initialisers lay; the card ties that to the text of the program (a pruned copy of the project: the packages that the roots of this seat load).
-/
import Derived.Test.YtabhhbdbkeeblaaDoorZp
namespace Go.Proofs.YtabhhbdbkeeblaaDoor
set_option maxRecDepth 8000
open Go.RowKit
section
variable {w0 u : World} {M : Boxes} {g : Nat} {ty : TypeId} {x : InR} {o : OutR}
end
theorem run_equal_out (a b : OutR) (w : World) : (Op.equal 48 (outV a) (outV b)).run Tryd.prog w = .ok (eqO a b) w := by
  unfold Op.equal outV
  have h := run_equalIn_struct (P := Tryd.prog) w 9999 48 (outA a) (outA b) (by kernel_rfl) (by kernel_rfl)
  refine Eq.trans h ?_
  have hf := fieldsOut
  generalize (Tryd.prog.fieldsOf 48).toList = fs at hf ⊢
  have hl : fs.length = 2 := by simpa using congrArg List.length hf
  obtain ⟨f1, f2, rfl⟩ : ∃ f1 f2, fs = [f1, f2] := by
    match fs, hl with
    | [a, b], _ => exact ⟨a, b, rfl⟩
  simp only [List.map_cons, List.map_nil, List.cons.injEq, Prod.mk.injEq, beq_eq_false_iff_ne, and_true] at hf
  obtain ⟨⟨n1, t1, o1⟩, n2, t2, o2⟩ := hf
  have pV : ∀ t : OutR, (part 3 (outA t) 0).run Tryd.prog w = .ok (.int .i64 t.v) w := fun t => run_part_plain (P := Tryd.prog) w (by kernel_rfl) rfl
  have pT : ∀ t : OutR, (part 3 (outA t) 1).run Tryd.prog w = .ok (.int .i64 t.to) w := fun t => run_part_plain (P := Tryd.prog) w (by kernel_rfl) rfl
  have e1 := run_equalIn_int (P := Tryd.prog) w 9998 3 .i64 .i64 a.v b.v Tryd.underlying3
  have e2 := run_equalIn_int (P := Tryd.prog) w 9998 3 .i64 .i64 a.to b.to Tryd.underlying3
  have hd : eqO a b = ((a.v == b.v) && (a.to == b.to)) := by
    unfold eqO
    rw [Bool.eq_iff_iff]
    simp only [decide_eq_true_eq, Bool.and_eq_true, beq_iff_eq]
    exact ⟨fun h => by subst h; exact ⟨rfl, rfl⟩, fun h => by cases a; cases b; simp only at h; rw [h.1, h.2]⟩
  rw [hd]
  rw [eqFields_step (a := .int .i64 a.v) (b := .int .i64 b.v) n1 (by rw [t1, o1]; exact pV a) (by rw [t1, o1]; exact pV b) (by rw [t1]; exact e1)]
  cases (a.v == b.v) with
  | false => rfl
  | true =>
    rw [if_pos rfl, eqFields_step (a := .int .i64 a.to) (b := .int .i64 b.to) n2 (by rw [t2, o2]; exact pT a) (by rw [t2, o2]; exact pT b) (by rw [t2]; exact e2)]
    cases hab : (a.to == b.to) with
    | false => rfl
    | true => rfl
theorem guardOut : Tryd.prog.eqGuardType Tryd.prog.depth 48 = false := by kernel_rfl
section
variable {a : Act} {dst : Option Tmp} {x y : Operand} {ty : TypeId} {pos : String} {after : Array Edge} {gd : Option (Nat × Bool)}
theorem neqOut_op {s t : OutR} {b : Bool} (hb : (!eqO s t) = b) (u : World) (hx : a.eval x = outV s) (hy : a.eval y = outV t) :
    (execOp a.eval ⟨dst, .binOp .neq 48 x y 48, ty, pos, after, gd⟩).run Tryd.prog u = .ok (.value (.bool b)) u := by
  have h0 := run_equal_out s t u
  have h : (binOp .neq 48 (outV s) (outV t)).run Tryd.prog u = .ok (.bool (!eqO s t)) u := by
    unfold outV at *
    simp only [binOp]
    simp [h0]
  have hg := run_eqGuard_agg (P := Tryd.prog) u .neq 48 x y (outA s) (outA t) guardOut
  rw [← hb]
  unfold outV at *
  unfold execOp
  simp only [hx, hy, Sem.run_bind, hg, Result.andThen_ok, h, Sem.run_pure]
end
section
variable {w0 u : World} {M : Boxes} {g : Nat} {ty : TypeId} {t : TxM}
end
section
variable {dst : Option Tmp} {ty : TypeId} {pos : String} {after : Array Edge} {gd : Option (Nat × Bool)}
end
theorem newC_get (id : List Int) : ∀ (os : List OutR) (i : Int) (k : Nat), k < os.length → (newC id i os)[k]? = some ⟨id, i + k, (os.getD k ⟨0, 0⟩).v, (os.getD k ⟨0, 0⟩).to⟩
  | [], _, k, h => by cases h
  | o :: os, i, 0, _ => by simp [newC]
  | o :: os, i, k + 1, h => by
    have := newC_get id os (i + 1) k (by simpa using h)
    unfold newC
    rw [List.getElem?_cons_succ, this]
    simp only [List.getD_cons_succ]
    congr 2
    push_cast
    omega
/-- in coins of which no two have one key, what is taken is there no more -/
theorem take_gone : ∀ (xs : List InR) (l : List CoinR) (r : List CoinR × Int), takeP l xs = some r → l.Pairwise (fun a b => keyC a ≠ keyC b) → ∀ d ∈ r.1, keyC d ∉ xs
  | [], _, _, _, _, d, _ => by simp
  | x :: xs, l, r, h, hl, d, hd => by
    unfold takeP at h
    cases hf : l.find? (fun c => decide (keyC c = x)) with
    | none => rw [hf] at h; cases h
    | some c =>
      rw [hf] at h
      simp only at h
      cases ht : takeP (l.eraseP fun c => decide (keyC c = x)) xs with
      | none => rw [ht] at h; cases h
      | some q =>
        rw [ht] at h
        cases h
        have hg := take_gone xs _ _ ht (hl.sublist List.eraseP_sublist) d hd
        have hp := erase_perm hf
        have hq : (c :: l.eraseP fun c => decide (keyC c = x)).Pairwise (fun a b => keyC a ≠ keyC b) := (hp.pairwise_iff (fun {a b} h => Ne.symm h)).1 hl
        have hd2 := (take_some xs _ _ ht).1.subset hd
        have hc := (List.pairwise_cons.1 hq).1 d hd2
        rw [(find_mem hf).2] at hc
        intro hm
        rcases List.mem_cons.1 hm with e | e
        · exact hc e.symm
        · exact hg e
section
variable {w0 u : World} {M : Boxes} {g : Nat} {ty : TypeId} {c : CoinR}
end
section
variable {a : Act} {dst : Option Tmp} {x y : Operand} {ty : TypeId} {pos : String} {after : Array Edge} {gd : Option (Nat × Bool)}
theorem eqlCo_op {s t : CoinR} {b : Bool} (hs : lenC s) (ht : lenC t) (hb : eqC s t = b) (u : World) (hx : a.eval x = coV s) (hy : a.eval y = coV t) :
    (execOp a.eval ⟨dst, .binOp .eql 50 x y 50, ty, pos, after, gd⟩).run Tryd.prog u = .ok (.value (.bool b)) u := by
  have h0 := run_equal_co s t hs ht u
  have h : (binOp .eql 50 (coV s) (coV t)).run Tryd.prog u = .ok (.bool (eqC s t)) u := by
    unfold coV at *
    simp only [binOp]
    simp [h0]
  have hg := run_eqGuard_agg (P := Tryd.prog) u .eql 50 x y (coA s) (coA t) guardCo
  rw [← hb]
  unfold coV at *
  unfold execOp
  simp only [hx, hy, Sem.run_bind, hg, Result.andThen_ok, h, Sem.run_pure]
end
theorem getD_memP {p : List CoinR} {k : Nat} (hk : k < p.length) : p.getD k noCoin ∈ p := by
  rw [List.getD_eq_getElem?_getD, List.getElem?_eq_getElem hk]
  exact List.getElem_mem hk
/-- of coins in order the place of what is there -/
theorem findP_mem {p : List CoinR} (hp : idP p) (hu : upP p) {c : CoinR} (hc : c ∈ p) : ∃ k, k < p.length ∧ findP p (keyC c) = (k : Int) ∧ p.getD k noCoin = c := by
  obtain ⟨k, hk, rfl⟩ := List.getElem_of_mem hc
  have e : p.getD k noCoin = p[k] := by rw [List.getD_eq_getElem?_getD, List.getElem?_eq_getElem hk]; rfl
  exact ⟨k, hk, by rw [← e]; exact findP_up hp hu hk, e⟩
theorem take_none_of {p : List CoinR} {x : InR} {xs : List InR} (h : ∀ c ∈ p, keyC c ≠ x) : takeP p (x :: xs) = none := by
  unfold takeP
  have : p.find? (fun c => decide (keyC c = x)) = none := List.find?_eq_none.2 fun c hc => by simpa using h c hc
  rw [this]
/-- what a transaction that is spent, and spends none of its own, leaves -/
theorem spend_gone {p : List CoinR} {t : TxR} {q : List CoinR} {n : Int} (hp : idP p) (h : spendP p t = (q, n, 0)) (hown : ∀ x ∈ t.ins, x.tx ≠ idX t) :
    q.length + t.ins.length = p.length + t.outs.length ∧
    (∀ i, i < t.outs.length → ∃ k, k < q.length ∧ findP q ⟨idX t, i⟩ = (k : Int) ∧ outK (q.getD k noCoin) = t.outs.getD i ⟨0, 0⟩) ∧
    (∀ x ∈ t.ins, findP q x = -1) ∧ (spendP q t).2.2 ≠ 0 ∧
    (∀ c ∈ p, keyC c ∉ t.ins → ∃ k, k < q.length ∧ findP q (keyC c) = (k : Int) ∧ q.getD k noCoin = c) := by
  have hq := spend_may hp h
  obtain ⟨hm, hx, hne, l, m, ht, hw, hth, rfl, hl, rfl⟩ := spend_ok hp h
  obtain ⟨_, hb, hu⟩ := mayP_iff.1 hm
  obtain ⟨h1, h2, h3, h4, _⟩ := take_some _ _ _ ht
  simp only at h1 h2 h3 h4
  have hg := take_gone _ _ _ ht (up_ne hp hu)
  simp only at hg
  have hqu := (mayP_iff.1 hq.1).2.2
  have mem : ∀ c, c ∈ madeP l (newC (idX t) 0 t.outs) ↔ c ∈ newC (idX t) 0 t.outs ∨ c ∈ l := fun c => by rw [(madeP_perm _ _).mem_iff, List.mem_append]
  have gone : ∀ x ∈ t.ins, ∀ c ∈ madeP l (newC (idX t) 0 t.outs), keyC c ≠ x := fun x hx c hc e => by
    rcases (mem c).1 hc with h | h
    · refine hown x hx ?_
      rw [← e]
      exact (newC_mem h).1
    · exact hg c h (by rw [e]; exact hx)
  refine ⟨by rw [made_len]; omega, fun i hi => ?_, fun x hx => findP_none (gone x hx), ?_, fun c hc hn => ?_⟩
  · have hge := newC_get (idX t) t.outs 0 i hi
    have hmem : (⟨idX t, 0 + (i : Int), (t.outs.getD i ⟨0, 0⟩).v, (t.outs.getD i ⟨0, 0⟩).to⟩ : CoinR) ∈ newC (idX t) 0 t.outs := List.mem_of_getElem? hge
    obtain ⟨k, hk, e1, e2⟩ := findP_mem hq.2.1 hqu ((mem _).2 (.inl hmem))
    refine ⟨k, hk, ?_, ?_⟩
    · rw [← e1]
      unfold keyC
      simp only [Int.zero_add]
    · rw [e2]
      rfl
  · obtain ⟨x, xs, hins⟩ : ∃ x xs, t.ins = x :: xs := by
      cases hi : t.ins with
      | nil => exact absurd hi hne
      | cons x xs => exact ⟨x, xs, rfl⟩
    have hno : takeP (madeP l (newC (idX t) 0 t.outs)) t.ins = none := by
      rw [hins]
      exact take_none_of (gone x (by rw [hins]; exact List.mem_cons_self ..))
    unfold spendP
    rw [hno]
    split <;> simp
  · exact findP_mem hq.2.1 hqu ((mem c).2 (.inr (h4 c hc hn)))
/-- the contract of coin.Id -/
def IdC : Prop := ∀ (t : TxM) (w : World), TxOk w t → Tables w → Calls Tryd.prog 24 #[txV t] w fun e w' => e = .returned (idv (idX t.r)) ∧ Below w.heap.size w w'
theorem coB_loads {q : List CoinR} {A : Option Addr} {N M : Boxes} {w0 wr : World} (h : CoB q A N) (hq : okP q) (hE : EnvX w0 wr M) (hN : ∀ y ∈ N, y ∈ M) {k : Nat} (hk : k < q.length) : ∃ ad, A = some ad ∧ ∀ u, EnvX w0 u M →
    (loadVar 50 (ad.add (k * 35))).run Tryd.prog u = .ok (coV (q.getD k noC0)) u ∧
    (loadVar 48 ((ad.add (k * 35)).add 33)).run Tryd.prog u = .ok (outV (outK (q.getD k noC0))) u := by
  obtain ⟨ad, hA, -, _⟩ := CoinsIn.loads (CoB.read h hE hN) hq hk
  refine ⟨ad, hA, fun u hu => ?_⟩
  obtain ⟨ad2, hA2, -, hl⟩ := CoinsIn.loads (CoB.read h hu hN) hq hk
  have e : ad2 = ad := Option.some.inj (hA2.symm.trans hA)
  subst e
  have h1 := hl u (EnvX.start u)
  exact ⟨h1.1, h1.2.2.2.2.1⟩
theorem in_place {l : List InR} {x : InR} (h : x ∈ l) : ∃ j, j < l.length ∧ l.getD j noIn = x := by
  obtain ⟨j, hj, rfl⟩ := List.getElem_of_mem h
  exact ⟨j, hj, by rw [List.getD_eq_getElem?_getD, List.getElem?_eq_getElem hj]; rfl⟩
theorem getD_mem0 {p : List CoinR} {k : Nat} (hk : k < p.length) : p.getD k noC0 ∈ p := by
  rw [getD_dC hk]
  exact getD_memP hk
set_option maxRecDepth 20000 in
set_option maxHeartbeats 8000000 in
theorem law_spends_few (H : PurseC) (G : IdC) (p : List CoinR) (t : TxM) (k : Int) (A : Option Addr) (n c : Nat) (w : World) (hl : p.length = n) (hnc : n ≤ c) (hcm : c ≤ maxLen) (hI : okP p) (hA : CoinsIn w w.heap.size A p) (kt : TxOk w t) (ht : Tables w) (k1 : fewX t.r = false) :
    Calls Tryd.prog 5 #[.slice A n c, txV t, .int .i64 k] w fun e w' => e = .returned (.bool true) ∧ Below w.heap.size w w' := by
  have HT := Lib.hid ht
  have HH := Lib.hid H
  have HN63 : Hid (n < 9223372036854775808) := by show _ < _; unfold maxLen at hcm; omega
  have HL := Lib.hid hl
  have HNC := Lib.hid (And.intro hnc hcm)
  have HPP := Lib.hid hI
  have HAA : Hid (CoinsIn w w.heap.size A p) := hA
  have K_t := Lib.hid kt
  have HAW : Hid (∀ u, EnvX w u [] → Calls Tryd.prog 9 #[] u fun e w' => e = .returned (.bool true) ∧ Below u.heap.size u w') := fun u hu => pawake_any H u (ht.below (EnvX.bel hu))
  have E1 : Hid (EnvX w (w.alloc (.cells (txA t) 26)) [(w.heap.size, Obj.cells (txA t) 26 (0, 0))]) := (EnvX.start w).new _
  have GG := Lib.hid G
  have HF_t : Hid (fewX t.r = false) := k1
  clear k1 G
  clear ht H hl hnc hcm hI hA kt
  unfold txV
  go_enter Tryd.func5, Tryd.ntmps5
  go_upto_region 1 with (fail)
  generalize w.alloc (.cells (txA t) 26) = W at *
  refine wp_region_Hx (w0 := w) [0, 1] [(w.heap.size, Obj.cells (txA t) 26 (0, 0))] rfl E1.out ?_
  refine lexH_phase [0, 1] [] ?_
  have hw1 : EnvX w _ [(w.heap.size, Obj.cells (txA t) 26 (0, 0))] := E1.out
  have hone := @EnvC.one _ _ _ hw1
  (refine wpG_call (f := 9) (args := #[]) (v := .bool true) rfl rfl rfl Tryd.func9 rfl rfl (fun u hu => HAW.out u (EnvX.sub hu (fun _ h => by cases h))) ?_ hw1; intro K hK; go_big_quiet_op; go_big_quiet_on)
  (refine wpG_op rfl rfl rfl ?_; intro K hK; go_big_quiet_op; go_big_quiet_on)
  clear hone hw1
  refine wpG_nil ?_
  intro u3 E2'
  have EX2 := Lib.hid E2'
  clear E2'
  go_upto_region 2 with (fail)
  refine wp_region_Hx (w0 := w) [0, 1, 2] [(w.heap.size, Obj.cells (txA t) 26 (0, 0))] rfl EX2.out ?_
  refine lexH_phase [0, 1, 2] [] ?_
  have hw4 : EnvX w _ [(w.heap.size, Obj.cells (txA t) 26 (0, 0))] := EX2.out
  have hone := @EnvC.one _ _ _ hw4
  (refine wpG_val (v := txV t) rfl rfl (fun u hu => load_any_op u (box_tx hu (List.Mem.head _)) rfl) ?_ hw4; intro K hK; go_big_quiet_op; go_big_quiet_on)
  (refine wpG_call (f := 10) (args := #[txV t]) (v := .bool false) rfl rfl rfl Tryd.func10 rfl rfl (fun u hu => by have h1 := few_any t u (K_t.out.up (EnvX.bel hu)); rwa [HF_t.out] at h1) ?_ hw4; intro K hK; go_big_quiet_op; go_big_quiet_on)
  (refine wpG_op rfl rfl rfl ?_; intro K hK; go_big_quiet_op; go_big_quiet_on)
  clear hone hw4
  refine wpG_nil ?_
  intro u6 E2'
  have EX5 := Lib.hid E2'
  clear E2'
  go_upto_region 3 with (fail)
  refine wp_region_Hx (w0 := w) [0, 1, 2, 3, 4, 5, 6, 7, 8, 9, 10] [(w.heap.size, Obj.cells (txA t) 26 (0, 0))] rfl EX5.out ?_
  refine lexH_phase [0, 1, 2, 3, 4, 5, 6, 7, 8, 9, 10] [] ?_
  have hw7 : EnvX w _ [(w.heap.size, Obj.cells (txA t) 26 (0, 0))] := EX5.out
  have hone := @EnvC.one _ _ _ hw7
  iterate 7 (refine wpG_op rfl rfl rfl ?_; intro K hK; go_big_quiet_op; go_big_quiet_on)
  iterate 3 (refine wpG_skip rfl rfl ?_ hw7; intro K hK; go_big_quiet_op; go_big_quiet_on)
  (refine wpG_op rfl rfl rfl ?_; intro K hK; go_big_quiet_op; go_big_quiet_on)
  clear hone hw7
  refine wpG_nil ?_
  intro u9 E2'
  have EX8 := Lib.hid E2'
  clear E2'
  go_upto_region 4 with (fail)
  refine wp_region_Hx (w0 := w) [0, 1] [(w.heap.size, Obj.cells (txA t) 26 (0, 0))] rfl EX8.out ?_
  refine lexH_phase [0, 1] [] ?_
  have hw10 : EnvX w _ [(w.heap.size, Obj.cells (txA t) 26 (0, 0))] := EX8.out
  have hone := @EnvC.one _ _ _ hw10
  iterate 2 (refine wpG_op rfl rfl rfl ?_; intro K hK; go_big_quiet_op; go_big_quiet_on)
  clear hone hw10
  refine wpG_nil ?_
  intro u12 E2'
  have EX11 := Lib.hid E2'
  clear E2'
  have HBE := Lib.hid (EnvX.bel EX11.out)
  go_wp2
  go_ret
  exact ⟨rfl, HBE.out⟩
set_option maxRecDepth 20000 in
set_option maxHeartbeats 8000000 in
theorem law_spends_many (H : PurseC) (G : IdC) (p : List CoinR) (t : TxM) (k : Int) (A : Option Addr) (n c : Nat) (w : World) (hl : p.length = n) (hnc : n ≤ c) (hcm : c ≤ maxLen) (hI : okP p) (hA : CoinsIn w w.heap.size A p) (kt : TxOk w t) (ht : Tables w) (k1 : fewX t.r = true) (k2 : 60 < n) :
    Calls Tryd.prog 5 #[.slice A n c, txV t, .int .i64 k] w fun e w' => e = .returned (.bool true) ∧ Below w.heap.size w w' := by
  have HT := Lib.hid ht
  have HH := Lib.hid H
  have HN63 : Hid (n < 9223372036854775808) := by show _ < _; unfold maxLen at hcm; omega
  have HL := Lib.hid hl
  have HNC := Lib.hid (And.intro hnc hcm)
  have HPP := Lib.hid hI
  have HAA : Hid (CoinsIn w w.heap.size A p) := hA
  have K_t := Lib.hid kt
  have HAW : Hid (∀ u, EnvX w u [] → Calls Tryd.prog 9 #[] u fun e w' => e = .returned (.bool true) ∧ Below u.heap.size u w') := fun u hu => pawake_any H u (ht.below (EnvX.bel hu))
  have E1 : Hid (EnvX w (w.alloc (.cells (txA t) 26)) [(w.heap.size, Obj.cells (txA t) 26 (0, 0))]) := (EnvX.start w).new _
  have GG := Lib.hid G
  have HF_t : Hid (fewX t.r = true) := k1
  have D60 : Hid (decide ((60 : Int) < (n : Int)) = true) := decide_eq_true (by omega)
  clear k1 G k2
  clear ht H hl hnc hcm hI hA kt
  unfold txV
  go_enter Tryd.func5, Tryd.ntmps5
  go_upto_region 1 with (fail)
  generalize w.alloc (.cells (txA t) 26) = W at *
  refine wp_region_Hx (w0 := w) [0, 1] [(w.heap.size, Obj.cells (txA t) 26 (0, 0))] rfl E1.out ?_
  refine lexH_phase [0, 1] [] ?_
  have hw1 : EnvX w _ [(w.heap.size, Obj.cells (txA t) 26 (0, 0))] := E1.out
  have hone := @EnvC.one _ _ _ hw1
  (refine wpG_call (f := 9) (args := #[]) (v := .bool true) rfl rfl rfl Tryd.func9 rfl rfl (fun u hu => HAW.out u (EnvX.sub hu (fun _ h => by cases h))) ?_ hw1; intro K hK; go_big_quiet_op; go_big_quiet_on)
  (refine wpG_op rfl rfl rfl ?_; intro K hK; go_big_quiet_op; go_big_quiet_on)
  clear hone hw1
  refine wpG_nil ?_
  intro u3 E2'
  have EX2 := Lib.hid E2'
  clear E2'
  go_upto_region 2 with (fail)
  refine wp_region_Hx (w0 := w) [0, 1, 2] [(w.heap.size, Obj.cells (txA t) 26 (0, 0))] rfl EX2.out ?_
  refine lexH_phase [0, 1, 2] [] ?_
  have hw4 : EnvX w _ [(w.heap.size, Obj.cells (txA t) 26 (0, 0))] := EX2.out
  have hone := @EnvC.one _ _ _ hw4
  (refine wpG_val (v := txV t) rfl rfl (fun u hu => load_any_op u (box_tx hu (List.Mem.head _)) rfl) ?_ hw4; intro K hK; go_big_quiet_op; go_big_quiet_on)
  (refine wpG_call (f := 10) (args := #[txV t]) (v := .bool true) rfl rfl rfl Tryd.func10 rfl rfl (fun u hu => by have h1 := few_any t u (K_t.out.up (EnvX.bel hu)); rwa [HF_t.out] at h1) ?_ hw4; intro K hK; go_big_quiet_op; go_big_quiet_on)
  (refine wpG_op rfl rfl rfl ?_; intro K hK; go_big_quiet_op; go_big_quiet_on)
  clear hone hw4
  refine wpG_nil ?_
  intro u6 E2'
  have EX5 := Lib.hid E2'
  clear E2'
  go_upto_region 3 with (fail)
  refine wp_region_Hx (w0 := w) [0, 1, 2, 3, 4, 5, 6, 7, 8, 9, 10] [(w.heap.size, Obj.cells (txA t) 26 (0, 0))] rfl EX5.out ?_
  refine lexH_phase [0, 1, 2, 3, 4, 5, 6, 7, 8, 9, 10] [] ?_
  have hw7 : EnvX w _ [(w.heap.size, Obj.cells (txA t) 26 (0, 0))] := EX5.out
  have hone := @EnvC.one _ _ _ hw7
  iterate 8 (refine wpG_op rfl rfl rfl ?_; intro K hK; go_big_quiet_op; go_big_quiet_on)
  (refine wpG_val (v := .int .i64 (n : Int)) rfl rfl (fun u hu => len_op Tryd.underlying22 HN63.out u rfl) ?_ hw7; intro K hK; go_big_quiet_op; go_big_quiet_on)
  (refine wpG_val (v := .bool true) rfl rfl (fun u hu => gtZ_op u D60.out rfl rfl) ?_ hw7; intro K hK; go_big_quiet_op; go_big_quiet_on)
  (refine wpG_op rfl rfl rfl ?_; intro K hK; go_big_quiet_op; go_big_quiet_on)
  clear hone hw7
  refine wpG_nil ?_
  intro u9 E2'
  have EX8 := Lib.hid E2'
  clear E2'
  go_upto_region 4 with (fail)
  refine wp_region_Hx (w0 := w) [0, 1] [(w.heap.size, Obj.cells (txA t) 26 (0, 0))] rfl EX8.out ?_
  refine lexH_phase [0, 1] [] ?_
  have hw10 : EnvX w _ [(w.heap.size, Obj.cells (txA t) 26 (0, 0))] := EX8.out
  have hone := @EnvC.one _ _ _ hw10
  iterate 2 (refine wpG_op rfl rfl rfl ?_; intro K hK; go_big_quiet_op; go_big_quiet_on)
  clear hone hw10
  refine wpG_nil ?_
  intro u12 E2'
  have EX11 := Lib.hid E2'
  clear E2'
  have HBE := Lib.hid (EnvX.bel EX11.out)
  go_wp2
  go_ret
  exact ⟨rfl, HBE.out⟩
set_option maxRecDepth 20000 in
set_option maxHeartbeats 8000000 in
theorem law_spends_err (H : PurseC) (G : IdC) (p : List CoinR) (t : TxM) (k : Int) (A : Option Addr) (n c : Nat) (w : World) (hl : p.length = n) (hnc : n ≤ c) (hcm : c ≤ maxLen) (hI : okP p) (hA : CoinsIn w w.heap.size A p) (kt : TxOk w t) (ht : Tables w) (k1 : fewX t.r = true) (k2 : ¬ 60 < n) {a : List CoinR} {na : Int} {ea : Nat} (hsp : spendP p t.r = (a, na, ea + 1)) :
    Calls Tryd.prog 5 #[.slice A n c, txV t, .int .i64 k] w fun e w' => e = .returned (.bool true) ∧ Below w.heap.size w w' := by
  have HT := Lib.hid ht
  have HH := Lib.hid H
  have HN63 : Hid (n < 9223372036854775808) := by show _ < _; unfold maxLen at hcm; omega
  have HL := Lib.hid hl
  have HNC := Lib.hid (And.intro hnc hcm)
  have HPP := Lib.hid hI
  have HAA : Hid (CoinsIn w w.heap.size A p) := hA
  have K_t := Lib.hid kt
  have HAW : Hid (∀ u, EnvX w u [] → Calls Tryd.prog 9 #[] u fun e w' => e = .returned (.bool true) ∧ Below u.heap.size u w') := fun u hu => pawake_any H u (ht.below (EnvX.bel hu))
  have E1 : Hid (EnvX w (w.alloc (.cells (txA t) 26)) [(w.heap.size, Obj.cells (txA t) 26 (0, 0))]) := (EnvX.start w).new _
  have GG := Lib.hid G
  have HF_t : Hid (fewX t.r = true) := k1
  have D60 : Hid (decide ((60 : Int) < (n : Int)) = false) := decide_eq_false (by omega)
  have HN60 : Hid (n ≤ 60) := by show _ ≤ _; omega
  clear k1 G k2
  clear ht H hl hnc hcm hI hA kt
  unfold txV
  go_enter Tryd.func5, Tryd.ntmps5
  go_upto_region 1 with (fail)
  generalize w.alloc (.cells (txA t) 26) = W at *
  have HN48 : Hid (n ≤ 1000) := by have := HN60.out; show _ ≤ _; omega
  have hsl := spend_len HPP.out (by rw [HL.out]; exact HN60.out) t.r hsp
  have HAO := Lib.hid hsl.1
  have HA48 := Lib.hid hsl.2
  have HSP := Lib.hid hsp
  clear hsl
  clear hsp
  refine wp_region_Hx (w0 := w) [0, 1] [(w.heap.size, Obj.cells (txA t) 26 (0, 0))] rfl E1.out ?_
  refine lexH_phase [0, 1] [] ?_
  have hw1 : EnvX w _ [(w.heap.size, Obj.cells (txA t) 26 (0, 0))] := E1.out
  have hone := @EnvC.one _ _ _ hw1
  (refine wpG_call (f := 9) (args := #[]) (v := .bool true) rfl rfl rfl Tryd.func9 rfl rfl (fun u hu => HAW.out u (EnvX.sub hu (fun _ h => by cases h))) ?_ hw1; intro K hK; go_big_quiet_op; go_big_quiet_on)
  (refine wpG_op rfl rfl rfl ?_; intro K hK; go_big_quiet_op; go_big_quiet_on)
  clear hone hw1
  refine wpG_nil ?_
  intro u3 E2'
  have EX2 := Lib.hid E2'
  clear E2'
  go_upto_region 2 with (fail)
  refine wp_region_Hx (w0 := w) [0, 1, 2] [(w.heap.size, Obj.cells (txA t) 26 (0, 0))] rfl EX2.out ?_
  refine lexH_phase [0, 1, 2] [] ?_
  have hw4 : EnvX w _ [(w.heap.size, Obj.cells (txA t) 26 (0, 0))] := EX2.out
  have hone := @EnvC.one _ _ _ hw4
  (refine wpG_val (v := txV t) rfl rfl (fun u hu => load_any_op u (box_tx hu (List.Mem.head _)) rfl) ?_ hw4; intro K hK; go_big_quiet_op; go_big_quiet_on)
  (refine wpG_call (f := 10) (args := #[txV t]) (v := .bool true) rfl rfl rfl Tryd.func10 rfl rfl (fun u hu => by have h1 := few_any t u (K_t.out.up (EnvX.bel hu)); rwa [HF_t.out] at h1) ?_ hw4; intro K hK; go_big_quiet_op; go_big_quiet_on)
  (refine wpG_op rfl rfl rfl ?_; intro K hK; go_big_quiet_op; go_big_quiet_on)
  clear hone hw4
  refine wpG_nil ?_
  intro u6 E2'
  have EX5 := Lib.hid E2'
  clear E2'
  go_upto_region 3 with (fail)
  refine wp_region_Hx (w0 := w) [0, 1, 2, 3, 4, 5, 6, 7, 8, 9, 10] [(w.heap.size, Obj.cells (txA t) 26 (0, 0))] rfl EX5.out ?_
  refine lexH_phase [0, 1, 2, 3, 4, 5, 6, 7, 8, 9, 10] [] ?_
  have hw7 : EnvX w _ [(w.heap.size, Obj.cells (txA t) 26 (0, 0))] := EX5.out
  have hone := @EnvC.one _ _ _ hw7
  iterate 8 (refine wpG_op rfl rfl rfl ?_; intro K hK; go_big_quiet_op; go_big_quiet_on)
  (refine wpG_val (v := .int .i64 (n : Int)) rfl rfl (fun u hu => len_op Tryd.underlying22 HN63.out u rfl) ?_ hw7; intro K hK; go_big_quiet_op; go_big_quiet_on)
  (refine wpG_val (v := .bool false) rfl rfl (fun u hu => gtZ_op u D60.out rfl rfl) ?_ hw7; intro K hK; go_big_quiet_op; go_big_quiet_on)
  (refine wpG_op rfl rfl rfl ?_; intro K hK; go_big_quiet_op; go_big_quiet_on)
  clear hone hw7
  refine wpG_nil ?_
  intro u9 E2'
  have EX8 := Lib.hid E2'
  clear E2'
  go_upto_region 5 with (fail)
  refine wp_region_Hx (w0 := w) [0, 1, 2, 3, 4, 5, 6, 7, 8, 9] [(w.heap.size, Obj.cells (txA t) 26 (0, 0))] rfl EX8.out ?_
  refine lexH_phase [0, 1] [2, 3, 4, 5, 6, 7, 8, 9] ?_
  have hw10 : EnvX w _ [(w.heap.size, Obj.cells (txA t) 26 (0, 0))] := EX8.out
  have hone := @EnvC.one _ _ _ hw10
  (refine wpG_op rfl rfl rfl ?_; intro K hK; go_big_quiet_op; go_big_quiet_on)
  (refine wpG_val (v := txV t) rfl rfl (fun u hu => load_any_op u (box_tx hu (List.Mem.head _)) rfl) ?_ hw10; intro K hK; go_big_quiet_op; go_big_quiet_on)
  clear hone hw10
  refine wpG_nil ?_
  refine (hOp_turn (gd := none) (R := fun x M' => ∃ A c N, x = .tuple #[.slice A (a).length c, .int .i64 na, .int .i64 ((ea + 1 : Nat) : Int)] ∧ M' = N ++ [(w.heap.size, Obj.cells (txA t) 26 (0, 0))] ∧ ((a).length ≤ c ∧ c ≤ maxLen) ∧ CoB (a) A N) rfl rfl rfl rfl (fun u hu => OUpon_call (fid := 12) (xs := #[.tmp 38, .tmp 39]) (args := #[.slice A n c, txV t]) rfl Tryd.func12 rfl rfl u (co_turn3 (by have h := HH.out.spend p A n c t u HL.out HN48.out HNC.out.1 HNC.out.2 HPP.out (CellsIn.up HAA.out (EnvX.bel hu)) (K_t.out.up (EnvX.bel hu)) HF_t.out (HT.out.below (EnvX.bel hu)); rwa [HSP.out] at h) hu)) ?_)
  rintro _ _ ⟨A5, c5, N5, rfl, rfl, hc5, hb5⟩ he11; intro K' hK'; go_big_quiet_op; go_big_quiet_on
  have HC5 := Lib.hid hc5
  have HB5 := Lib.hid hb5
  clear hc5 hb5
  change lexH _ _ _ _ _ _ (N5 ++ ((w.heap.size, Obj.cells (txA t) 26 (0, 0)) :: []))
  refine lexH_phase [3, 4, 5, 6, 7, 8, 9] [] ?_
  have hw12 : EnvX w _ (N5 ++ ((w.heap.size, Obj.cells (txA t) 26 (0, 0)) :: [])) := he11.choose_spec
  have hone := @EnvC.one _ _ _ hw12
  iterate 7 (refine wpG_op rfl rfl rfl ?_; intro K hK; go_big_quiet_op; go_big_quiet_on)
  clear hone hw12
  refine wpG_nil ?_
  intro u14 E2'
  have EX13 := Lib.hid E2'
  clear E2'
  go_upto_region 6 with (fail)
  refine wp_region_Hx (w0 := w) [0, 1] (N5 ++ ((w.heap.size, Obj.cells (txA t) 26 (0, 0)) :: [])) rfl EX13.out ?_
  refine lexH_phase [0, 1] [] ?_
  have hw15 : EnvX w _ (N5 ++ ((w.heap.size, Obj.cells (txA t) 26 (0, 0)) :: [])) := EX13.out
  have hone := @EnvC.one _ _ _ hw15
  (refine wpG_op rfl rfl rfl ?_; intro K hK; go_big_quiet_op; go_big_quiet_on)
  (refine wpG_val (v := .bool true) rfl rfl (fun u hu => neErr_op u (decide_eq_true (by omega)) rfl rfl) ?_ hw15; intro K hK; go_big_quiet_op; go_big_quiet_on)
  clear hone hw15
  refine wpG_nil ?_
  intro u17 E2'
  have EX16 := Lib.hid E2'
  clear E2'
  go_upto_region 7 with (fail)
  refine wp_region_Hx (w0 := w) [0] (N5 ++ ((w.heap.size, Obj.cells (txA t) 26 (0, 0)) :: [])) rfl EX16.out ?_
  refine lexH_phase [0] [] ?_
  have hw18 : EnvX w _ (N5 ++ ((w.heap.size, Obj.cells (txA t) 26 (0, 0)) :: [])) := EX16.out
  have hone := @EnvC.one _ _ _ hw18
  (refine wpG_op rfl rfl rfl ?_; intro K hK; go_big_quiet_op; go_big_quiet_on)
  clear hone hw18
  refine wpG_nil ?_
  intro u20 E2'
  have EX19 := Lib.hid E2'
  clear E2'
  have HBE := Lib.hid (EnvX.bel EX19.out)
  go_wp2
  go_ret
  exact ⟨rfl, HBE.out⟩
set_option maxRecDepth 20000 in
set_option maxHeartbeats 8000000 in
theorem law_spends_main (H : PurseC) (G : IdC) (p : List CoinR) (t : TxM) (k : Int) (A : Option Addr) (n c : Nat) (w : World) (hl : p.length = n) (hnc : n ≤ c) (hcm : c ≤ maxLen) (hI : okP p) (hA : CoinsIn w w.heap.size A p) (kt : TxOk w t) (ht : Tables w) (k1 : fewX t.r = true) (k2 : ¬ 60 < n) {a : List CoinR} {na : Int} (hsp : spendP p t.r = (a, na, 0)) :
    Calls Tryd.prog 5 #[.slice A n c, txV t, .int .i64 k] w fun e w' => e = .returned (.bool true) ∧ Below w.heap.size w w' := by
  have HT := Lib.hid ht
  have HH := Lib.hid H
  have HN63 : Hid (n < 9223372036854775808) := by show _ < _; unfold maxLen at hcm; omega
  have HL := Lib.hid hl
  have HNC := Lib.hid (And.intro hnc hcm)
  have HPP := Lib.hid hI
  have HAA : Hid (CoinsIn w w.heap.size A p) := hA
  have K_t := Lib.hid kt
  have HAW : Hid (∀ u, EnvX w u [] → Calls Tryd.prog 9 #[] u fun e w' => e = .returned (.bool true) ∧ Below u.heap.size u w') := fun u hu => pawake_any H u (ht.below (EnvX.bel hu))
  have E1 : Hid (EnvX w (w.alloc (.cells (txA t) 26)) [(w.heap.size, Obj.cells (txA t) 26 (0, 0))]) := (EnvX.start w).new _
  have GG := Lib.hid G
  have HF_t : Hid (fewX t.r = true) := k1
  have D60 : Hid (decide ((60 : Int) < (n : Int)) = false) := decide_eq_false (by omega)
  have HN60 : Hid (n ≤ 60) := by show _ ≤ _; omega
  clear k1 G k2
  clear ht H hl hnc hcm hI hA kt
  unfold txV
  go_enter Tryd.func5, Tryd.ntmps5
  go_upto_region 1 with (fail)
  generalize w.alloc (.cells (txA t) 26) = W at *
  have HN48 : Hid (n ≤ 1000) := by have := HN60.out; show _ ≤ _; omega
  have hsl := spend_len HPP.out (by rw [HL.out]; exact HN60.out) t.r hsp
  have HAO := Lib.hid hsl.1
  have HA48 := Lib.hid hsl.2
  have HSP := Lib.hid hsp
  clear hsl
  have HM1 : Hid (t.n1 < 9223372036854775808) := K_t.out.n63.1
  have HM2 : Hid (t.n2 < 9223372036854775808) := K_t.out.n63.2
  have hid := idX_id t.r
  have HIDT : Hid (∀ u, Below w.heap.size w u → Calls Tryd.prog 24 #[txV t] u fun e w' => e = .returned (idv (idX t.r)) ∧ Below u.heap.size u w') := fun u hu => GG.out t u (K_t.out.up hu) (HT.out.below hu)
  have HGN : Hid ((∀ x ∈ t.r.ins, x.tx ≠ idX t.r) → _) := fun h => spend_gone HPP.out.id hsp h
  have HF6 : Hid (t.r.ins.length ≤ 6 ∧ t.r.outs.length ≤ 6) := by
    have h := HF_t.out
    unfold fewX at h
    rwa [decide_eq_true_eq] at h
  obtain ⟨id, hide⟩ : ∃ id, idX t.r = id := ⟨_, rfl⟩
  rw [hide] at HIDT hid HGN
  have HID : Hid (isId id) := hid
  have HIL : Hid (id.length = 32) := hid.1
  have HQ63 : Hid (a.length < 9223372036854775808) := by have := HA48.out; show _ < _; omega
  clear hsp hide hid
  refine wp_region_Hx (w0 := w) [0, 1] [(w.heap.size, Obj.cells (txA t) 26 (0, 0))] rfl E1.out ?_
  refine lexH_phase [0, 1] [] ?_
  have hw1 : EnvX w _ [(w.heap.size, Obj.cells (txA t) 26 (0, 0))] := E1.out
  have hone := @EnvC.one _ _ _ hw1
  (refine wpG_call (f := 9) (args := #[]) (v := .bool true) rfl rfl rfl Tryd.func9 rfl rfl (fun u hu => HAW.out u (EnvX.sub hu (fun _ h => by cases h))) ?_ hw1; intro K hK; go_big_quiet_op; go_big_quiet_on)
  (refine wpG_op rfl rfl rfl ?_; intro K hK; go_big_quiet_op; go_big_quiet_on)
  clear hone hw1
  refine wpG_nil ?_
  intro u3 E2'
  have EX2 := Lib.hid E2'
  clear E2'
  go_upto_region 2 with (fail)
  refine wp_region_Hx (w0 := w) [0, 1, 2] [(w.heap.size, Obj.cells (txA t) 26 (0, 0))] rfl EX2.out ?_
  refine lexH_phase [0, 1, 2] [] ?_
  have hw4 : EnvX w _ [(w.heap.size, Obj.cells (txA t) 26 (0, 0))] := EX2.out
  have hone := @EnvC.one _ _ _ hw4
  (refine wpG_val (v := txV t) rfl rfl (fun u hu => load_any_op u (box_tx hu (List.Mem.head _)) rfl) ?_ hw4; intro K hK; go_big_quiet_op; go_big_quiet_on)
  (refine wpG_call (f := 10) (args := #[txV t]) (v := .bool true) rfl rfl rfl Tryd.func10 rfl rfl (fun u hu => by have h1 := few_any t u (K_t.out.up (EnvX.bel hu)); rwa [HF_t.out] at h1) ?_ hw4; intro K hK; go_big_quiet_op; go_big_quiet_on)
  (refine wpG_op rfl rfl rfl ?_; intro K hK; go_big_quiet_op; go_big_quiet_on)
  clear hone hw4
  refine wpG_nil ?_
  intro u6 E2'
  have EX5 := Lib.hid E2'
  clear E2'
  go_upto_region 3 with (fail)
  refine wp_region_Hx (w0 := w) [0, 1, 2, 3, 4, 5, 6, 7, 8, 9, 10] [(w.heap.size, Obj.cells (txA t) 26 (0, 0))] rfl EX5.out ?_
  refine lexH_phase [0, 1, 2, 3, 4, 5, 6, 7, 8, 9, 10] [] ?_
  have hw7 : EnvX w _ [(w.heap.size, Obj.cells (txA t) 26 (0, 0))] := EX5.out
  have hone := @EnvC.one _ _ _ hw7
  iterate 8 (refine wpG_op rfl rfl rfl ?_; intro K hK; go_big_quiet_op; go_big_quiet_on)
  (refine wpG_val (v := .int .i64 (n : Int)) rfl rfl (fun u hu => len_op Tryd.underlying22 HN63.out u rfl) ?_ hw7; intro K hK; go_big_quiet_op; go_big_quiet_on)
  (refine wpG_val (v := .bool false) rfl rfl (fun u hu => gtZ_op u D60.out rfl rfl) ?_ hw7; intro K hK; go_big_quiet_op; go_big_quiet_on)
  (refine wpG_op rfl rfl rfl ?_; intro K hK; go_big_quiet_op; go_big_quiet_on)
  clear hone hw7
  refine wpG_nil ?_
  intro u9 E2'
  have EX8 := Lib.hid E2'
  clear E2'
  go_upto_region 5 with (fail)
  refine wp_region_Hx (w0 := w) [0, 1, 2, 3, 4, 5, 6, 7, 8, 9] [(w.heap.size, Obj.cells (txA t) 26 (0, 0))] rfl EX8.out ?_
  refine lexH_phase [0, 1] [2, 3, 4, 5, 6, 7, 8, 9] ?_
  have hw10 : EnvX w _ [(w.heap.size, Obj.cells (txA t) 26 (0, 0))] := EX8.out
  have hone := @EnvC.one _ _ _ hw10
  (refine wpG_op rfl rfl rfl ?_; intro K hK; go_big_quiet_op; go_big_quiet_on)
  (refine wpG_val (v := txV t) rfl rfl (fun u hu => load_any_op u (box_tx hu (List.Mem.head _)) rfl) ?_ hw10; intro K hK; go_big_quiet_op; go_big_quiet_on)
  clear hone hw10
  refine wpG_nil ?_
  refine (hOp_turn (gd := none) (R := fun x M' => ∃ A c N, x = .tuple #[.slice A (a).length c, .int .i64 na, .int .i64 ((0 : Nat) : Int)] ∧ M' = N ++ [(w.heap.size, Obj.cells (txA t) 26 (0, 0))] ∧ ((a).length ≤ c ∧ c ≤ maxLen) ∧ CoB (a) A N) rfl rfl rfl rfl (fun u hu => OUpon_call (fid := 12) (xs := #[.tmp 38, .tmp 39]) (args := #[.slice A n c, txV t]) rfl Tryd.func12 rfl rfl u (co_turn3 (by have h := HH.out.spend p A n c t u HL.out HN48.out HNC.out.1 HNC.out.2 HPP.out (CellsIn.up HAA.out (EnvX.bel hu)) (K_t.out.up (EnvX.bel hu)) HF_t.out (HT.out.below (EnvX.bel hu)); rwa [HSP.out] at h) hu)) ?_)
  rintro _ _ ⟨A5, c5, N5, rfl, rfl, hc5, hb5⟩ he11; intro K' hK'; go_big_quiet_op; go_big_quiet_on
  have HC5 := Lib.hid hc5
  have HB5 := Lib.hid hb5
  clear hc5 hb5
  change lexH _ _ _ _ _ _ (N5 ++ ((w.heap.size, Obj.cells (txA t) 26 (0, 0)) :: []))
  refine lexH_phase [3, 4, 5, 6, 7, 8, 9] [] ?_
  have hw12 : EnvX w _ (N5 ++ ((w.heap.size, Obj.cells (txA t) 26 (0, 0)) :: [])) := he11.choose_spec
  have hone := @EnvC.one _ _ _ hw12
  iterate 7 (refine wpG_op rfl rfl rfl ?_; intro K hK; go_big_quiet_op; go_big_quiet_on)
  clear hone hw12
  refine wpG_nil ?_
  intro u14 E2'
  have EX13 := Lib.hid E2'
  clear E2'
  go_upto_region 6 with (fail)
  refine wp_region_Hx (w0 := w) [0, 1] (N5 ++ ((w.heap.size, Obj.cells (txA t) 26 (0, 0)) :: [])) rfl EX13.out ?_
  refine lexH_phase [0, 1] [] ?_
  have hw15 : EnvX w _ (N5 ++ ((w.heap.size, Obj.cells (txA t) 26 (0, 0)) :: [])) := EX13.out
  have hone := @EnvC.one _ _ _ hw15
  (refine wpG_op rfl rfl rfl ?_; intro K hK; go_big_quiet_op; go_big_quiet_on)
  (refine wpG_val (v := .bool false) rfl rfl (fun u hu => neErr_op u (decide_eq_false (by omega)) rfl rfl) ?_ hw15; intro K hK; go_big_quiet_op; go_big_quiet_on)
  clear hone hw15
  refine wpG_nil ?_
  intro u17 E2'
  have EX16 := Lib.hid E2'
  clear E2'
  go_upto_region 8 with (fail)
  refine wp_region_Hx (w0 := w) [0, 1, 2, 3] (N5 ++ ((w.heap.size, Obj.cells (txA t) 26 (0, 0)) :: [])) rfl EX16.out ?_
  refine lexH_phase [0, 1] [2, 3] ?_
  have hw18 : EnvX w _ (N5 ++ ((w.heap.size, Obj.cells (txA t) 26 (0, 0)) :: [])) := EX16.out
  have hone := @EnvC.one _ _ _ hw18
  (refine wpG_val (v := txV t) rfl rfl (fun u hu => load_any_op u (box_tx hu (List.mem_append_right _ (List.Mem.head _))) rfl) ?_ hw18; intro K hK; go_big_quiet_op; go_big_quiet_on)
  (refine wpG_call (f := 24) (args := #[txV t]) (v := idv id) rfl rfl rfl Tryd.func24 rfl rfl (fun u hu => HIDT.out u (EnvX.bel hu)) ?_ hw18; intro K hK; go_big_quiet_op; go_big_quiet_on)
  clear hone hw18
  refine wpG_nil ?_
  refine (hOp_fresh (R := fun x N => ∃ g, x = .pointer (some ⟨g, 0, none⟩) ∧ N = [(g, Obj.cells (arrB 32 []) 40 (0, 0))]) (M0 := (N5 ++ ((w.heap.size, Obj.cells (txA t) 26 (0, 0)) :: []))) rfl rfl (fun _ h => h) (fun u hu => FAt_new (new_id _) u) ?_)
  rintro _ _ ⟨gi, rfl, rfl⟩ hf he19; intro K' hK'; go_big_quiet_op; go_big_quiet_on
  have HGI := Lib.hid (hf _ (List.mem_singleton.2 rfl))
  clear hf
  change lexH _ _ _ _ _ _ ((gi, Obj.cells (arrB 32 []) 40 (0, 0)) :: (N5 ++ ((w.heap.size, Obj.cells (txA t) 26 (0, 0)) :: [])))
  refine (hOp_store rfl (gi) (arrB 32 id) rfl rfl HGI.out.1 40 ((arrB 32 [])) (List.Mem.head _) (info26 _ (arrB_size _ _ (by rw [HIL.out]; exact Nat.le_refl _))) ((arrB_size _ _ (by simp)).trans (arrB_size _ _ (by rw [HIL.out]; exact Nat.le_refl _)).symm) (arrB_one _ _) ((gi, Obj.cells (arrB 32 id) 40 (0, 0)) :: (N5 ++ ((w.heap.size, Obj.cells (txA t) 26 (0, 0)) :: []))) (List.forall_mem_cons.2 ⟨.inl rfl, fun y hy => .inr ⟨List.mem_cons_of_mem _ hy, HGI.out.2 y hy⟩⟩) ?_)
  intro he20
  intro u22 E2'
  have EX21 := Lib.hid E2'
  clear E2'
  obtain ⟨A1, hA1⟩ : ∃ A1, t.A1 = A1 := ⟨_, rfl⟩
  obtain ⟨n1, hn1⟩ : ∃ n1, t.n1 = n1 := ⟨_, rfl⟩
  obtain ⟨c1, hc1⟩ : ∃ c1, t.c1 = c1 := ⟨_, rfl⟩
  obtain ⟨A2, hA2⟩ : ∃ A2, t.A2 = A2 := ⟨_, rfl⟩
  obtain ⟨n2, hn2⟩ : ∃ n2, t.n2 = n2 := ⟨_, rfl⟩
  obtain ⟨c2, hc2⟩ : ∃ c2, t.c2 = c2 := ⟨_, rfl⟩
  have HLI : Hid (∀ u, EnvX w u ((gi, Obj.cells (arrB 32 id) 40 (0, 0)) :: (N5 ++ ((w.heap.size, Obj.cells (txA t) 26 (0, 0)) :: []))) → (loadVar 23 ⟨w.heap.size, 0, none⟩).run Tryd.prog u = .ok (.slice A1 n1 c1) u) := fun u hu => by
    have h := box_tx_ins hu (List.Mem.tail _ (List.mem_append_right _ (List.Mem.head _)))
    rwa [hA1, hn1, hc1] at h
  have HLO : Hid (∀ u, EnvX w u ((gi, Obj.cells (arrB 32 id) 40 (0, 0)) :: (N5 ++ ((w.heap.size, Obj.cells (txA t) 26 (0, 0)) :: []))) → (loadVar 24 ⟨w.heap.size, 1, none⟩).run Tryd.prog u = .ok (.slice A2 n2 c2) u) := fun u hu => by
    have h := box_tx_outs hu (List.Mem.tail _ (List.mem_append_right _ (List.Mem.head _)))
    rwa [hA2, hn2, hc2] at h
  have HLY : Hid (∀ u, EnvX w u ((gi, Obj.cells (arrB 32 id) 40 (0, 0)) :: (N5 ++ ((w.heap.size, Obj.cells (txA t) 26 (0, 0)) :: []))) → (loadVar 40 ⟨gi, 0, none⟩).run Tryd.prog u = .ok (idv id) u) := fun u hu => box_idvP hu (List.Mem.head _) HIL.out
  have HRD : Hid (∀ u, EnvX w u ((gi, Obj.cells (arrB 32 id) 40 (0, 0)) :: (N5 ++ ((w.heap.size, Obj.cells (txA t) 26 (0, 0)) :: []))) → CoinsIn u u.heap.size A5 a) := fun u hu => CoB.read HB5.out hu (fun y MEM => (List.Mem.tail _ (List.mem_append_left _ MEM)))
  have HLQ : Hid (∀ wr, EnvX w wr ((gi, Obj.cells (arrB 32 id) 40 (0, 0)) :: (N5 ++ ((w.heap.size, Obj.cells (txA t) 26 (0, 0)) :: []))) → ∀ k, k < a.length → ∃ ad, A5 = some ad ∧ ∀ u, EnvX w u ((gi, Obj.cells (arrB 32 id) 40 (0, 0)) :: (N5 ++ ((w.heap.size, Obj.cells (txA t) 26 (0, 0)) :: []))) →
    (loadVar 50 (ad.add (k * 35))).run Tryd.prog u = .ok (coV (a.getD k noC0)) u ∧
    (loadVar 48 ((ad.add (k * 35)).add 33)).run Tryd.prog u = .ok (outV (outK (a.getD k noC0))) u) := fun wr hr k hk => coB_loads HB5.out HAO.out hr (fun y MEM => (List.Mem.tail _ (List.mem_append_left _ MEM))) hk
  have HL1 : Hid (t.r.ins.length = n1) := by show _ = _; rw [← hn1]; exact K_t.out.l1
  have HL2 : Hid (t.r.outs.length = n2) := by show _ = _; rw [← hn2]; exact K_t.out.l2
  rw [hn1] at HM1
  rw [hn2] at HM2
  have HA1 := Lib.hid hA1
  have HA2 := Lib.hid hA2
  have EJ := Lib.hid EX21.out
  clear EX21 hA1 hn1 hc1 hA2 hn2 hc2
  go_upto_region 10 with (fail)
  go_loopw [13] (fun iv u => ∃ i : Nat, i ≤ n1 ∧ iv = .int .i64 (i : Int) ∧ Hid ((∀ j, j < i → (t.r.ins.getD j noIn).tx ≠ id) ∧ EnvX w u ((gi, Obj.cells (arrB 32 id) 40 (0, 0)) :: (N5 ++ ((w.heap.size, Obj.cells (txA t) 26 (0, 0)) :: []))))) (fun iv _ => n1 - (intOf iv).toNat)
  case atStart => exact ⟨0, by omega, rfl, (fun j hj => by omega), EJ.out⟩
  case round =>
    obtain ⟨i, hi, rfl, hinv⟩ := hrel
    have EK := Lib.hid hinv.out.2
    have H1 := Lib.hid hinv.out.1
    clear hinv EJ
    by_cases hlt : i < n1
    · have C8 : Hid (decide ((i : Int) < (n1 : Int)) = true) := decide_eq_true (by omega)
      have HI := Lib.hid hlt
      have hil : i < t.r.ins.length := by rw [HL1.out]; exact hlt
      have HIL1 := Lib.hid hil
      obtain ⟨ad, hA1, -, hld⟩ := K_t.out.m1.loads K_t.out.o1 hil
      have hA1' : A1 = some ad := by rw [← HA1.out]; exact hA1
      subst hA1'
      have HLD : Hid (∀ u, EnvX w u [] → (loadVar 42 (ad.add (i * 33))).run Tryd.prog u = .ok (inV (t.r.ins.getD i noIn)) u) := fun u hu => (hld u hu).1
      have HLX : Hid (∀ u, EnvX w u [] → (loadVar 40 ((ad.add (i * 33)).add 0)).run Tryd.prog u = .ok (idv (t.r.ins.getD i noIn).tx) u) := fun u hu => by
        have h := (hld u hu).2.1
        rwa [show ((ad.add (i * 33)).add 0) = ad.add (i * 33) by unfold Addr.add; rfl]
      have HX : Hid (okIn (t.r.ins.getD i noIn)) := K_t.out.o1.get hil
      obtain ⟨x, hx⟩ : ∃ x, t.r.ins.getD i noIn = x := ⟨_, rfl⟩
      rw [hx] at HLD HLX HX
      have HXE := Lib.hid hx
      have HXL : Hid (lenI x) := HX.out.len
      clear hld hil hlt hx hA1
      have HX32 : Hid (x.tx.length = 32) := HX.out.1.1
      obtain ⟨b, hb⟩ : ∃ b, eqL x.tx id = b := ⟨_, rfl⟩
      have HEQ := Lib.hid hb
      clear hb
      go_upto_region 10 with (fail)
      refine wp_region_Hx (w0 := w) [0, 1, 2, 3, 4] ((gi, Obj.cells (arrB 32 id) 40 (0, 0)) :: (N5 ++ ((w.heap.size, Obj.cells (txA t) 26 (0, 0)) :: []))) rfl EK.out ?_
      refine lexH_phase [0, 1, 2, 3, 4] [] ?_
      have hw61 : EnvX w _ ((gi, Obj.cells (arrB 32 id) 40 (0, 0)) :: (N5 ++ ((w.heap.size, Obj.cells (txA t) 26 (0, 0)) :: []))) := EK.out
      have hone := @EnvC.one _ _ _ hw61
      (refine wpG_op rfl rfl rfl ?_; intro K hK; go_big_quiet_op; go_big_quiet_on)
      (refine wpG_val (v := .pointer (some ⟨w.heap.size, 0, none⟩)) rfl rfl (fun u hu => fieldTx_op (k := 0) (off := 0) (ad := ⟨w.heap.size, 0, none⟩) rfl u rfl) ?_ hw61; intro K hK; go_big_quiet_op; go_big_quiet_on)
      (refine wpG_val (v := .slice (some ad) n1 c1) rfl rfl (fun u hu => load_any_op u (HLI.out u hu) rfl) ?_ hw61; intro K hK; go_big_quiet_op; go_big_quiet_on)
      (refine wpG_val (v := .int .i64 (n1 : Int)) rfl rfl (fun u hu => len_op Tryd.underlying23 HM1.out u rfl) ?_ hw61; intro K hK; go_big_quiet_op; go_big_quiet_on)
      (refine wpG_val (v := .bool true) rfl rfl (fun u hu => ltZ_op u C8.out rfl rfl) ?_ hw61; intro K hK; go_big_quiet_op; go_big_quiet_on)
      clear hone hw61
      refine wpG_nil ?_
      intro u63 E2'
      have EX62 := Lib.hid E2'
      clear E2'
      cases b with
      | true =>
        go_upto_region 12 with (fail)
        refine wp_region_H (w0 := w) ((gi, Obj.cells (arrB 32 id) 40 (0, 0)) :: (N5 ++ ((w.heap.size, Obj.cells (txA t) 26 (0, 0)) :: []))) (by kernel_rfl) EX62.out ?_
        refine anyH_phase [0, 1, 2, 3, 4, 5, 6, 7] 0 rfl ⟨_, (EnvX.drew EX62.out)⟩ (by kernel_rfl) ?_
        have hw64 : EnvX w _ ((gi, Obj.cells (arrB 32 id) 40 (0, 0)) :: (N5 ++ ((w.heap.size, Obj.cells (txA t) 26 (0, 0)) :: []))) := (EnvX.drew EX62.out)
        have hone := @EnvC.one _ _ _ hw64
        (refine wpG_val (v := .pointer (some ⟨w.heap.size, 0, none⟩)) rfl rfl (fun u hu => fieldTx_op (k := 0) (off := 0) (ad := ⟨w.heap.size, 0, none⟩) rfl u rfl) ?_ hw64; intro K hK; go_big_quiet_op; go_big_quiet_on)
        (refine wpG_val (v := .slice (some ad) n1 c1) rfl rfl (fun u hu => load_any_op u (HLI.out u hu) rfl) ?_ hw64; intro K hK; go_big_quiet_op; go_big_quiet_on)
        (refine wpG_op rfl rfl rfl ?_; intro K hK; go_big_quiet_op; go_big_quiet_on)
        (refine wpG_val (v := .pointer (some (ad.add (i * 33)))) rfl rfl (fun u hu => idxSl_op (i := i) Tryd.underlying23 aggIn.size HI.out u rfl rfl) ?_ hw64; intro K hK; go_big_quiet_op; go_big_quiet_on)
        (refine wpG_val (v := .pointer (some ((ad.add (i * 33)).add 0))) rfl rfl (fun u hu => fieldIn_op (k := 0) (off := 0) rfl u rfl) ?_ hw64; intro K hK; go_big_quiet_op; go_big_quiet_on)
        (refine wpG_val (v := idv x.tx) rfl rfl (fun u hu => load_any_op u (HLX.out u (EnvX.sub hu (fun _ h => by cases h))) rfl) ?_ hw64; intro K hK; go_big_quiet_op; go_big_quiet_on)
        (refine wpG_val (v := idv id) rfl rfl (fun u hu => load_any_op u (HLY.out u hu) rfl) ?_ hw64; intro K hK; go_big_quiet_op; go_big_quiet_on)
        (refine wpG_val (v := .bool true) rfl rfl (fun u hu => eqlb_op HX32.out HIL.out HEQ.out u rfl rfl) ?_ hw64; intro K hK; go_big_quiet_op; go_big_quiet_on)
        clear hone hw64
        refine wpG_nil ?_
        refine anyH_done (by kernel_rfl) ?_
        intro u66 E2'
        have EX65 := Lib.hid E2'
        clear E2'
        go_upto_region 13 with (fail)
        refine wp_region_Hx (w0 := w) [0] ((gi, Obj.cells (arrB 32 id) 40 (0, 0)) :: (N5 ++ ((w.heap.size, Obj.cells (txA t) 26 (0, 0)) :: []))) rfl EX65.out ?_
        refine lexH_phase [0] [] ?_
        have hw67 : EnvX w _ ((gi, Obj.cells (arrB 32 id) 40 (0, 0)) :: (N5 ++ ((w.heap.size, Obj.cells (txA t) 26 (0, 0)) :: []))) := EX65.out
        have hone := @EnvC.one _ _ _ hw67
        (refine wpG_op rfl rfl rfl ?_; intro K hK; go_big_quiet_op; go_big_quiet_on)
        clear hone hw67
        refine wpG_nil ?_
        intro u69 E2'
        have EX68 := Lib.hid E2'
        clear E2'
        have HBE := Lib.hid (EnvX.bel EX68.out)
        go_wp2
        go_ret
        exact ⟨rfl, HBE.out⟩
      | false =>
        have H3 : Hid (∀ j, j < i + 1 → (t.r.ins.getD j noIn).tx ≠ id) := fun j hj => by
          rcases Nat.lt_or_ge j i with h | h
          · exact H1.out j h
          · rw [show j = i by omega, HXE.out]; exact fun e => by
              have h1 := HEQ.out
              rw [e] at h1
              simp [eqL] at h1
        go_upto_region 12 with (fail)
        refine wp_region_H (w0 := w) ((gi, Obj.cells (arrB 32 id) 40 (0, 0)) :: (N5 ++ ((w.heap.size, Obj.cells (txA t) 26 (0, 0)) :: []))) (by kernel_rfl) EX62.out ?_
        refine anyH_phase [0, 1, 2, 3, 4, 5, 6, 7] 0 rfl ⟨_, (EnvX.drew EX62.out)⟩ (by kernel_rfl) ?_
        have hw64 : EnvX w _ ((gi, Obj.cells (arrB 32 id) 40 (0, 0)) :: (N5 ++ ((w.heap.size, Obj.cells (txA t) 26 (0, 0)) :: []))) := (EnvX.drew EX62.out)
        have hone := @EnvC.one _ _ _ hw64
        (refine wpG_val (v := .pointer (some ⟨w.heap.size, 0, none⟩)) rfl rfl (fun u hu => fieldTx_op (k := 0) (off := 0) (ad := ⟨w.heap.size, 0, none⟩) rfl u rfl) ?_ hw64; intro K hK; go_big_quiet_op; go_big_quiet_on)
        (refine wpG_val (v := .slice (some ad) n1 c1) rfl rfl (fun u hu => load_any_op u (HLI.out u hu) rfl) ?_ hw64; intro K hK; go_big_quiet_op; go_big_quiet_on)
        (refine wpG_op rfl rfl rfl ?_; intro K hK; go_big_quiet_op; go_big_quiet_on)
        (refine wpG_val (v := .pointer (some (ad.add (i * 33)))) rfl rfl (fun u hu => idxSl_op (i := i) Tryd.underlying23 aggIn.size HI.out u rfl rfl) ?_ hw64; intro K hK; go_big_quiet_op; go_big_quiet_on)
        (refine wpG_val (v := .pointer (some ((ad.add (i * 33)).add 0))) rfl rfl (fun u hu => fieldIn_op (k := 0) (off := 0) rfl u rfl) ?_ hw64; intro K hK; go_big_quiet_op; go_big_quiet_on)
        (refine wpG_val (v := idv x.tx) rfl rfl (fun u hu => load_any_op u (HLX.out u (EnvX.sub hu (fun _ h => by cases h))) rfl) ?_ hw64; intro K hK; go_big_quiet_op; go_big_quiet_on)
        (refine wpG_val (v := idv id) rfl rfl (fun u hu => load_any_op u (HLY.out u hu) rfl) ?_ hw64; intro K hK; go_big_quiet_op; go_big_quiet_on)
        (refine wpG_val (v := .bool false) rfl rfl (fun u hu => eqlb_op HX32.out HIL.out HEQ.out u rfl rfl) ?_ hw64; intro K hK; go_big_quiet_op; go_big_quiet_on)
        clear hone hw64
        refine wpG_nil ?_
        refine anyH_done (by kernel_rfl) ?_
        intro u66 E2'
        have EX65 := Lib.hid E2'
        clear E2'
        have hii := HI.out
        have hn := And.intro HM1.out HM2.out
        go_wp2
        go_roundw
        case rel => exact ⟨i + 1, by omega, by go_num, H3.out, EX65.out⟩
        case measure => simp [intOf]; omega
    · have hin : i = n1 := by omega
      have C8 : Hid (decide ((i : Int) < (n1 : Int)) = false) := decide_eq_false (by omega)
      have hg := HGN.out (fun x hx => by
        obtain ⟨j, hj, rfl⟩ := in_place hx
        exact H1.out j (by rw [hin, ← HL1.out]; exact hj))
      have HLEN := Lib.hid hg.1
      have HGO := Lib.hid hg.2.1
      have HGI3 := Lib.hid hg.2.2.1
      have HGA := Lib.hid hg.2.2.2.1
      have HGS := Lib.hid hg.2.2.2.2
      clear hg hin hlt HGN H1
      go_upto_region 10 with (fail)
      refine wp_region_Hx (w0 := w) [0, 1, 2, 3, 4] ((gi, Obj.cells (arrB 32 id) 40 (0, 0)) :: (N5 ++ ((w.heap.size, Obj.cells (txA t) 26 (0, 0)) :: []))) rfl EK.out ?_
      refine lexH_phase [0, 1, 2, 3, 4] [] ?_
      have hw201 : EnvX w _ ((gi, Obj.cells (arrB 32 id) 40 (0, 0)) :: (N5 ++ ((w.heap.size, Obj.cells (txA t) 26 (0, 0)) :: []))) := EK.out
      have hone := @EnvC.one _ _ _ hw201
      (refine wpG_op rfl rfl rfl ?_; intro K hK; go_big_quiet_op; go_big_quiet_on)
      (refine wpG_val (v := .pointer (some ⟨w.heap.size, 0, none⟩)) rfl rfl (fun u hu => fieldTx_op (k := 0) (off := 0) (ad := ⟨w.heap.size, 0, none⟩) rfl u rfl) ?_ hw201; intro K hK; go_big_quiet_op; go_big_quiet_on)
      (refine wpG_val (v := .slice A1 n1 c1) rfl rfl (fun u hu => load_any_op u (HLI.out u hu) rfl) ?_ hw201; intro K hK; go_big_quiet_op; go_big_quiet_on)
      (refine wpG_val (v := .int .i64 (n1 : Int)) rfl rfl (fun u hu => len_op Tryd.underlying23 HM1.out u rfl) ?_ hw201; intro K hK; go_big_quiet_op; go_big_quiet_on)
      (refine wpG_val (v := .bool false) rfl rfl (fun u hu => ltZ_op u C8.out rfl rfl) ?_ hw201; intro K hK; go_big_quiet_op; go_big_quiet_on)
      clear hone hw201
      refine wpG_nil ?_
      intro u203 E2'
      have EX202 := Lib.hid E2'
      clear E2'
      have HLE2 := HLEN.out
      rw [HL1.out, HL2.out, HL.out] at HLE2
      have HS14 : Hid (IntKind.i64.wrap ((n : Int) - (n1 : Int)) = (n : Int) - (n1 : Int)) := by have h1 := HF6.out; rw [HL1.out] at h1; have := HN60.out; exact wrapS (by omega)
      have HA14 : Hid (IntKind.i64.wrap ((n : Int) - (n1 : Int) + (n2 : Int)) = (a.length : Int)) := by show _ = _; rw [show (n : Int) - (n1 : Int) + (n2 : Int) = (a.length : Int) by omega]; have := HA48.out; exact wrapS (by omega)
      clear HLE2
      go_upto_region 14 with (fail)
      refine wp_region_Hx (w0 := w) [0, 1, 2, 3, 4, 5, 6, 7, 8, 9, 10, 11, 12] ((gi, Obj.cells (arrB 32 id) 40 (0, 0)) :: (N5 ++ ((w.heap.size, Obj.cells (txA t) 26 (0, 0)) :: []))) rfl EX202.out ?_
      refine lexH_phase [0, 1, 2, 3, 4, 5, 6, 7, 8, 9, 10, 11, 12] [] ?_
      have hw204 : EnvX w _ ((gi, Obj.cells (arrB 32 id) 40 (0, 0)) :: (N5 ++ ((w.heap.size, Obj.cells (txA t) 26 (0, 0)) :: []))) := EX202.out
      have hone := @EnvC.one _ _ _ hw204
      (refine wpG_op rfl rfl rfl ?_; intro K hK; go_big_quiet_op; go_big_quiet_on)
      (refine wpG_val (v := .int .i64 (a.length : Int)) rfl rfl (fun u hu => len_op Tryd.underlying22 HQ63.out u rfl) ?_ hw204; intro K hK; go_big_quiet_op; go_big_quiet_on)
      (refine wpG_op rfl rfl rfl ?_; intro K hK; go_big_quiet_op; go_big_quiet_on)
      (refine wpG_val (v := .int .i64 (n : Int)) rfl rfl (fun u hu => len_op Tryd.underlying22 HN63.out u rfl) ?_ hw204; intro K hK; go_big_quiet_op; go_big_quiet_on)
      (refine wpG_val (v := .pointer (some ⟨w.heap.size, 0, none⟩)) rfl rfl (fun u hu => fieldTx_op (k := 0) (off := 0) (ad := ⟨w.heap.size, 0, none⟩) rfl u rfl) ?_ hw204; intro K hK; go_big_quiet_op; go_big_quiet_on)
      (refine wpG_val (v := .slice A1 n1 c1) rfl rfl (fun u hu => load_any_op u (HLI.out u hu) rfl) ?_ hw204; intro K hK; go_big_quiet_op; go_big_quiet_on)
      (refine wpG_val (v := .int .i64 (n1 : Int)) rfl rfl (fun u hu => len_op Tryd.underlying23 HM1.out u rfl) ?_ hw204; intro K hK; go_big_quiet_op; go_big_quiet_on)
      (refine wpG_val (v := .int .i64 ((n : Int) - (n1 : Int))) rfl rfl (fun u hu => subZ_op u HS14.out rfl rfl) ?_ hw204; intro K hK; go_big_quiet_op; go_big_quiet_on)
      (refine wpG_val (v := .pointer (some ⟨w.heap.size, 1, none⟩)) rfl rfl (fun u hu => fieldTx_op (k := 1) (off := 1) (ad := ⟨w.heap.size, 0, none⟩) rfl u rfl) ?_ hw204; intro K hK; go_big_quiet_op; go_big_quiet_on)
      (refine wpG_val (v := .slice A2 n2 c2) rfl rfl (fun u hu => load_any_op u (HLO.out u hu) rfl) ?_ hw204; intro K hK; go_big_quiet_op; go_big_quiet_on)
      (refine wpG_val (v := .int .i64 (n2 : Int)) rfl rfl (fun u hu => len_op Tryd.underlying24 HM2.out u rfl) ?_ hw204; intro K hK; go_big_quiet_op; go_big_quiet_on)
      (refine wpG_val (v := .int .i64 (a.length : Int)) rfl rfl (fun u hu => addZ_op u HA14.out rfl rfl) ?_ hw204; intro K hK; go_big_quiet_op; go_big_quiet_on)
      (refine wpG_val (v := .bool false) rfl rfl (fun u hu => neZ_op u (decide_eq_false (fun h => h rfl)) rfl rfl) ?_ hw204; intro K hK; go_big_quiet_op; go_big_quiet_on)
      clear hone hw204
      refine wpG_nil ?_
      intro u206 E2'
      have EX205 := Lib.hid E2'
      clear E2'
      have EJ := Lib.hid EX205.out
      clear EX205
      go_upto_region 17 with (fail)
      go_loopw [14] (fun iv u => ∃ j : Nat, j ≤ n2 ∧ iv = .int .i64 (j : Int) ∧ Hid (EnvX w u ((gi, Obj.cells (arrB 32 id) 40 (0, 0)) :: (N5 ++ ((w.heap.size, Obj.cells (txA t) 26 (0, 0)) :: []))))) (fun iv _ => n2 - (intOf iv).toNat)
      case atStart => exact ⟨0, by omega, rfl, EJ.out⟩
      case round =>
        obtain ⟨j, hj, rfl, hinv⟩ := hrel
        have EK := Lib.hid hinv.out
        clear hinv EJ
        by_cases hlt : j < n2
        · have C8 : Hid (decide ((j : Int) < (n2 : Int)) = true) := decide_eq_true (by omega)
          have HI := Lib.hid hlt
          have hil : j < t.r.outs.length := by rw [HL2.out]; exact hlt
          obtain ⟨ad, hA2, -, hld⟩ := K_t.out.m2.loads hil
          have hA2' : A2 = some ad := by rw [← HA2.out]; exact hA2
          subst hA2'
          have HLD : Hid (∀ u, EnvX w u [] → (loadVar 48 (ad.add (j * 2))).run Tryd.prog u = .ok (outV (t.r.outs.getD j noOut)) u) := fun u hu => (hld u hu).1
          obtain ⟨kq, hkq, hfq, hoq⟩ := HGO.out j hil
          obtain ⟨aq, hAq, hlq⟩ := HLQ.out _ EK.out kq hkq
          subst hAq
          have hoe : outK (a.getD kq noC0) = t.r.outs.getD j noOut := by rw [getD_dC hkq]; exact hoq
          have HLO2 : Hid (∀ u, EnvX w u ((gi, Obj.cells (arrB 32 id) 40 (0, 0)) :: (N5 ++ ((w.heap.size, Obj.cells (txA t) 26 (0, 0)) :: []))) → (loadVar 48 ((aq.add (kq * 35)).add 33)).run Tryd.prog u = .ok (outV (t.r.outs.getD j noOut)) u) := fun u hu => by rw [← hoe]; exact (hlq u hu).2
          have HKQ := Lib.hid hkq
          have HFQ := Lib.hid hfq
          have HOK : Hid (okIn ⟨id, (j : Int)⟩) := ⟨HID.out, by have h1 := HF6.out.2; show I64 ((j : Nat) : Int); unfold I64; omega⟩
          obtain ⟨y, hy⟩ : ∃ y, t.r.outs.getD j noOut = y := ⟨_, rfl⟩
          rw [hy] at HLD HLO2
          have HG1 : Hid (decide ((kq : Int) < 0) = false) := decide_eq_false (by omega)
          have HG2 : Hid (decide ((a.length : Int) ≤ (kq : Int)) = false) := decide_eq_false (by omega)
          have HNO : Hid ((!eqO y y) = false) := by show _ = _; unfold eqO; rw [decide_eq_true rfl]; rfl
          clear hld hil hlt hA2 hkq hfq hoq hlq hoe hy
          go_upto_region 17 with (fail)
          refine wp_region_Hx (w0 := w) [0, 1, 2, 3, 4] ((gi, Obj.cells (arrB 32 id) 40 (0, 0)) :: (N5 ++ ((w.heap.size, Obj.cells (txA t) 26 (0, 0)) :: []))) rfl EK.out ?_
          refine lexH_phase [0, 1, 2, 3, 4] [] ?_
          have hw301 : EnvX w _ ((gi, Obj.cells (arrB 32 id) 40 (0, 0)) :: (N5 ++ ((w.heap.size, Obj.cells (txA t) 26 (0, 0)) :: []))) := EK.out
          have hone := @EnvC.one _ _ _ hw301
          (refine wpG_op rfl rfl rfl ?_; intro K hK; go_big_quiet_op; go_big_quiet_on)
          (refine wpG_val (v := .pointer (some ⟨w.heap.size, 1, none⟩)) rfl rfl (fun u hu => fieldTx_op (k := 1) (off := 1) (ad := ⟨w.heap.size, 0, none⟩) rfl u rfl) ?_ hw301; intro K hK; go_big_quiet_op; go_big_quiet_on)
          (refine wpG_val (v := .slice (some ad) n2 c2) rfl rfl (fun u hu => load_any_op u (HLO.out u hu) rfl) ?_ hw301; intro K hK; go_big_quiet_op; go_big_quiet_on)
          (refine wpG_val (v := .int .i64 (n2 : Int)) rfl rfl (fun u hu => len_op Tryd.underlying24 HM2.out u rfl) ?_ hw301; intro K hK; go_big_quiet_op; go_big_quiet_on)
          (refine wpG_val (v := .bool true) rfl rfl (fun u hu => ltZ_op u C8.out rfl rfl) ?_ hw301; intro K hK; go_big_quiet_op; go_big_quiet_on)
          clear hone hw301
          refine wpG_nil ?_
          intro u303 E2'
          have EX302 := Lib.hid E2'
          clear E2'
          go_upto_region 19 with (fail)
          refine wp_region_Hx (w0 := w) [0, 1, 2, 3, 4, 5] ((gi, Obj.cells (arrB 32 id) 40 (0, 0)) :: (N5 ++ ((w.heap.size, Obj.cells (txA t) 26 (0, 0)) :: []))) rfl EX302.out ?_
          refine lexH_phase [0, 1, 2, 3, 4, 5] [] ?_
          have hw304 : EnvX w _ ((gi, Obj.cells (arrB 32 id) 40 (0, 0)) :: (N5 ++ ((w.heap.size, Obj.cells (txA t) 26 (0, 0)) :: []))) := EX302.out
          have hone := @EnvC.one _ _ _ hw304
          (refine wpG_op rfl rfl rfl ?_; intro K hK; go_big_quiet_op; go_big_quiet_on)
          (refine wpG_val (v := idv id) rfl rfl (fun u hu => load_any_op u (HLY.out u hu) rfl) ?_ hw304; intro K hK; go_big_quiet_op; go_big_quiet_on)
          (refine wpG_op rfl rfl rfl ?_; intro K hK; go_big_quiet_op; go_big_quiet_on)
          (refine wpG_val (v := inV ⟨id, j⟩) rfl rfl (fun u hu => buildA_op u (built_in HIL.out)) ?_ hw304; intro K hK; go_big_quiet_op; go_big_quiet_on)
          (refine wpG_call (f := 18) (args := #[.slice (some aq) a.length c5, inV ⟨id, j⟩]) (v := .int .i64 (kq : Int)) rfl rfl rfl Tryd.func18 rfl rfl (fun u hu => by have h := HH.out.find a (some aq) a.length c5 ⟨id, (j : Int)⟩ u rfl HA48.out HC5.out.1 HC5.out.2 HAO.out (HRD.out u hu) HOK.out (HT.out.below (EnvX.bel hu)); rwa [HFQ.out] at h) ?_ hw304; intro K hK; go_big_quiet_op; go_big_quiet_on)
          (refine wpG_op rfl rfl rfl ?_; intro K hK; go_big_quiet_op; go_big_quiet_on)
          clear hone hw304
          refine wpG_nil ?_
          intro u306 E2'
          have EX305 := Lib.hid E2'
          clear E2'
          go_upto_region 20 with (fail)
          refine wp_region_H (w0 := w) ((gi, Obj.cells (arrB 32 id) 40 (0, 0)) :: (N5 ++ ((w.heap.size, Obj.cells (txA t) 26 (0, 0)) :: []))) (by kernel_rfl) EX305.out ?_
          refine anyH_phase [0, 1, 2, 3, 4, 5, 6, 7, 8, 9, 10, 11, 12, 13, 14, 15, 16, 17, 18, 19, 20] 0 rfl ⟨_, (EnvX.drew EX305.out)⟩ (by kernel_rfl) ?_
          have hw307 : EnvX w _ ((gi, Obj.cells (arrB 32 id) 40 (0, 0)) :: (N5 ++ ((w.heap.size, Obj.cells (txA t) 26 (0, 0)) :: []))) := (EnvX.drew EX305.out)
          have hone := @EnvC.one _ _ _ hw307
          (refine wpG_op rfl rfl rfl ?_; intro K hK; go_big_quiet_op; go_big_quiet_on)
          (refine wpG_val (v := .bool false) rfl rfl (fun u hu => ltZ_op u HG1.out rfl rfl) ?_ hw307; intro K hK; go_big_quiet_op; go_big_quiet_on)
          iterate 3 (refine wpG_op rfl rfl rfl ?_; intro K hK; go_big_quiet_op; go_big_quiet_on)
          (refine wpG_val (v := .int .i64 (a.length : Int)) rfl rfl (fun u hu => len_op Tryd.underlying22 HQ63.out u rfl) ?_ hw307; intro K hK; go_big_quiet_op; go_big_quiet_on)
          (refine wpG_val (v := .bool false) rfl rfl (fun u hu => geZ_op u HG2.out rfl rfl) ?_ hw307; intro K hK; go_big_quiet_op; go_big_quiet_on)
          iterate 4 (refine wpG_op rfl rfl rfl ?_; intro K hK; go_big_quiet_op; go_big_quiet_on)
          (refine wpG_val (v := .pointer (some (aq.add (kq * 35)))) rfl rfl (fun u hu => idxSl_op (i := kq) Tryd.underlying22 aggCo.size HKQ.out u rfl rfl) ?_ hw307; intro K hK; go_big_quiet_op; go_big_quiet_on)
          (refine wpG_val (v := .pointer (some ((aq.add (kq * 35)).add 33))) rfl rfl (fun u hu => fieldCo_op (k := 1) (off := 33) rfl u rfl) ?_ hw307; intro K hK; go_big_quiet_op; go_big_quiet_on)
          (refine wpG_val (v := outV y) rfl rfl (fun u hu => load_any_op u (HLO2.out u hu) rfl) ?_ hw307; intro K hK; go_big_quiet_op; go_big_quiet_on)
          (refine wpG_val (v := .pointer (some ⟨w.heap.size, 1, none⟩)) rfl rfl (fun u hu => fieldTx_op (k := 1) (off := 1) (ad := ⟨w.heap.size, 0, none⟩) rfl u rfl) ?_ hw307; intro K hK; go_big_quiet_op; go_big_quiet_on)
          (refine wpG_val (v := .slice (some ad) n2 c2) rfl rfl (fun u hu => load_any_op u (HLO.out u hu) rfl) ?_ hw307; intro K hK; go_big_quiet_op; go_big_quiet_on)
          (refine wpG_op rfl rfl rfl ?_; intro K hK; go_big_quiet_op; go_big_quiet_on)
          (refine wpG_val (v := .pointer (some (ad.add (j * 2)))) rfl rfl (fun u hu => idxSl_op (i := j) Tryd.underlying24 aggOut.size HI.out u rfl rfl) ?_ hw307; intro K hK; go_big_quiet_op; go_big_quiet_on)
          (refine wpG_val (v := outV y) rfl rfl (fun u hu => load_any_op u (HLD.out u (EnvX.sub hu (fun _ h => by cases h))) rfl) ?_ hw307; intro K hK; go_big_quiet_op; go_big_quiet_on)
          (refine wpG_val (v := .bool false) rfl rfl (fun u hu => neqOut_op HNO.out u rfl rfl) ?_ hw307; intro K hK; go_big_quiet_op; go_big_quiet_on)
          (refine wpG_op rfl rfl rfl ?_; intro K hK; go_big_quiet_op; go_big_quiet_on)
          clear hone hw307
          refine wpG_nil ?_
          refine anyH_done (by kernel_rfl) ?_
          intro u309 E2'
          have EX308 := Lib.hid E2'
          clear E2'
          have hii := HI.out
          have hn := And.intro HM1.out HM2.out
          go_wp2
          go_roundw
          case rel => exact ⟨j + 1, by omega, by go_num, EX308.out⟩
          case measure => simp [intOf]; omega
        · have C8 : Hid (decide ((j : Int) < (n2 : Int)) = false) := decide_eq_false (by omega)
          clear hlt HGO
          go_upto_region 17 with (fail)
          refine wp_region_Hx (w0 := w) [0, 1, 2, 3, 4] ((gi, Obj.cells (arrB 32 id) 40 (0, 0)) :: (N5 ++ ((w.heap.size, Obj.cells (txA t) 26 (0, 0)) :: []))) rfl EK.out ?_
          refine lexH_phase [0, 1, 2, 3, 4] [] ?_
          have hw501 : EnvX w _ ((gi, Obj.cells (arrB 32 id) 40 (0, 0)) :: (N5 ++ ((w.heap.size, Obj.cells (txA t) 26 (0, 0)) :: []))) := EK.out
          have hone := @EnvC.one _ _ _ hw501
          (refine wpG_op rfl rfl rfl ?_; intro K hK; go_big_quiet_op; go_big_quiet_on)
          (refine wpG_val (v := .pointer (some ⟨w.heap.size, 1, none⟩)) rfl rfl (fun u hu => fieldTx_op (k := 1) (off := 1) (ad := ⟨w.heap.size, 0, none⟩) rfl u rfl) ?_ hw501; intro K hK; go_big_quiet_op; go_big_quiet_on)
          (refine wpG_val (v := .slice A2 n2 c2) rfl rfl (fun u hu => load_any_op u (HLO.out u hu) rfl) ?_ hw501; intro K hK; go_big_quiet_op; go_big_quiet_on)
          (refine wpG_val (v := .int .i64 (n2 : Int)) rfl rfl (fun u hu => len_op Tryd.underlying24 HM2.out u rfl) ?_ hw501; intro K hK; go_big_quiet_op; go_big_quiet_on)
          (refine wpG_val (v := .bool false) rfl rfl (fun u hu => ltZ_op u C8.out rfl rfl) ?_ hw501; intro K hK; go_big_quiet_op; go_big_quiet_on)
          clear hone hw501
          refine wpG_nil ?_
          intro u503 E2'
          have EX502 := Lib.hid E2'
          clear E2'
          have EJ := Lib.hid EX502.out
          clear EX502
          go_upto_region 23 with (fail)
          go_loopw [16] (fun iv u => ∃ l : Nat, l ≤ n1 ∧ iv = .int .i64 (l : Int) ∧ Hid (EnvX w u ((gi, Obj.cells (arrB 32 id) 40 (0, 0)) :: (N5 ++ ((w.heap.size, Obj.cells (txA t) 26 (0, 0)) :: []))))) (fun iv _ => n1 - (intOf iv).toNat)
          case atStart => exact ⟨0, by omega, rfl, EJ.out⟩
          case round =>
            obtain ⟨l, hl, rfl, hinv⟩ := hrel
            have EK := Lib.hid hinv.out
            clear hinv EJ
            by_cases hlt : l < n1
            · have C8 : Hid (decide ((l : Int) < (n1 : Int)) = true) := decide_eq_true (by omega)
              have HI := Lib.hid hlt
              have hil : l < t.r.ins.length := by rw [HL1.out]; exact hlt
              have HIL1 := Lib.hid hil
              obtain ⟨ad, hA1, -, hld⟩ := K_t.out.m1.loads K_t.out.o1 hil
              have hA1' : A1 = some ad := by rw [← HA1.out]; exact hA1
              subst hA1'
              have HLD : Hid (∀ u, EnvX w u [] → (loadVar 42 (ad.add (l * 33))).run Tryd.prog u = .ok (inV (t.r.ins.getD l noIn)) u) := fun u hu => (hld u hu).1
              have HLX : Hid (∀ u, EnvX w u [] → (loadVar 40 ((ad.add (l * 33)).add 0)).run Tryd.prog u = .ok (idv (t.r.ins.getD l noIn).tx) u) := fun u hu => by
                have h := (hld u hu).2.1
                rwa [show ((ad.add (l * 33)).add 0) = ad.add (l * 33) by unfold Addr.add; rfl]
              have HX : Hid (okIn (t.r.ins.getD l noIn)) := K_t.out.o1.get hil
              have HNF : Hid (findP a (t.r.ins.getD l noIn) = -1) := HGI3.out _ (by rw [List.getD_eq_getElem?_getD, List.getElem?_eq_getElem hil]; exact List.getElem_mem hil)
              obtain ⟨x, hx⟩ : ∃ x, t.r.ins.getD l noIn = x := ⟨_, rfl⟩
              rw [hx] at HLD HLX HX HNF
              have HXE := Lib.hid hx
              have HXL : Hid (lenI x) := HX.out.len
              clear hld hil hlt hx hA1
              go_upto_region 23 with (fail)
              refine wp_region_Hx (w0 := w) [0, 1, 2, 3, 4] ((gi, Obj.cells (arrB 32 id) 40 (0, 0)) :: (N5 ++ ((w.heap.size, Obj.cells (txA t) 26 (0, 0)) :: []))) rfl EK.out ?_
              refine lexH_phase [0, 1, 2, 3, 4] [] ?_
              have hw601 : EnvX w _ ((gi, Obj.cells (arrB 32 id) 40 (0, 0)) :: (N5 ++ ((w.heap.size, Obj.cells (txA t) 26 (0, 0)) :: []))) := EK.out
              have hone := @EnvC.one _ _ _ hw601
              (refine wpG_op rfl rfl rfl ?_; intro K hK; go_big_quiet_op; go_big_quiet_on)
              (refine wpG_val (v := .pointer (some ⟨w.heap.size, 0, none⟩)) rfl rfl (fun u hu => fieldTx_op (k := 0) (off := 0) (ad := ⟨w.heap.size, 0, none⟩) rfl u rfl) ?_ hw601; intro K hK; go_big_quiet_op; go_big_quiet_on)
              (refine wpG_val (v := .slice (some ad) n1 c1) rfl rfl (fun u hu => load_any_op u (HLI.out u hu) rfl) ?_ hw601; intro K hK; go_big_quiet_op; go_big_quiet_on)
              (refine wpG_val (v := .int .i64 (n1 : Int)) rfl rfl (fun u hu => len_op Tryd.underlying23 HM1.out u rfl) ?_ hw601; intro K hK; go_big_quiet_op; go_big_quiet_on)
              (refine wpG_val (v := .bool true) rfl rfl (fun u hu => ltZ_op u C8.out rfl rfl) ?_ hw601; intro K hK; go_big_quiet_op; go_big_quiet_on)
              clear hone hw601
              refine wpG_nil ?_
              intro u603 E2'
              have EX602 := Lib.hid E2'
              clear E2'
              go_upto_region 25 with (fail)
              refine wp_region_Hx (w0 := w) [0, 1, 2, 3, 4, 5, 6, 7] ((gi, Obj.cells (arrB 32 id) 40 (0, 0)) :: (N5 ++ ((w.heap.size, Obj.cells (txA t) 26 (0, 0)) :: []))) rfl EX602.out ?_
              refine lexH_phase [0, 1, 2, 3, 4, 5, 6, 7] [] ?_
              have hw604 : EnvX w _ ((gi, Obj.cells (arrB 32 id) 40 (0, 0)) :: (N5 ++ ((w.heap.size, Obj.cells (txA t) 26 (0, 0)) :: []))) := EX602.out
              have hone := @EnvC.one _ _ _ hw604
              (refine wpG_op rfl rfl rfl ?_; intro K hK; go_big_quiet_op; go_big_quiet_on)
              (refine wpG_val (v := .pointer (some ⟨w.heap.size, 0, none⟩)) rfl rfl (fun u hu => fieldTx_op (k := 0) (off := 0) (ad := ⟨w.heap.size, 0, none⟩) rfl u rfl) ?_ hw604; intro K hK; go_big_quiet_op; go_big_quiet_on)
              (refine wpG_val (v := .slice (some ad) n1 c1) rfl rfl (fun u hu => load_any_op u (HLI.out u hu) rfl) ?_ hw604; intro K hK; go_big_quiet_op; go_big_quiet_on)
              (refine wpG_op rfl rfl rfl ?_; intro K hK; go_big_quiet_op; go_big_quiet_on)
              (refine wpG_val (v := .pointer (some (ad.add (l * 33)))) rfl rfl (fun u hu => idxSl_op (i := l) Tryd.underlying23 aggIn.size HI.out u rfl rfl) ?_ hw604; intro K hK; go_big_quiet_op; go_big_quiet_on)
              (refine wpG_val (v := inV x) rfl rfl (fun u hu => load_any_op u (HLD.out u (EnvX.sub hu (fun _ h => by cases h))) rfl) ?_ hw604; intro K hK; go_big_quiet_op; go_big_quiet_on)
              (refine wpG_call (f := 18) (args := #[.slice A5 a.length c5, inV x]) (v := .int .i64 (-1)) rfl rfl rfl Tryd.func18 rfl rfl (fun u hu => by have h := HH.out.find a A5 a.length c5 x u rfl HA48.out HC5.out.1 HC5.out.2 HAO.out (HRD.out u hu) HX.out (HT.out.below (EnvX.bel hu)); rwa [HNF.out] at h) ?_ hw604; intro K hK; go_big_quiet_op; go_big_quiet_on)
              (refine wpG_val (v := .bool false) rfl rfl (fun u hu => neZ_op u (by decide) rfl rfl) ?_ hw604; intro K hK; go_big_quiet_op; go_big_quiet_on)
              clear hone hw604
              refine wpG_nil ?_
              intro u606 E2'
              have EX605 := Lib.hid E2'
              clear E2'
              have hii := HI.out
              have hn := And.intro HM1.out HM2.out
              go_wp2
              go_roundw
              case rel => exact ⟨l + 1, by omega, by go_num, EX605.out⟩
              case measure => simp [intOf]; omega
            · have C8 : Hid (decide ((l : Int) < (n1 : Int)) = false) := decide_eq_false (by omega)
              clear hlt HGI3
              go_upto_region 23 with (fail)
              refine wp_region_Hx (w0 := w) [0, 1, 2, 3, 4] ((gi, Obj.cells (arrB 32 id) 40 (0, 0)) :: (N5 ++ ((w.heap.size, Obj.cells (txA t) 26 (0, 0)) :: []))) rfl EK.out ?_
              refine lexH_phase [0, 1, 2, 3, 4] [] ?_
              have hw701 : EnvX w _ ((gi, Obj.cells (arrB 32 id) 40 (0, 0)) :: (N5 ++ ((w.heap.size, Obj.cells (txA t) 26 (0, 0)) :: []))) := EK.out
              have hone := @EnvC.one _ _ _ hw701
              (refine wpG_op rfl rfl rfl ?_; intro K hK; go_big_quiet_op; go_big_quiet_on)
              (refine wpG_val (v := .pointer (some ⟨w.heap.size, 0, none⟩)) rfl rfl (fun u hu => fieldTx_op (k := 0) (off := 0) (ad := ⟨w.heap.size, 0, none⟩) rfl u rfl) ?_ hw701; intro K hK; go_big_quiet_op; go_big_quiet_on)
              (refine wpG_val (v := .slice A1 n1 c1) rfl rfl (fun u hu => load_any_op u (HLI.out u hu) rfl) ?_ hw701; intro K hK; go_big_quiet_op; go_big_quiet_on)
              (refine wpG_val (v := .int .i64 (n1 : Int)) rfl rfl (fun u hu => len_op Tryd.underlying23 HM1.out u rfl) ?_ hw701; intro K hK; go_big_quiet_op; go_big_quiet_on)
              (refine wpG_val (v := .bool false) rfl rfl (fun u hu => ltZ_op u C8.out rfl rfl) ?_ hw701; intro K hK; go_big_quiet_op; go_big_quiet_on)
              clear hone hw701
              refine wpG_nil ?_
              intro u703 E2'
              have EX702 := Lib.hid E2'
              clear E2'
              rcases hsp2 : spendP a t.r with ⟨d, nd, ed⟩
              have HS2 := Lib.hid hsp2
              have hga := HGA.out
              rw [hsp2] at hga
              have HED : Hid (ed ≠ 0) := hga
              have CED : Hid (decide (((ed : Nat) : Int) = 0) = false) := decide_eq_false (by have := HED.out; omega)
              have CEE : Hid (decide (((ed : Nat) : Int) ≠ 0) = true) := decide_eq_true (by have := HED.out; omega)
              clear hsp2 hga HGA
              go_upto_region 27 with (fail)
              refine wp_region_Hx (w0 := w) [0, 1, 2, 3, 4, 5, 6, 7, 8, 9] ((gi, Obj.cells (arrB 32 id) 40 (0, 0)) :: (N5 ++ ((w.heap.size, Obj.cells (txA t) 26 (0, 0)) :: []))) rfl EX702.out ?_
              refine lexH_phase [0, 1] [2, 3, 4, 5, 6, 7, 8, 9] ?_
              have hw704 : EnvX w _ ((gi, Obj.cells (arrB 32 id) 40 (0, 0)) :: (N5 ++ ((w.heap.size, Obj.cells (txA t) 26 (0, 0)) :: []))) := EX702.out
              have hone := @EnvC.one _ _ _ hw704
              (refine wpG_op rfl rfl rfl ?_; intro K hK; go_big_quiet_op; go_big_quiet_on)
              (refine wpG_val (v := txV t) rfl rfl (fun u hu => load_any_op u (box_tx hu (List.Mem.tail _ (List.mem_append_right _ (List.Mem.head _)))) rfl) ?_ hw704; intro K hK; go_big_quiet_op; go_big_quiet_on)
              clear hone hw704
              refine wpG_nil ?_
              refine (hOp_turn (gd := none) (R := fun x M' => ∃ A c N, x = .tuple #[.slice A (d).length c, .int .i64 nd, .int .i64 ((ed : Nat) : Int)] ∧ M' = N ++ ((gi, Obj.cells (arrB 32 id) 40 (0, 0)) :: (N5 ++ ((w.heap.size, Obj.cells (txA t) 26 (0, 0)) :: []))) ∧ ((d).length ≤ c ∧ c ≤ maxLen) ∧ CoB (d) A N) rfl rfl rfl rfl (fun u hu => OUpon_call (fid := 12) (xs := #[.tmp 125, .tmp 126]) (args := #[.slice A5 a.length c5, txV t]) rfl Tryd.func12 rfl rfl u (co_turn3 (by have h := HH.out.spend a A5 a.length c5 t u rfl HA48.out HC5.out.1 HC5.out.2 HAO.out (HRD.out u hu) (K_t.out.up (EnvX.bel hu)) HF_t.out (HT.out.below (EnvX.bel hu)); rwa [HS2.out] at h) hu)) ?_)
              rintro _ _ ⟨A27, c27, N27, rfl, rfl, hc27, hb27⟩ he705; intro K' hK'; go_big_quiet_op; go_big_quiet_on
              have HC27 := Lib.hid hc27
              have HB27 := Lib.hid hb27
              clear hc27 hb27
              change lexH _ _ _ _ _ _ (N27 ++ ((gi, Obj.cells (arrB 32 id) 40 (0, 0)) :: (N5 ++ ((w.heap.size, Obj.cells (txA t) 26 (0, 0)) :: []))))
              refine lexH_phase [3, 4, 5, 6, 7, 8, 9] [] ?_
              have hw706 : EnvX w _ (N27 ++ ((gi, Obj.cells (arrB 32 id) 40 (0, 0)) :: (N5 ++ ((w.heap.size, Obj.cells (txA t) 26 (0, 0)) :: [])))) := he705.choose_spec
              have hone := @EnvC.one _ _ _ hw706
              iterate 7 (refine wpG_op rfl rfl rfl ?_; intro K hK; go_big_quiet_op; go_big_quiet_on)
              clear hone hw706
              refine wpG_nil ?_
              intro u708 E2'
              have EX707 := Lib.hid E2'
              clear E2'
              have EG : Hid (EnvX w u708 ((gi, Obj.cells (arrB 32 id) 40 (0, 0)) :: (N5 ++ ((w.heap.size, Obj.cells (txA t) 26 (0, 0)) :: [])))) := EX707.out.sub (fun _ h => List.mem_append_right _ h)
              clear EX707
              by_cases c1 : k < 0
              · have I1 : Hid (decide (k < 0) = true) := decide_eq_true c1
                clear c1
                go_upto_region 28 with (fail)
                refine wp_region_Hx (w0 := w) [0, 1, 2, 3, 4, 5, 6, 7, 8, 9, 10, 11] ((gi, Obj.cells (arrB 32 id) 40 (0, 0)) :: (N5 ++ ((w.heap.size, Obj.cells (txA t) 26 (0, 0)) :: []))) rfl EG.out ?_
                refine lexH_phase [0, 1, 2, 3, 4, 5, 6, 7, 8, 9, 10, 11] [] ?_
                have hw709 : EnvX w _ ((gi, Obj.cells (arrB 32 id) 40 (0, 0)) :: (N5 ++ ((w.heap.size, Obj.cells (txA t) 26 (0, 0)) :: []))) := EG.out
                have hone := @EnvC.one _ _ _ hw709
                (refine wpG_op rfl rfl rfl ?_; intro K hK; go_big_quiet_op; go_big_quiet_on)
                (refine wpG_val (v := .bool false) rfl rfl (fun u hu => eqErr_op u CED.out rfl rfl) ?_ hw709; intro K hK; go_big_quiet_op; go_big_quiet_on)
                iterate 2 (refine wpG_op rfl rfl rfl ?_; intro K hK; go_big_quiet_op; go_big_quiet_on)
                (refine wpG_val (v := .bool true) rfl rfl (fun u hu => ltZ_op u I1.out rfl rfl) ?_ hw709; intro K hK; go_big_quiet_op; go_big_quiet_on)
                iterate 2 (refine wpG_op rfl rfl rfl ?_; intro K hK; go_big_quiet_op; go_big_quiet_on)
                iterate 4 (refine wpG_skip rfl rfl ?_ hw709; intro K hK; go_big_quiet_op; go_big_quiet_on)
                (refine wpG_op rfl rfl rfl ?_; intro K hK; go_big_quiet_op; go_big_quiet_on)
                clear hone hw709
                refine wpG_nil ?_
                intro u711 E2'
                have EX710 := Lib.hid E2'
                clear E2'
                go_upto_region 29 with (fail)
                refine wp_region_Hx (w0 := w) [0, 1, 2] ((gi, Obj.cells (arrB 32 id) 40 (0, 0)) :: (N5 ++ ((w.heap.size, Obj.cells (txA t) 26 (0, 0)) :: []))) rfl EX710.out ?_
                refine lexH_phase [0, 1, 2] [] ?_
                have hw712 : EnvX w _ ((gi, Obj.cells (arrB 32 id) 40 (0, 0)) :: (N5 ++ ((w.heap.size, Obj.cells (txA t) 26 (0, 0)) :: []))) := EX710.out
                have hone := @EnvC.one _ _ _ hw712
                (refine wpG_op rfl rfl rfl ?_; intro K hK; go_big_quiet_op; go_big_quiet_on)
                (refine wpG_val (v := .bool true) rfl rfl (fun u hu => neErr_op u CEE.out rfl rfl) ?_ hw712; intro K hK; go_big_quiet_op; go_big_quiet_on)
                (refine wpG_op rfl rfl rfl ?_; intro K hK; go_big_quiet_op; go_big_quiet_on)
                clear hone hw712
                refine wpG_nil ?_
                intro u714 E2'
                have EX713 := Lib.hid E2'
                clear E2'
                have HBE := Lib.hid (EnvX.bel EX713.out)
                go_wp2
                go_ret
                exact ⟨rfl, HBE.out⟩
              have I1 : Hid (decide (k < 0) = false) := decide_eq_false c1
              by_cases c2 : (n : Int) ≤ k
              · have I2 : Hid (decide ((n : Int) ≤ k) = true) := decide_eq_true c2
                clear c1 c2
                go_upto_region 28 with (fail)
                refine wp_region_Hx (w0 := w) [0, 1, 2, 3, 4, 5, 6, 7, 8, 9, 10, 11] ((gi, Obj.cells (arrB 32 id) 40 (0, 0)) :: (N5 ++ ((w.heap.size, Obj.cells (txA t) 26 (0, 0)) :: []))) rfl EG.out ?_
                refine lexH_phase [0, 1, 2, 3, 4, 5, 6, 7, 8, 9, 10, 11] [] ?_
                have hw709 : EnvX w _ ((gi, Obj.cells (arrB 32 id) 40 (0, 0)) :: (N5 ++ ((w.heap.size, Obj.cells (txA t) 26 (0, 0)) :: []))) := EG.out
                have hone := @EnvC.one _ _ _ hw709
                (refine wpG_op rfl rfl rfl ?_; intro K hK; go_big_quiet_op; go_big_quiet_on)
                (refine wpG_val (v := .bool false) rfl rfl (fun u hu => eqErr_op u CED.out rfl rfl) ?_ hw709; intro K hK; go_big_quiet_op; go_big_quiet_on)
                iterate 2 (refine wpG_op rfl rfl rfl ?_; intro K hK; go_big_quiet_op; go_big_quiet_on)
                (refine wpG_val (v := .bool false) rfl rfl (fun u hu => ltZ_op u I1.out rfl rfl) ?_ hw709; intro K hK; go_big_quiet_op; go_big_quiet_on)
                iterate 4 (refine wpG_op rfl rfl rfl ?_; intro K hK; go_big_quiet_op; go_big_quiet_on)
                (refine wpG_val (v := .int .i64 (n : Int)) rfl rfl (fun u hu => len_op Tryd.underlying22 HN63.out u rfl) ?_ hw709; intro K hK; go_big_quiet_op; go_big_quiet_on)
                (refine wpG_val (v := .bool true) rfl rfl (fun u hu => geZ_op u I2.out rfl rfl) ?_ hw709; intro K hK; go_big_quiet_op; go_big_quiet_on)
                (refine wpG_op rfl rfl rfl ?_; intro K hK; go_big_quiet_op; go_big_quiet_on)
                clear hone hw709
                refine wpG_nil ?_
                intro u711 E2'
                have EX710 := Lib.hid E2'
                clear E2'
                go_upto_region 29 with (fail)
                refine wp_region_Hx (w0 := w) [0, 1, 2] ((gi, Obj.cells (arrB 32 id) 40 (0, 0)) :: (N5 ++ ((w.heap.size, Obj.cells (txA t) 26 (0, 0)) :: []))) rfl EX710.out ?_
                refine lexH_phase [0, 1, 2] [] ?_
                have hw712 : EnvX w _ ((gi, Obj.cells (arrB 32 id) 40 (0, 0)) :: (N5 ++ ((w.heap.size, Obj.cells (txA t) 26 (0, 0)) :: []))) := EX710.out
                have hone := @EnvC.one _ _ _ hw712
                (refine wpG_op rfl rfl rfl ?_; intro K hK; go_big_quiet_op; go_big_quiet_on)
                (refine wpG_val (v := .bool true) rfl rfl (fun u hu => neErr_op u CEE.out rfl rfl) ?_ hw712; intro K hK; go_big_quiet_op; go_big_quiet_on)
                (refine wpG_op rfl rfl rfl ?_; intro K hK; go_big_quiet_op; go_big_quiet_on)
                clear hone hw712
                refine wpG_nil ?_
                intro u714 E2'
                have EX713 := Lib.hid E2'
                clear E2'
                have HBE := Lib.hid (EnvX.bel EX713.out)
                go_wp2
                go_ret
                exact ⟨rfl, HBE.out⟩
              have I2 : Hid (decide ((n : Int) ≤ k) = false) := decide_eq_false c2
              obtain ⟨k, rfl⟩ : ∃ j : Nat, k = (j : Int) := Int.eq_ofNat_of_zero_le (by omega)
              have HKN : Hid (k < n) := by show _ < _; omega
              have hkl : k < p.length := by rw [HL.out]; exact HKN.out
              obtain ⟨ap, hAp, -, hldp⟩ := CoinsIn.loads HAA.out HPP.out hkl
              subst hAp
              have HLP : Hid (∀ u, EnvX w u [] → (loadVar 42 ((ap.add (k * 35)).add 0)).run Tryd.prog u = .ok (inV (keyC (p.getD k noC0))) u) := fun u hu => by
                have h := (hldp u hu).2.1
                rwa [show ((ap.add (k * 35)).add 0) = ap.add (k * 35) by unfold Addr.add; rfl]
              have HLC : Hid (∀ u, EnvX w u [] → (loadVar 50 (ap.add (k * 35))).run Tryd.prog u = .ok (coV (p.getD k noC0)) u) := fun u hu => (hldp u hu).1
              have hgo := getP HPP.out hkl
              have hst := HGS.out _ (getD_mem0 hkl)
              obtain ⟨y, hy⟩ : ∃ y, p.getD k noC0 = y := ⟨_, rfl⟩
              rw [hy] at HLP HLC hgo hst
              have HST := Lib.hid hst
              have HYL : Hid (lenC y) := hgo.len
              have HYI : Hid (okIn (keyC y)) := ⟨hgo.1, hgo.2.1⟩
              clear c1 c2 hkl hldp hgo hst hy HGS
              go_upto_region 28 with (fail)
              refine wp_region_Hx (w0 := w) [0, 1, 2, 3, 4, 5, 6, 7, 8, 9, 10, 11] ((gi, Obj.cells (arrB 32 id) 40 (0, 0)) :: (N5 ++ ((w.heap.size, Obj.cells (txA t) 26 (0, 0)) :: []))) rfl EG.out ?_
              refine lexH_phase [0, 1, 2, 3, 4, 5, 6, 7, 8, 9, 10, 11] [] ?_
              have hw709 : EnvX w _ ((gi, Obj.cells (arrB 32 id) 40 (0, 0)) :: (N5 ++ ((w.heap.size, Obj.cells (txA t) 26 (0, 0)) :: []))) := EG.out
              have hone := @EnvC.one _ _ _ hw709
              (refine wpG_op rfl rfl rfl ?_; intro K hK; go_big_quiet_op; go_big_quiet_on)
              (refine wpG_val (v := .bool false) rfl rfl (fun u hu => eqErr_op u CED.out rfl rfl) ?_ hw709; intro K hK; go_big_quiet_op; go_big_quiet_on)
              iterate 2 (refine wpG_op rfl rfl rfl ?_; intro K hK; go_big_quiet_op; go_big_quiet_on)
              (refine wpG_val (v := .bool false) rfl rfl (fun u hu => ltZ_op u I1.out rfl rfl) ?_ hw709; intro K hK; go_big_quiet_op; go_big_quiet_on)
              iterate 4 (refine wpG_op rfl rfl rfl ?_; intro K hK; go_big_quiet_op; go_big_quiet_on)
              (refine wpG_val (v := .int .i64 (n : Int)) rfl rfl (fun u hu => len_op Tryd.underlying22 HN63.out u rfl) ?_ hw709; intro K hK; go_big_quiet_op; go_big_quiet_on)
              (refine wpG_val (v := .bool false) rfl rfl (fun u hu => geZ_op u I2.out rfl rfl) ?_ hw709; intro K hK; go_big_quiet_op; go_big_quiet_on)
              (refine wpG_op rfl rfl rfl ?_; intro K hK; go_big_quiet_op; go_big_quiet_on)
              clear hone hw709
              refine wpG_nil ?_
              intro u711 E2'
              have EX710 := Lib.hid E2'
              clear E2'
              have EJ := Lib.hid EX710.out
              clear EX710 EG
              go_upto_region 31 with (fail)
              go_loopw [20] (fun iv u => ∃ m : Nat, m ≤ n1 ∧ iv = .int .i64 (m : Int) ∧ Hid ((∀ j, j < m → t.r.ins.getD j noIn ≠ keyC y) ∧ EnvX w u ((gi, Obj.cells (arrB 32 id) 40 (0, 0)) :: (N5 ++ ((w.heap.size, Obj.cells (txA t) 26 (0, 0)) :: []))))) (fun iv _ => n1 - (intOf iv).toNat)
              case atStart => exact ⟨0, by omega, rfl, (fun j hj => by omega), EJ.out⟩
              case round =>
                obtain ⟨m, hm, rfl, hinv⟩ := hrel
                have EK := Lib.hid hinv.out.2
                have H1 := Lib.hid hinv.out.1
                clear hinv EJ
                by_cases hlt : m < n1
                · have C8 : Hid (decide ((m : Int) < (n1 : Int)) = true) := decide_eq_true (by omega)
                  have HI := Lib.hid hlt
                  have hil : m < t.r.ins.length := by rw [HL1.out]; exact hlt
                  have HIL1 := Lib.hid hil
                  obtain ⟨ad, hA1, -, hld⟩ := K_t.out.m1.loads K_t.out.o1 hil
                  have hA1' : A1 = some ad := by rw [← HA1.out]; exact hA1
                  subst hA1'
                  have HLD : Hid (∀ u, EnvX w u [] → (loadVar 42 (ad.add (m * 33))).run Tryd.prog u = .ok (inV (t.r.ins.getD m noIn)) u) := fun u hu => (hld u hu).1
                  have HLX : Hid (∀ u, EnvX w u [] → (loadVar 40 ((ad.add (m * 33)).add 0)).run Tryd.prog u = .ok (idv (t.r.ins.getD m noIn).tx) u) := fun u hu => by
                    have h := (hld u hu).2.1
                    rwa [show ((ad.add (m * 33)).add 0) = ad.add (m * 33) by unfold Addr.add; rfl]
                  have HX : Hid (okIn (t.r.ins.getD m noIn)) := K_t.out.o1.get hil
                  obtain ⟨x, hx⟩ : ∃ x, t.r.ins.getD m noIn = x := ⟨_, rfl⟩
                  rw [hx] at HLD HLX HX
                  have HXE := Lib.hid hx
                  have HXL : Hid (lenI x) := HX.out.len
                  clear hld hil hlt hx hA1
                  obtain ⟨b, hb⟩ : ∃ b, eqI x (keyC y) = b := ⟨_, rfl⟩
                  have HEQ := Lib.hid hb
                  clear hb
                  go_upto_region 31 with (fail)
                  refine wp_region_Hx (w0 := w) [0, 1, 2, 3, 4] ((gi, Obj.cells (arrB 32 id) 40 (0, 0)) :: (N5 ++ ((w.heap.size, Obj.cells (txA t) 26 (0, 0)) :: []))) rfl EK.out ?_
                  refine lexH_phase [0, 1, 2, 3, 4] [] ?_
                  have hw901 : EnvX w _ ((gi, Obj.cells (arrB 32 id) 40 (0, 0)) :: (N5 ++ ((w.heap.size, Obj.cells (txA t) 26 (0, 0)) :: []))) := EK.out
                  have hone := @EnvC.one _ _ _ hw901
                  (refine wpG_op rfl rfl rfl ?_; intro K hK; go_big_quiet_op; go_big_quiet_on)
                  (refine wpG_val (v := .pointer (some ⟨w.heap.size, 0, none⟩)) rfl rfl (fun u hu => fieldTx_op (k := 0) (off := 0) (ad := ⟨w.heap.size, 0, none⟩) rfl u rfl) ?_ hw901; intro K hK; go_big_quiet_op; go_big_quiet_on)
                  (refine wpG_val (v := .slice (some ad) n1 c1) rfl rfl (fun u hu => load_any_op u (HLI.out u hu) rfl) ?_ hw901; intro K hK; go_big_quiet_op; go_big_quiet_on)
                  (refine wpG_val (v := .int .i64 (n1 : Int)) rfl rfl (fun u hu => len_op Tryd.underlying23 HM1.out u rfl) ?_ hw901; intro K hK; go_big_quiet_op; go_big_quiet_on)
                  (refine wpG_val (v := .bool true) rfl rfl (fun u hu => ltZ_op u C8.out rfl rfl) ?_ hw901; intro K hK; go_big_quiet_op; go_big_quiet_on)
                  clear hone hw901
                  refine wpG_nil ?_
                  intro u903 E2'
                  have EX902 := Lib.hid E2'
                  clear E2'
                  cases b with
                  | true =>
                    go_upto_region 33 with (fail)
                    refine wp_region_H (w0 := w) ((gi, Obj.cells (arrB 32 id) 40 (0, 0)) :: (N5 ++ ((w.heap.size, Obj.cells (txA t) 26 (0, 0)) :: []))) (by kernel_rfl) EX902.out ?_
                    refine anyH_phase [0, 1, 2, 3, 4, 5, 6, 7, 8, 9, 10] 0 rfl ⟨_, (EnvX.drew EX902.out)⟩ (by kernel_rfl) ?_
                    have hw904 : EnvX w _ ((gi, Obj.cells (arrB 32 id) 40 (0, 0)) :: (N5 ++ ((w.heap.size, Obj.cells (txA t) 26 (0, 0)) :: []))) := (EnvX.drew EX902.out)
                    have hone := @EnvC.one _ _ _ hw904
                    (refine wpG_val (v := .pointer (some ⟨w.heap.size, 0, none⟩)) rfl rfl (fun u hu => fieldTx_op (k := 0) (off := 0) (ad := ⟨w.heap.size, 0, none⟩) rfl u rfl) ?_ hw904; intro K hK; go_big_quiet_op; go_big_quiet_on)
                    (refine wpG_val (v := .slice (some ad) n1 c1) rfl rfl (fun u hu => load_any_op u (HLI.out u hu) rfl) ?_ hw904; intro K hK; go_big_quiet_op; go_big_quiet_on)
                    (refine wpG_op rfl rfl rfl ?_; intro K hK; go_big_quiet_op; go_big_quiet_on)
                    (refine wpG_val (v := .pointer (some (ad.add (m * 33)))) rfl rfl (fun u hu => idxSl_op (i := m) Tryd.underlying23 aggIn.size HI.out u rfl rfl) ?_ hw904; intro K hK; go_big_quiet_op; go_big_quiet_on)
                    (refine wpG_val (v := inV x) rfl rfl (fun u hu => load_any_op u (HLD.out u (EnvX.sub hu (fun _ h => by cases h))) rfl) ?_ hw904; intro K hK; go_big_quiet_op; go_big_quiet_on)
                    iterate 2 (refine wpG_op rfl rfl rfl ?_; intro K hK; go_big_quiet_op; go_big_quiet_on)
                    (refine wpG_val (v := .pointer (some (ap.add (k * 35)))) rfl rfl (fun u hu => idxSl_op (i := k) Tryd.underlying22 aggCo.size HKN.out u rfl rfl) ?_ hw904; intro K hK; go_big_quiet_op; go_big_quiet_on)
                    (refine wpG_val (v := .pointer (some ((ap.add (k * 35)).add 0))) rfl rfl (fun u hu => fieldCo_op (k := 0) (off := 0) rfl u rfl) ?_ hw904; intro K hK; go_big_quiet_op; go_big_quiet_on)
                    (refine wpG_val (v := inV (keyC y)) rfl rfl (fun u hu => load_any_op u (HLP.out u (EnvX.sub hu (fun _ h => by cases h))) rfl) ?_ hw904; intro K hK; go_big_quiet_op; go_big_quiet_on)
                    (refine wpG_val (v := .bool true) rfl rfl (fun u hu => eqlIn_op HXL.out (show lenI (keyC y) from HYL.out) HEQ.out u rfl rfl) ?_ hw904; intro K hK; go_big_quiet_op; go_big_quiet_on)
                    clear hone hw904
                    refine wpG_nil ?_
                    refine anyH_done (by kernel_rfl) ?_
                    intro u906 E2'
                    have EX905 := Lib.hid E2'
                    clear E2'
                    go_upto_region 34 with (fail)
                    refine wp_region_Hx (w0 := w) [0] ((gi, Obj.cells (arrB 32 id) 40 (0, 0)) :: (N5 ++ ((w.heap.size, Obj.cells (txA t) 26 (0, 0)) :: []))) rfl EX905.out ?_
                    refine lexH_phase [0] [] ?_
                    have hw907 : EnvX w _ ((gi, Obj.cells (arrB 32 id) 40 (0, 0)) :: (N5 ++ ((w.heap.size, Obj.cells (txA t) 26 (0, 0)) :: []))) := EX905.out
                    have hone := @EnvC.one _ _ _ hw907
                    (refine wpG_op rfl rfl rfl ?_; intro K hK; go_big_quiet_op; go_big_quiet_on)
                    clear hone hw907
                    refine wpG_nil ?_
                    intro u909 E2'
                    have EX908 := Lib.hid E2'
                    clear E2'
                    have HBE := Lib.hid (EnvX.bel EX908.out)
                    go_wp2
                    go_ret
                    exact ⟨rfl, HBE.out⟩
                  | false =>
                    have H3 : Hid (∀ j, j < m + 1 → t.r.ins.getD j noIn ≠ keyC y) := fun j hj => by
                      rcases Nat.lt_or_ge j m with h | h
                      · exact H1.out j h
                      · rw [show j = m by omega, HXE.out]; exact of_decide_eq_false HEQ.out
                    go_upto_region 33 with (fail)
                    refine wp_region_H (w0 := w) ((gi, Obj.cells (arrB 32 id) 40 (0, 0)) :: (N5 ++ ((w.heap.size, Obj.cells (txA t) 26 (0, 0)) :: []))) (by kernel_rfl) EX902.out ?_
                    refine anyH_phase [0, 1, 2, 3, 4, 5, 6, 7, 8, 9, 10] 0 rfl ⟨_, (EnvX.drew EX902.out)⟩ (by kernel_rfl) ?_
                    have hw904 : EnvX w _ ((gi, Obj.cells (arrB 32 id) 40 (0, 0)) :: (N5 ++ ((w.heap.size, Obj.cells (txA t) 26 (0, 0)) :: []))) := (EnvX.drew EX902.out)
                    have hone := @EnvC.one _ _ _ hw904
                    (refine wpG_val (v := .pointer (some ⟨w.heap.size, 0, none⟩)) rfl rfl (fun u hu => fieldTx_op (k := 0) (off := 0) (ad := ⟨w.heap.size, 0, none⟩) rfl u rfl) ?_ hw904; intro K hK; go_big_quiet_op; go_big_quiet_on)
                    (refine wpG_val (v := .slice (some ad) n1 c1) rfl rfl (fun u hu => load_any_op u (HLI.out u hu) rfl) ?_ hw904; intro K hK; go_big_quiet_op; go_big_quiet_on)
                    (refine wpG_op rfl rfl rfl ?_; intro K hK; go_big_quiet_op; go_big_quiet_on)
                    (refine wpG_val (v := .pointer (some (ad.add (m * 33)))) rfl rfl (fun u hu => idxSl_op (i := m) Tryd.underlying23 aggIn.size HI.out u rfl rfl) ?_ hw904; intro K hK; go_big_quiet_op; go_big_quiet_on)
                    (refine wpG_val (v := inV x) rfl rfl (fun u hu => load_any_op u (HLD.out u (EnvX.sub hu (fun _ h => by cases h))) rfl) ?_ hw904; intro K hK; go_big_quiet_op; go_big_quiet_on)
                    iterate 2 (refine wpG_op rfl rfl rfl ?_; intro K hK; go_big_quiet_op; go_big_quiet_on)
                    (refine wpG_val (v := .pointer (some (ap.add (k * 35)))) rfl rfl (fun u hu => idxSl_op (i := k) Tryd.underlying22 aggCo.size HKN.out u rfl rfl) ?_ hw904; intro K hK; go_big_quiet_op; go_big_quiet_on)
                    (refine wpG_val (v := .pointer (some ((ap.add (k * 35)).add 0))) rfl rfl (fun u hu => fieldCo_op (k := 0) (off := 0) rfl u rfl) ?_ hw904; intro K hK; go_big_quiet_op; go_big_quiet_on)
                    (refine wpG_val (v := inV (keyC y)) rfl rfl (fun u hu => load_any_op u (HLP.out u (EnvX.sub hu (fun _ h => by cases h))) rfl) ?_ hw904; intro K hK; go_big_quiet_op; go_big_quiet_on)
                    (refine wpG_val (v := .bool false) rfl rfl (fun u hu => eqlIn_op HXL.out (show lenI (keyC y) from HYL.out) HEQ.out u rfl rfl) ?_ hw904; intro K hK; go_big_quiet_op; go_big_quiet_on)
                    clear hone hw904
                    refine wpG_nil ?_
                    refine anyH_done (by kernel_rfl) ?_
                    intro u906 E2'
                    have EX905 := Lib.hid E2'
                    clear E2'
                    have hii := HI.out
                    have hn := And.intro HM1.out HM2.out
                    go_wp2
                    go_roundw
                    case rel => exact ⟨m + 1, by omega, by go_num, H3.out, EX905.out⟩
                    case measure => simp [intOf]; omega
                · have hin : m = n1 := by omega
                  have C8 : Hid (decide ((m : Int) < (n1 : Int)) = false) := decide_eq_false (by omega)
                  obtain ⟨kq, hkq, hfq, hoq⟩ := HST.out (fun hx => by
                    obtain ⟨j, hj, e⟩ := in_place hx
                    exact H1.out j (by rw [hin, ← HL1.out]; exact hj) e)
                  obtain ⟨aq, hAq, hlq⟩ := HLQ.out _ EK.out kq hkq
                  subst hAq
                  have hoe : a.getD kq noC0 = y := by rw [getD_dC hkq]; exact hoq
                  have HLZ : Hid (∀ u, EnvX w u ((gi, Obj.cells (arrB 32 id) 40 (0, 0)) :: (N5 ++ ((w.heap.size, Obj.cells (txA t) 26 (0, 0)) :: []))) → (loadVar 50 (aq.add (kq * 35))).run Tryd.prog u = .ok (coV y) u) := fun u hu => by rw [← hoe]; exact (hlq u hu).1
                  have HKQ := Lib.hid hkq
                  have HFQ := Lib.hid hfq
                  have HG1 : Hid (decide ((0 : Int) ≤ (kq : Int)) = true) := decide_eq_true (by omega)
                  have HG2 : Hid (decide ((kq : Int) < (a.length : Int)) = true) := decide_eq_true (by omega)
                  have HEC : Hid (eqC y y = true) := decide_eq_true rfl
                  clear hin hlt hkq hfq hoq hlq hoe HST H1
                  go_upto_region 31 with (fail)
                  refine wp_region_Hx (w0 := w) [0, 1, 2, 3, 4] ((gi, Obj.cells (arrB 32 id) 40 (0, 0)) :: (N5 ++ ((w.heap.size, Obj.cells (txA t) 26 (0, 0)) :: []))) rfl EK.out ?_
                  refine lexH_phase [0, 1, 2, 3, 4] [] ?_
                  have hw1101 : EnvX w _ ((gi, Obj.cells (arrB 32 id) 40 (0, 0)) :: (N5 ++ ((w.heap.size, Obj.cells (txA t) 26 (0, 0)) :: []))) := EK.out
                  have hone := @EnvC.one _ _ _ hw1101
                  (refine wpG_op rfl rfl rfl ?_; intro K hK; go_big_quiet_op; go_big_quiet_on)
                  (refine wpG_val (v := .pointer (some ⟨w.heap.size, 0, none⟩)) rfl rfl (fun u hu => fieldTx_op (k := 0) (off := 0) (ad := ⟨w.heap.size, 0, none⟩) rfl u rfl) ?_ hw1101; intro K hK; go_big_quiet_op; go_big_quiet_on)
                  (refine wpG_val (v := .slice A1 n1 c1) rfl rfl (fun u hu => load_any_op u (HLI.out u hu) rfl) ?_ hw1101; intro K hK; go_big_quiet_op; go_big_quiet_on)
                  (refine wpG_val (v := .int .i64 (n1 : Int)) rfl rfl (fun u hu => len_op Tryd.underlying23 HM1.out u rfl) ?_ hw1101; intro K hK; go_big_quiet_op; go_big_quiet_on)
                  (refine wpG_val (v := .bool false) rfl rfl (fun u hu => ltZ_op u C8.out rfl rfl) ?_ hw1101; intro K hK; go_big_quiet_op; go_big_quiet_on)
                  clear hone hw1101
                  refine wpG_nil ?_
                  intro u1103 E2'
                  have EX1102 := Lib.hid E2'
                  clear E2'
                  go_upto_region 35 with (fail)
                  refine wp_region_Hx (w0 := w) [0, 1, 2, 3, 4, 5, 6, 7] ((gi, Obj.cells (arrB 32 id) 40 (0, 0)) :: (N5 ++ ((w.heap.size, Obj.cells (txA t) 26 (0, 0)) :: []))) rfl EX1102.out ?_
                  refine lexH_phase [0, 1, 2, 3, 4, 5, 6, 7] [] ?_
                  have hw1104 : EnvX w _ ((gi, Obj.cells (arrB 32 id) 40 (0, 0)) :: (N5 ++ ((w.heap.size, Obj.cells (txA t) 26 (0, 0)) :: []))) := EX1102.out
                  have hone := @EnvC.one _ _ _ hw1104
                  iterate 3 (refine wpG_op rfl rfl rfl ?_; intro K hK; go_big_quiet_op; go_big_quiet_on)
                  (refine wpG_val (v := .pointer (some (ap.add (k * 35)))) rfl rfl (fun u hu => idxSl_op (i := k) Tryd.underlying22 aggCo.size HKN.out u rfl rfl) ?_ hw1104; intro K hK; go_big_quiet_op; go_big_quiet_on)
                  (refine wpG_val (v := .pointer (some ((ap.add (k * 35)).add 0))) rfl rfl (fun u hu => fieldCo_op (k := 0) (off := 0) rfl u rfl) ?_ hw1104; intro K hK; go_big_quiet_op; go_big_quiet_on)
                  (refine wpG_val (v := inV (keyC y)) rfl rfl (fun u hu => load_any_op u (HLP.out u (EnvX.sub hu (fun _ h => by cases h))) rfl) ?_ hw1104; intro K hK; go_big_quiet_op; go_big_quiet_on)
                  (refine wpG_call (f := 18) (args := #[.slice (some aq) a.length c5, inV (keyC y)]) (v := .int .i64 (kq : Int)) rfl rfl rfl Tryd.func18 rfl rfl (fun u hu => by have h := HH.out.find a (some aq) a.length c5 (keyC y) u rfl HA48.out HC5.out.1 HC5.out.2 HAO.out (HRD.out u hu) HYI.out (HT.out.below (EnvX.bel hu)); rwa [HFQ.out] at h) ?_ hw1104; intro K hK; go_big_quiet_op; go_big_quiet_on)
                  (refine wpG_op rfl rfl rfl ?_; intro K hK; go_big_quiet_op; go_big_quiet_on)
                  clear hone hw1104
                  refine wpG_nil ?_
                  intro u1106 E2'
                  have EX1105 := Lib.hid E2'
                  clear E2'
                  go_upto_region 36 with (fail)
                  refine wp_region_H (w0 := w) ((gi, Obj.cells (arrB 32 id) 40 (0, 0)) :: (N5 ++ ((w.heap.size, Obj.cells (txA t) 26 (0, 0)) :: []))) (by kernel_rfl) EX1105.out ?_
                  refine anyH_phase [0, 1, 2, 3, 4, 5, 6, 7, 8, 9, 10, 11, 12, 13, 14, 15, 16, 17, 18, 19] 0 rfl ⟨_, (EnvX.drew EX1105.out)⟩ (by kernel_rfl) ?_
                  have hw1107 : EnvX w _ ((gi, Obj.cells (arrB 32 id) 40 (0, 0)) :: (N5 ++ ((w.heap.size, Obj.cells (txA t) 26 (0, 0)) :: []))) := (EnvX.drew EX1105.out)
                  have hone := @EnvC.one _ _ _ hw1107
                  (refine wpG_op rfl rfl rfl ?_; intro K hK; go_big_quiet_op; go_big_quiet_on)
                  (refine wpG_val (v := .bool true) rfl rfl (fun u hu => geZ_op u HG1.out rfl rfl) ?_ hw1107; intro K hK; go_big_quiet_op; go_big_quiet_on)
                  iterate 3 (refine wpG_op rfl rfl rfl ?_; intro K hK; go_big_quiet_op; go_big_quiet_on)
                  (refine wpG_val (v := .int .i64 (a.length : Int)) rfl rfl (fun u hu => len_op Tryd.underlying22 HQ63.out u rfl) ?_ hw1107; intro K hK; go_big_quiet_op; go_big_quiet_on)
                  (refine wpG_val (v := .bool true) rfl rfl (fun u hu => ltZ_op u HG2.out rfl rfl) ?_ hw1107; intro K hK; go_big_quiet_op; go_big_quiet_on)
                  iterate 4 (refine wpG_op rfl rfl rfl ?_; intro K hK; go_big_quiet_op; go_big_quiet_on)
                  (refine wpG_val (v := .pointer (some (aq.add (kq * 35)))) rfl rfl (fun u hu => idxSl_op (i := kq) Tryd.underlying22 aggCo.size HKQ.out u rfl rfl) ?_ hw1107; intro K hK; go_big_quiet_op; go_big_quiet_on)
                  (refine wpG_val (v := coV y) rfl rfl (fun u hu => load_any_op u (HLZ.out u hu) rfl) ?_ hw1107; intro K hK; go_big_quiet_op; go_big_quiet_on)
                  iterate 2 (refine wpG_op rfl rfl rfl ?_; intro K hK; go_big_quiet_op; go_big_quiet_on)
                  (refine wpG_val (v := .pointer (some (ap.add (k * 35)))) rfl rfl (fun u hu => idxSl_op (i := k) Tryd.underlying22 aggCo.size HKN.out u rfl rfl) ?_ hw1107; intro K hK; go_big_quiet_op; go_big_quiet_on)
                  (refine wpG_val (v := coV y) rfl rfl (fun u hu => load_any_op u (HLC.out u (EnvX.sub hu (fun _ h => by cases h))) rfl) ?_ hw1107; intro K hK; go_big_quiet_op; go_big_quiet_on)
                  (refine wpG_val (v := .bool true) rfl rfl (fun u hu => eqlCo_op HYL.out HYL.out HEC.out u rfl rfl) ?_ hw1107; intro K hK; go_big_quiet_op; go_big_quiet_on)
                  iterate 2 (refine wpG_op rfl rfl rfl ?_; intro K hK; go_big_quiet_op; go_big_quiet_on)
                  clear hone hw1107
                  refine wpG_nil ?_
                  refine anyH_done (by kernel_rfl) ?_
                  intro u1109 E2'
                  have EX1108 := Lib.hid E2'
                  clear E2'
                  have HBE := Lib.hid (EnvX.bel EX1108.out)
                  go_wp2
                  go_ret
                  exact ⟨rfl, HBE.out⟩
theorem law_spends10 (H : PurseC) (G : IdC) (p : List CoinR) (t : TxM) (k : Int) (A : Option Addr) (n c : Nat) (w : World) (hl : p.length = n) (hnc : n ≤ c) (hcm : c ≤ maxLen) (hI : okP p) (hA : CoinsIn w w.heap.size A p) (kt : TxOk w t) (ht : Tables w) :
    Calls Tryd.prog 5 #[.slice A n c, txV t, .int .i64 k] w fun e w' => e = .returned (.bool true) ∧ Below w.heap.size w w' := by
  cases k1 : fewX t.r with
  | false => exact law_spends_few H G p t k A n c w hl hnc hcm hI hA kt ht k1
  | true =>
    by_cases k2 : 60 < n
    · exact law_spends_many H G p t k A n c w hl hnc hcm hI hA kt ht k1 k2
    · rcases hsp : spendP p t.r with ⟨a, na, ea⟩
      cases ea with
      | zero => exact law_spends_main H G p t k A n c w hl hnc hcm hI hA kt ht k1 k2 hsp
      | succ ea => exact law_spends_err H G p t k A n c w hl hnc hcm hI hA kt ht k1 k2 hsp
section
variable {a : Act} {dst : Option Tmp} {x y : Operand} {ty : TypeId} {pos : String} {after : Array Edge} {gd : Option (Nat × Bool)}
end
theorem idC : IdC := fun t w ht htt => pidX_any t w ht htt
end Go.Proofs.YtabhhbdbkeeblaaDoor
namespace Go.Proofs.YtabhhbdbkeeblaaDoor.purseSpends
set_option maxRecDepth 8000
open Go.ChangeShapes Go.WideShapes Go.ChangeAt Go.RowKit
theorem contract (H : Type) (enc : TypeId × Value → H) (W : World) (base : Nat) (args : Array Value) (ds gs : List (DataW H)) (before : List MemPlace)
    (hval : ∀ (j : Nat) t v, Tryd.f5.params[j]? = some t → args[j]? = some v → Value.okWide Tryd.prog W .any base t v)
    (hW : DataW.Whole enc Tryd.prog Tryd.f5.params.toList Rows.purseSpendsSpec.vars false W args.toList ds gs before) (hL : laidMetH Tryd.prog Rows.purseSpendsRow.laid W) :
    Calls Tryd.prog 5 args W fun e W' => ∃ v, e = .returned v ∧ Rows.purseSpendsSpec.post enc Tryd.prog Tryd.f5 false true false false W args v W' := by
  have hW' := hW
  obtain ⟨p, q, hA0, hV, rfl, hfz, hnd⟩ := hW
  have hA : DataW.TrodAll enc Tryd.prog W 0 (fun _ => true) true Tryd.f5.params.toList args.toList ds p := hA0
  rw [Tryd.params5] at hA hval
  obtain ⟨v0, vs0, d0, ds0, p0, q0, hargs, rfl, rfl, h0, r0⟩ := trodAll_cons hA
  obtain ⟨v1, vs1, d1, ds1, p1, q1, rfl, rfl, rfl, h1, r1⟩ := trodAll_cons r0
  obtain ⟨v2, vs2, d2, ds2, p2, q2, rfl, rfl, rfl, h2, r2⟩ := trodAll_cons r1
  obtain ⟨rfl, rfl, rfl⟩ := trodAll_nil r2
  obtain rfl : args = #[v0, v1, v2] := by cases args; simp_all
  obtain ⟨rfl, rfl⟩ := trodVars_none hV
  have lt0 : ∀ x ∈ p0, x.block < W.heap.size := by obtain ⟨m, hm⟩ := h0; exact DataW.trod_lt m _ _ _ hm
  obtain ⟨a0, n0, c0, x0, rfl, lx0, nc0, cm0, kx0, px0⟩ := open_coins (hval 0 22 v0 rfl rfl) h0
  have lt1 : ∀ x ∈ p1, x.block < W.heap.size := by obtain ⟨m, hm⟩ := h1; exact DataW.trod_lt m _ _ _ hm
  obtain ⟨x1, rfl, kx1⟩ := open_tx (hval 1 26 v1 rfl rfl) h1
  obtain ⟨x2, rfl, rfl, rfl, wx2⟩ := open_int Tryd.underlying3 (hval 2 3 v2 rfl rfl) h2
  clear hA0
  refine (law_spends10 purseC idC x0 x1 x2 a0 n0 c0 W lx0 nc0 cm0 kx0 px0 kx1 (tables_of_laid hL)).mono fun e W' ⟨he, bel⟩ => ?_
  subst he
  exact ⟨_, rfl, _, _, _, [], _, [], hW', trodAll_mk1 (shut_bool Tryd.underlying4 _), (trodAll_cons_mk (Below.trod laidOut (by kernel_rfl) (of_decide_eq_true (by kernel_rfl)) h0 bel lt0) (trodAll_cons_mk (Below.trod laidOut (by kernel_rfl) (of_decide_eq_true (by kernel_rfl)) h1 bel lt1) (trodAll_cons_mk (shut_int Tryd.underlying3 wx2) trodAll_mk0))), rfl, bel.frame _, fun h => by cases h⟩
def start : Array Value := #[.slice none 0 0, zeroX, .int .i64 0]
theorem reads (os : Os) {H : Type} (enc : TypeId × Value → H) : ∃ places, DataW.whole enc Tryd.prog ((laidWorld os).forCall (fun _ _ => 0) ⟨#[], start, []⟩).memory Tryd.f5.params.toList Rows.purseSpendsSpec.vars false start.toList 8 = some ([.nil, zeroXD, .lit (.int .i64 0)], [], places) :=
  ⟨[], by kernel_rfl⟩
set_option maxRecDepth 100000 in
theorem lifted (os : Os) (started : os.Started) (H : Type) (enc : TypeId × Value → H) (F : Stop.Interp) :
    ReturnsInHanded {} Tryd.checked os 5 .any ((OpenSpec.ofChange Rows.purseSpendsSpec).preRow enc Tryd.prog Tryd.f5 Rows.purseSpendsRow.domain false Rows.purseSpendsRow.laid) (((OpenSpec.ofChange Rows.purseSpendsSpec).at F).post enc Tryd.prog Tryd.f5 false true false false) := by
  obtain ⟨places, hx⟩ := reads os enc
  refine returnsInHanded_of_row (C := Tryd.checked) (s := OpenSpec.ofChange Rows.purseSpendsSpec) own started (by kernel_rfl) Tryd.func5
    (witness_row_at (enc := enc) (C := Tryd.checked) false (laidWorld os) start rfl (by kernel_rfl) (by kernel_rfl) (by kernel_rfl)
      (OpenSpec.preRow_of_cond 8 hx (by kernel_rfl) (fun k hk => by cases hk) (by kernel_rfl) (laidMet_of_run' 8 (by kernel_rfl) (by kernel_rfl)))) ?_
  intro W base args ds gs before hval hW _ _ _ hL _ _
  exact contract H enc W base args ds gs before hval hW hL
theorem said : Rows.PurseSpendsSaid :=
  OpenClaim.holds_of_cond 5 Tryd.f5 rfl rfl rfl rfl rfl rfl rfl ⟨rfl, rfl, rfl, rfl, rfl⟩ rfl rfl rfl rfl rfl (by kernel_rfl) Tryd.func5 (by kernel_rfl)
    (of_decide_eq_true (by kernel_rfl)) (by unfold Func.isWrapper; first | (rw [if_pos (by decide +kernel)]; kernel_rfl) | (rw [if_neg (by decide +kernel)]; exact ⟨rfl, rfl⟩))
    (fun os started H enc _ F => by rw [OpenClaim.pre_eq_preRow]; exact lifted os started H enc F)
theorem plain (f : FuncId) (fn : Func) (hf : Tryd.pinned.checked.prog.funcNamed "stepladder/stepladderlaw10.PurseSpends" = some f) (hfn : Tryd.pinned.checked.prog.funcs[f]? = some fn) :
    false = Tryd.pinned.checked.prog.looks [] ∧ ∀ (j : Nat) t, fn.params[j]? = some t → Tryd.pinned.checked.prog.wantsStandIn t = false := by
  obtain rfl : f = 5 := Option.some.inj ((show Tryd.prog.funcNamed "stepladder/stepladderlaw10.PurseSpends" = some 5 by kernel_rfl).symm.trans hf) |>.symm
  obtain rfl : fn = Tryd.f5 := (Option.some.inj (Tryd.func5.symm.trans hfn)).symm
  refine ⟨by kernel_rfl, fun j t ht => ?_⟩
  rw [Tryd.params5] at ht
  have hm : t = 22 ∨ t = 26 ∨ t = 3 := by simpa using Array.mem_of_getElem? ht
  rcases hm with rfl | rfl | rfl
  · exact (show Tryd.prog.wantsStandIn 22 = false by kernel_rfl)
  · exact (show Tryd.prog.wantsStandIn 26 = false by kernel_rfl)
  · exact (show Tryd.prog.wantsStandIn 3 = false by kernel_rfl)
theorem card : Rows.PurseSpendsCardSaid :=
  Claim7.holds_tied_plain_at .later [] _ _ _ _ said (fun _ h => by cases h) (by kernel_rfl) (fun _ h => by cases h) purseSpends_row_tie rfl ⟨rfl, rfl⟩ (by kernel_rfl) rfl plain (by kernel_rfl)
end Go.Proofs.YtabhhbdbkeeblaaDoor.purseSpends
