/- Part of a proof. -/
import Derived.Test.YtabhhbdbkeeblaaDoorZe
namespace Go.Proofs.YtabhhbdbkeeblaaDoor
set_option maxRecDepth 8000
open Go.RowKit
def coC (c : CoinR) : List Value := inC (keyC c) ++ outC (outK c)
def coA (c : CoinR) : Array Value := (coC c).toArray
def coV (c : CoinR) : Value := .agg (coA c)
def noC0 : CoinR := ⟨[], 0, 0, 0⟩
def lenC (c : CoinR) : Prop := c.tx.length = 32
theorem okCoin.len {c : CoinR} (h : okCoin c) : lenC c := h.1.1
theorem coC_len {c : CoinR} (h : lenC c) : (coC c).length = 35 := by
  unfold coC
  rw [List.length_append, inC_len (show lenI (keyC c) from h)]
  rfl
theorem coA_size {c : CoinR} (h : lenC c) : (coA c).size = 35 := by unfold coA; rw [List.size_toArray, coC_len h]
theorem coA_size' {c : CoinR} (h : c.tx.length ≤ 32) : (coA c).size = 35 := by
  unfold coA coC inC
  rw [List.size_toArray, List.length_append, List.length_append, Array.length_toList, arrB_size _ _ (show (keyC c).tx.length ≤ 32 from h)]
  rfl
theorem coC_one (c : CoinR) : ∀ u ∈ coC c, u.oneCell' = true := by
  intro u hu
  unfold coC at hu
  rcases List.mem_append.1 hu with h | h
  · exact inC_one _ u h
  · exact outC_one _ u h
theorem coA_one (c : CoinR) : (coA c).all (·.oneCell') = true := by
  rw [Array.all_eq_true]
  intro i hi
  exact coC_one c _ (show (coA c)[i] ∈ (coA c).toList from Array.mem_toList_iff.2 (Array.getElem_mem hi))
theorem aggCo : AggT 50 35 := ⟨fun w => by simp [isAgg, run_underlying Tryd.underlying50], by kernel_rfl⟩
theorem elCo : ElemT 22 50 35 56 (coV noC0) := ⟨Tryd.underlying22, by kernel_rfl, by decide +kernel, by decide, by decide, by decide⟩
theorem infoCo (cs : Array Value) (h : cs.size = 35) : (Tryd.prog.info? 50).map (·.size) = some cs.size := by rw [h]; exact aggCo.size
theorem coC_in {c : CoinR} (h : lenC c) : (coC c).take 33 = inC (keyC c) := by unfold coC; rw [List.take_left' (inC_len (show lenI (keyC c) from h))]
theorem coC_tx {c : CoinR} (h : lenC c) : (coC c).take 32 = (arrB 32 c.tx).toList := by
  have e := coC_in h
  have e2 : (coC c).take 32 = ((coC c).take 33).take 32 := by rw [List.take_take]; rfl
  rw [e2, e]
  unfold inC
  exact List.take_left' (idA_list (show (keyC c).tx.length = 32 from h))
theorem coC_i {c : CoinR} (h : lenC c) : (coC c)[32]? = some (.int .i64 c.i) := by
  unfold coC
  rw [List.getElem?_append_left (by rw [inC_len (show lenI (keyC c) from h)]; omega)]
  exact inC_i (show lenI (keyC c) from h)
theorem coC_v {c : CoinR} (h : lenC c) : (coC c)[33]? = some (.int .i64 c.v) := by
  unfold coC
  rw [List.getElem?_append_right (by rw [inC_len (show lenI (keyC c) from h)]; omega), inC_len (show lenI (keyC c) from h)]
  rfl
theorem coC_to {c : CoinR} (h : lenC c) : (coC c)[34]? = some (.int .i64 c.to) := by
  unfold coC
  rw [List.getElem?_append_right (by rw [inC_len (show lenI (keyC c) from h)]; omega), inC_len (show lenI (keyC c) from h)]
  rfl
theorem coC_out {c : CoinR} (h : lenC c) : ((coC c).drop 33).take 2 = outC (outK c) := by
  unfold coC
  rw [List.drop_left' (inC_len (show lenI (keyC c) from h))]
  rfl
section
variable {w0 u : World} {M : Boxes} {g : Nat} {ty : TypeId} {c : CoinR}
theorem box_co_in (hu : EnvC w0 M u) (hm : (g, Obj.cells (coA c) ty (0, 0)) ∈ M) (h : lenC c) : (loadVar 42 ⟨g, 0, none⟩).run Tryd.prog u = .ok (inV (keyC c)) u := by
  have := box_agg aggIn (k := 0) hu hm (inC (keyC c)) (inC_len (show lenI (keyC c) from h)) (by unfold coA; rw [List.drop_zero]; exact coC_in h)
  exact this
theorem box_co_i (hu : EnvC w0 M u) (hm : (g, Obj.cells (coA c) ty (0, 0)) ∈ M) (h : lenC c) : (loadVar 3 ⟨g, 32, none⟩).run Tryd.prog u = .ok (.int .i64 c.i) u :=
  run_load_one oneInt u (box_cell hu hm (by unfold coA; rw [List.getElem?_toArray]; exact coC_i h))
theorem box_co_v (hu : EnvC w0 M u) (hm : (g, Obj.cells (coA c) ty (0, 0)) ∈ M) (h : lenC c) : (loadVar 3 ⟨g, 33, none⟩).run Tryd.prog u = .ok (.int .i64 c.v) u :=
  run_load_one oneInt u (box_cell hu hm (by unfold coA; rw [List.getElem?_toArray]; exact coC_v h))
theorem box_co_to (hu : EnvC w0 M u) (hm : (g, Obj.cells (coA c) ty (0, 0)) ∈ M) (h : lenC c) : (loadVar 3 ⟨g, 34, none⟩).run Tryd.prog u = .ok (.int .i64 c.to) u :=
  run_load_one oneInt u (box_cell hu hm (by unfold coA; rw [List.getElem?_toArray]; exact coC_to h))
end
theorem built_co {x : InR} {o : OutR} (h : lenI x) : Tryd.prog.built 50 [(0, inV x), (1, outV o)] = some (coA ⟨x.tx, x.i, o.v, o.to⟩) := by
  have hs : (inA x).size = 33 := inA_size h
  have e : cellsOfP [(0, inV x), (1, outV o)] = coC ⟨x.tx, x.i, o.v, o.to⟩ := by simp [cellsOfP, coC, inV, outV, inA, outA, keyC, outK, Value.cells]
  have := built_struct (t := 50) (n := 35) Tryd.underlying50 (by kernel_rfl) (places := [(0, 33), (33, 2)]) (by kernel_rfl) (ps := [(0, inV x), (1, outV o)]) (by
    refine ⟨?_, ?_, trivial⟩
    · show some (0, 33) = some (0, (inA x).size)
      rw [hs]
    · show some (33, 2) = some (0 + (inA x).size, 2)
      rw [hs]) (by rw [e, coC_len (c := ⟨x.tx, x.i, o.v, o.to⟩) h])
  rw [this, e]
  rfl
def CoinsIn (w : World) (B : Nat) (A : Option Addr) (l : List CoinR) : Prop := CellsIn w B A (l.map coC).flatten
theorem rowsCo {l : List CoinR} (h : ∀ c ∈ l, lenC c) : isRows 35 (l.map coC) := fun x hx => by
  obtain ⟨t, ht, rfl⟩ := List.mem_map.1 hx
  exact coC_len (h t ht)
theorem okP.lens {p : List CoinR} (h : okP p) : ∀ c ∈ p, lenC c := fun c hc => (h c hc).len
theorem getP {l : List CoinR} (h : okP l) {i : Nat} (hi : i < l.length) : okCoin (l.getD i noC0) := by
  rw [List.getD_eq_getElem?_getD, List.getElem?_eq_getElem hi]
  exact h _ (List.getElem_mem hi)
theorem okP.take {p : List CoinR} (h : okP p) (k : Nat) : okP (p.take k) := fun x hx => h x (List.mem_of_mem_take hx)
theorem okP.drop {p : List CoinR} (h : okP p) (k : Nat) : okP (p.drop k) := fun x hx => h x (List.mem_of_mem_drop hx)
theorem CoinsIn.loads {w : World} {A : Option Addr} {l : List CoinR} (h : CoinsIn w w.heap.size A l) (hl : okP l) {k : Nat} (hk : k < l.length) : ∃ ad, A = some ad ∧ ad.block < w.heap.size ∧ ∀ u, EnvX w u [] →
    (loadVar 50 (ad.add (k * 35))).run Tryd.prog u = .ok (coV (l.getD k noC0)) u ∧
    (loadVar 42 (ad.add (k * 35))).run Tryd.prog u = .ok (inV (keyC (l.getD k noC0))) u ∧
    (loadVar 40 (ad.add (k * 35))).run Tryd.prog u = .ok (idv (l.getD k noC0).tx) u ∧
    (loadVar 3 ((ad.add (k * 35)).add 32)).run Tryd.prog u = .ok (.int .i64 (l.getD k noC0).i) u ∧
    (loadVar 48 ((ad.add (k * 35)).add 33)).run Tryd.prog u = .ok (outV (outK (l.getD k noC0))) u ∧
    (loadVar 3 ((ad.add (k * 35)).add 33)).run Tryd.prog u = .ok (.int .i64 (l.getD k noC0).v) u ∧
    (loadVar 3 ((ad.add (k * 35)).add 34)).run Tryd.prog u = .ok (.int .i64 (l.getD k noC0).to) u := by
  obtain ⟨ad, e, hb, hc⟩ := row_cells (d := noC0) h (rowsCo hl.lens) (by decide) hk
  refine ⟨ad, e, hb, fun u hu => ?_⟩
  have h32 := (getP hl hk).len
  have hcu : ∀ j v, (coC (l.getD k noC0))[j]? = some v → u.cell? ((ad.add (k * 35)).add j) = some v := fun j v hv => by
    rw [← hc j v hv]
    exact (EnvX.bel hu).cell (by rw [block_of_add, block_of_add]; exact hb)
  generalize l.getD k noC0 = t at *
  have cut : ∀ (m : Nat) j v, ((coC t).take m)[j]? = some v → (coC t)[j]? = some v := fun m j v hj => by
    rw [List.getElem?_take] at hj
    split at hj
    · exact hj
    · cases hj
  refine ⟨run_loadAgg aggCo (coC t) (coC_len h32) hcu, ?_, ?_, run_load_one oneInt u (hcu 32 _ (coC_i h32)), ?_, run_load_one oneInt u (hcu 33 _ (coC_v h32)), run_load_one oneInt u (hcu 34 _ (coC_to h32))⟩
  · exact run_loadAgg aggIn (inC (keyC t)) (inC_len (show lenI (keyC t) from h32)) (fun j v hv => hcu j v (cut 33 j v (by rw [coC_in h32]; exact hv)))
  · have := run_loadAgg aggIdT (w := u) (ad := ad.add (k * 35)) _ (idA_list (show t.tx.length = 32 from h32)) (fun j v hv => hcu j v (cut 32 j v (by rw [coC_tx h32]; exact hv)))
    rwa [agg_list] at this
  · refine run_loadAgg aggOut (outC (outK t)) rfl (fun j v hv => ?_)
    rw [show ((ad.add (k * 35)).add 33).add j = (ad.add (k * 35)).add (33 + j) by simp only [add_addN, Nat.add_assoc]]
    refine hcu (33 + j) v ?_
    rw [← coC_out h32] at hv
    rw [List.getElem?_take] at hv
    split at hv
    · rw [List.getElem?_drop] at hv
      exact hv
    · cases hv
theorem fieldsCo : (Tryd.prog.fieldsOf 50).toList.map (fun f => (f.name == "_", f.type, f.offset)) = [(false, 42, 0), (false, 48, 33)] := by kernel_rfl
def eqC (a b : CoinR) : Bool := decide (a = b)
theorem run_equalIn_in (d : Nat) (a b : InR) (ha : lenI a) (hb : lenI b) (w : World) : (Op.equalIn (d + 4) 42 (inV a) (inV b)).run Tryd.prog w = .ok (eqI a b) w := by
  unfold inV
  have h := run_equalIn_struct (P := Tryd.prog) w (d + 3) 42 (inA a) (inA b) (by kernel_rfl) (by kernel_rfl)
  refine Eq.trans h ?_
  have hf := fieldsIn
  generalize (Tryd.prog.fieldsOf 42).toList = fs at hf ⊢
  have hl : fs.length = 2 := by simpa using congrArg List.length hf
  obtain ⟨f1, f2, rfl⟩ : ∃ f1 f2, fs = [f1, f2] := by
    match fs, hl with
    | [a, b], _ => exact ⟨a, b, rfl⟩
  simp only [List.map_cons, List.map_nil, List.cons.injEq, Prod.mk.injEq, beq_eq_false_iff_ne, and_true] at hf
  obtain ⟨⟨n1, t1, o1⟩, n2, t2, o2⟩ := hf
  have pT : ∀ t : InR, lenI t → (part 40 (inA t) 0).run Tryd.prog w = .ok (.agg (arrB 32 t.tx)) w := fun t ht => run_part_agg aggIdT (by have := ext_list (inC_tx ht); rwa [Array.toArray_toList] at this) w
  have pI : ∀ t : InR, lenI t → (part 3 (inA t) 32).run Tryd.prog w = .ok (.int .i64 t.i) w := fun t ht => run_part_plain (P := Tryd.prog) w (by kernel_rfl) (by unfold inA; rw [List.getElem?_toArray]; exact inC_i ht)
  have e1 := run_equalIn_id (d + 1) a.tx b.tx ha hb w
  have e2 := run_equalIn_int (P := Tryd.prog) w (d + 2) 3 .i64 .i64 a.i b.i Tryd.underlying3
  have hd : eqI a b = (eqL a.tx b.tx && (a.i == b.i)) := by
    unfold eqI eqL
    rw [Bool.eq_iff_iff]
    simp only [decide_eq_true_eq, Bool.and_eq_true, beq_iff_eq]
    exact ⟨fun h => by subst h; exact ⟨rfl, rfl⟩, fun h => by cases a; cases b; simp only at h; rw [h.1, h.2]⟩
  rw [hd]
  rw [eqFields_step (a := .agg (arrB 32 a.tx)) (b := .agg (arrB 32 b.tx)) n1 (by rw [t1, o1]; exact pT a ha) (by rw [t1, o1]; exact pT b hb) (by rw [t1]; exact e1)]
  cases eqL a.tx b.tx with
  | false => rfl
  | true =>
    rw [if_pos rfl, eqFields_step (a := .int .i64 a.i) (b := .int .i64 b.i) n2 (by rw [t2, o2]; exact pI a ha) (by rw [t2, o2]; exact pI b hb) (by rw [t2]; exact e2)]
    cases hab : (a.i == b.i) with
    | false => rfl
    | true => rfl
theorem run_equalIn_out (d : Nat) (a b : OutR) (w : World) : (Op.equalIn (d + 4) 48 (outV a) (outV b)).run Tryd.prog w = .ok (eqO a b) w := by
  unfold outV
  have h := run_equalIn_struct (P := Tryd.prog) w (d + 3) 48 (outA a) (outA b) (by kernel_rfl) (by kernel_rfl)
  refine Eq.trans h ?_
  have hf := fieldsOut
  generalize (Tryd.prog.fieldsOf 48).toList = fs at hf ⊢
  have hl : fs.length = 2 := by simpa using congrArg List.length hf
  obtain ⟨f1, f2, rfl⟩ : ∃ f1 f2, fs = [f1, f2] := by
    match fs, hl with
    | [a, b], _ => exact ⟨a, b, rfl⟩
  simp only [List.map_cons, List.map_nil, List.cons.injEq, Prod.mk.injEq, beq_eq_false_iff_ne, and_true] at hf
  obtain ⟨⟨n1, t1, o1⟩, n2, t2, o2⟩ := hf
  have pV : ∀ t : OutR, (part 3 (outA t) 0).run Tryd.prog w = .ok (.int .i64 t.v) w := fun t => run_part_plain (P := Tryd.prog) w (by kernel_rfl) rfl
  have pT : ∀ t : OutR, (part 3 (outA t) 1).run Tryd.prog w = .ok (.int .i64 t.to) w := fun t => run_part_plain (P := Tryd.prog) w (by kernel_rfl) rfl
  have e1 := run_equalIn_int (P := Tryd.prog) w (d + 2) 3 .i64 .i64 a.v b.v Tryd.underlying3
  have e2 := run_equalIn_int (P := Tryd.prog) w (d + 2) 3 .i64 .i64 a.to b.to Tryd.underlying3
  have hd : eqO a b = ((a.v == b.v) && (a.to == b.to)) := by
    unfold eqO
    rw [Bool.eq_iff_iff]
    simp only [decide_eq_true_eq, Bool.and_eq_true, beq_iff_eq]
    exact ⟨fun h => by subst h; exact ⟨rfl, rfl⟩, fun h => by cases a; cases b; simp only at h; rw [h.1, h.2]⟩
  rw [hd]
  rw [eqFields_step (a := .int .i64 a.v) (b := .int .i64 b.v) n1 (by rw [t1, o1]; exact pV a) (by rw [t1, o1]; exact pV b) (by rw [t1]; exact e1)]
  cases (a.v == b.v) with
  | false => rfl
  | true =>
    rw [if_pos rfl, eqFields_step (a := .int .i64 a.to) (b := .int .i64 b.to) n2 (by rw [t2, o2]; exact pT a) (by rw [t2, o2]; exact pT b) (by rw [t2]; exact e2)]
    cases hab : (a.to == b.to) with
    | false => rfl
    | true => rfl
theorem run_equal_co (a b : CoinR) (ha : lenC a) (hb : lenC b) (w : World) : (Op.equal 50 (coV a) (coV b)).run Tryd.prog w = .ok (eqC a b) w := by
  unfold Op.equal coV
  have h := run_equalIn_struct (P := Tryd.prog) w 9999 50 (coA a) (coA b) (by kernel_rfl) (by kernel_rfl)
  refine Eq.trans h ?_
  have hf := fieldsCo
  generalize (Tryd.prog.fieldsOf 50).toList = fs at hf ⊢
  have hl : fs.length = 2 := by simpa using congrArg List.length hf
  obtain ⟨f1, f2, rfl⟩ : ∃ f1 f2, fs = [f1, f2] := by
    match fs, hl with
    | [a, b], _ => exact ⟨a, b, rfl⟩
  simp only [List.map_cons, List.map_nil, List.cons.injEq, Prod.mk.injEq, beq_eq_false_iff_ne, and_true] at hf
  obtain ⟨⟨n1, t1, o1⟩, n2, t2, o2⟩ := hf
  have pI : ∀ t : CoinR, lenC t → (part 42 (coA t) 0).run Tryd.prog w = .ok (inV (keyC t)) w := fun t ht => run_part_agg aggIn (ext_list (a := coA t) (l := inC (keyC t)) (by unfold coA; rw [List.drop_zero]; exact coC_in ht)) w
  have pO : ∀ t : CoinR, lenC t → (part 48 (coA t) 33).run Tryd.prog w = .ok (outV (outK t)) w := fun t ht => run_part_agg aggOut (ext_list (a := coA t) (l := outC (outK t)) (by unfold coA; exact coC_out ht)) w
  have e1 := run_equalIn_in 9995 (keyC a) (keyC b) ha hb w
  have e2 := run_equalIn_out 9995 (outK a) (outK b) w
  have hd : eqC a b = (eqI (keyC a) (keyC b) && eqO (outK a) (outK b)) := by
    unfold eqC eqI eqO keyC outK
    rw [Bool.eq_iff_iff]
    simp only [decide_eq_true_eq, Bool.and_eq_true, InR.mk.injEq, OutR.mk.injEq]
    exact ⟨fun h => by subst h; exact ⟨⟨rfl, rfl⟩, rfl, rfl⟩, fun h => by cases a; cases b; simp only at h; rw [h.1.1, h.1.2, h.2.1, h.2.2]⟩
  rw [hd]
  rw [eqFields_step (a := inV (keyC a)) (b := inV (keyC b)) n1 (by rw [t1, o1]; exact pI a ha) (by rw [t1, o1]; exact pI b hb) (by rw [t1]; exact e1)]
  cases eqI (keyC a) (keyC b) with
  | false => rfl
  | true =>
    rw [if_pos rfl, eqFields_step (a := outV (outK a)) (b := outV (outK b)) n2 (by rw [t2, o2]; exact pO a ha) (by rw [t2, o2]; exact pO b hb) (by rw [t2]; exact e2)]
    cases hab : eqO (outK a) (outK b) with
    | false => rfl
    | true => rfl
theorem guardCo : Tryd.prog.eqGuardType Tryd.prog.depth 50 = false := by kernel_rfl
section
variable {a : Act} {dst : Option Tmp} {x y : Operand} {ty : TypeId} {pos : String} {after : Array Edge} {gd : Option (Nat × Bool)}
theorem neqCo_op {s t : CoinR} {b : Bool} (hs : lenC s) (ht : lenC t) (hb : (!eqC s t) = b) (u : World) (hx : a.eval x = coV s) (hy : a.eval y = coV t) :
    (execOp a.eval ⟨dst, .binOp .neq 50 x y 50, ty, pos, after, gd⟩).run Tryd.prog u = .ok (.value (.bool b)) u := by
  have h0 := run_equal_co s t hs ht u
  have h : (binOp .neq 50 (coV s) (coV t)).run Tryd.prog u = .ok (.bool (!eqC s t)) u := by
    unfold coV at *
    simp only [binOp]
    simp [h0]
  have hg := run_eqGuard_agg (P := Tryd.prog) u .neq 50 x y (coA s) (coA t) guardCo
  rw [← hb]
  unfold coV at *
  unfold execOp
  simp only [hx, hy, Sem.run_bind, hg, Result.andThen_ok, h, Sem.run_pure]
theorem fieldCo_op {k off : Nat} (hk : ([(0, 0), (1, 33)] : List (Nat × Nat)).lookup k = some off) {ad : Addr} (u : World) (hx : a.eval x = .pointer (some ad)) :
    (execOp a.eval ⟨dst, .fieldAddr 50 x k, ty, pos, after, gd⟩).run Tryd.prog u = .ok (.value (.pointer (some (ad.add off)))) u := by
  unfold execOp
  simp only [hx]
  rcases k with _ | _ | k
  all_goals first | (cases hk; go_simp) | cases hk
end
theorem findP_cases (p : List CoinR) (x : InR) : (findP p x = -1 ∧ ∀ c ∈ p, keyC c ≠ x) ∨ ∃ k, k < p.length ∧ findP p x = (k : Int) ∧ keyC (p.getD k noCoin) = x ∧ ∀ j, j < k → keyC (p.getD j noCoin) ≠ x := by
  unfold findP
  cases h : p.findIdx? (fun c => decide (keyC c = x)) with
  | none =>
    refine .inl ⟨rfl, fun c hc e => ?_⟩
    have := List.findIdx?_eq_none_iff.1 h c hc
    rw [e] at this
    simp at this
  | some k =>
    obtain ⟨hk, h1, h2⟩ := List.findIdx?_eq_some_iff_getElem.1 h
    refine .inr ⟨k, hk, rfl, ?_, fun j hj e => ?_⟩
    · rw [List.getD_eq_getElem?_getD, List.getElem?_eq_getElem hk]
      simpa using h1
    · have := h2 j hj
      rw [List.getD_eq_getElem?_getD, List.getElem?_eq_getElem (by omega)] at e
      simp only [Option.getD_some] at e
      rw [e] at this
      simp at this
theorem findP_none {p : List CoinR} {x : InR} (h : ∀ c ∈ p, keyC c ≠ x) : findP p x = -1 := by
  rcases findP_cases p x with ⟨e, _⟩ | ⟨k, hk, _, e, _⟩
  · exact e
  · refine absurd e (h _ ?_)
    rw [List.getD_eq_getElem?_getD, List.getElem?_eq_getElem hk]
    exact List.getElem_mem hk
theorem findP_hit {p : List CoinR} {x : InR} {k : Nat} (hk : k < p.length) (h : keyC (p.getD k noCoin) = x) (hn : ∀ j, j < k → keyC (p.getD j noCoin) ≠ x) : findP p x = (k : Int) := by
  rcases findP_cases p x with ⟨_, e⟩ | ⟨j, hj, e, h1, h2⟩
  · refine absurd h (e _ ?_)
    rw [List.getD_eq_getElem?_getD, List.getElem?_eq_getElem hk]
    exact List.getElem_mem hk
  · rcases Nat.lt_trichotomy j k with g | g | g
    · exact absurd h1 (hn j g)
    · rw [e, g]
    · exact absurd h (h2 k g)
theorem findP_up {p : List CoinR} (hp : idP p) (hu : upP p) {k : Nat} (hk : k < p.length) : findP p (keyC (p.getD k noCoin)) = (k : Int) := by
  refine findP_hit hk rfl fun j hj e => ?_
  have := (List.pairwise_iff_getElem.1 (up_ne hp hu)) j k (by omega) hk hj
  rw [List.getD_eq_getElem?_getD, List.getElem?_eq_getElem (show j < p.length by omega), List.getD_eq_getElem?_getD, List.getElem?_eq_getElem hk] at e
  exact this e
theorem mayP_iff {p : List CoinR} : mayP p = true ↔ p.length ≤ 48 ∧ (∀ c ∈ p, boundC c = true) ∧ upP p := by unfold mayP; rw [decide_eq_true_eq]
theorem mayP_nil : mayP [] = true := mayP_iff.2 ⟨Nat.zero_le _, (fun c h => by cases h), List.Pairwise.nil⟩
theorem sumP_may {p : List CoinR} (h : mayP p = true) : sumP p = sumV p := by unfold sumP; rw [if_pos h]
theorem thereP_no {p : List CoinR} {id : List Int} (h : thereP p id = false) : ∀ c ∈ p, c.tx ≠ id := fun c hc e => by
  unfold thereP at h
  rw [List.any_eq_false] at h
  exact h c hc (by simpa using e)
theorem bound_v {c : CoinR} (h : boundC c = true) : 1 ≤ c.v := by
  unfold boundC at h
  rw [decide_eq_true_eq] at h
  exact h.2.2.1
theorem new_bound {t : TxR} (hm : mayX t = true) (id : List Int) : ∀ c ∈ newC id 0 t.outs, boundC c = true := fun c hc => by
  obtain ⟨_, h1, h2, h3⟩ := newC_mem hc
  obtain ⟨_, _, h4, _, _, h5⟩ := mayX_iff.1 hm
  have h6 := h5 _ h3
  unfold boundC
  unfold mayOut outK at h6
  rw [decide_eq_true_eq] at *
  simp only at h6
  omega
/-- coins, those of a transaction made behind: what may be stays so -/
theorem made_may {l : List CoinR} {t : TxR} (hl : idP l) (hu : upP l) (hb : ∀ c ∈ l, boundC c = true) (hm : mayX t = true) (ht : thereP l (idX t) = false) (hlen : (madeP l (newC (idX t) 0 t.outs)).length ≤ 48) : mayP (madeP l (newC (idX t) 0 t.outs)) = true := by
  refine mayP_iff.2 ⟨hlen, fun c hc => ?_, ?_⟩
  · rcases List.mem_append.1 ((madeP_perm _ _).mem_iff.1 hc) with h | h
    · exact new_bound hm _ c h
    · exact hb c h
  · refine madeP_up _ _ hl (fun c hc => ?_) hu (fun d hd c hc e => ?_) (newC_ne _ _ _)
    · rw [(newC_mem hc).1]; exact idX_id t
    · exact thereP_no ht d hd (by rw [← (newC_mem hc).1]; exact congrArg InR.tx e)
theorem made_sum (l : List CoinR) (t : TxR) : sumV (madeP l (newC (idX t) 0 t.outs)) = worthX t + sumV l := by
  rw [sumV_perm (madeP_perm _ _), sumV_app, newC_sum]
  rfl
theorem made_idP {l : List CoinR} {t : TxR} (hl : idP l) : idP (madeP l (newC (idX t) 0 t.outs)) := fun c hc => by
  rcases List.mem_append.1 ((madeP_perm _ _).mem_iff.1 hc) with h | h
  · rw [(newC_mem h).1]; exact idX_id t
  · exact hl c h
theorem made_len (l : List CoinR) (t : TxR) : (madeP l (newC (idX t) 0 t.outs)).length = l.length + t.outs.length := by
  rw [(madeP_perm _ _).length_eq, List.length_append, newC_len]
  omega
/-- a transaction that is spent: all that holds then -/
theorem spend_ok {p : List CoinR} {t : TxR} {q : List CoinR} {n : Int} (hp : idP p) (h : spendP p t = (q, n, 0)) : mayP p = true ∧ mayX t = true ∧ t.ins ≠ [] ∧ ∃ l m, takeP p t.ins = some (l, m) ∧ worthX t ≤ m ∧ thereP l (idX t) = false ∧ q = madeP l (newC (idX t) 0 t.outs) ∧ q.length ≤ 48 ∧ n = m - worthX t := by
  unfold spendP at h
  split at h
  · rename_i hc
    simp only [Bool.and_eq_true, decide_eq_true_eq] at hc
    refine ⟨hc.1.1, hc.1.2, hc.2, ?_⟩
    cases ht : takeP p t.ins with
    | none => rw [ht] at h; simp at h
    | some r =>
      obtain ⟨l, m⟩ := r
      rw [ht] at h
      simp only at h
      split at h
      · simp at h
      · rename_i h1
        split at h
        · simp at h
        · rename_i h2
          split at h
          · simp at h
          · rename_i h3
            simp only [Prod.mk.injEq, and_true] at h
            exact ⟨l, m, rfl, by omega, by simpa using h2, h.1.symm, by rw [← h.1]; omega, h.2.symm⟩
  · simp at h
theorem spend_err {p : List CoinR} {t : TxR} {q : List CoinR} {n : Int} {e : Nat} (h : spendP p t = (q, n, e + 1)) : q = p ∧ n = 0 := by
  unfold spendP at h
  split at h
  · cases ht : takeP p t.ins with
    | none =>
      rw [ht] at h
      simp only [Prod.mk.injEq] at h
      exact ⟨h.1.symm, h.2.1.symm⟩
    | some r =>
      rw [ht] at h
      simp only at h
      split at h
      · simp only [Prod.mk.injEq] at h; exact ⟨h.1.symm, h.2.1.symm⟩
      · split at h
        · simp only [Prod.mk.injEq] at h; exact ⟨h.1.symm, h.2.1.symm⟩
        · split at h
          · simp only [Prod.mk.injEq] at h; exact ⟨h.1.symm, h.2.1.symm⟩
          · simp at h
  · simp only [Prod.mk.injEq] at h
    exact ⟨h.1.symm, h.2.1.symm⟩
theorem spend_may {p : List CoinR} {t : TxR} {q : List CoinR} {n : Int} (hp : idP p) (h : spendP p t = (q, n, 0)) : mayP q = true ∧ idP q ∧ sumV q + n = sumV p ∧ 0 ≤ n := by
  obtain ⟨hm, hx, _, l, m, ht, hw, hth, rfl, hl, rfl⟩ := spend_ok hp h
  obtain ⟨_, hb, hu⟩ := mayP_iff.1 hm
  obtain ⟨h1, h2, _, _, _⟩ := take_some _ _ _ ht
  simp only at h1 h2
  have hil : idP l := fun c hc => hp c (h1.subset hc)
  refine ⟨made_may hil (hu.sublist h1) (fun c hc => hb c (h1.subset hc)) hx hth hl, made_idP hil, ?_, by omega⟩
  rw [made_sum]
  omega
theorem spend_all {p : List CoinR} (hp : idP p) (hm : mayP p = true) (t : TxR) : mayP (spendP p t).1 = true ∧ idP (spendP p t).1 ∧ sumV (spendP p t).1 + (spendP p t).2.1 = sumV p ∧ 0 ≤ (spendP p t).2.1 := by
  rcases hs : spendP p t with ⟨q, n, e⟩
  cases e with
  | zero => exact spend_may hp hs
  | succ e =>
    obtain ⟨rfl, rfl⟩ := spend_err hs
    exact ⟨hm, hp, by simp, Int.le_refl _⟩
theorem run_all : ∀ (l : List TxR) (p : List CoinR) (n : Int) (q : List CoinR) (m : Int), idP p → mayP p = true → runP p n l = .ok (q, m) → mayP q = true ∧ idP q ∧ sumV q + m = sumV p + n ∧ n ≤ m
  | [], p, n, q, m, hp, hm, h => by
    unfold runP at h
    cases h
    exact ⟨hm, hp, rfl, Int.le_refl _⟩
  | t :: l, p, n, q, m, hp, hm, h => by
    unfold runP at h
    have ha := spend_all hp hm t
    rcases hs : spendP p t with ⟨q1, n1, e⟩
    rw [hs] at h ha
    cases e with
    | zero =>
      simp only at h ha
      obtain ⟨a, b, c, d⟩ := run_all l q1 (n + n1) q m ha.2.1 ha.1 h
      exact ⟨a, b, by omega, by omega⟩
    | succ e => simp only at h; cases h
theorem apply_all {p : List CoinR} (hp : idP p) (hm : mayP p = true) (l : List TxR) : mayP (applyP p l).1 = true ∧ idP (applyP p l).1 ∧ sumV (applyP p l).1 ≤ sumV p + 50 ∧ ((applyP p l).2 ≠ 0 → (applyP p l).1 = p) := by
  have base : mayP p = true ∧ idP p ∧ sumV p ≤ sumV p + 50 ∧ (∀ e : Nat, e ≠ 0 → p = p) := ⟨hm, hp, by omega, fun _ _ => rfl⟩
  unfold applyP
  rw [if_neg (by rw [hm]; decide)]
  split
  · exact ⟨base.1, base.2.1, base.2.2.1, fun _ => rfl⟩
  · cases hr : runP p 0 (if loneX l = true then l.tail else l) with
    | error e => exact ⟨base.1, base.2.1, base.2.2.1, fun _ => rfl⟩
    | ok r =>
      obtain ⟨q, n⟩ := r
      obtain ⟨a, b, c, d⟩ := run_all _ _ _ _ _ hp hm hr
      obtain ⟨_, hb, hu⟩ := mayP_iff.1 a
      cases l with
      | nil => exact ⟨a, b, by simp only; omega, fun h => absurd rfl h⟩
      | cons t l =>
        simp only
        split
        · exact ⟨a, b, by simp only; omega, fun h => absurd rfl h⟩
        · split
          · exact ⟨base.1, base.2.1, base.2.2.1, fun _ => rfl⟩
          · rename_i hx
            split
            · exact ⟨base.1, base.2.1, base.2.2.1, fun _ => rfl⟩
            · rename_i hth
              split
              · exact ⟨base.1, base.2.1, base.2.2.1, fun _ => rfl⟩
              · rename_i hw
                split
                · exact ⟨base.1, base.2.1, base.2.2.1, fun _ => rfl⟩
                · rename_i hl
                  refine ⟨made_may b hu hb (by simpa using hx) (by simpa using hth) (by omega), made_idP b, ?_, fun h => absurd rfl h⟩
                  simp only
                  rw [made_sum]
                  omega
/-- coins each of which stands ahead of the next one -/
theorem up_steps {p : List CoinR} (hp : idP p) (h : ∀ i, i + 1 < p.length → beforeK (keyC (p.getD i noC0)) (keyC (p.getD (i + 1) noC0)) = true) : upP p := by
  have get : ∀ i, (hi : i < p.length) → p.getD i noC0 = p[i] := fun i hi => by rw [List.getD_eq_getElem?_getD, List.getElem?_eq_getElem hi]; rfl
  have step : ∀ d i, (hi : i + d + 1 < p.length) → beforeK (keyC (p[i]'(by omega))) (keyC p[i + d + 1]) = true := by
    intro d
    induction d with
    | zero => intro i hi; have := h i hi; rwa [get i (by omega), get (i + 1) hi] at this
    | succ d ih =>
      intro i hi
      have h1 := ih i (by omega)
      have h2 := h (i + d + 1) hi
      rw [get (i + d + 1) (by omega), get (i + d + 1 + 1) (by omega)] at h2
      exact bef_trans (hp _ (List.getElem_mem _)) (hp _ (List.getElem_mem _)) (hp _ (List.getElem_mem _)) h1 h2
  refine List.pairwise_iff_getElem.2 fun i j hi hj hij => ?_
  obtain ⟨d, rfl⟩ : ∃ d, j = i + d + 1 := ⟨j - i - 1, by omega⟩
  exact step d i hj
section
variable {dst : Option Tmp} {ty : TypeId} {pos : String} {after : Array Edge} {gd : Option (Nat × Bool)}
theorem new_co (a : Act) : NewAt Tryd.prog ⟨dst, .alloc 50, ty, pos, after, gd⟩ a (.cells (coA noC0) 50 (0, 0)) := by
  exact new_of (t := 50) (z := coV noC0) (n := 35) (by kernel_rfl) a
end
/-- a first transaction alone -/
theorem apply_first {p : List CoinR} (hm : mayP p = true) {t : TxR} (ht : t.ins = []) : applyP p [t] =
    if mayX t = false then (p, 1) else if thereP p (idX t) then (p, 10) else if 50 < worthX t then (p, 8) else if 48 < (madeP p (newC (idX t) 0 t.outs)).length then (p, 11) else (madeP p (newC (idX t) 0 t.outs), 0) := by
  unfold applyP
  rw [if_neg (by rw [hm]; decide), if_neg (by simp)]
  have hlone : loneX [t] = true := by unfold loneX; simpa using ht
  rw [hlone]
  simp only [if_true, List.tail_cons]
  unfold runP
  simp only
  rw [if_neg (by rw [ht]; simp)]
  simp only [Int.add_zero]
theorem take_snocC {α : Type} {l : List α} {i : Nat} (d : α) (hi : i < l.length) : l.take (i + 1) = l.take i ++ [l.getD i d] := by
  rw [List.take_succ_eq_append_getElem hi, List.getD_eq_getElem?_getD, List.getElem?_eq_getElem hi]
  rfl
theorem newC_snoc (id : List Int) : ∀ (os : List OutR) (i : Int) (o : OutR), newC id i (os ++ [o]) = newC id i os ++ [⟨id, i + os.length, o.v, o.to⟩]
  | [], i, o => by simp [newC]
  | x :: os, i, o => by
    have := newC_snoc id os (i + 1) o
    show _ :: newC id (i + 1) (os ++ [o]) = _ :: (newC id (i + 1) os ++ _)
    rw [this]
    congr 3
    simp only [List.length_cons]
    congr 1
    push_cast
    omega
theorem madeP_len (p cs : List CoinR) : (madeP p cs).length = cs.length + p.length := by rw [(madeP_perm cs p).length_eq, List.length_append]
theorem newC_ok {id : List Int} {os : List OutR} (hid : isId id) (ho : ∀ o ∈ os, okOut o) (hl : os.length ≤ 1000) : okP (newC id 0 os) := fun c hc => by
  obtain ⟨h1, h2, h3, h4⟩ := newC_mem hc
  have h5 := ho _ h4
  refine ⟨by rw [h1]; exact hid, ?_, h5.1, h5.2⟩
  unfold I64
  omega
theorem madeP_ok {p cs : List CoinR} (hp : okP p) (hc : okP cs) : okP (madeP p cs) := fun c h => by
  rcases List.mem_append.1 ((madeP_perm cs p).mem_iff.1 h) with h | h
  · exact hc c h
  · exact hp c h
theorem takeP_snoc : ∀ (xs : List InR) (l : List CoinR) (x : InR), takeP l (xs ++ [x]) = match takeP l xs with
    | none => none
    | some r => match r.1.find? (fun c => decide (keyC c = x)) with
      | none => none
      | some c => some (r.1.eraseP fun c => decide (keyC c = x), r.2 + c.v)
  | [], l, x => by
    show takeP l [x] = _
    unfold takeP takeP
    simp only
    cases l.find? (fun c => decide (keyC c = x)) with
    | none => rfl
    | some c => simp
  | y :: xs, l, x => by
    show takeP l (y :: (xs ++ [x])) = _
    unfold takeP
    cases l.find? (fun c => decide (keyC c = y)) with
    | none => rfl
    | some c =>
      simp only
      rw [takeP_snoc xs]
      cases takeP (l.eraseP fun c => decide (keyC c = y)) xs with
      | none => rfl
      | some r =>
        simp only
        cases r.1.find? (fun c => decide (keyC c = x)) with
        | none => rfl
        | some d => simp only [Option.some.injEq, Prod.mk.injEq, true_and]; omega
theorem takeP_more {l : List CoinR} {xs : List InR} (h : takeP l xs = none) : ∀ ys, takeP l (xs ++ ys) = none := by
  intro ys
  induction xs generalizing l with
  | nil => cases h
  | cons x xs ih =>
    unfold takeP at h
    show takeP l (x :: (xs ++ ys)) = none
    unfold takeP
    cases hf : l.find? (fun c => decide (keyC c = x)) with
    | none => rfl
    | some c =>
      rw [hf] at h
      simp only at h
      cases ht : takeP (l.eraseP fun c => decide (keyC c = x)) xs with
      | none => simp only; rw [ih ht]
      | some r => rw [ht] at h; cases h
/-- found at a place: the coin, and what is left -/
theorem find_place {l : List CoinR} {x : InR} {k : Nat} (d : CoinR) (h : findP l x = (k : Int)) : k < l.length ∧ l.find? (fun c => decide (keyC c = x)) = some (l.getD k d) ∧ (l.eraseP fun c => decide (keyC c = x)) = l.take k ++ l.drop (k + 1) := by
  rcases findP_cases l x with ⟨e, _⟩ | ⟨j, hj, e, h1, h2⟩
  · omega
  · obtain rfl : j = k := by omega
    clear e h
    have hd : l.getD j d = l.getD j noCoin := by rw [List.getD_eq_getElem?_getD, List.getElem?_eq_getElem hj, List.getD_eq_getElem?_getD, List.getElem?_eq_getElem hj]; rfl
    rw [hd]
    refine ⟨hj, ?_⟩
    induction l generalizing j with
    | nil => cases hj
    | cons c l ih =>
      cases j with
      | zero =>
        have hc : keyC c = x := h1
        exact ⟨by rw [List.find?_cons_of_pos (by simpa using hc)]; rfl, by rw [List.eraseP_cons_of_pos (by simpa using hc)]; rfl⟩
      | succ j =>
        have hc : keyC c ≠ x := h2 0 (by omega)
        have h3 := ih j (by simpa using hj) h1 (fun i hi => h2 (i + 1) (by omega)) (by rw [List.getD_eq_getElem?_getD, List.getElem?_eq_getElem (show j < l.length by simpa using hj), List.getD_eq_getElem?_getD, List.getElem?_eq_getElem (show j < l.length by simpa using hj)]; rfl)
        refine ⟨by rw [List.find?_cons_of_neg (by simpa using hc)]; exact h3.1, by rw [List.eraseP_cons_of_neg (by simpa using hc), h3.2]; rfl⟩
theorem find_nowhere {l : List CoinR} {x : InR} (h : findP l x = -1) : l.find? (fun c => decide (keyC c = x)) = none := by
  rcases findP_cases l x with ⟨_, e⟩ | ⟨j, _, e, _⟩
  · exact List.find?_eq_none.2 fun c hc => by simpa using e c hc
  · omega
theorem take_stepC {p : List CoinR} {xs : List InR} {i : Nat} (dx : InR) (d : CoinR) (hi : i < xs.length) {l : List CoinR} {n : Int} (h : takeP p (xs.take i) = some (l, n)) {k : Nat} (hk : findP l (xs.getD i dx) = (k : Int)) :
    takeP p (xs.take (i + 1)) = some (l.take k ++ l.drop (k + 1), n + (l.getD k d).v) := by
  obtain ⟨_, h1, h2⟩ := find_place d hk
  rw [take_snocC dx hi, takeP_snoc, h]
  simp only
  rw [h1, h2]
theorem take_stopC {p : List CoinR} {xs : List InR} {i : Nat} (dx : InR) (hi : i < xs.length) {l : List CoinR} {n : Int} (h : takeP p (xs.take i) = some (l, n)) (hk : findP l (xs.getD i dx) = -1) : takeP p xs = none := by
  have h1 : takeP p (xs.take (i + 1)) = none := by
    rw [take_snocC dx hi, takeP_snoc, h]
    simp only
    rw [find_nowhere hk]
  have := takeP_more h1 (xs.drop (i + 1))
  rwa [List.take_append_drop] at this
theorem runP_cons (p : List CoinR) (n : Int) (t : TxR) (l : List TxR) : runP p n (t :: l) = match spendP p t with
    | (q, m, 0) => runP q (n + m) l
    | (_, _, e + 1) => .error (e + 1) := rfl
theorem runP_app : ∀ (xs : List TxR) (p : List CoinR) (n : Int) (ys : List TxR), runP p n (xs ++ ys) = match runP p n xs with
    | .error e => .error e
    | .ok (q, m) => runP q m ys
  | [], p, n, ys => rfl
  | t :: xs, p, n, ys => by
    show runP p n (t :: (xs ++ ys)) = _
    rw [runP_cons, runP_cons]
    rcases hs : spendP p t with ⟨q, m, e⟩
    cases e with
    | zero => simp only; exact runP_app xs q (n + m) ys
    | succ e => rfl
theorem getD_dC {p : List CoinR} {i : Nat} (h : i < p.length) : p.getD i noC0 = p.getD i noCoin := by rw [List.getD_eq_getElem?_getD, List.getElem?_eq_getElem h, List.getD_eq_getElem?_getD, List.getElem?_eq_getElem h]; rfl
theorem findP_hit0 {p : List CoinR} {x : InR} {k : Nat} (hk : k < p.length) (h : keyC (p.getD k noC0) = x) (hn : ∀ j, j < k → keyC (p.getD j noC0) ≠ x) : findP p x = (k : Int) :=
  findP_hit hk (by rw [← getD_dC hk]; exact h) (fun j hj => by rw [← getD_dC (by omega)]; exact hn j hj)
theorem findP_none0 {p : List CoinR} {x : InR} (h : ∀ j, j < p.length → keyC (p.getD j noC0) ≠ x) : findP p x = -1 := findP_none fun c hc => by
  obtain ⟨j, hj, rfl⟩ := List.getElem_of_mem hc
  have := h j hj
  rwa [List.getD_eq_getElem?_getD, List.getElem?_eq_getElem hj] at this
theorem thereP_hit {p : List CoinR} {id : List Int} {k : Nat} (hk : k < p.length) (h : (p.getD k noC0).tx = id) : thereP p id = true := by
  unfold thereP
  rw [List.any_eq_true]
  exact ⟨p.getD k noC0, by rw [List.getD_eq_getElem?_getD, List.getElem?_eq_getElem hk]; exact List.getElem_mem hk, by simpa using h⟩
theorem sumV_step {p : List CoinR} {i : Nat} (d : CoinR) (hi : i < p.length) : sumV (p.take (i + 1)) = sumV (p.take i) + (p.getD i d).v := by
  rw [take_snocC d hi, sumV_app]
  unfold sumV
  simp
theorem bound_v2 {c : CoinR} (h : boundC c = true) : 1 ≤ c.v ∧ c.v ≤ 1099511627776 := by
  unfold boundC at h
  rw [decide_eq_true_eq] at h
  exact ⟨h.2.2.1, h.2.2.2.1⟩
theorem sumV_bound : ∀ {p : List CoinR}, (∀ c ∈ p, boundC c = true) → 0 ≤ sumV p ∧ sumV p ≤ 1099511627776 * p.length
  | [], _ => by simp [sumV]
  | c :: p, h => by
    have h1 := sumV_bound (p := p) (fun d hd => h d (List.mem_cons_of_mem _ hd))
    have h2 := bound_v2 (h c (List.mem_cons_self ..))
    rw [sumV_cons, List.length_cons]
    push_cast
    omega
def worthL (l : List OutR) : Int := (l.map (·.v)).sum
theorem worthL_step {l : List OutR} {i : Nat} (d : OutR) (hi : i < l.length) : worthL (l.take (i + 1)) = worthL (l.take i) + (l.getD i d).v := by
  rw [take_snocC d hi]
  unfold worthL
  rw [List.map_append, List.sum_append]
  simp
theorem outV_bound {o : OutR} (h : mayOut o = true) : 1 ≤ o.v ∧ o.v ≤ 1099511627776 := by
  unfold mayOut at h
  rw [decide_eq_true_eq] at h
  exact ⟨h.1, h.2.1⟩
theorem worthL_bound : ∀ {l : List OutR}, (∀ o ∈ l, mayOut o = true) → 0 ≤ worthL l ∧ worthL l ≤ 1099511627776 * l.length
  | [], _ => by simp [worthL]
  | c :: p, h => by
    have h1 := worthL_bound (l := p) (fun d hd => h d (List.mem_cons_of_mem _ hd))
    have h2 := outV_bound (h c (List.mem_cons_self ..))
    have e : worthL (c :: p) = c.v + worthL p := by unfold worthL; rw [List.map_cons, List.sum_cons]
    rw [e, List.length_cons]
    push_cast
    omega
theorem box_idvP {w0 u : World} {M : Boxes} {g : Nat} {ty : TypeId} {ys : List Int} (hu : EnvC w0 M u) (hm : (g, Obj.cells (arrB 32 ys) ty (0, 0)) ∈ M) (h : ys.length = 32) : (loadVar 40 ⟨g, 0, none⟩).run Tryd.prog u = .ok (idv ys) u := by
  have := box_agg aggIdT (k := 0) hu hm _ (idA_list h) (by rw [List.drop_zero, List.take_of_length_le (by rw [idA_list h]; exact Nat.le_refl _)])
  rwa [Array.toArray_toList] at this
/-- coins in a slice that is read -/
def CoSl (w : World) (v : Value) (q : List CoinR) : Prop := ∃ A c, v = .slice A q.length c ∧ q.length ≤ c ∧ c ≤ maxLen ∧ CoinsIn w w.heap.size A q
theorem CoSl.up {w w' : World} {v : Value} {q : List CoinR} (h : CoSl w v q) (hb : Below w.heap.size w w') : CoSl w' v q := by
  obtain ⟨A, c, h1, h2, h3, h4⟩ := h
  exact ⟨A, c, h1, h2, h3, CellsIn.up h4 hb⟩
theorem coins_split (l : List CoinR) (k : Nat) : (l.map coC).flatten = ((l.take k).map coC).flatten ++ ((l.drop k).map coC).flatten := by rw [← List.flatten_append, ← List.map_append, List.take_append_drop]
theorem CoinsIn.first {w : World} {B : Nat} {A : Option Addr} {l : List CoinR} (h : CoinsIn w B A l) (k : Nat) : CoinsIn w B A (l.take k) := by
  unfold CoinsIn at *
  intro hp
  have e := coins_split l k
  obtain ⟨ad, e1, hb, hc⟩ := h (by rw [e, List.length_append]; omega)
  refine ⟨ad, e1, hb, fun j v hj => hc j v ?_⟩
  rw [e, List.getElem?_append_left]
  · exact hj
  · rcases Nat.lt_or_ge j ((l.take k).map coC).flatten.length with h' | h'
    · exact h'
    · rw [List.getElem?_eq_none h'] at hj; cases hj
theorem CoinsIn.rest {w : World} {B : Nat} {A : Option Addr} {l : List CoinR} (h : CoinsIn w B A l) (hl : ∀ c ∈ l, lenC c) {k c : Nat} (hk : k ≤ l.length) (hc : l.length ≤ c) : CellsIn w B (cutX 35 A k c) ((l.drop k).map coC).flatten := by
  have e := coins_split l k
  have hlen : ((l.take k).map coC).flatten.length = k * 35 := by
    rw [(rowsCo (fun x hx => hl x (List.mem_of_mem_take hx))).flat_len, List.length_map, List.length_take, Nat.min_eq_left hk]
  have hd : ((l.drop k).map coC).flatten = (l.map coC).flatten.drop (k * 35) := by rw [e, List.drop_left' hlen]
  rw [hd]
  refine CellsIn.drop h 35 k c ?_
  rcases Nat.lt_or_ge k c with h' | h'
  · exact .inl h'
  · refine .inr ?_
    rw [(rowsCo hl).flat_len, List.length_map]
    have : l.length = k := by omega
    rw [this]
    exact Nat.le_refl _
theorem flat35 {l : List CoinR} (hl : ∀ c ∈ l, lenC c) : (l.map coC).flatten.length = l.length * 35 := by rw [(rowsCo hl).flat_len, List.length_map]
theorem coins_one (l : List CoinR) : ∀ u ∈ (l.map coC).flatten, u.oneCell' = true := fun u hu => by
  obtain ⟨r, hr, h⟩ := List.mem_flatten.1 hu
  obtain ⟨c, _, rfl⟩ := List.mem_map.1 hr
  exact coC_one c u h
theorem take_bounds {p : List CoinR} (hm : mayP p = true) (hp : okP p) {xs : List InR} {l : List CoinR} {m : Int} (h : takeP p xs = some (l, m)) : okP l ∧ l.length ≤ 48 ∧ 0 ≤ m ∧ m ≤ 52776558133248 ∧ (∀ c ∈ l, boundC c = true) := by
  obtain ⟨h1, h2, h3, _, h5⟩ := take_some _ _ _ h
  simp only at h1 h2 h3 h5
  obtain ⟨k1, k2, _⟩ := mayP_iff.1 hm
  have hb : ∀ c ∈ l, boundC c = true := fun c hc => k2 c (h1.subset hc)
  have b1 := sumV_bound hb
  have b2 := sumV_bound k2
  have hl := h1.length_le
  refine ⟨fun c hc => hp c (h1.subset hc), by omega, h5 (fun d hd => by have := bound_v (k2 d hd); omega), by omega, hb⟩
theorem spend_arg1 {p : List CoinR} {t : TxR} (h : mayP p = false) : spendP p t = (p, 0, 1) := by unfold spendP; rw [h]; rfl
theorem spend_arg2 {p : List CoinR} {t : TxR} (h : mayX t = false) : spendP p t = (p, 0, 1) := by unfold spendP; rw [h, Bool.and_false]; rfl
theorem spend_arg3 {p : List CoinR} {t : TxR} (h : t.ins = []) : spendP p t = (p, 0, 1) := by
  unfold spendP
  rw [if_neg (by rw [h]; simp)]
theorem spend_none {p : List CoinR} {t : TxR} (h1 : mayP p = true) (h2 : mayX t = true) (h3 : t.ins ≠ []) (h : takeP p t.ins = none) : spendP p t = (p, 0, 8) := by
  unfold spendP
  rw [h1, h2, if_pos (by simpa using h3), h]
theorem spend_some {p : List CoinR} {t : TxR} (h1 : mayP p = true) (h2 : mayX t = true) (h3 : t.ins ≠ []) {l : List CoinR} {m : Int} (h : takeP p t.ins = some (l, m)) : spendP p t = if m < worthX t then (p, 0, 8) else if thereP l (idX t) then (p, 0, 10) else if 48 < (madeP l (newC (idX t) 0 t.outs)).length then (p, 0, 11) else (madeP l (newC (idX t) 0 t.outs), m - worthX t, 0) := by
  unfold spendP
  rw [h1, h2, if_pos (by simpa using h3), h]
theorem okP_of {q : List CoinR} (h1 : idP q) (h2 : ∀ c ∈ q, boundC c = true) : okP q := fun c hc => by
  have h := h2 c hc
  unfold boundC at h
  rw [decide_eq_true_eq] at h
  refine ⟨h1 c hc, ?_, ?_, ?_⟩ <;> (unfold I64; omega)
theorem run_bounds {p : List CoinR} (hm : mayP p = true) (hp : okP p) {l : List TxR} {q : List CoinR} {m : Int} (h : runP p 0 l = .ok (q, m)) : okP q ∧ q.length ≤ 48 ∧ 0 ≤ m ∧ m ≤ 52776558133248 ∧ mayP q = true := by
  obtain ⟨a, b, c, d⟩ := run_all _ _ _ _ _ hp.id hm h
  obtain ⟨k1, k2, _⟩ := mayP_iff.1 a
  have b1 := sumV_bound k2
  have b2 := sumV_bound (mayP_iff.1 hm).2.1
  have b3 := (mayP_iff.1 hm).1
  exact ⟨okP_of b k2, k1, d, by omega, a⟩
theorem apply_arg {p : List CoinR} {l : List TxR} (h : mayP p = false) : applyP p l = (p, 1) := by unfold applyP; rw [if_pos h]
theorem apply_size {p : List CoinR} {l : List TxR} (h : mayP p = true) (h2 : 4 < l.length) : applyP p l = (p, 3) := by unfold applyP; rw [if_neg (by rw [h]; decide), if_pos h2]
theorem apply_err {p : List CoinR} {l : List TxR} (h : mayP p = true) (h2 : ¬ 4 < l.length) {e : Nat} (hr : runP p 0 (if loneX l then l.tail else l) = .error e) : applyP p l = (p, e) := by
  unfold applyP
  rw [if_neg (by rw [h]; decide), if_neg h2]
  have hr' : runP p 0 (if loneX l = true then l.tail else l) = .error e := hr
  rw [hr']
theorem apply_out {p : List CoinR} {l : List TxR} (h : mayP p = true) (h2 : ¬ 4 < l.length) {q : List CoinR} {m : Int} (hr : runP p 0 (if loneX l then l.tail else l) = .ok (q, m)) (hl : loneX l = false) : applyP p l = (q, 0) := by
  unfold applyP
  rw [if_neg (by rw [h]; decide), if_neg h2]
  have hr' : runP p 0 (if loneX l = true then l.tail else l) = .ok (q, m) := hr
  rw [hr']
  cases l with
  | nil => rfl
  | cons t l =>
    simp only
    rw [if_pos (by unfold loneX at hl; simpa using hl)]
theorem apply_lone {p : List CoinR} {l : List TxR} (h : mayP p = true) (h2 : ¬ 4 < l.length) {q : List CoinR} {m : Int} (hr : runP p 0 (if loneX l then l.tail else l) = .ok (q, m)) (hl : loneX l = true) (d : TxR) : applyP p l =
    if mayX (l.getD 0 d) = false then (p, 1) else if thereP q (idX (l.getD 0 d)) then (p, 10) else if 50 + m < worthX (l.getD 0 d) then (p, 8) else if 48 < (madeP q (newC (idX (l.getD 0 d)) 0 (l.getD 0 d).outs)).length then (p, 11) else (madeP q (newC (idX (l.getD 0 d)) 0 (l.getD 0 d).outs), 0) := by
  unfold applyP
  rw [if_neg (by rw [h]; decide), if_neg h2]
  have hr' : runP p 0 (if loneX l = true then l.tail else l) = .ok (q, m) := hr
  rw [hr']
  cases l with
  | nil => cases hl
  | cons t l =>
    simp only
    rw [if_neg (by unfold loneX at hl; simpa using hl)]
    rfl
theorem lone_get {l : List TxR} (d : TxR) (h : 0 < l.length) : loneX l = decide ((l.getD 0 d).ins = []) := by
  cases l with
  | nil => cases h
  | cons t l => rfl
section
variable {a : Act} {dst : Option Tmp} {x y : Operand} {ty : TypeId} {pos : String} {after : Array Edge} {gd : Option (Nat × Bool)}
theorem neErr_op {m k : Int} {b : Bool} (u : World) (hb : decide (m ≠ k) = b) (hx : a.eval x = .int .i64 m) (hy : a.eval y = .int .i64 k) :
    (execOp a.eval ⟨dst, .binOp .neq 31 x y 31, ty, pos, after, gd⟩).run Tryd.prog u = .ok (.value (.bool b)) u := by
  have e : (m != k) = b := by rw [← hb]; by_cases h : m = k <;> simp [h]
  subst e
  unfold execOp
  simp only [hx, hy]
  go_simp
end
section
variable {a : Act} {dst : Option Tmp} {x y : Operand} {ty : TypeId} {pos : String} {after : Array Edge} {gd : Option (Nat × Bool)}
end
section
variable {w0 u : World} {M : Boxes} {g : Nat} {t : TypeId}
theorem cells_box {cs : Array Value} {L : List Value} (hu : EnvC w0 M u) (hm : (g, Obj.cells cs t (0, 0)) ∈ M) (h : cs.toList = L) : CellsIn u u.heap.size (some ⟨g, 0, none⟩) L := fun _ =>
  ⟨_, rfl, EnvX.lt hu hm, fun j v hj => by
    rw [Addr.add_mid, Nat.zero_add]
    exact box_cell hu hm (by rw [← h] at hj; rwa [Array.getElem?_toList] at hj)⟩
end
def fewX (t : TxR) : Bool := decide (t.ins.length ≤ 6 ∧ t.outs.length ≤ 6)
theorem fewX_eq {t : TxR} {n1 n2 : Nat} (h1 : t.ins.length = n1) (h2 : t.outs.length = n2) : fewX t = (decide ((n1 : Int) ≤ 6) && decide ((n2 : Int) ≤ 6)) := by
  unfold fewX
  rw [h1, h2, Bool.eq_iff_iff]
  simp only [decide_eq_true_eq, Bool.and_eq_true]
  omega
set_option maxRecDepth 20000 in
set_option maxHeartbeats 8000000 in
theorem few_one (r : TxR) (A1 : Option Addr) (n1 c1 : Nat) (A2 : Option Addr) (n2 c2 : Nat) (w : World) (ht : TxOk w ⟨r, A1, n1, c1, A2, n2, c2⟩) :
    Calls Tryd.prog 10 #[txV ⟨r, A1, n1, c1, A2, n2, c2⟩] w fun e w' => e = .returned (.bool (fewX r)) ∧ Below w.heap.size w w' := by
  have hfe := fewX_eq ht.l1 ht.l2
  have HN63 := Lib.hid ht.n63
  have E1 : Hid (EnvX w (w.alloc (.cells (txA ⟨r, A1, n1, c1, A2, n2, c2⟩) 26)) [(w.heap.size, Obj.cells (txA ⟨r, A1, n1, c1, A2, n2, c2⟩) 26 (0, 0))]) := (EnvX.start w).new _
  dsimp only at hfe
  rw [hfe]
  clear hfe ht
  obtain ⟨d, hd⟩ : ∃ d, decide ((n2 : Int) ≤ 6) = d := ⟨_, rfl⟩
  have HD := Lib.hid hd
  rw [hd]
  clear hd
  unfold txV
  cases hb : decide ((n1 : Int) ≤ 6) with
  | false =>
    have C1 := Lib.hid hb
    clear hb
    go_enter Tryd.func10, Tryd.ntmps10
    go_upto_region 1 with (fail)
    generalize w.alloc (.cells (txA ⟨r, A1, n1, c1, A2, n2, c2⟩) 26) = W at *
    refine wp_region_Hx (w0 := w) [0, 1, 2, 3, 4, 5, 6, 7, 8, 9, 10] [(w.heap.size, Obj.cells (txA ⟨r, A1, n1, c1, A2, n2, c2⟩) 26 (0, 0))] rfl E1.out ?_
    refine lexH_phase [0, 1, 2, 3, 4, 5, 6, 7, 8, 9, 10] [] ?_
    have hw1 : EnvX w _ [(w.heap.size, Obj.cells (txA ⟨r, A1, n1, c1, A2, n2, c2⟩) 26 (0, 0))] := E1.out
    have hone := @EnvC.one _ _ _ hw1
    (refine wpG_op rfl rfl rfl ?_; intro K hK; go_big_quiet_op; go_big_quiet_on)
    (refine wpG_val (v := .slice A1 n1 c1) rfl rfl (fun u hu => load_any_op u (box_tx_ins hu (List.Mem.head _)) rfl) ?_ hw1; intro K hK; go_big_quiet_op; go_big_quiet_on)
    (refine wpG_val (v := .int .i64 (n1 : Int)) rfl rfl (fun u hu => len_op Tryd.underlying23 HN63.out.1 u rfl) ?_ hw1; intro K hK; go_big_quiet_op; go_big_quiet_on)
    (refine wpG_val (v := .bool false) rfl rfl (fun u hu => leZ_op u C1.out rfl rfl) ?_ hw1; intro K hK; go_big_quiet_op; go_big_quiet_on)
    (refine wpG_op rfl rfl rfl ?_; intro K hK; go_big_quiet_op; go_big_quiet_on)
    iterate 4 (refine wpG_skip rfl rfl ?_ hw1; intro K hK; go_big_quiet_op; go_big_quiet_on)
    iterate 2 (refine wpG_op rfl rfl rfl ?_; intro K hK; go_big_quiet_op; go_big_quiet_on)
    clear hone hw1
    refine wpG_nil ?_
    intro u3 E2'
    have EX2 := Lib.hid E2'
    clear E2'
    have HBE := Lib.hid (EnvX.bel EX2.out)
    go_wp2
    go_ret
    exact ⟨rfl, HBE.out⟩
  | true =>
    have C1 := Lib.hid hb
    clear hb
    go_enter Tryd.func10, Tryd.ntmps10
    go_upto_region 1 with (fail)
    generalize w.alloc (.cells (txA ⟨r, A1, n1, c1, A2, n2, c2⟩) 26) = W at *
    refine wp_region_Hx (w0 := w) [0, 1, 2, 3, 4, 5, 6, 7, 8, 9, 10] [(w.heap.size, Obj.cells (txA ⟨r, A1, n1, c1, A2, n2, c2⟩) 26 (0, 0))] rfl E1.out ?_
    refine lexH_phase [0, 1, 2, 3, 4, 5, 6, 7, 8, 9, 10] [] ?_
    have hw1 : EnvX w _ [(w.heap.size, Obj.cells (txA ⟨r, A1, n1, c1, A2, n2, c2⟩) 26 (0, 0))] := E1.out
    have hone := @EnvC.one _ _ _ hw1
    (refine wpG_op rfl rfl rfl ?_; intro K hK; go_big_quiet_op; go_big_quiet_on)
    (refine wpG_val (v := .slice A1 n1 c1) rfl rfl (fun u hu => load_any_op u (box_tx_ins hu (List.Mem.head _)) rfl) ?_ hw1; intro K hK; go_big_quiet_op; go_big_quiet_on)
    (refine wpG_val (v := .int .i64 (n1 : Int)) rfl rfl (fun u hu => len_op Tryd.underlying23 HN63.out.1 u rfl) ?_ hw1; intro K hK; go_big_quiet_op; go_big_quiet_on)
    (refine wpG_val (v := .bool true) rfl rfl (fun u hu => leZ_op u C1.out rfl rfl) ?_ hw1; intro K hK; go_big_quiet_op; go_big_quiet_on)
    iterate 2 (refine wpG_op rfl rfl rfl ?_; intro K hK; go_big_quiet_op; go_big_quiet_on)
    (refine wpG_val (v := .slice A2 n2 c2) rfl rfl (fun u hu => load_any_op u (box_tx_outs hu (List.Mem.head _)) rfl) ?_ hw1; intro K hK; go_big_quiet_op; go_big_quiet_on)
    (refine wpG_val (v := .int .i64 (n2 : Int)) rfl rfl (fun u hu => len_op Tryd.underlying24 HN63.out.2 u rfl) ?_ hw1; intro K hK; go_big_quiet_op; go_big_quiet_on)
    (refine wpG_val (v := .bool d) rfl rfl (fun u hu => leZ_op u HD.out rfl rfl) ?_ hw1; intro K hK; go_big_quiet_op; go_big_quiet_on)
    iterate 2 (refine wpG_op rfl rfl rfl ?_; intro K hK; go_big_quiet_op; go_big_quiet_on)
    clear hone hw1
    refine wpG_nil ?_
    intro u3 E2'
    have EX2 := Lib.hid E2'
    clear E2'
    have HBE := Lib.hid (EnvX.bel EX2.out)
    go_wp2
    go_ret
    exact ⟨rfl, HBE.out⟩
theorem few_any (t : TxM) (w : World) (ht : TxOk w t) : Calls Tryd.prog 10 #[txV t] w fun e w' => e = .returned (.bool (fewX t.r)) ∧ Below w.heap.size w w' := by
  obtain ⟨r, A1, n1, c1, A2, n2, c2⟩ := t
  exact few_one r A1 n1 c1 A2 n2 c2 w ht
/-- the contracts of package purse -/
structure PurseC : Prop where
  may : ∀ (p : List CoinR) (A : Option Addr) (n c : Nat) (w : World), p.length = n → n ≤ c → c ≤ maxLen → okP p → CoinsIn w w.heap.size A p → Tables w →
    Calls Tryd.prog 20 #[.slice A n c] w fun e w' => e = .returned (.bool (mayP p)) ∧ Below w.heap.size w w'
  same : ∀ (p q : List CoinR) (A A' : Option Addr) (n c m c' : Nat) (w : World), p.length = n → n ≤ 1000 → n ≤ c → c ≤ maxLen → okP p → CoinsIn w w.heap.size A p → q.length = m → m ≤ 1000 → m ≤ c' → c' ≤ maxLen → okP q → CoinsIn w w.heap.size A' q → Tables w →
    Calls Tryd.prog 21 #[.slice A n c, .slice A' m c'] w fun e w' => e = .returned (.bool (samePu p q)) ∧ Below w.heap.size w w'
  find : ∀ (p : List CoinR) (A : Option Addr) (n c : Nat) (x : InR) (w : World), p.length = n → n ≤ 1000 → n ≤ c → c ≤ maxLen → okP p → CoinsIn w w.heap.size A p → okIn x → Tables w →
    Calls Tryd.prog 18 #[.slice A n c, inV x] w fun e w' => e = .returned (.int .i64 (findP p x)) ∧ Below w.heap.size w w'
  sum : ∀ (p : List CoinR) (A : Option Addr) (n c : Nat) (w : World), p.length = n → n ≤ 1000 → n ≤ c → c ≤ maxLen → okP p → CoinsIn w w.heap.size A p → Tables w →
    Calls Tryd.prog 22 #[.slice A n c] w fun e w' => e = .returned (.int .i64 (sumP p)) ∧ Below w.heap.size w w'
  spend : ∀ (p : List CoinR) (A : Option Addr) (n c : Nat) (t : TxM) (w : World), p.length = n → n ≤ 1000 → n ≤ c → c ≤ maxLen → okP p → CoinsIn w w.heap.size A p → TxOk w t → fewX t.r = true → Tables w →
    Calls Tryd.prog 12 #[.slice A n c, txV t] w fun e w' => (∃ v, e = .returned (.tuple #[v, .int .i64 (spendP p t.r).2.1, .int .i64 ((spendP p t.r).2.2 : Int)]) ∧ CoSl w' v (spendP p t.r).1) ∧ Below w.heap.size w w'
  apply : ∀ (p : List CoinR) (A : Option Addr) (n c : Nat) (l : List TxM) (A' : Option Addr) (n' c' : Nat) (w : World), p.length = n → n ≤ 1000 → n ≤ c → c ≤ maxLen → okP p → CoinsIn w w.heap.size A p → l.length = n' → n' ≤ 6 → n' ≤ c' → c' ≤ maxLen → TxsIn w A' l → (∀ t ∈ l, fewX t.r = true) → Tables w →
    Calls Tryd.prog 14 #[.slice A n c, .slice A' n' c'] w fun e w' => (∃ v, e = .returned (.tuple #[v, .int .i64 ((applyP p (rsT l)).2 : Int)]) ∧ CoSl w' v (applyP p (rsT l)).1) ∧ Below w.heap.size w w'
/-- coins that are read, wherever they lie: the block in which they do -/
def CoB (q : List CoinR) (A : Option Addr) (N : Boxes) : Prop := ((q.map coC).flatten = [] ∧ N = []) ∨
  ∃ ad o, A = some ad ∧ N = [(ad.block, o)] ∧ ∀ u : World, u.heap[ad.block]? = some o → ∀ j v, ((q.map coC).flatten)[j]? = some v → u.cell? (ad.add j) = some v
theorem CoB.read {q : List CoinR} {A : Option Addr} {N M : Boxes} {w0 u : World} (h : CoB q A N) (hu : EnvX w0 u M) (hN : ∀ y ∈ N, y ∈ M) : CoinsIn u u.heap.size A q := by
  intro hp
  rcases h with ⟨h, _⟩ | ⟨ad, o, rfl, rfl, hc⟩
  · rw [h] at hp; exact absurd hp (Nat.lt_irrefl 0)
  · have hm := hN _ (List.mem_singleton.2 rfl)
    exact ⟨ad, rfl, hu.lt hm, hc u (hu.box _ _ hm)⟩
theorem CoB.of {q : List CoinR} {A : Option Addr} {w : World} (h : CoinsIn w w.heap.size A q) : ∃ N, CoB q A N ∧ ∀ y ∈ N, w.heap[y.1]? = some y.2 := by
  by_cases h0 : (q.map coC).flatten = []
  · exact ⟨[], .inl ⟨h0, rfl⟩, fun y hy => by cases hy⟩
  · obtain ⟨ad, rfl, hb, hc⟩ := h (List.length_pos_iff.2 h0)
    refine ⟨[(ad.block, w.heap[ad.block])], .inr ⟨ad, _, rfl, rfl, fun u hu j v hv => ?_⟩, fun y hy => by cases List.mem_singleton.1 hy; exact Array.getElem?_eq_getElem hb⟩
    have h1 := hc j v hv
    have hbl : (ad.add j).block = ad.block := block_of_add _ _
    unfold World.cell? at h1 ⊢
    rw [hbl] at h1 ⊢
    rw [hu]
    rw [Array.getElem?_eq_getElem hb] at h1
    exact h1
theorem co_turn3 {f : FuncId} {args : Array Value} {u w0 : World} {M : Boxes} {q : List CoinR} {x y : Value} (h : Calls Tryd.prog f args u fun e w' => (∃ v, e = .returned (.tuple #[v, x, y]) ∧ CoSl w' v q) ∧ Below u.heap.size u w') (hu : EnvX w0 u M) :
    Calls Tryd.prog f args u fun e w' => ∃ r M', e = .returned r ∧ EnvX w0 w' M' ∧ ∃ A c N, r = .tuple #[.slice A q.length c, x, y] ∧ M' = N ++ M ∧ (q.length ≤ c ∧ c ≤ maxLen) ∧ CoB q A N :=
  h.mono fun e w' ⟨⟨v, he, A, c, hv, h1, h2, h3⟩, hb⟩ => by
    subst hv
    obtain ⟨N, hN, hbx⟩ := CoB.of h3
    have hE := EnvX.below hu hb
    refine ⟨_, N ++ M, he, ⟨hE.bel, fun g o hm => ?_⟩, A, c, N, rfl, rfl, ⟨h1, h2⟩, hN⟩
    rcases List.mem_append.1 hm with h | h
    · exact hbx _ h
    · exact hE.box g o h
theorem co_turn2 {f : FuncId} {args : Array Value} {u w0 : World} {M : Boxes} {q : List CoinR} {x : Value} (h : Calls Tryd.prog f args u fun e w' => (∃ v, e = .returned (.tuple #[v, x]) ∧ CoSl w' v q) ∧ Below u.heap.size u w') (hu : EnvX w0 u M) :
    Calls Tryd.prog f args u fun e w' => ∃ r M', e = .returned r ∧ EnvX w0 w' M' ∧ ∃ A c N, r = .tuple #[.slice A q.length c, x] ∧ M' = N ++ M ∧ (q.length ≤ c ∧ c ≤ maxLen) ∧ CoB q A N :=
  h.mono fun e w' ⟨⟨v, he, A, c, hv, h1, h2, h3⟩, hb⟩ => by
    subst hv
    obtain ⟨N, hN, hbx⟩ := CoB.of h3
    have hE := EnvX.below hu hb
    refine ⟨_, N ++ M, he, ⟨hE.bel, fun g o hm => ?_⟩, A, c, N, rfl, rfl, ⟨h1, h2⟩, hN⟩
    rcases List.mem_append.1 hm with h | h
    · exact hbx _ h
    · exact hE.box g o h
open Go.ChangeShapes Go.WideShapes Go.ChangeAt Go.RowKit Go.Deep
theorem ccellsCo : Tryd.prog.cellsOf 50 = 35 := by kernel_rfl
section
variable {H : Type} {enc : TypeId × Value → H} {W : World} {base : Nat} {spare : Nat → Bool} {held : Bool} {fuel : Nat} {cs : List Value} {x : DataW H × List MemPlace}
theorem co_cells (h : DataW.trod enc Tryd.prog W base spare held fuel 50 cs = some x) : ∃ t : CoinR, okCoin t ∧ cs = coC t := by
  obtain ⟨y0, y1, n, _, hl, h0, h1⟩ := trod_struct2 Tryd.underlying50 h
  rw [ccellsCo] at hl
  obtain ⟨k, hk, e0⟩ := in_cells h0
  obtain ⟨o, ho, e1⟩ := out_cells h1
  have e0' : cs.take 33 = inC k := by
    have h := e0
    rw [show Tryd.prog.cellsOf 42 = 33 from ccellsIn] at h
    exact h
  have e1' : (cs.drop 33).take 2 = outC o := by
    have h := e1
    rw [show Tryd.prog.cellsOf 48 = 2 from ccellsOut] at h
    exact h
  refine ⟨⟨k.tx, k.i, o.v, o.to⟩, ⟨hk.1, hk.2, ho.1, ho.2⟩, ?_⟩
  show cs = inC k ++ outC o
  rw [← e0', ← e1', List.take_of_length_le (l := cs.drop 33) (by rw [List.length_drop]; omega), List.take_append_drop]
end
section
variable {H : Type} {enc : TypeId × Value → H} {W : World} {base : Nat} {v : Value} {d : DataW H} {p : List MemPlace}
theorem open_coins (hok : Value.okWide Tryd.prog W .any base 22 v) (h : DataW.Trod enc Tryd.prog W 0 (fun _ => true) true 22 v d p) :
    ∃ (a : Option Addr) (n c : Nat) (l : List CoinR), v = .slice a n c ∧ l.length = n ∧ n ≤ c ∧ c ≤ maxLen ∧ okP l ∧ CoinsIn W W.heap.size a l :=
  open_elems (ok := okCoin) (C := coC) Tryd.underlying22 ccellsCo (by decide) (fun t ht => coC_len ht.len) (fun _ _ _ h => co_cells h) hok h
end
end Go.Proofs.YtabhhbdbkeeblaaDoor
