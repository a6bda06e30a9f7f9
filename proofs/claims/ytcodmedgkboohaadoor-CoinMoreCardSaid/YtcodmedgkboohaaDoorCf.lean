/- Part of a proof. -/
import Derived.Test.YtcodmedgkboohaaDoorCe
import Derived.Deep.Strs
namespace Go.Proofs.YtcodmedgkboohaaDoor
set_option maxRecDepth 8000
open Go.RowKit

def inC (x : InR) : List Value := (arrB 32 x.tx).toList ++ [.int .i64 x.i]
def inA (x : InR) : Array Value := (inC x).toArray
def inV (x : InR) : Value := .agg (inA x)
def lenI (x : InR) : Prop := x.tx.length = 32
def noIn : InR := ⟨[], 0⟩
theorem okIn.len {x : InR} (h : okIn x) : lenI x := h.1.1
theorem inC_len {x : InR} (h : lenI x) : (inC x).length = 33 := by
  unfold inC
  rw [List.length_append, idA_list h]
  rfl
theorem inA_size {x : InR} (h : lenI x) : (inA x).size = 33 := by unfold inA; rw [List.size_toArray, inC_len h]
theorem inC_one (x : InR) : ∀ u ∈ inC x, u.oneCell' = true := by
  intro u hu
  unfold inC at hu
  rcases List.mem_append.1 hu with h | h
  · exact cell_of_all (arrB_one 32 _) u h
  · cases List.mem_singleton.1 h
    rfl
theorem inA_one (x : InR) : (inA x).all (·.oneCell') = true := by
  rw [Array.all_eq_true]
  intro i hi
  exact inC_one x _ (show (inA x)[i] ∈ (inA x).toList from Array.mem_toList_iff.2 (Array.getElem_mem hi))
theorem aggIn : AggT 51 33 := ⟨fun w => by simp [isAgg, run_underlying Tryd.underlying51], by kernel_rfl⟩
theorem elIn : ElemT 22 51 33 40 (inV noIn) := ⟨Tryd.underlying22, by kernel_rfl, by decide +kernel, by decide, by decide, by decide⟩
theorem infoIn (cs : Array Value) (h : cs.size = 33) : (Tryd.prog.info? 51).map (·.size) = some cs.size := by rw [h]; exact aggIn.size
theorem inC_tx {x : InR} (h : lenI x) : ((inA x).toList.drop 0).take 32 = (arrB 32 x.tx).toList := by
  unfold inA inC
  rw [List.drop_zero, List.take_left' (idA_list h)]
theorem inC_i {x : InR} (h : lenI x) : (inC x)[32]? = some (.int .i64 x.i) := by
  unfold inC
  rw [List.getElem?_append_right (by rw [idA_list h]; omega), idA_list h]
  rfl
def outC (o : OutR) : List Value := [.int .i64 o.v, .int .i64 o.to]
def outA (o : OutR) : Array Value := (outC o).toArray
def outV (o : OutR) : Value := .agg (outA o)
def noOut : OutR := ⟨0, 0⟩
theorem outA_size (o : OutR) : (outA o).size = 2 := rfl
theorem outC_one (o : OutR) : ∀ u ∈ outC o, u.oneCell' = true := by
  intro u hu
  unfold outC at hu
  simp only [List.mem_cons, List.not_mem_nil, or_false] at hu
  rcases hu with rfl | rfl <;> rfl
theorem outA_one (o : OutR) : (outA o).all (·.oneCell') = true := by
  rw [Array.all_eq_true]
  intro i hi
  exact outC_one o _ (show (outA o)[i] ∈ (outA o).toList from Array.mem_toList_iff.2 (Array.getElem_mem hi))
theorem aggOut : AggT 49 2 := ⟨fun w => by simp [isAgg, run_underlying Tryd.underlying49], by kernel_rfl⟩
theorem elOut : ElemT 23 49 2 16 (outV noOut) := ⟨Tryd.underlying23, by kernel_rfl, by decide +kernel, by decide, by decide, by decide⟩
theorem infoOut (cs : Array Value) (h : cs.size = 2) : (Tryd.prog.info? 49).map (·.size) = some cs.size := by rw [h]; exact aggOut.size
section
variable {w0 u : World} {M : Boxes} {g : Nat} {ty : TypeId} {x : InR} {o : OutR}
theorem box_in (hu : EnvC w0 M u) (hm : (g, Obj.cells (inA x) ty (0, 0)) ∈ M) (h : lenI x) : (loadVar 51 ⟨g, 0, none⟩).run Tryd.prog u = .ok (inV x) u := by
  have := box_agg aggIn (k := 0) hu hm (inC x) (inC_len h) (by unfold inA; rw [List.drop_zero, List.take_of_length_le (by rw [inC_len h]; omega)])
  exact this
theorem box_in_i (hu : EnvC w0 M u) (hm : (g, Obj.cells (inA x) ty (0, 0)) ∈ M) (h : lenI x) : (loadVar 3 ⟨g, 32, none⟩).run Tryd.prog u = .ok (.int .i64 x.i) u :=
  run_load_one oneInt u (box_cell hu hm (by unfold inA; rw [List.getElem?_toArray]; exact inC_i h))
theorem src_in_tx {x : InR} (h : lenI x) : ((inA x).toList.drop 0).take (x.tx.map u8v).length = x.tx.map u8v := by
  have := inC_tx h
  rw [arrId_map h] at this
  rwa [List.length_map, h]
theorem box_out_v (hu : EnvC w0 M u) (hm : (g, Obj.cells (outA o) ty (0, 0)) ∈ M) : (loadVar 3 ⟨g, 0, none⟩).run Tryd.prog u = .ok (.int .i64 o.v) u :=
  run_load_one oneInt u (box_cell hu hm rfl)
theorem box_out_to (hu : EnvC w0 M u) (hm : (g, Obj.cells (outA o) ty (0, 0)) ∈ M) : (loadVar 3 ⟨g, 1, none⟩).run Tryd.prog u = .ok (.int .i64 o.to) u :=
  run_load_one oneInt u (box_cell hu hm rfl)
end
theorem built_in {tx : List Int} {i : Int} (h : tx.length = 32) : Tryd.prog.built 51 [(0, idv tx), (1, .int .i64 i)] = some (inA ⟨tx, i⟩) := by
  have hs : (arrB 32 tx).size = 32 := arrB_size _ _ (by omega)
  have e : cellsOfP [(0, idv tx), (1, .int .i64 i)] = inC ⟨tx, i⟩ := by simp [cellsOfP, inC, idv, Value.cells]
  have := built_struct (t := 51) (n := 33) Tryd.underlying51 (by kernel_rfl) (places := [(0, 32), (32, 1)]) (by kernel_rfl) (ps := [(0, idv tx), (1, .int .i64 i)]) (by
    refine ⟨?_, ?_, trivial⟩
    · show some (0, 32) = some (0, (arrB 32 tx).size)
      rw [hs]
    · show some (32, 1) = some (0 + (arrB 32 tx).size, 1)
      rw [hs]) (by rw [e, inC_len (x := ⟨tx, i⟩) h])
  rw [this, e]
  rfl
theorem built_out {v to : Int} : Tryd.prog.built 49 [(0, .int .i64 v), (1, .int .i64 to)] = some (outA ⟨v, to⟩) := by
  have e : cellsOfP [(0, .int .i64 v), (1, .int .i64 to)] = outC ⟨v, to⟩ := by simp [cellsOfP, outC, Value.cells]
  have := built_struct (t := 49) (n := 2) Tryd.underlying49 (by kernel_rfl) (places := [(0, 1), (1, 1)]) (by kernel_rfl) (ps := [(0, .int .i64 v), (1, .int .i64 to)]) (by
    refine ⟨?_, ?_, trivial⟩
    · rfl
    · rfl) (by rw [e]; rfl)
  rw [this, e]
  rfl
def InsIn (w : World) (B : Nat) (A : Option Addr) (l : List InR) : Prop := CellsIn w B A (l.map inC).flatten
def OutsIn (w : World) (B : Nat) (A : Option Addr) (l : List OutR) : Prop := CellsIn w B A (l.map outC).flatten
def okIns (l : List InR) : Prop := ∀ x ∈ l, okIn x
def okOuts (l : List OutR) : Prop := ∀ x ∈ l, okOut x
theorem rowsIn {l : List InR} (h : okIns l) : isRows 33 (l.map inC) := fun x hx => by
  obtain ⟨t, ht, rfl⟩ := List.mem_map.1 hx
  exact inC_len (h t ht).len
theorem rowsOut (l : List OutR) : isRows 2 (l.map outC) := fun x hx => by
  obtain ⟨t, ht, rfl⟩ := List.mem_map.1 hx
  rfl
theorem okIns.get {l : List InR} (h : okIns l) {i : Nat} (hi : i < l.length) : okIn (l.getD i noIn) := by
  rw [List.getD_eq_getElem?_getD, List.getElem?_eq_getElem hi]
  exact h _ (List.getElem_mem hi)
theorem okOuts.get {l : List OutR} (h : okOuts l) {i : Nat} (hi : i < l.length) : okOut (l.getD i noOut) := by
  rw [List.getD_eq_getElem?_getD, List.getElem?_eq_getElem hi]
  exact h _ (List.getElem_mem hi)
theorem okIns.take {l : List InR} (h : okIns l) (k : Nat) : okIns (l.take k) := fun x hx => h x (List.mem_of_mem_take hx)
theorem okOuts.take {l : List OutR} (h : okOuts l) (k : Nat) : okOuts (l.take k) := fun x hx => h x (List.mem_of_mem_take hx)
/-- one row of a list of rows, at its place -/
theorem row_cells {α : Type} {C : α → List Value} {z : Nat} {w : World} {B : Nat} {A : Option Addr} {l : List α} {d : α} (h : CellsIn w B A (l.map C).flatten) (hR : isRows z (l.map C)) (z0 : 0 < z) {i : Nat} (hi : i < l.length) :
    ∃ ad, A = some ad ∧ ad.block < B ∧ ∀ j v, (C (l.getD i d))[j]? = some v → w.cell? ((ad.add (i * z)).add j) = some v := by
  have hfl := hR.flat_len
  rw [List.length_map] at hfl
  have hp : 0 < l.length * z := Nat.mul_pos (by omega) z0
  obtain ⟨ad, e, hb, hc⟩ := h (by rw [hfl]; exact hp)
  have hg : (l.map C).getD i [] = C (l.getD i d) := by
    rw [List.getD_eq_getElem?_getD, List.getElem?_map, List.getElem?_eq_getElem hi, List.getD_eq_getElem?_getD, List.getElem?_eq_getElem hi]
    rfl
  refine ⟨ad, e, hb, fun j v hv => ?_⟩
  rw [add_addN]
  refine hc (i * z + j) v ?_
  have hj : j < z := by
    rcases Nat.lt_or_ge j z with h' | h'
    · exact h'
    · have := hR.get (i := i) (by rw [List.length_map]; exact hi)
      rw [hg] at this
      rw [List.getElem?_eq_none (by rw [this]; exact h')] at hv
      cases hv
  rw [hR.flat_get i j (by rw [List.length_map]; exact hi) hj, hg]
  exact hv
theorem InsIn.loads {w : World} {A : Option Addr} {l : List InR} (h : InsIn w w.heap.size A l) (hl : okIns l) {k : Nat} (hk : k < l.length) : ∃ ad, A = some ad ∧ ad.block < w.heap.size ∧ ∀ u, EnvX w u [] →
    (loadVar 51 (ad.add (k * 33))).run Tryd.prog u = .ok (inV (l.getD k noIn)) u ∧
    (loadVar 37 (ad.add (k * 33))).run Tryd.prog u = .ok (idv (l.getD k noIn).tx) u ∧
    (loadVar 3 ((ad.add (k * 33)).add 32)).run Tryd.prog u = .ok (.int .i64 (l.getD k noIn).i) u ∧
    SrcAt u (ad.add (k * 33)) ((l.getD k noIn).tx.map u8v) := by
  obtain ⟨ad, e, hb, hc⟩ := row_cells (d := noIn) h (rowsIn hl) (by decide) hk
  refine ⟨ad, e, hb, fun u hu => ?_⟩
  have h32 := (hl.get hk).len
  have hcu : ∀ j v, (inC (l.getD k noIn))[j]? = some v → u.cell? ((ad.add (k * 33)).add j) = some v := fun j v hv => by
    rw [← hc j v hv]
    exact (EnvX.bel hu).cell (by rw [block_of_add, block_of_add]; exact hb)
  generalize l.getD k noIn = t at *
  refine ⟨run_loadAgg aggIn (inC t) (inC_len h32) hcu, ?_, run_load_one oneInt u (hcu 32 _ (inC_i h32)), ?_⟩
  · have := run_loadAgg aggIdT (w := u) (ad := ad.add (k * 33)) _ (idA_list h32) (fun j v hv => hcu j v (by
      unfold inC
      rw [List.getElem?_append_left (by
        rcases Nat.lt_or_ge j (arrB 32 t.tx).toList.length with h' | h'
        · exact h'
        · rw [List.getElem?_eq_none h'] at hv; cases hv)]
      exact hv))
    rwa [agg_list] at this
  · intro j c hcj
    refine hcu j c ?_
    have hj : j < (arrB 32 t.tx).toList.length := by
      rw [arrId_map h32]
      rcases Nat.lt_or_ge j (t.tx.map u8v).length with h' | h'
      · exact h'
      · rw [List.getElem?_eq_none h'] at hcj; cases hcj
    unfold inC
    rw [List.getElem?_append_left hj, arrId_map h32]
    exact hcj
theorem OutsIn.loads {w : World} {A : Option Addr} {l : List OutR} (h : OutsIn w w.heap.size A l) {k : Nat} (hk : k < l.length) : ∃ ad, A = some ad ∧ ad.block < w.heap.size ∧ ∀ u, EnvX w u [] →
    (loadVar 49 (ad.add (k * 2))).run Tryd.prog u = .ok (outV (l.getD k noOut)) u ∧
    (loadVar 3 (ad.add (k * 2))).run Tryd.prog u = .ok (.int .i64 (l.getD k noOut).v) u ∧
    (loadVar 3 ((ad.add (k * 2)).add 1)).run Tryd.prog u = .ok (.int .i64 (l.getD k noOut).to) u := by
  obtain ⟨ad, e, hb, hc⟩ := row_cells (d := noOut) h (rowsOut l) (by decide) hk
  refine ⟨ad, e, hb, fun u hu => ?_⟩
  have hcu : ∀ j v, (outC (l.getD k noOut))[j]? = some v → u.cell? ((ad.add (k * 2)).add j) = some v := fun j v hv => by
    rw [← hc j v hv]
    exact (EnvX.bel hu).cell (by rw [block_of_add, block_of_add]; exact hb)
  generalize l.getD k noOut = t at *
  have hadd0 : ∀ a : Addr, a.add 0 = a := fun a => by unfold Addr.add; rfl
  refine ⟨run_loadAgg aggOut (outC t) rfl hcu, run_load_one oneInt u (by have := hcu 0 _ rfl; rwa [hadd0] at this), run_load_one oneInt u (hcu 1 _ rfl)⟩
theorem fieldsIn : (Tryd.prog.fieldsOf 51).toList.map (fun f => (f.name == "_", f.type, f.offset)) = [(false, 37, 0), (false, 3, 32)] := by kernel_rfl
theorem fieldsOut : (Tryd.prog.fieldsOf 49).toList.map (fun f => (f.name == "_", f.type, f.offset)) = [(false, 3, 0), (false, 3, 1)] := by kernel_rfl
def eqI (a b : InR) : Bool := decide (a = b)
def eqO (a b : OutR) : Bool := decide (a = b)
theorem run_equal_in (a b : InR) (ha : lenI a) (hb : lenI b) (w : World) : (Op.equal 51 (inV a) (inV b)).run Tryd.prog w = .ok (eqI a b) w := by
  unfold Op.equal inV
  have h := run_equalIn_struct (P := Tryd.prog) w 9999 51 (inA a) (inA b) (by kernel_rfl) (by kernel_rfl)
  refine Eq.trans h ?_
  have hf := fieldsIn
  generalize (Tryd.prog.fieldsOf 51).toList = fs at hf ⊢
  have hl : fs.length = 2 := by simpa using congrArg List.length hf
  obtain ⟨f1, f2, rfl⟩ : ∃ f1 f2, fs = [f1, f2] := by
    match fs, hl with
    | [a, b], _ => exact ⟨a, b, rfl⟩
  simp only [List.map_cons, List.map_nil, List.cons.injEq, Prod.mk.injEq, beq_eq_false_iff_ne, and_true] at hf
  obtain ⟨⟨n1, t1, o1⟩, n2, t2, o2⟩ := hf
  have pT : ∀ t : InR, lenI t → (part 37 (inA t) 0).run Tryd.prog w = .ok (.agg (arrB 32 t.tx)) w := fun t ht => run_part_agg aggIdT (by have := ext_list (inC_tx ht); rwa [Array.toArray_toList] at this) w
  have pI : ∀ t : InR, lenI t → (part 3 (inA t) 32).run Tryd.prog w = .ok (.int .i64 t.i) w := fun t ht => run_part_plain (P := Tryd.prog) w (by kernel_rfl) (by unfold inA; rw [List.getElem?_toArray]; exact inC_i ht)
  have e1 := run_equalIn_id 9997 a.tx b.tx ha hb w
  have e2 := run_equalIn_int (P := Tryd.prog) w 9998 3 .i64 .i64 a.i b.i Tryd.underlying3
  have hd : eqI a b = (eqL a.tx b.tx && (a.i == b.i)) := by
    unfold eqI eqL
    rw [Bool.eq_iff_iff]
    simp only [decide_eq_true_eq, Bool.and_eq_true, beq_iff_eq]
    exact ⟨fun h => by subst h; exact ⟨rfl, rfl⟩, fun h => by cases a; cases b; simp only at h; rw [h.1, h.2]⟩
  rw [hd]
  rw [eqFields_step (a := .agg (arrB 32 a.tx)) (b := .agg (arrB 32 b.tx)) n1 (by rw [t1, o1]; exact pT a ha) (by rw [t1, o1]; exact pT b hb) (by rw [t1]; exact e1)]
  cases eqL a.tx b.tx with
  | false => rfl
  | true =>
    rw [if_pos rfl, eqFields_step (a := .int .i64 a.i) (b := .int .i64 b.i) n2 (by rw [t2, o2]; exact pI a ha) (by rw [t2, o2]; exact pI b hb) (by rw [t2]; exact e2)]
    cases hab : (a.i == b.i) with
    | false => rfl
    | true => rfl
theorem run_equal_out (a b : OutR) (w : World) : (Op.equal 49 (outV a) (outV b)).run Tryd.prog w = .ok (eqO a b) w := by
  unfold Op.equal outV
  have h := run_equalIn_struct (P := Tryd.prog) w 9999 49 (outA a) (outA b) (by kernel_rfl) (by kernel_rfl)
  refine Eq.trans h ?_
  have hf := fieldsOut
  generalize (Tryd.prog.fieldsOf 49).toList = fs at hf ⊢
  have hl : fs.length = 2 := by simpa using congrArg List.length hf
  obtain ⟨f1, f2, rfl⟩ : ∃ f1 f2, fs = [f1, f2] := by
    match fs, hl with
    | [a, b], _ => exact ⟨a, b, rfl⟩
  simp only [List.map_cons, List.map_nil, List.cons.injEq, Prod.mk.injEq, beq_eq_false_iff_ne, and_true] at hf
  obtain ⟨⟨n1, t1, o1⟩, n2, t2, o2⟩ := hf
  have pV : ∀ t : OutR, (part 3 (outA t) 0).run Tryd.prog w = .ok (.int .i64 t.v) w := fun t => run_part_plain (P := Tryd.prog) w (by kernel_rfl) rfl
  have pT : ∀ t : OutR, (part 3 (outA t) 1).run Tryd.prog w = .ok (.int .i64 t.to) w := fun t => run_part_plain (P := Tryd.prog) w (by kernel_rfl) rfl
  have e1 := run_equalIn_int (P := Tryd.prog) w 9998 3 .i64 .i64 a.v b.v Tryd.underlying3
  have e2 := run_equalIn_int (P := Tryd.prog) w 9998 3 .i64 .i64 a.to b.to Tryd.underlying3
  have hd : eqO a b = ((a.v == b.v) && (a.to == b.to)) := by
    unfold eqO
    rw [Bool.eq_iff_iff]
    simp only [decide_eq_true_eq, Bool.and_eq_true, beq_iff_eq]
    exact ⟨fun h => by subst h; exact ⟨rfl, rfl⟩, fun h => by cases a; cases b; simp only at h; rw [h.1, h.2]⟩
  rw [hd]
  rw [eqFields_step (a := .int .i64 a.v) (b := .int .i64 b.v) n1 (by rw [t1, o1]; exact pV a) (by rw [t1, o1]; exact pV b) (by rw [t1]; exact e1)]
  cases (a.v == b.v) with
  | false => rfl
  | true =>
    rw [if_pos rfl, eqFields_step (a := .int .i64 a.to) (b := .int .i64 b.to) n2 (by rw [t2, o2]; exact pT a) (by rw [t2, o2]; exact pT b) (by rw [t2]; exact e2)]
    cases hab : (a.to == b.to) with
    | false => rfl
    | true => rfl
theorem zero_inA : (#[Value.int .u8 0, Value.int .u8 0, Value.int .u8 0, Value.int .u8 0, Value.int .u8 0, Value.int .u8 0, Value.int .u8 0, Value.int .u8 0, Value.int .u8 0, Value.int .u8 0, Value.int .u8 0, Value.int .u8 0, Value.int .u8 0, Value.int .u8 0, Value.int .u8 0, Value.int .u8 0, Value.int .u8 0, Value.int .u8 0, Value.int .u8 0, Value.int .u8 0, Value.int .u8 0, Value.int .u8 0, Value.int .u8 0, Value.int .u8 0, Value.int .u8 0, Value.int .u8 0, Value.int .u8 0, Value.int .u8 0, Value.int .u8 0, Value.int .u8 0, Value.int .u8 0, Value.int .u8 0, Value.int .i64 0] : Array Value) = inA noIn := rfl
theorem zero_outA : (#[Value.int .i64 0, Value.int .i64 0] : Array Value) = outA noOut := rfl
theorem guardIn : Tryd.prog.eqGuardType Tryd.prog.depth 51 = false := by kernel_rfl
theorem guardOut : Tryd.prog.eqGuardType Tryd.prog.depth 49 = false := by kernel_rfl
section
variable {a : Act} {dst : Option Tmp} {x y : Operand} {ty : TypeId} {pos : String} {after : Array Edge} {gd : Option (Nat × Bool)}
theorem eqlIn_op {s t : InR} {b : Bool} (hs : lenI s) (ht : lenI t) (hb : eqI s t = b) (u : World) (hx : a.eval x = inV s) (hy : a.eval y = inV t) :
    (execOp a.eval ⟨dst, .binOp .eql 51 x y 51, ty, pos, after, gd⟩).run Tryd.prog u = .ok (.value (.bool b)) u := by
  have h0 := run_equal_in s t hs ht u
  have h : (binOp .eql 51 (inV s) (inV t)).run Tryd.prog u = .ok (.bool (eqI s t)) u := by
    unfold inV at *
    simp only [binOp]
    simp [h0]
  have hg := run_eqGuard_agg (P := Tryd.prog) u .eql 51 x y (inA s) (inA t) guardIn
  rw [← hb]
  unfold inV at *
  unfold execOp
  simp only [hx, hy, Sem.run_bind, hg, Result.andThen_ok, h, Sem.run_pure]
theorem neqIn_op {s t : InR} {b : Bool} (hs : lenI s) (ht : lenI t) (hb : (!eqI s t) = b) (u : World) (hx : a.eval x = inV s) (hy : a.eval y = inV t) :
    (execOp a.eval ⟨dst, .binOp .neq 51 x y 51, ty, pos, after, gd⟩).run Tryd.prog u = .ok (.value (.bool b)) u := by
  have h0 := run_equal_in s t hs ht u
  have h : (binOp .neq 51 (inV s) (inV t)).run Tryd.prog u = .ok (.bool (!eqI s t)) u := by
    unfold inV at *
    simp only [binOp]
    simp [h0]
  have hg := run_eqGuard_agg (P := Tryd.prog) u .neq 51 x y (inA s) (inA t) guardIn
  rw [← hb]
  unfold inV at *
  unfold execOp
  simp only [hx, hy, Sem.run_bind, hg, Result.andThen_ok, h, Sem.run_pure]
theorem neqOut_op {s t : OutR} {b : Bool} (hb : (!eqO s t) = b) (u : World) (hx : a.eval x = outV s) (hy : a.eval y = outV t) :
    (execOp a.eval ⟨dst, .binOp .neq 49 x y 49, ty, pos, after, gd⟩).run Tryd.prog u = .ok (.value (.bool b)) u := by
  have h0 := run_equal_out s t u
  have h : (binOp .neq 49 (outV s) (outV t)).run Tryd.prog u = .ok (.bool (!eqO s t)) u := by
    unfold outV at *
    simp only [binOp]
    simp [h0]
  have hg := run_eqGuard_agg (P := Tryd.prog) u .neq 49 x y (outA s) (outA t) guardOut
  rw [← hb]
  unfold outV at *
  unfold execOp
  simp only [hx, hy, Sem.run_bind, hg, Result.andThen_ok, h, Sem.run_pure]
theorem fieldOut_op {k off : Nat} (hk : ([(0, 0), (1, 1)] : List (Nat × Nat)).lookup k = some off) {ad : Addr} (u : World) (hx : a.eval x = .pointer (some ad)) :
    (execOp a.eval ⟨dst, .fieldAddr 49 x k, ty, pos, after, gd⟩).run Tryd.prog u = .ok (.value (.pointer (some (ad.add off)))) u := by
  unfold execOp
  simp only [hx]
  rcases k with _ | _ | k
  all_goals first | (cases hk; go_simp) | cases hk
theorem fieldIn_op {k off : Nat} (hk : ([(0, 0), (1, 32)] : List (Nat × Nat)).lookup k = some off) {ad : Addr} (u : World) (hx : a.eval x = .pointer (some ad)) :
    (execOp a.eval ⟨dst, .fieldAddr 51 x k, ty, pos, after, gd⟩).run Tryd.prog u = .ok (.value (.pointer (some (ad.add off)))) u := by
  unfold execOp
  simp only [hx]
  rcases k with _ | _ | k
  all_goals first | (cases hk; go_simp) | cases hk
theorem fieldTx_op {k off : Nat} (hk : ([(0, 0), (1, 1)] : List (Nat × Nat)).lookup k = some off) {ad : Addr} (u : World) (hx : a.eval x = .pointer (some ad)) :
    (execOp a.eval ⟨dst, .fieldAddr 25 x k, ty, pos, after, gd⟩).run Tryd.prog u = .ok (.value (.pointer (some (ad.add off)))) u := by
  unfold execOp
  simp only [hx]
  rcases k with _ | _ | k
  all_goals first | (cases hk; go_simp) | cases hk
theorem new_in (a : Act) : NewAt Tryd.prog ⟨dst, .alloc 51, ty, pos, after, gd⟩ a (.cells (inA noIn) 51 (0, 0)) := fun u => by
  rw [← zero_inA]
  go_simp
theorem new_out (a : Act) : NewAt Tryd.prog ⟨dst, .alloc 49, ty, pos, after, gd⟩ a (.cells (outA noOut) 49 (0, 0)) := fun u => by
  rw [← zero_outA]
  go_simp
end
structure TxM where
  r : TxR
  A1 : Option Addr
  n1 : Nat
  c1 : Nat
  A2 : Option Addr
  n2 : Nat
  c2 : Nat
def txC (t : TxM) : List Value := [.slice t.A1 t.n1 t.c1, .slice t.A2 t.n2 t.c2]
def txA (t : TxM) : Array Value := (txC t).toArray
def txV (t : TxM) : Value := .agg (txA t)
def noTxM : TxM := ⟨noTx, none, 0, 0, none, 0, 0⟩
structure TxOk (w : World) (t : TxM) : Prop where
  l1 : t.r.ins.length = t.n1
  b1 : t.n1 ≤ t.c1 ∧ t.c1 ≤ maxLen
  o1 : okIns t.r.ins
  m1 : InsIn w w.heap.size t.A1 t.r.ins
  l2 : t.r.outs.length = t.n2
  b2 : t.n2 ≤ t.c2 ∧ t.c2 ≤ maxLen
  o2 : okOuts t.r.outs
  m2 : OutsIn w w.heap.size t.A2 t.r.outs
theorem TxOk.up {w w' : World} {t : TxM} (h : TxOk w t) (hb : Below w.heap.size w w') : TxOk w' t := ⟨h.l1, h.b1, h.o1, h.m1.up hb, h.l2, h.b2, h.o2, h.m2.up hb⟩
theorem TxOk.ok {w : World} {t : TxM} (h : TxOk w t) : okX t.r := ⟨h.o1, h.o2⟩
theorem TxOk.no (w : World) : TxOk w noTxM := ⟨rfl, ⟨Nat.le_refl _, Nat.zero_le _⟩, (fun x h => by cases h), (fun h => absurd h (by decide)), rfl, ⟨Nat.le_refl _, Nat.zero_le _⟩, (fun x h => by cases h), (fun h => absurd h (by decide))⟩
theorem TxOk.n63 {w : World} {t : TxM} (h : TxOk w t) : t.n1 < 9223372036854775808 ∧ t.n2 < 9223372036854775808 := by
  have h1 := h.b1
  have h2 := h.b2
  unfold maxLen at h1 h2
  omega
theorem txA_size (t : TxM) : (txA t).size = 2 := rfl
theorem txC_one (t : TxM) : ∀ u ∈ txC t, u.oneCell' = true := by
  intro u hu
  unfold txC at hu
  simp only [List.mem_cons, List.not_mem_nil, or_false] at hu
  rcases hu with rfl | rfl <;> rfl
theorem txA_one (t : TxM) : (txA t).all (·.oneCell') = true := by
  rw [Array.all_eq_true]
  intro i hi
  exact txC_one t _ (show (txA t)[i] ∈ (txA t).toList from Array.mem_toList_iff.2 (Array.getElem_mem hi))
theorem aggTx : AggT 25 2 := ⟨fun w => by simp [isAgg, run_underlying Tryd.underlying25], by kernel_rfl⟩
theorem elTx : ElemT 27 25 2 48 (txV noTxM) := ⟨Tryd.underlying27, by kernel_rfl, by decide +kernel, by decide, by decide, by decide⟩
theorem infoTx (cs : Array Value) (h : cs.size = 2) : (Tryd.prog.info? 25).map (·.size) = some cs.size := by rw [h]; exact aggTx.size
theorem infoIns : (Tryd.prog.info? 22).map (·.size) = some 1 := by kernel_rfl
theorem infoOuts : (Tryd.prog.info? 23).map (·.size) = some 1 := by kernel_rfl
theorem oneIns : ∀ w, (isAgg 22).run Tryd.prog w = .ok false w := fun w => by simp [isAgg, run_underlying Tryd.underlying22]
theorem oneOuts : ∀ w, (isAgg 23).run Tryd.prog w = .ok false w := fun w => by simp [isAgg, run_underlying Tryd.underlying23]
section
variable {w0 u : World} {M : Boxes} {g : Nat} {ty : TypeId} {t : TxM}
theorem box_tx (hu : EnvC w0 M u) (hm : (g, Obj.cells (txA t) ty (0, 0)) ∈ M) : (loadVar 25 ⟨g, 0, none⟩).run Tryd.prog u = .ok (txV t) u := by
  have := box_agg aggTx (k := 0) hu hm (txC t) rfl rfl
  exact this
theorem box_tx_ins (hu : EnvC w0 M u) (hm : (g, Obj.cells (txA t) ty (0, 0)) ∈ M) : (loadVar 22 ⟨g, 0, none⟩).run Tryd.prog u = .ok (.slice t.A1 t.n1 t.c1) u :=
  run_load_one oneIns u (box_cell hu hm rfl)
theorem box_tx_outs (hu : EnvC w0 M u) (hm : (g, Obj.cells (txA t) ty (0, 0)) ∈ M) : (loadVar 23 ⟨g, 1, none⟩).run Tryd.prog u = .ok (.slice t.A2 t.n2 t.c2) u :=
  run_load_one oneOuts u (box_cell hu hm rfl)
end
section
variable {dst : Option Tmp} {ty : TypeId} {pos : String} {after : Array Edge} {gd : Option (Nat × Bool)}
theorem new_tx (a : Act) : NewAt Tryd.prog ⟨dst, .alloc 25, ty, pos, after, gd⟩ a (.cells (txA noTxM) 25 (0, 0)) := fun u => by
  have e : (#[Value.slice none 0 0, Value.slice none 0 0] : Array Value) = txA noTxM := rfl
  rw [← e]
  go_simp
end
theorem built_notx : Tryd.prog.built 25 [] = some (txA noTxM) := by kernel_rfl
theorem built_txouts (A : Option Addr) (n c : Nat) : Tryd.prog.built 25 [(1, .slice A n c)] = some #[.slice none 0 0, .slice A n c] := by kernel_rfl
structure TxsIn (w : World) (A : Option Addr) (l : List TxM) : Prop where
  cells : CellsIn w w.heap.size A (l.map txC).flatten
  each : ∀ t ∈ l, TxOk w t
theorem TxsIn.up {w w' : World} {A : Option Addr} {l : List TxM} (h : TxsIn w A l) (hb : Below w.heap.size w w') : TxsIn w' A l := ⟨h.cells.up hb, fun t ht => (h.each t ht).up hb⟩
theorem TxsIn.get {w : World} {A : Option Addr} {l : List TxM} (h : TxsIn w A l) {i : Nat} (hi : i < l.length) : TxOk w (l.getD i noTxM) := by
  rw [List.getD_eq_getElem?_getD, List.getElem?_eq_getElem hi]
  exact h.each _ (List.getElem_mem hi)
theorem rowsTx (l : List TxM) : isRows 2 (l.map txC) := fun x hx => by
  obtain ⟨t, ht, rfl⟩ := List.mem_map.1 hx
  rfl
theorem TxsIn.loads {w : World} {A : Option Addr} {l : List TxM} (h : TxsIn w A l) {k : Nat} (hk : k < l.length) : ∃ ad, A = some ad ∧ ad.block < w.heap.size ∧ ∀ u, EnvX w u [] →
    (loadVar 25 (ad.add (k * 2))).run Tryd.prog u = .ok (txV (l.getD k noTxM)) u ∧
    (loadVar 22 (ad.add (k * 2))).run Tryd.prog u = .ok (.slice (l.getD k noTxM).A1 (l.getD k noTxM).n1 (l.getD k noTxM).c1) u ∧
    (loadVar 23 ((ad.add (k * 2)).add 1)).run Tryd.prog u = .ok (.slice (l.getD k noTxM).A2 (l.getD k noTxM).n2 (l.getD k noTxM).c2) u := by
  obtain ⟨ad, e, hb, hc⟩ := row_cells (d := noTxM) h.cells (rowsTx l) (by decide) hk
  refine ⟨ad, e, hb, fun u hu => ?_⟩
  have hcu : ∀ j v, (txC (l.getD k noTxM))[j]? = some v → u.cell? ((ad.add (k * 2)).add j) = some v := fun j v hv => by
    rw [← hc j v hv]
    exact (EnvX.bel hu).cell (by rw [block_of_add, block_of_add]; exact hb)
  generalize l.getD k noTxM = t at *
  have hadd0 : ∀ a : Addr, a.add 0 = a := fun a => by unfold Addr.add; rfl
  refine ⟨run_loadAgg aggTx (txC t) rfl hcu, run_load_one oneIns u (by have := hcu 0 _ rfl; rwa [hadd0] at this), run_load_one oneOuts u (hcu 1 _ rfl)⟩
end Go.Proofs.YtcodmedgkboohaaDoor

namespace Go.Proofs.YtcodmedgkboohaaDoor
set_option maxRecDepth 8000
open Go.RowKit

section
variable {a : Act} {dst : Option Tmp} {x y : Operand} {ty : TypeId} {pos : String} {after : Array Edge} {gd : Option (Nat × Bool)}
end
/-- bytes of one's own, as boxes; what an append leaves -/
def FreshY (xs : List Int) (v : Value) (N : Boxes) : Prop := FreshR 5 1 xs.length (xs.map u8v) v N
def GrownB (w0 : World) (xs : List Int) (M0 : Boxes) (v : Value) (M' : Boxes) : Prop := ∃ N, M' = N ++ M0 ∧ FreshY xs v N ∧ freshN w0 N M0
theorem FreshY.one {g : Nat} {k : Int} : FreshY [k] (.slice (some ⟨g, 0, none⟩) 1 1) [(g, Obj.cells #[.int .u8 k] 5 (0, 0))] := .inl ⟨g, 1, #[.int .u8 k], rfl, rfl, Nat.le_refl _, by decide, rfl, rfl⟩
theorem FreshY.nil : FreshY [] (.slice none 0 0) [] := .inr ⟨rfl, rfl, rfl, rfl⟩
theorem FreshY.own {w : World} {B : Nat} {xs : List Int} {v : Value} {N : Boxes} (h : FreshY xs v N) (hN : ∀ y ∈ N, B ≤ y.1 ∧ w.heap[y.1]? = some y.2) : OwnB w B v xs :=
  FreshR.own h (by rw [List.length_map, Nat.mul_one]) hN
theorem appB_op {w0 u : World} {M : Boxes} (M0 : Boxes) {N : Boxes} {m c : Nat} {xs ys : List Int} {v : Value} {ad : Addr} {a : Act} {dst : Option Tmp} {y x : Operand} {pos : String} {after : Array Edge} {gd : Option (Nat × Bool)}
    (hu : EnvX w0 u M) (hm : ys.length = m) (hF : FreshY xs v N) (hN : ∀ y ∈ N, y ∈ M ∧ w0.heap.size ≤ y.1) (hc : SrcAt u ad (ys.map u8v)) (hM0 : ∀ z ∈ M0, z ∈ M ∧ ∀ y ∈ N, z.1 ≠ y.1) (hs : xs.length + m ≤ 2000000)
    (hyv : a.eval y = v) (hx : a.eval x = .slice (some ad) m c) :
    ∃ v' u' M', (execOp a.eval ⟨dst, .call { callee := .builtin .append, args := #[y, x], argTypes := #[26, 26] }, 26, pos, after, gd⟩).run Tryd.prog u = .ok (.value v') u' ∧ EnvX w0 u' M' ∧ GrownB w0 (xs ++ ys) M0 v' M' := by
  obtain ⟨v', u', M', h1, h2, N', e, h3, h4⟩ := appX_op (dst := dst) (pos := pos) (after := after) (gd := gd) elB M0 hu (n := xs.length) (m := m) (c := c) (by rw [List.length_map, Nat.mul_one]) (by rw [List.length_map, hm, Nat.mul_one]) u8_one hF hN hc hM0 hs hyv hx
  refine ⟨v', u', M', h1, h2, N', e, ?_, h4⟩
  unfold FreshY
  rw [List.length_append, hm, List.map_append]
  exact h3
theorem src_fresh {w0 u : World} {M : Boxes} {g n : Nat} {cur : Array Value} {xs : List Int} (hu : EnvC w0 M u) (hm : (g, Obj.cells cur 5 (0, 0)) ∈ M) (hl : xs.length = n) (h : cur.toList.take (n * 1) = xs.map u8v) : SrcAt u ⟨g, 0, none⟩ (xs.map u8v) :=
  src_box hu hm (by rw [List.drop_zero, List.length_map, hl, ← Nat.mul_one n]; exact h)
theorem hbuilt0 : Tryd.prog.built 37 [] = some (arrB 32 z32) := by kernel_rfl
section
variable {a : Act} {dst : Option Tmp} {x y z : Operand} {ty : TypeId} {pos : String} {after : Array Edge} {gd : Option (Nat × Bool)}
/-- two new parts -/
theorem FAt_rows2 {A0 A1 : Option Addr} {n0 n1 c0 c1 : Nat} (hx : a.eval x = .slice A0 n0 c0) (hy : a.eval y = .slice A1 n1 c1) (u : World) :
    FAt Tryd.prog ⟨dst, .buildSlice 70 2 #[(0, x), (1, y)], ty, pos, after, gd⟩ a (fun v N => ∃ g, v = .slice (some ⟨g, 0, none⟩) 2 2 ∧ N = [(g, Obj.cells #[.slice A0 n0 c0, .slice A1 n1 c1] 26 (0, 0))]) u := by
  have h : (execOp a.eval ⟨dst, .buildSlice 70 2 #[(0, x), (1, y)], ty, pos, after, gd⟩).run Tryd.prog u = .ok (.value (.slice (some ⟨u.heap.size, 0, none⟩) 2 2)) (u.alloc (.cells #[.slice A0 n0 c0, .slice A1 n1 c1] 26)) := by
    unfold execOp
    simp only [List.map_toArray, List.map_cons, List.map_nil, hx, hy]
    go_simp
  unfold FAt
  rw [h]
  refine ⟨(Below.refl _ _).alloc (Nat.le_refl _) _, _, ⟨_, rfl, rfl⟩, fun y hy => ?_⟩
  cases List.mem_singleton.1 hy
  exact ⟨Nat.le_refl _, heap_alloc_new u _⟩
end
end Go.Proofs.YtcodmedgkboohaaDoor

namespace Go.Proofs.YtcodmedgkboohaaDoor
set_option maxRecDepth 8000

theorem take_snoc {α β : Type} (F : List α) (g : α → β) (d : α) {k : Nat} (hk : k < F.length) : (F.take (k + 1)).map g = (F.take k).map g ++ [g (F.getD k d)] := by
  rw [List.take_succ_eq_append_getElem hk, List.map_append, List.getD_eq_getElem?_getD, List.getElem?_eq_getElem hk]
  rfl
theorem getD_mem {α : Type} (F : List α) (d : α) {k : Nat} (hk : k < F.length) : F.getD k d ∈ F := by
  rw [List.getD_eq_getElem?_getD, List.getElem?_eq_getElem hk]
  exact List.getElem_mem hk
end Go.Proofs.YtcodmedgkboohaaDoor

namespace Go.Proofs.YtcodmedgkboohaaDoor
set_option maxRecDepth 8000
open Go.RowKit

/-- the bytes of the first ones -/
def insB (l : List InR) (i : Nat) : List Int := [(l.length : Int)] ++ ((l.take i).map inB).flatten
def outsB (r : TxR) (j : Nat) : List Int := insB r.ins r.ins.length ++ [(r.outs.length : Int)] ++ ((r.outs.take j).map outB).flatten
theorem insB_step {l : List InR} {i : Nat} (h : i < l.length) : insB l (i + 1) = insB l i ++ (l.getD i noIn).tx ++ [(l.getD i noIn).i] := by
  unfold insB
  rw [take_snoc l inB noIn h, List.flatten_append, List.flatten_singleton]
  unfold inB
  simp only [List.append_assoc]
theorem outsB_step {r : TxR} {j : Nat} (h : j < r.outs.length) : outsB r (j + 1) = outsB r j ++ putL (r.outs.getD j noOut).v.toNat 6 ++ [(r.outs.getD j noOut).to] := by
  unfold outsB
  rw [take_snoc r.outs outB noOut h, List.flatten_append, List.flatten_singleton]
  unfold outB
  simp only [List.append_assoc]
theorem outsB_all (r : TxR) : outsB r r.outs.length = bodyX r := by
  unfold outsB insB bodyX
  rw [List.take_length, List.take_length]
  simp only [List.append_assoc, List.cons_append, List.nil_append, List.singleton_append]
theorem insB_le {l : List InR} (h : okIns l) (i : Nat) : (insB l i).length ≤ 1 + 33 * l.length := by
  unfold insB
  rw [List.length_append, flat_len (insB_len (h.take i)), List.length_map, List.length_take]
  show 1 + _ ≤ _
  have : 33 * min i l.length ≤ 33 * l.length := Nat.mul_le_mul_left 33 (Nat.min_le_right ..)
  omega
theorem outsB_le {r : TxR} (h : okX r) (j : Nat) : (outsB r j).length ≤ 2 + 33 * r.ins.length + 7 * r.outs.length := by
  unfold outsB
  have := insB_le h.1 r.ins.length
  rw [List.length_append, List.length_append, flat_len (outsB_len _), List.length_map, List.length_take]
  have : 7 * min j r.outs.length ≤ 7 * r.outs.length := Nat.mul_le_mul_left 7 (Nat.min_le_right ..)
  show _ + 1 + _ ≤ _
  omega
/-- at a loop's head: bytes of one's own, and the transaction -/
def BInv (w : World) (M0 : Boxes) (xs : List Int) (v : Value) (u : World) : Prop := ∃ N, FreshY xs v N ∧ freshN w N M0 ∧ EnvX w u (N ++ M0)
end Go.Proofs.YtcodmedgkboohaaDoor

namespace Go.Proofs.YtcodmedgkboohaaDoor
set_option maxRecDepth 8000
open Go.RowKit

/-- one id of a list, as bytes at its place -/
theorem IdsIn.at {w : World} {B : Nat} {A : Option Addr} {l : List (List Int)} (h : IdsIn w B A l) (hl : isIds l) {i : Nat} (hi : i < l.length) : ∃ ad, A = some ad ∧ Bytes w B (some (ad.add (i * 32))) (l.getD i []) := by
  have hfl := hl.flat_len
  obtain ⟨ad, e, hb, hc⟩ := h (by omega)
  refine ⟨ad, e, fun _ => ⟨_, rfl, by rw [block_of_add]; exact hb, fun j v hv => ?_⟩⟩
  rw [add_add32]
  have hj : j < 32 := by
    rcases Nat.lt_or_ge j 32 with h' | h'
    · exact h'
    · rw [List.getElem?_eq_none (by rw [List.length_map, (hl.get hi).1]; exact h')] at hv
      cases hv
  refine hc (i * 32 + j) v ?_
  rw [List.getElem?_map, hl.flat_get i j hi hj]
  rwa [List.getElem?_map] at hv
theorem FreshI.form {l : List (List Int)} {x : Value} {N : Boxes} (h : FreshI l x N) : ∃ A c, x = .slice A l.length c ∧ l.length ≤ c ∧ c ≤ maxLen := by
  rcases h with ⟨g, cap, cur, rfl, _, h1, h2, _⟩ | ⟨rfl, _, rfl⟩
  · exact ⟨_, cap, rfl, h1, h2⟩
  · exact ⟨none, 0, rfl, Nat.le_refl _, Nat.zero_le _⟩
theorem FreshI.ids {w0 u : World} {M N : Boxes} {l : List (List Int)} {A : Option Addr} {n c : Nat} (h : FreshI l (.slice A n c) N) (hl : isIds l) (hu : EnvX w0 u M) (hN : ∀ y ∈ N, y ∈ M) : IdsIn u u.heap.size A l :=
  OwnI.ids (h.own (B := 0) hl (fun y hy => ⟨Nat.zero_le _, EnvX.box hu _ _ (hN y hy)⟩))
end Go.Proofs.YtcodmedgkboohaaDoor

namespace Go.Proofs.YtcodmedgkboohaaDoor
set_option maxRecDepth 8000
open Go.RowKit

def rsT (l : List TxM) : List TxR := l.map (·.r)
theorem idsX_step {l : List TxM} {k : Nat} (h : k < l.length) : idsX (rsT (l.take (k + 1))) = idsX (rsT (l.take k)) ++ [idX (l.getD k noTxM).r] := by
  unfold idsX rsT
  rw [List.map_map, List.map_map]
  exact take_snoc l (idX ∘ (·.r)) noTxM h
theorem idsX_len (l : List TxM) : (idsX (rsT l)).length = l.length := by unfold idsX rsT; rw [List.length_map, List.length_map]
end Go.Proofs.YtcodmedgkboohaaDoor

namespace Go.Proofs.YtcodmedgkboohaaDoor
set_option maxRecDepth 8000
open Go.RowKit

theorem oneU8c : ∀ w, (isAgg 5).run Tryd.prog w = .ok false w := fun w => by simp [isAgg, run_underlying Tryd.underlying5]
theorem inA_size' {x : InR} (h : x.tx.length ≤ 32) : (inA x).size = 33 := by
  unfold inA inC
  rw [List.size_toArray, List.length_append, Array.length_toList, arrB_size _ _ h]
  rfl
theorem rowsAt_step (z : Nat) (b : List Int) (o n : Nat) : rowsAt z b o (n + 1) = rowsAt z b o n ++ [(b.drop (o + z * n)).take z] := by
  unfold rowsAt
  rw [List.range_succ, List.map_append, List.map_singleton]
end Go.Proofs.YtcodmedgkboohaaDoor

namespace Go.Proofs.YtcodmedgkboohaaDoor
set_option maxRecDepth 8000
open Go.RowKit

theorem FreshR.form {e : TypeId} {z n : Nat} {xs : List Value} {x : Value} {N : Boxes} (h : FreshR e z n xs x N) : ∃ A c, x = .slice A n c ∧ n ≤ c ∧ c ≤ maxLen := by
  rcases h with ⟨g, cap, cur, rfl, _, h1, h2, _⟩ | ⟨rfl, _, rfl, _⟩
  · exact ⟨_, cap, rfl, h1, h2⟩
  · exact ⟨none, 0, rfl, Nat.le_refl _, Nat.zero_le _⟩
theorem FreshR.cells {w0 u : World} {M N : Boxes} {e : TypeId} {z n c : Nat} {A : Option Addr} {xs : List Value} (h : FreshR e z n xs (.slice A n c) N) (hl : xs.length = n * z) (hu : EnvX w0 u M) (hN : ∀ y ∈ N, y ∈ M) : CellsIn u u.heap.size A xs :=
  own_cells (h.own (B := 0) hl (fun y hy => ⟨Nat.zero_le _, EnvX.box hu _ _ (hN y hy)⟩))
section
variable {a : Act} {dst : Option Tmp} {x y : Operand} {ty : TypeId} {pos : String} {after : Array Edge} {gd : Option (Nat × Bool)}
theorem convUIc_op {m : Nat} (u : World) (h : m < 9223372036854775808) (hx : a.eval x = .int .u64 (m : Int)) :
    (execOp a.eval ⟨dst, .convert 54 3 x, ty, pos, after, gd⟩).run Tryd.prog u = .ok (.value (.int .i64 (m : Int))) u := by
  have hw : IntKind.i64.wrap (m : Int) = (m : Int) := by rw [IntKind.wrap_i64]; omega
  unfold execOp
  simp only [hx]
  go_simp
end
/-- the last ones of the first j -/
def outsAt (b : List Int) (a j : Nat) : List OutR := (rowsAt 7 b a j).map outOf
theorem outsAt_step (b : List Int) (a j : Nat) : outsAt b a (j + 1) = outsAt b a j ++ [outOf ((b.drop (a + 7 * j)).take 7)] := by
  unfold outsAt
  rw [rowsAt_step, List.map_append, List.map_singleton]
theorem outsAt_len (b : List Int) (a j : Nat) : (outsAt b a j).length = j := by unfold outsAt; rw [List.length_map, rows_len]
end Go.Proofs.YtcodmedgkboohaaDoor

namespace Go.Proofs.YtcodmedgkboohaaDoor
set_option maxRecDepth 8000
open Go.RowKit

/-- the contracts of package coin -/
structure CoinC : Prop where
  may : ∀ (t : TxM) (w : World), TxOk w t → Tables w → Calls Tryd.prog 18 #[txV t] w fun e w' => e = .returned (.bool (mayX t.r)) ∧ Below w.heap.size w w'
  same : ∀ (s t : TxM) (w : World), TxOk w s → TxOk w t → Tables w → Calls Tryd.prog 19 #[txV s, txV t] w fun e w' => e = .returned (.bool (sameX s.r t.r)) ∧ Below w.heap.size w w'
  put : ∀ (t : TxM) (w : World), TxOk w t → Tables w →
    Calls Tryd.prog 12 #[txV t] w fun e w' => (∃ v, e = .returned (.tuple #[v, .bool (putX t.r).2]) ∧ OwnB w' w.heap.size v (putX t.r).1) ∧ Below w.heap.size w w'
  read : ∀ (A : Option Addr) (n c : Nat) (b : List Int) (w : World), b.length = n → n ≤ 1000000 → n ≤ c → c ≤ maxLen → isB b → Bytes w w.heap.size A b → Tables w →
    Calls Tryd.prog 14 #[.slice A n c] w fun e w' => (∃ t : TxM, e = .returned (.tuple #[txV t, .bool (readX b).2]) ∧ t.r = (readX b).1 ∧ TxOk w' t) ∧ Below w.heap.size w w'
  id : ∀ (t : TxM) (w : World), TxOk w t → Tables w → Calls Tryd.prog 20 #[txV t] w fun e w' => e = .returned (idv (idX t.r)) ∧ Below w.heap.size w w'
  root : ∀ (l : List TxM) (A : Option Addr) (n c : Nat) (w : World), l.length = n → n ≤ 1000000 → n ≤ c → c ≤ maxLen → TxsIn w A l → Tables w →
    Calls Tryd.prog 22 #[.slice A n c] w fun e w' => e = .returned (idv (rootT (idsX (rsT l)))) ∧ Below w.heap.size w w'

/-- the transaction of the chapter's example -/
def tx0 : TxR := ⟨[], [⟨50, 7⟩]⟩
theorem tx0_may : mayX tx0 = true := by decide +kernel
theorem tx0_put : putX tx0 = ([0, 1, 0, 0, 0, 0, 0, 50, 7], true) := by decide +kernel
theorem tx0_read : readX [0, 1, 0, 0, 0, 0, 0, 50, 7] = (tx0, true) := by decide +kernel
theorem tx0_id : (!eqL (idX tx0) z32) = true := by decide +kernel
theorem tx0_root : eqL (rootT (idsX [tx0])) (idX tx0) = true := by decide +kernel
end Go.Proofs.YtcodmedgkboohaaDoor

namespace Go.Proofs.YtcodmedgkboohaaDoor
set_option maxRecDepth 8000
open Go.ChangeShapes Go.WideShapes Go.ChangeAt Go.RowKit Go.Deep

theorem ccellsInt : Tryd.prog.cellsOf 3 = 1 := by kernel_rfl
theorem ccellsIn : Tryd.prog.cellsOf 51 = 33 := by kernel_rfl
theorem ccellsOut : Tryd.prog.cellsOf 49 = 2 := by kernel_rfl
theorem ccellsTx : Tryd.prog.cellsOf 25 = 2 := by kernel_rfl
theorem ccellsIns : Tryd.prog.cellsOf 22 = 1 := by kernel_rfl
theorem ccellsOuts : Tryd.prog.cellsOf 23 = 1 := by kernel_rfl
section
variable {H : Type} {enc : TypeId × Value → H} {W : World} {base : Nat} {spare : Nat → Bool} {held : Bool} {fuel : Nat} {cs : List Value} {x : DataW H × List MemPlace}
theorem in_cells (h : DataW.trod enc Tryd.prog W base spare held fuel 51 cs = some x) : ∃ t : InR, okIn t ∧ cs = inC t := by
  obtain ⟨y0, y1, n, _, hl, h0, h1⟩ := trod_struct2 Tryd.underlying51 h
  rw [ccellsIn] at hl
  obtain ⟨hs, k1, k2, e0⟩ := id_cells h0
  obtain ⟨i, e1, _, wf⟩ := DataW.trod_int Tryd.underlying3 h1
  have e0' : cs.take 32 = hs.map u8v := by
    have h := e0
    rw [show Tryd.prog.cellsOf 37 = 32 from cellsOfId] at h
    exact h
  have e1' : (cs.drop 32).take 1 = [.int .i64 i] := by
    have h := e1
    rw [show Tryd.prog.cellsOf 3 = 1 from ccellsInt] at h
    exact h
  refine ⟨⟨hs, i⟩, ⟨⟨k1, k2⟩, bounds_i64 wf⟩, ?_⟩
  unfold inC
  show cs = (arrB 32 hs).toList ++ [.int .i64 i]
  rw [arrId_map k1, ← e0', ← e1', List.take_of_length_le (l := cs.drop 32) (by rw [List.length_drop]; omega), List.take_append_drop]
theorem out_cells (h : DataW.trod enc Tryd.prog W base spare held fuel 49 cs = some x) : ∃ t : OutR, okOut t ∧ cs = outC t := by
  obtain ⟨y0, y1, n, _, hl, h0, h1⟩ := trod_struct2 Tryd.underlying49 h
  rw [ccellsOut] at hl
  obtain ⟨v, e0, _, wv⟩ := DataW.trod_int Tryd.underlying3 h0
  obtain ⟨i, e1, _, wf⟩ := DataW.trod_int Tryd.underlying3 h1
  have e0' : cs.take 1 = [.int .i64 v] := by
    have h := e0
    rw [show Tryd.prog.cellsOf 3 = 1 from ccellsInt] at h
    exact h
  have e1' : (cs.drop 1).take 1 = [.int .i64 i] := by
    have h := e1
    rw [show Tryd.prog.cellsOf 3 = 1 from ccellsInt] at h
    exact h
  refine ⟨⟨v, i⟩, ⟨bounds_i64 wv, bounds_i64 wf⟩, ?_⟩
  show cs = [.int .i64 v] ++ [.int .i64 i]
  rw [← e0', ← e1', List.take_of_length_le (l := cs.drop 1) (by rw [List.length_drop]; omega), List.take_append_drop]
end
section
variable {H : Type} {enc : TypeId × Value → H} {W : World} {base : Nat} {v : Value} {d : DataW H} {p : List MemPlace} {fuel : Nat} {cs : List Value} {x : DataW H × List MemPlace}
theorem tx_cells (h : DataW.trod enc Tryd.prog W 0 (fun _ => true) true fuel 25 cs = some x) : ∃ t : TxM, TxOk W t ∧ cs = txC t := by
  obtain ⟨y0, y1, n, _, hl, h0, h1⟩ := trod_struct2 Tryd.underlying25 h
  rw [ccellsTx] at hl
  obtain ⟨a1, n1, c1, l1, p1, q1, r1, s1, o1, m1⟩ := open_elemsC (ok := okIn) (C := inC) Tryd.underlying22 ccellsIn (by decide) (fun t ht => inC_len ht.len) (fun _ _ _ h => in_cells h) h0
  obtain ⟨a2, n2, c2, l2, p2, q2, r2, s2, o2, m2⟩ := open_elemsC (ok := okOut) (C := outC) Tryd.underlying23 ccellsOut (by decide) (fun t ht => rfl) (fun _ _ _ h => out_cells h) h1
  refine ⟨⟨⟨l1, l2⟩, a1, n1, c1, a2, n2, c2⟩, ⟨q1, ⟨r1, s1⟩, o1, m1, q2, ⟨r2, s2⟩, o2, m2⟩, ?_⟩
  have p1' : cs.take 1 = [.slice a1 n1 c1] := by
    have h := p1
    rw [show Tryd.prog.cellsOf 22 = 1 from ccellsIns] at h
    exact h
  have p2' : (cs.drop 1).take 1 = [.slice a2 n2 c2] := by
    have h := p2
    rw [show Tryd.prog.cellsOf 23 = 1 from ccellsOuts] at h
    exact h
  show cs = [.slice a1 n1 c1] ++ [.slice a2 n2 c2]
  rw [← p1', ← p2', List.take_of_length_le (l := cs.drop 1) (by rw [List.length_drop]; omega), List.take_append_drop]
theorem open_tx (hok : Value.okWide Tryd.prog W .any base 25 v) (h : DataW.Trod enc Tryd.prog W 0 (fun _ => true) true 25 v d p) : ∃ t : TxM, v = txV t ∧ TxOk W t := by
  obtain ⟨cs, rfl, hsz, _⟩ : ∃ cs, v = .agg cs ∧ cs.size = Tryd.prog.cellsOf 25 ∧ Row.okWide Tryd.prog W .any base 25 cs := by
    simpa [Value.okWide, Tryd.underlying25] using hok
  obtain ⟨fuel, hf⟩ := h
  obtain ⟨t, ht, hc⟩ := tx_cells hf
  refine ⟨t, ?_, ht⟩
  have : cs.toList = txC t := hc
  unfold txV txA
  rw [← this]
theorem open_txs (hok : Value.okWide Tryd.prog W .any base 27 v) (h : DataW.Trod enc Tryd.prog W 0 (fun _ => true) true 27 v d p) :
    ∃ (a : Option Addr) (n c : Nat) (l : List TxM), v = .slice a n c ∧ l.length = n ∧ n ≤ c ∧ c ≤ maxLen ∧ TxsIn W a l := by
  obtain ⟨a, n, c, l, h1, h2, h3, h4, h5, h6⟩ := open_elems (ok := TxOk W) (C := txC) Tryd.underlying27 ccellsTx (by decide) (fun t ht => rfl) (fun _ _ _ h => tx_cells h) hok h
  exact ⟨a, n, c, l, h1, h2, h3, h4, ⟨h6, h5⟩⟩
end
/-- The transaction of nothing, as a value and as it reads. -/
def zeroX : Value := .agg #[.slice none 0 0, .slice none 0 0]
def zeroXD {H : Type} : DataW H := .agg [.nil, .nil]
end Go.Proofs.YtcodmedgkboohaaDoor

namespace Go.Proofs.YtcodmedgkboohaaDoor
set_option maxRecDepth 8000
open Go.RowKit

section
variable {a : Act} {dst : Option Tmp} {x y : Operand} {ty : TypeId} {pos : String} {after : Array Edge} {gd : Option (Nat × Bool)}
theorem eqlU8c_op {m k : Int} {b : Bool} (u : World) (hb : decide (m = k) = b) (hx : a.eval x = .int .u8 m) (hy : a.eval y = .int .u8 k) :
    (execOp a.eval ⟨dst, .binOp .eql 5 x y 5, ty, pos, after, gd⟩).run Tryd.prog u = .ok (.value (.bool b)) u := by
  subst hb
  unfold execOp
  simp only [hx, hy]
  go_simp
  rfl
end
section
variable {w0 u : World} {M : Boxes} {g : Nat} {t : TypeId}
theorem cells_box {cs : Array Value} {L : List Value} (hu : EnvC w0 M u) (hm : (g, Obj.cells cs t (0, 0)) ∈ M) (h : cs.toList = L) : CellsIn u u.heap.size (some ⟨g, 0, none⟩) L := fun _ =>
  ⟨_, rfl, EnvX.lt hu hm, fun j v hj => by
    rw [Addr.add_mid, Nat.zero_add]
    exact box_cell hu hm (by rw [← h] at hj; rwa [Array.getElem?_toList] at hj)⟩
end
def t0M (g : Nat) : TxM := ⟨tx0, none, 0, 0, some ⟨g, 0, none⟩, 1, 1⟩
theorem t0_ok {w0 u : World} {M : Boxes} {g : Nat} {t : TypeId} (hu : EnvC w0 M u) (hm : (g, Obj.cells (outA ⟨50, 7⟩) t (0, 0)) ∈ M) : TxOk u (t0M g) :=
  ⟨rfl, ⟨Nat.le_refl _, Nat.zero_le _⟩, (fun x h => by cases h), (fun h => absurd h (Nat.lt_irrefl 0)), rfl, ⟨Nat.le_refl _, show 1 ≤ maxLen by decide⟩, (fun x h => by cases List.mem_singleton.1 h; exact ⟨⟨by decide, by decide⟩, ⟨by decide, by decide⟩⟩), cells_box hu hm rfl⟩
theorem t0_txs {w0 u : World} {M : Boxes} {g gl : Nat} {t t' : TypeId} (hu : EnvC w0 M u) (hm : (g, Obj.cells (outA ⟨50, 7⟩) t (0, 0)) ∈ M) (hl : (gl, Obj.cells (txA (t0M g)) t' (0, 0)) ∈ M) : TxsIn u (some ⟨gl, 0, none⟩) [t0M g] :=
  ⟨cells_box hu hl rfl, fun t ht => by cases List.mem_singleton.1 ht; exact t0_ok hu hm⟩
def fewX (t : TxR) : Bool := decide (t.ins.length ≤ 6 ∧ t.outs.length ≤ 6)
theorem fewX_eq {t : TxR} {n1 n2 : Nat} (h1 : t.ins.length = n1) (h2 : t.outs.length = n2) : fewX t = (decide ((n1 : Int) ≤ 6) && decide ((n2 : Int) ≤ 6)) := by
  unfold fewX
  rw [h1, h2, Bool.eq_iff_iff]
  simp only [decide_eq_true_eq, Bool.and_eq_true]
  omega
set_option maxRecDepth 20000 in
set_option maxHeartbeats 8000000 in
theorem few_one (r : TxR) (A1 : Option Addr) (n1 c1 : Nat) (A2 : Option Addr) (n2 c2 : Nat) (w : World) (ht : TxOk w ⟨r, A1, n1, c1, A2, n2, c2⟩) :
    Calls Tryd.prog 10 #[txV ⟨r, A1, n1, c1, A2, n2, c2⟩] w fun e w' => e = .returned (.bool (fewX r)) ∧ Below w.heap.size w w' := by
  have hfe := fewX_eq ht.l1 ht.l2
  have HN63 := Lib.hid ht.n63
  have E1 : Hid (EnvX w (w.alloc (.cells (txA ⟨r, A1, n1, c1, A2, n2, c2⟩) 25)) [(w.heap.size, Obj.cells (txA ⟨r, A1, n1, c1, A2, n2, c2⟩) 25 (0, 0))]) := (EnvX.start w).new _
  dsimp only at hfe
  rw [hfe]
  clear hfe ht
  obtain ⟨d, hd⟩ : ∃ d, decide ((n2 : Int) ≤ 6) = d := ⟨_, rfl⟩
  have HD := Lib.hid hd
  rw [hd]
  clear hd
  unfold txV
  cases hb : decide ((n1 : Int) ≤ 6) with
  | false =>
    have C1 := Lib.hid hb
    clear hb
    go_enter Tryd.func10, Tryd.ntmps10
    go_upto_region 1 with (fail)
    generalize w.alloc (.cells (txA ⟨r, A1, n1, c1, A2, n2, c2⟩) 25) = W at *
    refine wp_region_Hx (w0 := w) [0, 1, 2, 3, 4, 5, 6, 7, 8, 9, 10] [(w.heap.size, Obj.cells (txA ⟨r, A1, n1, c1, A2, n2, c2⟩) 25 (0, 0))] rfl E1.out ?_
    refine lexH_phase [0, 1, 2, 3, 4, 5, 6, 7, 8, 9, 10] [] ?_
    have hw1 : EnvX w _ [(w.heap.size, Obj.cells (txA ⟨r, A1, n1, c1, A2, n2, c2⟩) 25 (0, 0))] := E1.out
    have hone := @EnvC.one _ _ _ hw1
    (refine wpG_op rfl rfl rfl ?_; intro K hK; go_big_quiet_op; go_big_quiet_on)
    (refine wpG_val (v := .slice A1 n1 c1) rfl rfl (fun u hu => load_any_op u (box_tx_ins hu (List.Mem.head _)) rfl) ?_ hw1; intro K hK; go_big_quiet_op; go_big_quiet_on)
    (refine wpG_val (v := .int .i64 (n1 : Int)) rfl rfl (fun u hu => len_op Tryd.underlying22 HN63.out.1 u rfl) ?_ hw1; intro K hK; go_big_quiet_op; go_big_quiet_on)
    (refine wpG_val (v := .bool false) rfl rfl (fun u hu => leZ_op u C1.out rfl rfl) ?_ hw1; intro K hK; go_big_quiet_op; go_big_quiet_on)
    (refine wpG_op rfl rfl rfl ?_; intro K hK; go_big_quiet_op; go_big_quiet_on)
    (refine wpG_skip rfl rfl ?_ hw1; intro K hK; go_big_quiet_op; go_big_quiet_on)
    (refine wpG_skip rfl rfl ?_ hw1; intro K hK; go_big_quiet_op; go_big_quiet_on)
    (refine wpG_skip rfl rfl ?_ hw1; intro K hK; go_big_quiet_op; go_big_quiet_on)
    (refine wpG_skip rfl rfl ?_ hw1; intro K hK; go_big_quiet_op; go_big_quiet_on)
    (refine wpG_op rfl rfl rfl ?_; intro K hK; go_big_quiet_op; go_big_quiet_on)
    (refine wpG_op rfl rfl rfl ?_; intro K hK; go_big_quiet_op; go_big_quiet_on)
    clear hone hw1
    refine wpG_nil ?_
    intro u3 E2'
    have EX2 := Lib.hid E2'
    clear E2'
    have HBE := Lib.hid (EnvX.bel EX2.out)
    go_wp2
    go_ret
    exact ⟨rfl, HBE.out⟩
  | true =>
    have C1 := Lib.hid hb
    clear hb
    go_enter Tryd.func10, Tryd.ntmps10
    go_upto_region 1 with (fail)
    generalize w.alloc (.cells (txA ⟨r, A1, n1, c1, A2, n2, c2⟩) 25) = W at *
    refine wp_region_Hx (w0 := w) [0, 1, 2, 3, 4, 5, 6, 7, 8, 9, 10] [(w.heap.size, Obj.cells (txA ⟨r, A1, n1, c1, A2, n2, c2⟩) 25 (0, 0))] rfl E1.out ?_
    refine lexH_phase [0, 1, 2, 3, 4, 5, 6, 7, 8, 9, 10] [] ?_
    have hw1 : EnvX w _ [(w.heap.size, Obj.cells (txA ⟨r, A1, n1, c1, A2, n2, c2⟩) 25 (0, 0))] := E1.out
    have hone := @EnvC.one _ _ _ hw1
    (refine wpG_op rfl rfl rfl ?_; intro K hK; go_big_quiet_op; go_big_quiet_on)
    (refine wpG_val (v := .slice A1 n1 c1) rfl rfl (fun u hu => load_any_op u (box_tx_ins hu (List.Mem.head _)) rfl) ?_ hw1; intro K hK; go_big_quiet_op; go_big_quiet_on)
    (refine wpG_val (v := .int .i64 (n1 : Int)) rfl rfl (fun u hu => len_op Tryd.underlying22 HN63.out.1 u rfl) ?_ hw1; intro K hK; go_big_quiet_op; go_big_quiet_on)
    (refine wpG_val (v := .bool true) rfl rfl (fun u hu => leZ_op u C1.out rfl rfl) ?_ hw1; intro K hK; go_big_quiet_op; go_big_quiet_on)
    (refine wpG_op rfl rfl rfl ?_; intro K hK; go_big_quiet_op; go_big_quiet_on)
    (refine wpG_op rfl rfl rfl ?_; intro K hK; go_big_quiet_op; go_big_quiet_on)
    (refine wpG_val (v := .slice A2 n2 c2) rfl rfl (fun u hu => load_any_op u (box_tx_outs hu (List.Mem.head _)) rfl) ?_ hw1; intro K hK; go_big_quiet_op; go_big_quiet_on)
    (refine wpG_val (v := .int .i64 (n2 : Int)) rfl rfl (fun u hu => len_op Tryd.underlying23 HN63.out.2 u rfl) ?_ hw1; intro K hK; go_big_quiet_op; go_big_quiet_on)
    (refine wpG_val (v := .bool d) rfl rfl (fun u hu => leZ_op u HD.out rfl rfl) ?_ hw1; intro K hK; go_big_quiet_op; go_big_quiet_on)
    (refine wpG_op rfl rfl rfl ?_; intro K hK; go_big_quiet_op; go_big_quiet_on)
    (refine wpG_op rfl rfl rfl ?_; intro K hK; go_big_quiet_op; go_big_quiet_on)
    clear hone hw1
    refine wpG_nil ?_
    intro u3 E2'
    have EX2 := Lib.hid E2'
    clear E2'
    have HBE := Lib.hid (EnvX.bel EX2.out)
    go_wp2
    go_ret
    exact ⟨rfl, HBE.out⟩
theorem few_any (t : TxM) (w : World) (ht : TxOk w t) : Calls Tryd.prog 10 #[txV t] w fun e w' => e = .returned (.bool (fewX t.r)) ∧ Below w.heap.size w w' := by
  obtain ⟨r, A1, n1, c1, A2, n2, c2⟩ := t
  exact few_one r A1 n1 c1 A2 n2 c2 w ht
set_option maxRecDepth 20000 in
set_option maxHeartbeats 8000000 in
theorem cawake_any (H : CoinC) (w : World) (ht : Tables w) : Calls Tryd.prog 9 #[] w fun e w' => e = .returned (.bool true) ∧ Below w.heap.size w w' := by
  have E1 : Hid (EnvX w w []) := EnvX.start w
  have HT := Lib.hid ht
  have HH := Lib.hid H
  have HI0 := Lib.hid (idX_id tx0)
  have HNZ := Lib.hid tx0_id
  have HRT := Lib.hid tx0_root
  have HRI : Hid (isId (rootT (idsX [tx0]))) := root_id (idsX_ids _)
  have HZ32 : Hid (z32.length = 32) := by show _ = _; rfl
  clear ht H
  go_enter Tryd.func9, Tryd.ntmps9
  go_upto_region 1 with (fail)
  refine wp_region_Hx (w0 := w) [0, 1, 2, 3, 4] [] rfl E1.out ?_
  refine lexH_phase [0] [1, 2, 3, 4] ?_
  have hw1 : EnvX w _ [] := E1.out
  have hone := @EnvC.one _ _ _ hw1
  (refine wpG_val (v := .agg (outA ⟨50, 7⟩)) rfl rfl (fun u hu => buildA_op u built_out) ?_ hw1; intro K hK; go_big_quiet_op; go_big_quiet_on)
  clear hone hw1
  refine wpG_nil ?_
  refine (hOp_fresh (R := BuiltR 49 (outC ⟨50, 7⟩)) (M0 := []) rfl rfl (fun _ h => h) (fun u hu => FAt_buildR elOut rfl (outC_one _) rfl u) ?_)
  rintro _ _ ⟨go, rfl, rfl⟩ hf he2; intro K' hK'; go_big_quiet_op; go_big_quiet_on
  have HGO := Lib.hid (hf _ (List.mem_singleton.2 rfl))
  clear hf
  change lexH _ _ _ _ _ _ [(go, Obj.cells (outA ⟨50, 7⟩) 49 (0, 0))]
  refine lexH_phase [2] [3, 4] ?_
  have hw3 : EnvX w _ [(go, Obj.cells (outA ⟨50, 7⟩) 49 (0, 0))] := he2.choose_spec
  have hone := @EnvC.one _ _ _ hw3
  (refine wpG_val (v := .agg (txA (t0M go))) rfl rfl (fun u hu => buildA_op u (built_txouts _ _ _)) ?_ hw3; intro K hK; go_big_quiet_op; go_big_quiet_on)
  clear hone hw3
  refine wpG_nil ?_
  refine (hOp_fresh (R := fun x N => ∃ g, x = .pointer (some ⟨g, 0, none⟩) ∧ N = [(g, Obj.cells (txA noTxM) 25 (0, 0))]) (M0 := [(go, Obj.cells (outA ⟨50, 7⟩) 49 (0, 0))]) rfl rfl (fun _ h => h) (fun u hu => FAt_new (new_tx _) u) ?_)
  rintro _ _ ⟨gt, rfl, rfl⟩ hf he4; intro K' hK'; go_big_quiet_op; go_big_quiet_on
  have HGT := Lib.hid (hf _ (List.mem_singleton.2 rfl))
  clear hf
  change lexH _ _ _ _ _ _ [(gt, Obj.cells (txA noTxM) 25 (0, 0)), (go, Obj.cells (outA ⟨50, 7⟩) 49 (0, 0))]
  refine (hOp_store rfl (gt) (txA (t0M go)) rfl rfl HGT.out.1 25 ((txA noTxM)) (List.Mem.head _) (infoTx _ rfl) rfl (txA_one _) [(gt, Obj.cells (txA (t0M go)) 25 (0, 0)), (go, Obj.cells (outA ⟨50, 7⟩) 49 (0, 0))] (List.forall_mem_cons.2 ⟨.inl rfl, fun y hy => .inr ⟨List.mem_cons_of_mem _ hy, HGT.out.2 y hy⟩⟩) ?_)
  intro he5
  intro u7 E2'
  have EX6 := Lib.hid E2'
  clear E2'
  have HLD : Hid ((loadVar 25 ⟨gt, 0, none⟩).run Tryd.prog u7 = .ok (.agg (txA (t0M go))) u7) := box_tx EX6.out (List.Mem.head _)
  have HPT : Hid (Calls Tryd.prog 12 #[.agg (txA (t0M go))] u7 fun e w' => (∃ v, e = .returned (.tuple #[v, .bool true]) ∧ OwnB w' u7.heap.size v (putX (t0M go).r).1) ∧ Below u7.heap.size u7 w') := by
    have h1 := HH.out.put (t0M go) u7 (t0_ok EX6.out (List.Mem.tail _ (List.Mem.head _))) (HT.out.below (EnvX.bel EX6.out))
    rwa [show (putX (t0M go).r).2 = true by show (putX tx0).2 = true; rw [tx0_put]] at h1
  go_upto_region 2 with (fail)
  go_wp2_with ((with_reducible refine wpList_load_run (o := ⟨some 10, _, _, _, _, _⟩) ?_ 25 (.tmp 1) ?_ ⟨gt, 0, none⟩ ?_ HLD.out ?_); (rfl); (rfl); (rfl))
  refine HPT.out.mono ?_
  rintro e wp ⟨⟨v2, rfl, hv⟩, hb⟩
  have hv2 : OwnB wp u7.heap.size v2 [0, 1, 0, 0, 0, 0, 0, 50, 7] := by
    have h := hv
    rwa [show (putX (t0M go).r).1 = [0, 1, 0, 0, 0, 0, 0, 50, 7] by show (putX tx0).1 = _; rw [tx0_put]] at h
  clear hv
  obtain ⟨hv1, ⟨_, h0⟩ | ⟨gv, capv, curv, rfl, hg1, hg2, hg3⟩⟩ := hv2
  · cases h0
  have E2 : Hid (EnvX w wp [(gv, Obj.cells curv 5 (0, 0)), (gt, Obj.cells (txA (t0M go)) 25 (0, 0)), (go, Obj.cells (outA ⟨50, 7⟩) 49 (0, 0))]) := ⟨(EnvX.below EX6.out hb).bel, fun g o hm => by
    rcases List.mem_cons.1 hm with e | e
    · cases e
      exact hg2
    · exact (EnvX.below EX6.out hb).box g o e⟩
  have HGV := Lib.hid hg3
  have HCV : Hid (∀ i v, i < 9 → ([0, 1, 0, 0, 0, 0, 0, 50, 7].map u8v)[i]? = some v → curv[i]? = some v) := fun i v hi hv => by
    have h := hg3.2.2.2
    have e : (curv.toList.take (9 * 1))[i]? = ([0, 1, 0, 0, 0, 0, 0, 50, 7].map u8v)[i]? := by
      have h' : curv.toList.take (9 * 1) = [0, 1, 0, 0, 0, 0, 0, 50, 7].map u8v := h
      rw [h']
    rw [List.getElem?_take_of_lt (by omega), Array.getElem?_toList] at e
    rw [e, hv]
  clear hv1 hb HLD HPT hg1 hg2 hg3 EX6
  have HB0 : Hid (Below w.heap.size w w) := Below.refl _ _
  go_upto_region 3 with (fail)
  have HRC := Lib.hid (show Calls Tryd.prog 14 #[.slice (some ⟨gv, 0, none⟩) 9 capv] wp fun e w' => (∃ t : TxM, e = .returned (.tuple #[txV t, .bool true]) ∧ t.r = tx0 ∧ TxOk w' t) ∧ Below wp.heap.size wp w' from by
      have h1 := HH.out.read (some ⟨gv, 0, none⟩) 9 capv [0, 1, 0, 0, 0, 0, 0, 50, 7] wp rfl (by decide) HGV.out.1 HGV.out.2.1 (show isB [0, 1, 0, 0, 0, 0, 0, 50, 7] from fun y hy => by simp only [List.mem_cons, List.not_mem_nil, or_false] at hy; omega) (boxR_bytes E2.out (List.Mem.head _) rfl HGV.out) (HT.out.below E2.out.bel)
      rwa [tx0_read] at h1)
  go_wp2_with fail
  refine HRC.out.mono ?_
  rintro e w2 ⟨⟨xr, rfl, hr0, hk0⟩, hb⟩
  have HR_xr := Lib.hid hr0
  have K_xr := Lib.hid hk0
  have hbb := (EnvX.below E2.out hb).bel
  have E3 : Hid (EnvX w2 w2 [(gv, Obj.cells curv 5 (0, 0)), (gt, Obj.cells (txA (t0M go)) 25 (0, 0)), (go, Obj.cells (outA ⟨50, 7⟩) 49 (0, 0))]) := ⟨Below.refl _ _, (EnvX.below E2.out hb).box⟩
  have HB2 := Lib.hid (HB0.out.trans (hbb.mono HB0.out.size))
  have HT2 := Lib.hid (HT.out.below hbb)
  clear hr0 hk0 hb hbb E2 HRC
  have E3b : Hid (EnvX w2 (w2.alloc (.cells (txA xr) 25)) ((w2.heap.size, Obj.cells (txA xr) 25 (0, 0)) :: [(gv, Obj.cells curv 5 (0, 0)), (gt, Obj.cells (txA (t0M go)) 25 (0, 0)), (go, Obj.cells (outA ⟨50, 7⟩) 49 (0, 0))])) := EnvX.new E3.out _
  unfold txV
  go_wp2_with ((with_reducible refine wpList_store_row (o := ⟨none, .store 25 _ _, _, _, _, _⟩) ?_ 25 (.tmp 4) (.tmp 17) ?_ w2.heap.size (txA xr) ?_ ?_ 25 _ (heap_alloc_last w2 _) (infoTx _ rfl) ?_ (txA_one _) ?_); (rfl); (rfl); (rfl); (rfl); (rfl); rw [World.setRow_alloc_new])
  clear E3
  go_upto_region 4 with (fail)
  refine wp_region_H (w0 := w2) [(w2.heap.size, Obj.cells (txA xr) 25 (0, 0)), (gv, Obj.cells curv 5 (0, 0)), (gt, Obj.cells (txA (t0M go)) 25 (0, 0)), (go, Obj.cells (outA ⟨50, 7⟩) 49 (0, 0))] (by kernel_rfl) E3b.out ?_
  refine anyH_phase [0, 1, 2, 3, 4, 5, 6, 7, 8, 9, 10, 11, 12, 13, 14, 15, 16, 17, 18, 19, 20, 21, 22, 23, 24, 25, 26, 27, 28, 29, 30, 31, 32, 33, 34, 35, 36, 37, 38, 39, 40, 41, 42, 43, 46] 6 rfl ⟨_, (EnvX.drew E3b.out)⟩ (by kernel_rfl) ?_
  have hw301 : EnvX w2 _ [(w2.heap.size, Obj.cells (txA xr) 25 (0, 0)), (gv, Obj.cells curv 5 (0, 0)), (gt, Obj.cells (txA (t0M go)) 25 (0, 0)), (go, Obj.cells (outA ⟨50, 7⟩) 49 (0, 0))] := (EnvX.drew E3b.out)
  have hone := @EnvC.one _ _ _ hw301
  (refine wpG_op rfl rfl rfl ?_; intro K hK; go_big_quiet_op; go_big_quiet_on)
  (refine wpG_op rfl rfl rfl ?_; intro K hK; go_big_quiet_op; go_big_quiet_on)
  (refine wpG_op rfl rfl rfl ?_; intro K hK; go_big_quiet_op; go_big_quiet_on)
  (refine wpG_val (v := .int .i64 ((9 : Nat) : Int)) rfl rfl (fun u hu => len_op Tryd.underlying26 (by decide) u rfl) ?_ hw301; intro K hK; go_big_quiet_op; go_big_quiet_on)
  (refine wpG_val (v := .bool true) rfl rfl (fun u hu => eqlI_op u (by decide) rfl rfl) ?_ hw301; intro K hK; go_big_quiet_op; go_big_quiet_on)
  (refine wpG_op rfl rfl rfl ?_; intro K hK; go_big_quiet_op; go_big_quiet_on)
  (refine wpG_op rfl rfl rfl ?_; intro K hK; go_big_quiet_op; go_big_quiet_on)
  (refine wpG_op rfl rfl rfl ?_; intro K hK; go_big_quiet_op; go_big_quiet_on)
  (refine wpG_val (v := .pointer (some ((⟨gv, 0, none⟩ : Addr).add (1 * 1)))) rfl rfl (fun u hu => idxSl_op (i := 1) Tryd.underlying26 (by kernel_rfl : (Tryd.prog.info? 5).map (·.size) = some 1) (by decide) u rfl rfl) ?_ hw301; intro K hK; go_big_quiet_op; go_big_quiet_on)
  (refine wpG_val (v := .int .u8 1) rfl rfl (fun u hu => load_any_op u (run_load_one oneU8c u (by rw [Addr.add_mid]; exact box_cell hu (List.Mem.tail _ (List.Mem.head _)) (HCV.out 1 _ (by decide) rfl))) rfl) ?_ hw301; intro K hK; go_big_quiet_op; go_big_quiet_on)
  (refine wpG_val (v := .bool true) rfl rfl (fun u hu => eqlU8c_op u (by decide) rfl rfl) ?_ hw301; intro K hK; go_big_quiet_op; go_big_quiet_on)
  (refine wpG_op rfl rfl rfl ?_; intro K hK; go_big_quiet_op; go_big_quiet_on)
  (refine wpG_op rfl rfl rfl ?_; intro K hK; go_big_quiet_op; go_big_quiet_on)
  (refine wpG_op rfl rfl rfl ?_; intro K hK; go_big_quiet_op; go_big_quiet_on)
  (refine wpG_val (v := .pointer (some ((⟨gv, 0, none⟩ : Addr).add (7 * 1)))) rfl rfl (fun u hu => idxSl_op (i := 7) Tryd.underlying26 (by kernel_rfl : (Tryd.prog.info? 5).map (·.size) = some 1) (by decide) u rfl rfl) ?_ hw301; intro K hK; go_big_quiet_op; go_big_quiet_on)
  (refine wpG_val (v := .int .u8 50) rfl rfl (fun u hu => load_any_op u (run_load_one oneU8c u (by rw [Addr.add_mid]; exact box_cell hu (List.Mem.tail _ (List.Mem.head _)) (HCV.out 7 _ (by decide) rfl))) rfl) ?_ hw301; intro K hK; go_big_quiet_op; go_big_quiet_on)
  (refine wpG_val (v := .bool true) rfl rfl (fun u hu => eqlU8c_op u (by decide) rfl rfl) ?_ hw301; intro K hK; go_big_quiet_op; go_big_quiet_on)
  (refine wpG_op rfl rfl rfl ?_; intro K hK; go_big_quiet_op; go_big_quiet_on)
  (refine wpG_op rfl rfl rfl ?_; intro K hK; go_big_quiet_op; go_big_quiet_on)
  (refine wpG_op rfl rfl rfl ?_; intro K hK; go_big_quiet_op; go_big_quiet_on)
  (refine wpG_val (v := .pointer (some ((⟨gv, 0, none⟩ : Addr).add (8 * 1)))) rfl rfl (fun u hu => idxSl_op (i := 8) Tryd.underlying26 (by kernel_rfl : (Tryd.prog.info? 5).map (·.size) = some 1) (by decide) u rfl rfl) ?_ hw301; intro K hK; go_big_quiet_op; go_big_quiet_on)
  (refine wpG_val (v := .int .u8 7) rfl rfl (fun u hu => load_any_op u (run_load_one oneU8c u (by rw [Addr.add_mid]; exact box_cell hu (List.Mem.tail _ (List.Mem.head _)) (HCV.out 8 _ (by decide) rfl))) rfl) ?_ hw301; intro K hK; go_big_quiet_op; go_big_quiet_on)
  (refine wpG_val (v := .bool true) rfl rfl (fun u hu => eqlU8c_op u (by decide) rfl rfl) ?_ hw301; intro K hK; go_big_quiet_op; go_big_quiet_on)
  (refine wpG_op rfl rfl rfl ?_; intro K hK; go_big_quiet_op; go_big_quiet_on)
  (refine wpG_op rfl rfl rfl ?_; intro K hK; go_big_quiet_op; go_big_quiet_on)
  (refine wpG_op rfl rfl rfl ?_; intro K hK; go_big_quiet_op; go_big_quiet_on)
  (refine wpG_op rfl rfl rfl ?_; intro K hK; go_big_quiet_op; go_big_quiet_on)
  (refine wpG_op rfl rfl rfl ?_; intro K hK; go_big_quiet_op; go_big_quiet_on)
  (refine wpG_val (v := txV xr) rfl rfl (fun u hu => load_any_op u (box_tx hu (List.Mem.head _)) rfl) ?_ hw301; intro K hK; go_big_quiet_op; go_big_quiet_on)
  (refine wpG_val (v := txV (t0M go)) rfl rfl (fun u hu => load_any_op u (box_tx hu (List.Mem.tail _ (List.Mem.tail _ (List.Mem.head _)))) rfl) ?_ hw301; intro K hK; go_big_quiet_op; go_big_quiet_on)
  (refine wpG_call (f := 19) (args := #[txV xr, txV (t0M go)]) (v := .bool true) rfl rfl rfl Tryd.func19 rfl rfl (fun u hu => by have h1 := HH.out.same xr (t0M go) u (K_xr.out.up (EnvX.bel hu)) (t0_ok hu (List.Mem.tail _ (List.Mem.tail _ (List.Mem.tail _ (List.Mem.head _))))) (HT2.out.below (EnvX.bel hu)); rwa [show sameX xr.r (t0M go).r = true by rw [HR_xr.out]; exact decide_eq_true rfl] at h1) ?_ hw301; intro K hK; go_big_quiet_op; go_big_quiet_on)
  (refine wpG_op rfl rfl rfl ?_; intro K hK; go_big_quiet_op; go_big_quiet_on)
  (refine wpG_op rfl rfl rfl ?_; intro K hK; go_big_quiet_op; go_big_quiet_on)
  (refine wpG_val (v := txV (t0M go)) rfl rfl (fun u hu => load_any_op u (box_tx hu (List.Mem.tail _ (List.Mem.tail _ (List.Mem.head _)))) rfl) ?_ hw301; intro K hK; go_big_quiet_op; go_big_quiet_on)
  (refine wpG_call (f := 18) (args := #[txV (t0M go)]) (v := .bool true) rfl rfl rfl Tryd.func18 rfl rfl (fun u hu => by have h1 := HH.out.may (t0M go) u (t0_ok hu (List.Mem.tail _ (List.Mem.tail _ (List.Mem.tail _ (List.Mem.head _))))) (HT2.out.below (EnvX.bel hu)); rwa [show mayX (t0M go).r = true from tx0_may] at h1) ?_ hw301; intro K hK; go_big_quiet_op; go_big_quiet_on)
  (refine wpG_op rfl rfl rfl ?_; intro K hK; go_big_quiet_op; go_big_quiet_on)
  (refine wpG_op rfl rfl rfl ?_; intro K hK; go_big_quiet_op; go_big_quiet_on)
  (refine wpG_val (v := txV (t0M go)) rfl rfl (fun u hu => load_any_op u (box_tx hu (List.Mem.tail _ (List.Mem.tail _ (List.Mem.head _)))) rfl) ?_ hw301; intro K hK; go_big_quiet_op; go_big_quiet_on)
  (refine wpG_call (f := 20) (args := #[txV (t0M go)]) (v := idv (idX tx0)) rfl rfl rfl Tryd.func20 rfl rfl (fun u hu => HH.out.id (t0M go) u (t0_ok hu (List.Mem.tail _ (List.Mem.tail _ (List.Mem.tail _ (List.Mem.head _))))) (HT2.out.below (EnvX.bel hu))) ?_ hw301; intro K hK; go_big_quiet_op; go_big_quiet_on)
  (refine wpG_val (v := idv z32) rfl rfl (fun u hu => buildA_op u hbuilt0) ?_ hw301; intro K hK; go_big_quiet_op; go_big_quiet_on)
  (refine wpG_val (v := .bool true) rfl rfl (fun u hu => neqb_op HI0.out.1 HZ32.out HNZ.out u rfl rfl) ?_ hw301; intro K hK; go_big_quiet_op; go_big_quiet_on)
  (refine wpG_op rfl rfl rfl ?_; intro K hK; go_big_quiet_op; go_big_quiet_on)
  (refine wpG_op rfl rfl rfl ?_; intro K hK; go_big_quiet_op; go_big_quiet_on)
  (refine wpG_val (v := txV (t0M go)) rfl rfl (fun u hu => load_any_op u (box_tx hu (List.Mem.tail _ (List.Mem.tail _ (List.Mem.head _)))) rfl) ?_ hw301; intro K hK; go_big_quiet_op; go_big_quiet_on)
  (refine wpG_val (v := txV (t0M go)) rfl rfl (fun u hu => load_any_op u (box_tx hu (List.Mem.tail _ (List.Mem.tail _ (List.Mem.head _)))) rfl) ?_ hw301; intro K hK; go_big_quiet_op; go_big_quiet_on)
  clear hone hw301
  refine wpG_nil ?_
  refine anyH_one (i := 44) (by kernel_rfl) (hOp_freshG (R := BuiltR 25 (txC (t0M go))) (M0 := [(w2.heap.size, Obj.cells (txA xr) 25 (0, 0)), (gv, Obj.cells curv 5 (0, 0)), (gt, Obj.cells (txA (t0M go)) 25 (0, 0)), (go, Obj.cells (outA ⟨50, 7⟩) 49 (0, 0))]) rfl rfl rfl (fun _ h => h) (fun u hu => FAt_buildR elTx rfl (txC_one _) rfl u) ?_)
  rintro _ _ ⟨gl, rfl, rfl⟩ hf he302; intro K' hK'; go_big_quiet_op; go_big_quiet_on
  clear hf
  change anyH _ _ _ _ _ _ _ _ [(gl, Obj.cells (txA (t0M go)) 25 (0, 0)), (w2.heap.size, Obj.cells (txA xr) 25 (0, 0)), (gv, Obj.cells curv 5 (0, 0)), (gt, Obj.cells (txA (t0M go)) 25 (0, 0)), (go, Obj.cells (outA ⟨50, 7⟩) 49 (0, 0))]
  refine anyH_phase [45, 47, 48, 49, 50] 0 rfl ⟨_, he302.choose_spec⟩ (by kernel_rfl) ?_
  have hw303 : EnvX w2 _ [(gl, Obj.cells (txA (t0M go)) 25 (0, 0)), (w2.heap.size, Obj.cells (txA xr) 25 (0, 0)), (gv, Obj.cells curv 5 (0, 0)), (gt, Obj.cells (txA (t0M go)) 25 (0, 0)), (go, Obj.cells (outA ⟨50, 7⟩) 49 (0, 0))] := he302.choose_spec
  have hone := @EnvC.one _ _ _ hw303
  (refine wpG_call (f := 22) (args := #[.slice (some ⟨gl, 0, none⟩) 1 1]) (v := idv (rootT (idsX [tx0]))) rfl rfl rfl Tryd.func22 rfl rfl (fun u hu => HH.out.root [t0M go] (some ⟨gl, 0, none⟩) 1 1 u rfl (by decide) (Nat.le_refl _) (by decide) (t0_txs hu (List.Mem.tail _ (List.Mem.tail _ (List.Mem.tail _ (List.Mem.tail _ (List.Mem.head _))))) (List.Mem.head _)) (HT2.out.below (EnvX.bel hu))) ?_ hw303; intro K hK; go_big_quiet_op; go_big_quiet_on)
  (refine wpG_call (f := 20) (args := #[txV (t0M go)]) (v := idv (idX tx0)) rfl rfl rfl Tryd.func20 rfl rfl (fun u hu => HH.out.id (t0M go) u (t0_ok hu (List.Mem.tail _ (List.Mem.tail _ (List.Mem.tail _ (List.Mem.tail _ (List.Mem.head _)))))) (HT2.out.below (EnvX.bel hu))) ?_ hw303; intro K hK; go_big_quiet_op; go_big_quiet_on)
  (refine wpG_val (v := .bool true) rfl rfl (fun u hu => eqlb_op HRI.out.1 HI0.out.1 HRT.out u rfl rfl) ?_ hw303; intro K hK; go_big_quiet_op; go_big_quiet_on)
  (refine wpG_op rfl rfl rfl ?_; intro K hK; go_big_quiet_op; go_big_quiet_on)
  (refine wpG_op rfl rfl rfl ?_; intro K hK; go_big_quiet_op; go_big_quiet_on)
  clear hone hw303
  refine wpG_nil ?_
  refine anyH_done (by kernel_rfl) ?_
  intro u305 E2'
  have EX304 := Lib.hid E2'
  clear E2'
  have HBE := Lib.hid (HB2.out.trans ((EnvX.bel EX304.out).mono HB2.out.size))
  go_wp2
  go_ret
  exact ⟨rfl, HBE.out⟩
end Go.Proofs.YtcodmedgkboohaaDoor
