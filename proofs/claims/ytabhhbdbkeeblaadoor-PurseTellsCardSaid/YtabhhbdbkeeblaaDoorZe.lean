/- Part of a proof. -/
import Derived.Test.YtabhhbdbkeeblaaDoorZd
import Derived.Deep.Strs
import Derived.WalkKit
import Derived.ProofKit
import Derived.Handy
import Derived.Lib.SlBytesConst
import Derived.Deep.MidRow
import Derived.Laws.CopyOwn
import Derived.Laws.MakeOwn
import Derived.Deep.WholeRow
import Derived.Deep.Cut
import Derived.Deep.QuietTactic
import Derived.BigQuiet
import Derived.StillTailTactics
import Derived.Lib.Hide
import Derived.ChangeKeysEq
namespace Go.Proofs.YtabhhbdbkeeblaaDoor
set_option maxRecDepth 8000
open Go.RowKit
def inC (x : InR) : List Value := (arrB 32 x.tx).toList ++ [.int .i64 x.i]
def inA (x : InR) : Array Value := (inC x).toArray
def inV (x : InR) : Value := .agg (inA x)
def lenI (x : InR) : Prop := x.tx.length = 32
def noIn : InR := ⟨[], 0⟩
theorem okIn.len {x : InR} (h : okIn x) : lenI x := h.1.1
theorem inC_len {x : InR} (h : lenI x) : (inC x).length = 33 := by
  unfold inC
  rw [List.length_append, idA_list h]
  rfl
theorem inA_size {x : InR} (h : lenI x) : (inA x).size = 33 := by unfold inA; rw [List.size_toArray, inC_len h]
theorem inC_one (x : InR) : ∀ u ∈ inC x, u.oneCell' = true := by
  intro u hu
  unfold inC at hu
  rcases List.mem_append.1 hu with h | h
  · exact cell_of_all (arrB_one 32 _) u h
  · cases List.mem_singleton.1 h
    rfl
theorem inA_one (x : InR) : (inA x).all (·.oneCell') = true := by
  rw [Array.all_eq_true]
  intro i hi
  exact inC_one x _ (show (inA x)[i] ∈ (inA x).toList from Array.mem_toList_iff.2 (Array.getElem_mem hi))
theorem aggIn : AggT 42 33 := ⟨fun w => by simp [isAgg, run_underlying Tryd.underlying42], by kernel_rfl⟩
theorem elIn : ElemT 23 42 33 40 (inV noIn) := ⟨Tryd.underlying23, by kernel_rfl, by decide +kernel, by decide, by decide, by decide⟩
theorem infoIn (cs : Array Value) (h : cs.size = 33) : (Tryd.prog.info? 42).map (·.size) = some cs.size := by rw [h]; exact aggIn.size
theorem inC_tx {x : InR} (h : lenI x) : ((inA x).toList.drop 0).take 32 = (arrB 32 x.tx).toList := by
  unfold inA inC
  rw [List.drop_zero, List.take_left' (idA_list h)]
theorem inC_i {x : InR} (h : lenI x) : (inC x)[32]? = some (.int .i64 x.i) := by
  unfold inC
  rw [List.getElem?_append_right (by rw [idA_list h]; omega), idA_list h]
  rfl
def outC (o : OutR) : List Value := [.int .i64 o.v, .int .i64 o.to]
def outA (o : OutR) : Array Value := (outC o).toArray
def outV (o : OutR) : Value := .agg (outA o)
def noOut : OutR := ⟨0, 0⟩
theorem outA_size (o : OutR) : (outA o).size = 2 := rfl
theorem outC_one (o : OutR) : ∀ u ∈ outC o, u.oneCell' = true := by
  intro u hu
  unfold outC at hu
  simp only [List.mem_cons, List.not_mem_nil, or_false] at hu
  rcases hu with rfl | rfl <;> rfl
theorem outA_one (o : OutR) : (outA o).all (·.oneCell') = true := by
  rw [Array.all_eq_true]
  intro i hi
  exact outC_one o _ (show (outA o)[i] ∈ (outA o).toList from Array.mem_toList_iff.2 (Array.getElem_mem hi))
theorem aggOut : AggT 48 2 := ⟨fun w => by simp [isAgg, run_underlying Tryd.underlying48], by kernel_rfl⟩
theorem elOut : ElemT 24 48 2 16 (outV noOut) := ⟨Tryd.underlying24, by kernel_rfl, by decide +kernel, by decide, by decide, by decide⟩
theorem infoOut (cs : Array Value) (h : cs.size = 2) : (Tryd.prog.info? 48).map (·.size) = some cs.size := by rw [h]; exact aggOut.size
section
variable {w0 u : World} {M : Boxes} {g : Nat} {ty : TypeId} {x : InR} {o : OutR}
theorem box_in (hu : EnvC w0 M u) (hm : (g, Obj.cells (inA x) ty (0, 0)) ∈ M) (h : lenI x) : (loadVar 42 ⟨g, 0, none⟩).run Tryd.prog u = .ok (inV x) u := by
  have := box_agg aggIn (k := 0) hu hm (inC x) (inC_len h) (by unfold inA; rw [List.drop_zero, List.take_of_length_le (by rw [inC_len h]; omega)])
  exact this
theorem box_in_tx (hu : EnvC w0 M u) (hm : (g, Obj.cells (inA x) ty (0, 0)) ∈ M) (h : lenI x) : (loadVar 40 ⟨g, 0, none⟩).run Tryd.prog u = .ok (idv x.tx) u := by
  have := box_agg aggIdT (k := 0) hu hm _ (idA_list h) (inC_tx h)
  rwa [agg_list] at this
theorem box_in_i (hu : EnvC w0 M u) (hm : (g, Obj.cells (inA x) ty (0, 0)) ∈ M) (h : lenI x) : (loadVar 3 ⟨g, 32, none⟩).run Tryd.prog u = .ok (.int .i64 x.i) u :=
  run_load_one oneInt u (box_cell hu hm (by unfold inA; rw [List.getElem?_toArray]; exact inC_i h))
theorem src_in_tx {x : InR} (h : lenI x) : ((inA x).toList.drop 0).take (x.tx.map u8v).length = x.tx.map u8v := by
  have := inC_tx h
  rw [arrId_map h] at this
  rwa [List.length_map, h]
theorem box_out (hu : EnvC w0 M u) (hm : (g, Obj.cells (outA o) ty (0, 0)) ∈ M) : (loadVar 48 ⟨g, 0, none⟩).run Tryd.prog u = .ok (outV o) u := by
  have := box_agg aggOut (k := 0) hu hm (outC o) rfl rfl
  exact this
theorem box_out_v (hu : EnvC w0 M u) (hm : (g, Obj.cells (outA o) ty (0, 0)) ∈ M) : (loadVar 3 ⟨g, 0, none⟩).run Tryd.prog u = .ok (.int .i64 o.v) u :=
  run_load_one oneInt u (box_cell hu hm rfl)
theorem box_out_to (hu : EnvC w0 M u) (hm : (g, Obj.cells (outA o) ty (0, 0)) ∈ M) : (loadVar 3 ⟨g, 1, none⟩).run Tryd.prog u = .ok (.int .i64 o.to) u :=
  run_load_one oneInt u (box_cell hu hm rfl)
end
theorem built_in {tx : List Int} {i : Int} (h : tx.length = 32) : Tryd.prog.built 42 [(0, idv tx), (1, .int .i64 i)] = some (inA ⟨tx, i⟩) := by
  have hs : (arrB 32 tx).size = 32 := arrB_size _ _ (by omega)
  have e : cellsOfP [(0, idv tx), (1, .int .i64 i)] = inC ⟨tx, i⟩ := by simp [cellsOfP, inC, idv, Value.cells]
  have := built_struct (t := 42) (n := 33) Tryd.underlying42 (by kernel_rfl) (places := [(0, 32), (32, 1)]) (by kernel_rfl) (ps := [(0, idv tx), (1, .int .i64 i)]) (by
    refine ⟨?_, ?_, trivial⟩
    · show some (0, 32) = some (0, (arrB 32 tx).size)
      rw [hs]
    · show some (32, 1) = some (0 + (arrB 32 tx).size, 1)
      rw [hs]) (by rw [e, inC_len (x := ⟨tx, i⟩) h])
  rw [this, e]
  rfl
theorem built_out {v to : Int} : Tryd.prog.built 48 [(0, .int .i64 v), (1, .int .i64 to)] = some (outA ⟨v, to⟩) := by
  have e : cellsOfP [(0, .int .i64 v), (1, .int .i64 to)] = outC ⟨v, to⟩ := by simp [cellsOfP, outC, Value.cells]
  have := built_struct (t := 48) (n := 2) Tryd.underlying48 (by kernel_rfl) (places := [(0, 1), (1, 1)]) (by kernel_rfl) (ps := [(0, .int .i64 v), (1, .int .i64 to)]) (by
    refine ⟨?_, ?_, trivial⟩
    · rfl
    · rfl) (by rw [e]; rfl)
  rw [this, e]
  rfl
def InsIn (w : World) (B : Nat) (A : Option Addr) (l : List InR) : Prop := CellsIn w B A (l.map inC).flatten
def OutsIn (w : World) (B : Nat) (A : Option Addr) (l : List OutR) : Prop := CellsIn w B A (l.map outC).flatten
def okIns (l : List InR) : Prop := ∀ x ∈ l, okIn x
def okOuts (l : List OutR) : Prop := ∀ x ∈ l, okOut x
theorem rowsIn {l : List InR} (h : okIns l) : isRows 33 (l.map inC) := fun x hx => by
  obtain ⟨t, ht, rfl⟩ := List.mem_map.1 hx
  exact inC_len (h t ht).len
theorem rowsOut (l : List OutR) : isRows 2 (l.map outC) := fun x hx => by
  obtain ⟨t, ht, rfl⟩ := List.mem_map.1 hx
  rfl
theorem okIns.get {l : List InR} (h : okIns l) {i : Nat} (hi : i < l.length) : okIn (l.getD i noIn) := by
  rw [List.getD_eq_getElem?_getD, List.getElem?_eq_getElem hi]
  exact h _ (List.getElem_mem hi)
theorem okOuts.get {l : List OutR} (h : okOuts l) {i : Nat} (hi : i < l.length) : okOut (l.getD i noOut) := by
  rw [List.getD_eq_getElem?_getD, List.getElem?_eq_getElem hi]
  exact h _ (List.getElem_mem hi)
theorem okIns.take {l : List InR} (h : okIns l) (k : Nat) : okIns (l.take k) := fun x hx => h x (List.mem_of_mem_take hx)
theorem okOuts.take {l : List OutR} (h : okOuts l) (k : Nat) : okOuts (l.take k) := fun x hx => h x (List.mem_of_mem_take hx)
/-- one row of a list of rows, at its place -/
theorem row_cells {α : Type} {C : α → List Value} {z : Nat} {w : World} {B : Nat} {A : Option Addr} {l : List α} {d : α} (h : CellsIn w B A (l.map C).flatten) (hR : isRows z (l.map C)) (z0 : 0 < z) {i : Nat} (hi : i < l.length) :
    ∃ ad, A = some ad ∧ ad.block < B ∧ ∀ j v, (C (l.getD i d))[j]? = some v → w.cell? ((ad.add (i * z)).add j) = some v := by
  have hfl := hR.flat_len
  rw [List.length_map] at hfl
  have hp : 0 < l.length * z := Nat.mul_pos (by omega) z0
  obtain ⟨ad, e, hb, hc⟩ := h (by rw [hfl]; exact hp)
  have hg : (l.map C).getD i [] = C (l.getD i d) := by
    rw [List.getD_eq_getElem?_getD, List.getElem?_map, List.getElem?_eq_getElem hi, List.getD_eq_getElem?_getD, List.getElem?_eq_getElem hi]
    rfl
  refine ⟨ad, e, hb, fun j v hv => ?_⟩
  rw [add_addN]
  refine hc (i * z + j) v ?_
  have hj : j < z := by
    rcases Nat.lt_or_ge j z with h' | h'
    · exact h'
    · have := hR.get (i := i) (by rw [List.length_map]; exact hi)
      rw [hg] at this
      rw [List.getElem?_eq_none (by rw [this]; exact h')] at hv
      cases hv
  rw [hR.flat_get i j (by rw [List.length_map]; exact hi) hj, hg]
  exact hv
theorem InsIn.loads {w : World} {A : Option Addr} {l : List InR} (h : InsIn w w.heap.size A l) (hl : okIns l) {k : Nat} (hk : k < l.length) : ∃ ad, A = some ad ∧ ad.block < w.heap.size ∧ ∀ u, EnvX w u [] →
    (loadVar 42 (ad.add (k * 33))).run Tryd.prog u = .ok (inV (l.getD k noIn)) u ∧
    (loadVar 40 (ad.add (k * 33))).run Tryd.prog u = .ok (idv (l.getD k noIn).tx) u ∧
    (loadVar 3 ((ad.add (k * 33)).add 32)).run Tryd.prog u = .ok (.int .i64 (l.getD k noIn).i) u ∧
    SrcAt u (ad.add (k * 33)) ((l.getD k noIn).tx.map u8v) := by
  obtain ⟨ad, e, hb, hc⟩ := row_cells (d := noIn) h (rowsIn hl) (by decide) hk
  refine ⟨ad, e, hb, fun u hu => ?_⟩
  have h32 := (hl.get hk).len
  have hcu : ∀ j v, (inC (l.getD k noIn))[j]? = some v → u.cell? ((ad.add (k * 33)).add j) = some v := fun j v hv => by
    rw [← hc j v hv]
    exact (EnvX.bel hu).cell (by rw [block_of_add, block_of_add]; exact hb)
  generalize l.getD k noIn = t at *
  refine ⟨run_loadAgg aggIn (inC t) (inC_len h32) hcu, ?_, run_load_one oneInt u (hcu 32 _ (inC_i h32)), ?_⟩
  · have := run_loadAgg aggIdT (w := u) (ad := ad.add (k * 33)) _ (idA_list h32) (fun j v hv => hcu j v (by
      unfold inC
      rw [List.getElem?_append_left (by
        rcases Nat.lt_or_ge j (arrB 32 t.tx).toList.length with h' | h'
        · exact h'
        · rw [List.getElem?_eq_none h'] at hv; cases hv)]
      exact hv))
    rwa [agg_list] at this
  · intro j c hcj
    refine hcu j c ?_
    have hj : j < (arrB 32 t.tx).toList.length := by
      rw [arrId_map h32]
      rcases Nat.lt_or_ge j (t.tx.map u8v).length with h' | h'
      · exact h'
      · rw [List.getElem?_eq_none h'] at hcj; cases hcj
    unfold inC
    rw [List.getElem?_append_left hj, arrId_map h32]
    exact hcj
theorem OutsIn.loads {w : World} {A : Option Addr} {l : List OutR} (h : OutsIn w w.heap.size A l) {k : Nat} (hk : k < l.length) : ∃ ad, A = some ad ∧ ad.block < w.heap.size ∧ ∀ u, EnvX w u [] →
    (loadVar 48 (ad.add (k * 2))).run Tryd.prog u = .ok (outV (l.getD k noOut)) u ∧
    (loadVar 3 (ad.add (k * 2))).run Tryd.prog u = .ok (.int .i64 (l.getD k noOut).v) u ∧
    (loadVar 3 ((ad.add (k * 2)).add 1)).run Tryd.prog u = .ok (.int .i64 (l.getD k noOut).to) u := by
  obtain ⟨ad, e, hb, hc⟩ := row_cells (d := noOut) h (rowsOut l) (by decide) hk
  refine ⟨ad, e, hb, fun u hu => ?_⟩
  have hcu : ∀ j v, (outC (l.getD k noOut))[j]? = some v → u.cell? ((ad.add (k * 2)).add j) = some v := fun j v hv => by
    rw [← hc j v hv]
    exact (EnvX.bel hu).cell (by rw [block_of_add, block_of_add]; exact hb)
  generalize l.getD k noOut = t at *
  have hadd0 : ∀ a : Addr, a.add 0 = a := fun a => by unfold Addr.add; rfl
  refine ⟨run_loadAgg aggOut (outC t) rfl hcu, run_load_one oneInt u (by have := hcu 0 _ rfl; rwa [hadd0] at this), run_load_one oneInt u (hcu 1 _ rfl)⟩
theorem fieldsIn : (Tryd.prog.fieldsOf 42).toList.map (fun f => (f.name == "_", f.type, f.offset)) = [(false, 40, 0), (false, 3, 32)] := by kernel_rfl
theorem fieldsOut : (Tryd.prog.fieldsOf 48).toList.map (fun f => (f.name == "_", f.type, f.offset)) = [(false, 3, 0), (false, 3, 1)] := by kernel_rfl
def eqI (a b : InR) : Bool := decide (a = b)
def eqO (a b : OutR) : Bool := decide (a = b)
theorem run_equal_in (a b : InR) (ha : lenI a) (hb : lenI b) (w : World) : (Op.equal 42 (inV a) (inV b)).run Tryd.prog w = .ok (eqI a b) w := by
  unfold Op.equal inV
  have h := run_equalIn_struct (P := Tryd.prog) w 9999 42 (inA a) (inA b) (by kernel_rfl) (by kernel_rfl)
  refine Eq.trans h ?_
  have hf := fieldsIn
  generalize (Tryd.prog.fieldsOf 42).toList = fs at hf ⊢
  have hl : fs.length = 2 := by simpa using congrArg List.length hf
  obtain ⟨f1, f2, rfl⟩ : ∃ f1 f2, fs = [f1, f2] := by
    match fs, hl with
    | [a, b], _ => exact ⟨a, b, rfl⟩
  simp only [List.map_cons, List.map_nil, List.cons.injEq, Prod.mk.injEq, beq_eq_false_iff_ne, and_true] at hf
  obtain ⟨⟨n1, t1, o1⟩, n2, t2, o2⟩ := hf
  have pT : ∀ t : InR, lenI t → (part 40 (inA t) 0).run Tryd.prog w = .ok (.agg (arrB 32 t.tx)) w := fun t ht => run_part_agg aggIdT (by have := ext_list (inC_tx ht); rwa [Array.toArray_toList] at this) w
  have pI : ∀ t : InR, lenI t → (part 3 (inA t) 32).run Tryd.prog w = .ok (.int .i64 t.i) w := fun t ht => run_part_plain (P := Tryd.prog) w (by kernel_rfl) (by unfold inA; rw [List.getElem?_toArray]; exact inC_i ht)
  have e1 := run_equalIn_id 9997 a.tx b.tx ha hb w
  have e2 := run_equalIn_int (P := Tryd.prog) w 9998 3 .i64 .i64 a.i b.i Tryd.underlying3
  have hd : eqI a b = (eqL a.tx b.tx && (a.i == b.i)) := by
    unfold eqI eqL
    rw [Bool.eq_iff_iff]
    simp only [decide_eq_true_eq, Bool.and_eq_true, beq_iff_eq]
    exact ⟨fun h => by subst h; exact ⟨rfl, rfl⟩, fun h => by cases a; cases b; simp only at h; rw [h.1, h.2]⟩
  rw [hd]
  rw [eqFields_step (a := .agg (arrB 32 a.tx)) (b := .agg (arrB 32 b.tx)) n1 (by rw [t1, o1]; exact pT a ha) (by rw [t1, o1]; exact pT b hb) (by rw [t1]; exact e1)]
  cases eqL a.tx b.tx with
  | false => rfl
  | true =>
    rw [if_pos rfl, eqFields_step (a := .int .i64 a.i) (b := .int .i64 b.i) n2 (by rw [t2, o2]; exact pI a ha) (by rw [t2, o2]; exact pI b hb) (by rw [t2]; exact e2)]
    cases hab : (a.i == b.i) with
    | false => rfl
    | true => rfl
theorem zero_inA : (#[Value.int .u8 0, Value.int .u8 0, Value.int .u8 0, Value.int .u8 0, Value.int .u8 0, Value.int .u8 0, Value.int .u8 0, Value.int .u8 0, Value.int .u8 0, Value.int .u8 0, Value.int .u8 0, Value.int .u8 0, Value.int .u8 0, Value.int .u8 0, Value.int .u8 0, Value.int .u8 0, Value.int .u8 0, Value.int .u8 0, Value.int .u8 0, Value.int .u8 0, Value.int .u8 0, Value.int .u8 0, Value.int .u8 0, Value.int .u8 0, Value.int .u8 0, Value.int .u8 0, Value.int .u8 0, Value.int .u8 0, Value.int .u8 0, Value.int .u8 0, Value.int .u8 0, Value.int .u8 0, Value.int .i64 0] : Array Value) = inA noIn := rfl
theorem zero_outA : (#[Value.int .i64 0, Value.int .i64 0] : Array Value) = outA noOut := rfl
theorem guardIn : Tryd.prog.eqGuardType Tryd.prog.depth 42 = false := by kernel_rfl
section
variable {a : Act} {dst : Option Tmp} {x y : Operand} {ty : TypeId} {pos : String} {after : Array Edge} {gd : Option (Nat × Bool)}
theorem eqlIn_op {s t : InR} {b : Bool} (hs : lenI s) (ht : lenI t) (hb : eqI s t = b) (u : World) (hx : a.eval x = inV s) (hy : a.eval y = inV t) :
    (execOp a.eval ⟨dst, .binOp .eql 42 x y 42, ty, pos, after, gd⟩).run Tryd.prog u = .ok (.value (.bool b)) u := by
  have h0 := run_equal_in s t hs ht u
  have h : (binOp .eql 42 (inV s) (inV t)).run Tryd.prog u = .ok (.bool (eqI s t)) u := by
    unfold inV at *
    simp only [binOp]
    simp [h0]
  have hg := run_eqGuard_agg (P := Tryd.prog) u .eql 42 x y (inA s) (inA t) guardIn
  rw [← hb]
  unfold inV at *
  unfold execOp
  simp only [hx, hy, Sem.run_bind, hg, Result.andThen_ok, h, Sem.run_pure]
theorem neqIn_op {s t : InR} {b : Bool} (hs : lenI s) (ht : lenI t) (hb : (!eqI s t) = b) (u : World) (hx : a.eval x = inV s) (hy : a.eval y = inV t) :
    (execOp a.eval ⟨dst, .binOp .neq 42 x y 42, ty, pos, after, gd⟩).run Tryd.prog u = .ok (.value (.bool b)) u := by
  have h0 := run_equal_in s t hs ht u
  have h : (binOp .neq 42 (inV s) (inV t)).run Tryd.prog u = .ok (.bool (!eqI s t)) u := by
    unfold inV at *
    simp only [binOp]
    simp [h0]
  have hg := run_eqGuard_agg (P := Tryd.prog) u .neq 42 x y (inA s) (inA t) guardIn
  rw [← hb]
  unfold inV at *
  unfold execOp
  simp only [hx, hy, Sem.run_bind, hg, Result.andThen_ok, h, Sem.run_pure]
theorem fieldOut_op {k off : Nat} (hk : ([(0, 0), (1, 1)] : List (Nat × Nat)).lookup k = some off) {ad : Addr} (u : World) (hx : a.eval x = .pointer (some ad)) :
    (execOp a.eval ⟨dst, .fieldAddr 48 x k, ty, pos, after, gd⟩).run Tryd.prog u = .ok (.value (.pointer (some (ad.add off)))) u := by
  unfold execOp
  simp only [hx]
  rcases k with _ | _ | k
  all_goals first | (cases hk; go_simp) | cases hk
theorem fieldIn_op {k off : Nat} (hk : ([(0, 0), (1, 32)] : List (Nat × Nat)).lookup k = some off) {ad : Addr} (u : World) (hx : a.eval x = .pointer (some ad)) :
    (execOp a.eval ⟨dst, .fieldAddr 42 x k, ty, pos, after, gd⟩).run Tryd.prog u = .ok (.value (.pointer (some (ad.add off)))) u := by
  unfold execOp
  simp only [hx]
  rcases k with _ | _ | k
  all_goals first | (cases hk; go_simp) | cases hk
theorem fieldTx_op {k off : Nat} (hk : ([(0, 0), (1, 1)] : List (Nat × Nat)).lookup k = some off) {ad : Addr} (u : World) (hx : a.eval x = .pointer (some ad)) :
    (execOp a.eval ⟨dst, .fieldAddr 26 x k, ty, pos, after, gd⟩).run Tryd.prog u = .ok (.value (.pointer (some (ad.add off)))) u := by
  unfold execOp
  simp only [hx]
  rcases k with _ | _ | k
  all_goals first | (cases hk; go_simp) | cases hk
theorem new_in (a : Act) : NewAt Tryd.prog ⟨dst, .alloc 42, ty, pos, after, gd⟩ a (.cells (inA noIn) 42 (0, 0)) := fun u => by
  rw [← zero_inA]
  go_simp
theorem new_out (a : Act) : NewAt Tryd.prog ⟨dst, .alloc 48, ty, pos, after, gd⟩ a (.cells (outA noOut) 48 (0, 0)) := fun u => by
  rw [← zero_outA]
  go_simp
end
structure TxM where
  r : TxR
  A1 : Option Addr
  n1 : Nat
  c1 : Nat
  A2 : Option Addr
  n2 : Nat
  c2 : Nat
def txC (t : TxM) : List Value := [.slice t.A1 t.n1 t.c1, .slice t.A2 t.n2 t.c2]
def txA (t : TxM) : Array Value := (txC t).toArray
def txV (t : TxM) : Value := .agg (txA t)
def noTxM : TxM := ⟨noTx, none, 0, 0, none, 0, 0⟩
structure TxOk (w : World) (t : TxM) : Prop where
  l1 : t.r.ins.length = t.n1
  b1 : t.n1 ≤ t.c1 ∧ t.c1 ≤ maxLen
  o1 : okIns t.r.ins
  m1 : InsIn w w.heap.size t.A1 t.r.ins
  l2 : t.r.outs.length = t.n2
  b2 : t.n2 ≤ t.c2 ∧ t.c2 ≤ maxLen
  o2 : okOuts t.r.outs
  m2 : OutsIn w w.heap.size t.A2 t.r.outs
theorem TxOk.up {w w' : World} {t : TxM} (h : TxOk w t) (hb : Below w.heap.size w w') : TxOk w' t := ⟨h.l1, h.b1, h.o1, h.m1.up hb, h.l2, h.b2, h.o2, h.m2.up hb⟩
theorem TxOk.ok {w : World} {t : TxM} (h : TxOk w t) : okX t.r := ⟨h.o1, h.o2⟩
theorem TxOk.n63 {w : World} {t : TxM} (h : TxOk w t) : t.n1 < 9223372036854775808 ∧ t.n2 < 9223372036854775808 := by
  have h1 := h.b1
  have h2 := h.b2
  unfold maxLen at h1 h2
  omega
theorem txA_size (t : TxM) : (txA t).size = 2 := rfl
theorem txC_one (t : TxM) : ∀ u ∈ txC t, u.oneCell' = true := by
  intro u hu
  unfold txC at hu
  simp only [List.mem_cons, List.not_mem_nil, or_false] at hu
  rcases hu with rfl | rfl <;> rfl
theorem txA_one (t : TxM) : (txA t).all (·.oneCell') = true := by
  rw [Array.all_eq_true]
  intro i hi
  exact txC_one t _ (show (txA t)[i] ∈ (txA t).toList from Array.mem_toList_iff.2 (Array.getElem_mem hi))
theorem aggTx : AggT 26 2 := ⟨fun w => by simp [isAgg, run_underlying Tryd.underlying26], by kernel_rfl⟩
theorem elTx : ElemT 27 26 2 48 (txV noTxM) := ⟨Tryd.underlying27, by kernel_rfl, by decide +kernel, by decide, by decide, by decide⟩
theorem infoTx (cs : Array Value) (h : cs.size = 2) : (Tryd.prog.info? 26).map (·.size) = some cs.size := by rw [h]; exact aggTx.size
theorem oneIns : ∀ w, (isAgg 23).run Tryd.prog w = .ok false w := fun w => by simp [isAgg, run_underlying Tryd.underlying23]
theorem oneOuts : ∀ w, (isAgg 24).run Tryd.prog w = .ok false w := fun w => by simp [isAgg, run_underlying Tryd.underlying24]
section
variable {w0 u : World} {M : Boxes} {g : Nat} {ty : TypeId} {t : TxM}
theorem box_tx (hu : EnvC w0 M u) (hm : (g, Obj.cells (txA t) ty (0, 0)) ∈ M) : (loadVar 26 ⟨g, 0, none⟩).run Tryd.prog u = .ok (txV t) u := by
  have := box_agg aggTx (k := 0) hu hm (txC t) rfl rfl
  exact this
theorem box_tx_ins (hu : EnvC w0 M u) (hm : (g, Obj.cells (txA t) ty (0, 0)) ∈ M) : (loadVar 23 ⟨g, 0, none⟩).run Tryd.prog u = .ok (.slice t.A1 t.n1 t.c1) u :=
  run_load_one oneIns u (box_cell hu hm rfl)
theorem box_tx_outs (hu : EnvC w0 M u) (hm : (g, Obj.cells (txA t) ty (0, 0)) ∈ M) : (loadVar 24 ⟨g, 1, none⟩).run Tryd.prog u = .ok (.slice t.A2 t.n2 t.c2) u :=
  run_load_one oneOuts u (box_cell hu hm rfl)
end
section
variable {dst : Option Tmp} {ty : TypeId} {pos : String} {after : Array Edge} {gd : Option (Nat × Bool)}
theorem new_tx (a : Act) : NewAt Tryd.prog ⟨dst, .alloc 26, ty, pos, after, gd⟩ a (.cells (txA noTxM) 26 (0, 0)) := fun u => by
  have e : (#[Value.slice none 0 0, Value.slice none 0 0] : Array Value) = txA noTxM := rfl
  rw [← e]
  go_simp
end
theorem built_txouts (A : Option Addr) (n c : Nat) : Tryd.prog.built 26 [(1, .slice A n c)] = some #[.slice none 0 0, .slice A n c] := by kernel_rfl
structure TxsIn (w : World) (A : Option Addr) (l : List TxM) : Prop where
  cells : CellsIn w w.heap.size A (l.map txC).flatten
  each : ∀ t ∈ l, TxOk w t
theorem TxsIn.up {w w' : World} {A : Option Addr} {l : List TxM} (h : TxsIn w A l) (hb : Below w.heap.size w w') : TxsIn w' A l := ⟨h.cells.up hb, fun t ht => (h.each t ht).up hb⟩
theorem TxsIn.get {w : World} {A : Option Addr} {l : List TxM} (h : TxsIn w A l) {i : Nat} (hi : i < l.length) : TxOk w (l.getD i noTxM) := by
  rw [List.getD_eq_getElem?_getD, List.getElem?_eq_getElem hi]
  exact h.each _ (List.getElem_mem hi)
theorem rowsTx (l : List TxM) : isRows 2 (l.map txC) := fun x hx => by
  obtain ⟨t, ht, rfl⟩ := List.mem_map.1 hx
  rfl
theorem TxsIn.loads {w : World} {A : Option Addr} {l : List TxM} (h : TxsIn w A l) {k : Nat} (hk : k < l.length) : ∃ ad, A = some ad ∧ ad.block < w.heap.size ∧ ∀ u, EnvX w u [] →
    (loadVar 26 (ad.add (k * 2))).run Tryd.prog u = .ok (txV (l.getD k noTxM)) u ∧
    (loadVar 23 (ad.add (k * 2))).run Tryd.prog u = .ok (.slice (l.getD k noTxM).A1 (l.getD k noTxM).n1 (l.getD k noTxM).c1) u ∧
    (loadVar 24 ((ad.add (k * 2)).add 1)).run Tryd.prog u = .ok (.slice (l.getD k noTxM).A2 (l.getD k noTxM).n2 (l.getD k noTxM).c2) u := by
  obtain ⟨ad, e, hb, hc⟩ := row_cells (d := noTxM) h.cells (rowsTx l) (by decide) hk
  refine ⟨ad, e, hb, fun u hu => ?_⟩
  have hcu : ∀ j v, (txC (l.getD k noTxM))[j]? = some v → u.cell? ((ad.add (k * 2)).add j) = some v := fun j v hv => by
    rw [← hc j v hv]
    exact (EnvX.bel hu).cell (by rw [block_of_add, block_of_add]; exact hb)
  generalize l.getD k noTxM = t at *
  have hadd0 : ∀ a : Addr, a.add 0 = a := fun a => by unfold Addr.add; rfl
  refine ⟨run_loadAgg aggTx (txC t) rfl hcu, run_load_one oneIns u (by have := hcu 0 _ rfl; rwa [hadd0] at this), run_load_one oneOuts u (hcu 1 _ rfl)⟩
theorem may_badOut {r : TxR} {i : Nat} (hi : i < r.outs.length) (h : mayOut (r.outs.getD i noOut) = false) : mayX r = false := by
  unfold mayX
  rw [decide_eq_false_iff_not]
  intro hh
  have hm : r.outs.getD i noOut ∈ r.outs := by rw [List.getD_eq_getElem?_getD, List.getElem?_eq_getElem hi]; exact List.getElem_mem hi
  have := hh.2.2.2.2.2 _ hm
  rw [h] at this
  cases this
section
variable {a : Act} {dst : Option Tmp} {x y : Operand} {ty : TypeId} {pos : String} {after : Array Edge} {gd : Option (Nat × Bool)}
end
/-- bytes of one's own, as boxes; what an append leaves -/
def FreshY (xs : List Int) (v : Value) (N : Boxes) : Prop := FreshR 5 1 xs.length (xs.map u8v) v N
def GrownB (w0 : World) (xs : List Int) (M0 : Boxes) (v : Value) (M' : Boxes) : Prop := ∃ N, M' = N ++ M0 ∧ FreshY xs v N ∧ freshN w0 N M0
theorem FreshY.one {g : Nat} {k : Int} : FreshY [k] (.slice (some ⟨g, 0, none⟩) 1 1) [(g, Obj.cells #[.int .u8 k] 5 (0, 0))] := .inl ⟨g, 1, #[.int .u8 k], rfl, rfl, Nat.le_refl _, by decide, rfl, rfl⟩
theorem FreshY.nil : FreshY [] (.slice none 0 0) [] := .inr ⟨rfl, rfl, rfl, rfl⟩
theorem FreshY.own {w : World} {B : Nat} {xs : List Int} {v : Value} {N : Boxes} (h : FreshY xs v N) (hN : ∀ y ∈ N, B ≤ y.1 ∧ w.heap[y.1]? = some y.2) : OwnB w B v xs :=
  FreshR.own h (by rw [List.length_map, Nat.mul_one]) hN
theorem appB_op {w0 u : World} {M : Boxes} (M0 : Boxes) {N : Boxes} {m c : Nat} {xs ys : List Int} {v : Value} {ad : Addr} {a : Act} {dst : Option Tmp} {y x : Operand} {pos : String} {after : Array Edge} {gd : Option (Nat × Bool)}
    (hu : EnvX w0 u M) (hm : ys.length = m) (hF : FreshY xs v N) (hN : ∀ y ∈ N, y ∈ M ∧ w0.heap.size ≤ y.1) (hc : SrcAt u ad (ys.map u8v)) (hM0 : ∀ z ∈ M0, z ∈ M ∧ ∀ y ∈ N, z.1 ≠ y.1) (hs : xs.length + m ≤ 2000000)
    (hyv : a.eval y = v) (hx : a.eval x = .slice (some ad) m c) :
    ∃ v' u' M', (execOp a.eval ⟨dst, .call { callee := .builtin .append, args := #[y, x], argTypes := #[63, 63] }, 63, pos, after, gd⟩).run Tryd.prog u = .ok (.value v') u' ∧ EnvX w0 u' M' ∧ GrownB w0 (xs ++ ys) M0 v' M' := by
  obtain ⟨v', u', M', h1, h2, N', e, h3, h4⟩ := appX_op (dst := dst) (pos := pos) (after := after) (gd := gd) elB M0 hu (n := xs.length) (m := m) (c := c) (by rw [List.length_map, Nat.mul_one]) (by rw [List.length_map, hm, Nat.mul_one]) u8_one hF hN hc hM0 hs hyv hx
  refine ⟨v', u', M', h1, h2, N', e, ?_, h4⟩
  unfold FreshY
  rw [List.length_append, hm, List.map_append]
  exact h3
theorem src_fresh {w0 u : World} {M : Boxes} {g n : Nat} {cur : Array Value} {xs : List Int} (hu : EnvC w0 M u) (hm : (g, Obj.cells cur 5 (0, 0)) ∈ M) (hl : xs.length = n) (h : cur.toList.take (n * 1) = xs.map u8v) : SrcAt u ⟨g, 0, none⟩ (xs.map u8v) :=
  src_box hu hm (by rw [List.drop_zero, List.length_map, hl, ← Nat.mul_one n]; exact h)
theorem hbuilt0 : Tryd.prog.built 40 [] = some (arrB 32 z32) := by kernel_rfl
section
variable {a : Act} {dst : Option Tmp} {x y z : Operand} {ty : TypeId} {pos : String} {after : Array Edge} {gd : Option (Nat × Bool)}
/-- two new parts -/
theorem FAt_rows2 {A0 A1 : Option Addr} {n0 n1 c0 c1 : Nat} (hx : a.eval x = .slice A0 n0 c0) (hy : a.eval y = .slice A1 n1 c1) (u : World) :
    FAt Tryd.prog ⟨dst, .buildSlice 69 2 #[(0, x), (1, y)], ty, pos, after, gd⟩ a (fun v N => ∃ g, v = .slice (some ⟨g, 0, none⟩) 2 2 ∧ N = [(g, Obj.cells #[.slice A0 n0 c0, .slice A1 n1 c1] 63 (0, 0))]) u := by
  have h : (execOp a.eval ⟨dst, .buildSlice 69 2 #[(0, x), (1, y)], ty, pos, after, gd⟩).run Tryd.prog u = .ok (.value (.slice (some ⟨u.heap.size, 0, none⟩) 2 2)) (u.alloc (.cells #[.slice A0 n0 c0, .slice A1 n1 c1] 63)) := by
    unfold execOp
    simp only [List.map_toArray, List.map_cons, List.map_nil, hx, hy]
    go_simp
  unfold FAt
  rw [h]
  refine ⟨(Below.refl _ _).alloc (Nat.le_refl _) _, _, ⟨_, rfl, rfl⟩, fun y hy => ?_⟩
  cases List.mem_singleton.1 hy
  exact ⟨Nat.le_refl _, heap_alloc_new u _⟩
end
theorem take_snoc {α β : Type} (F : List α) (g : α → β) (d : α) {k : Nat} (hk : k < F.length) : (F.take (k + 1)).map g = (F.take k).map g ++ [g (F.getD k d)] := by
  rw [List.take_succ_eq_append_getElem hk, List.map_append, List.getD_eq_getElem?_getD, List.getElem?_eq_getElem hk]
  rfl
theorem getD_mem {α : Type} (F : List α) (d : α) {k : Nat} (hk : k < F.length) : F.getD k d ∈ F := by
  rw [List.getD_eq_getElem?_getD, List.getElem?_eq_getElem hk]
  exact List.getElem_mem hk
/-- the bytes of the first ones -/
def insB (l : List InR) (i : Nat) : List Int := [(l.length : Int)] ++ ((l.take i).map inB).flatten
def outsB (r : TxR) (j : Nat) : List Int := insB r.ins r.ins.length ++ [(r.outs.length : Int)] ++ ((r.outs.take j).map outB).flatten
theorem insB_step {l : List InR} {i : Nat} (h : i < l.length) : insB l (i + 1) = insB l i ++ (l.getD i noIn).tx ++ [(l.getD i noIn).i] := by
  unfold insB
  rw [take_snoc l inB noIn h, List.flatten_append, List.flatten_singleton]
  unfold inB
  simp only [List.append_assoc]
theorem outsB_step {r : TxR} {j : Nat} (h : j < r.outs.length) : outsB r (j + 1) = outsB r j ++ putL (r.outs.getD j noOut).v.toNat 6 ++ [(r.outs.getD j noOut).to] := by
  unfold outsB
  rw [take_snoc r.outs outB noOut h, List.flatten_append, List.flatten_singleton]
  unfold outB
  simp only [List.append_assoc]
theorem outsB_all (r : TxR) : outsB r r.outs.length = bodyX r := by
  unfold outsB insB bodyX
  rw [List.take_length, List.take_length]
  simp only [List.append_assoc, List.cons_append, List.nil_append, List.singleton_append]
theorem insB_le {l : List InR} (h : okIns l) (i : Nat) : (insB l i).length ≤ 1 + 33 * l.length := by
  unfold insB
  rw [List.length_append, flat_len (insB_len (h.take i)), List.length_map, List.length_take]
  show 1 + _ ≤ _
  have : 33 * min i l.length ≤ 33 * l.length := Nat.mul_le_mul_left 33 (Nat.min_le_right ..)
  omega
theorem outsB_le {r : TxR} (h : okX r) (j : Nat) : (outsB r j).length ≤ 2 + 33 * r.ins.length + 7 * r.outs.length := by
  unfold outsB
  have := insB_le h.1 r.ins.length
  rw [List.length_append, List.length_append, flat_len (outsB_len _), List.length_map, List.length_take]
  have : 7 * min j r.outs.length ≤ 7 * r.outs.length := Nat.mul_le_mul_left 7 (Nat.min_le_right ..)
  show _ + 1 + _ ≤ _
  omega
/-- at a loop's head: bytes of one's own, and the transaction -/
def BInv (w : World) (M0 : Boxes) (xs : List Int) (v : Value) (u : World) : Prop := ∃ N, FreshY xs v N ∧ freshN w N M0 ∧ EnvX w u (N ++ M0)
/-- one id of a list, as bytes at its place -/
theorem IdsIn.at {w : World} {B : Nat} {A : Option Addr} {l : List (List Int)} (h : IdsIn w B A l) (hl : isIds l) {i : Nat} (hi : i < l.length) : ∃ ad, A = some ad ∧ Bytes w B (some (ad.add (i * 32))) (l.getD i []) := by
  have hfl := hl.flat_len
  obtain ⟨ad, e, hb, hc⟩ := h (by omega)
  refine ⟨ad, e, fun _ => ⟨_, rfl, by rw [block_of_add]; exact hb, fun j v hv => ?_⟩⟩
  rw [add_add32]
  have hj : j < 32 := by
    rcases Nat.lt_or_ge j 32 with h' | h'
    · exact h'
    · rw [List.getElem?_eq_none (by rw [List.length_map, (hl.get hi).1]; exact h')] at hv
      cases hv
  refine hc (i * 32 + j) v ?_
  rw [List.getElem?_map, hl.flat_get i j hi hj]
  rwa [List.getElem?_map] at hv
def rsT (l : List TxM) : List TxR := l.map (·.r)
theorem inA_size' {x : InR} (h : x.tx.length ≤ 32) : (inA x).size = 33 := by
  unfold inA inC
  rw [List.size_toArray, List.length_append, Array.length_toList, arrB_size _ _ h]
  rfl
theorem FreshR.cells {w0 u : World} {M N : Boxes} {e : TypeId} {z n c : Nat} {A : Option Addr} {xs : List Value} (h : FreshR e z n xs (.slice A n c) N) (hl : xs.length = n * z) (hu : EnvX w0 u M) (hN : ∀ y ∈ N, y ∈ M) : CellsIn u u.heap.size A xs :=
  own_cells (h.own (B := 0) hl (fun y hy => ⟨Nat.zero_le _, EnvX.box hu _ _ (hN y hy)⟩))
section
variable {a : Act} {dst : Option Tmp} {x y : Operand} {ty : TypeId} {pos : String} {after : Array Edge} {gd : Option (Nat × Bool)}
end
open Go.ChangeShapes Go.WideShapes Go.ChangeAt Go.RowKit Go.Deep
theorem ccellsInt : Tryd.prog.cellsOf 3 = 1 := by kernel_rfl
theorem ccellsIn : Tryd.prog.cellsOf 42 = 33 := by kernel_rfl
theorem ccellsOut : Tryd.prog.cellsOf 48 = 2 := by kernel_rfl
theorem ccellsTx : Tryd.prog.cellsOf 26 = 2 := by kernel_rfl
theorem ccellsIns : Tryd.prog.cellsOf 23 = 1 := by kernel_rfl
theorem ccellsOuts : Tryd.prog.cellsOf 24 = 1 := by kernel_rfl
section
variable {H : Type} {enc : TypeId × Value → H} {W : World} {base : Nat} {spare : Nat → Bool} {held : Bool} {fuel : Nat} {cs : List Value} {x : DataW H × List MemPlace}
theorem in_cells (h : DataW.trod enc Tryd.prog W base spare held fuel 42 cs = some x) : ∃ t : InR, okIn t ∧ cs = inC t := by
  obtain ⟨y0, y1, n, _, hl, h0, h1⟩ := trod_struct2 Tryd.underlying42 h
  rw [ccellsIn] at hl
  obtain ⟨hs, k1, k2, e0⟩ := id_cells h0
  obtain ⟨i, e1, _, wf⟩ := DataW.trod_int Tryd.underlying3 h1
  have e0' : cs.take 32 = hs.map u8v := by
    have h := e0
    rw [show Tryd.prog.cellsOf 40 = 32 from cellsOfId] at h
    exact h
  have e1' : (cs.drop 32).take 1 = [.int .i64 i] := by
    have h := e1
    rw [show Tryd.prog.cellsOf 3 = 1 from ccellsInt] at h
    exact h
  refine ⟨⟨hs, i⟩, ⟨⟨k1, k2⟩, bounds_i64 wf⟩, ?_⟩
  unfold inC
  show cs = (arrB 32 hs).toList ++ [.int .i64 i]
  rw [arrId_map k1, ← e0', ← e1', List.take_of_length_le (l := cs.drop 32) (by rw [List.length_drop]; omega), List.take_append_drop]
theorem out_cells (h : DataW.trod enc Tryd.prog W base spare held fuel 48 cs = some x) : ∃ t : OutR, okOut t ∧ cs = outC t := by
  obtain ⟨y0, y1, n, _, hl, h0, h1⟩ := trod_struct2 Tryd.underlying48 h
  rw [ccellsOut] at hl
  obtain ⟨v, e0, _, wv⟩ := DataW.trod_int Tryd.underlying3 h0
  obtain ⟨i, e1, _, wf⟩ := DataW.trod_int Tryd.underlying3 h1
  have e0' : cs.take 1 = [.int .i64 v] := by
    have h := e0
    rw [show Tryd.prog.cellsOf 3 = 1 from ccellsInt] at h
    exact h
  have e1' : (cs.drop 1).take 1 = [.int .i64 i] := by
    have h := e1
    rw [show Tryd.prog.cellsOf 3 = 1 from ccellsInt] at h
    exact h
  refine ⟨⟨v, i⟩, ⟨bounds_i64 wv, bounds_i64 wf⟩, ?_⟩
  show cs = [.int .i64 v] ++ [.int .i64 i]
  rw [← e0', ← e1', List.take_of_length_le (l := cs.drop 1) (by rw [List.length_drop]; omega), List.take_append_drop]
end
section
variable {H : Type} {enc : TypeId × Value → H} {W : World} {base : Nat} {v : Value} {d : DataW H} {p : List MemPlace} {fuel : Nat} {cs : List Value} {x : DataW H × List MemPlace}
theorem tx_cells (h : DataW.trod enc Tryd.prog W 0 (fun _ => true) true fuel 26 cs = some x) : ∃ t : TxM, TxOk W t ∧ cs = txC t := by
  obtain ⟨y0, y1, n, _, hl, h0, h1⟩ := trod_struct2 Tryd.underlying26 h
  rw [ccellsTx] at hl
  obtain ⟨a1, n1, c1, l1, p1, q1, r1, s1, o1, m1⟩ := open_elemsC (ok := okIn) (C := inC) Tryd.underlying23 ccellsIn (by decide) (fun t ht => inC_len ht.len) (fun _ _ _ h => in_cells h) h0
  obtain ⟨a2, n2, c2, l2, p2, q2, r2, s2, o2, m2⟩ := open_elemsC (ok := okOut) (C := outC) Tryd.underlying24 ccellsOut (by decide) (fun t ht => rfl) (fun _ _ _ h => out_cells h) h1
  refine ⟨⟨⟨l1, l2⟩, a1, n1, c1, a2, n2, c2⟩, ⟨q1, ⟨r1, s1⟩, o1, m1, q2, ⟨r2, s2⟩, o2, m2⟩, ?_⟩
  have p1' : cs.take 1 = [.slice a1 n1 c1] := by
    have h := p1
    rw [show Tryd.prog.cellsOf 23 = 1 from ccellsIns] at h
    exact h
  have p2' : (cs.drop 1).take 1 = [.slice a2 n2 c2] := by
    have h := p2
    rw [show Tryd.prog.cellsOf 24 = 1 from ccellsOuts] at h
    exact h
  show cs = [.slice a1 n1 c1] ++ [.slice a2 n2 c2]
  rw [← p1', ← p2', List.take_of_length_le (l := cs.drop 1) (by rw [List.length_drop]; omega), List.take_append_drop]
theorem open_tx (hok : Value.okWide Tryd.prog W .any base 26 v) (h : DataW.Trod enc Tryd.prog W 0 (fun _ => true) true 26 v d p) : ∃ t : TxM, v = txV t ∧ TxOk W t := by
  obtain ⟨cs, rfl, hsz, _⟩ : ∃ cs, v = .agg cs ∧ cs.size = Tryd.prog.cellsOf 26 ∧ Row.okWide Tryd.prog W .any base 26 cs := by
    simpa [Value.okWide, Tryd.underlying26] using hok
  obtain ⟨fuel, hf⟩ := h
  obtain ⟨t, ht, hc⟩ := tx_cells hf
  refine ⟨t, ?_, ht⟩
  have : cs.toList = txC t := hc
  unfold txV txA
  rw [← this]
theorem open_txs (hok : Value.okWide Tryd.prog W .any base 27 v) (h : DataW.Trod enc Tryd.prog W 0 (fun _ => true) true 27 v d p) :
    ∃ (a : Option Addr) (n c : Nat) (l : List TxM), v = .slice a n c ∧ l.length = n ∧ n ≤ c ∧ c ≤ maxLen ∧ TxsIn W a l := by
  obtain ⟨a, n, c, l, h1, h2, h3, h4, h5, h6⟩ := open_elems (ok := TxOk W) (C := txC) Tryd.underlying27 ccellsTx (by decide) (fun t ht => rfl) (fun _ _ _ h => tx_cells h) hok h
  exact ⟨a, n, c, l, h1, h2, h3, h4, ⟨h6, h5⟩⟩
end
/-- The transaction of nothing, as a value and as it reads. -/
def zeroX : Value := .agg #[.slice none 0 0, .slice none 0 0]
def zeroXD {H : Type} : DataW H := .agg [.nil, .nil]
def lessL : List Int → List Int → Bool
  | x :: xs, y :: ys => if x = y then lessL xs ys else decide (x < y)
  | _, _ => false
theorem drop_at (l : List Int) (k : Nat) (h : k < l.length) : l.drop k = l.getD k 0 :: l.drop (k + 1) := by
  rw [List.drop_eq_getElem_cons h]
  simp [List.getD, List.getElem?_eq_getElem h]
theorem lessL_at (xs ys : List Int) (k : Nat) (hx : k < xs.length) (hy : k < ys.length) :
    (xs.getD k 0 = ys.getD k 0 → lessL (xs.drop k) (ys.drop k) = lessL (xs.drop (k + 1)) (ys.drop (k + 1))) ∧
    (xs.getD k 0 ≠ ys.getD k 0 → lessL (xs.drop k) (ys.drop k) = decide (xs.getD k 0 < ys.getD k 0)) := by
  rw [drop_at xs k hx, drop_at ys k hy]
  exact ⟨fun h => by simp only [lessL]; rw [if_pos h], fun h => by simp only [lessL]; rw [if_neg h]⟩
set_option maxRecDepth 20000 in
set_option maxHeartbeats 4000000 in
theorem less_any (xs ys : List Int) (w : World) (hx : xs.length = 32) (hy : ys.length = 32) :
    Calls Tryd.prog 63 #[.agg (arrB 32 xs), .agg (arrB 32 ys)] w fun e w' => e = .returned (.bool (lessL xs ys)) ∧ Below w.heap.size w w' := by
  have HX := Lib.hid hx
  have HY := Lib.hid hy
  clear hx hy
  go_enter Tryd.func63, Tryd.ntmps63
  go_wp2_with fail
  go_loopw [6] (fun i u => ∃ k : Nat, k ≤ 32 ∧ i = .int .i64 k ∧ Below w.heap.size w u ∧ Hid (Row u w.heap.size 40 (arrB 32 xs) ∧ Row u (w.heap.size + 1) 40 (arrB 32 ys) ∧ lessL xs ys = lessL (xs.drop k) (ys.drop k))) (fun i _ => 32 - (intOf i).toNat)
  case atStart => exact ⟨0, by omega, rfl, by go_grown, (Row.new w 40 _).alloc _, Row.newAt (by simp) 40 _, rfl⟩
  case round =>
    obtain ⟨k, hk, rfl, hbl, hrows⟩ := hrel
    obtain ⟨r0, r1, hq⟩ := hrows.out
    by_cases hlt : k < 32
    · have e0 : wr.cell? ⟨w.heap.size, k, none⟩ = some (.int .u8 (xs.getD k 0)) := (r0.cell k).trans (arrB_get 32 _ k (by rw [HX.out]; omega) hlt)
      have e1 : wr.cell? ⟨w.heap.size + 1, k, none⟩ = some (.int .u8 (ys.getD k 0)) := (r1.cell k).trans (arrB_get 32 _ k (by rw [HY.out]; omega) hlt)
      have hs := Lib.hid (lessL_at xs ys k (by rw [HX.out]; exact hlt) (by rw [HY.out]; exact hlt))
      have R0 := Lib.hid r0
      have R1 := Lib.hid r1
      have HQ := Lib.hid hq
      clear r0 r1 hq hrows
      generalize xs.getD k 0 = x at *
      generalize ys.getD k 0 = y at *
      have hl2 : (k : Int) < 32 := by omega
      by_cases hxy : x = y
      · subst hxy
        have hne : (x != x) = false := by simp
        have hs1 := Lib.hid (HQ.out.trans (hs.out.1 rfl))
        clear hs HQ
        go_wp2_with fail
        go_quiet (fail)
        go_wp2
        go_roundw
        case rel => exact ⟨k + 1, by omega, by go_num, below_drewN hbl _, R0.out.drewN _, R1.out.drewN _, hs1.out⟩
        case measure => simp [intOf]; omega
      · have hne : (x != y) = true := by simpa using hxy
        have hfin := Lib.hid (HQ.out.trans (hs.out.2 hxy))
        clear hxy
        go_wp2_with fail
        go_quiet (fail)
        go_wp2_with fail
        go_quiet (fail)
        go_wp2
        go_ret
        exact ⟨by rw [hfin.out]; rfl, below_drewN (below_drewN hbl _) _⟩
    · obtain rfl : k = 32 := by omega
      have hfin : Hid (lessL xs ys = false) := by
        show _ = _
        rw [hq, List.drop_eq_nil_of_le (by rw [HX.out]; exact Nat.le_refl _)]
        rfl
      clear r0 r1 hq hrows
      go_wp2
      go_ret
      exact ⟨by rw [hfin.out]; rfl, hbl⟩
theorem less_three : ∀ (n : Nat) (xs ys : List Int), xs.length = n → ys.length = n → (lessL xs ys = true ∧ lessL ys xs = false ∧ eqL xs ys = false) ∨ (lessL xs ys = false ∧ lessL ys xs = true ∧ eqL xs ys = false) ∨ (lessL xs ys = false ∧ lessL ys xs = false ∧ eqL xs ys = true)
  | 0, [], [], _, _ => by simp [lessL, eqL]
  | n + 1, x :: xs, y :: ys, h1, h2 => by
    have ih := less_three n xs ys (by simpa using h1) (by simpa using h2)
    simp only [lessL, eqL, List.cons.injEq] at ih ⊢
    rcases Int.lt_trichotomy x y with h | h | h
    · left; simp [show ¬ x = y by omega, show ¬ y = x by omega, h]; omega
    · subst h; simpa using ih
    · right; left; simp [show ¬ x = y by omega, show ¬ y = x by omega, h]; omega
theorem less_trans : ∀ (n : Nat) (xs ys zs : List Int), xs.length = n → ys.length = n → zs.length = n → lessL xs ys = true → lessL ys zs = true → lessL xs zs = true
  | 0, [], [], [], _, _, _ => by simp [lessL]
  | n + 1, x :: xs, y :: ys, z :: zs, h1, h2, h3 => by
    have ih := less_trans n xs ys zs (by simpa using h1) (by simpa using h2) (by simpa using h3)
    simp only [lessL]
    intro a b
    by_cases e1 : x = y
    · subst e1
      by_cases e2 : x = z
      · subst e2; simp at a b ⊢; exact ih a b
      · simp [e2] at b ⊢; exact b
    · by_cases e2 : y = z
      · subst e2; simp [e1] at a ⊢; exact a
      · simp [e1] at a
        simp [e2] at b
        simp [show ¬ x = z by omega]; omega
structure CoinR where
  tx : List Int
  i : Int
  v : Int
  to : Int
deriving DecidableEq
def noCoin : CoinR := ⟨z32, 0, 0, 0⟩
def keyC (c : CoinR) : InR := ⟨c.tx, c.i⟩
def outK (c : CoinR) : OutR := ⟨c.v, c.to⟩
def okCoin (c : CoinR) : Prop := isId c.tx ∧ I64 c.i ∧ I64 c.v ∧ I64 c.to
def okP (p : List CoinR) : Prop := ∀ c ∈ p, okCoin c
def idP (p : List CoinR) : Prop := ∀ c ∈ p, isId c.tx
theorem okP.id {p : List CoinR} (h : okP p) : idP p := fun c hc => (h c hc).1
def beforeK (a b : InR) : Bool := lessL a.tx b.tx || (decide (a.tx = b.tx) && decide (a.i < b.i))
def boundC (c : CoinR) : Bool := decide (0 ≤ c.i ∧ c.i ≤ 2 ∧ 1 ≤ c.v ∧ c.v ≤ 1099511627776 ∧ 0 ≤ c.to ∧ c.to ≤ 255)
def upP (p : List CoinR) : Prop := p.Pairwise fun a b => beforeK (keyC a) (keyC b) = true
instance (p : List CoinR) : Decidable (upP p) := inferInstanceAs (Decidable (p.Pairwise _))
def mayP (p : List CoinR) : Bool := decide (p.length ≤ 48 ∧ (∀ c ∈ p, boundC c = true) ∧ upP p)
def samePu (a b : List CoinR) : Bool := decide (a = b)
def findP (p : List CoinR) (x : InR) : Int := match p.findIdx? (fun c => decide (keyC c = x)) with
  | some k => k
  | none => -1
def sumV (p : List CoinR) : Int := (p.map (·.v)).sum
def sumP (p : List CoinR) : Int := if mayP p then sumV p else 0
def withP : List CoinR → CoinR → List CoinR
  | [], c => [c]
  | d :: r, c => if beforeK (keyC c) (keyC d) then c :: d :: r else d :: withP r c
def thereP (p : List CoinR) (id : List Int) : Bool := p.any fun c => decide (c.tx = id)
def newC (id : List Int) : Int → List OutR → List CoinR
  | _, [] => []
  | i, o :: os => ⟨id, i, o.v, o.to⟩ :: newC id (i + 1) os
def madeP (p : List CoinR) (cs : List CoinR) : List CoinR := cs.foldl withP p
def worthX (t : TxR) : Int := (t.outs.map (·.v)).sum
def takeP : List CoinR → List InR → Option (List CoinR × Int)
  | l, [] => some (l, 0)
  | l, x :: xs => match l.find? (fun c => decide (keyC c = x)) with
    | none => none
    | some c => match takeP (l.eraseP fun c => decide (keyC c = x)) xs with
      | none => none
      | some r => some (r.1, c.v + r.2)
/-- what becomes of coins: the coins, what is left of V, the error's number -/
def spendP (p : List CoinR) (t : TxR) : List CoinR × Int × Nat :=
  if mayP p && mayX t && decide (t.ins ≠ []) then
    match takeP p t.ins with
    | none => (p, 0, 8)
    | some (l, n) => if n < worthX t then (p, 0, 8) else if thereP l (idX t) then (p, 0, 10) else if 48 < (madeP l (newC (idX t) 0 t.outs)).length then (p, 0, 11) else (madeP l (newC (idX t) 0 t.outs), n - worthX t, 0)
  else (p, 0, 1)
/-- transaction by transaction: the coins, what is left of V, or the first error -/
def runP : List CoinR → Int → List TxR → Except Nat (List CoinR × Int)
  | p, n, [] => .ok (p, n)
  | p, n, t :: l => match spendP p t with
    | (q, m, 0) => runP q (n + m) l
    | (_, _, e + 1) => .error (e + 1)
def loneX (l : List TxR) : Bool := match l with
  | [] => false
  | t :: _ => decide (t.ins = [])
def applyP (p : List CoinR) (l : List TxR) : List CoinR × Nat :=
  if mayP p = false then (p, 1) else if 4 < l.length then (p, 3) else
  match runP p 0 (if loneX l then l.tail else l) with
  | .error e => (p, e)
  | .ok (q, n) => match l with
    | [] => (q, 0)
    | t :: _ => if t.ins ≠ [] then (q, 0) else if mayX t = false then (p, 1) else if thereP q (idX t) then (p, 10) else if 50 + n < worthX t then (p, 8) else if 48 < (madeP q (newC (idX t) 0 t.outs)).length then (p, 11) else (madeP q (newC (idX t) 0 t.outs), 0)
theorem less_irr {x : List Int} (h : x.length = 32) : lessL x x = false := by
  rcases less_three 32 x x h h with ⟨a, b, _⟩ | ⟨a, b, _⟩ | ⟨a, _, _⟩
  · rw [a] at b; cases b
  · exact a
  · exact a
theorem bef_irr {a : InR} (h : isId a.tx) : beforeK a a = false := by
  unfold beforeK
  rw [less_irr h.1]
  simp
theorem bef_trans {a b c : InR} (ha : isId a.tx) (hb : isId b.tx) (hc : isId c.tx) (h1 : beforeK a b = true) (h2 : beforeK b c = true) : beforeK a c = true := by
  unfold beforeK at *
  simp only [Bool.or_eq_true, Bool.and_eq_true, decide_eq_true_eq] at *
  rcases h1 with h1 | ⟨e1, i1⟩
  · rcases h2 with h2 | ⟨e2, i2⟩
    · exact .inl (less_trans 32 _ _ _ ha.1 hb.1 hc.1 h1 h2)
    · exact .inl (by rw [← e2]; exact h1)
  · rcases h2 with h2 | ⟨e2, i2⟩
    · exact .inl (by rw [e1]; exact h2)
    · exact .inr ⟨e1.trans e2, by omega⟩
theorem bef_tri {a b : InR} (ha : isId a.tx) (hb : isId b.tx) (hn : beforeK a b = false) (hne : a ≠ b) : beforeK b a = true := by
  unfold beforeK at *
  simp only [Bool.or_eq_true, Bool.or_eq_false_iff, Bool.and_eq_true, Bool.and_eq_false_iff, decide_eq_true_eq, decide_eq_false_iff_not] at *
  obtain ⟨n1, n2⟩ := hn
  rcases less_three 32 a.tx b.tx ha.1 hb.1 with ⟨x, _, _⟩ | ⟨_, y, _⟩ | ⟨_, _, z⟩
  · rw [x] at n1; cases n1
  · exact .inl y
  · have e : a.tx = b.tx := of_decide_eq_true z
    have hi : a.i ≠ b.i := fun hi => hne (by cases a; cases b; simp only at e hi; rw [e, hi])
    rcases n2 with n2 | n2
    · exact absurd e n2
    · exact .inr ⟨e.symm, by omega⟩
theorem bef_ne {a b : InR} (ha : isId a.tx) (h : beforeK a b = true) : a ≠ b := fun e => by
  subst e
  rw [bef_irr ha] at h
  cases h
theorem withP_perm (p : List CoinR) (c : CoinR) : (withP p c).Perm (c :: p) := by
  induction p with
  | nil => exact List.Perm.refl _
  | cons d r ih =>
    unfold withP
    split
    · exact List.Perm.refl _
    · exact (List.Perm.cons d ih).trans (List.Perm.swap c d r)
theorem withP_up {p : List CoinR} {c : CoinR} (hp : idP p) (hc : isId c.tx) (hu : upP p) (hn : ∀ d ∈ p, keyC d ≠ keyC c) : upP (withP p c) := by
  induction p with
  | nil => exact List.pairwise_singleton _ _
  | cons d r ih =>
    have hd := hp d (List.mem_cons_self ..)
    have hr : idP r := fun x hx => hp x (List.mem_cons_of_mem _ hx)
    obtain ⟨h1, h2⟩ := List.pairwise_cons.1 hu
    unfold withP
    split
    · rename_i hb
      refine List.pairwise_cons.2 ⟨fun x hx => ?_, hu⟩
      rcases List.mem_cons.1 hx with rfl | hx
      · exact hb
      · exact bef_trans hc hd (hr x hx) hb (h1 x hx)
    · rename_i hb
      refine List.pairwise_cons.2 ⟨fun x hx => ?_, ih hr h2 (fun y hy => hn y (List.mem_cons_of_mem _ hy))⟩
      rcases List.mem_cons.1 ((withP_perm r c).mem_iff.1 hx) with rfl | hx
      · exact bef_tri hc hd (by simpa using hb) (fun e => hn d (List.mem_cons_self ..) e.symm)
      · exact h1 x hx
theorem madeP_perm : ∀ (cs p : List CoinR), (madeP p cs).Perm (cs ++ p)
  | [], p => List.Perm.refl _
  | c :: cs, p => by
    show (madeP (withP p c) cs).Perm _
    refine (madeP_perm cs (withP p c)).trans ?_
    refine (List.Perm.append_left cs (withP_perm p c)).trans ?_
    exact List.perm_middle
theorem madeP_up : ∀ (cs p : List CoinR), idP p → (∀ c ∈ cs, isId c.tx) → upP p → (∀ d ∈ p, ∀ c ∈ cs, keyC d ≠ keyC c) → cs.Pairwise (fun a b => keyC a ≠ keyC b) → upP (madeP p cs)
  | [], p, _, _, hu, _, _ => hu
  | c :: cs, p, hp, hc, hu, hn, hd => by
    obtain ⟨d1, d2⟩ := List.pairwise_cons.1 hd
    refine madeP_up cs (withP p c) (fun x hx => ?_) (fun x hx => hc x (List.mem_cons_of_mem _ hx)) (withP_up hp (hc c (List.mem_cons_self ..)) hu (fun d hd => hn d hd c (List.mem_cons_self ..))) (fun x hx y hy => ?_) d2
    · rcases List.mem_cons.1 ((withP_perm p c).mem_iff.1 hx) with rfl | hx
      · exact hc _ (List.mem_cons_self ..)
      · exact hp x hx
    · rcases List.mem_cons.1 ((withP_perm p c).mem_iff.1 hx) with rfl | hx
      · exact d1 y hy
      · exact hn x hx y (List.mem_cons_of_mem _ hy)
theorem sumV_perm {p q : List CoinR} (h : p.Perm q) : sumV p = sumV q := by
  unfold sumV
  induction h with
  | nil => rfl
  | cons x _ ih => simp only [List.map_cons, List.sum_cons, ih]
  | swap x y l => simp only [List.map_cons, List.sum_cons]; omega
  | trans _ _ h1 h2 => exact h1.trans h2
theorem sumV_app (p q : List CoinR) : sumV (p ++ q) = sumV p + sumV q := by
  unfold sumV
  rw [List.map_append, List.sum_append]
theorem sumV_cons (c : CoinR) (p : List CoinR) : sumV (c :: p) = c.v + sumV p := by unfold sumV; rw [List.map_cons, List.sum_cons]
theorem newC_mem {id : List Int} : ∀ {os : List OutR} {i : Int} {c : CoinR}, c ∈ newC id i os → c.tx = id ∧ i ≤ c.i ∧ c.i < i + os.length ∧ outK c ∈ os
  | [], i, c, h => by cases h
  | o :: os, i, c, h => by
    rcases List.mem_cons.1 h with rfl | h
    · exact ⟨rfl, Int.le_refl _, by simp only [List.length_cons]; omega, List.mem_cons_self ..⟩
    · obtain ⟨h1, h2, h3, h4⟩ := newC_mem h
      exact ⟨h1, by omega, by simp only [List.length_cons]; omega, List.mem_cons_of_mem _ h4⟩
theorem newC_len (id : List Int) : ∀ (os : List OutR) (i : Int), (newC id i os).length = os.length
  | [], _ => rfl
  | o :: os, i => by unfold newC; rw [List.length_cons, newC_len id os, List.length_cons]
theorem newC_ne (id : List Int) : ∀ (os : List OutR) (i : Int), (newC id i os).Pairwise (fun a b => keyC a ≠ keyC b)
  | [], _ => List.Pairwise.nil
  | o :: os, i => by
    refine List.pairwise_cons.2 ⟨fun x hx e => ?_, newC_ne id os (i + 1)⟩
    have h1 := (newC_mem hx).2.1
    have h2 : x.i = i := (congrArg InR.i e).symm
    omega
theorem newC_sum (id : List Int) : ∀ (os : List OutR) (i : Int), sumV (newC id i os) = (os.map (·.v)).sum
  | [], _ => rfl
  | o :: os, i => by unfold newC; rw [sumV_cons, newC_sum id os, List.map_cons, List.sum_cons]
theorem find_mem {l : List CoinR} {x : InR} {c : CoinR} (h : l.find? (fun c => decide (keyC c = x)) = some c) : c ∈ l ∧ keyC c = x := ⟨List.mem_of_find?_eq_some h, by have := List.find?_some h; simpa using this⟩
theorem erase_perm {l : List CoinR} {x : InR} {c : CoinR} (h : l.find? (fun c => decide (keyC c = x)) = some c) : l.Perm (c :: l.eraseP fun c => decide (keyC c = x)) := by
  induction l with
  | nil => cases h
  | cons d r ih =>
    by_cases e : keyC d = x
    · rw [List.find?_cons_of_pos (by simpa using e)] at h
      cases h
      rw [List.eraseP_cons_of_pos (by simpa using e)]
    · rw [List.find?_cons_of_neg (by simpa using e)] at h
      rw [List.eraseP_cons_of_neg (by simpa using e)]
      exact (List.Perm.cons d (ih h)).trans (List.Perm.swap c d _)
theorem take_some : ∀ (xs : List InR) (l : List CoinR) (r : List CoinR × Int), takeP l xs = some r → r.1.Sublist l ∧ sumV r.1 + r.2 = sumV l ∧ r.1.length + xs.length = l.length ∧ (∀ d ∈ l, keyC d ∉ xs → d ∈ r.1) ∧ ((∀ d ∈ l, 0 ≤ d.v) → 0 ≤ r.2)
  | [], l, r, h => by
    cases h
    exact ⟨List.Sublist.refl _, by simp, by simp, fun d hd _ => hd, fun _ => Int.le_refl _⟩
  | x :: xs, l, r, h => by
    unfold takeP at h
    cases hf : l.find? (fun c => decide (keyC c = x)) with
    | none => rw [hf] at h; cases h
    | some c =>
      rw [hf] at h
      simp only at h
      cases ht : takeP (l.eraseP fun c => decide (keyC c = x)) xs with
      | none => rw [ht] at h; cases h
      | some q =>
        rw [ht] at h
        cases h
        obtain ⟨h1, h2, h3, h4, h5⟩ := take_some xs _ _ ht
        have hp := erase_perm hf
        have hs := sumV_perm hp
        rw [sumV_cons] at hs
        have hl := hp.length_eq
        rw [List.length_cons] at hl
        refine ⟨h1.trans List.eraseP_sublist, by simp only; omega, by rw [List.length_cons]; simp only; omega, fun d hd hn => ?_, fun hv => ?_⟩
        · rcases List.mem_cons.1 (hp.mem_iff.1 hd) with rfl | hd
          · exact absurd (by rw [(find_mem hf).2]; exact List.mem_cons_self ..) hn
          · exact h4 d hd (fun h => hn (List.mem_cons_of_mem _ h))
        · have a := hv c (find_mem hf).1
          have b := h5 (fun d hd => hv d (List.eraseP_sublist.subset hd))
          simp only
          omega
theorem up_ne {p : List CoinR} (hp : idP p) (h : upP p) : p.Pairwise (fun a b => keyC a ≠ keyC b) := by
  induction p with
  | nil => exact List.Pairwise.nil
  | cons d r ih =>
    obtain ⟨h1, h2⟩ := List.pairwise_cons.1 h
    exact List.pairwise_cons.2 ⟨fun x hx => bef_ne (hp d (List.mem_cons_self ..)) (h1 x hx), ih (fun y hy => hp y (List.mem_cons_of_mem _ hy)) h2⟩
end Go.Proofs.YtabhhbdbkeeblaaDoor
