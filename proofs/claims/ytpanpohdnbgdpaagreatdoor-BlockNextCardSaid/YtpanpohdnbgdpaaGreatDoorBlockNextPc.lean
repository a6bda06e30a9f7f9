/- Part of a proof. -/
import Derived.Test.YtpanpohdnbgdpaaGreatDoorBlockNextPb
import Derived.Deep.Strs
import Derived.WalkKit
import Derived.ProofKit
import Derived.Handy
import Derived.Lib.SlBytesConst
import Derived.Deep.MidRow
import Derived.Laws.CopyOwn
import Derived.Laws.MakeOwn
import Derived.Deep.WholeRow
import Derived.Deep.Cut
import Derived.Deep.QuietTactic
import Derived.BigQuiet
import Derived.StillTailTactics
import Derived.Lib.Hide
import Derived.ChangeKeysEq
import Derived.Deep.RegionHeld3
import Derived.Deep.DrawnRows
import Derived.Deep.RegionLaw
import Derived.Deep.DeepCutAuto
import Derived.BigRegion
import Derived.RegionTactic
import Derived.Scope
import Derived.ScopeJumps
import Derived.WalkMore
namespace Go.Proofs.YtpanpohdnbgdpaaGreatDoor
set_option maxRecDepth 20000
set_option maxHeartbeats 8000000
open Go.RowKit
def inC (x : InR) : List Value := (arrB 32 x.tx).toList ++ [.int .i64 x.i]
def inA (x : InR) : Array Value := (inC x).toArray
def inV (x : InR) : Value := .agg (inA x)
def lenI (x : InR) : Prop := x.tx.length = 32
def noIn : InR := ⟨[], 0⟩
theorem okIn.len {x : InR} (h : okIn x) : lenI x := h.1.1
theorem inC_len {x : InR} (h : lenI x) : (inC x).length = 33 := by
 unfold inC
 rw [lA, idA_list h]
 rfl
theorem inA_size {x : InR} (h : lenI x) : (inA x).size = 33 := by unfold inA; rw [List.size_toArray, inC_len h]
theorem inC_one (x : InR) : ∀ u ∈ inC x, u.oneCell' = true := by
 intro u hu
 unfold inC at hu
 rcases List.mem_append.1 hu with h | h
 · exact cell_of_all (arrB_one 32 _) u h
 · cases mS.1 h
   rfl
theorem inA_one (x : InR) : (inA x).all (·.oneCell') = true := by
 rw [Array.all_eq_true]
 intro i hi
 exact inC_one x _ (show (inA x)[i] ∈ (inA x).toList from Array.mem_toList_iff.2 (Array.getElem_mem hi))
theorem aggIn : AggT 100 33 := ⟨fun w => by simp [isAgg, run_underlying Tryz.underlying100], by kernel_rfl⟩
theorem elIn : ElemT 92 100 33 40 (inV noIn) := ⟨Tryz.underlying92, by kernel_rfl, by decide +kernel, by decide, by decide, by decide⟩
theorem infoIn (cs : Array Value) (h : cs.size = 33) : (Tryz.prog.info? 100).map (·.size) = some cs.size := by rw [h]; exact aggIn.size
theorem inC_tx {x : InR} (h : lenI x) : ((inA x).toList.drop 0).take 32 = (arrB 32 x.tx).toList := by
 unfold inA inC
 rw [List.drop_zero, List.take_left' (idA_list h)]
theorem inC_i {x : InR} (h : lenI x) : (inC x)[32]? = some (.int .i64 x.i) := by
 unfold inC
 rw [List.getElem?_append_right (by rw [idA_list h]; omega), idA_list h]
 rfl
def outC (o : OutR) : List Value := [.int .i64 o.v, .int .i64 o.tw]
def outA (o : OutR) : Array Value := (outC o).toArray
def outV (o : OutR) : Value := .agg (outA o)
def noOut : OutR := ⟨0, 0⟩
theorem outA_size (o : OutR) : (outA o).size = 2 := rfl
theorem outC_one (o : OutR) : ∀ u ∈ outC o, u.oneCell' = true := by
 intro u hu
 unfold outC at hu
 simp only [List.mem_cons, List.not_mem_nil, or_false] at hu
 rcases hu with rfl | rfl <;> rfl
theorem outA_one (o : OutR) : (outA o).all (·.oneCell') = true := by
 rw [Array.all_eq_true]
 intro i hi
 exact outC_one o _ (show (outA o)[i] ∈ (outA o).toList from Array.mem_toList_iff.2 (Array.getElem_mem hi))
theorem aggOut : AggT 102 2 := ⟨fun w => by simp [isAgg, run_underlying Tryz.underlying102], by kernel_rfl⟩
theorem elOut : ElemT 93 102 2 16 (outV noOut) := ⟨Tryz.underlying93, by kernel_rfl, by decide +kernel, by decide, by decide, by decide⟩
theorem infoOut (cs : Array Value) (h : cs.size = 2) : (Tryz.prog.info? 102).map (·.size) = some cs.size := by rw [h]; exact aggOut.size
section
variable {w0 u : World} {M : Boxes} {g : Nat} {ty : TypeId} {x : InR} {o : OutR}
theorem box_in (hu : EnvC w0 M u) (hm : (g, oc (inA x) ty) ∈ M) (h : lenI x) : (loadVar 100 ⟨g, 0, none⟩).run Tryz.prog u = .ok (inV x) u := by
 have := box_agg aggIn (k := 0) hu hm (inC x) (inC_len h) (by unfold inA; rw [List.drop_zero, tL (by rw [inC_len h]; omega)])
 exact this
instance : Cell Tryz.prog (inA x) 100 0 (inV x) (lenI x) := ⟨fun hu hm k => box_in hu hm k⟩
theorem box_in_tx (hu : EnvC w0 M u) (hm : (g, oc (inA x) ty) ∈ M) (h : lenI x) : (loadVar 23 ⟨g, 0, none⟩).run Tryz.prog u = .ok (idv x.tx) u := by
 have := box_agg aggIdT (k := 0) hu hm _ (idA_list h) (inC_tx h)
 rwa [agg_list] at this
instance : Cell Tryz.prog (inA x) 23 0 (idv x.tx) (lenI x) := ⟨fun hu hm k => box_in_tx hu hm k⟩
theorem box_in_i (hu : EnvC w0 M u) (hm : (g, oc (inA x) ty) ∈ M) (h : lenI x) : (loadVar 3 ⟨g, 32, none⟩).run Tryz.prog u = .ok (.int .i64 x.i) u :=
 run_load_one oneInt u (box_cell hu hm (by unfold inA; rw [List.getElem?_toArray]; exact inC_i h))
instance : Cell Tryz.prog (inA x) 3 32 (.int .i64 x.i) (lenI x) := ⟨fun hu hm k => box_in_i hu hm k⟩
theorem src_in_tx {x : InR} (h : lenI x) : ((inA x).toList.drop 0).take (x.tx.map u8v).length = x.tx.map u8v := by
 have := inC_tx h
 rw [arrId_map h] at this
 rwa [lM, h]
theorem box_out (hu : EnvC w0 M u) (hm : (g, oc (outA o) ty) ∈ M) : (loadVar 102 ⟨g, 0, none⟩).run Tryz.prog u = .ok (outV o) u := by
 have := box_agg aggOut (k := 0) hu hm (outC o) rfl rfl
 exact this
instance : Cell Tryz.prog (outA o) 102 0 (outV o) (True) := ⟨fun hu hm k => box_out hu hm⟩
theorem box_out_v (hu : EnvC w0 M u) (hm : (g, oc (outA o) ty) ∈ M) : (loadVar 3 ⟨g, 0, none⟩).run Tryz.prog u = .ok (.int .i64 o.v) u :=
 run_load_one oneInt u (box_cell hu hm rfl)
instance : Cell Tryz.prog (outA o) 3 0 (.int .i64 o.v) (True) := ⟨fun hu hm k => box_out_v hu hm⟩
theorem box_out_to (hu : EnvC w0 M u) (hm : (g, oc (outA o) ty) ∈ M) : (loadVar 3 ⟨g, 1, none⟩).run Tryz.prog u = .ok (.int .i64 o.tw) u :=
 run_load_one oneInt u (box_cell hu hm rfl)
instance : Cell Tryz.prog (outA o) 3 1 (.int .i64 o.tw) (True) := ⟨fun hu hm k => box_out_to hu hm⟩
end
theorem built_in {tx : List Int} {i : Int} (h : tx.length = 32) : Tryz.prog.built 100 [(0, idv tx), (1, .int .i64 i)] = some (inA ⟨tx, i⟩) := by
 have hs : (arrB 32 tx).size = 32 := arrB_size _ _ (by omega)
 have e : cellsOfP [(0, idv tx), (1, .int .i64 i)] = inC ⟨tx, i⟩ := by simp [cellsOfP, inC, idv, Value.cells]
 have := built_struct (t := 100) (n := 33) Tryz.underlying100 (by kernel_rfl) (places := [(0, 32), (32, 1)]) (by kernel_rfl) (ps := [(0, idv tx), (1, .int .i64 i)]) (by
  refine ⟨?_, ?_, trivial⟩
  · show some (0, 32) = some (0, (arrB 32 tx).size)
    rw [hs]
  · show some (32, 1) = some (0 + (arrB 32 tx).size, 1)
    rw [hs]) (by rw [e, inC_len (x := ⟨tx, i⟩) h])
 rw [this, e]
 rfl
def InsIn (w : World) (B : Nat) (A : Option Addr) (l : List InR) : Prop := CellsIn w B A (l.map inC).flatten
def OutsIn (w : World) (B : Nat) (A : Option Addr) (l : List OutR) : Prop := CellsIn w B A (l.map outC).flatten
def okIns (l : List InR) : Prop := ∀ x ∈ l, okIn x
def okOuts (l : List OutR) : Prop := ∀ x ∈ l, okOut x
theorem rowsIn {l : List InR} (h : okIns l) : isRows 33 (l.map inC) := fun x hx => by
 obtain ⟨t, ht, rfl⟩ := List.mem_map.1 hx
 exact inC_len (h t ht).len
theorem rowsOut (l : List OutR) : isRows 2 (l.map outC) := fun x hx => by
 obtain ⟨t, ht, rfl⟩ := List.mem_map.1 hx
 rfl
theorem okIns.get {l : List InR} (h : okIns l) {i : Nat} (hi : i < l.length) : okIn (l.getD i noIn) := by
 rw [gD, gE hi]
 exact h _ (List.getElem_mem hi)
theorem okOuts.get {l : List OutR} (h : okOuts l) {i : Nat} (hi : i < l.length) : okOut (l.getD i noOut) := by
 rw [gD, gE hi]
 exact h _ (List.getElem_mem hi)
theorem okIns.take {l : List InR} (h : okIns l) (k : Nat) : okIns (l.take k) := fun x hx => h x (List.mem_of_mem_take hx)
theorem row_cells {α : Type} {C : α → List Value} {z : Nat} {w : World} {B : Nat} {A : Option Addr} {l : List α} {d : α} (h : CellsIn w B A (l.map C).flatten) (hR : isRows z (l.map C)) (z0 : 0 < z) {i : Nat} (hi : i < l.length) :
  ∃ ad, A = some ad ∧ ad.block < B ∧ ∀ j v, (C (l.getD i d))[j]? = some v → w.cell? ((ad.add (i * z)).add j) = some v := by
 have hfl := hR.flat_len
 rw [lM] at hfl
 have hp : 0 < l.length * z := Nat.mul_pos (by omega) z0
 obtain ⟨ad, e, hb, hc⟩ := h (by rw [hfl]; exact hp)
 have hg : (l.map C).getD i [] = C (l.getD i d) := by
  rw [gD, List.getElem?_map, gE hi, gD, gE hi]
  rfl
 refine ⟨ad, e, hb, fun j v hv => ?_⟩
 rw [add_addN]
 refine hc (i * z + j) v ?_
 have hj : j < z := by
  rcases Nat.lt_or_ge j z with h' | h'
  · exact h'
  · have := hR.get (i := i) (by rw [lM]; exact hi)
    rw [hg] at this
    rw [gN (by rw [this]; exact h')] at hv
    cases hv
 rw [hR.flat_get i j (by rw [lM]; exact hi) hj, hg]
 exact hv
theorem InsIn.loads {w : World} {A : Option Addr} {l : List InR} (h : InsIn w w.heap.size A l) (hl : okIns l) {k : Nat} (hk : k < l.length) : ∃ ad, A = some ad ∧ ad.block < w.heap.size ∧ ∀ u, EnvX w u [] →
   (loadVar 100 (ad.add (k * 33))).run Tryz.prog u = .ok (inV (l.getD k noIn)) u ∧
   (loadVar 23 (ad.add (k * 33))).run Tryz.prog u = .ok (idv (l.getD k noIn).tx) u ∧
   (loadVar 3 ((ad.add (k * 33)).add 32)).run Tryz.prog u = .ok (.int .i64 (l.getD k noIn).i) u ∧
   SrcAt u (ad.add (k * 33)) ((l.getD k noIn).tx.map u8v) := by
 obtain ⟨ad, e, hb, hc⟩ := row_cells (d := noIn) h (rowsIn hl) (by decide) hk
 refine ⟨ad, e, hb, fun u hu => ?_⟩
 have h32 := (hl.get hk).len
 have hcu : ∀ j v, (inC (l.getD k noIn))[j]? = some v → u.cell? ((ad.add (k * 33)).add j) = some v := fun j v hv => by
   rw [← hc j v hv]
   exact (EnvX.bel hu).cell (by rw [block_of_add, block_of_add]; exact hb)
 generalize l.getD k noIn = t at *
 refine ⟨run_loadAgg aggIn (inC t) (inC_len h32) hcu, ?_, run_load_one oneInt u (hcu 32 _ (inC_i h32)), ?_⟩
 · have := run_loadAgg aggIdT (w := u) (ad := ad.add (k * 33)) _ (idA_list h32) (fun j v hv => hcu j v (by
    unfold inC
    rw [List.getElem?_append_left (by
      rcases Nat.lt_or_ge j (arrB 32 t.tx).toList.length with h' | h'
      · exact h'
      · rw [gN h'] at hv; cases hv)]
    exact hv))
   rwa [agg_list] at this
 · intro j c hcj
   refine hcu j c ?_
   have hj : j < (arrB 32 t.tx).toList.length := by
    rw [arrId_map h32]
    rcases Nat.lt_or_ge j (t.tx.map u8v).length with h' | h'
    · exact h'
    · rw [gN h'] at hcj; cases hcj
   unfold inC
   rw [List.getElem?_append_left hj, arrId_map h32]
   exact hcj
theorem OutsIn.loads {w : World} {A : Option Addr} {l : List OutR} (h : OutsIn w w.heap.size A l) {k : Nat} (hk : k < l.length) : ∃ ad, A = some ad ∧ ad.block < w.heap.size ∧ ∀ u, EnvX w u [] →
  (loadVar 102 (ad.add (k * 2))).run Tryz.prog u = .ok (outV (l.getD k noOut)) u ∧
  (loadVar 3 (ad.add (k * 2))).run Tryz.prog u = .ok (.int .i64 (l.getD k noOut).v) u ∧
  (loadVar 3 ((ad.add (k * 2)).add 1)).run Tryz.prog u = .ok (.int .i64 (l.getD k noOut).tw) u := by
 obtain ⟨ad, e, hb, hc⟩ := row_cells (d := noOut) h (rowsOut l) (by decide) hk
 refine ⟨ad, e, hb, fun u hu => ?_⟩
 have hcu : ∀ j v, (outC (l.getD k noOut))[j]? = some v → u.cell? ((ad.add (k * 2)).add j) = some v := fun j v hv => by
  rw [← hc j v hv]
  exact (EnvX.bel hu).cell (by rw [block_of_add, block_of_add]; exact hb)
 generalize l.getD k noOut = t at *
 have hadd0 : ∀ a : Addr, a.add 0 = a := fun a => by unfold Addr.add; rfl
 refine ⟨run_loadAgg aggOut (outC t) rfl hcu, run_load_one oneInt u (by have := hcu 0 _ rfl; rwa [hadd0] at this), run_load_one oneInt u (hcu 1 _ rfl)⟩
theorem fieldsIn : (Tryz.prog.fieldsOf 100).toList.map (fun f => (f.name == "_", f.type, f.offset)) = [(false, 23, 0), (false, 3, 32)] := by kernel_rfl
theorem fieldsOut : (Tryz.prog.fieldsOf 102).toList.map (fun f => (f.name == "_", f.type, f.offset)) = [(false, 3, 0), (false, 3, 1)] := by kernel_rfl
def eqI (a b : InR) : Bool := decide (a = b)
def eqO (a b : OutR) : Bool := decide (a = b)
theorem run_equal_in (a b : InR) (ha : lenI a) (hb : lenI b) (w : World) : (Op.equal 100 (inV a) (inV b)).run Tryz.prog w = .ok (eqI a b) w := by
 unfold Op.equal inV
 have h := run_equalIn_struct (P := Tryz.prog) w 9999 100 (inA a) (inA b) (by kernel_rfl) (by kernel_rfl)
 refine Eq.trans h ?_
 have hf := fieldsIn
 generalize (Tryz.prog.fieldsOf 100).toList = fs at hf ⊢
 have hl : fs.length = 2 := by simpa using congrArg List.length hf
 obtain ⟨f1, f2, rfl⟩ : ∃ f1 f2, fs = [f1, f2] := by
  match fs, hl with
  | [a, b], _ => exact ⟨a, b, rfl⟩
 simp only [List.map_cons, List.map_nil, List.cons.injEq, Prod.mk.injEq, beq_eq_false_iff_ne, and_true] at hf
 obtain ⟨⟨n1, t1, o1⟩, n2, t2, o2⟩ := hf
 have pT : ∀ t : InR, lenI t → (part 23 (inA t) 0).run Tryz.prog w = .ok (.agg (arrB 32 t.tx)) w := fun t ht => run_part_agg aggIdT (by have := ext_list (inC_tx ht); rwa [Array.toArray_toList] at this) w
 have pI : ∀ t : InR, lenI t → (part 3 (inA t) 32).run Tryz.prog w = .ok (.int .i64 t.i) w := fun t ht => run_part_plain (P := Tryz.prog) w (by kernel_rfl) (by unfold inA; rw [List.getElem?_toArray]; exact inC_i ht)
 have e1 := run_equalIn_id 9997 a.tx b.tx ha hb w
 have e2 := run_equalIn_int (P := Tryz.prog) w 9998 3 .i64 .i64 a.i b.i Tryz.underlying3
 have hd : eqI a b = (eqL a.tx b.tx && (a.i == b.i)) := by
  unfold eqI eqL
  rw [Bool.eq_iff_iff]
  simp only [decide_eq_true_eq, Bool.and_eq_true, beq_iff_eq]
  exact ⟨fun h => by subst h; exact ⟨rfl, rfl⟩, fun h => by cases a; cases b; simp only at h; rw [h.1, h.2]⟩
 rw [hd]
 rw [eqFields_step (a := .agg (arrB 32 a.tx)) (b := .agg (arrB 32 b.tx)) n1 (by rw [t1, o1]; exact pT a ha) (by rw [t1, o1]; exact pT b hb) (by rw [t1]; exact e1)]
 cases eqL a.tx b.tx with
 | false => rfl
 | true =>
  rw [if_pos rfl, eqFields_step (a := .int .i64 a.i) (b := .int .i64 b.i) n2 (by rw [t2, o2]; exact pI a ha) (by rw [t2, o2]; exact pI b hb) (by rw [t2]; exact e2)]
  cases hab : (a.i == b.i) with
  | false => rfl
  | true => rfl
theorem run_equal_out (a b : OutR) (w : World) : (Op.equal 102 (outV a) (outV b)).run Tryz.prog w = .ok (eqO a b) w := by
 unfold Op.equal outV
 have h := run_equalIn_struct (P := Tryz.prog) w 9999 102 (outA a) (outA b) (by kernel_rfl) (by kernel_rfl)
 refine Eq.trans h ?_
 have hf := fieldsOut
 generalize (Tryz.prog.fieldsOf 102).toList = fs at hf ⊢
 have hl : fs.length = 2 := by simpa using congrArg List.length hf
 obtain ⟨f1, f2, rfl⟩ : ∃ f1 f2, fs = [f1, f2] := by
  match fs, hl with
  | [a, b], _ => exact ⟨a, b, rfl⟩
 simp only [List.map_cons, List.map_nil, List.cons.injEq, Prod.mk.injEq, beq_eq_false_iff_ne, and_true] at hf
 obtain ⟨⟨n1, t1, o1⟩, n2, t2, o2⟩ := hf
 have pV : ∀ t : OutR, (part 3 (outA t) 0).run Tryz.prog w = .ok (.int .i64 t.v) w := fun t => run_part_plain (P := Tryz.prog) w (by kernel_rfl) rfl
 have pT : ∀ t : OutR, (part 3 (outA t) 1).run Tryz.prog w = .ok (.int .i64 t.tw) w := fun t => run_part_plain (P := Tryz.prog) w (by kernel_rfl) rfl
 have e1 := run_equalIn_int (P := Tryz.prog) w 9998 3 .i64 .i64 a.v b.v Tryz.underlying3
 have e2 := run_equalIn_int (P := Tryz.prog) w 9998 3 .i64 .i64 a.tw b.tw Tryz.underlying3
 have hd : eqO a b = ((a.v == b.v) && (a.tw == b.tw)) := by
  unfold eqO
  rw [Bool.eq_iff_iff]
  simp only [decide_eq_true_eq, Bool.and_eq_true, beq_iff_eq]
  exact ⟨fun h => by subst h; exact ⟨rfl, rfl⟩, fun h => by cases a; cases b; simp only at h; rw [h.1, h.2]⟩
 rw [hd]
 rw [eqFields_step (a := .int .i64 a.v) (b := .int .i64 b.v) n1 (by rw [t1, o1]; exact pV a) (by rw [t1, o1]; exact pV b) (by rw [t1]; exact e1)]
 cases (a.v == b.v) with
 | false => rfl
 | true =>
  rw [if_pos rfl, eqFields_step (a := .int .i64 a.tw) (b := .int .i64 b.tw) n2 (by rw [t2, o2]; exact pT a) (by rw [t2, o2]; exact pT b) (by rw [t2]; exact e2)]
  cases hab : (a.tw == b.tw) with
  | false => rfl
  | true => rfl
theorem zero_inA : (#[Value.int .u8 0, Value.int .u8 0, Value.int .u8 0, Value.int .u8 0, Value.int .u8 0, Value.int .u8 0, Value.int .u8 0, Value.int .u8 0, Value.int .u8 0, Value.int .u8 0, Value.int .u8 0, Value.int .u8 0, Value.int .u8 0, Value.int .u8 0, Value.int .u8 0, Value.int .u8 0, Value.int .u8 0, Value.int .u8 0, Value.int .u8 0, Value.int .u8 0, Value.int .u8 0, Value.int .u8 0, Value.int .u8 0, Value.int .u8 0, Value.int .u8 0, Value.int .u8 0, Value.int .u8 0, Value.int .u8 0, Value.int .u8 0, Value.int .u8 0, Value.int .u8 0, Value.int .u8 0, Value.int .i64 0] : Array Value) = inA noIn := rfl
theorem zero_outA : (#[Value.int .i64 0, Value.int .i64 0] : Array Value) = outA noOut := rfl
theorem guardIn : Tryz.prog.eqGuardType Tryz.prog.depth 100 = false := by kernel_rfl
theorem guardOut : Tryz.prog.eqGuardType Tryz.prog.depth 102 = false := by kernel_rfl
section
variable {a : Act} {dst : Option Tmp} {x y : Operand} {ty : TypeId} {pos : String} {after : Array Edge} {gd : Option (Nat × Bool)}
theorem eqlIn_op {s t : InR} {b : Bool} (hs : lenI s) (ht : lenI t) (hb : eqI s t = b) (u : World) (hx : a.eval x = inV s) (hy : a.eval y = inV t) :
  (execOp a.eval ⟨dst, .binOp .eql 100 x y 100, ty, pos, after, gd⟩).run Tryz.prog u = .ok (.value (.bool b)) u := by
 have h0 := run_equal_in s t hs ht u
 have h : (binOp .eql 100 (inV s) (inV t)).run Tryz.prog u = .ok (.bool (eqI s t)) u := by
  unfold inV at *
  simp only [binOp]
  simp [h0]
 have hg := run_eqGuard_agg (P := Tryz.prog) u .eql 100 x y (inA s) (inA t) guardIn
 rw [← hb]
 unfold inV at *
 unfold execOp
 simp only [hx, hy, Sem.run_bind, hg, Result.andThen_ok, h, Sem.run_pure]
theorem neqIn_op {s t : InR} {b : Bool} (hs : lenI s) (ht : lenI t) (hb : (!eqI s t) = b) (u : World) (hx : a.eval x = inV s) (hy : a.eval y = inV t) :
  (execOp a.eval ⟨dst, .binOp .neq 100 x y 100, ty, pos, after, gd⟩).run Tryz.prog u = .ok (.value (.bool b)) u := by
 have h0 := run_equal_in s t hs ht u
 have h : (binOp .neq 100 (inV s) (inV t)).run Tryz.prog u = .ok (.bool (!eqI s t)) u := by
  unfold inV at *
  simp only [binOp]
  simp [h0]
 have hg := run_eqGuard_agg (P := Tryz.prog) u .neq 100 x y (inA s) (inA t) guardIn
 rw [← hb]
 unfold inV at *
 unfold execOp
 simp only [hx, hy, Sem.run_bind, hg, Result.andThen_ok, h, Sem.run_pure]
theorem neqOut_op {s t : OutR} {b : Bool} (hb : (!eqO s t) = b) (u : World) (hx : a.eval x = outV s) (hy : a.eval y = outV t) :
  (execOp a.eval ⟨dst, .binOp .neq 102 x y 102, ty, pos, after, gd⟩).run Tryz.prog u = .ok (.value (.bool b)) u := by
 have h0 := run_equal_out s t u
 have h : (binOp .neq 102 (outV s) (outV t)).run Tryz.prog u = .ok (.bool (!eqO s t)) u := by
  unfold outV at *
  simp only [binOp]
  simp [h0]
 have hg := run_eqGuard_agg (P := Tryz.prog) u .neq 102 x y (outA s) (outA t) guardOut
 rw [← hb]
 unfold outV at *
 unfold execOp
 simp only [hx, hy, Sem.run_bind, hg, Result.andThen_ok, h, Sem.run_pure]
theorem fieldOut_op {k off : Nat} (hk : ([(0, 0), (1, 1)] : List (Nat × Nat)).lookup k = some off) {ad : Addr} (u : World) (hx : a.eval x = .pointer (some ad)) :
  (execOp a.eval ⟨dst, .fieldAddr 102 x k, ty, pos, after, gd⟩).run Tryz.prog u = .ok (.value (.pointer (some (ad.add off)))) u := by
 unfold execOp
 simp only [hx]
 rcases k with _ | _ | k
 all_goals first | (cases hk; go_simp) | cases hk
instance : FldT Tryz.prog 102 [(0, 0), (1, 1)] := ⟨fun h u k => fieldOut_op h u k⟩
theorem fieldIn_op {k off : Nat} (hk : ([(0, 0), (1, 32)] : List (Nat × Nat)).lookup k = some off) {ad : Addr} (u : World) (hx : a.eval x = .pointer (some ad)) :
  (execOp a.eval ⟨dst, .fieldAddr 100 x k, ty, pos, after, gd⟩).run Tryz.prog u = .ok (.value (.pointer (some (ad.add off)))) u := by
 unfold execOp
 simp only [hx]
 rcases k with _ | _ | k
 all_goals first | (cases hk; go_simp) | cases hk
instance : FldT Tryz.prog 100 [(0, 0), (1, 32)] := ⟨fun h u k => fieldIn_op h u k⟩
theorem fieldTx_op {k off : Nat} (hk : ([(0, 0), (1, 1)] : List (Nat × Nat)).lookup k = some off) {ad : Addr} (u : World) (hx : a.eval x = .pointer (some ad)) :
  (execOp a.eval ⟨dst, .fieldAddr 95 x k, ty, pos, after, gd⟩).run Tryz.prog u = .ok (.value (.pointer (some (ad.add off)))) u := by
 unfold execOp
 simp only [hx]
 rcases k with _ | _ | k
 all_goals first | (cases hk; go_simp) | cases hk
instance : FldT Tryz.prog 95 [(0, 0), (1, 1)] := ⟨fun h u k => fieldTx_op h u k⟩
theorem new_in (a : Act) : NewAt Tryz.prog ⟨dst, .alloc 100, ty, pos, after, gd⟩ a (.cells (inA noIn) 100 (0, 0)) := fun u => by
 rw [← zero_inA]
 go_simp
theorem new_out (a : Act) : NewAt Tryz.prog ⟨dst, .alloc 102, ty, pos, after, gd⟩ a (.cells (outA noOut) 102 (0, 0)) := fun u => by
 rw [← zero_outA]
 go_simp
end
structure TxM where
  r : TxR
  A1 : Option Addr
  n1 : Nat
  c1 : Nat
  A2 : Option Addr
  n2 : Nat
  c2 : Nat
def txC (t : TxM) : List Value := [.slice t.A1 t.n1 t.c1, .slice t.A2 t.n2 t.c2]
def txA (t : TxM) : Array Value := (txC t).toArray
def txV (t : TxM) : Value := .agg (txA t)
def noTxM : TxM := ⟨noTx, none, 0, 0, none, 0, 0⟩
structure TxOk (w : World) (t : TxM) : Prop where
  l1 : t.r.ins.length = t.n1
  b1 : t.n1 ≤ t.c1 ∧ t.c1 ≤ maxLen
  o1 : okIns t.r.ins
  m1 : InsIn w w.heap.size t.A1 t.r.ins
  l2 : t.r.outs.length = t.n2
  b2 : t.n2 ≤ t.c2 ∧ t.c2 ≤ maxLen
  o2 : okOuts t.r.outs
  m2 : OutsIn w w.heap.size t.A2 t.r.outs
theorem TxOk.up {w w' : World} {t : TxM} (h : TxOk w t) (hb : Below w.heap.size w w') : TxOk w' t := ⟨h.l1, h.b1, h.o1, h.m1.up hb, h.l2, h.b2, h.o2, h.m2.up hb⟩
theorem TxOk.ok {w : World} {t : TxM} (h : TxOk w t) : okX t.r := ⟨h.o1, h.o2⟩
theorem TxOk.n63 {w : World} {t : TxM} (h : TxOk w t) : t.n1 < 9223372036854775808 ∧ t.n2 < 9223372036854775808 := by
 have h1 := h.b1
 have h2 := h.b2
 unfold maxLen at h1 h2
 omega
theorem txA_size (t : TxM) : (txA t).size = 2 := rfl
theorem txC_one (t : TxM) : ∀ u ∈ txC t, u.oneCell' = true := by
 intro u hu
 unfold txC at hu
 simp only [List.mem_cons, List.not_mem_nil, or_false] at hu
 rcases hu with rfl | rfl <;> rfl
theorem txA_one (t : TxM) : (txA t).all (·.oneCell') = true := by
 rw [Array.all_eq_true]
 intro i hi
 exact txC_one t _ (show (txA t)[i] ∈ (txA t).toList from Array.mem_toList_iff.2 (Array.getElem_mem hi))
theorem aggTx : AggT 95 2 := ⟨fun w => by simp [isAgg, run_underlying Tryz.underlying95], by kernel_rfl⟩
theorem elTx : ElemT 31 95 2 48 (txV noTxM) := ⟨Tryz.underlying31, by kernel_rfl, by decide +kernel, by decide, by decide, by decide⟩
theorem infoTx (cs : Array Value) (h : cs.size = 2) : (Tryz.prog.info? 95).map (·.size) = some cs.size := by rw [h]; exact aggTx.size
theorem oneIns : ∀ w, (isAgg 92).run Tryz.prog w = .ok false w := fun w => by simp [isAgg, run_underlying Tryz.underlying92]
theorem oneOuts : ∀ w, (isAgg 93).run Tryz.prog w = .ok false w := fun w => by simp [isAgg, run_underlying Tryz.underlying93]
section
variable {w0 u : World} {M : Boxes} {g : Nat} {ty : TypeId} {t : TxM}
theorem box_tx (hu : EnvC w0 M u) (hm : (g, oc (txA t) ty) ∈ M) : (loadVar 95 ⟨g, 0, none⟩).run Tryz.prog u = .ok (txV t) u := by
 have := box_agg aggTx (k := 0) hu hm (txC t) rfl rfl
 exact this
instance : Cell Tryz.prog (txA t) 95 0 (txV t) (True) := ⟨fun hu hm k => box_tx hu hm⟩
theorem box_tx_ins (hu : EnvC w0 M u) (hm : (g, oc (txA t) ty) ∈ M) : (loadVar 92 ⟨g, 0, none⟩).run Tryz.prog u = .ok (.slice t.A1 t.n1 t.c1) u :=
 run_load_one oneIns u (box_cell hu hm rfl)
instance : Cell Tryz.prog (txA t) 92 0 (.slice t.A1 t.n1 t.c1) (True) := ⟨fun hu hm k => box_tx_ins hu hm⟩
theorem box_tx_outs (hu : EnvC w0 M u) (hm : (g, oc (txA t) ty) ∈ M) : (loadVar 93 ⟨g, 1, none⟩).run Tryz.prog u = .ok (.slice t.A2 t.n2 t.c2) u :=
 run_load_one oneOuts u (box_cell hu hm rfl)
instance : Cell Tryz.prog (txA t) 93 1 (.slice t.A2 t.n2 t.c2) (True) := ⟨fun hu hm k => box_tx_outs hu hm⟩
end
section
variable {dst : Option Tmp} {ty : TypeId} {pos : String} {after : Array Edge} {gd : Option (Nat × Bool)}
theorem new_tx (a : Act) : NewAt Tryz.prog ⟨dst, .alloc 95, ty, pos, after, gd⟩ a (.cells (txA noTxM) 95 (0, 0)) := fun u => by
 have e : (#[Value.slice none 0 0, Value.slice none 0 0] : Array Value) = txA noTxM := rfl
 rw [← e]
 go_simp
end
structure TxsIn (w : World) (A : Option Addr) (l : List TxM) : Prop where
  cells : CellsIn w w.heap.size A (l.map txC).flatten
  each : ∀ t ∈ l, TxOk w t
theorem TxsIn.up {w w' : World} {A : Option Addr} {l : List TxM} (h : TxsIn w A l) (hb : Below w.heap.size w w') : TxsIn w' A l := ⟨h.cells.up hb, fun t ht => (h.each t ht).up hb⟩
theorem TxsIn.get {w : World} {A : Option Addr} {l : List TxM} (h : TxsIn w A l) {i : Nat} (hi : i < l.length) : TxOk w (l.getD i noTxM) := by
 rw [gD, gE hi]
 exact h.each _ (List.getElem_mem hi)
theorem rowsTx (l : List TxM) : isRows 2 (l.map txC) := fun x hx => by
 obtain ⟨t, ht, rfl⟩ := List.mem_map.1 hx
 rfl
theorem TxsIn.loads {w : World} {A : Option Addr} {l : List TxM} (h : TxsIn w A l) {k : Nat} (hk : k < l.length) : ∃ ad, A = some ad ∧ ad.block < w.heap.size ∧ ∀ u, EnvX w u [] →
  (loadVar 95 (ad.add (k * 2))).run Tryz.prog u = .ok (txV (l.getD k noTxM)) u ∧
  (loadVar 92 (ad.add (k * 2))).run Tryz.prog u = .ok (.slice (l.getD k noTxM).A1 (l.getD k noTxM).n1 (l.getD k noTxM).c1) u ∧
  (loadVar 93 ((ad.add (k * 2)).add 1)).run Tryz.prog u = .ok (.slice (l.getD k noTxM).A2 (l.getD k noTxM).n2 (l.getD k noTxM).c2) u := by
 obtain ⟨ad, e, hb, hc⟩ := row_cells (d := noTxM) h.cells (rowsTx l) (by decide) hk
 refine ⟨ad, e, hb, fun u hu => ?_⟩
 have hcu : ∀ j v, (txC (l.getD k noTxM))[j]? = some v → u.cell? ((ad.add (k * 2)).add j) = some v := fun j v hv => by
  rw [← hc j v hv]
  exact (EnvX.bel hu).cell (by rw [block_of_add, block_of_add]; exact hb)
 generalize l.getD k noTxM = t at *
 have hadd0 : ∀ a : Addr, a.add 0 = a := fun a => by unfold Addr.add; rfl
 refine ⟨run_loadAgg aggTx (txC t) rfl hcu, run_load_one oneIns u (by have := hcu 0 _ rfl; rwa [hadd0] at this), run_load_one oneOuts u (hcu 1 _ rfl)⟩
section
variable {a : Act} {dst : Option Tmp} {x y : Operand} {ty : TypeId} {pos : String} {after : Array Edge} {gd : Option (Nat × Bool)}
end
def FreshY (xs : List Int) (v : Value) (N : Boxes) : Prop := FreshR 5 1 xs.length (xs.map u8v) v N
def GrownB (w0 : World) (xs : List Int) (M0 : Boxes) (v : Value) (M' : Boxes) : Prop := ∃ N, M' = N ++ M0 ∧ FreshY xs v N ∧ freshN w0 N M0
theorem FreshY.nil : FreshY [] (.slice none 0 0) [] := .inr ⟨rfl, rfl, rfl, rfl⟩
theorem FreshY.own {w : World} {B : Nat} {xs : List Int} {v : Value} {N : Boxes} (h : FreshY xs v N) (hN : ∀ y ∈ N, B ≤ y.1 ∧ w.heap[y.1]? = some y.2) : OwnB w B v xs :=
 FreshR.own h (by rw [lM, Nat.mul_one]) hN
theorem appB_op {w0 u : World} {M : Boxes} (M0 : Boxes) {N : Boxes} {m c : Nat} {xs ys : List Int} {v : Value} {ad : Addr} {a : Act} {dst : Option Tmp} {y x : Operand} {pos : String} {after : Array Edge} {gd : Option (Nat × Bool)}
  (hu : EnvX w0 u M) (hm : ys.length = m) (hF : FreshY xs v N) (hN : ∀ y ∈ N, y ∈ M ∧ w0.heap.size ≤ y.1) (hc : SrcAt u ad (ys.map u8v)) (hM0 : ∀ z ∈ M0, z ∈ M ∧ ∀ y ∈ N, z.1 ≠ y.1) (hs : xs.length + m ≤ 2000000)
  (hyv : a.eval y = v) (hx : a.eval x = .slice (some ad) m c) :
  ∃ v' u' M', (execOp a.eval ⟨dst, .call { callee := .builtin .append, args := #[y, x], argTypes := #[106, 106] }, 106, pos, after, gd⟩).run Tryz.prog u = .ok (.value v') u' ∧ EnvX w0 u' M' ∧ GrownB w0 (xs ++ ys) M0 v' M' := by
 obtain ⟨v', u', M', h1, h2, N', e, h3, h4⟩ := appX_op (dst := dst) (pos := pos) (after := after) (gd := gd) elB M0 hu (n := xs.length) (m := m) (c := c) (by rw [lM, Nat.mul_one]) (by rw [lM, hm, Nat.mul_one]) u8_one hF hN hc hM0 hs hyv hx
 refine ⟨v', u', M', h1, h2, N', e, ?_, h4⟩
 unfold FreshY
 rw [lA, hm, List.map_append]
 exact h3
theorem src_fresh {w0 u : World} {M : Boxes} {g n : Nat} {cur : Array Value} {xs : List Int} (hu : EnvC w0 M u) (hm : (g, oc cur 5) ∈ M) (hl : xs.length = n) (h : cur.toList.take (n * 1) = xs.map u8v) : SrcAt u ⟨g, 0, none⟩ (xs.map u8v) :=
 src_box hu hm (by rw [List.drop_zero, lM, hl, ← Nat.mul_one n]; exact h)
theorem hbuilt0 : Tryz.prog.built 23 [] = some (arrB 32 z32) := by kernel_rfl
section
variable {a : Act} {dst : Option Tmp} {x y z : Operand} {ty : TypeId} {pos : String} {after : Array Edge} {gd : Option (Nat × Bool)}
theorem FAt_rows2 {A0 A1 : Option Addr} {n0 n1 c0 c1 : Nat} (hx : a.eval x = .slice A0 n0 c0) (hy : a.eval y = .slice A1 n1 c1) (u : World) :
  FAt Tryz.prog ⟨dst, .buildSlice 143 2 #[(0, x), (1, y)], ty, pos, after, gd⟩ a (fun v N => ∃ g, v = .slice (some ⟨g, 0, none⟩) 2 2 ∧ N = [(g, oc #[.slice A0 n0 c0, .slice A1 n1 c1] 106)]) u := by
 have h : (execOp a.eval ⟨dst, .buildSlice 143 2 #[(0, x), (1, y)], ty, pos, after, gd⟩).run Tryz.prog u = .ok (.value (.slice (some ⟨u.heap.size, 0, none⟩) 2 2)) (u.alloc (.cells #[.slice A0 n0 c0, .slice A1 n1 c1] 106)) := by
  unfold execOp
  simp only [List.map_toArray, List.map_cons, List.map_nil, hx, hy]
  go_simp
 unfold FAt
 rw [h]
 refine ⟨(Below.refl _ _).alloc (Nat.le_refl _) _, _, ⟨_, rfl, rfl⟩, fun y hy => ?_⟩
 cases mS.1 hy
 exact ⟨Nat.le_refl _, heap_alloc_new u _⟩
end
theorem take_snoc {α β : Type} (F : List α) (g : α → β) (d : α) {k : Nat} (hk : k < F.length) : (F.take (k + 1)).map g = (F.take k).map g ++ [g (F.getD k d)] := by
 rw [List.take_succ_eq_append_getElem hk, List.map_append, gD, gE hk]
 rfl
theorem getD_mem {α : Type} (F : List α) (d : α) {k : Nat} (hk : k < F.length) : F.getD k d ∈ F := by
 rw [gD, gE hk]
 exact List.getElem_mem hk
def insB (l : List InR) (i : Nat) : List Int := [(l.length : Int)] ++ ((l.take i).map inB).flatten
def outsB (r : TxR) (j : Nat) : List Int := insB r.ins r.ins.length ++ [(r.outs.length : Int)] ++ ((r.outs.take j).map outB).flatten
theorem insB_step {l : List InR} {i : Nat} (h : i < l.length) : insB l (i + 1) = insB l i ++ (l.getD i noIn).tx ++ [(l.getD i noIn).i] := by
 unfold insB
 rw [take_snoc l inB noIn h, List.flatten_append, List.flatten_singleton]
 unfold inB
 simp only [aA]
theorem outsB_step {r : TxR} {j : Nat} (h : j < r.outs.length) : outsB r (j + 1) = outsB r j ++ putL (r.outs.getD j noOut).v.toNat 6 ++ [(r.outs.getD j noOut).tw] := by
 unfold outsB
 rw [take_snoc r.outs outB noOut h, List.flatten_append, List.flatten_singleton]
 unfold outB
 simp only [aA]
theorem outsB_all (r : TxR) : outsB r r.outs.length = bodyX r := by
 unfold outsB insB bodyX
 rw [List.take_length, List.take_length]
 simp only [aA, List.cons_append, List.nil_append, List.singleton_append]
theorem insB_le {l : List InR} (h : okIns l) (i : Nat) : (insB l i).length ≤ 1 + 33 * l.length := by
 unfold insB
 rw [lA, flat_len (insB_len (h.take i)), lM, List.length_take]
 show 1 + _ ≤ _
 have : 33 * min i l.length ≤ 33 * l.length := Nat.mul_le_mul_left 33 (Nat.min_le_right ..)
 omega
theorem outsB_le {r : TxR} (h : okX r) (j : Nat) : (outsB r j).length ≤ 2 + 33 * r.ins.length + 7 * r.outs.length := by
 unfold outsB
 have := insB_le h.1 r.ins.length
 rw [lA, lA, flat_len (outsB_len _), lM, List.length_take]
 have : 7 * min j r.outs.length ≤ 7 * r.outs.length := Nat.mul_le_mul_left 7 (Nat.min_le_right ..)
 show _ + 1 + _ ≤ _
 omega
def BInv (w : World) (M0 : Boxes) (xs : List Int) (v : Value) (u : World) : Prop := ∃ N, FreshY xs v N ∧ freshN w N M0 ∧ EnvX w u (N ++ M0)
def lvN (lev : Int) : Nat := (min lev 31).toNat
theorem lvN_le (lev : Int) : lvN lev ≤ 31 := by unfold lvN; omega
def stepL (x : List Int) (r : List (List Int)) (id : List Int) (k : Nat) : List (List Int) := x :: (List.replicate k id ++ r.drop k)
def nextT (l : List (List Int)) (id : List Int) (lev : Int) : List (List Int) :=
  if 32 < l.length then [] else match l with
    | [] => [id]
    | x :: r => stepL x r id (lvN lev)
theorem step_len (x : List Int) (r : List (List Int)) (id : List Int) (k : Nat) : (stepL x r id k).length = 1 + (k + (r.length - k)) := by
 unfold stepL
 rw [List.length_cons, lA, List.length_replicate, List.length_drop]
 omega
theorem step_zero (x : List Int) (r : List (List Int)) (id : List Int) : stepL x r id 0 = x :: r := rfl
theorem step_set {x : List Int} {r : List (List Int)} {id : List Int} {k : Nat} (h : k < r.length) : (stepL x r id k).set (k + 1) id = stepL x r id (k + 1) := by
 unfold stepL
 rw [List.set_cons_succ]
 congr 1
 apply List.ext_getElem (by simp; omega)
 intro j h1 h2
 rw [List.getElem_set]
 by_cases e : k = j
 · subst e
   rw [if_pos rfl, List.getElem_append_left (by simp), List.getElem_replicate]
 · rw [if_neg e]
   by_cases e2 : j < k
   · rw [List.getElem_append_left (by simpa using e2), List.getElem_append_left (by simp; omega), List.getElem_replicate, List.getElem_replicate]
   · rw [List.getElem_append_right (by simp; omega), List.getElem_append_right (by simp; omega), List.getElem_drop, List.getElem_drop]
     congr 1
     simp only [List.length_replicate]
     omega
theorem step_app {x : List Int} {r : List (List Int)} {id : List Int} {k : Nat} (h : r.length ≤ k) : stepL x r id k ++ [id] = stepL x r id (k + 1) := by
 unfold stepL
 rw [List.drop_of_length_le h, List.drop_of_length_le (by omega), List.append_nil, List.append_nil, List.cons_append, List.replicate_succ']
theorem step_ids {x : List Int} {r : List (List Int)} {id : List Int} {k : Nat} (hx : isIds (x :: r)) (hid : isId id) : isIds (stepL x r id k) := by
 intro y hy
 unfold stepL at hy
 rcases List.mem_cons.1 hy with rfl | h
 · exact hx y (List.mem_cons_self ..)
 · rcases List.mem_append.1 h with h | h
   · rw [List.eq_of_mem_replicate h]; exact hid
   · exact hx y (mT (List.mem_of_mem_drop h))
theorem next_ids {l : List (List Int)} {id : List Int} {lev : Int} (hl : isIds l) (hid : isId id) : isIds (nextT l id lev) := by
 unfold nextT
 split
 · intro y hy; cases hy
 · cases l with
   | nil => intro y hy; cases mS.1 hy; exact hid
   | cons x r => exact step_ids hl hid
theorem next_many {l : List (List Int)} {id : List Int} {lev : Int} (h : 32 < l.length) : nextT l id lev = [] := by unfold nextT; rw [if_pos h]
theorem next_none (id : List Int) (lev : Int) : nextT [] id lev = [id] := rfl
theorem next_some {x : List Int} {r : List (List Int)} {id : List Int} {lev : Int} (h : r.length + 1 ≤ 32) : nextT (x :: r) id lev = stepL x r id (lvN lev) := by unfold nextT; rw [if_neg (by rw [List.length_cons]; omega)]
theorem next_len {l : List (List Int)} {id : List Int} {lev : Int} : (nextT l id lev).length ≤ 32 := by
 unfold nextT
 split
 · exact Nat.zero_le _
 · rename_i h
   cases l with
   | nil => exact (by decide : 1 ≤ 32)
   | cons x r =>
    have := lvN_le lev
    rw [step_len]
    rw [List.length_cons] at h
    omega
def leavesL (l : List (List Int)) : List (List Int) := l.map leafT
theorem leavesL_len (l : List (List Int)) : (leavesL l).length = l.length := List.length_map _
theorem leavesL_ids (l : List (List Int)) : isIds (leavesL l) := fun x hx => by
 obtain ⟨y, _, rfl⟩ := List.mem_map.1 hx
 exact ⟨sumL_len _, sumL_byte _⟩
theorem IdsIn.at {w : World} {B : Nat} {A : Option Addr} {l : List (List Int)} (h : IdsIn w B A l) (hl : isIds l) {i : Nat} (hi : i < l.length) : ∃ ad, A = some ad ∧ Bytes w B (some (ad.add (i * 32))) (l.getD i []) := by
 have hfl := hl.flat_len
 obtain ⟨ad, e, hb, hc⟩ := h (by omega)
 refine ⟨ad, e, fun _ => ⟨_, rfl, by rw [block_of_add]; exact hb, fun j v hv => ?_⟩⟩
 rw [add_add32]
 have hj : j < 32 := by
  rcases Nat.lt_or_ge j 32 with h' | h'
  · exact h'
  · rw [gN (by rw [lM, (hl.get hi).1]; exact h')] at hv
    cases hv
 refine hc (i * 32 + j) v ?_
 rw [List.getElem?_map, hl.flat_get i j hi hj]
 rwa [List.getElem?_map] at hv
theorem FreshI.form {l : List (List Int)} {x : Value} {N : Boxes} (h : FreshI l x N) : ∃ A c, x = .slice A l.length c ∧ l.length ≤ c ∧ c ≤ maxLen := by
 rcases h with ⟨g, cap, cur, rfl, _, h1, h2, _⟩ | ⟨rfl, _, rfl⟩
 · exact ⟨_, cap, rfl, h1, h2⟩
 · exact ⟨none, 0, rfl, Nat.le_refl _, Nat.zero_le _⟩
theorem FreshI.ids {w0 u : World} {M N : Boxes} {l : List (List Int)} {A : Option Addr} {n c : Nat} (h : FreshI l (.slice A n c) N) (hl : isIds l) (hu : EnvX w0 u M) (hN : ∀ y ∈ N, y ∈ M) : IdsIn u u.heap.size A l :=
 OwnI.ids (h.own (B := 0) hl (fun y hy => ⟨Nat.zero_le _, EnvX.box hu _ _ (hN y hy)⟩))
theorem lleaves_step {l : List (List Int)} {k : Nat} (h : k < l.length) : leavesL (l.take (k + 1)) = leavesL (l.take k) ++ [leafT (l.getD k [])] := by
 unfold leavesL
 exact take_snoc l leafT [] h
theorem bytes_srcI {u : World} {B g k : Nat} {xs : List Int} (hg : g < B) (h : SrcAt u ⟨g, k, none⟩ (xs.map u8v)) : Bytes u B (some ⟨g, k, none⟩) xs := fun _ => ⟨_, rfl, hg, h⟩
theorem id_src {x : List Int} (h : x.length = 32) : ((arrB 32 x).toList.drop 0).take (x.map u8v).length = x.map u8v := by
 rw [arrId_map h, List.drop_zero, List.take_length]
def rsT (l : List TxM) : List TxR := l.map (·.r)
theorem idsX_step {l : List TxM} {k : Nat} (h : k < l.length) : idsX (rsT (l.take (k + 1))) = idsX (rsT (l.take k)) ++ [idX (l.getD k noTxM).r] := by
 unfold idsX rsT
 rw [List.map_map, List.map_map]
 exact take_snoc l (idX ∘ (·.r)) noTxM h
theorem idsX_len (l : List TxM) : (idsX (rsT l)).length = l.length := by unfold idsX rsT; rw [lM, lM]
theorem inA_size' {x : InR} (h : x.tx.length ≤ 32) : (inA x).size = 33 := by
 unfold inA inC
 rw [List.size_toArray, lA, Array.length_toList, arrB_size _ _ h]
 rfl
theorem FreshR.formR {e : TypeId} {z n : Nat} {xs : List Value} {x : Value} {N : Boxes} (h : FreshR e z n xs x N) : ∃ A c, x = .slice A n c ∧ n ≤ c ∧ c ≤ maxLen := by
 rcases h with ⟨g, cap, cur, rfl, _, h1, h2, _⟩ | ⟨rfl, _, rfl, _⟩
 · exact ⟨_, cap, rfl, h1, h2⟩
 · exact ⟨none, 0, rfl, Nat.le_refl _, Nat.zero_le _⟩
section
variable {a : Act} {dst : Option Tmp} {x y : Operand} {ty : TypeId} {pos : String} {after : Array Edge} {gd : Option (Nat × Bool)}
end
open Go.ChangeShapes Go.WideShapes Go.ChangeAt Go.RowKit Go.Deep
theorem ccellsInt : Tryz.prog.cellsOf 3 = 1 := by kernel_rfl
theorem ccellsIn : Tryz.prog.cellsOf 100 = 33 := by kernel_rfl
theorem ccellsOut : Tryz.prog.cellsOf 102 = 2 := by kernel_rfl
theorem ccellsTx : Tryz.prog.cellsOf 95 = 2 := by kernel_rfl
theorem ccellsIns : Tryz.prog.cellsOf 92 = 1 := by kernel_rfl
theorem ccellsOuts : Tryz.prog.cellsOf 93 = 1 := by kernel_rfl
section
variable {H : Type} {enc : TypeId × Value → H} {W : World} {base : Nat} {spare : Nat → Bool} {held : Bool} {fuel : Nat} {cs : List Value} {x : DataW H × List MemPlace}
theorem in_cells (h : DataW.trod enc Tryz.prog W base spare held fuel 100 cs = some x) : ∃ t : InR, okIn t ∧ cs = inC t := by
 obtain ⟨y0, y1, n, _, hl, h0, h1⟩ := trod_struct2 Tryz.underlying100 h
 rw [ccellsIn] at hl
 obtain ⟨hs, k1, k2, e0⟩ := id_cells h0
 obtain ⟨i, e1, _, wf⟩ := DataW.trod_int Tryz.underlying3 h1
 have e0' : cs.take 32 = hs.map u8v := by
  have h := e0
  rw [show Tryz.prog.cellsOf 23 = 32 from cellsOfId] at h
  exact h
 have e1' : (cs.drop 32).take 1 = [.int .i64 i] := by
  have h := e1
  rw [show Tryz.prog.cellsOf 3 = 1 from ccellsInt] at h
  exact h
 refine ⟨⟨hs, i⟩, ⟨⟨k1, k2⟩, bounds_i64 wf⟩, ?_⟩
 unfold inC
 show cs = (arrB 32 hs).toList ++ [.int .i64 i]
 rw [arrId_map k1, ← e0', ← e1', List.take_of_length_le (l := cs.drop 32) (by rw [List.length_drop]; omega), List.take_append_drop]
theorem out_cells (h : DataW.trod enc Tryz.prog W base spare held fuel 102 cs = some x) : ∃ t : OutR, okOut t ∧ cs = outC t := by
 obtain ⟨y0, y1, n, _, hl, h0, h1⟩ := trod_struct2 Tryz.underlying102 h
 rw [ccellsOut] at hl
 obtain ⟨v, e0, _, wv⟩ := DataW.trod_int Tryz.underlying3 h0
 obtain ⟨i, e1, _, wf⟩ := DataW.trod_int Tryz.underlying3 h1
 have e0' : cs.take 1 = [.int .i64 v] := by
  have h := e0
  rw [show Tryz.prog.cellsOf 3 = 1 from ccellsInt] at h
  exact h
 have e1' : (cs.drop 1).take 1 = [.int .i64 i] := by
  have h := e1
  rw [show Tryz.prog.cellsOf 3 = 1 from ccellsInt] at h
  exact h
 refine ⟨⟨v, i⟩, ⟨bounds_i64 wv, bounds_i64 wf⟩, ?_⟩
 show cs = [.int .i64 v] ++ [.int .i64 i]
 rw [← e0', ← e1', List.take_of_length_le (l := cs.drop 1) (by rw [List.length_drop]; omega), List.take_append_drop]
end
section
variable {H : Type} {enc : TypeId × Value → H} {W : World} {base : Nat} {v : Value} {d : DataW H} {p : List MemPlace} {fuel : Nat} {cs : List Value} {x : DataW H × List MemPlace}
theorem tx_cells (h : DataW.trod enc Tryz.prog W 0 (fun _ => true) true fuel 95 cs = some x) : ∃ t : TxM, TxOk W t ∧ cs = txC t := by
 obtain ⟨y0, y1, n, _, hl, h0, h1⟩ := trod_struct2 Tryz.underlying95 h
 rw [ccellsTx] at hl
 obtain ⟨a1, n1, c1, l1, p1, q1, r1, s1, o1, m1⟩ := open_elemsC (ok := okIn) (C := inC) Tryz.underlying92 ccellsIn (by decide) (fun t ht => inC_len ht.len) (fun _ _ _ h => in_cells h) h0
 obtain ⟨a2, n2, c2, l2, p2, q2, r2, s2, o2, m2⟩ := open_elemsC (ok := okOut) (C := outC) Tryz.underlying93 ccellsOut (by decide) (fun t ht => rfl) (fun _ _ _ h => out_cells h) h1
 refine ⟨⟨⟨l1, l2⟩, a1, n1, c1, a2, n2, c2⟩, ⟨q1, ⟨r1, s1⟩, o1, m1, q2, ⟨r2, s2⟩, o2, m2⟩, ?_⟩
 have p1' : cs.take 1 = [.slice a1 n1 c1] := by
  have h := p1
  rw [show Tryz.prog.cellsOf 92 = 1 from ccellsIns] at h
  exact h
 have p2' : (cs.drop 1).take 1 = [.slice a2 n2 c2] := by
  have h := p2
  rw [show Tryz.prog.cellsOf 93 = 1 from ccellsOuts] at h
  exact h
 show cs = [.slice a1 n1 c1] ++ [.slice a2 n2 c2]
 rw [← p1', ← p2', List.take_of_length_le (l := cs.drop 1) (by rw [List.length_drop]; omega), List.take_append_drop]
theorem open_txs (hok : Value.okWide Tryz.prog W .any base 31 v) (h : DataW.Trod enc Tryz.prog W 0 (fun _ => true) true 31 v d p) :
  ∃ (a : Option Addr) (n c : Nat) (l : List TxM), v = .slice a n c ∧ l.length = n ∧ n ≤ c ∧ c ≤ maxLen ∧ TxsIn W a l := by
 obtain ⟨a, n, c, l, h1, h2, h3, h4, h5, h6⟩ := open_elems (ok := TxOk W) (C := txC) Tryz.underlying31 ccellsTx (by decide) (fun t ht => rfl) (fun _ _ _ h => tx_cells h) hok h
 exact ⟨a, n, c, l, h1, h2, h3, h4, ⟨h6, h5⟩⟩
end
def lessL : List Int → List Int → Bool
  | x :: xs, y :: ys => if x = y then lessL xs ys else decide (x < y)
  | _, _ => false
theorem drop_at (l : List Int) (k : Nat) (h : k < l.length) : l.drop k = l.getD k 0 :: l.drop (k + 1) := by
 rw [List.drop_eq_getElem_cons h]
 simp [List.getD, gE h]
theorem lessL_at (xs ys : List Int) (k : Nat) (hx : k < xs.length) (hy : k < ys.length) :
  (xs.getD k 0 = ys.getD k 0 → lessL (xs.drop k) (ys.drop k) = lessL (xs.drop (k + 1)) (ys.drop (k + 1))) ∧
  (xs.getD k 0 ≠ ys.getD k 0 → lessL (xs.drop k) (ys.drop k) = decide (xs.getD k 0 < ys.getD k 0)) := by
 rw [drop_at xs k hx, drop_at ys k hy]
 exact ⟨fun h => by simp only [lessL]; rw [if_pos h], fun h => by simp only [lessL]; rw [if_neg h]⟩
theorem less_any (xs ys : List Int) (w : World) (hx : xs.length = 32) (hy : ys.length = 32) :
  Rz 189 #[.agg (arrB 32 xs), .agg (arrB 32 ys)] w (.bool (lessL xs ys)) := by
 unfold Rz
 have HX := hD hx
 have HY := hD hy
 clear hx hy
 go_enter Tryz.func189, Tryz.ntmps189
 go_wp2_with fail
 go_loopw [6] (fun i u => ∃ k : Nat, k ≤ 32 ∧ i = .int .i64 k ∧ Below w.heap.size w u ∧ Hid (Row u w.heap.size 23 (arrB 32 xs) ∧ Row u (w.heap.size + 1) 23 (arrB 32 ys) ∧ lessL xs ys = lessL (xs.drop k) (ys.drop k))) (fun i _ => 32 - (intOf i).toNat)
 case atStart => exact ⟨0, by omega, rfl, by go_grown, (Row.new w 23 _).alloc _, Row.newAt (by simp) 23 _, rfl⟩
 case round =>
  obtain ⟨k, hk, rfl, hbl, hrows⟩ := hrel
  obtain ⟨r0, r1, hq⟩ := hrows.out
  by_cases hlt : k < 32
  · have e0 : wr.cell? ⟨w.heap.size, k, none⟩ = some (.int .u8 (xs.getD k 0)) := (r0.cell k).trans (arrB_get 32 _ k (by rw [HX.out]; omega) hlt)
    have e1 : wr.cell? ⟨w.heap.size + 1, k, none⟩ = some (.int .u8 (ys.getD k 0)) := (r1.cell k).trans (arrB_get 32 _ k (by rw [HY.out]; omega) hlt)
    have hs := hD (lessL_at xs ys k (by rw [HX.out]; exact hlt) (by rw [HY.out]; exact hlt))
    have R0 := hD r0
    have R1 := hD r1
    have HQ := hD hq
    clear r0 r1 hq hrows
    generalize xs.getD k 0 = x at *
    generalize ys.getD k 0 = y at *
    have hl2 : (k : Int) < 32 := by omega
    by_cases hxy : x = y
    · subst hxy
      have hne : (x != x) = false := by simp
      have hs1 := hD (HQ.out.trans (hs.out.1 rfl))
      clear hs HQ
      go_wp2_with fail
      go_quiet (fail)
      go_wp2
      go_roundw
      case rel => exact ⟨k + 1, by omega, by go_num, below_drewN hbl _, R0.out.drewN _, R1.out.drewN _, hs1.out⟩
      case measure => simp [intOf]; omega
    · have hne : (x != y) = true := by simpa using hxy
      have hfin := hD (HQ.out.trans (hs.out.2 hxy))
      clear hxy
      go_wp2_with fail
      go_quiet (fail)
      go_wp2_with fail
      go_quiet (fail)
      go_wp2
      go_ret
      exact ⟨by rw [hfin.out]; rfl, below_drewN (below_drewN hbl _) _⟩
  · obtain rfl : k = 32 := by omega
    have hfin : Hid (lessL xs ys = false) := by
      show _ = _
      rw [hq, List.drop_eq_nil_of_le (by rw [HX.out]; exact Nat.le_refl _)]
      rfl
    clear r0 r1 hq hrows
    go_wp2
    go_ret
    exact ⟨by rw [hfin.out]; rfl, hbl⟩
theorem less_three : ∀ (n : Nat) (xs ys : List Int), xs.length = n → ys.length = n → (lessL xs ys = true ∧ lessL ys xs = false ∧ eqL xs ys = false) ∨ (lessL xs ys = false ∧ lessL ys xs = true ∧ eqL xs ys = false) ∨ (lessL xs ys = false ∧ lessL ys xs = false ∧ eqL xs ys = true)
 | 0, [], [], _, _ => by simp [lessL, eqL]
 | n + 1, x :: xs, y :: ys, h1, h2 => by
  have ih := less_three n xs ys (by simpa using h1) (by simpa using h2)
  simp only [lessL, eqL, List.cons.injEq] at ih ⊢
  rcases Int.lt_trichotomy x y with h | h | h
  · left; simp [show ¬ x = y by omega, show ¬ y = x by omega, h]; omega
  · subst h; simpa using ih
  · right; left; simp [show ¬ x = y by omega, show ¬ y = x by omega, h]; omega
theorem less_trans : ∀ (n : Nat) (xs ys zs : List Int), xs.length = n → ys.length = n → zs.length = n → lessL xs ys = true → lessL ys zs = true → lessL xs zs = true
 | 0, [], [], [], _, _, _ => by simp [lessL]
 | n + 1, x :: xs, y :: ys, z :: zs, h1, h2, h3 => by
  have ih := less_trans n xs ys zs (by simpa using h1) (by simpa using h2) (by simpa using h3)
  simp only [lessL]
  intro a b
  by_cases e1 : x = y
  · subst e1
    by_cases e2 : x = z
    · subst e2; simp at a b ⊢; exact ih a b
    · simp [e2] at b ⊢; exact b
  · by_cases e2 : y = z
    · subst e2; simp [e1] at a ⊢; exact a
    · simp [e1] at a
      simp [e2] at b
      simp [show ¬ x = z by omega]; omega
structure CoinR where
  tx : List Int
  i : Int
  v : Int
  tw : Int
deriving DecidableEq
def noCoin : CoinR := ⟨z32, 0, 0, 0⟩
def keyC (c : CoinR) : InR := ⟨c.tx, c.i⟩
def outK (c : CoinR) : OutR := ⟨c.v, c.tw⟩
def okCoin (c : CoinR) : Prop := isId c.tx ∧ I64 c.i ∧ I64 c.v ∧ I64 c.tw
def okP (p : List CoinR) : Prop := ∀ c ∈ p, okCoin c
def idP (p : List CoinR) : Prop := ∀ c ∈ p, isId c.tx
theorem okP.id {p : List CoinR} (h : okP p) : idP p := fun c hc => (h c hc).1
def beforeK (a b : InR) : Bool := lessL a.tx b.tx || (decide (a.tx = b.tx) && decide (a.i < b.i))
def boundC (c : CoinR) : Bool := decide (0 ≤ c.i ∧ c.i ≤ 2 ∧ 1 ≤ c.v ∧ c.v ≤ 1099511627776 ∧ 0 ≤ c.tw ∧ c.tw ≤ 255)
def upP (p : List CoinR) : Prop := p.Pairwise fun a b => beforeK (keyC a) (keyC b) = true
instance (p : List CoinR) : Decidable (upP p) := inferInstanceAs (Decidable (p.Pairwise _))
def mayP (p : List CoinR) : Bool := decide (p.length ≤ 48 ∧ (∀ c ∈ p, boundC c = true) ∧ upP p)
def findP (p : List CoinR) (x : InR) : Int := match p.findIdx? (fun c => decide (keyC c = x)) with
  | some k => k
  | none => -1
def sumV (p : List CoinR) : Int := (p.map (·.v)).sum
def withP : List CoinR → CoinR → List CoinR
  | [], c => [c]
  | d :: r, c => if beforeK (keyC c) (keyC d) then c :: d :: r else d :: withP r c
def thereP (p : List CoinR) (id : List Int) : Bool := p.any fun c => decide (c.tx = id)
def newC (id : List Int) : Int → List OutR → List CoinR
  | _, [] => []
  | i, o :: os => ⟨id, i, o.v, o.tw⟩ :: newC id (i + 1) os
def madeP (p : List CoinR) (cs : List CoinR) : List CoinR := cs.foldl withP p
def worthX (t : TxR) : Int := (t.outs.map (·.v)).sum
def takeP : List CoinR → List InR → Option (List CoinR × Int)
  | l, [] => some (l, 0)
  | l, x :: xs => match l.find? (fun c => decide (keyC c = x)) with
    | none => none
    | some c => match takeP (l.eraseP fun c => decide (keyC c = x)) xs with
      | none => none
      | some r => some (r.1, c.v + r.2)
def spendP (p : List CoinR) (t : TxR) : List CoinR × Int × Nat :=
  if mayP p && mayX t && decide (t.ins ≠ []) then
    match takeP p t.ins with
    | none => (p, 0, 8)
    | some (l, n) => if n < worthX t then (p, 0, 8) else if thereP l (idX t) then (p, 0, 10) else if 48 < (madeP l (newC (idX t) 0 t.outs)).length then (p, 0, 11) else (madeP l (newC (idX t) 0 t.outs), n - worthX t, 0)
  else (p, 0, 1)
def runP : List CoinR → Int → List TxR → Except Nat (List CoinR × Int)
  | p, n, [] => .ok (p, n)
  | p, n, t :: l => match spendP p t with
    | (q, m, 0) => runP q (n + m) l
    | (_, _, e + 1) => .error (e + 1)
def loneX (l : List TxR) : Bool := match l with
  | [] => false
  | t :: _ => decide (t.ins = [])
def applyP (p : List CoinR) (l : List TxR) : List CoinR × Nat :=
  if mayP p = false then (p, 1) else if 4 < l.length then (p, 3) else
  match runP p 0 (if loneX l then l.tail else l) with
  | .error e => (p, e)
  | .ok (q, n) => match l with
    | [] => (q, 0)
    | t :: _ => if t.ins ≠ [] then (q, 0) else if mayX t = false then (p, 1) else if thereP q (idX t) then (p, 10) else if 50 + n < worthX t then (p, 8) else if 48 < (madeP q (newC (idX t) 0 t.outs)).length then (p, 11) else (madeP q (newC (idX t) 0 t.outs), 0)
theorem less_irr {x : List Int} (h : x.length = 32) : lessL x x = false := by
 rcases less_three 32 x x h h with ⟨a, b, _⟩ | ⟨a, b, _⟩ | ⟨a, _, _⟩
 · rw [a] at b; cases b
 · exact a
 · exact a
theorem bef_irr {a : InR} (h : isId a.tx) : beforeK a a = false := by
 unfold beforeK
 rw [less_irr h.1]
 simp
theorem bef_trans {a b c : InR} (ha : isId a.tx) (hb : isId b.tx) (hc : isId c.tx) (h1 : beforeK a b = true) (h2 : beforeK b c = true) : beforeK a c = true := by
 unfold beforeK at *
 simp only [Bool.or_eq_true, Bool.and_eq_true, decide_eq_true_eq] at *
 rcases h1 with h1 | ⟨e1, i1⟩
 · rcases h2 with h2 | ⟨e2, i2⟩
   · exact .inl (less_trans 32 _ _ _ ha.1 hb.1 hc.1 h1 h2)
   · exact .inl (by rw [← e2]; exact h1)
 · rcases h2 with h2 | ⟨e2, i2⟩
   · exact .inl (by rw [e1]; exact h2)
   · exact .inr ⟨e1.trans e2, by omega⟩
theorem bef_tri {a b : InR} (ha : isId a.tx) (hb : isId b.tx) (hn : beforeK a b = false) (hne : a ≠ b) : beforeK b a = true := by
 unfold beforeK at *
 simp only [Bool.or_eq_true, Bool.or_eq_false_iff, Bool.and_eq_true, Bool.and_eq_false_iff, decide_eq_true_eq, decide_eq_false_iff_not] at *
 obtain ⟨n1, n2⟩ := hn
 rcases less_three 32 a.tx b.tx ha.1 hb.1 with ⟨x, _, _⟩ | ⟨_, y, _⟩ | ⟨_, _, z⟩
 · rw [x] at n1; cases n1
 · exact .inl y
 · have e : a.tx = b.tx := of_decide_eq_true z
   have hi : a.i ≠ b.i := fun hi => hne (by cases a; cases b; simp only at e hi; rw [e, hi])
   rcases n2 with n2 | n2
   · exact absurd e n2
   · exact .inr ⟨e.symm, by omega⟩
theorem bef_ne {a b : InR} (ha : isId a.tx) (h : beforeK a b = true) : a ≠ b := fun e => by
 subst e
 rw [bef_irr ha] at h
 cases h
theorem withP_perm (p : List CoinR) (c : CoinR) : (withP p c).Perm (c :: p) := by
 induction p with
 | nil => exact List.Perm.refl _
 | cons d r ih =>
  unfold withP
  split
  · exact List.Perm.refl _
  · exact (List.Perm.cons d ih).trans (List.Perm.swap c d r)
theorem withP_up {p : List CoinR} {c : CoinR} (hp : idP p) (hc : isId c.tx) (hu : upP p) (hn : ∀ d ∈ p, keyC d ≠ keyC c) : upP (withP p c) := by
 induction p with
 | nil => exact List.pairwise_singleton _ _
 | cons d r ih =>
  have hd := hp d (List.mem_cons_self ..)
  have hr : idP r := fun x hx => hp x (mT hx)
  obtain ⟨h1, h2⟩ := List.pairwise_cons.1 hu
  unfold withP
  split
  · rename_i hb
    refine List.pairwise_cons.2 ⟨fun x hx => ?_, hu⟩
    rcases List.mem_cons.1 hx with rfl | hx
    · exact hb
    · exact bef_trans hc hd (hr x hx) hb (h1 x hx)
  · rename_i hb
    refine List.pairwise_cons.2 ⟨fun x hx => ?_, ih hr h2 (fun y hy => hn y (mT hy))⟩
    rcases List.mem_cons.1 ((withP_perm r c).mem_iff.1 hx) with rfl | hx
    · exact bef_tri hc hd (by simpa using hb) (fun e => hn d (List.mem_cons_self ..) e.symm)
    · exact h1 x hx
theorem madeP_perm : ∀ (cs p : List CoinR), (madeP p cs).Perm (cs ++ p)
 | [], p => List.Perm.refl _
 | c :: cs, p => by
  show (madeP (withP p c) cs).Perm _
  refine (madeP_perm cs (withP p c)).trans ?_
  refine (List.Perm.append_left cs (withP_perm p c)).trans ?_
  exact List.perm_middle
theorem madeP_up : ∀ (cs p : List CoinR), idP p → (∀ c ∈ cs, isId c.tx) → upP p → (∀ d ∈ p, ∀ c ∈ cs, keyC d ≠ keyC c) → cs.Pairwise (fun a b => keyC a ≠ keyC b) → upP (madeP p cs)
 | [], p, _, _, hu, _, _ => hu
 | c :: cs, p, hp, hc, hu, hn, hd => by
  obtain ⟨d1, d2⟩ := List.pairwise_cons.1 hd
  refine madeP_up cs (withP p c) (fun x hx => ?_) (fun x hx => hc x (mT hx)) (withP_up hp (hc c (List.mem_cons_self ..)) hu (fun d hd => hn d hd c (List.mem_cons_self ..))) (fun x hx y hy => ?_) d2
  · rcases List.mem_cons.1 ((withP_perm p c).mem_iff.1 hx) with rfl | hx
    · exact hc _ (List.mem_cons_self ..)
    · exact hp x hx
  · rcases List.mem_cons.1 ((withP_perm p c).mem_iff.1 hx) with rfl | hx
    · exact d1 y hy
    · exact hn x hx y (mT hy)
theorem sumV_perm {p q : List CoinR} (h : p.Perm q) : sumV p = sumV q := by
 unfold sumV
 induction h with
 | nil => rfl
 | cons x _ ih => simp only [List.map_cons, List.sum_cons, ih]
 | swap x y l => simp only [List.map_cons, List.sum_cons]; omega
 | trans _ _ h1 h2 => exact h1.trans h2
theorem sumV_app (p q : List CoinR) : sumV (p ++ q) = sumV p + sumV q := by
 unfold sumV
 rw [List.map_append, List.sum_append]
theorem sumV_cons (c : CoinR) (p : List CoinR) : sumV (c :: p) = c.v + sumV p := by unfold sumV; rw [List.map_cons, List.sum_cons]
theorem newC_mem {id : List Int} : ∀ {os : List OutR} {i : Int} {c : CoinR}, c ∈ newC id i os → c.tx = id ∧ i ≤ c.i ∧ c.i < i + os.length ∧ outK c ∈ os
 | [], i, c, h => by cases h
 | o :: os, i, c, h => by
  rcases List.mem_cons.1 h with rfl | h
  · exact ⟨rfl, Int.le_refl _, by simp only [List.length_cons]; omega, List.mem_cons_self ..⟩
  · obtain ⟨h1, h2, h3, h4⟩ := newC_mem h
    exact ⟨h1, by omega, by simp only [List.length_cons]; omega, mT h4⟩
theorem newC_len (id : List Int) : ∀ (os : List OutR) (i : Int), (newC id i os).length = os.length
 | [], _ => rfl
 | o :: os, i => by unfold newC; rw [List.length_cons, newC_len id os, List.length_cons]
theorem newC_ne (id : List Int) : ∀ (os : List OutR) (i : Int), (newC id i os).Pairwise (fun a b => keyC a ≠ keyC b)
 | [], _ => List.Pairwise.nil
 | o :: os, i => by
  refine List.pairwise_cons.2 ⟨fun x hx e => ?_, newC_ne id os (i + 1)⟩
  have h1 := (newC_mem hx).2.1
  have h2 : x.i = i := (congrArg InR.i e).symm
  omega
theorem newC_sum (id : List Int) : ∀ (os : List OutR) (i : Int), sumV (newC id i os) = (os.map (·.v)).sum
 | [], _ => rfl
 | o :: os, i => by unfold newC; rw [sumV_cons, newC_sum id os, List.map_cons, List.sum_cons]
theorem find_mem {l : List CoinR} {x : InR} {c : CoinR} (h : l.find? (fun c => decide (keyC c = x)) = some c) : c ∈ l ∧ keyC c = x := ⟨List.mem_of_find?_eq_some h, by have := List.find?_some h; simpa using this⟩
theorem erase_perm {l : List CoinR} {x : InR} {c : CoinR} (h : l.find? (fun c => decide (keyC c = x)) = some c) : l.Perm (c :: l.eraseP fun c => decide (keyC c = x)) := by
 induction l with
 | nil => cases h
 | cons d r ih =>
  by_cases e : keyC d = x
  · rw [List.find?_cons_of_pos (by simpa using e)] at h
    cases h
    rw [List.eraseP_cons_of_pos (by simpa using e)]
  · rw [List.find?_cons_of_neg (by simpa using e)] at h
    rw [List.eraseP_cons_of_neg (by simpa using e)]
    exact (List.Perm.cons d (ih h)).trans (List.Perm.swap c d _)
theorem take_some : ∀ (xs : List InR) (l : List CoinR) (r : List CoinR × Int), takeP l xs = some r → r.1.Sublist l ∧ sumV r.1 + r.2 = sumV l ∧ r.1.length + xs.length = l.length ∧ (∀ d ∈ l, keyC d ∉ xs → d ∈ r.1) ∧ ((∀ d ∈ l, 0 ≤ d.v) → 0 ≤ r.2)
 | [], l, r, h => by
  cases h
  exact ⟨List.Sublist.refl _, by simp, by simp, fun d hd _ => hd, fun _ => Int.le_refl _⟩
 | x :: xs, l, r, h => by
  unfold takeP at h
  cases hf : l.find? (fun c => decide (keyC c = x)) with
  | none => rw [hf] at h; cases h
  | some c =>
   rw [hf] at h
   simp only at h
   cases ht : takeP (l.eraseP fun c => decide (keyC c = x)) xs with
   | none => rw [ht] at h; cases h
   | some q =>
    rw [ht] at h
    cases h
    obtain ⟨h1, h2, h3, h4, h5⟩ := take_some xs _ _ ht
    have hp := erase_perm hf
    have hs := sumV_perm hp
    rw [sumV_cons] at hs
    have hl := hp.length_eq
    rw [List.length_cons] at hl
    refine ⟨h1.trans List.eraseP_sublist, by simp only; omega, by rw [List.length_cons]; simp only; omega, fun d hd hn => ?_, fun hv => ?_⟩
    · rcases List.mem_cons.1 (hp.mem_iff.1 hd) with rfl | hd
      · exact absurd (by rw [(find_mem hf).2]; exact List.mem_cons_self ..) hn
      · exact h4 d hd (fun h => hn (mT h))
    · have a := hv c (find_mem hf).1
      have b := h5 (fun d hd => hv d (List.eraseP_sublist.subset hd))
      simp only
      omega
def coC (c : CoinR) : List Value := inC (keyC c) ++ outC (outK c)
def coA (c : CoinR) : Array Value := (coC c).toArray
def coV (c : CoinR) : Value := .agg (coA c)
def noC0 : CoinR := ⟨[], 0, 0, 0⟩
def lenC (c : CoinR) : Prop := c.tx.length = 32
theorem okCoin.len {c : CoinR} (h : okCoin c) : lenC c := h.1.1
theorem coC_len {c : CoinR} (h : lenC c) : (coC c).length = 35 := by
 unfold coC
 rw [lA, inC_len (show lenI (keyC c) from h)]
 rfl
theorem coC_one (c : CoinR) : ∀ u ∈ coC c, u.oneCell' = true := by
 intro u hu
 unfold coC at hu
 rcases List.mem_append.1 hu with h | h
 · exact inC_one _ u h
 · exact outC_one _ u h
theorem aggCo : AggT 104 35 := ⟨fun w => by simp [isAgg, run_underlying Tryz.underlying104], by kernel_rfl⟩
theorem elCo : ElemT 35 104 35 56 (coV noC0) := ⟨Tryz.underlying35, by kernel_rfl, by decide +kernel, by decide, by decide, by decide⟩
theorem coC_in {c : CoinR} (h : lenC c) : (coC c).take 33 = inC (keyC c) := by unfold coC; rw [List.take_left' (inC_len (show lenI (keyC c) from h))]
theorem coC_tx {c : CoinR} (h : lenC c) : (coC c).take 32 = (arrB 32 c.tx).toList := by
 have e := coC_in h
 have e2 : (coC c).take 32 = ((coC c).take 33).take 32 := by rw [List.take_take]; rfl
 rw [e2, e]
 unfold inC
 exact List.take_left' (idA_list (show (keyC c).tx.length = 32 from h))
theorem coC_i {c : CoinR} (h : lenC c) : (coC c)[32]? = some (.int .i64 c.i) := by
 unfold coC
 rw [List.getElem?_append_left (by rw [inC_len (show lenI (keyC c) from h)]; omega)]
 exact inC_i (show lenI (keyC c) from h)
theorem coC_v {c : CoinR} (h : lenC c) : (coC c)[33]? = some (.int .i64 c.v) := by
 unfold coC
 rw [List.getElem?_append_right (by rw [inC_len (show lenI (keyC c) from h)]; omega), inC_len (show lenI (keyC c) from h)]
 rfl
theorem coC_to {c : CoinR} (h : lenC c) : (coC c)[34]? = some (.int .i64 c.tw) := by
 unfold coC
 rw [List.getElem?_append_right (by rw [inC_len (show lenI (keyC c) from h)]; omega), inC_len (show lenI (keyC c) from h)]
 rfl
theorem coC_out {c : CoinR} (h : lenC c) : ((coC c).drop 33).take 2 = outC (outK c) := by
 unfold coC
 rw [List.drop_left' (inC_len (show lenI (keyC c) from h))]
 rfl
section
variable {w0 u : World} {M : Boxes} {g : Nat} {ty : TypeId} {c : CoinR}
theorem box_co_i (hu : EnvC w0 M u) (hm : (g, oc (coA c) ty) ∈ M) (h : lenC c) : (loadVar 3 ⟨g, 32, none⟩).run Tryz.prog u = .ok (.int .i64 c.i) u :=
 run_load_one oneInt u (box_cell hu hm (by unfold coA; rw [List.getElem?_toArray]; exact coC_i h))
instance : Cell Tryz.prog (coA c) 3 32 (.int .i64 c.i) (lenC c) := ⟨fun hu hm k => box_co_i hu hm k⟩
theorem box_co_v (hu : EnvC w0 M u) (hm : (g, oc (coA c) ty) ∈ M) (h : lenC c) : (loadVar 3 ⟨g, 33, none⟩).run Tryz.prog u = .ok (.int .i64 c.v) u :=
 run_load_one oneInt u (box_cell hu hm (by unfold coA; rw [List.getElem?_toArray]; exact coC_v h))
instance : Cell Tryz.prog (coA c) 3 33 (.int .i64 c.v) (lenC c) := ⟨fun hu hm k => box_co_v hu hm k⟩
theorem box_co_to (hu : EnvC w0 M u) (hm : (g, oc (coA c) ty) ∈ M) (h : lenC c) : (loadVar 3 ⟨g, 34, none⟩).run Tryz.prog u = .ok (.int .i64 c.tw) u :=
 run_load_one oneInt u (box_cell hu hm (by unfold coA; rw [List.getElem?_toArray]; exact coC_to h))
instance : Cell Tryz.prog (coA c) 3 34 (.int .i64 c.tw) (lenC c) := ⟨fun hu hm k => box_co_to hu hm k⟩
end
theorem built_co {x : InR} {o : OutR} (h : lenI x) : Tryz.prog.built 104 [(0, inV x), (1, outV o)] = some (coA ⟨x.tx, x.i, o.v, o.tw⟩) := by
 have hs : (inA x).size = 33 := inA_size h
 have e : cellsOfP [(0, inV x), (1, outV o)] = coC ⟨x.tx, x.i, o.v, o.tw⟩ := by simp [cellsOfP, coC, inV, outV, inA, outA, keyC, outK, Value.cells]
 have := built_struct (t := 104) (n := 35) Tryz.underlying104 (by kernel_rfl) (places := [(0, 33), (33, 2)]) (by kernel_rfl) (ps := [(0, inV x), (1, outV o)]) (by
  refine ⟨?_, ?_, trivial⟩
  · show some (0, 33) = some (0, (inA x).size)
    rw [hs]
  · show some (33, 2) = some (0 + (inA x).size, 2)
    rw [hs]) (by rw [e, coC_len (c := ⟨x.tx, x.i, o.v, o.tw⟩) h])
 rw [this, e]
 rfl
def CoinsIn (w : World) (B : Nat) (A : Option Addr) (l : List CoinR) : Prop := CellsIn w B A (l.map coC).flatten
theorem rowsCo {l : List CoinR} (h : ∀ c ∈ l, lenC c) : isRows 35 (l.map coC) := fun x hx => by
 obtain ⟨t, ht, rfl⟩ := List.mem_map.1 hx
 exact coC_len (h t ht)
theorem okP.lens {p : List CoinR} (h : okP p) : ∀ c ∈ p, lenC c := fun c hc => (h c hc).len
theorem getP {l : List CoinR} (h : okP l) {i : Nat} (hi : i < l.length) : okCoin (l.getD i noC0) := by
 rw [gD, gE hi]
 exact h _ (List.getElem_mem hi)
theorem okP.take {p : List CoinR} (h : okP p) (k : Nat) : okP (p.take k) := fun x hx => h x (List.mem_of_mem_take hx)
theorem okP.drop {p : List CoinR} (h : okP p) (k : Nat) : okP (p.drop k) := fun x hx => h x (List.mem_of_mem_drop hx)
theorem CoinsIn.loads {w : World} {A : Option Addr} {l : List CoinR} (h : CoinsIn w w.heap.size A l) (hl : okP l) {k : Nat} (hk : k < l.length) : ∃ ad, A = some ad ∧ ad.block < w.heap.size ∧ ∀ u, EnvX w u [] →
   (loadVar 104 (ad.add (k * 35))).run Tryz.prog u = .ok (coV (l.getD k noC0)) u ∧
   (loadVar 100 (ad.add (k * 35))).run Tryz.prog u = .ok (inV (keyC (l.getD k noC0))) u ∧
   (loadVar 23 (ad.add (k * 35))).run Tryz.prog u = .ok (idv (l.getD k noC0).tx) u ∧
   (loadVar 3 ((ad.add (k * 35)).add 32)).run Tryz.prog u = .ok (.int .i64 (l.getD k noC0).i) u ∧
   (loadVar 102 ((ad.add (k * 35)).add 33)).run Tryz.prog u = .ok (outV (outK (l.getD k noC0))) u ∧
   (loadVar 3 ((ad.add (k * 35)).add 33)).run Tryz.prog u = .ok (.int .i64 (l.getD k noC0).v) u ∧
   (loadVar 3 ((ad.add (k * 35)).add 34)).run Tryz.prog u = .ok (.int .i64 (l.getD k noC0).tw) u := by
 obtain ⟨ad, e, hb, hc⟩ := row_cells (d := noC0) h (rowsCo hl.lens) (by decide) hk
 refine ⟨ad, e, hb, fun u hu => ?_⟩
 have h32 := (getP hl hk).len
 have hcu : ∀ j v, (coC (l.getD k noC0))[j]? = some v → u.cell? ((ad.add (k * 35)).add j) = some v := fun j v hv => by
   rw [← hc j v hv]
   exact (EnvX.bel hu).cell (by rw [block_of_add, block_of_add]; exact hb)
 generalize l.getD k noC0 = t at *
 have cut : ∀ (m : Nat) j v, ((coC t).take m)[j]? = some v → (coC t)[j]? = some v := fun m j v hj => by
   rw [List.getElem?_take] at hj
   split at hj
   · exact hj
   · cases hj
 refine ⟨run_loadAgg aggCo (coC t) (coC_len h32) hcu, ?_, ?_, run_load_one oneInt u (hcu 32 _ (coC_i h32)), ?_, run_load_one oneInt u (hcu 33 _ (coC_v h32)), run_load_one oneInt u (hcu 34 _ (coC_to h32))⟩
 · exact run_loadAgg aggIn (inC (keyC t)) (inC_len (show lenI (keyC t) from h32)) (fun j v hv => hcu j v (cut 33 j v (by rw [coC_in h32]; exact hv)))
 · have := run_loadAgg aggIdT (w := u) (ad := ad.add (k * 35)) _ (idA_list (show t.tx.length = 32 from h32)) (fun j v hv => hcu j v (cut 32 j v (by rw [coC_tx h32]; exact hv)))
   rwa [agg_list] at this
 · refine run_loadAgg aggOut (outC (outK t)) rfl (fun j v hv => ?_)
   rw [show ((ad.add (k * 35)).add 33).add j = (ad.add (k * 35)).add (33 + j) by simp only [add_addN, Nat.add_assoc]]
   refine hcu (33 + j) v ?_
   rw [← coC_out h32] at hv
   rw [List.getElem?_take] at hv
   split at hv
   · rw [List.getElem?_drop] at hv
     exact hv
   · cases hv
section
variable {a : Act} {dst : Option Tmp} {x y : Operand} {ty : TypeId} {pos : String} {after : Array Edge} {gd : Option (Nat × Bool)}
theorem fieldCo_op {k off : Nat} (hk : ([(0, 0), (1, 33)] : List (Nat × Nat)).lookup k = some off) {ad : Addr} (u : World) (hx : a.eval x = .pointer (some ad)) :
  (execOp a.eval ⟨dst, .fieldAddr 104 x k, ty, pos, after, gd⟩).run Tryz.prog u = .ok (.value (.pointer (some (ad.add off)))) u := by
 unfold execOp
 simp only [hx]
 rcases k with _ | _ | k
 all_goals first | (cases hk; go_simp) | cases hk
instance : FldT Tryz.prog 104 [(0, 0), (1, 33)] := ⟨fun h u k => fieldCo_op h u k⟩
end
theorem findP_cases (p : List CoinR) (x : InR) : (findP p x = -1 ∧ ∀ c ∈ p, keyC c ≠ x) ∨ ∃ k, k < p.length ∧ findP p x = (k : Int) ∧ keyC (p.getD k noCoin) = x ∧ ∀ j, j < k → keyC (p.getD j noCoin) ≠ x := by
 unfold findP
 cases h : p.findIdx? (fun c => decide (keyC c = x)) with
 | none =>
  refine .inl ⟨rfl, fun c hc e => ?_⟩
  have := List.findIdx?_eq_none_iff.1 h c hc
  rw [e] at this
  simp at this
 | some k =>
  obtain ⟨hk, h1, h2⟩ := List.findIdx?_eq_some_iff_getElem.1 h
  refine .inr ⟨k, hk, rfl, ?_, fun j hj e => ?_⟩
  · rw [gD, gE hk]
    simpa using h1
  · have := h2 j hj
    rw [gD, gE (by omega)] at e
    simp only [Option.getD_some] at e
    rw [e] at this
    simp at this
theorem findP_none {p : List CoinR} {x : InR} (h : ∀ c ∈ p, keyC c ≠ x) : findP p x = -1 := by
 rcases findP_cases p x with ⟨e, _⟩ | ⟨k, hk, _, e, _⟩
 · exact e
 · refine absurd e (h _ ?_)
   rw [gD, gE hk]
   exact List.getElem_mem hk
theorem findP_hit {p : List CoinR} {x : InR} {k : Nat} (hk : k < p.length) (h : keyC (p.getD k noCoin) = x) (hn : ∀ j, j < k → keyC (p.getD j noCoin) ≠ x) : findP p x = (k : Int) := by
 rcases findP_cases p x with ⟨_, e⟩ | ⟨j, hj, e, h1, h2⟩
 · refine absurd h (e _ ?_)
   rw [gD, gE hk]
   exact List.getElem_mem hk
 · rcases Nat.lt_trichotomy j k with g | g | g
   · exact absurd h1 (hn j g)
   · rw [e, g]
   · exact absurd h (h2 k g)
theorem mayP_iff {p : List CoinR} : mayP p = true ↔ p.length ≤ 48 ∧ (∀ c ∈ p, boundC c = true) ∧ upP p := by unfold mayP; rw [decide_eq_true_eq]
theorem thereP_no {p : List CoinR} {id : List Int} (h : thereP p id = false) : ∀ c ∈ p, c.tx ≠ id := fun c hc e => by
 unfold thereP at h
 rw [List.any_eq_false] at h
 exact h c hc (by simpa using e)
theorem bound_v {c : CoinR} (h : boundC c = true) : 1 ≤ c.v := by
 unfold boundC at h
 rw [decide_eq_true_eq] at h
 exact h.2.2.1
theorem new_bound {t : TxR} (hm : mayX t = true) (id : List Int) : ∀ c ∈ newC id 0 t.outs, boundC c = true := fun c hc => by
 obtain ⟨_, h1, h2, h3⟩ := newC_mem hc
 obtain ⟨_, _, h4, _, _, h5⟩ := mayX_iff.1 hm
 have h6 := h5 _ h3
 unfold boundC
 unfold mayOut outK at h6
 rw [decide_eq_true_eq] at *
 simp only at h6
 omega
theorem made_may {l : List CoinR} {t : TxR} (hl : idP l) (hu : upP l) (hb : ∀ c ∈ l, boundC c = true) (hm : mayX t = true) (ht : thereP l (idX t) = false) (hlen : (madeP l (newC (idX t) 0 t.outs)).length ≤ 48) : mayP (madeP l (newC (idX t) 0 t.outs)) = true := by
 refine mayP_iff.2 ⟨hlen, fun c hc => ?_, ?_⟩
 · rcases List.mem_append.1 ((madeP_perm _ _).mem_iff.1 hc) with h | h
   · exact new_bound hm _ c h
   · exact hb c h
 · refine madeP_up _ _ hl (fun c hc => ?_) hu (fun d hd c hc e => ?_) (newC_ne _ _ _)
   · rw [(newC_mem hc).1]; exact idX_id t
   · exact thereP_no ht d hd (by rw [← (newC_mem hc).1]; exact congrArg InR.tx e)
theorem made_sum (l : List CoinR) (t : TxR) : sumV (madeP l (newC (idX t) 0 t.outs)) = worthX t + sumV l := by
 rw [sumV_perm (madeP_perm _ _), sumV_app, newC_sum]
 rfl
theorem made_idP {l : List CoinR} {t : TxR} (hl : idP l) : idP (madeP l (newC (idX t) 0 t.outs)) := fun c hc => by
 rcases List.mem_append.1 ((madeP_perm _ _).mem_iff.1 hc) with h | h
 · rw [(newC_mem h).1]; exact idX_id t
 · exact hl c h
theorem spend_ok {p : List CoinR} {t : TxR} {q : List CoinR} {n : Int} (hp : idP p) (h : spendP p t = (q, n, 0)) : mayP p = true ∧ mayX t = true ∧ t.ins ≠ [] ∧ ∃ l m, takeP p t.ins = some (l, m) ∧ worthX t ≤ m ∧ thereP l (idX t) = false ∧ q = madeP l (newC (idX t) 0 t.outs) ∧ q.length ≤ 48 ∧ n = m - worthX t := by
 unfold spendP at h
 split at h
 · rename_i hc
   simp only [Bool.and_eq_true, decide_eq_true_eq] at hc
   refine ⟨hc.1.1, hc.1.2, hc.2, ?_⟩
   cases ht : takeP p t.ins with
   | none => rw [ht] at h; simp at h
   | some r =>
    obtain ⟨l, m⟩ := r
    rw [ht] at h
    simp only at h
    split at h
    · simp at h
    · rename_i h1
      split at h
      · simp at h
      · rename_i h2
        split at h
        · simp at h
        · rename_i h3
          simp only [Prod.mk.injEq, and_true] at h
          exact ⟨l, m, rfl, by omega, by simpa using h2, h.1.symm, by rw [← h.1]; omega, h.2.symm⟩
 · simp at h
theorem spend_err {p : List CoinR} {t : TxR} {q : List CoinR} {n : Int} {e : Nat} (h : spendP p t = (q, n, e + 1)) : q = p ∧ n = 0 := by
 unfold spendP at h
 split at h
 · cases ht : takeP p t.ins with
   | none =>
    rw [ht] at h
    simp only [Prod.mk.injEq] at h
    exact ⟨h.1.symm, h.2.1.symm⟩
   | some r =>
    rw [ht] at h
    simp only at h
    split at h
    · simp only [Prod.mk.injEq] at h; exact ⟨h.1.symm, h.2.1.symm⟩
    · split at h
      · simp only [Prod.mk.injEq] at h; exact ⟨h.1.symm, h.2.1.symm⟩
      · split at h
        · simp only [Prod.mk.injEq] at h; exact ⟨h.1.symm, h.2.1.symm⟩
        · simp at h
 · simp only [Prod.mk.injEq] at h
   exact ⟨h.1.symm, h.2.1.symm⟩
theorem spend_may {p : List CoinR} {t : TxR} {q : List CoinR} {n : Int} (hp : idP p) (h : spendP p t = (q, n, 0)) : mayP q = true ∧ idP q ∧ sumV q + n = sumV p ∧ 0 ≤ n := by
 obtain ⟨hm, hx, _, l, m, ht, hw, hth, rfl, hl, rfl⟩ := spend_ok hp h
 obtain ⟨_, hb, hu⟩ := mayP_iff.1 hm
 obtain ⟨h1, h2, _, _, _⟩ := take_some _ _ _ ht
 simp only at h1 h2
 have hil : idP l := fun c hc => hp c (h1.subset hc)
 refine ⟨made_may hil (hu.sublist h1) (fun c hc => hb c (h1.subset hc)) hx hth hl, made_idP hil, ?_, by omega⟩
 rw [made_sum]
 omega
theorem spend_all {p : List CoinR} (hp : idP p) (hm : mayP p = true) (t : TxR) : mayP (spendP p t).1 = true ∧ idP (spendP p t).1 ∧ sumV (spendP p t).1 + (spendP p t).2.1 = sumV p ∧ 0 ≤ (spendP p t).2.1 := by
 rcases hs : spendP p t with ⟨q, n, e⟩
 cases e with
 | zero => exact spend_may hp hs
 | succ e =>
  obtain ⟨rfl, rfl⟩ := spend_err hs
  exact ⟨hm, hp, by simp, Int.le_refl _⟩
theorem run_all : ∀ (l : List TxR) (p : List CoinR) (n : Int) (q : List CoinR) (m : Int), idP p → mayP p = true → runP p n l = .ok (q, m) → mayP q = true ∧ idP q ∧ sumV q + m = sumV p + n ∧ n ≤ m
 | [], p, n, q, m, hp, hm, h => by
  unfold runP at h
  cases h
  exact ⟨hm, hp, rfl, Int.le_refl _⟩
 | t :: l, p, n, q, m, hp, hm, h => by
  unfold runP at h
  have ha := spend_all hp hm t
  rcases hs : spendP p t with ⟨q1, n1, e⟩
  rw [hs] at h ha
  cases e with
  | zero =>
   simp only at h ha
   obtain ⟨a, b, c, d⟩ := run_all l q1 (n + n1) q m ha.2.1 ha.1 h
   exact ⟨a, b, by omega, by omega⟩
  | succ e => simp only at h; cases h
theorem apply_all {p : List CoinR} (hp : idP p) (hm : mayP p = true) (l : List TxR) : mayP (applyP p l).1 = true ∧ idP (applyP p l).1 ∧ sumV (applyP p l).1 ≤ sumV p + 50 ∧ ((applyP p l).2 ≠ 0 → (applyP p l).1 = p) := by
 have base : mayP p = true ∧ idP p ∧ sumV p ≤ sumV p + 50 ∧ (∀ e : Nat, e ≠ 0 → p = p) := ⟨hm, hp, by omega, fun _ _ => rfl⟩
 unfold applyP
 rw [if_neg (by rw [hm]; decide)]
 split
 · exact ⟨base.1, base.2.1, base.2.2.1, fun _ => rfl⟩
 · cases hr : runP p 0 (if loneX l = true then l.tail else l) with
   | error e => exact ⟨base.1, base.2.1, base.2.2.1, fun _ => rfl⟩
   | ok r =>
    obtain ⟨q, n⟩ := r
    obtain ⟨a, b, c, d⟩ := run_all _ _ _ _ _ hp hm hr
    obtain ⟨_, hb, hu⟩ := mayP_iff.1 a
    cases l with
    | nil => exact ⟨a, b, by simp only; omega, fun h => absurd rfl h⟩
    | cons t l =>
     simp only
     split
     · exact ⟨a, b, by simp only; omega, fun h => absurd rfl h⟩
     · split
       · exact ⟨base.1, base.2.1, base.2.2.1, fun _ => rfl⟩
       · rename_i hx
         split
         · exact ⟨base.1, base.2.1, base.2.2.1, fun _ => rfl⟩
         · rename_i hth
           split
           · exact ⟨base.1, base.2.1, base.2.2.1, fun _ => rfl⟩
           · rename_i hw
             split
             · exact ⟨base.1, base.2.1, base.2.2.1, fun _ => rfl⟩
             · rename_i hl
               refine ⟨made_may b hu hb (by simpa using hx) (by simpa using hth) (by omega), made_idP b, ?_, fun h => absurd rfl h⟩
               simp only
               rw [made_sum]
               omega
theorem up_steps {p : List CoinR} (hp : idP p) (h : ∀ i, i + 1 < p.length → beforeK (keyC (p.getD i noC0)) (keyC (p.getD (i + 1) noC0)) = true) : upP p := by
 have get : ∀ i, (hi : i < p.length) → p.getD i noC0 = p[i] := fun i hi => by rw [gD, gE hi]; rfl
 have step : ∀ d i, (hi : i + d + 1 < p.length) → beforeK (keyC (p[i]'(by omega))) (keyC p[i + d + 1]) = true := by
  intro d
  induction d with
  | zero => intro i hi; have := h i hi; rwa [get i (by omega), get (i + 1) hi] at this
  | succ d ih =>
   intro i hi
   have h1 := ih i (by omega)
   have h2 := h (i + d + 1) hi
   rw [get (i + d + 1) (by omega), get (i + d + 1 + 1) (by omega)] at h2
   exact bef_trans (hp _ (List.getElem_mem _)) (hp _ (List.getElem_mem _)) (hp _ (List.getElem_mem _)) h1 h2
 refine List.pairwise_iff_getElem.2 fun i j hi hj hij => ?_
 obtain ⟨d, rfl⟩ : ∃ d, j = i + d + 1 := ⟨j - i - 1, by omega⟩
 exact step d i hj
section
variable {dst : Option Tmp} {ty : TypeId} {pos : String} {after : Array Edge} {gd : Option (Nat × Bool)}
end
theorem take_snocC {α : Type} {l : List α} {i : Nat} (d : α) (hi : i < l.length) : l.take (i + 1) = l.take i ++ [l.getD i d] := by
 rw [List.take_succ_eq_append_getElem hi, gD, gE hi]
 rfl
theorem newC_snoc (id : List Int) : ∀ (os : List OutR) (i : Int) (o : OutR), newC id i (os ++ [o]) = newC id i os ++ [⟨id, i + os.length, o.v, o.tw⟩]
 | [], i, o => by simp [newC]
 | x :: os, i, o => by
  have := newC_snoc id os (i + 1) o
  show _ :: newC id (i + 1) (os ++ [o]) = _ :: (newC id (i + 1) os ++ _)
  rw [this]
  congr 3
  simp only [List.length_cons]
  congr 1
  push_cast
  omega
theorem madeP_len (p cs : List CoinR) : (madeP p cs).length = cs.length + p.length := by rw [(madeP_perm cs p).length_eq, lA]
theorem newC_ok {id : List Int} {os : List OutR} (hid : isId id) (ho : ∀ o ∈ os, okOut o) (hl : os.length ≤ 1000) : okP (newC id 0 os) := fun c hc => by
 obtain ⟨h1, h2, h3, h4⟩ := newC_mem hc
 have h5 := ho _ h4
 refine ⟨by rw [h1]; exact hid, ?_, h5.1, h5.2⟩
 unfold I64
 omega
theorem madeP_ok {p cs : List CoinR} (hp : okP p) (hc : okP cs) : okP (madeP p cs) := fun c h => by
 rcases List.mem_append.1 ((madeP_perm cs p).mem_iff.1 h) with h | h
 · exact hc c h
 · exact hp c h
theorem takeP_snoc : ∀ (xs : List InR) (l : List CoinR) (x : InR), takeP l (xs ++ [x]) = match takeP l xs with
  | none => none
  | some r => match r.1.find? (fun c => decide (keyC c = x)) with
   | none => none
   | some c => some (r.1.eraseP fun c => decide (keyC c = x), r.2 + c.v)
 | [], l, x => by
  show takeP l [x] = _
  unfold takeP takeP
  simp only
  cases l.find? (fun c => decide (keyC c = x)) with
  | none => rfl
  | some c => simp
 | y :: xs, l, x => by
  show takeP l (y :: (xs ++ [x])) = _
  unfold takeP
  cases l.find? (fun c => decide (keyC c = y)) with
  | none => rfl
  | some c =>
   simp only
   rw [takeP_snoc xs]
   cases takeP (l.eraseP fun c => decide (keyC c = y)) xs with
   | none => rfl
   | some r =>
    simp only
    cases r.1.find? (fun c => decide (keyC c = x)) with
    | none => rfl
    | some d => simp only [Option.some.injEq, Prod.mk.injEq, true_and]; omega
theorem takeP_more {l : List CoinR} {xs : List InR} (h : takeP l xs = none) : ∀ ys, takeP l (xs ++ ys) = none := by
 intro ys
 induction xs generalizing l with
 | nil => cases h
 | cons x xs ih =>
  unfold takeP at h
  show takeP l (x :: (xs ++ ys)) = none
  unfold takeP
  cases hf : l.find? (fun c => decide (keyC c = x)) with
  | none => rfl
  | some c =>
   rw [hf] at h
   simp only at h
   cases ht : takeP (l.eraseP fun c => decide (keyC c = x)) xs with
   | none => simp only; rw [ih ht]
   | some r => rw [ht] at h; cases h
theorem find_place {l : List CoinR} {x : InR} {k : Nat} (d : CoinR) (h : findP l x = (k : Int)) : k < l.length ∧ l.find? (fun c => decide (keyC c = x)) = some (l.getD k d) ∧ (l.eraseP fun c => decide (keyC c = x)) = l.take k ++ l.drop (k + 1) := by
 rcases findP_cases l x with ⟨e, _⟩ | ⟨j, hj, e, h1, h2⟩
 · omega
 · obtain rfl : j = k := by omega
   clear e h
   have hd : l.getD j d = l.getD j noCoin := by rw [gD, gE hj, gD, gE hj]; rfl
   rw [hd]
   refine ⟨hj, ?_⟩
   induction l generalizing j with
   | nil => cases hj
   | cons c l ih =>
    cases j with
    | zero =>
     have hc : keyC c = x := h1
     exact ⟨by rw [List.find?_cons_of_pos (by simpa using hc)]; rfl, by rw [List.eraseP_cons_of_pos (by simpa using hc)]; rfl⟩
    | succ j =>
     have hc : keyC c ≠ x := h2 0 (by omega)
     have h3 := ih j (by simpa using hj) h1 (fun i hi => h2 (i + 1) (by omega)) (by rw [gD, gE (show j < l.length by simpa using hj), gD, gE (show j < l.length by simpa using hj)]; rfl)
     refine ⟨by rw [List.find?_cons_of_neg (by simpa using hc)]; exact h3.1, by rw [List.eraseP_cons_of_neg (by simpa using hc), h3.2]; rfl⟩
theorem find_nowhere {l : List CoinR} {x : InR} (h : findP l x = -1) : l.find? (fun c => decide (keyC c = x)) = none := by
 rcases findP_cases l x with ⟨_, e⟩ | ⟨j, _, e, _⟩
 · exact List.find?_eq_none.2 fun c hc => by simpa using e c hc
 · omega
theorem take_stepC {p : List CoinR} {xs : List InR} {i : Nat} (dx : InR) (d : CoinR) (hi : i < xs.length) {l : List CoinR} {n : Int} (h : takeP p (xs.take i) = some (l, n)) {k : Nat} (hk : findP l (xs.getD i dx) = (k : Int)) :
  takeP p (xs.take (i + 1)) = some (l.take k ++ l.drop (k + 1), n + (l.getD k d).v) := by
 obtain ⟨_, h1, h2⟩ := find_place d hk
 rw [take_snocC dx hi, takeP_snoc, h]
 simp only
 rw [h1, h2]
theorem take_stopC {p : List CoinR} {xs : List InR} {i : Nat} (dx : InR) (hi : i < xs.length) {l : List CoinR} {n : Int} (h : takeP p (xs.take i) = some (l, n)) (hk : findP l (xs.getD i dx) = -1) : takeP p xs = none := by
 have h1 : takeP p (xs.take (i + 1)) = none := by
  rw [take_snocC dx hi, takeP_snoc, h]
  simp only
  rw [find_nowhere hk]
 have := takeP_more h1 (xs.drop (i + 1))
 rwa [List.take_append_drop] at this
theorem runP_cons (p : List CoinR) (n : Int) (t : TxR) (l : List TxR) : runP p n (t :: l) = match spendP p t with
 | (q, m, 0) => runP q (n + m) l
 | (_, _, e + 1) => .error (e + 1) := rfl
theorem runP_app : ∀ (xs : List TxR) (p : List CoinR) (n : Int) (ys : List TxR), runP p n (xs ++ ys) = match runP p n xs with
  | .error e => .error e
  | .ok (q, m) => runP q m ys
 | [], p, n, ys => rfl
 | t :: xs, p, n, ys => by
  show runP p n (t :: (xs ++ ys)) = _
  rw [runP_cons, runP_cons]
  rcases hs : spendP p t with ⟨q, m, e⟩
  cases e with
  | zero => simp only; exact runP_app xs q (n + m) ys
  | succ e => rfl
theorem getD_dC {p : List CoinR} {i : Nat} (h : i < p.length) : p.getD i noC0 = p.getD i noCoin := by rw [gD, gE h, gD, gE h]; rfl
theorem findP_hit0 {p : List CoinR} {x : InR} {k : Nat} (hk : k < p.length) (h : keyC (p.getD k noC0) = x) (hn : ∀ j, j < k → keyC (p.getD j noC0) ≠ x) : findP p x = (k : Int) :=
 findP_hit hk (by rw [← getD_dC hk]; exact h) (fun j hj => by rw [← getD_dC (by omega)]; exact hn j hj)
theorem findP_none0 {p : List CoinR} {x : InR} (h : ∀ j, j < p.length → keyC (p.getD j noC0) ≠ x) : findP p x = -1 := findP_none fun c hc => by
 obtain ⟨j, hj, rfl⟩ := List.getElem_of_mem hc
 have := h j hj
 rwa [gD, gE hj] at this
theorem thereP_hit {p : List CoinR} {id : List Int} {k : Nat} (hk : k < p.length) (h : (p.getD k noC0).tx = id) : thereP p id = true := by
 unfold thereP
 rw [List.any_eq_true]
 exact ⟨p.getD k noC0, by rw [gD, gE hk]; exact List.getElem_mem hk, by simpa using h⟩
theorem bound_v2 {c : CoinR} (h : boundC c = true) : 1 ≤ c.v ∧ c.v ≤ 1099511627776 := by
 unfold boundC at h
 rw [decide_eq_true_eq] at h
 exact ⟨h.2.2.1, h.2.2.2.1⟩
theorem sumV_bound : ∀ {p : List CoinR}, (∀ c ∈ p, boundC c = true) → 0 ≤ sumV p ∧ sumV p ≤ 1099511627776 * p.length
 | [], _ => by simp [sumV]
 | c :: p, h => by
  have h1 := sumV_bound (p := p) (fun d hd => h d (mT hd))
  have h2 := bound_v2 (h c (List.mem_cons_self ..))
  rw [sumV_cons, List.length_cons]
  push_cast
  omega
def worthL (l : List OutR) : Int := (l.map (·.v)).sum
theorem worthL_step {l : List OutR} {i : Nat} (d : OutR) (hi : i < l.length) : worthL (l.take (i + 1)) = worthL (l.take i) + (l.getD i d).v := by
 rw [take_snocC d hi]
 unfold worthL
 rw [List.map_append, List.sum_append]
 simp
theorem outV_bound {o : OutR} (h : mayOut o = true) : 1 ≤ o.v ∧ o.v ≤ 1099511627776 := by
 unfold mayOut at h
 rw [decide_eq_true_eq] at h
 exact ⟨h.1, h.2.1⟩
theorem worthL_bound : ∀ {l : List OutR}, (∀ o ∈ l, mayOut o = true) → 0 ≤ worthL l ∧ worthL l ≤ 1099511627776 * l.length
 | [], _ => by simp [worthL]
 | c :: p, h => by
  have h1 := worthL_bound (l := p) (fun d hd => h d (mT hd))
  have h2 := outV_bound (h c (List.mem_cons_self ..))
  have e : worthL (c :: p) = c.v + worthL p := by unfold worthL; rw [List.map_cons, List.sum_cons]
  rw [e, List.length_cons]
  push_cast
  omega
theorem box_idvP {w0 u : World} {M : Boxes} {g : Nat} {ty : TypeId} {ys : List Int} (hu : EnvC w0 M u) (hm : (g, oc (arrB 32 ys) ty) ∈ M) (h : ys.length = 32) : (loadVar 23 ⟨g, 0, none⟩).run Tryz.prog u = .ok (idv ys) u := by
 have := box_agg aggIdT (k := 0) hu hm _ (idA_list h) (by rw [List.drop_zero, tL (by rw [idA_list h]; exact Nat.le_refl _)])
 rwa [Array.toArray_toList] at this
def CoSl (w : World) (v : Value) (q : List CoinR) : Prop := ∃ A c, v = .slice A q.length c ∧ q.length ≤ c ∧ c ≤ maxLen ∧ CoinsIn w w.heap.size A q
theorem coins_split (l : List CoinR) (k : Nat) : (l.map coC).flatten = ((l.take k).map coC).flatten ++ ((l.drop k).map coC).flatten := by rw [← List.flatten_append, ← List.map_append, List.take_append_drop]
theorem CoinsIn.first {w : World} {B : Nat} {A : Option Addr} {l : List CoinR} (h : CoinsIn w B A l) (k : Nat) : CoinsIn w B A (l.take k) := by
 unfold CoinsIn at *
 intro hp
 have e := coins_split l k
 obtain ⟨ad, e1, hb, hc⟩ := h (by rw [e, lA]; omega)
 refine ⟨ad, e1, hb, fun j v hj => hc j v ?_⟩
 rw [e, List.getElem?_append_left]
 · exact hj
 · rcases Nat.lt_or_ge j ((l.take k).map coC).flatten.length with h' | h'
   · exact h'
   · rw [gN h'] at hj; cases hj
theorem CoinsIn.rest {w : World} {B : Nat} {A : Option Addr} {l : List CoinR} (h : CoinsIn w B A l) (hl : ∀ c ∈ l, lenC c) {k c : Nat} (hk : k ≤ l.length) (hc : l.length ≤ c) : CellsIn w B (cutX 35 A k c) ((l.drop k).map coC).flatten := by
 have e := coins_split l k
 have hlen : ((l.take k).map coC).flatten.length = k * 35 := by
  rw [(rowsCo (fun x hx => hl x (List.mem_of_mem_take hx))).flat_len, lM, List.length_take, Nat.min_eq_left hk]
 have hd : ((l.drop k).map coC).flatten = (l.map coC).flatten.drop (k * 35) := by rw [e, List.drop_left' hlen]
 rw [hd]
 refine CellsIn.drop h 35 k c ?_
 rcases Nat.lt_or_ge k c with h' | h'
 · exact .inl h'
 · refine .inr ?_
   rw [(rowsCo hl).flat_len, lM]
   have : l.length = k := by omega
   rw [this]
   exact Nat.le_refl _
theorem flat35 {l : List CoinR} (hl : ∀ c ∈ l, lenC c) : (l.map coC).flatten.length = l.length * 35 := by rw [(rowsCo hl).flat_len, lM]
theorem coins_one (l : List CoinR) : ∀ u ∈ (l.map coC).flatten, u.oneCell' = true := fun u hu => by
 obtain ⟨r, hr, h⟩ := List.mem_flatten.1 hu
 obtain ⟨c, _, rfl⟩ := List.mem_map.1 hr
 exact coC_one c u h
theorem take_bounds {p : List CoinR} (hm : mayP p = true) (hp : okP p) {xs : List InR} {l : List CoinR} {m : Int} (h : takeP p xs = some (l, m)) : okP l ∧ l.length ≤ 48 ∧ 0 ≤ m ∧ m ≤ 52776558133248 ∧ (∀ c ∈ l, boundC c = true) := by
 obtain ⟨h1, h2, h3, _, h5⟩ := take_some _ _ _ h
 simp only at h1 h2 h3 h5
 obtain ⟨k1, k2, _⟩ := mayP_iff.1 hm
 have hb : ∀ c ∈ l, boundC c = true := fun c hc => k2 c (h1.subset hc)
 have b1 := sumV_bound hb
 have b2 := sumV_bound k2
 have hl := h1.length_le
 refine ⟨fun c hc => hp c (h1.subset hc), by omega, h5 (fun d hd => by have := bound_v (k2 d hd); omega), by omega, hb⟩
theorem spend_arg1 {p : List CoinR} {t : TxR} (h : mayP p = false) : spendP p t = (p, 0, 1) := by unfold spendP; rw [h]; rfl
theorem spend_arg2 {p : List CoinR} {t : TxR} (h : mayX t = false) : spendP p t = (p, 0, 1) := by unfold spendP; rw [h, Bool.and_false]; rfl
theorem spend_arg3 {p : List CoinR} {t : TxR} (h : t.ins = []) : spendP p t = (p, 0, 1) := by
 unfold spendP
 rw [if_neg (by rw [h]; simp)]
theorem spend_none {p : List CoinR} {t : TxR} (h1 : mayP p = true) (h2 : mayX t = true) (h3 : t.ins ≠ []) (h : takeP p t.ins = none) : spendP p t = (p, 0, 8) := by
 unfold spendP
 rw [h1, h2, if_pos (by simpa using h3), h]
theorem spend_some {p : List CoinR} {t : TxR} (h1 : mayP p = true) (h2 : mayX t = true) (h3 : t.ins ≠ []) {l : List CoinR} {m : Int} (h : takeP p t.ins = some (l, m)) : spendP p t = if m < worthX t then (p, 0, 8) else if thereP l (idX t) then (p, 0, 10) else if 48 < (madeP l (newC (idX t) 0 t.outs)).length then (p, 0, 11) else (madeP l (newC (idX t) 0 t.outs), m - worthX t, 0) := by
 unfold spendP
 rw [h1, h2, if_pos (by simpa using h3), h]
theorem okP_of {q : List CoinR} (h1 : idP q) (h2 : ∀ c ∈ q, boundC c = true) : okP q := fun c hc => by
 have h := h2 c hc
 unfold boundC at h
 rw [decide_eq_true_eq] at h
 refine ⟨h1 c hc, ?_, ?_, ?_⟩ <;> (unfold I64; omega)
theorem run_bounds {p : List CoinR} (hm : mayP p = true) (hp : okP p) {l : List TxR} {q : List CoinR} {m : Int} (h : runP p 0 l = .ok (q, m)) : okP q ∧ q.length ≤ 48 ∧ 0 ≤ m ∧ m ≤ 52776558133248 ∧ mayP q = true := by
 obtain ⟨a, b, c, d⟩ := run_all _ _ _ _ _ hp.id hm h
 obtain ⟨k1, k2, _⟩ := mayP_iff.1 a
 have b1 := sumV_bound k2
 have b2 := sumV_bound (mayP_iff.1 hm).2.1
 have b3 := (mayP_iff.1 hm).1
 exact ⟨okP_of b k2, k1, d, by omega, a⟩
theorem apply_arg {p : List CoinR} {l : List TxR} (h : mayP p = false) : applyP p l = (p, 1) := by unfold applyP; rw [if_pos h]
theorem apply_size {p : List CoinR} {l : List TxR} (h : mayP p = true) (h2 : 4 < l.length) : applyP p l = (p, 3) := by unfold applyP; rw [if_neg (by rw [h]; decide), if_pos h2]
theorem apply_err {p : List CoinR} {l : List TxR} (h : mayP p = true) (h2 : ¬ 4 < l.length) {e : Nat} (hr : runP p 0 (if loneX l then l.tail else l) = .error e) : applyP p l = (p, e) := by
 unfold applyP
 rw [if_neg (by rw [h]; decide), if_neg h2]
 have hr' : runP p 0 (if loneX l = true then l.tail else l) = .error e := hr
 rw [hr']
theorem apply_out {p : List CoinR} {l : List TxR} (h : mayP p = true) (h2 : ¬ 4 < l.length) {q : List CoinR} {m : Int} (hr : runP p 0 (if loneX l then l.tail else l) = .ok (q, m)) (hl : loneX l = false) : applyP p l = (q, 0) := by
 unfold applyP
 rw [if_neg (by rw [h]; decide), if_neg h2]
 have hr' : runP p 0 (if loneX l = true then l.tail else l) = .ok (q, m) := hr
 rw [hr']
 cases l with
 | nil => rfl
 | cons t l =>
  simp only
  rw [if_pos (by unfold loneX at hl; simpa using hl)]
theorem apply_lone {p : List CoinR} {l : List TxR} (h : mayP p = true) (h2 : ¬ 4 < l.length) {q : List CoinR} {m : Int} (hr : runP p 0 (if loneX l then l.tail else l) = .ok (q, m)) (hl : loneX l = true) (d : TxR) : applyP p l =
  if mayX (l.getD 0 d) = false then (p, 1) else if thereP q (idX (l.getD 0 d)) then (p, 10) else if 50 + m < worthX (l.getD 0 d) then (p, 8) else if 48 < (madeP q (newC (idX (l.getD 0 d)) 0 (l.getD 0 d).outs)).length then (p, 11) else (madeP q (newC (idX (l.getD 0 d)) 0 (l.getD 0 d).outs), 0) := by
 unfold applyP
 rw [if_neg (by rw [h]; decide), if_neg h2]
 have hr' : runP p 0 (if loneX l = true then l.tail else l) = .ok (q, m) := hr
 rw [hr']
 cases l with
 | nil => cases hl
 | cons t l =>
  simp only
  rw [if_neg (by unfold loneX at hl; simpa using hl)]
  rfl
theorem lone_get {l : List TxR} (d : TxR) (h : 0 < l.length) : loneX l = decide ((l.getD 0 d).ins = []) := by
 cases l with
 | nil => cases h
 | cons t l => rfl
section
variable {a : Act} {dst : Option Tmp} {x y : Operand} {ty : TypeId} {pos : String} {after : Array Edge} {gd : Option (Nat × Bool)}
theorem neErr_op {m k : Int} {b : Bool} (u : World) (hb : decide (m ≠ k) = b) (hx : a.eval x = .int .i64 m) (hy : a.eval y = .int .i64 k) :
  (execOp a.eval ⟨dst, .binOp .neq 43 x y 43, ty, pos, after, gd⟩).run Tryz.prog u = .ok (.value (.bool b)) u := by
 have e : (m != k) = b := by rw [← hb]; by_cases h : m = k <;> simp [h]
 subst e
 unfold execOp
 simp only [hx, hy]
 go_simp
end
section
variable {a : Act} {dst : Option Tmp} {x y : Operand} {ty : TypeId} {pos : String} {after : Array Edge} {gd : Option (Nat × Bool)}
end
section
variable {w0 u : World} {M : Boxes} {g : Nat} {t : TypeId}
end
def fewX (t : TxR) : Bool := decide (t.ins.length ≤ 6 ∧ t.outs.length ≤ 6)
theorem fewX_eq {t : TxR} {n1 n2 : Nat} (h1 : t.ins.length = n1) (h2 : t.outs.length = n2) : fewX t = (decide ((n1 : Int) ≤ 6) && decide ((n2 : Int) ≤ 6)) := by
 unfold fewX
 rw [h1, h2, Bool.eq_iff_iff]
 simp only [decide_eq_true_eq, Bool.and_eq_true]
 omega
theorem few_one (r : TxR) (A1 : Option Addr) (n1 c1 : Nat) (A2 : Option Addr) (n2 c2 : Nat) (w : World) (ht : TxOk w ⟨r, A1, n1, c1, A2, n2, c2⟩) :
  Rz 62 #[txV ⟨r, A1, n1, c1, A2, n2, c2⟩] w (.bool (fewX r)) := by
 unfold Rz
 have hfe := fewX_eq ht.l1 ht.l2
 have HN63 := hD ht.n63
 have E1 : Hid (EnvX w (w.alloc (.cells (txA ⟨r, A1, n1, c1, A2, n2, c2⟩) 95)) [(w.heap.size, oc (txA ⟨r, A1, n1, c1, A2, n2, c2⟩) 95)]) := (EnvX.start w).new _
 dsimp only at hfe
 rw [hfe]
 clear hfe ht
 obtain ⟨d, hd⟩ : ∃ d, decide ((n2 : Int) ≤ 6) = d := ⟨_, rfl⟩
 have HD := hD hd
 rw [hd]
 clear hd
 unfold txV
 cases hb : decide ((n1 : Int) ≤ 6) with
 | false =>
  have C1 := hD hb
  clear hb
  go_enter Tryz.func62, Tryz.ntmps62
  go_upto_region 1 with (fail)
  generalize w.alloc (.cells (txA ⟨r, A1, n1, c1, A2, n2, c2⟩) 95) = W at *
  refine rgQ [0,1,2,3,4,5,6,7,8,9,10] [] E1 rfl fun hw => ?_
  refine qo rfl hw ?_
  refine ql rfl mH trivial hw ?_
  refine qv rfl (fun u hu => len_op Tryz.underlying92 HN63.out.1 u rfl) hw ?_
  refine qv rfl (fun u hu => leZ_op u C1.out rfl rfl) hw ?_
  refine qw 7 hw ?_
  refine enP fun u3 EX2 => ?_
  have HBE := hD (EnvX.bel EX2.out)
  go_wp2
  go_ret
  exact ⟨rfl, HBE.out⟩
 | true =>
  have C1 := hD hb
  clear hb
  go_enter Tryz.func62, Tryz.ntmps62
  go_upto_region 1 with (fail)
  generalize w.alloc (.cells (txA ⟨r, A1, n1, c1, A2, n2, c2⟩) 95) = W at *
  refine rgQ [0,1,2,3,4,5,6,7,8,9,10] [] E1 rfl fun hw => ?_
  refine qo rfl hw ?_
  refine ql rfl mH trivial hw ?_
  refine qv rfl (fun u hu => len_op Tryz.underlying92 HN63.out.1 u rfl) hw ?_
  refine qv rfl (fun u hu => leZ_op u C1.out rfl rfl) hw ?_
  refine qw 2 hw ?_
  refine ql rfl mH trivial hw ?_
  refine qv rfl (fun u hu => len_op Tryz.underlying93 HN63.out.2 u rfl) hw ?_
  refine qv rfl (fun u hu => leZ_op u HD.out rfl rfl) hw ?_
  refine qw 2 hw ?_
  refine enP fun u3 EX2 => ?_
  have HBE := hD (EnvX.bel EX2.out)
  go_wp2
  go_ret
  exact ⟨rfl, HBE.out⟩
theorem few_any (t : TxM) (w : World) (ht : TxOk w t) : Rz 62 #[txV t] w (.bool (fewX t.r)) := by
 unfold Rz
 obtain ⟨r, A1, n1, c1, A2, n2, c2⟩ := t
 exact few_one r A1 n1 c1 A2 n2 c2 w ht
def CoB (q : List CoinR) (A : Option Addr) (N : Boxes) : Prop := ((q.map coC).flatten = [] ∧ N = []) ∨
  ∃ ad o, A = some ad ∧ N = [(ad.block, o)] ∧ ∀ u : World, u.heap[ad.block]? = some o → ∀ j v, ((q.map coC).flatten)[j]? = some v → u.cell? (ad.add j) = some v
theorem CoB.read {q : List CoinR} {A : Option Addr} {N M : Boxes} {w0 u : World} (h : CoB q A N) (hu : EnvX w0 u M) (hN : ∀ y ∈ N, y ∈ M) : CoinsIn u u.heap.size A q := by
 intro hp
 rcases h with ⟨h, _⟩ | ⟨ad, o, rfl, rfl, hc⟩
 · rw [h] at hp; exact absurd hp (Nat.lt_irrefl 0)
 · have hm := hN _ (mS.2 rfl)
   exact ⟨ad, rfl, hu.lt hm, hc u (hu.box _ _ hm)⟩
theorem CoB.of {q : List CoinR} {A : Option Addr} {w : World} (h : CoinsIn w w.heap.size A q) : ∃ N, CoB q A N ∧ ∀ y ∈ N, w.heap[y.1]? = some y.2 := by
 by_cases h0 : (q.map coC).flatten = []
 · exact ⟨[], .inl ⟨h0, rfl⟩, fun y hy => by cases hy⟩
 · obtain ⟨ad, rfl, hb, hc⟩ := h (List.length_pos_iff.2 h0)
   refine ⟨[(ad.block, w.heap[ad.block])], .inr ⟨ad, _, rfl, rfl, fun u hu j v hv => ?_⟩, fun y hy => by cases mS.1 hy; exact Array.getElem?_eq_getElem hb⟩
   have h1 := hc j v hv
   have hbl : (ad.add j).block = ad.block := block_of_add _ _
   unfold World.cell? at h1 ⊢
   rw [hbl] at h1 ⊢
   rw [hu]
   rw [Array.getElem?_eq_getElem hb] at h1
   exact h1
theorem co_turn2 {f : FuncId} {args : Array Value} {u w0 : World} {M : Boxes} {q : List CoinR} {x : Value} (h : Calls Tryz.prog f args u fun e w' => (∃ v, e = .returned (.tuple #[v, x]) ∧ CoSl w' v q) ∧ Below u.heap.size u w') (hu : EnvX w0 u M) :
  Calls Tryz.prog f args u fun e w' => ∃ r M', e = .returned r ∧ EnvX w0 w' M' ∧ ∃ A c N, r = .tuple #[.slice A q.length c, x] ∧ M' = N ++ M ∧ (q.length ≤ c ∧ c ≤ maxLen) ∧ CoB q A N :=
 h.mono fun e w' ⟨⟨v, he, A, c, hv, h1, h2, h3⟩, hb⟩ => by
  subst hv
  obtain ⟨N, hN, hbx⟩ := CoB.of h3
  have hE := EnvX.below hu hb
  refine ⟨_, N ++ M, he, ⟨hE.bel, fun g o hm => ?_⟩, A, c, N, rfl, rfl, ⟨h1, h2⟩, hN⟩
  rcases List.mem_append.1 hm with h | h
  · exact hbx _ h
  · exact hE.box g o h
theorem ccellsCo : Tryz.prog.cellsOf 104 = 35 := by kernel_rfl
section
variable {H : Type} {enc : TypeId × Value → H} {W : World} {base : Nat} {spare : Nat → Bool} {held : Bool} {fuel : Nat} {cs : List Value} {x : DataW H × List MemPlace}
theorem co_cells (h : DataW.trod enc Tryz.prog W base spare held fuel 104 cs = some x) : ∃ t : CoinR, okCoin t ∧ cs = coC t := by
 obtain ⟨y0, y1, n, _, hl, h0, h1⟩ := trod_struct2 Tryz.underlying104 h
 rw [ccellsCo] at hl
 obtain ⟨k, hk, e0⟩ := in_cells h0
 obtain ⟨o, ho, e1⟩ := out_cells h1
 have e0' : cs.take 33 = inC k := by
  have h := e0
  rw [show Tryz.prog.cellsOf 100 = 33 from ccellsIn] at h
  exact h
 have e1' : (cs.drop 33).take 2 = outC o := by
  have h := e1
  rw [show Tryz.prog.cellsOf 102 = 2 from ccellsOut] at h
  exact h
 refine ⟨⟨k.tx, k.i, o.v, o.tw⟩, ⟨hk.1, hk.2, ho.1, ho.2⟩, ?_⟩
 show cs = inC k ++ outC o
 rw [← e0', ← e1', List.take_of_length_le (l := cs.drop 33) (by rw [List.length_drop]; omega), List.take_append_drop]
end
section
variable {H : Type} {enc : TypeId × Value → H} {W : World} {base : Nat} {v : Value} {d : DataW H} {p : List MemPlace}
end
attribute [local go_sem ↓] Go.wp_at_zero Go.wp_at_succ
def topN (a k : Nat) : Nat := a / 2 ^ (256 - k)
theorem top_zero (a : Nat) (h : a < Big) : topN a 0 = 0 := by
 unfold topN
 rw [Big_eq] at h
 exact Nat.div_eq_of_lt h
theorem top_all (a : Nat) : topN a 256 = a := by
 unfold topN
 simp
theorem top_step (a k : Nat) (h : k < 256) : topN a (k + 1) = 2 * topN a k + bitN a (255 - k) := by
 unfold topN bitN
 have e : 256 - k = (256 - (k + 1)) + 1 := by omega
 rw [e, Nat.pow_succ, ← Nat.div_div_eq_div_mul, show 255 - k = 256 - (k + 1) by omega]
 omega
theorem top_lt (a k : Nat) (h : a < Big) (hk : k ≤ 256) : topN a k < 2 ^ k := by
 unfold topN
 rw [Big_eq] at h
 rw [Nat.div_lt_iff_lt_mul (Nat.two_pow_pos _), ← Nat.pow_add, show k + (256 - k) = 256 by omega]
 exact h
theorem bitN_lt (a i : Nat) : bitN a i < 2 := Nat.mod_lt _ (by omega)
theorem or_even (v b : Nat) (hv : v < 18446744073709551616) (h2 : v % 2 = 0) (hb : b < 2) : bits .or .u64 (v : Int) (b : Int) = ((v + b : Nat) : Int) := by
 rw [bits_or_u64_nat v b hv (by omega)]
 congr 1
 have h := Nat.shiftLeft_add_eq_or_of_lt (a := v / 2) (b := b) (i := 1) (by omega)
 rw [Nat.shiftLeft_eq] at h
 rw [show v / 2 * 2 ^ 1 = v by omega] at h
 exact h.symm
theorem W0 (m : Nat) : W m 0 = m % 18446744073709551616 := by
 unfold W
 simp
theorem wc_set_bit (v b : Nat) (hv : v < Big) (h2 : v % 2 = 0) (hb : b < 2) : (wcs v).setIfInBounds 0 (.int .u64 (bits .or .u64 (W v 0) b)) = wcs (v + b) := by
 obtain ⟨x, y, z, u, rfl, hx, hy, hz, hu⟩ := split4 v hv
 have e : mk4 x y z u + b = mk4 (x + b) y z u := by unfold mk4; omega
 have hx2 : x % 2 = 0 := by unfold mk4 at h2; omega
 have ew : W (mk4 x y z u) 0 = x := by rw [W0]; unfold mk4; omega
 rw [e, ew, or_even x b hx hx2 hb]
 unfold wcs
 rw [wl_mk4 x y z u hx hy hz hu, wl_mk4 (x + b) y z u (by omega) hy hz hu]
 rfl
theorem div_round (a b k : Nat) (hb : 0 < b) (hB : b < Big) (l v : Nat) (hl : l = topN a k % b) (hv : v = 2 * l + bitN a (255 - k)) (hk : k < 256) :
   (b ≤ v → topN a (k + 1) / b = 2 * (topN a k / b) + 1 ∧ topN a (k + 1) % b = v - b) ∧ (v < b → topN a (k + 1) / b = 2 * (topN a k / b) ∧ topN a (k + 1) % b = v) := by
 have ht := top_step a k hk
 have hlb : l < b := hl ▸ Nat.mod_lt _ hb
 have hbit := bitN_lt a (255 - k)
 have e : topN a (k + 1) = b * (2 * (topN a k / b)) + v := by
   rw [ht, hv, hl]
   have := Nat.div_add_mod (topN a k) b
   generalize topN a k / b = q at *
   rw [show b * (2 * q) = 2 * (b * q) by rw [Nat.mul_left_comm]]
   omega
 constructor
 · intro h
   have e2 : topN a (k + 1) = (v - b) + b * (2 * (topN a k / b) + 1) := by
    rw [e, Nat.mul_add, Nat.mul_one]; omega
   have hlt : v - b < b := by omega
   rw [e2, Nat.add_mul_div_left _ _ hb, Nat.add_mul_mod_self_left, Nat.div_eq_of_lt hlt, Nat.mod_eq_of_lt hlt]
   exact ⟨by omega, rfl⟩
 · intro h
   rw [e, Nat.mul_add_div hb, Nat.mul_add_mod, Nat.div_eq_of_lt h, Nat.mod_eq_of_lt h]
   exact ⟨by omega, rfl⟩
structure DivAt (w u : World) (g a b q l : Nat) : Prop where
  a : u.heap[g]? = some (.cells (wcs a) 26 (0, 0))
  b : u.heap[g + 1]? = some (.cells (wcs b) 26 (0, 0))
  r : u.heap[g + 1 + 1]? = some (.cells (wcs 0) 26 (0, 0))
  s : u.heap[g + 1 + 1 + 1]? = some (.cells (wcs 0) 26 (0, 0))
  q : u.heap[g + 1 + 1 + 1 + 1]? = some (.cells (wcs q) 26 (0, 0))
  l : u.heap[g + 1 + 1 + 1 + 1 + 1]? = some (.cells (wcs l) 26 (0, 0))
  lt : g + 1 + 1 + 1 + 1 + 1 < u.heap.size
  bel : Below g w u
theorem DivAt.below {w u v : World} {g a b q l : Nat} (h : DivAt w u g a b q l) (hb : Below u.heap.size u v) : DivAt w v g a b q l := by
 have := h.lt
 exact ⟨(hb.block _ (by omega)).trans h.a, (hb.block _ (by omega)).trans h.b, (hb.block _ (by omega)).trans h.r, (hb.block _ (by omega)).trans h.s, (hb.block _ (by omega)).trans h.q, (hb.block _ (by omega)).trans h.l, Nat.lt_of_lt_of_le h.lt hb.size, h.bel.trans (hb.mono (by omega))⟩
theorem DivAt.setL {w u : World} {g a b q l l' : Nat} (h : DivAt w u g a b q l) : DivAt w (u.setRow (g + 1 + 1 + 1 + 1 + 1) (wcs l')) g a b q l' := by
 have := h.lt
 exact ⟨(setRow_other _ _ _ _ (by omega)).trans h.a, (setRow_other _ _ _ _ (by omega)).trans h.b, (setRow_other _ _ _ _ (by omega)).trans h.r, (setRow_other _ _ _ _ (by omega)).trans h.s, (setRow_other _ _ _ _ (by omega)).trans h.q, setRow_heap _ _ (wcs l) _ _ _ h.l, by rw [size_setRow]; exact h.lt, below_setRow h.bel (by omega) _⟩
theorem DivAt.setQ {w u : World} {g a b q l q' : Nat} (h : DivAt w u g a b q l) : DivAt w (u.setRow (g + 1 + 1 + 1 + 1) (wcs q')) g a b q' l := by
 have := h.lt
 exact ⟨(setRow_other _ _ _ _ (by omega)).trans h.a, (setRow_other _ _ _ _ (by omega)).trans h.b, (setRow_other _ _ _ _ (by omega)).trans h.r, (setRow_other _ _ _ _ (by omega)).trans h.s, setRow_heap _ _ (wcs q) _ _ _ h.q, (setRow_other _ _ _ _ (by omega)).trans h.l, by rw [size_setRow]; exact h.lt, below_setRow h.bel (by omega) _⟩
theorem DivAt.drew {w u : World} {g a b q l : Nat} (h : DivAt w u g a b q l) : DivAt w u.drew g a b q l := ⟨h.a, h.b, h.r, h.s, h.q, h.l, h.lt, h.bel.drew⟩
theorem DivAt.alloc {w u : World} {g a b q l : Nat} (h : DivAt w u g a b q l) (o : Obj) : DivAt w (u.alloc o) g a b q l := h.below ((Below.refl _ _).alloc (Nat.le_refl _) _)
theorem DivAt.bitL {w u : World} {g a b q l c : Nat} (h : DivAt w u g a b q l) (hl : l < Big) (h2 : l % 2 = 0) (hc : c < 2) : DivAt w (u.setCell ⟨g + 1 + 1 + 1 + 1 + 1, 0, none⟩ (.int .u64 (bits .or .u64 (W l 0) c))) g a b q (l + c) := by
 have := h.lt
 have ra : Row u g 26 (wcs a) := h.a
 have rb : Row u (g + 1) 26 (wcs b) := h.b
 have rr : Row u (g + 1 + 1) 26 (wcs 0) := h.r
 have rs : Row u (g + 1 + 1 + 1) 26 (wcs 0) := h.s
 have rq : Row u (g + 1 + 1 + 1 + 1) 26 (wcs q) := h.q
 have rl : Row u (g + 1 + 1 + 1 + 1 + 1) 26 (wcs l) := h.l
 exact ⟨ra.farAt (by omega) _, rb.farAt (by omega) _, rr.farAt (by omega) _, rs.farAt (by omega) _, rq.farAt (by omega) _, by rw [← wc_set_bit l c hl h2 hc]; exact rl.put 0 _, by simpa using h.lt, h.bel.setCell (by simp; omega) _⟩
theorem DivAt.bitQ {w u : World} {g a b q l c : Nat} (h : DivAt w u g a b q l) (hl : q < Big) (h2 : q % 2 = 0) (hc : c < 2) : DivAt w (u.setCell ⟨g + 1 + 1 + 1 + 1, 0, none⟩ (.int .u64 (bits .or .u64 (W q 0) c))) g a b (q + c) l := by
 have := h.lt
 have ra : Row u g 26 (wcs a) := h.a
 have rb : Row u (g + 1) 26 (wcs b) := h.b
 have rr : Row u (g + 1 + 1) 26 (wcs 0) := h.r
 have rs : Row u (g + 1 + 1 + 1) 26 (wcs 0) := h.s
 have rq : Row u (g + 1 + 1 + 1 + 1) 26 (wcs q) := h.q
 have rl : Row u (g + 1 + 1 + 1 + 1 + 1) 26 (wcs l) := h.l
 exact ⟨ra.farAt (by omega) _, rb.farAt (by omega) _, rr.farAt (by omega) _, rs.farAt (by omega) _, by rw [← wc_set_bit q c hl h2 hc]; exact rq.put 0 _, rl.farAt (by omega) _, by simpa using h.lt, h.bel.setCell (by simp; omega) _⟩
attribute [local go_sem ↓] Go.wp_at_zero Go.wp_at_succ
theorem up_one (m : Nat) (w : World) (hm : m < Big) :
  Rz 73 #[.agg (wcs m), .int .i64 1] w (.agg (wcs (2 * m % Big))) := by
 unfold Rz
 have h := up_any m 1 w hm (by decide)
 rw [show m * 2 ^ 1 = 2 * m by omega] at h
 exact h
theorem bit_top (m : Nat) (w : World) :
 Calls Tryz.prog 165 #[.agg (wcs m), .int .i64 255] w fun e w' => e = .returned (.int .u64 (bitN m 255)) ∧ w' = w.alloc (.cells (wcs m) 26) := bit_n m 255 w (by decide)
theorem bit_at (m k : Nat) (w : World) (hk : k < 256) :
  Calls Tryz.prog 165 #[.agg #[.int .u64 (W m 0), .int .u64 (W m 1), .int .u64 (W m 2), .int .u64 (W m 3)], .int .i64 (255 - (k : Int))] w fun e w' => e = .returned (.int .u64 (bitN m (255 - k))) ∧ w' = w.alloc (.cells #[.int .u64 (W m 0), .int .u64 (W m 1), .int .u64 (W m 2), .int .u64 (W m 3)] 26) := by
 have h := bit_n m (255 - k) w (by omega)
 rw [wc_cells, show ((255 - k : Nat) : Int) = 255 - (k : Int) by omega] at h
 exact h
theorem div_cases (a b k l c l1 : Nat) (hlb : l < b) (hb : b < Big) (hc : bitN l 255 = c) (hl1 : 2 * l % Big = l1) : l1 + bitN a (255 - k) < Big ∧
   ((c = 1 ∧ ¬ b ≤ l1 + bitN a (255 - k) ∧ b ≤ 2 * l + bitN a (255 - k) ∧ (l1 + bitN a (255 - k) + (Big - b)) % Big = 2 * l + bitN a (255 - k) - b) ∨
    (c = 0 ∧ b ≤ l1 + bitN a (255 - k) ∧ b ≤ 2 * l + bitN a (255 - k) ∧ (l1 + bitN a (255 - k) + (Big - b)) % Big = 2 * l + bitN a (255 - k) - b) ∨
    (c = 0 ∧ ¬ b ≤ l1 + bitN a (255 - k) ∧ 2 * l + bitN a (255 - k) < b ∧ l1 + bitN a (255 - k) = 2 * l + bitN a (255 - k))) := by
 have he := bitN_lt a (255 - k)
 generalize bitN a (255 - k) = e at *
 unfold bitN at hc
 rw [show 2 ^ 255 = 57896044618658097711785492504343953926634992332820282019728792003956564819968 from rfl] at hc
 unfold Big at *
 by_cases h : l < 57896044618658097711785492504343953926634992332820282019728792003956564819968
 · have hc0 : c = 0 := by omega
   by_cases h2 : b ≤ l1 + e
   · exact ⟨by omega, .inr (.inl ⟨hc0, h2, by omega, by omega⟩)⟩
   · exact ⟨by omega, .inr (.inr ⟨hc0, h2, by omega, by omega⟩)⟩
 · exact ⟨by omega, .inl ⟨by omega, by omega, by omega, by omega⟩⟩
theorem put_none (a : Act) (v : Value) : a.put none v = a := rfl
theorem div_yes (a b : Nat) (w : World) (ha : a < Big) (hb : b < Big) (hb0 : 0 < b) :
  Rz 125 #[.agg (wcs a), .agg (wcs b)] w (.tuple #[.agg (wcs (a / b)), .agg (wcs (a % b)), .bool true]) := by
 unfold Rz
 have HA := hD ha
 have HB := hD hb
 have HB0 := hD hb0
 have heq := eql_zero b hb
 have hz : eqN b 0 = false := by simp [eqN]; omega
 rw [hz] at heq
 clear ha hb hb0 hz
 have R1 : Hid (((((w.alloc (.cells (wcs a) 26)).alloc (.cells (wcs b) 26)).alloc (.cells (wcs 0) 26)).alloc (.cells (wcs 0) 26)).heap[w.heap.size + 1]? = some (.cells (wcs b) 26 (0, 0))) := ((Row.newAt (by simp) 26 _).alloc _).alloc _
 go_enter Tryz.func125, Tryz.ntmps125
 go_wp2_with ((with_reducible refine wpList_load_row (o := ⟨some 13, _, _, _, _, _⟩) ?_ 26 (.tmp 3) ?_ (w.heap.size + 1) ?_ 26 (wcs b) (0, 0) _ ?_ Tryz.underlying26 ?_ (wc_info _) ?_); (rfl); (rfl); (rfl); (exact R1.out); (rfl))
 clear heq R1
 go_loopw [18] (fun i u => ∃ k : Nat, k ≤ 256 ∧ i = .int .i64 k ∧ Hid (DivAt w u w.heap.size a b (topN a k / b) (topN a k % b))) (fun i _ => 256 - (intOf i).toNat)
 case atStart =>
  refine ⟨0, by omega, rfl, ?_⟩
  show DivAt _ _ _ _ _ _ _
  rw [top_zero a HA.out, Nat.zero_div, Nat.zero_mod]
  exact ⟨((((((Row.new w 26 _).alloc _).alloc _).alloc _).alloc _).alloc _), (((((Row.newAt (by simp) 26 _).alloc _).alloc _).alloc _).alloc _), ((((Row.newAt (by simp) 26 _).alloc _).alloc _).alloc _), (((Row.newAt (by simp) 26 _).alloc _).alloc _), ((Row.newAt (by simp) 26 _).alloc _), (Row.newAt (by simp) 26 _), by simp, by go_grown⟩
 case round =>
  obtain ⟨k, hk, rfl, K0⟩ := hrel
  by_cases hlt : k < 256
  · have hk0 : (0 : Int) ≤ (k : Int) := by omega
    have hlti : (k : Int) < 256 := by omega
    have HD := hD (div_round a b k HB0.out HB.out _ _ rfl rfl hlt)
    have HLB := hD (Nat.mod_lt (topN a k) HB0.out)
    have HQ := hD (Nat.lt_of_le_of_lt (Nat.div_le_self (topN a k) b) (top_lt a k HA.out hk))
    generalize topN a k / b = q at *
    generalize topN a k % b = l at *
    go_wp2_with ((with_reducible refine wpList_load_row (o := ⟨some 21, _, _, _, _, _⟩) ?_ 26 (.tmp 8) ?_ (w.heap.size + 1 + 1 + 1 + 1 + 1) ?_ 26 (wcs l) (0, 0) _ K0.out.l Tryz.underlying26 ?_ (wc_info _) ?_); (rfl); (rfl); (rfl); (rfl))
    refine (bit_top l wr).mono ?_
    rintro e w1 ⟨rfl, rfl⟩
    have K1 := hD (K0.out.alloc (.cells (wcs l) 26))
    clear K0
    generalize wr.alloc (.cells (wcs l) 26) = w1 at *
    generalize hlost : bitN l 255 = c at *
    have HC := hD hlost
    clear hlost
    go_wp2_with ((with_reducible refine wpList_load_row (o := ⟨some 24, _, _, _, _, _⟩) ?_ 26 (.tmp 8) ?_ (w.heap.size + 1 + 1 + 1 + 1 + 1) ?_ 26 (wcs l) (0, 0) _ K1.out.l Tryz.underlying26 ?_ (wc_info _) ?_); (rfl); (rfl); (rfl); (rfl))
    refine (up_one l w1 (by have := HLB.out; have := HB.out; omega)).mono ?_
    rintro e w2 ⟨rfl, hbel⟩
    have K2 := hD (K1.out.below hbel)
    clear K1 hbel
    have hl1 : Hid (2 * l % Big < Big) := Nat.mod_lt _ Big_pos
    have hl2 : Hid (2 * l % Big % 2 = 0) := by show _ = _; unfold Big; omega
    generalize hl' : 2 * l % Big = l1 at *
    have HL1 := hD hl'
    clear hl'
    have K3 : Hid (DivAt w (w2.setRow (w.heap.size + 1 + 1 + 1 + 1 + 1) (wcs l1)) w.heap.size a b q l1) := K2.out.setL
    have KL : Hid (w2.heap[w.heap.size + 1 + 1 + 1 + 1 + 1]? = some (.cells (wcs l) 26 (0, 0))) := K2.out.l
    clear K2
    go_upto_region 9 with ((with_reducible refine wpList_store_row (o := ⟨none, .store 26 _ _, _, _, _, _⟩) ?_ 26 (.tmp 8) (.tmp 25) ?_ (w.heap.size + 1 + 1 + 1 + 1 + 1) (wcs l1) ?_ ?_ 26 (wcs l) KL.out (wc_info l1) (by rw [wc_size, wc_size]) (wc_one l1) ?_); (rfl); (rfl); (rfl); (rfl))
    clear KL
    generalize w2.setRow (w.heap.size + 1 + 1 + 1 + 1 + 1) (wcs l1) = w3 at *
    have ra : Row w3 w.heap.size 26 (wcs a) := K3.out.a
    have rl : Row w3 (w.heap.size + 1 + 1 + 1 + 1 + 1) 26 (wcs l1) := K3.out.l
    have c0 : w3.cell? ⟨w.heap.size, 0, none⟩ = some (.int .u64 (W a 0)) := (ra.cell 0).trans (wc_get a 0 (by decide))
    have c1 : w3.cell? ⟨w.heap.size, 1, none⟩ = some (.int .u64 (W a 1)) := (ra.cell 1).trans (wc_get a 1 (by decide))
    have c2 : w3.cell? ⟨w.heap.size, 2, none⟩ = some (.int .u64 (W a 2)) := (ra.cell 2).trans (wc_get a 2 (by decide))
    have c3 : w3.cell? ⟨w.heap.size, 3, none⟩ = some (.int .u64 (W a 3)) := (ra.cell 3).trans (wc_get a 3 (by decide))
    have d0 : w3.cell? ⟨w.heap.size + 1 + 1 + 1 + 1 + 1, 0, none⟩ = some (.int .u64 (W l1 0)) := (rl.cell 0).trans (wc_get l1 0 (by decide))
    have f0 : w3.frozen? ⟨w.heap.size + 1 + 1 + 1 + 1 + 1, 0, none⟩ = false := rl.frozen 0
    have s5 : w.heap.size + 1 + 1 + 1 + 1 + 1 < w3.heap.size := K3.out.lt
    have s4 : w.heap.size + 1 + 1 + 1 + 1 < w3.heap.size := by omega
    have s0 : w.heap.size < w3.heap.size := by omega
    have dw : IntKind.i64.wrap (255 - (k : Int)) = 255 - (k : Int) := by rw [IntWalk.i64_in _ (by omega)]
    clear ra rl
    rw [put_none]
    go_cut [] (fun wx => Hid (DivAt w wx w.heap.size a b q (l1 + bitN a (255 - k))))
    case first =>
     go_region_law (first | (go_simp; go_at_call 165; refine (bit_at a k _ hlt).mono ?_; rintro e w' ⟨rfl, rfl⟩))
     all_goals (go_wp2_with fail; go_meet; exact ((K3.out.bitL hl1.out hl2.out (bitN_lt _ _)).alloc _).drew)
    case rest =>
     have K4 := hcut
     clear hcut c0 c1 c2 c3 d0 f0 s5 s4 s0 dw K3
     have HDC := hD (div_cases a b k l c l1 HLB.out HB.out HC.out HL1.out)
     clear HC HL1 hl1 hl2
     generalize bitN a (255 - k) = e at *
     generalize hv : l1 + e = v at *
     have HV := hD hv
     clear hv
     have hv1 : Hid (v < Big) := HDC.out.1
     have hq1 : Hid (2 * q < Big) := by
       show _ < _
       have h := HQ.out
       rw [Big_eq]
       have : 2 ^ (k + 1) ≤ 2 ^ 256 := Nat.pow_le_pow_right (by omega) (by omega)
       rw [Nat.pow_succ] at this
       omega
     go_wp2_with ((with_reducible refine wpList_load_row (o := ⟨some 34, _, _, _, _, _⟩) ?_ 26 (.tmp 7) ?_ (w.heap.size + 1 + 1 + 1 + 1) ?_ 26 (wcs q) (0, 0) _ K4.out.q Tryz.underlying26 ?_ (wc_info _) ?_); (rfl); (rfl); (rfl); (rfl))
     refine (up_one q wc (by have := hq1.out; omega)).mono ?_
     rintro e' w5 ⟨rfl, hbel⟩
     rw [Nat.mod_eq_of_lt hq1.out]
     have K5 := hD (K4.out.below hbel)
     have K6 : Hid (DivAt w (w5.setRow (w.heap.size + 1 + 1 + 1 + 1) (wcs (2 * q))) w.heap.size a b (2 * q) v) := K5.out.setQ
     have KQ : Hid (w5.heap[w.heap.size + 1 + 1 + 1 + 1]? = some (.cells (wcs q) 26 (0, 0))) := K5.out.q
     clear hbel K5 K4
     go_wp2_with (first
       | ((with_reducible refine wpList_store_row (o := ⟨none, .store 26 _ _, _, _, _, _⟩) ?_ 26 (.tmp 7) (.tmp 35) ?_ (w.heap.size + 1 + 1 + 1 + 1) (wcs (2 * q)) ?_ ?_ 26 (wcs q) KQ.out (wc_info _) (by rw [wc_size, wc_size]) (wc_one _) ?_); (rfl); (rfl); (rfl); (rfl))
       | ((with_reducible refine wpList_load_row (o := ⟨some 37, _, _, _, _, _⟩) ?_ 26 (.tmp 8) ?_ (w.heap.size + 1 + 1 + 1 + 1 + 1) ?_ 26 (wcs v) (0, 0) _ K6.out.l Tryz.underlying26 ?_ (wc_info _) ?_); (rfl); (rfl); (rfl); (rfl))
       | ((with_reducible refine wpList_load_row (o := ⟨some 38, _, _, _, _, _⟩) ?_ 26 (.tmp 3) ?_ (w.heap.size + 1) ?_ 26 (wcs b) (0, 0) _ K6.out.b Tryz.underlying26 ?_ (wc_info _) ?_); (rfl); (rfl); (rfl); (rfl)))
     clear KQ
     generalize w5.setRow (w.heap.size + 1 + 1 + 1 + 1) (wcs (2 * q)) = w6 at *
     refine (sub_any v b w6 hv1.out HB.out).mono ?_
     rintro e' w7 ⟨rfl, hbel⟩
     have K7 := hD (K6.out.below hbel)
     clear hbel K6 HLB HQ HV
     rcases HDC.out.2 with ⟨hc, hle, hbv, hmod⟩ | ⟨hc, hle, hbv, hmod⟩ | ⟨hc, hle, hbv, hmod⟩
     · have hcb : ((c : Int) == 1) = true := by rw [hc]; rfl
       have hle' : decide (b ≤ v) = false := by simpa using hle
       have hnew : Hid (topN a (k + 1) / b = 2 * q + 1 ∧ topN a (k + 1) % b = (v + (Big - b)) % Big) := by
        show _ ∧ _
        rw [hmod]
        exact HD.out.1 hbv
       rw [hcb, hle']
       clear hcb hle' hmod hbv hle hc HD HDC
       have hsz := hD (wc_size ((v + (Big - b)) % Big))
       have hon := hD (wc_one ((v + (Big - b)) % Big))
       have hin := hD (wc_info ((v + (Big - b)) % Big))
       have K8 : Hid (DivAt w ((w7.alloc (.cells (wcs ((v + (Big - b)) % Big)) 26)).setRow (w.heap.size + 1 + 1 + 1 + 1 + 1) (wcs ((v + (Big - b)) % Big))) w.heap.size a b (2 * q) ((v + (Big - b)) % Big)) := (K7.out.alloc _).setL
       have KL : Hid ((w7.alloc (.cells (wcs ((v + (Big - b)) % Big)) 26)).heap[w.heap.size + 1 + 1 + 1 + 1 + 1]? = some (.cells (wcs v) 26 (0, 0))) := (K7.out.alloc _).l
       clear K7
       generalize (v + (Big - b)) % Big = r at *
       go_upto_region 14 with (first
        | ((with_reducible refine wpList_store_row (o := ⟨none, .store 26 (.tmp 11) _, _, _, _, _⟩) ?_ 26 (.tmp 11) (.tmp 40) ?_ w7.heap.size (wcs r) ?_ ?_ 26 _ (heap_alloc_last w7 _) hin.out ?_ hon.out ?_); (rfl); (rfl); (rfl); (rfl); (rw [hsz.out]; rfl); rw [World.setRow_alloc_new])
        | ((with_reducible refine wpList_load_row (o := ⟨some 46, _, _, _, _, _⟩) ?_ 26 (.tmp 11) ?_ w7.heap.size ?_ 26 (wcs r) (0, 0) _ (heap_alloc_last w7 _) Tryz.underlying26 ?_ (wc_info _) ?_); (rfl); (rfl); (rfl); (rfl))
        | ((with_reducible refine wpList_store_row (o := ⟨none, .store 26 (.tmp 8) _, _, _, _, _⟩) ?_ 26 (.tmp 8) (.tmp 46) ?_ (w.heap.size + 1 + 1 + 1 + 1 + 1) (wcs r) ?_ ?_ 26 (wcs v) KL.out hin.out (by rw [wc_size, wc_size]) hon.out ?_); (rfl); (rfl); (rfl); (rfl)))
       clear KL hsz hon hin
       generalize (w7.alloc (.cells (wcs r) 26)).setRow (w.heap.size + 1 + 1 + 1 + 1 + 1) (wcs r) = w8 at *
       try rw [put_none]
       have rq : Row w8 (w.heap.size + 1 + 1 + 1 + 1) 26 (wcs (2 * q)) := K8.out.q
       have d0 : w8.cell? ⟨w.heap.size + 1 + 1 + 1 + 1, 0, none⟩ = some (.int .u64 (W (2 * q) 0)) := (rq.cell 0).trans (wc_get (2 * q) 0 (by decide))
       have f0 : w8.frozen? ⟨w.heap.size + 1 + 1 + 1 + 1, 0, none⟩ = false := rq.frozen 0
       clear rq
       have K9 := hD (K8.out.bitQ (c := 1) hq1.out (by omega) (by omega))
       clear K8
       go_wp2
       go_roundw
       case rel =>
        refine ⟨k + 1, by omega, by go_num, ?_⟩
        show DivAt _ _ _ _ _ _ _
        rw [hnew.out.1, hnew.out.2]
        exact K9.out
       case measure => simp [intOf]; omega
     · have hcb : ((c : Int) == 1) = false := by rw [hc]; rfl
       have hle' : decide (b ≤ v) = true := by simpa using hle
       have hnew : Hid (topN a (k + 1) / b = 2 * q + 1 ∧ topN a (k + 1) % b = (v + (Big - b)) % Big) := by
        show _ ∧ _
        rw [hmod]
        exact HD.out.1 hbv
       rw [hcb, hle']
       clear hcb hle' hmod hbv hle hc HD HDC
       have hsz := hD (wc_size ((v + (Big - b)) % Big))
       have hon := hD (wc_one ((v + (Big - b)) % Big))
       have hin := hD (wc_info ((v + (Big - b)) % Big))
       have K8 : Hid (DivAt w ((w7.alloc (.cells (wcs ((v + (Big - b)) % Big)) 26)).setRow (w.heap.size + 1 + 1 + 1 + 1 + 1) (wcs ((v + (Big - b)) % Big))) w.heap.size a b (2 * q) ((v + (Big - b)) % Big)) := (K7.out.alloc _).setL
       have KL : Hid ((w7.alloc (.cells (wcs ((v + (Big - b)) % Big)) 26)).heap[w.heap.size + 1 + 1 + 1 + 1 + 1]? = some (.cells (wcs v) 26 (0, 0))) := (K7.out.alloc _).l
       clear K7
       generalize (v + (Big - b)) % Big = r at *
       go_upto_region 14 with (first
        | ((with_reducible refine wpList_store_row (o := ⟨none, .store 26 (.tmp 11) _, _, _, _, _⟩) ?_ 26 (.tmp 11) (.tmp 40) ?_ w7.heap.size (wcs r) ?_ ?_ 26 _ (heap_alloc_last w7 _) hin.out ?_ hon.out ?_); (rfl); (rfl); (rfl); (rfl); (rw [hsz.out]; rfl); rw [World.setRow_alloc_new])
        | ((with_reducible refine wpList_load_row (o := ⟨some 46, _, _, _, _, _⟩) ?_ 26 (.tmp 11) ?_ w7.heap.size ?_ 26 (wcs r) (0, 0) _ (heap_alloc_last w7 _) Tryz.underlying26 ?_ (wc_info _) ?_); (rfl); (rfl); (rfl); (rfl))
        | ((with_reducible refine wpList_store_row (o := ⟨none, .store 26 (.tmp 8) _, _, _, _, _⟩) ?_ 26 (.tmp 8) (.tmp 46) ?_ (w.heap.size + 1 + 1 + 1 + 1 + 1) (wcs r) ?_ ?_ 26 (wcs v) KL.out hin.out (by rw [wc_size, wc_size]) hon.out ?_); (rfl); (rfl); (rfl); (rfl)))
       clear KL hsz hon hin
       generalize (w7.alloc (.cells (wcs r) 26)).setRow (w.heap.size + 1 + 1 + 1 + 1 + 1) (wcs r) = w8 at *
       try rw [put_none]
       have rq : Row w8 (w.heap.size + 1 + 1 + 1 + 1) 26 (wcs (2 * q)) := K8.out.q
       have d0 : w8.cell? ⟨w.heap.size + 1 + 1 + 1 + 1, 0, none⟩ = some (.int .u64 (W (2 * q) 0)) := (rq.cell 0).trans (wc_get (2 * q) 0 (by decide))
       have f0 : w8.frozen? ⟨w.heap.size + 1 + 1 + 1 + 1, 0, none⟩ = false := rq.frozen 0
       clear rq
       have K9 := hD (K8.out.bitQ (c := 1) hq1.out (by omega) (by omega))
       clear K8
       go_wp2
       go_roundw
       case rel =>
        refine ⟨k + 1, by omega, by go_num, ?_⟩
        show DivAt _ _ _ _ _ _ _
        rw [hnew.out.1, hnew.out.2]
        exact K9.out
       case measure => simp [intOf]; omega
     · have hcb : ((c : Int) == 1) = false := by rw [hc]; rfl
       have hle' : decide (b ≤ v) = false := by simpa using hle
       have hnew : Hid (topN a (k + 1) / b = 2 * q ∧ topN a (k + 1) % b = v) := by
        show _ ∧ _
        rw [hmod]
        exact HD.out.2 hbv
       rw [hcb, hle']
       clear hcb hle' hmod hbv hle hc HD HDC
       have hsz := hD (wc_size ((v + (Big - b)) % Big))
       have hon := hD (wc_one ((v + (Big - b)) % Big))
       have hin := hD (wc_info ((v + (Big - b)) % Big))
       have K8 := hD (K7.out.alloc (.cells (wcs ((v + (Big - b)) % Big)) 26))
       clear K7
       generalize (v + (Big - b)) % Big = r at *
       go_wp2_with ((with_reducible refine wpList_store_row (o := ⟨none, .store 26 (.tmp 11) _, _, _, _, _⟩) ?_ 26 (.tmp 11) (.tmp 40) ?_ w7.heap.size (wcs r) ?_ ?_ 26 _ (heap_alloc_last w7 _) hin.out ?_ hon.out ?_); (rfl); (rfl); (rfl); (rfl); (rw [hsz.out]; rfl); rw [World.setRow_alloc_new])
       go_roundw
       case rel =>
        refine ⟨k + 1, by omega, by go_num, ?_⟩
        show DivAt _ _ _ _ _ _ _
        rw [hnew.out.1, hnew.out.2]
        exact K8.out
       case measure => simp [intOf]; omega
  · obtain rfl : k = 256 := by omega
    have K : Hid (DivAt w wr w.heap.size a b (a / b) (a % b)) := by
     show DivAt _ _ _ _ _ _ _
     have h := K0.out
     rw [top_all] at h
     exact h
    clear K0
    have hbel := K.out.bel
    have eq1 := hD (wc_cells (a / b))
    have eq2 := hD (wc_cells (a % b))
    have rr : Row wr (w.heap.size + 1 + 1) 26 (wcs 0) := K.out.r
    have rs : Row wr (w.heap.size + 1 + 1 + 1) 26 (wcs 0) := K.out.s
    have rq : Row wr (w.heap.size + 1 + 1 + 1 + 1) 26 (wcs (a / b)) := K.out.q
    have rl : Row wr (w.heap.size + 1 + 1 + 1 + 1 + 1) 26 (wcs (a % b)) := K.out.l
    have q0 := (rq.cell 0).trans (wc_get (a / b) 0 (by decide))
    have l0 := (rl.cell 0).trans (wc_get (a % b) 0 (by decide))
    have r0 : wr.cell? ⟨w.heap.size + 1 + 1, 0, none⟩ = some (.int .u64 0) := (rr.cell 0).trans rfl
    have s0 : wr.cell? ⟨w.heap.size + 1 + 1 + 1, 0, none⟩ = some (.int .u64 0) := (rs.cell 0).trans rfl
    have fr0 := rr.frozen 0
    have fs0 := rs.frozen 0
    have q1 := (rq.cell 1).trans (wc_get (a / b) 1 (by decide))
    have l1 := (rl.cell 1).trans (wc_get (a % b) 1 (by decide))
    have r1 : wr.cell? ⟨w.heap.size + 1 + 1, 1, none⟩ = some (.int .u64 0) := (rr.cell 1).trans rfl
    have s1 : wr.cell? ⟨w.heap.size + 1 + 1 + 1, 1, none⟩ = some (.int .u64 0) := (rs.cell 1).trans rfl
    have fr1 := rr.frozen 1
    have fs1 := rs.frozen 1
    have q2 := (rq.cell 2).trans (wc_get (a / b) 2 (by decide))
    have l2 := (rl.cell 2).trans (wc_get (a % b) 2 (by decide))
    have r2 : wr.cell? ⟨w.heap.size + 1 + 1, 2, none⟩ = some (.int .u64 0) := (rr.cell 2).trans rfl
    have s2 : wr.cell? ⟨w.heap.size + 1 + 1 + 1, 2, none⟩ = some (.int .u64 0) := (rs.cell 2).trans rfl
    have fr2 := rr.frozen 2
    have fs2 := rs.frozen 2
    have q3 := (rq.cell 3).trans (wc_get (a / b) 3 (by decide))
    have l3 := (rl.cell 3).trans (wc_get (a % b) 3 (by decide))
    have r3 : wr.cell? ⟨w.heap.size + 1 + 1, 3, none⟩ = some (.int .u64 0) := (rr.cell 3).trans rfl
    have s3 : wr.cell? ⟨w.heap.size + 1 + 1 + 1, 3, none⟩ = some (.int .u64 0) := (rs.cell 3).trans rfl
    have fr3 := rr.frozen 3
    have fs3 := rs.frozen 3
    have RR := hD rr
    have RS := hD rs
    clear rr rs rq rl K
    generalize W (a / b) 0 = x0 at *
    generalize W (a / b) 1 = x1 at *
    generalize W (a / b) 2 = x2 at *
    generalize W (a / b) 3 = x3 at *
    generalize W (a % b) 0 = y0 at *
    generalize W (a % b) 1 = y1 at *
    generalize W (a % b) 2 = y2 at *
    generalize W (a % b) 3 = y3 at *
    go_wp2_with fail
    go_region
    have F1 := hD ((((((((RR.out.put 0 (.int .u64 x0)).put 1 (.int .u64 x1)).put 2 (.int .u64 x2)).put 3 (.int .u64 x3)).farAt (g' := w.heap.size + 1 + 1 + 1) (i := 0) (by omega) (.int .u64 y0)).farAt (g' := w.heap.size + 1 + 1 + 1) (i := 1) (by omega) (.int .u64 y1)).farAt (g' := w.heap.size + 1 + 1 + 1) (i := 2) (by omega) (.int .u64 y2)).farAt (g' := w.heap.size + 1 + 1 + 1) (i := 3) (by omega) (.int .u64 y3)).drew
    have F2 := hD ((((((((RS.out.farAt (g' := w.heap.size + 1 + 1) (i := 0) (by omega) (.int .u64 x0)).farAt (g' := w.heap.size + 1 + 1) (i := 1) (by omega) (.int .u64 x1)).farAt (g' := w.heap.size + 1 + 1) (i := 2) (by omega) (.int .u64 x2)).farAt (g' := w.heap.size + 1 + 1) (i := 3) (by omega) (.int .u64 x3)).put 0 (.int .u64 y0)).put 1 (.int .u64 y1)).put 2 (.int .u64 y2)).put 3 (.int .u64 y3)).drew
    clear q0 q1 q2 q3 l0 l1 l2 l3 r0 r1 r2 r3 s0 s1 s2 s3 fr0 fr1 fr2 fr3 fs0 fs1 fs2 fs3
    go_wp2_with ((with_reducible refine bodyPost_ret (v := .tuple #[.agg #[.int .u64 x0, .int .u64 x1, .int .u64 x2, .int .u64 x3], .agg #[.int .u64 y0, .int .u64 y1, .int .u64 y2, .int .u64 y3], .bool true]) ?_ ?_ ?_); (exact results_rows_slot (p := 4) (p' := 5) (q := 6) (ty := 26) Tryz.results125 _ _ (w.heap.size + 1 + 1) (w.heap.size + 1 + 1 + 1) 26 #[.int .u64 x0, .int .u64 x1, .int .u64 x2, .int .u64 x3] #[.int .u64 y0, .int .u64 y1, .int .u64 y2, .int .u64 y3] (0, 0) _ rfl rfl _ rfl F1.out F2.out Tryz.underlying26 rfl (infoW _ rfl) (infoW _ rfl)); (rfl))
    refine ⟨by rw [eq1.out, eq2.out], ?_⟩
    refine Below.drew ?_
    repeat (refine Below.setCell ?_ (by simp; omega) _)
    exact hbel
def wordAcc (f : Nat → Nat) (p : Nat) : Nat → Nat
  | 0 => 0
  | k + 1 => if 3 - k / 8 = p then 256 * wordAcc f p k + f k else wordAcc f p k
theorem wordAcc_before (f : Nat → Nat) (p k : Nat) (hp : p < 4) (hk : k ≤ 8 * (3 - p)) : wordAcc f p k = 0 := by
 induction k with
 | zero => rfl
 | succ k ih => rw [wordAcc, if_neg (by omega), ih (by omega)]
theorem wordAcc_lt (f : Nat → Nat) (hf : ∀ i, f i < 256) (p j : Nat) (hp : p < 4) (hj : j ≤ 8) : wordAcc f p (8 * (3 - p) + j) < 256 ^ j := by
 induction j with
 | zero => rw [Nat.add_zero, wordAcc_before f p _ hp (by omega)]; decide
 | succ j ih =>
  have := ih (by omega)
  have := hf (8 * (3 - p) + j)
  rw [← Nat.add_assoc, wordAcc, if_pos (by omega), Nat.pow_succ]
  omega
theorem wordAcc_after (f : Nat → Nat) (p j : Nat) (hp : p < 4) (hj : 8 * (3 - p) + 8 + j ≤ 32) : wordAcc f p (8 * (3 - p) + 8 + j) = wordAcc f p (8 * (3 - p) + 8) := by
 induction j with
 | zero => rfl
 | succ j ih => rw [← Nat.add_assoc, wordAcc, if_neg (by omega), ih (by omega)]
theorem wordAcc_word (f : Nat → Nat) (hf : ∀ i, f i < 256) (p k : Nat) (hp : p < 4) (hk : k ≤ 32) : wordAcc f p k < 18446744073709551616 := by
 by_cases h1 : k ≤ 8 * (3 - p)
 · rw [wordAcc_before f p k hp h1]; decide
 · by_cases h2 : k ≤ 8 * (3 - p) + 8
   · have h := wordAcc_lt f hf p (k - 8 * (3 - p)) hp (by omega)
     rw [show 8 * (3 - p) + (k - 8 * (3 - p)) = k by omega] at h
     have : 256 ^ (k - 8 * (3 - p)) ≤ 256 ^ 8 := Nat.pow_le_pow_right (by omega) (by omega)
     exact Nat.lt_of_lt_of_le h this
   · have h := wordAcc_after f p (k - (8 * (3 - p) + 8)) hp (by omega)
     rw [show 8 * (3 - p) + 8 + (k - (8 * (3 - p) + 8)) = k by omega] at h
     rw [h]
     exact wordAcc_lt f hf p 8 hp (by omega)
theorem wordAcc_small (f : Nat → Nat) (hf : ∀ i, f i < 256) (k : Nat) (hk : k < 32) : wordAcc f (3 - k / 8) k < 72057594037927936 := by
 have h := wordAcc_lt f hf (3 - k / 8) (k % 8) (by omega) (by omega)
 rw [show 8 * (3 - (3 - k / 8)) + k % 8 = k by omega] at h
 have : 256 ^ (k % 8) ≤ 256 ^ 7 := Nat.pow_le_pow_right (by omega) (by omega)
 exact Nat.lt_of_lt_of_le h this
def accL (f : Nat → Nat) (k : Nat) : List Int := [(wordAcc f 0 k : Int), (wordAcc f 1 k : Int), (wordAcc f 2 k : Int), (wordAcc f 3 k : Int)]
def numOf (f : Nat → Nat) : Nat := mk4 (wordAcc f 0 32) (wordAcc f 1 32) (wordAcc f 2 32) (wordAcc f 3 32)
theorem numOf_lt (f : Nat → Nat) (hf : ∀ i, f i < 256) : numOf f < Big := mk4_lt _ _ _ _ (wordAcc_word f hf 0 32 (by omega) (by omega)) (wordAcc_word f hf 1 32 (by omega) (by omega)) (wordAcc_word f hf 2 32 (by omega) (by omega)) (wordAcc_word f hf 3 32 (by omega) (by omega))
theorem accL_all (f : Nat → Nat) (hf : ∀ i, f i < 256) : arrW 4 (accL f 32) = wcs (numOf f) := by
 unfold wcs numOf
 rw [wl_mk4 _ _ _ _ (wordAcc_word f hf 0 32 (by omega) (by omega)) (wordAcc_word f hf 1 32 (by omega) (by omega)) (wordAcc_word f hf 2 32 (by omega) (by omega)) (wordAcc_word f hf 3 32 (by omega) (by omega))]
 rfl
theorem accL_get (f : Nat → Nat) (k p : Nat) (hp : p < 4) : (arrW 4 (accL f k))[p]? = some (.int .u64 (wordAcc f p k)) := by
 rcases p with _ | _ | _ | _ | p
 all_goals first | rfl | omega
theorem accL_put (f : Nat → Nat) (k : Nat) (hk : k < 32) : (arrW 4 (accL f k)).setIfInBounds (3 - k / 8) (.int .u64 ((256 * wordAcc f (3 - k / 8) k + f k : Nat) : Int)) = arrW 4 (accL f (k + 1)) := by
 have key : ∀ p, p < 4 → wordAcc f p (k + 1) = if 3 - k / 8 = p then 256 * wordAcc f p k + f k else wordAcc f p k := fun p _ => rfl
 have hq : k / 8 = 0 ∨ k / 8 = 1 ∨ k / 8 = 2 ∨ k / 8 = 3 := by omega
 unfold accL
 rw [key 0 (by omega), key 1 (by omega), key 2 (by omega), key 3 (by omega)]
 rcases hq with h | h | h | h <;> rw [h] <;> rfl
theorem or_byte (x b : Nat) (hx : x < 72057594037927936) (hb : b < 256) : bits .or .u64 ((x : Int) * 256) (b : Int) = ((256 * x + b : Nat) : Int) := by
 have c1 : ((x : Int) * 256) = ((x * 256 : Nat) : Int) := by simp
 rw [c1, bits_or_u64_nat (x * 256) b (by omega) (by omega)]
 congr 1
 have h := Nat.shiftLeft_add_eq_or_of_lt (a := x) (b := b) (i := 8) (by omega)
 rw [Nat.shiftLeft_eq, show (2 : Nat) ^ 8 = 256 from rfl] at h
 rw [← h]
 omega
theorem of32_any (f : Nat → Nat) (hf : ∀ i, f i < 256) (w : World) :
  Rz 166 #[.agg (idF (fun i => (f i : Int)))] w (.agg (wcs (numOf f))) := by
 unfold Rz
 have HF := hD hf
 clear hf
 go_enter Tryz.func166, Tryz.ntmps166
 go_wp2_with fail
 go_loopw [6] (fun i u => ∃ k : Nat, k ≤ 32 ∧ i = .int .i64 k ∧ Below w.heap.size w u ∧ Hid (Row u w.heap.size 23 (idF (fun i => (f i : Int))) ∧ Row u (w.heap.size + 1) 26 (arrW 4 []) ∧ Row u (w.heap.size + 1 + 1) 26 (arrW 4 (accL f k)))) (fun i _ => 32 - (intOf i).toNat)
 case atStart => exact ⟨0, by omega, rfl, by go_grown, ((Row.new w 23 _).alloc _).alloc _, (Row.newAt (by simp) 26 _).alloc _, Row.newAt (by simp) 26 _⟩
 case round =>
  obtain ⟨k, hk, rfl, hbl, hrows⟩ := hrel
  obtain ⟨r0, r1, r2⟩ := hrows.out
  by_cases hlt : k < 32
  · have hk0 : (0 : Int) ≤ (k : Int) := by omega
    have hk4 : (k : Int) < 32 := by omega
    have e0 : wr.cell? ⟨w.heap.size, k, none⟩ = some (.int .u8 (f k : Int)) := (r0.cell k).trans (idF_get _ k hlt)
    have e2 : wr.cell? ⟨w.heap.size + 1 + 1, 3 - k / 8, none⟩ = some (.int .u64 (wordAcc f (3 - k / 8) k)) := (r2.cell _).trans (accL_get f k _ (by omega))
    have f2 : wr.frozen? ⟨w.heap.size + 1 + 1, 3 - k / 8, none⟩ = false := r2.frozen _
    have R0 := hD r0
    have R1 := hD r1
    have R2 := hD r2
    have hput := hD (accL_put f k hlt)
    have hor := hD (or_byte _ _ (wordAcc_small f HF.out k hlt) (HF.out k))
    have hsm := wordAcc_small f HF.out k hlt
    have hfk := HF.out k
    clear r0 r1 r2 hrows
    generalize wordAcc f (3 - k / 8) k = x at *
    generalize f k = b at *
    have q0 : 0 ≤ 3 - (k : Int) / 8 := by omega
    have q1 : 3 - (k : Int) / 8 < 4 := by omega
    have q2 : (3 - (k : Int) / 8).toNat = 3 - k / 8 := by omega
    have hx0 : (0 : Int) ≤ (x : Int) := by omega
    have hx1 : (x : Int) < 72057594037927936 := by omega
    have hb0 : (0 : Int) ≤ (b : Int) := by omega
    have hb1 : (b : Int) < 256 := by omega
    have wx : IntKind.u64.wrap ((x : Int) * 256) = (x : Int) * 256 := by rw [IntKind.wrap_u64]; omega
    have wb : IntKind.u64.wrap (b : Int) = (b : Int) := by rw [IntKind.wrap_u64]; omega
    go_wp2_with (go_at_call 161; refine (ofbyte_any _ _ (by omega) (by omega)).mono ?_; rintro e w' ⟨rfl, rfl⟩)
    go_region
    clear wx wb q2
    go_wp2
    go_roundw
    case rel =>
     refine ⟨k + 1, by omega, by go_num, (hbl.setCell (by simp; omega) _).drew, R0.out.farAt (by omega) _, R1.out.farAt (by omega) _, ?_⟩
     rw [← hput.out, ← hor.out]
     exact R2.out.put (3 - k / 8) _
    case measure => simp [intOf]; omega
  · obtain rfl : k = 32 := by omega
    rw [accL_all f HF.out] at r2
    have hsz := hD (wc_size (numOf f))
    have hz0 := hD (arrW_size 4 [] (by simp))
    have ho := hD (wc_one (numOf f))
    have R1 : Hid (wr.heap[w.heap.size + 1]? = some (.cells (arrW 4 []) 26 (0, 0))) := r1
    have R2 : Hid (wr.heap[w.heap.size + 1 + 1]? = some (.cells (wcs (numOf f)) 26 (0, 0))) := r2
    clear r0 r1 r2 hrows
    generalize hE : wcs (numOf f) = cs at *
    have HE := hD hE
    clear hE
    generalize arrW 4 [] = zs at *
    go_wp2_with (first
     | ((with_reducible refine wpList_load_row (o := ⟨some 23, _, _, _, _, _⟩) ?_ 26 (.tmp 3) ?_ (w.heap.size + 1 + 1) ?_ 26 cs (0, 0) _ R2.out Tryz.underlying26 ?_ (infoW cs hsz.out) ?_); (rfl); (rfl); (rfl); (rfl))
     | ((with_reducible refine wpList_store_row (o := ⟨none, .store 26 _ _, _, _, _, _⟩) ?_ 26 (.tmp 2) (.tmp 23) ?_ (w.heap.size + 1) cs ?_ ?_ 26 zs R1.out (infoW cs hsz.out) (by rw [hz0.out, hsz.out]) ho.out ?_); (rfl); (rfl); (rfl); (rfl))
     | ((with_reducible refine bodyPost_ret (v := .agg cs) ?_ ?_ ?_); (exact results_cell_row (p := 2) (ty := 26) Tryz.results166 _ _ (w.heap.size + 1) 26 cs (0, 0) _ rfl (setRow_heap _ _ zs cs 26 (0, 0) R1.out) Tryz.underlying26 rfl (infoW cs hsz.out)); (rfl)))
    exact ⟨by rw [HE.out], below_setRow hbl (by omega) _⟩
def aUp (a k : Nat) : Nat := a * 2 ^ k % Big
theorem aUp_zero (a : Nat) (h : a < Big) : aUp a 0 = a := by unfold aUp; rw [Nat.pow_zero, Nat.mul_one, Nat.mod_eq_of_lt h]
def upV (a : Nat) (n : Int) : Nat := if 256 ≤ n then 0 else aUp a n.toNat
theorem up_v (a : Nat) (n : Int) (w : World) (ha : a < Big) (hn : n ≤ 9223372036854775807) :
   Rz 73 #[.agg (wcs a), .int .i64 n] w (.agg (wcs (upV a n))) := by
 unfold Rz
 unfold upV
 by_cases h0 : n < 0
 · rw [if_neg (by omega), show n.toNat = 0 by omega, aUp_zero a ha]
   exact up_below a n w h0
 · obtain ⟨k, rfl⟩ := Int.eq_ofNat_of_zero_le (show 0 ≤ n by omega)
   have h := up_any a k w ha (by omega)
   by_cases h1 : 256 ≤ (k : Int)
   · rw [if_pos h1]
     have e : a * 2 ^ k % Big = 0 := by
      rw [Big_eq, show k = 256 + (k - 256) by omega, Nat.pow_add, ← Nat.mul_assoc, Nat.mul_comm (a * 2 ^ 256), ← Nat.mul_assoc]
      exact Nat.mul_mod_left _ _
     rw [e] at h
     exact h
   · rw [if_neg h1]
     exact h
abbrev wo (n : Nat) : Obj := .cells (wcs n) 26 (0, 0)
abbrev io (f : Nat → Int) : Obj := .cells (idF f) 23 (0, 0)
theorem small_big {n : Nat} (h : n < 18446744073709551616) : n < Big := by unfold Big; omega
def isC (b : Nat) : Bool := decide (3 ≤ b / 16777216 ∧ b / 16777216 ≤ 32 ∧ 32768 ≤ b % 16777216 ∧ b % 16777216 ≤ 8388607)
def tv (b : Nat) : Nat := if isC b then b % 16777216 * 2 ^ (8 * (b / 16777216 - 3)) else 0
theorem tv_lt (b : Nat) (h : 3 ≤ b / 16777216 ∧ b / 16777216 ≤ 32 ∧ 32768 ≤ b % 16777216 ∧ b % 16777216 ≤ 8388607) : b % 16777216 * 2 ^ (8 * (b / 16777216 - 3)) < Big := by
 rw [Big_eq]
 have h1 : (2 : Nat) ^ (8 * (b / 16777216 - 3)) ≤ 2 ^ 232 := Nat.pow_le_pow_right (by omega) (by omega)
 calc b % 16777216 * 2 ^ (8 * (b / 16777216 - 3)) ≤ 8388607 * 2 ^ 232 := Nat.mul_le_mul h.2.2.2 h1
  _ < 2 ^ 256 := by decide
theorem tv_big (b : Nat) : tv b < Big := by
 unfold tv
 split
 · rename_i h
   exact tv_lt b (of_decide_eq_true h)
 · exact Big_pos
def wkV (t : Nat) : Nat := if t + 1 < Big then Big / (t + 1) % Big else 1
theorem wk_prog {t : Nat} (h : t + 1 < Big) : ((Big - (t + 1)) / (t + 1) + 1) % Big = wkV t := by
 unfold wkV
 rw [if_pos h]
 have e : Big = (Big - (t + 1)) + (t + 1) := by omega
 have e2 : Big / (t + 1) = (Big - (t + 1)) / (t + 1) + 1 := by
  conv => lhs; rw [e]
  exact Nat.add_div_right _ (by omega)
 rw [e2]
theorem wkV_lt (t : Nat) : wkV t < Big := by
 unfold wkV
 split
 · exact Nat.mod_lt _ Big_pos
 · unfold Big; omega
def lvC (n t : Nat) : Nat → Nat
  | 0 => 0
  | k + 1 => if n ≤ t / 2 ^ k then k + 1 else lvC n t k
theorem half_le (t : Nat) {i j : Nat} (h : i ≤ j) : t / 2 ^ j ≤ t / 2 ^ i := Nat.div_le_div_left (Nat.pow_le_pow_right (by omega) h) (Nat.pos_of_ne_zero (by simp))
theorem lvC_le (n t : Nat) : ∀ k, lvC n t k ≤ k
 | 0 => Nat.le_refl _
 | k + 1 => by
  unfold lvC
  split
  · omega
  · have := lvC_le n t k; omega
theorem lvC_iff (n t : Nat) : ∀ (k j : Nat), j < k → (j < lvC n t k ↔ n ≤ t / 2 ^ j)
 | 0, j, h => by omega
 | k + 1, j, h => by
  unfold lvC
  by_cases h1 : n ≤ t / 2 ^ k
  · rw [if_pos h1]
    have := half_le t (show j ≤ k by omega)
    exact ⟨fun _ => by omega, fun _ => h⟩
  · rw [if_neg h1]
    by_cases hj : j = k
    · subst hj
      have := lvC_le n t j
      exact ⟨fun h => by omega, fun h => absurd h h1⟩
    · exact lvC_iff n t k j (by omega)
def lvI (n t : Nat) : Int := (lvC n t 32 : Int) - 1
theorem lvI_le (n t : Nat) : -1 ≤ lvI n t ∧ lvI n t ≤ 31 := by have := lvC_le n t 32; unfold lvI; omega
theorem lvC_stop {n t k : Nat} (hk : k ≤ 32) (hall : ∀ j, j < k → n ≤ t / 2 ^ j) (hstop : k = 32 ∨ ¬ n ≤ t / 2 ^ k) : lvC n t 32 = k := by
 have h1 := lvC_le n t 32
 rcases Nat.lt_trichotomy (lvC n t 32) k with h | h | h
 · have := (lvC_iff n t 32 (lvC n t 32) (by omega)).2 (hall _ h)
   omega
 · exact h
 · rcases hstop with h2 | h2
   · omega
   · exact absurd ((lvC_iff n t 32 k (by omega)).1 h) h2
theorem and32_nat (a b : Nat) (ha : a < 4294967296) (hb : b < 4294967296) : bits .and .u32 (a : Int) (b : Int) = ((a &&& b : Nat) : Int) := by
 have hx : a &&& b < 2 ^ 32 := Nat.and_lt_two_pow _ (by omega)
 have h1 : (BitVec.ofInt 32 (a : Int)).toNat = a := by
  rw [BitVec.ofInt_natCast, BitVec.toNat_ofNat]; exact Nat.mod_eq_of_lt (by omega)
 have h2 : (BitVec.ofInt 32 (b : Int)).toNat = b := by
  rw [BitVec.ofInt_natCast, BitVec.toNat_ofNat]; exact Nat.mod_eq_of_lt (by omega)
 show IntKind.u32.wrap ((BitVec.ofInt 32 (a : Int) &&& BitVec.ofInt 32 (b : Int)).toNat : Int) = _
 rw [BitVec.toNat_and, h1, h2]
 simp only [IntKind.wrap, IntKind.bits, IntKind.signed]
 simp
 omega
theorem low24 (b : Nat) (hb : b < 4294967296) : bits .and .u32 (b : Int) 16777215 = ((b % 16777216 : Nat) : Int) := by
 have h := and32_nat b 16777215 hb (by omega)
 rw [show (16777215 : Nat) = 2 ^ 24 - 1 by decide, Nat.and_two_pow_sub_one_eq_mod] at h
 exact h
theorem target_no (b E M : Nat) (w : World) (hE : (b : Int) / 16777216 = (E : Int)) (hM : bits .and .u32 (b : Int) 16777215 = (M : Int)) (hb : b < 4294967296) (h : ¬ (3 ≤ E ∧ E ≤ 32 ∧ 32768 ≤ M ∧ M ≤ 8388607)) :
   Rz 33 #[.int .u32 b] w (.tuple #[.agg (wcs 0), .bool false]) := by
 unfold Rz
 go_enter Tryz.func33, Tryz.ntmps33
 by_cases h1 : (3 : Int) ≤ (E : Int)
 · by_cases h2 : (E : Int) ≤ 32
   · by_cases h3 : (32768 : Int) ≤ (M : Int)
     · have h4 : ¬ (M : Int) ≤ 8388607 := by omega
       go_wp2
       go_returns
       exact ⟨rfl, by go_grown⟩
     · go_wp2
       go_returns
       exact ⟨rfl, by go_grown⟩
   · go_wp2
     go_returns
     exact ⟨rfl, by go_grown⟩
 · go_wp2
   go_returns
   exact ⟨rfl, by go_grown⟩
theorem target_yes (b E M : Nat) (w : World) (hE : (b : Int) / 16777216 = (E : Int)) (hM : bits .and .u32 (b : Int) 16777215 = (M : Int)) (hb : b < 4294967296) (h1 : 3 ≤ E) (h2 : E ≤ 32) (h3 : 32768 ≤ M) (h4 : M ≤ 8388607) :
  Rz 33 #[.int .u32 b] w (.tuple #[.agg (wcs (M * 2 ^ (8 * (E - 3)) % Big)), .bool true]) := by
 unfold Rz
 have HU : Hid (∀ u, Calls Tryz.prog 73 #[.agg (wcs M), .int .i64 (8 * ((E : Int) - 3))] u fun e w' => e = .returned (.agg (wcs (M * 2 ^ (8 * (E - 3)) % Big))) ∧ Below u.heap.size u w') := fun u => by
  have h9 := up_v M (8 * ((E : Int) - 3)) u (small_big (by omega)) (by omega)
  have e9 : upV M (8 * ((E : Int) - 3)) = M * 2 ^ (8 * (E - 3)) % Big := by
   unfold upV aUp
   rw [if_neg (by omega), show (8 * ((E : Int) - 3)).toNat = 8 * (E - 3) by omega]
  rw [e9] at h9
  exact h9
 generalize M * 2 ^ (8 * (E - 3)) % Big = N at *
 have z0 : Hid (Row (w.alloc (.cells #[.int .u64 0, .int .u64 0, .int .u64 0, .int .u64 0] 26)) w.heap.size 26 #[.int .u64 0, .int .u64 0, .int .u64 0, .int .u64 0]) := Row.new w 26 _
 have B0 : Hid (Below w.heap.size w (w.alloc (.cells #[.int .u64 0, .int .u64 0, .int .u64 0, .int .u64 0] 26))) := (Below.refl _ _).alloc (Nat.le_refl _) _
 go_enter Tryz.func33, Tryz.ntmps33
 go_wp2_with fail
 generalize w.alloc (.cells #[.int .u64 0, .int .u64 0, .int .u64 0, .int .u64 0] 26) = w0 at *
 refine (of_n M w0 (by omega)).mono ?_
 rintro e w1 ⟨rfl, hb1⟩
 have z1 := hD (z0.out.below hb1 z0.out.lt)
 have B1 := hD (B0.out.trans (hb1.mono B0.out.size))
 clear z0 B0 hb1
 go_wp2_with fail
 refine (HU.out w1).mono ?_
 rintro e w2 ⟨rfl, hb2⟩
 have z2 : Hid (w2.heap[w.heap.size]? = some (.cells #[.int .u64 0, .int .u64 0, .int .u64 0, .int .u64 0] 26 (0, 0))) := z1.out.below hb2 z1.out.lt
 have B2 := hD (B1.out.trans (hb2.mono B1.out.size))
 have hsz := hD (wc_size N)
 have ho := hD (wc_one N)
 clear z1 B1 hb2 HU
 generalize hc : wcs N = cs at *
 have HC := hD hc
 clear hc
 go_wp2_with (first
  | ((with_reducible refine wpList_store_row (o := ⟨none, .store 26 _ _, _, _, _, _⟩) ?_ 26 (.tmp 2) (.tmp 32) ?_ w.heap.size cs ?_ ?_ 26 _ z2.out (infoW cs hsz.out) ?_ ho.out ?_); (rfl); (rfl); (rfl); (rfl); (rw [hsz.out]; rfl))
  | ((with_reducible refine bodyPost_ret (v := .tuple #[.agg cs, .bool true]) ?_ ?_ ?_); (exact results_row_slot (p := 2) (q := 3) (ty := 26) Tryz.results33 _ _ w.heap.size 26 cs (0, 0) _ rfl _ rfl (setRow_heap _ _ _ cs 26 (0, 0) z2.out) Tryz.underlying26 rfl (infoW cs hsz.out)); (rfl)))
 exact ⟨by rw [HC.out], below_setRow B2.out (Nat.le_refl _) _⟩
theorem target_any (b : Nat) (w : World) (hb : b < 4294967296) :
   Rz 33 #[.int .u32 b] w (.tuple #[.agg (wcs (tv b)), .bool (isC b)]) := by
 unfold Rz
 by_cases h : 3 ≤ b / 16777216 ∧ b / 16777216 ≤ 32 ∧ 32768 ≤ b % 16777216 ∧ b % 16777216 ≤ 8388607
 · have h9 := target_yes b (b / 16777216) (b % 16777216) w (by omega) (low24 b hb) hb h.1 h.2.1 h.2.2.1 h.2.2.2
   rw [Nat.mod_eq_of_lt (tv_lt b h)] at h9
   have e1 : isC b = true := decide_eq_true h
   have e2 : tv b = b % 16777216 * 2 ^ (8 * (b / 16777216 - 3)) := by unfold tv; rw [if_pos e1]
   rw [e1, e2]
   exact h9
 · have h9 := target_no b (b / 16777216) (b % 16777216) w (by omega) (low24 b hb) hb h
   have e1 : isC b = false := decide_eq_false h
   have e2 : tv b = 0 := by unfold tv; rw [e1]; rfl
   rw [e1, e2]
   exact h9
theorem wcs_zero : wcs 0 = #[.int .u64 0, .int .u64 0, .int .u64 0, .int .u64 0] := rfl
theorem new_wide {dst : Option Tmp} {ty : TypeId} {pos : String} {after : Array Edge} {gd : Option (Nat × Bool)} (a : Act) : NewAt Tryz.prog ⟨dst, .alloc 26, ty, pos, after, gd⟩ a (wo 0) := fun u => by
 have h := wcs_zero
 unfold wo
 rw [h]
 go_simp
theorem wp_scope_jumps2 {P : Program} {a : Act} {w : World} {Q : Exit → Act → World → Prop} {c rest : Code} (l : Nat) (J : Act → World → Prop) (μ : Act → World → Nat) (hf : findLabel c l = some (Code.skip.seq rest))
  (pass : ∀ a w, J a w → rest.wp P (Exit.jump l (fun a' w' => J a' w' ∧ μ a' w' < μ a w) Q) a w)
  (first : (∀ a w, J a w → rest.wp P (Exit.jump l J Q) a w) → c.wp P (Exit.jump l J Q) a w) : (Code.scope c).wp P Q a w :=
 wp_scope_jumps l J μ hf (first fun a w h => wp_mono (pass a w h) (fun e a w he => by cases e <;> first | exact he | exact ⟨he.1, he.2.1⟩)) (fun a w h => wp_seq (wp_skip (pass a w h)))
theorem ret_num {k : IntKind} {a b : Int} (h : a = b) : Ending.returned (.int k a) = .returned (.int k b) := by rw [h]
theorem cmpI_lt {m n : Nat} (h : m < n) : cmpI m n = -1 := by unfold cmpI; rw [if_pos h]
theorem cmpI_eq (m : Nat) : cmpI m m = 0 := by unfold cmpI; simp
theorem cmpI_gt {m n : Nat} (h : n < m) : cmpI m n = 1 := by unfold cmpI; rw [if_neg (by omega), if_neg (by omega)]
theorem cmpI_sgn (m n : Nat) : (cmpI m n < 0 ↔ m < n) ∧ (cmpI m n ≤ 0 ↔ m ≤ n) ∧ (0 < cmpI m n ↔ n < m) ∧ (0 ≤ cmpI m n ↔ n ≤ m) := by
 rcases Nat.lt_trichotomy m n with h | h | h
 · rw [cmpI_lt h]; omega
 · subst h; rw [cmpI_eq]; omega
 · rw [cmpI_gt h]; omega
theorem Big_gt : 1000000000000 < Big := by unfold Big; omega
theorem add_yes (m n s : Nat) (u : World) (hs : s = m + n) (h : s < Big) :
  Calls Tryz.prog 29 #[.agg (wcs m), .agg (wcs n)] u fun e w' => e = .returned (.tuple #[.agg (wcs s), .bool true]) ∧ Below u.heap.size u w' := by
 subst hs
 have h1 := add_any m n u (by omega) (by omega)
 have e1 : decide (m + n < Big) = true := by simp only [h, decide_true]
 rw [Nat.mod_eq_of_lt h, e1] at h1
 exact h1
theorem add_no (m n s : Nat) (u : World) (hm : m < Big) (hn : n < Big) (hs : s = m + n - Big) (h : Big ≤ m + n) :
  Calls Tryz.prog 29 #[.agg (wcs m), .agg (wcs n)] u fun e w' => e = .returned (.tuple #[.agg (wcs s), .bool false]) ∧ Below u.heap.size u w' := by
 rw [hs]
 have h1 := add_any m n u hm hn
 have e1 : decide (m + n < Big) = false := by simp only [show ¬ m + n < Big by omega, decide_false]
 rw [e1, show (m + n) % Big = m + n - Big by rw [Nat.mod_eq_sub_mod h]; exact Nat.mod_eq_of_lt (by omega)] at h1
 exact h1
theorem sub_neg (n r : Nat) (u : World) (hn : 0 < n) (hB : n < Big) (hr : r = Big - n) :
  Calls Tryz.prog 124 #[.agg (wcs 0), .agg (wcs n)] u fun e w' => e = .returned (.tuple #[.agg (wcs r), .bool false]) ∧ Below u.heap.size u w' := by
 rw [hr]
 have h1 := sub_any 0 n u Big_pos hB
 have e1 : decide (n ≤ 0) = false := by simp only [show ¬ n ≤ 0 by omega, decide_false]
 have e2 : (0 + (Big - n)) % Big = Big - n := by rw [Nat.zero_add]; exact Nat.mod_eq_of_lt (by omega)
 rw [e1, e2] at h1
 exact h1
theorem work_no (t : Nat) (w : World) (ht : t + 1 = Big) :
  Calls Tryz.prog 71 #[.agg (wcs t)] w fun e w' => e = .returned (.agg (wcs 1)) ∧ Below w.heap.size w w' := by
 have H1 := hD Big_gt
 have E1 : Hid (EnvX w ((w.alloc (.cells (wcs t) 26)).alloc (.cells #[.int .u64 0, .int .u64 0, .int .u64 0, .int .u64 0] 26)) [(w.heap.size + 1, wo 0), (w.heap.size, wo t)]) := (EnvX.start w).two (wo t) (wo 0)
 have hb1 : w.heap.size ≤ w.heap.size := Nat.le_refl _
 have hb2 : w.heap.size ≤ w.heap.size + 1 := Nat.le_succ _
 have n21 : Hid (w.heap.size + 1 ≠ w.heap.size) := by show _ ≠ _; omega
 go_enter Tryz.func71, Tryz.ntmps71
 go_upto_region 1 with (fail)
 generalize (w.alloc (.cells (wcs t) 26)).alloc (.cells #[.int .u64 0, .int .u64 0, .int .u64 0, .int .u64 0] 26) = w1 at *
 refine wp_region_Gx (w0 := w) [0] [1, 2] [(w.heap.size + 1, (wo (0))), (w.heap.size, (wo (t)))] rfl E1.out ?_
 have hone := @EnvC.one _ _ _ (E1.out)
 (refine wpG_call (f := 32) (args := #[.int .u64 (1 : Nat)]) (v := .agg (wcs (1))) rfl rfl rfl Tryz.func32 rfl rfl (fun u _ => of_n 1 u (by decide)) ?_ (E1.out); intro K hK; go_big_quiet_op; go_big_quiet_on)
 clear hone
 refine wpG_nil ?_
 (refine (gOp_new (wo (0)) rfl (new_wide _) ?_); intro g1 hbg1 hfg1; intro K' hK'; go_big_quiet_op; go_big_quiet_on)
 have ng1x0 : Hid (w.heap.size + 1 ≠ g1) := hfg1 (w.heap.size + 1, _) mH
 have ng1x1 : Hid (w.heap.size ≠ g1) := hfg1 (w.heap.size, _) (mT mH)
 clear hfg1
 refine (gOp_store rfl (g1) (wcs (1)) rfl rfl hbg1 26 (wcs (0)) mH (wc_info _) ((wc_size _).trans (wc_size _).symm) (wc_one _) [(g1, (wo (1))), (w.heap.size + 1, (wo (0))), (w.heap.size, (wo (t)))] (mA ⟨.inl rfl, (mA ⟨.inr ⟨(mT mH), ng1x0.out⟩, (mA ⟨.inr ⟨(mT (mT mH)), ng1x1.out⟩, (fun _ h => by cases h)⟩)⟩)⟩) ?_)
 rintro u3 ⟨hl2, E2'⟩
 have E2 := hD E2'
 clear hl2 E2' E1
 go_upto_region 2 with (fail)
 refine wp_region_Gx (w0 := w) [0, 1, 2, 3, 4, 5] [6, 7, 8] [(g1, (wo (1))), (w.heap.size + 1, (wo (0))), (w.heap.size, (wo (t)))] rfl E2.out ?_
 have hone := @EnvC.one _ _ _ (E2.out)
 (refine wpG_load rfl rfl (w.heap.size) rfl 26 _ _ (fun u hu => EnvC.box hu _ (wo (t)) (mT (mT mH))) Tryz.underlying26 rfl (wc_info _) ?_ (E2.out); intro K hK; go_big_quiet_op; go_big_quiet_on)
 (refine wpG_load rfl rfl (g1) rfl 26 _ _ (fun u hu => EnvC.box hu _ (wo (1)) mH) Tryz.underlying26 rfl (wc_info _) ?_ (E2.out); intro K hK; go_big_quiet_op; go_big_quiet_on)
 (refine wpG_call (f := 29) (args := #[.agg (wcs (t)), .agg (wcs (1))]) (v := .tuple #[.agg (wcs (0)), .bool (false)]) rfl rfl rfl Tryz.func29 rfl rfl (fun u _ => add_no t 1 0 u (by omega) (by have := H1.out; omega) (by omega) (by omega)) ?_ (E2.out); intro K hK; go_big_quiet_op; go_big_quiet_on)
 iterate 3 (refine wpG_op rfl rfl rfl ?_; intro K hK; go_big_quiet_op; go_big_quiet_on)
 clear hone
 refine wpG_nil ?_
 (refine (gOp_new (wo (0)) rfl (new_wide _) ?_); intro g4 hbg4 hfg4; intro K' hK'; go_big_quiet_op; go_big_quiet_on)
 have ng4x0 : Hid (g1 ≠ g4) := hfg4 (g1, _) mH
 have ng4x1 : Hid (w.heap.size + 1 ≠ g4) := hfg4 (w.heap.size + 1, _) (mT mH)
 have ng4x2 : Hid (w.heap.size ≠ g4) := hfg4 (w.heap.size, _) (mT (mT mH))
 clear hfg4
 refine (gOp_store rfl (g4) (wcs (0)) rfl rfl hbg4 26 (wcs (0)) mH (wc_info _) ((wc_size _).trans (wc_size _).symm) (wc_one _) [(g4, (wo (0))), (g1, (wo (1))), (w.heap.size + 1, (wo (0))), (w.heap.size, (wo (t)))] (mA ⟨.inl rfl, (mA ⟨.inr ⟨(mT mH), ng4x0.out⟩, (mA ⟨.inr ⟨(mT (mT mH)), ng4x1.out⟩, (mA ⟨.inr ⟨(mT (mT (mT mH))), ng4x2.out⟩, (fun _ h => by cases h)⟩)⟩)⟩)⟩) ?_)
 (refine (gOp_pure rfl rfl ?_); intro K' hK'; go_big_quiet_op; go_big_quiet_on)
 rintro u6 ⟨hl2, E2'⟩
 have E5 := hD E2'
 clear hl2 E2' E2
 go_upto_region 4 with (fail)
 refine wp_region_Gx (w0 := w) [0] [1] [(g4, (wo (0))), (g1, (wo (1))), (w.heap.size + 1, (wo (0))), (w.heap.size, (wo (t)))] rfl E5.out ?_
 have hone := @EnvC.one _ _ _ (E5.out)
 (refine wpG_load rfl rfl (g1) rfl 26 _ _ (fun u hu => EnvC.box hu _ (wo (1)) (mT mH)) Tryz.underlying26 rfl (wc_info _) ?_ (E5.out); intro K hK; go_big_quiet_op; go_big_quiet_on)
 clear hone
 refine wpG_nil ?_
 refine (gOp_store rfl (w.heap.size + 1) (wcs (1)) rfl rfl hb2 26 (wcs (0)) (mT (mT mH)) (wc_info _) ((wc_size _).trans (wc_size _).symm) (wc_one _) [(w.heap.size + 1, (wo (1))), (g4, (wo (0))), (g1, (wo (1))), (w.heap.size, (wo (t)))] (mA ⟨.inl rfl, (mA ⟨.inr ⟨mH, (Ne.symm ng4x1.out)⟩, (mA ⟨.inr ⟨(mT mH), (Ne.symm ng1x0.out)⟩, (mA ⟨.inr ⟨(mT (mT (mT mH))), (Ne.symm n21.out)⟩, (fun _ h => by cases h)⟩)⟩)⟩)⟩) ?_)
 rintro u8 ⟨hl2, E2'⟩
 have E7 := hD E2'
 clear hl2 E2' E5
 go_wp2_with ((with_reducible refine bodyPost_ret (v := .agg (wcs (1))) ?_ ?_ ?_); (exact results_cell_row (p := 2) (ty := 26) Tryz.results71 _ _ (w.heap.size + 1) 26 (wcs (1)) (0, 0) _ rfl (E7.out.box _ (wo (1)) mH) Tryz.underlying26 rfl (wc_info _)); (rfl))
 exact E7.out.bel
theorem work_yes (t : Nat) (w : World) (n r k : Nat) (kb : Bool) (hn : Hid (n = t + 1)) (hnB : Hid (n < Big)) (hn0 : Hid (0 < n)) (hr : Hid (r = Big - n)) (hrB : Hid (r < Big)) (hqB : Hid (r / n < Big)) (hk : Hid ((r / n + 1) % Big = k)) (hkb : Hid (decide (r / n + 1 < Big) = kb)) :
  Calls Tryz.prog 71 #[.agg (wcs t)] w fun e w' => e = .returned (.agg (wcs k)) ∧ Below w.heap.size w w' := by
 have H1 := hD Big_gt
 have E1 : Hid (EnvX w ((w.alloc (.cells (wcs t) 26)).alloc (.cells #[.int .u64 0, .int .u64 0, .int .u64 0, .int .u64 0] 26)) [(w.heap.size + 1, wo 0), (w.heap.size, wo t)]) := (EnvX.start w).two (wo t) (wo 0)
 have hb1 : w.heap.size ≤ w.heap.size := Nat.le_refl _
 have hb2 : w.heap.size ≤ w.heap.size + 1 := Nat.le_succ _
 have n21 : Hid (w.heap.size + 1 ≠ w.heap.size) := by show _ ≠ _; omega
 go_enter Tryz.func71, Tryz.ntmps71
 go_upto_region 1 with (fail)
 generalize (w.alloc (.cells (wcs t) 26)).alloc (.cells #[.int .u64 0, .int .u64 0, .int .u64 0, .int .u64 0] 26) = w1 at *
 refine wp_region_Gx (w0 := w) [0] [1, 2] [(w.heap.size + 1, (wo (0))), (w.heap.size, (wo (t)))] rfl E1.out ?_
 have hone := @EnvC.one _ _ _ (E1.out)
 (refine wpG_call (f := 32) (args := #[.int .u64 (1 : Nat)]) (v := .agg (wcs (1))) rfl rfl rfl Tryz.func32 rfl rfl (fun u _ => of_n 1 u (by decide)) ?_ (E1.out); intro K hK; go_big_quiet_op; go_big_quiet_on)
 clear hone
 refine wpG_nil ?_
 (refine (gOp_new (wo (0)) rfl (new_wide _) ?_); intro g1 hbg1 hfg1; intro K' hK'; go_big_quiet_op; go_big_quiet_on)
 have ng1x0 : Hid (w.heap.size + 1 ≠ g1) := hfg1 (w.heap.size + 1, _) mH
 have ng1x1 : Hid (w.heap.size ≠ g1) := hfg1 (w.heap.size, _) (mT mH)
 clear hfg1
 refine (gOp_store rfl (g1) (wcs (1)) rfl rfl hbg1 26 (wcs (0)) mH (wc_info _) ((wc_size _).trans (wc_size _).symm) (wc_one _) [(g1, (wo (1))), (w.heap.size + 1, (wo (0))), (w.heap.size, (wo (t)))] (mA ⟨.inl rfl, (mA ⟨.inr ⟨(mT mH), ng1x0.out⟩, (mA ⟨.inr ⟨(mT (mT mH)), ng1x1.out⟩, (fun _ h => by cases h)⟩)⟩)⟩) ?_)
 rintro u3 ⟨hl2, E2'⟩
 have E2 := hD E2'
 clear hl2 E2' E1
 go_upto_region 2 with (fail)
 refine wp_region_Gx (w0 := w) [0, 1, 2, 3, 4, 5] [6, 7, 8] [(g1, (wo (1))), (w.heap.size + 1, (wo (0))), (w.heap.size, (wo (t)))] rfl E2.out ?_
 have hone := @EnvC.one _ _ _ (E2.out)
 (refine wpG_load rfl rfl (w.heap.size) rfl 26 _ _ (fun u hu => EnvC.box hu _ (wo (t)) (mT (mT mH))) Tryz.underlying26 rfl (wc_info _) ?_ (E2.out); intro K hK; go_big_quiet_op; go_big_quiet_on)
 (refine wpG_load rfl rfl (g1) rfl 26 _ _ (fun u hu => EnvC.box hu _ (wo (1)) mH) Tryz.underlying26 rfl (wc_info _) ?_ (E2.out); intro K hK; go_big_quiet_op; go_big_quiet_on)
 (refine wpG_call (f := 29) (args := #[.agg (wcs (t)), .agg (wcs (1))]) (v := .tuple #[.agg (wcs (n)), .bool (true)]) rfl rfl rfl Tryz.func29 rfl rfl (fun u _ => add_yes t 1 n u hn.out (by have := hnB.out; omega)) ?_ (E2.out); intro K hK; go_big_quiet_op; go_big_quiet_on)
 iterate 3 (refine wpG_op rfl rfl rfl ?_; intro K hK; go_big_quiet_op; go_big_quiet_on)
 clear hone
 refine wpG_nil ?_
 (refine (gOp_new (wo (0)) rfl (new_wide _) ?_); intro g4 hbg4 hfg4; intro K' hK'; go_big_quiet_op; go_big_quiet_on)
 have ng4x0 : Hid (g1 ≠ g4) := hfg4 (g1, _) mH
 have ng4x1 : Hid (w.heap.size + 1 ≠ g4) := hfg4 (w.heap.size + 1, _) (mT mH)
 have ng4x2 : Hid (w.heap.size ≠ g4) := hfg4 (w.heap.size, _) (mT (mT mH))
 clear hfg4
 refine (gOp_store rfl (g4) (wcs (n)) rfl rfl hbg4 26 (wcs (0)) mH (wc_info _) ((wc_size _).trans (wc_size _).symm) (wc_one _) [(g4, (wo (n))), (g1, (wo (1))), (w.heap.size + 1, (wo (0))), (w.heap.size, (wo (t)))] (mA ⟨.inl rfl, (mA ⟨.inr ⟨(mT mH), ng4x0.out⟩, (mA ⟨.inr ⟨(mT (mT mH)), ng4x1.out⟩, (mA ⟨.inr ⟨(mT (mT (mT mH))), ng4x2.out⟩, (fun _ h => by cases h)⟩)⟩)⟩)⟩) ?_)
 (refine (gOp_pure rfl rfl ?_); intro K' hK'; go_big_quiet_op; go_big_quiet_on)
 rintro u6 ⟨hl2, E2'⟩
 have E5 := hD E2'
 clear hl2 E2' E2
 go_upto_region 5 with (fail)
 refine wp_region_Gx (w0 := w) [0, 1, 2, 3, 4, 5] [6, 7, 8] [(g4, (wo (n))), (g1, (wo (1))), (w.heap.size + 1, (wo (0))), (w.heap.size, (wo (t)))] rfl E5.out ?_
 have hone := @EnvC.one _ _ _ (E5.out)
 (refine wpG_op rfl rfl rfl ?_; intro K hK; go_big_quiet_op; go_big_quiet_on)
 (refine wpG_load rfl rfl (g4) rfl 26 _ _ (fun u hu => EnvC.box hu _ (wo (n)) mH) Tryz.underlying26 rfl (wc_info _) ?_ (E5.out); intro K hK; go_big_quiet_op; go_big_quiet_on)
 (refine wpG_call (f := 124) (args := #[.agg (wcs (0)), .agg (wcs (n))]) (v := .tuple #[.agg (wcs (r)), .bool (false)]) rfl rfl rfl Tryz.func124 rfl rfl (fun u _ => sub_neg n r u hn0.out hnB.out hr.out) ?_ (E5.out); intro K hK; go_big_quiet_op; go_big_quiet_on)
 iterate 3 (refine wpG_op rfl rfl rfl ?_; intro K hK; go_big_quiet_op; go_big_quiet_on)
 clear hone
 refine wpG_nil ?_
 (refine (gOp_new (wo (0)) rfl (new_wide _) ?_); intro g7 hbg7 hfg7; intro K' hK'; go_big_quiet_op; go_big_quiet_on)
 have ng7x0 : Hid (g4 ≠ g7) := hfg7 (g4, _) mH
 have ng7x1 : Hid (g1 ≠ g7) := hfg7 (g1, _) (mT mH)
 have ng7x2 : Hid (w.heap.size + 1 ≠ g7) := hfg7 (w.heap.size + 1, _) (mT (mT mH))
 have ng7x3 : Hid (w.heap.size ≠ g7) := hfg7 (w.heap.size, _) (mT (mT (mT mH)))
 clear hfg7
 refine (gOp_store rfl (g7) (wcs (r)) rfl rfl hbg7 26 (wcs (0)) mH (wc_info _) ((wc_size _).trans (wc_size _).symm) (wc_one _) [(g7, (wo (r))), (g4, (wo (n))), (g1, (wo (1))), (w.heap.size + 1, (wo (0))), (w.heap.size, (wo (t)))] (mA ⟨.inl rfl, (mA ⟨.inr ⟨(mT mH), ng7x0.out⟩, (mA ⟨.inr ⟨(mT (mT mH)), ng7x1.out⟩, (mA ⟨.inr ⟨(mT (mT (mT mH))), ng7x2.out⟩, (mA ⟨.inr ⟨(mT (mT (mT (mT mH)))), ng7x3.out⟩, (fun _ h => by cases h)⟩)⟩)⟩)⟩)⟩) ?_)
 (refine (gOp_pure rfl rfl ?_); intro K' hK'; go_big_quiet_op; go_big_quiet_on)
 rintro u9 ⟨hl2, E2'⟩
 have E8 := hD E2'
 clear hl2 E2' E5
 go_upto_region 6 with (fail)
 refine wp_region_Gx (w0 := w) [0, 1, 2, 3, 4, 5, 6] [7, 8, 9, 10, 11] [(g7, (wo (r))), (g4, (wo (n))), (g1, (wo (1))), (w.heap.size + 1, (wo (0))), (w.heap.size, (wo (t)))] rfl E8.out ?_
 have hone := @EnvC.one _ _ _ (E8.out)
 (refine wpG_load rfl rfl (g7) rfl 26 _ _ (fun u hu => EnvC.box hu _ (wo (r)) mH) Tryz.underlying26 rfl (wc_info _) ?_ (E8.out); intro K hK; go_big_quiet_op; go_big_quiet_on)
 (refine wpG_load rfl rfl (g4) rfl 26 _ _ (fun u hu => EnvC.box hu _ (wo (n)) (mT mH)) Tryz.underlying26 rfl (wc_info _) ?_ (E8.out); intro K hK; go_big_quiet_op; go_big_quiet_on)
 (refine wpG_call (f := 125) (args := #[.agg (wcs (r)), .agg (wcs (n))]) (v := .tuple #[.agg (wcs (r / n)), .agg (wcs (r % n)), .bool (true)]) rfl rfl rfl Tryz.func125 rfl rfl (fun u _ => div_yes r n u hrB.out hnB.out hn0.out) ?_ (E8.out); intro K hK; go_big_quiet_op; go_big_quiet_on)
 iterate 4 (refine wpG_op rfl rfl rfl ?_; intro K hK; go_big_quiet_op; go_big_quiet_on)
 clear hone
 refine wpG_nil ?_
 (refine (gOp_new (wo (0)) rfl (new_wide _) ?_); intro g10 hbg10 hfg10; intro K' hK'; go_big_quiet_op; go_big_quiet_on)
 have ng10x0 : Hid (g7 ≠ g10) := hfg10 (g7, _) mH
 have ng10x1 : Hid (g4 ≠ g10) := hfg10 (g4, _) (mT mH)
 have ng10x2 : Hid (g1 ≠ g10) := hfg10 (g1, _) (mT (mT mH))
 have ng10x3 : Hid (w.heap.size + 1 ≠ g10) := hfg10 (w.heap.size + 1, _) (mT (mT (mT mH)))
 have ng10x4 : Hid (w.heap.size ≠ g10) := hfg10 (w.heap.size, _) (mT (mT (mT (mT mH))))
 clear hfg10
 (refine (gOp_new (wo (0)) rfl (new_wide _) ?_); intro g11 hbg11 hfg11; intro K' hK'; go_big_quiet_op; go_big_quiet_on)
 have ng11x5 : Hid (g10 ≠ g11) := hfg11 (g10, _) mH
 have ng11x6 : Hid (g7 ≠ g11) := hfg11 (g7, _) (mT mH)
 have ng11x7 : Hid (g4 ≠ g11) := hfg11 (g4, _) (mT (mT mH))
 have ng11x8 : Hid (g1 ≠ g11) := hfg11 (g1, _) (mT (mT (mT mH)))
 have ng11x9 : Hid (w.heap.size + 1 ≠ g11) := hfg11 (w.heap.size + 1, _) (mT (mT (mT (mT mH))))
 have ng11x10 : Hid (w.heap.size ≠ g11) := hfg11 (w.heap.size, _) (mT (mT (mT (mT (mT mH)))))
 clear hfg11
 refine (gOp_store rfl (g10) (wcs (r / n)) rfl rfl hbg10 26 (wcs (0)) (mT mH) (wc_info _) ((wc_size _).trans (wc_size _).symm) (wc_one _) [(g10, (wo (r / n))), (g11, (wo (0))), (g7, (wo (r))), (g4, (wo (n))), (g1, (wo (1))), (w.heap.size + 1, (wo (0))), (w.heap.size, (wo (t)))] (mA ⟨.inl rfl, (mA ⟨.inr ⟨mH, (Ne.symm ng11x5.out)⟩, (mA ⟨.inr ⟨(mT (mT mH)), ng10x0.out⟩, (mA ⟨.inr ⟨(mT (mT (mT mH))), ng10x1.out⟩, (mA ⟨.inr ⟨(mT (mT (mT (mT mH)))), ng10x2.out⟩, (mA ⟨.inr ⟨(mT (mT (mT (mT (mT mH))))), ng10x3.out⟩, (mA ⟨.inr ⟨(mT (mT (mT (mT (mT (mT mH)))))), ng10x4.out⟩, (fun _ h => by cases h)⟩)⟩)⟩)⟩)⟩)⟩)⟩) ?_)
 refine (gOp_store rfl (g11) (wcs (r % n)) rfl rfl hbg11 26 (wcs (0)) (mT mH) (wc_info _) ((wc_size _).trans (wc_size _).symm) (wc_one _) [(g11, (wo (r % n))), (g10, (wo (r / n))), (g7, (wo (r))), (g4, (wo (n))), (g1, (wo (1))), (w.heap.size + 1, (wo (0))), (w.heap.size, (wo (t)))] (mA ⟨.inl rfl, (mA ⟨.inr ⟨mH, ng11x5.out⟩, (mA ⟨.inr ⟨(mT (mT mH)), ng11x6.out⟩, (mA ⟨.inr ⟨(mT (mT (mT mH))), ng11x7.out⟩, (mA ⟨.inr ⟨(mT (mT (mT (mT mH)))), ng11x8.out⟩, (mA ⟨.inr ⟨(mT (mT (mT (mT (mT mH))))), ng11x9.out⟩, (mA ⟨.inr ⟨(mT (mT (mT (mT (mT (mT mH)))))), ng11x10.out⟩, (fun _ h => by cases h)⟩)⟩)⟩)⟩)⟩)⟩)⟩) ?_)
 (refine (gOp_pure rfl rfl ?_); intro K' hK'; go_big_quiet_op; go_big_quiet_on)
 rintro u13 ⟨hl2, E2'⟩
 have E12 := hD E2'
 clear hl2 E2' E8
 go_upto_region 7 with (fail)
 refine wp_region_Gx (w0 := w) [0, 1, 2, 3, 4, 5] [6, 7, 8] [(g11, (wo (r % n))), (g10, (wo (r / n))), (g7, (wo (r))), (g4, (wo (n))), (g1, (wo (1))), (w.heap.size + 1, (wo (0))), (w.heap.size, (wo (t)))] rfl E12.out ?_
 have hone := @EnvC.one _ _ _ (E12.out)
 (refine wpG_load rfl rfl (g10) rfl 26 _ _ (fun u hu => EnvC.box hu _ (wo (r / n)) (mT mH)) Tryz.underlying26 rfl (wc_info _) ?_ (E12.out); intro K hK; go_big_quiet_op; go_big_quiet_on)
 (refine wpG_load rfl rfl (g1) rfl 26 _ _ (fun u hu => EnvC.box hu _ (wo (1)) (mT (mT (mT (mT mH))))) Tryz.underlying26 rfl (wc_info _) ?_ (E12.out); intro K hK; go_big_quiet_op; go_big_quiet_on)
 (refine wpG_call (f := 29) (args := #[.agg (wcs (r / n)), .agg (wcs (1))]) (v := .tuple #[.agg (wcs (k)), .bool (kb)]) rfl rfl rfl Tryz.func29 rfl rfl (fun u _ => by have h := add_any (r / n) 1 u hqB.out (by have := H1.out; omega); rw [hk.out, hkb.out] at h; exact h) ?_ (E12.out); intro K hK; go_big_quiet_op; go_big_quiet_on)
 iterate 3 (refine wpG_op rfl rfl rfl ?_; intro K hK; go_big_quiet_op; go_big_quiet_on)
 clear hone
 refine wpG_nil ?_
 (refine (gOp_new (wo (0)) rfl (new_wide _) ?_); intro g14 hbg14 hfg14; intro K' hK'; go_big_quiet_op; go_big_quiet_on)
 have ng14x0 : Hid (g11 ≠ g14) := hfg14 (g11, _) mH
 have ng14x1 : Hid (g10 ≠ g14) := hfg14 (g10, _) (mT mH)
 have ng14x2 : Hid (g7 ≠ g14) := hfg14 (g7, _) (mT (mT mH))
 have ng14x3 : Hid (g4 ≠ g14) := hfg14 (g4, _) (mT (mT (mT mH)))
 have ng14x4 : Hid (g1 ≠ g14) := hfg14 (g1, _) (mT (mT (mT (mT mH))))
 have ng14x5 : Hid (w.heap.size + 1 ≠ g14) := hfg14 (w.heap.size + 1, _) (mT (mT (mT (mT (mT mH)))))
 have ng14x6 : Hid (w.heap.size ≠ g14) := hfg14 (w.heap.size, _) (mT (mT (mT (mT (mT (mT mH))))))
 clear hfg14
 refine (gOp_store rfl (g14) (wcs (k)) rfl rfl hbg14 26 (wcs (0)) mH (wc_info _) ((wc_size _).trans (wc_size _).symm) (wc_one _) [(g14, (wo (k))), (g11, (wo (r % n))), (g10, (wo (r / n))), (g7, (wo (r))), (g4, (wo (n))), (g1, (wo (1))), (w.heap.size + 1, (wo (0))), (w.heap.size, (wo (t)))] (mA ⟨.inl rfl, (mA ⟨.inr ⟨(mT mH), ng14x0.out⟩, (mA ⟨.inr ⟨(mT (mT mH)), ng14x1.out⟩, (mA ⟨.inr ⟨(mT (mT (mT mH))), ng14x2.out⟩, (mA ⟨.inr ⟨(mT (mT (mT (mT mH)))), ng14x3.out⟩, (mA ⟨.inr ⟨(mT (mT (mT (mT (mT mH))))), ng14x4.out⟩, (mA ⟨.inr ⟨(mT (mT (mT (mT (mT (mT mH)))))), ng14x5.out⟩, (mA ⟨.inr ⟨(mT (mT (mT (mT (mT (mT (mT mH))))))), ng14x6.out⟩, (fun _ h => by cases h)⟩)⟩)⟩)⟩)⟩)⟩)⟩)⟩) ?_)
 (refine (gOp_pure rfl rfl ?_); intro K' hK'; go_big_quiet_op; go_big_quiet_on)
 rintro u16 ⟨hl2, E2'⟩
 have E15 := hD E2'
 clear hl2 E2' E12
 go_upto_region 8 with (fail)
 refine wp_region_Gx (w0 := w) [0] [1] [(g14, (wo (k))), (g11, (wo (r % n))), (g10, (wo (r / n))), (g7, (wo (r))), (g4, (wo (n))), (g1, (wo (1))), (w.heap.size + 1, (wo (0))), (w.heap.size, (wo (t)))] rfl E15.out ?_
 have hone := @EnvC.one _ _ _ (E15.out)
 (refine wpG_load rfl rfl (g14) rfl 26 _ _ (fun u hu => EnvC.box hu _ (wo (k)) mH) Tryz.underlying26 rfl (wc_info _) ?_ (E15.out); intro K hK; go_big_quiet_op; go_big_quiet_on)
 clear hone
 refine wpG_nil ?_
 refine (gOp_store rfl (w.heap.size + 1) (wcs (k)) rfl rfl hb2 26 (wcs (0)) (mT (mT (mT (mT (mT (mT mH)))))) (wc_info _) ((wc_size _).trans (wc_size _).symm) (wc_one _) [(w.heap.size + 1, (wo (k))), (g14, (wo (k))), (g11, (wo (r % n))), (g10, (wo (r / n))), (g7, (wo (r))), (g4, (wo (n))), (g1, (wo (1))), (w.heap.size, (wo (t)))] (mA ⟨.inl rfl, (mA ⟨.inr ⟨mH, (Ne.symm ng14x5.out)⟩, (mA ⟨.inr ⟨(mT mH), (Ne.symm ng11x9.out)⟩, (mA ⟨.inr ⟨(mT (mT mH)), (Ne.symm ng10x3.out)⟩, (mA ⟨.inr ⟨(mT (mT (mT mH))), (Ne.symm ng7x2.out)⟩, (mA ⟨.inr ⟨(mT (mT (mT (mT mH)))), (Ne.symm ng4x1.out)⟩, (mA ⟨.inr ⟨(mT (mT (mT (mT (mT mH))))), (Ne.symm ng1x0.out)⟩, (mA ⟨.inr ⟨(mT (mT (mT (mT (mT (mT (mT mH))))))), (Ne.symm n21.out)⟩, (fun _ h => by cases h)⟩)⟩)⟩)⟩)⟩)⟩)⟩)⟩) ?_)
 rintro u18 ⟨hl2, E2'⟩
 have E17 := hD E2'
 clear hl2 E2' E15
 go_wp2_with ((with_reducible refine bodyPost_ret (v := .agg (wcs (k))) ?_ ?_ ?_); (exact results_cell_row (p := 2) (ty := 26) Tryz.results71 _ _ (w.heap.size + 1) 26 (wcs (k)) (0, 0) _ rfl (E17.out.box _ (wo (k)) mH) Tryz.underlying26 rfl (wc_info _)); (rfl))
 exact E17.out.bel
theorem work_any (t : Nat) (w : World) (ht : t < Big) :
   Rz 71 #[.agg (wcs t)] w (.agg (wcs (wkV t))) := by
 unfold Rz
 by_cases h : t + 1 < Big
 · have h1 := wk_prog h
   refine work_yes t w (t + 1) (Big - (t + 1)) (wkV t) _ rfl h (by show _ < _; omega) rfl (by show _ < _; omega) ?_ h1 rfl
   show _ < _
   exact Nat.lt_of_le_of_lt (Nat.div_le_self _ _) (by omega)
 · have e : wkV t = 1 := by unfold wkV; rw [if_neg h]
   rw [e]
   exact work_no t w (by omega)
theorem reaches_any (n t k g5 g3 : Nat) (b : Bool) (w : World) (hn : Hid (n < Big)) (ht : Hid (t < Big)) (hk : k ≤ 31) (hb : Hid (decide (n ≤ t / 2 ^ k) = b)) (h5 : Hid (w.heap[g5]? = some (wo n))) (h3 : Hid (w.heap[g3]? = some (wo t))) :
  Calls Tryz.prog 167 #[.int .i64 (k : Int), .pointer (some ⟨g5, 0, none⟩), .pointer (some ⟨g3, 0, none⟩)] w fun e w' => e = .returned (.bool b) ∧ Below w.heap.size w w' := by
 have E1 : Hid (EnvX w w [(g5, wo n), (g3, wo t)]) := ⟨Below.refl _ _, fun g o hm => by
  rcases List.mem_cons.1 hm with e | hm
  · cases e; exact h5.out
  · cases mS.1 hm; exact h3.out⟩
 clear h5 h3
 have hdB := hD (Nat.lt_of_le_of_lt (Nat.div_le_self t (2 ^ k)) ht.out)
 have hS := hD (cmpI_sgn n (t / 2 ^ k)).2.1
 have hdn : Hid (∀ u, Calls Tryz.prog 169 #[.agg (wcs t), .int .i64 (k : Int)] u fun e w' => e = .returned (.agg (wcs (t / 2 ^ k))) ∧ Below u.heap.size u w') := fun u => down_any t k u ht.out (by omega)
 generalize t / 2 ^ k = d at *
 generalize hc : cmpI n d = c at *
 have HC := hD hc
 clear hc
 go_enter Tryz.func167, Tryz.ntmps167
 go_upto_region 1 with (fail)
 refine wp_region_G (w0 := w) [0, 1, 2, 3, 4, 5, 6] [(g5, (wo (n))), (g3, (wo (t)))] 0 (by kernel_rfl) (by kernel_rfl) rfl E1.out ?_
 have hone := @EnvC.one _ _ _ (E1.out.drew)
 (refine wpG_load rfl rfl (g5) rfl 26 _ _ (fun u hu => EnvC.box hu _ (wo (n)) mH) Tryz.underlying26 rfl (wc_info _) ?_ (E1.out.drew); intro K hK; go_big_quiet_op; go_big_quiet_on)
 (refine wpG_load rfl rfl (g3) rfl 26 _ _ (fun u hu => EnvC.box hu _ (wo (t)) (mT mH)) Tryz.underlying26 rfl (wc_info _) ?_ (E1.out.drew); intro K hK; go_big_quiet_op; go_big_quiet_on)
 (refine wpG_op rfl rfl rfl ?_; intro K hK; go_big_quiet_op; go_big_quiet_on)
 (refine wpG_call (f := 169) (args := #[.agg (wcs (t)), .int .i64 (k : Int)]) (v := .agg (wcs (d))) rfl rfl rfl Tryz.func169 rfl rfl (fun u _ => hdn.out u) ?_ (E1.out.drew); intro K hK; go_big_quiet_op; go_big_quiet_on)
 (refine wpG_call (f := 168) (args := #[.agg (wcs (n)), .agg (wcs (d))]) (v := .int .i64 c) rfl rfl rfl Tryz.func168 rfl rfl (fun u _ => (by rw [← HC.out]; exact cmp_any n d u hn.out hdB.out)) ?_ (E1.out.drew); intro K hK; go_big_quiet_op; go_big_quiet_on)
 iterate 2 (refine wpG_op rfl rfl rfl ?_; intro K hK; go_big_quiet_op; go_big_quiet_on)
 clear hone
 refine wpG_nil ?_
 refine anyG_done (by kernel_rfl) ?_
 rintro u2 ⟨hl2, E2'⟩
 have EX1 := hD E2'
 clear hl2 E2' E1
 go_wp2_with fail
 go_ret
 refine ⟨?_, EX1.out.bel⟩
 rw [← hb.out, show decide (n ≤ d) = decide (c ≤ 0) by simp only [hS.out]]
 rfl
theorem level_any (f : Nat → Nat) (hf : ∀ i, f i < 256) (t : Nat) (w : World) (ht : t < Big) :
  Rz 126 #[.agg (idF (fun i => (f i : Int))), .agg (wcs t)] w (.int .i64 (lvI (numOf f) t)) := by
 unfold Rz
 have hN := hD (numOf_lt f hf)
 have ht' := hD ht
 have HO : Hid (∀ u, Calls Tryz.prog 166 #[.agg (idF (fun i => (f i : Int)))] u fun e w' => e = .returned (.agg (wcs (numOf f))) ∧ Below u.heap.size u w') := fun u => of32_any f hf u
 generalize numOf f = n at *
 have E1 : Hid (EnvX w ((w.alloc (.cells (idF (fun i => (f i : Int))) 23)).alloc (.cells (wcs t) 26)) [(w.heap.size + 1, wo t), (w.heap.size, io (fun i => (f i : Int)))]) := (EnvX.start w).two (io (fun i => (f i : Int))) (wo t)
 have hb1 : w.heap.size ≤ w.heap.size := Nat.le_refl _
 have hb2 : w.heap.size ≤ w.heap.size + 1 := Nat.le_succ _
 have n21 : Hid (w.heap.size + 1 ≠ w.heap.size) := by show _ ≠ _; omega
 have hmf : ∀ (fn : Fn) (first cap : Array Value) (w : World), (Instr.makeFunc fn first cap).run Tryz.prog w = .ok (.func fn first cap) w := fun _ _ _ _ => rfl
 go_enter Tryz.func126, Tryz.ntmps126
 go_upto_region 1 with (fail)
 generalize (w.alloc (.cells (idF (fun i => (f i : Int))) 23)).alloc (.cells (wcs t) 26) = w1 at *
 refine wp_region_Gx (w0 := w) [0, 1] [2, 3] [(w.heap.size + 1, (wo (t))), (w.heap.size, (io (fun i => (f i : Int))))] rfl E1.out ?_
 have hone := @EnvC.one _ _ _ (E1.out)
 (refine wpG_load rfl rfl (w.heap.size) rfl 23 _ _ (fun u hu => EnvC.box hu _ (io (fun i => (f i : Int))) (mT mH)) Tryz.underlying23 rfl (infoId _ (idF_size _)) ?_ (E1.out); intro K hK; go_big_quiet_op; go_big_quiet_on)
 refine qc rfl Tryz.func166 (fun u _ => HO.out u) ⟨_, E1.out⟩ ?_
 clear hone
 refine wpG_nil ?_
 (refine (gOp_new (wo (0)) rfl (new_wide _) ?_); intro g1 hbg1 hfg1; intro K' hK'; go_big_quiet_op; go_big_quiet_on)
 have ng1x0 : Hid (w.heap.size + 1 ≠ g1) := hfg1 (w.heap.size + 1, _) mH
 have ng1x1 : Hid (w.heap.size ≠ g1) := hfg1 (w.heap.size, _) (mT mH)
 clear hfg1
 refine (gOp_store rfl (g1) (wcs (n)) rfl rfl hbg1 26 (wcs (0)) mH (wc_info _) ((wc_size _).trans (wc_size _).symm) (wc_one _) [(g1, (wo (n))), (w.heap.size + 1, (wo (t))), (w.heap.size, (io (fun i => (f i : Int))))] (mA ⟨.inl rfl, (mA ⟨.inr ⟨(mT mH), ng1x0.out⟩, (mA ⟨.inr ⟨(mT (mT mH)), ng1x1.out⟩, (fun _ h => by cases h)⟩)⟩)⟩) ?_)
 rintro u3 ⟨hl2, E2'⟩
 have EX2 := hD E2'
 clear hl2 E2' E1
 have z5 : Hid (EX2.out.box g1 _ mH = EX2.out.box g1 _ mH) := rfl
 clear z5
 go_wp2_with fail
 go_loopw [7] (fun l u => ∃ k : Nat, k ≤ 32 ∧ l = .int .i64 ((k : Int) - 1) ∧ Hid (EnvX w u [(g1, (wo (n))), (w.heap.size + 1, (wo (t))), (w.heap.size, (io (fun i => (f i : Int))))]) ∧ Hid (∀ j, j < k → n ≤ t / 2 ^ j)) (fun l _ => (31 - intOf l).toNat)
 case atStart => exact ⟨0, by omega, rfl, EX2, fun j hj => by omega⟩
 case round =>
  obtain ⟨k, hk, rfl, hE, hall⟩ := hrel
  clear EX2
  have hk0 : (-1 : Int) ≤ (k : Int) - 1 := by omega
  have hk1 : (k : Int) - 1 ≤ 31 := by omega
  by_cases h31 : k < 32
  · have h3 : (k : Int) - 1 < 31 := by omega
    by_cases hr : n ≤ t / 2 ^ k
    · go_wp2_with (go_at_call 167; refine (reaches_any n t k g1 (w.heap.size + 1) true _ hN ht' (by omega) (decide_eq_true hr) (hE.out.box g1 _ mH) (hE.out.box (w.heap.size + 1) _ (mT mH))).mono ?_; rintro e w' ⟨rfl, hb⟩; have hE2 := hD (hE.out.below hb); clear hb)
      go_roundw
      case rel =>
       refine ⟨k + 1, by omega, by go_num, by assumption, fun j hj => ?_⟩
       by_cases hjk : j = k
       · subst hjk; exact hr
       · exact hall.out j (by omega)
      case measure => simp [intOf]; omega
    · go_wp2_with (go_at_call 167; refine (reaches_any n t k g1 (w.heap.size + 1) false _ hN ht' (by omega) (decide_eq_false hr) (hE.out.box g1 _ mH) (hE.out.box (w.heap.size + 1) _ (mT mH))).mono ?_; rintro e w' ⟨rfl, hb⟩; have hE2 := hD (hE.out.below hb); clear hb)
      go_ret
      exact ⟨ret_num (by unfold lvI; rw [lvC_stop hk hall.out (.inr hr)]), by have h := hE2.out.bel; exact h⟩
  · have h3 : ¬ (k : Int) - 1 < 31 := by omega
    go_wp2
    go_ret
    exact ⟨ret_num (by unfold lvI; rw [lvC_stop hk hall.out (.inl (by omega))]), hE.out.bel⟩
structure Hd where
  height : Int
  prev : List Int
  links : List Int
  txs : List Int
  past : List Int
  work : Nat
  bits : Nat
  nonce : Nat
deriving DecidableEq
def noHd : Hd := ⟨0, z32, z32, z32, z32, 0, 0, 0⟩
def okHd (h : Hd) : Prop := I64 h.height ∧ isId h.prev ∧ isId h.links ∧ isId h.txs ∧ isId h.past ∧ h.work < Big ∧ h.bits < 4294967296 ∧ h.nonce < 18446744073709551616
def bytesW (a : Nat) : List Int := listF (bytesOf a)
theorem bytesW_len (a : Nat) : (bytesW a).length = 32 := listF_len _
theorem bytesW_byte (a : Nat) : isB (bytesW a) := by
 intro x hx
 unfold bytesW listF at hx
 obtain ⟨i, _, rfl⟩ := List.mem_map.1 hx
 have := byteAt_lt a i
 unfold bytesOf
 omega
def numB (l : List Int) : Nat := numOf (fun i => (l.getD i 0).toNat)
def bodyH (h : Hd) : List Int := putL h.height.toNat 4 ++ (h.prev ++ (h.links ++ (h.txs ++ (h.past ++ (bytesW h.work ++ (putL h.bits 4 ++ putL h.nonce 8))))))
def mayPut (h : Hd) : Bool := decide (0 ≤ h.height ∧ h.height ≤ 1048576)
def putH (h : Hd) : List Int × Bool := if mayPut h then (bodyH h, true) else ([], false)
def idH (h : Hd) : List Int := if mayPut h then sumL (5 :: bodyH h) else z32
def levelH (h : Hd) : Int := if mayPut h && isC h.bits then if h.height = 0 then 31 else lvI (numB (idH h)) (tv h.bits) else -1
def workH (h : Hd) : Nat := if isC h.bits then wkV (tv h.bits) else 0
def mayH (h : Hd) : Bool := decide (0 ≤ levelH h)
def nonceAt (h : Hd) (k : Nat) : Hd := { h with nonce := (h.nonce + k) % 18446744073709551616 }
def mineH (h : Hd) (tries : Int) : Hd × Bool := match (List.range (min tries 200).toNat).find? (fun k => mayH (nonceAt h k)) with
  | some k => (nonceAt h k, true)
  | none => (h, false)
theorem body_len {h : Hd} (hh : okHd h) : (bodyH h).length = 176 := by
 obtain ⟨_, h1, h2, h3, h4, _, _, _⟩ := hh
 unfold bodyH
 simp only [lA, putL_len, bytesW_len, h1.1, h2.1, h3.1, h4.1]
theorem body_byte {h : Hd} (hh : okHd h) : isB (bodyH h) := by
 obtain ⟨_, h1, h2, h3, h4, _, _, _⟩ := hh
 unfold bodyH
 simp only [isB_append]
 exact ⟨putL_byte _ _, h1.2, h2.2, h3.2, h4.2, bytesW_byte _, putL_byte _ _, putL_byte _ _⟩
def hdC (h : Hd) : List Value := [.int .i64 h.height] ++ ((arrB 32 h.prev).toList ++ ((arrB 32 h.links).toList ++ ((arrB 32 h.txs).toList ++ ((arrB 32 h.past).toList ++ ((wcs h.work).toList ++ ([.int .u32 h.bits] ++ [.int .u64 h.nonce]))))))
def hdA (h : Hd) : Array Value := (hdC h).toArray
def hdV (h : Hd) : Value := .agg (hdA h)
def lenH (h : Hd) : Prop := h.prev.length = 32 ∧ h.links.length = 32 ∧ h.txs.length = 32 ∧ h.past.length = 32
theorem okHd.len {h : Hd} (k : okHd h) : lenH h := ⟨k.2.1.1, k.2.2.1.1, k.2.2.2.1.1, k.2.2.2.2.1.1⟩
theorem hdC_len {h : Hd} (k : lenH h) : (hdC h).length = 135 := by
 unfold hdC
 simp only [lA, idA_list k.1, idA_list k.2.1, idA_list k.2.2.1, idA_list k.2.2.2, wcs_list, List.length_cons, List.length_nil]
theorem hdA_size {h : Hd} (k : lenH h) : (hdA h).size = 135 := by unfold hdA; rw [List.size_toArray, hdC_len k]
theorem hdC_one (h : Hd) : ∀ u ∈ hdC h, u.oneCell' = true := by
 intro u hu
 unfold hdC at hu
 simp only [List.mem_append, mS] at hu
 rcases hu with rfl | e | e | e | e | e | rfl | rfl
 · rfl
 · exact cell_of_all (arrB_one 32 _) u e
 · exact cell_of_all (arrB_one 32 _) u e
 · exact cell_of_all (arrB_one 32 _) u e
 · exact cell_of_all (arrB_one 32 _) u e
 · exact cell_of_all (wc_one _) u e
 · rfl
 · rfl
theorem hdA_one (h : Hd) : (hdA h).all (·.oneCell') = true := by
 rw [Array.all_eq_true]
 intro i hi
 exact hdC_one h _ (show (hdA h)[i] ∈ (hdA h).toList from Array.mem_toList_iff.2 (Array.getElem_mem hi))
theorem aggHd : AggT 29 135 := ⟨fun w => by simp [isAgg, run_underlying Tryz.underlying29], by kernel_rfl⟩
theorem infoHd (cs : Array Value) (h : cs.size = 135) : (Tryz.prog.info? 29).map (·.size) = some cs.size := by rw [h]; exact aggHd.size
theorem oneU32h : ∀ w, (isAgg 27).run Tryz.prog w = .ok false w := fun w => by simp [isAgg, run_underlying Tryz.underlying27]
theorem oneU64h : ∀ w, (isAgg 24).run Tryz.prog w = .ok false w := fun w => by simp [isAgg, run_underlying Tryz.underlying24]
theorem cells_mid {a b c : List Value} {i n : Nat} (ha : a.length = i) (hb : b.length = n) : ((a ++ (b ++ c)).drop i).take n = b := by rw [List.drop_left' ha, List.take_left' hb]
theorem hdC_prev {h : Hd} (k : lenH h) : ((hdA h).toList.drop 1).take 32 = (arrB 32 h.prev).toList := by
 unfold hdA hdC
 exact cells_mid (by simp only [lA, idA_list k.1, idA_list k.2.1, idA_list k.2.2.1, List.length_cons, List.length_nil]) (idA_list k.1)
theorem hdC_links {h : Hd} (k : lenH h) : ((hdA h).toList.drop 33).take 32 = (arrB 32 h.links).toList := by
 unfold hdA hdC
 rw [← aA]
 exact cells_mid (by simp only [lA, idA_list k.1, idA_list k.2.1, idA_list k.2.2.1, List.length_cons, List.length_nil]) (idA_list k.2.1)
theorem hdC_txs {h : Hd} (k : lenH h) : ((hdA h).toList.drop 65).take 32 = (arrB 32 h.txs).toList := by
 unfold hdA hdC
 rw [← aA]; rw [← aA]
 exact cells_mid (by simp only [lA, idA_list k.1, idA_list k.2.1, idA_list k.2.2.1, List.length_cons, List.length_nil]) (idA_list k.2.2.1)
theorem hdC_past {h : Hd} (k : lenH h) : ((hdA h).toList.drop 97).take 32 = (arrB 32 h.past).toList := by
 unfold hdA hdC
 rw [← aA]; rw [← aA]; rw [← aA]
 exact cells_mid (by simp only [lA, idA_list k.1, idA_list k.2.1, idA_list k.2.2.1, List.length_cons, List.length_nil]) (idA_list k.2.2.2)
theorem hdC_work {h : Hd} (k : lenH h) : ((hdA h).toList.drop 129).take 4 = (wcs h.work).toList := by
 unfold hdA hdC
 rw [← aA, ← aA, ← aA, ← aA]
 exact cells_mid (by simp only [lA, idA_list k.1, idA_list k.2.1, idA_list k.2.2.1, idA_list k.2.2.2, wcs_list, List.length_cons, List.length_nil]) (wcs_list _)
theorem hdC_height (h : Hd) : (hdA h)[0]? = some (.int .i64 h.height) := rfl
theorem cell_mid {a b : List Value} {v : Value} {i : Nat} (ha : a.length = i) : (a ++ (v :: b)).toArray[i]? = some v := by
 rw [List.getElem?_toArray, List.getElem?_append_right (by omega), ha, Nat.sub_self]
 rfl
theorem hdC_bits {h : Hd} (k : lenH h) : (hdA h)[133]? = some (.int .u32 h.bits) := by
 unfold hdA hdC
 rw [← aA, ← aA, ← aA, ← aA, ← aA]
 exact cell_mid (by simp only [lA, idA_list k.1, idA_list k.2.1, idA_list k.2.2.1, idA_list k.2.2.2, wcs_list, List.length_cons, List.length_nil])
theorem hdC_nonce {h : Hd} (k : lenH h) : (hdA h)[134]? = some (.int .u64 h.nonce) := by
 unfold hdA hdC
 rw [← aA, ← aA, ← aA, ← aA, ← aA, ← aA]
 exact cell_mid (by simp only [lA, idA_list k.1, idA_list k.2.1, idA_list k.2.2.1, idA_list k.2.2.2, wcs_list, List.length_cons, List.length_nil])
section
variable {w0 u : World} {M : Boxes} {g : Nat} {ty : TypeId} {h : Hd}
theorem box_hd (hu : EnvC w0 M u) (hm : (g, oc (hdA h) ty) ∈ M) (k : lenH h) : (loadVar 29 ⟨g, 0, none⟩).run Tryz.prog u = .ok (hdV h) u := by
 have := box_agg aggHd (k := 0) hu hm (hdC h) (hdC_len k) (by unfold hdA; rw [List.drop_zero, tL (by rw [hdC_len k]; omega)])
 exact this
instance : Cell Tryz.prog (hdA h) 29 0 (hdV h) (lenH h) := ⟨fun hu hm k => box_hd hu hm k⟩
theorem src_hd_prev {h : Hd} (k : lenH h) : ((hdA h).toList.drop 1).take (h.prev.map u8v).length = h.prev.map u8v := by
 have := hdC_prev k
 rw [arrId_map k.1] at this
 rwa [lM, k.1]
theorem src_hd_links {h : Hd} (k : lenH h) : ((hdA h).toList.drop 33).take (h.links.map u8v).length = h.links.map u8v := by
 have := hdC_links k
 rw [arrId_map k.2.1] at this
 rwa [lM, k.2.1]
theorem src_hd_txs {h : Hd} (k : lenH h) : ((hdA h).toList.drop 65).take (h.txs.map u8v).length = h.txs.map u8v := by
 have := hdC_txs k
 rw [arrId_map k.2.2.1] at this
 rwa [lM, k.2.2.1]
theorem src_hd_past {h : Hd} (k : lenH h) : ((hdA h).toList.drop 97).take (h.past.map u8v).length = h.past.map u8v := by
 have := hdC_past k
 rw [arrId_map k.2.2.2] at this
 rwa [lM, k.2.2.2]
theorem box_hd_work (hu : EnvC w0 M u) (hm : (g, oc (hdA h) ty) ∈ M) (k : lenH h) : (loadVar 26 ⟨g, 129, none⟩).run Tryz.prog u = .ok (.agg (wcs h.work)) u := by
 have := box_agg aggWd (k := 129) hu hm _ (wcs_list _) (hdC_work k)
 rwa [agg_list] at this
instance : Cell Tryz.prog (hdA h) 26 129 (.agg (wcs h.work)) (lenH h) := ⟨fun hu hm k => box_hd_work hu hm k⟩
theorem box_hd_height (hu : EnvC w0 M u) (hm : (g, oc (hdA h) ty) ∈ M) : (loadVar 3 ⟨g, 0, none⟩).run Tryz.prog u = .ok (.int .i64 h.height) u :=
 run_load_one oneInt u (box_cell hu hm (hdC_height h))
instance : Cell Tryz.prog (hdA h) 3 0 (.int .i64 h.height) (True) := ⟨fun hu hm k => box_hd_height hu hm⟩
theorem box_hd_bits (hu : EnvC w0 M u) (hm : (g, oc (hdA h) ty) ∈ M) (k : lenH h) : (loadVar 27 ⟨g, 133, none⟩).run Tryz.prog u = .ok (.int .u32 h.bits) u :=
 run_load_one oneU32h u (box_cell hu hm (hdC_bits k))
instance : Cell Tryz.prog (hdA h) 27 133 (.int .u32 h.bits) (lenH h) := ⟨fun hu hm k => box_hd_bits hu hm k⟩
theorem box_hd_nonce (hu : EnvC w0 M u) (hm : (g, oc (hdA h) ty) ∈ M) (k : lenH h) : (loadVar 24 ⟨g, 134, none⟩).run Tryz.prog u = .ok (.int .u64 h.nonce) u :=
 run_load_one oneU64h u (box_cell hu hm (hdC_nonce k))
instance : Cell Tryz.prog (hdA h) 24 134 (.int .u64 h.nonce) (lenH h) := ⟨fun hu hm k => box_hd_nonce hu hm k⟩
end
section
variable {a : Act} {dst : Option Tmp} {x y z : Operand} {ty : TypeId} {pos : String} {after : Array Edge} {gd : Option (Nat × Bool)}
theorem fieldHd_op {k off : Nat} (hk : ([(0, 0), (1, 1), (2, 33), (3, 65), (4, 97), (5, 129), (6, 133), (7, 134)] : List (Nat × Nat)).lookup k = some off) {ad : Addr} (u : World) (hx : a.eval x = .pointer (some ad)) :
  (execOp a.eval ⟨dst, .fieldAddr 29 x k, ty, pos, after, gd⟩).run Tryz.prog u = .ok (.value (.pointer (some (ad.add off)))) u := by
 unfold execOp
 simp only [hx]
 rcases k with _ | _ | _ | _ | _ | _ | _ | _ | k
 all_goals first | (cases hk; go_simp) | cases hk
instance : FldT Tryz.prog 29 [(0, 0), (1, 1), (2, 33), (3, 65), (4, 97), (5, 129), (6, 133), (7, 134)] := ⟨fun h u k => fieldHd_op h u k⟩
end
end Go.Proofs.YtpanpohdnbgdpaaGreatDoor
