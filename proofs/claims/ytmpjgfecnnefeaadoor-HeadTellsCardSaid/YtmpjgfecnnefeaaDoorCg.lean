/- Part of a proof. -/
import Derived.Test.YtmpjgfecnnefeaaDoorCf
import Derived.Great.BuildSlice
import Derived.Maps.AppendAt
import Derived.Laws.MakeOwn
import Derived.Laws.Cells
import Derived.Great.FillDense
import Derived.Laws.StructEq
import Derived.Laws.OwnMore
import Derived.Deep.WholeRow
namespace Go.Proofs.YtmpjgfecnnefeaaDoor
set_option maxRecDepth 8000
open Go.RowKit

/-- rows: each of so many cells -/
def isRows (z : Nat) (L : List (List Value)) : Prop := ∀ x ∈ L, x.length = z
theorem isRows.flat_len {z : Nat} {L : List (List Value)} (h : isRows z L) : L.flatten.length = L.length * z := by
  induction L with
  | nil => simp
  | cons x L ih =>
    rw [List.flatten_cons, List.length_append, h x (List.mem_cons_self ..), ih (fun y hy => h y (List.mem_cons_of_mem _ hy)), List.length_cons, Nat.succ_mul]
    omega
theorem isRows.flat_get {z : Nat} {L : List (List Value)} (h : isRows z L) : ∀ (i j : Nat), i < L.length → j < z → L.flatten[i * z + j]? = (L.getD i [])[j]? := by
  induction L with
  | nil => intro i j hi; simp at hi
  | cons x L ih =>
    intro i j hi hj
    have hx := h x (List.mem_cons_self ..)
    rw [List.flatten_cons]
    cases i with
    | zero =>
      rw [Nat.zero_mul, Nat.zero_add, List.getElem?_append_left (by omega)]
      rfl
    | succ i =>
      rw [List.getElem?_append_right (by rw [hx, Nat.succ_mul]; omega), hx, show (i + 1) * z + j - z = i * z + j by rw [Nat.succ_mul]; omega, ih (fun y hy => h y (List.mem_cons_of_mem _ hy)) i j (by simpa using hi) hj]
      simp
theorem isRows.get {z : Nat} {L : List (List Value)} (h : isRows z L) {i : Nat} (hi : i < L.length) : (L.getD i []).length = z := by
  rw [List.getD_eq_getElem?_getD, List.getElem?_eq_getElem hi]
  exact h _ (List.getElem_mem hi)
/-- cells that are read from a slice's address -/
def CellsIn (w : World) (B : Nat) (A : Option Addr) (xs : List Value) : Prop := 0 < xs.length → ∃ ad, A = some ad ∧ ad.block < B ∧ ∀ j v, xs[j]? = some v → w.cell? (ad.add j) = some v
theorem CellsIn.below {w w' : World} {B : Nat} {A : Option Addr} {xs : List Value} (h : CellsIn w B A xs) (hb : Below B w w') : CellsIn w' B A xs := by
  intro hp
  obtain ⟨ad, e, hlt, hc⟩ := h hp
  refine ⟨ad, e, hlt, fun j v hv => ?_⟩
  have hbl : (ad.add j).block = ad.block := by unfold Addr.add; split <;> rfl
  exact (hb.cell (p := ad.add j) (by rw [hbl]; exact hlt)).trans (hc j v hv)
theorem CellsIn.more {w : World} {B B' : Nat} {A : Option Addr} {xs : List Value} (h : CellsIn w B A xs) (hB : B ≤ B') : CellsIn w B' A xs := fun hp => by
  obtain ⟨ad, e, hlt, hc⟩ := h hp
  exact ⟨ad, e, Nat.lt_of_lt_of_le hlt hB, hc⟩
theorem CellsIn.up {w w' : World} {A : Option Addr} {xs : List Value} (h : CellsIn w w.heap.size A xs) (hb : Below w.heap.size w w') : CellsIn w' w'.heap.size A xs := (h.below hb).more hb.size
theorem add_addN (a : Addr) (l j : Nat) : (a.add l).add j = a.add (l + j) := by
  unfold Addr.add
  by_cases h : l = 0
  · simp [h]
  · by_cases h2 : j = 0
    · simp [h, h2]
    · simp [h, h2, Nat.add_assoc]
/-- an aggregate's type -/
structure AggT (ty : TypeId) (z : Nat) : Prop where
  agg : ∀ w, (isAgg ty).run Tryd.prog w = .ok true w
  size : (Tryd.prog.info? ty).map (·.size) = some z
theorem run_loadAgg {ty : TypeId} {z : Nat} (D : AggT ty z) {w : World} {ad : Addr} (xs : List Value) (hx : xs.length = z) (h : ∀ j v, xs[j]? = some v → w.cell? (ad.add j) = some v) : (loadVar ty ad).run Tryd.prog w = .ok (.agg xs.toArray) w := by
  have hc := run_loadCells_list (P := Tryd.prog) w ad xs h
  have hs := D.size
  rw [hx] at hc
  cases hq : Tryd.prog.info? ty with
  | none => rw [hq] at hs; cases hs
  | some i =>
    rw [hq] at hs
    simp only [Option.map_some, Option.some.injEq] at hs
    simp [loadVar, D.agg, sizeOf, typeInfo, hq, hs, hc]
theorem CellsIn.load {ty : TypeId} {z : Nat} (D : AggT ty z) {w : World} {B : Nat} {A : Option Addr} {L : List (List Value)} (h : CellsIn w B A L.flatten) (hL : isRows z L) (hz : 0 < z) {i : Nat} (hi : i < L.length) :
    ∃ ad, A = some ad ∧ (loadVar ty (ad.add (i * z))).run Tryd.prog w = .ok (.agg (L.getD i []).toArray) w := by
  have hfl := hL.flat_len
  have hp : 0 < L.length * z := Nat.mul_pos (by omega) hz
  obtain ⟨ad, e, _, hc⟩ := h (by omega)
  refine ⟨ad, e, run_loadAgg D _ (hL.get hi) (fun j v hv => ?_)⟩
  rw [add_addN]
  refine hc (i * z + j) v ?_
  have hj : j < z := by
    rcases Nat.lt_or_ge j z with h' | h'
    · exact h'
    · rw [List.getElem?_eq_none (by rw [hL.get hi]; exact h')] at hv
      cases hv
  rw [hL.flat_get i j hi hj]
  exact hv
/-- cells of a box, at a place -/
theorem box_cell {w0 u : World} {M : Boxes} {g k : Nat} {t : TypeId} {cs : Array Value} {v : Value} (hu : EnvC w0 M u) (hm : (g, Obj.cells cs t (0, 0)) ∈ M) (h : cs[k]? = some v) : u.cell? ⟨g, k, none⟩ = some v := by
  rw [Row.cell (EnvX.row hu hm)]
  exact h
theorem box_agg {ty : TypeId} {z : Nat} (D : AggT ty z) {w0 u : World} {M : Boxes} {g k : Nat} {t : TypeId} {cs : Array Value} (hu : EnvC w0 M u) (hm : (g, Obj.cells cs t (0, 0)) ∈ M) (xs : List Value) (hx : xs.length = z) (h : (cs.toList.drop k).take z = xs) : (loadVar ty ⟨g, k, none⟩).run Tryd.prog u = .ok (.agg xs.toArray) u := by
  refine run_loadAgg D xs hx fun j v hv => ?_
  rw [Addr.add_mid]
  refine box_cell hu hm ?_
  subst h
  have hj : j < z := by
    rcases Nat.lt_or_ge j z with h' | h'
    · exact h'
    · rw [List.getElem?_eq_none (by omega)] at hv
      cases hv
  rw [List.getElem?_take_of_lt hj, List.getElem?_drop, Array.getElem?_toList] at hv
  exact hv
section
variable {a : Act} {dst : Option Tmp} {x : Operand} {ty ty' : TypeId} {pos : String} {after : Array Edge} {gd : Option (Nat × Bool)}
theorem load_any_op {ad : Addr} {v : Value} (u : World) (hr : (loadVar ty' ad).run Tryd.prog u = .ok v u) (hx : a.eval x = .pointer (some ad)) :
    (execOp a.eval ⟨dst, .load ty' x, ty, pos, after, gd⟩).run Tryd.prog u = .ok (.value v) u := by
  unfold execOp
  simp only [hx, Instr.loadAt, Instr.sureAddr, Sem.run_bind, Sem.run_pure, Result.andThen_ok, hr]
/-- a load of one cell (an int, a slice, a function) -/
theorem run_load_one {ad : Addr} {v : Value} (ha : ∀ w, (isAgg ty').run Tryd.prog w = .ok false w) (u : World) (h : u.cell? ad = some v) : (loadVar ty' ad).run Tryd.prog u = .ok v u := by
  have h' : (load ad).run Tryd.prog u = .ok v u := by rw [run_load, h]
  simp only [loadVar, Sem.run_bind, ha, Result.andThen_ok, Bool.false_eq_true, if_false, h']
end
/-- an element's type: its slice's type, its own, its cells, its bytes -/
structure ElemT (st e : TypeId) (z bytes : Nat) (zero : Value) : Prop where
  und : Tryd.prog.underlying st = some (.slice e)
  info : (Tryd.prog.info? e).map (fun i => (i.zero, i.size, i.bytes)) = some (some zero, z, bytes)
  zs : zero.cells.size = z
  pos : 0 < z
  small : bytes ≤ 1000
  smallz : z ≤ 1000
def FreshR (e : TypeId) (z n : Nat) (xs : List Value) (x : Value) (N : Boxes) : Prop :=
  (∃ g cap cur, x = .slice (some ⟨g, 0, none⟩) n cap ∧ N = [(g, Obj.cells cur e (0, 0))] ∧ n ≤ cap ∧ cap ≤ maxLen ∧ cur.size = cap * z ∧ cur.toList.take (n * z) = xs) ∨
  (x = .slice none 0 0 ∧ N = [] ∧ n = 0 ∧ xs = [])
theorem fresh_of_own {w : World} {B z n : Nat} {e : TypeId} {v : Value} {xs : List Value} (h : w.ownsRow B e z v n xs) : ∃ N, FreshR e z n xs v N ∧ ∀ y ∈ N, B ≤ y.1 ∧ w.heap[y.1]? = some y.2 ∧ v.ownBlock = some y.1 := by
  rcases h.2 with ⟨e1, e0⟩ | ⟨g, cap, cur, rfl, h1, h2, h3, h4, h5, h6⟩
  · subst e0
    exact ⟨[], .inr ⟨e1, rfl, rfl, List.eq_nil_of_length_eq_zero (by rw [h.1, Nat.zero_mul])⟩, fun y hy => by cases hy⟩
  · refine ⟨_, .inl ⟨g, cap, cur, rfl, rfl, h3, h4, h5, h6⟩, fun y hy => ?_⟩
    cases List.mem_singleton.1 hy
    exact ⟨h1, h2, rfl⟩
theorem FreshR.own {w : World} {B z n : Nat} {e : TypeId} {v : Value} {xs : List Value} {N : Boxes} (h : FreshR e z n xs v N) (hl : xs.length = n * z) (hN : ∀ y ∈ N, B ≤ y.1 ∧ w.heap[y.1]? = some y.2) : w.ownsRow B e z v n xs := by
  refine ⟨hl, ?_⟩
  rcases h with ⟨g, cap, cur, rfl, rfl, h3⟩ | ⟨rfl, rfl, rfl, rfl⟩
  · obtain ⟨k1, k2⟩ := hN _ (List.mem_singleton.2 rfl)
    exact .inr ⟨g, cap, cur, rfl, k1, k2, h3⟩
  · exact .inl ⟨rfl, rfl⟩
theorem FreshR.block {z n : Nat} {e : TypeId} {v : Value} {xs : List Value} {N : Boxes} (h : FreshR e z n xs v N) : ∀ g, v.ownBlock = some g → ∃ o, (g, o) ∈ N := by
  intro g hg
  rcases h with ⟨g', cap, cur, rfl, rfl, h3⟩ | ⟨rfl, rfl, rfl, rfl⟩
  · cases hg
    exact ⟨_, List.mem_singleton.2 rfl⟩
  · cases hg
/-- a call that hands back a new row -/
theorem callsR_fresh {f : FuncId} {args : Array Value} {u : World} {e : TypeId} {z n : Nat} {xs : List Value} (h : Calls Tryd.prog f args u fun en w' => (∃ v, en = .returned v ∧ w'.ownsRow u.heap.size e z v n xs) ∧ Below u.heap.size u w') :
    Calls Tryd.prog f args u fun en w'' => ∃ x N, en = .returned x ∧ FreshR e z n xs x N ∧ Below u.heap.size u w'' ∧ ∀ y ∈ N, u.heap.size ≤ y.1 ∧ w''.heap[y.1]? = some y.2 :=
  h.mono fun en w' ⟨⟨v, he, hv⟩, hb⟩ => by
    obtain ⟨N, hF, hN⟩ := fresh_of_own hv
    exact ⟨v, N, he, hF, hb, fun y hy => ⟨(hN y hy).1, (hN y hy).2.1⟩⟩
section
variable {st e : TypeId} {z bytes : Nat} {zero : Value}
theorem appendR (T : ElemT st e z bytes zero) {w : World} {B n : Nat} {v : Value} {xs : List Value} (h : w.ownsRow B e z v n xs) {ys : List Value} {ad : Addr} {m c : Nat} (hy : ys.length = m * z) (hc : ∀ j u, ys[j]? = some u → w.cell? (ad.add j) = some u) (h1 : ∀ u ∈ ys, u.oneCell' = true) (hs : n + m ≤ 2000000) (hB : B ≤ w.heap.size) :
    ∃ v' w', (Builtin.append_ #[st, st] st #[v, .slice (some ad) m c]).run Tryd.prog w = .ok v' w' ∧ w'.ownsRow B e z v' (n + m) (xs ++ ys) ∧ w.grownBy w' v.ownBlock ∧ (v'.ownBlock = v.ownBlock ∨ v'.ownBlock = some w.heap.size) := by
  cases hq : Tryd.prog.info? e with
  | none => have := T.info; rw [hq] at this; cases this
  | some i =>
    have hi := T.info
    rw [hq] at hi
    simp only [Option.map_some, Option.some.injEq, Prod.mk.injEq] at hi
    obtain ⟨k1, k2, k3⟩ := hi
    have hsm := T.small
    have hmul : (n + m) * bytes ≤ 2000000 * 1000 := Nat.mul_le_mul hs hsm
    obtain ⟨v', w', hrun, hown', hg, _, ho⟩ := run_append_own_at (P := Tryd.prog) w B st st e i zero z bytes T.und hq k1 k2 k3 T.zs T.pos v n xs h ad m c ys hy hc h1 (by unfold maxLen; omega) (by omega) hB
    exact ⟨v', w', hrun, hown', hg, ho⟩
/-- an append of one element in a region over boxes: what it leaves -/
def GrownR (w0 : World) (e : TypeId) (z n : Nat) (xs : List Value) (M0 : Boxes) (v : Value) (M' : Boxes) : Prop := ∃ N, M' = N ++ M0 ∧ FreshR e z n xs v N ∧ freshN w0 N M0
end
end Go.Proofs.YtmpjgfecnnefeaaDoor

namespace Go.Proofs.YtmpjgfecnnefeaaDoor
set_option maxRecDepth 8000
open Go.RowKit

def seqAt (place : Nat → Option (Nat × Nat)) : Nat → List (Nat × Value) → Prop
  | _, [] => True
  | o, (i, v) :: ps => place i = some (o, v.cells.size) ∧ seqAt place (o + v.cells.size) ps
def cellsOfP (ps : List (Nat × Value)) : List Value := (ps.map fun p => p.2.cells.toList).flatten
theorem fill_step (o : Nat) (v zs : Array Value) (hz : o + v.size ≤ zs.size) : ((v.toList.zipIdx 0).foldl (fun cs (x : Value × Nat) => cs.setIfInBounds (o + x.2) x.1) zs).toList = zs.toList.take o ++ v.toList ++ zs.toList.drop (o + v.size) := by
  obtain ⟨g1, g2⟩ := Great.foldl_set o v.toList 0 zs
  apply List.ext_getElem?
  intro k
  have hA : (zs.toList.take o).length = o := by rw [List.length_take, Array.length_toList]; omega
  have hAV : (zs.toList.take o ++ v.toList).length = o + v.size := by rw [List.length_append, hA, Array.length_toList]
  rw [Array.getElem?_toList, g2 k, Array.length_toList, Nat.add_zero]
  by_cases a1 : k < o
  · rw [if_neg (by omega), List.getElem?_append_left (by omega), List.getElem?_append_left (by omega), List.getElem?_take_of_lt a1, Array.getElem?_toList]
  · by_cases a2 : k < o + v.size
    · rw [if_pos (by omega), List.getElem?_append_left (by omega), List.getElem?_append_right (by omega), hA]
    · rw [if_neg (by omega), List.getElem?_append_right (by omega), hAV, List.getElem?_drop, Array.getElem?_toList]
      congr 1
      omega
theorem fill_seq {place : Nat → Option (Nat × Nat)} : ∀ (ps : List (Nat × Value)) (o : Nat) (zs : Array Value), seqAt place o ps → o + (cellsOfP ps).length ≤ zs.size →
    ∃ r, Instr.fill place zs ps = some r ∧ r.toList = zs.toList.take o ++ cellsOfP ps ++ zs.toList.drop (o + (cellsOfP ps).length)
  | [], o, zs, _, _ => ⟨zs, rfl, by simp [cellsOfP]⟩
  | (i, v) :: ps, o, zs, h, hz => by
    obtain ⟨h1, h2⟩ := h
    have hl : (cellsOfP ((i, v) :: ps)).length = v.cells.size + (cellsOfP ps).length := by simp [cellsOfP]
    obtain ⟨g1, g2⟩ := Great.foldl_set o v.cells.toList 0 zs
    have e1 : v.cells.zipIdx.foldl (fun cs (x : Value × Nat) => cs.setIfInBounds (o + x.2) x.1) zs = (v.cells.toList.zipIdx 0).foldl (fun cs (x : Value × Nat) => cs.setIfInBounds (o + x.2) x.1) zs := by rw [← Array.foldl_toList, Array.toList_zipIdx]
    obtain ⟨r, hr, hrl⟩ := fill_seq ps (o + v.cells.size) ((v.cells.toList.zipIdx 0).foldl (fun cs (x : Value × Nat) => cs.setIfInBounds (o + x.2) x.1) zs) h2 (by rw [g1]; omega)
    refine ⟨r, ?_, ?_⟩
    · unfold Instr.fill
      simp only [h1, e1]
      split
      · rename_i h
        simp at h
        omega
      · exact hr
    · have hc : cellsOfP ((i, v) :: ps) = v.cells.toList ++ cellsOfP ps := by simp [cellsOfP]
      rw [hrl, hc, fill_step o v.cells zs (by omega)]
      have hA : (zs.toList.take o ++ v.cells.toList).length = o + v.cells.size := by
        rw [List.length_append, List.length_take, Array.length_toList, Array.length_toList]
        omega
      have hd : (zs.toList.take o ++ v.cells.toList ++ zs.toList.drop (o + v.cells.size)).drop (o + v.cells.size + (cellsOfP ps).length) = zs.toList.drop (o + (v.cells.toList ++ cellsOfP ps).length) := by
        rw [List.drop_append, List.drop_of_length_le (by omega), List.nil_append, List.drop_drop, hA]
        congr 1
        have hvl : v.cells.toList.length = v.cells.size := Array.length_toList
        simp only [List.length_append, hvl]
        omega
      rw [hd, List.take_left' hA]
      simp only [List.append_assoc]
theorem fill_all {place : Nat → Option (Nat × Nat)} {ps : List (Nat × Value)} {zs : Array Value} (h : seqAt place 0 ps) (hz : zs.size = (cellsOfP ps).length) : Instr.fill place zs ps = some (cellsOfP ps).toArray := by
  obtain ⟨r, hr, hl⟩ := fill_seq ps 0 zs h (by omega)
  rw [hr]
  congr 1
  apply Array.ext'
  rw [hl]
  simp only [List.take_zero, List.nil_append, Nat.zero_add]
  rw [List.drop_of_length_le (by rw [Array.length_toList]; omega), List.append_nil]
/-- a struct's literal: all its fields -/
theorem built_struct {t : TypeId} {fields : Array Field} {places : List (Nat × Nat)} {n : Nat} (hu : Tryd.prog.underlying t = some (.struct fields)) (hn : (Tryd.prog.info? t).map (fun i => i.zero.map (·.cells.size)) = some (some n))
    (hp : fields.toList.mapM (fun f => (Tryd.prog.info? f.type).map fun i => (f.offset, i.size)) = some places) {ps : List (Nat × Value)} (h : seqAt (places.toArray[·]?) 0 ps) (hz : n = (cellsOfP ps).length) : Tryd.prog.built t ps = some (cellsOfP ps).toArray := by
  cases hq : Tryd.prog.info? t with
  | none => rw [hq] at hn; cases hn
  | some it =>
    rw [hq] at hn
    simp only [Option.map_some, Option.some.injEq] at hn
    cases hzz : it.zero with
    | none => rw [hzz] at hn; cases hn
    | some z =>
      rw [hzz] at hn
      simp only [Option.map_some, Option.some.injEq] at hn
      unfold Program.built
      simp only [hq, hu, hzz, hp]
      exact fill_all h (by omega)
end Go.Proofs.YtmpjgfecnnefeaaDoor

namespace Go.Proofs.YtmpjgfecnnefeaaDoor
set_option maxRecDepth 8000
open Go.RowKit

theorem oneInt : ∀ w, (isAgg 3).run Tryd.prog w = .ok false w := fun w => by simp [isAgg, run_underlying Tryd.underlying3]
section
variable {a : Act} {dst : Option Tmp} {x y : Operand} {ty : TypeId} {pos : String} {after : Array Edge} {gd : Option (Nat × Bool)}
theorem geq_op {m k : Int} {b : Bool} (u : World) (hb : decide (k ≤ m) = b) (hx : a.eval x = .int .i64 m) (hy : a.eval y = .int .i64 k) :
    (execOp a.eval ⟨dst, .binOp .geq 3 x y 3, ty, pos, after, gd⟩).run Tryd.prog u = .ok (.value (.bool b)) u := by
  subst hb
  unfold execOp
  simp only [hx, hy]
  go_simp
theorem eqlI_op {m k : Int} {b : Bool} (u : World) (hb : decide (m = k) = b) (hx : a.eval x = .int .i64 m) (hy : a.eval y = .int .i64 k) :
    (execOp a.eval ⟨dst, .binOp .eql 3 x y 3, ty, pos, after, gd⟩).run Tryd.prog u = .ok (.value (.bool b)) u := by
  subst hb
  unfold execOp
  simp only [hx, hy]
  go_simp
  rfl
theorem buildA_op {t : TypeId} {parts : Array (Nat × Operand)} {cs : Array Value} (u : World) (hb : Tryd.prog.built t (parts.toList.map fun x => (x.1, a.eval x.2)) = some cs) :
    (execOp a.eval ⟨dst, .build t parts, ty, pos, after, gd⟩).run Tryd.prog u = .ok (.value (.agg cs)) u := by
  have hb' : Tryd.prog.built t (parts.map fun (i, x) => (i, a.eval x)).toList = some cs := by
    rw [Array.toList_map]
    exact hb
  unfold execOp
  simp only [Sem.run_bind, Sem.run_pure, run_build u t _ _ hb', Result.andThen_ok]
end
end Go.Proofs.YtmpjgfecnnefeaaDoor

namespace Go.Proofs.YtmpjgfecnnefeaaDoor
set_option maxRecDepth 8000
open Go.RowKit

def okT (t : Tot) : Prop := (t.h.length = 32 ∧ ∀ b ∈ t.h, 0 ≤ b ∧ b ≤ 255) ∧ t.w < Big ∧ -9223372036854775808 ≤ t.n ∧ t.n ≤ 9223372036854775807
def len32 (t : Tot) : Prop := t.h.length = 32
theorem idA_list {h : List Int} (hh : h.length = 32) : (arrB 32 h).toList.length = 32 := by rw [Array.length_toList]; exact arrB_size _ _ (by omega)
theorem wcs_list (w : Nat) : (wcs w).toList.length = 4 := by rw [Array.length_toList]; exact wc_size w
theorem cell_of_all {a : Array Value} (h : a.all (·.oneCell') = true) : ∀ u ∈ a.toList, u.oneCell' = true := fun u hu => by
  obtain ⟨i, hi, rfl⟩ := Array.mem_iff_getElem.1 (Array.mem_toList_iff.1 hu)
  exact Array.all_eq_true.1 h i hi
theorem aggWd : AggT 26 4 := ⟨fun w => by simp [isAgg, run_underlying Tryd.underlying26], by kernel_rfl⟩
theorem aggIdT : AggT 23 32 := ⟨fun w => by simp [isAgg, run_underlying Tryd.underlying23], by kernel_rfl⟩
theorem agg_list (a : Array Value) : Value.agg a.toList.toArray = .agg a := by rw [Array.toArray_toList]
section
variable {w0 u : World} {M : Boxes} {g : Nat} {ty : TypeId} {t : Tot}
end
def okTs (l : List Tot) : Prop := ∀ t ∈ l, okT t
theorem okT.len {t : Tot} (h : okT t) : len32 t := h.1.1
theorem okTs.take {l : List Tot} (h : okTs l) (k : Nat) : okTs (l.take k) := fun x hx => h x (List.mem_of_mem_take hx)
theorem okTs.drop {l : List Tot} (h : okTs l) (k : Nat) : okTs (l.drop k) := fun x hx => h x (List.mem_of_mem_drop hx)
theorem run_equalIn_id (d : Nat) (xs ys : List Int) (hx : xs.length = 32) (hy : ys.length = 32) (w : World) : (Op.equalIn (d + 2) 23 (.agg (arrB 32 xs)) (.agg (arrB 32 ys))).run Tryd.prog w = .ok (eqL xs ys) w := by
  cases hq : Tryd.prog.info? 5 with
  | none => have := infoB; rw [hq] at this; cases this
  | some i =>
    have h := run_equalIn_array (P := Tryd.prog) w (d + 1) (arrB 32 xs) (arrB 32 ys) Tryd.underlying23 hq
    rw [cellsB, run_items d xs ys hx hy w (List.range 32) (by simp)] at h
    have e : decide (∀ i ∈ List.range 32, xs.getD i 0 = ys.getD i 0) = eqL xs ys := decide_eq_decide.2 (list_eq_iff xs ys hx hy)
    rw [e] at h
    exact h
theorem run_equalIn_wide (d : Nat) (m n : Nat) (hm : m < Big) (hn : n < Big) (w : World) : (Op.equalIn (d + 2) 26 (.agg (wcs m)) (.agg (wcs n))).run Tryd.prog w = .ok (eqN m n) w := by
  cases hq : Tryd.prog.info? 24 with
  | none =>
    have : (Tryd.prog.info? 24).isSome = true := by kernel_rfl
    rw [hq] at this
    cases this
  | some i =>
    have h := run_equalIn_array (P := Tryd.prog) w (d + 1) (wcs m) (wcs n) Tryd.underlying26 hq
    rw [cellsU64, run_itemsW d m n w (List.range 4) (by simp)] at h
    have e : decide (∀ i ∈ List.range 4, W m i = W n i) = eqN m n := decide_eq_decide.2 (words_eq_iff m n hm hn)
    rw [e] at h
    exact h
theorem run_part_agg {e : TypeId} {z : Nat} (D : AggT e z) {cs v : Array Value} {off : Nat} (hv : cs.extract off (off + z) = v) (w : World) : (part e cs off).run Tryd.prog w = .ok (.agg v) w := by
  have hs := D.size
  cases hq : Tryd.prog.info? e with
  | none => rw [hq] at hs; cases hs
  | some k =>
    rw [hq] at hs
    simp only [Option.map_some, Option.some.injEq] at hs
    have hsz : (sizeOf e).run Tryd.prog w = .ok z w := by simp [sizeOf, typeInfo, hq, hs]
    simp [part, D.agg, hsz, hv]
theorem ext_list {a : Array Value} {k z : Nat} {l : List Value} (h : (a.toList.drop k).take z = l) : a.extract k (k + z) = l.toArray := by
  apply Array.ext'
  rw [Array.toList_extract, ← h]
  simp [List.extract_eq_take_drop]
theorem eqFields_step {d : Nat} {xs ys : Array Value} {f : Field} {fs : List Field} {w : World} {a b : Value} {r : Bool} (hn : f.name ≠ "_") (pa : (part f.type xs f.offset).run Tryd.prog w = .ok a w) (pb : (part f.type ys f.offset).run Tryd.prog w = .ok b w)
    (hr : (Op.equalIn d f.type a b).run Tryd.prog w = .ok r w) : (Op.eqFields d xs ys (f :: fs)).run Tryd.prog w = if r = true then (Op.eqFields d xs ys fs).run Tryd.prog w else .ok false w := by
  rw [Op.eqFields, if_pos hn]
  simp only [Sem.run_bind, pa, pb, hr, Result.andThen_ok]
  cases r with
  | false => rfl
  | true => rfl
end Go.Proofs.YtmpjgfecnnefeaaDoor

namespace Go.Proofs.YtmpjgfecnnefeaaDoor
set_option maxRecDepth 8000
open Go.RowKit

theorem elB : ElemT 30 5 1 1 (.int .u8 0) := ⟨Tryd.underlying30, by kernel_rfl, rfl, by decide, by decide, by decide⟩
section
variable {a : Act} {dst : Option Tmp} {x : Operand} {ty : TypeId} {pos : String} {after : Array Edge} {gd : Option (Nat × Bool)}
theorem sliceArr_op {ad : Addr} (u : World) (hx : a.eval x = .pointer (some ad)) :
    (execOp a.eval ⟨dst, .slice 23 x none none none, ty, pos, after, gd⟩).run Tryd.prog u = .ok (.value (.slice (some ad) 32 32)) u := by
  unfold execOp
  simp only [hx]
  go_simp
end
end Go.Proofs.YtmpjgfecnnefeaaDoor

namespace Go.Proofs.YtmpjgfecnnefeaaDoor
set_option maxRecDepth 8000
open Go.RowKit

section
variable {st e : TypeId} {z bytes : Nat} {zero : Value}
/-- the cells of a source -/
def SrcAt (u : World) (ad : Addr) (ys : List Value) : Prop := ∀ j c, ys[j]? = some c → u.cell? (ad.add j) = some c
theorem src_box {w0 u : World} {M : Boxes} {g : Nat} {t : TypeId} {cs : Array Value} {ys : List Value} (hu : EnvC w0 M u) (hm : (g, Obj.cells cs t (0, 0)) ∈ M) {k : Nat} (h : (cs.toList.drop k).take ys.length = ys) : SrcAt u ⟨g, k, none⟩ ys := by
  intro j c hc
  rw [Addr.add_mid]
  refine box_cell hu hm ?_
  have hj : j < ys.length := by
    rcases Nat.lt_or_ge j ys.length with h' | h'
    · exact h'
    · rw [List.getElem?_eq_none h'] at hc; cases hc
  rw [← h, List.getElem?_take_of_lt hj, List.getElem?_drop, Array.getElem?_toList] at hc
  exact hc
theorem appX_op (T : ElemT st e z bytes zero) {w0 u : World} {M : Boxes} (M0 : Boxes) {N : Boxes} {n m c : Nat} {xs : List Value} {v : Value} {ys : List Value} {ad : Addr} {a : Act} {dst : Option Tmp} {y x : Operand} {pos : String} {after : Array Edge} {gd : Option (Nat × Bool)}
    (hu : EnvX w0 u M) (hl : xs.length = n * z) (hy : ys.length = m * z) (h1 : ∀ u ∈ ys, u.oneCell' = true) (hF : FreshR e z n xs v N) (hN : ∀ y ∈ N, y ∈ M ∧ w0.heap.size ≤ y.1) (hc : SrcAt u ad ys) (hM0 : ∀ z ∈ M0, z ∈ M ∧ ∀ y ∈ N, z.1 ≠ y.1) (hs : n + m ≤ 2000000)
    (hyv : a.eval y = v) (hx : a.eval x = .slice (some ad) m c) :
    ∃ v' u' M', (execOp a.eval ⟨dst, .call { callee := .builtin .append, args := #[y, x], argTypes := #[st, st] }, st, pos, after, gd⟩).run Tryd.prog u = .ok (.value v') u' ∧ EnvX w0 u' M' ∧ GrownR w0 e z (n + m) (xs ++ ys) M0 v' M' := by
  have hown : u.ownsRow w0.heap.size e z v n xs := hF.own hl (fun y hy => ⟨(hN y hy).2, hu.box _ _ (hN y hy).1⟩)
  obtain ⟨v', u', hrun, hown', hgr, hob⟩ := appendR T (c := c) hown hy hc h1 hs hu.bel.size
  obtain ⟨N', hF', hN'⟩ := fresh_of_own hown'
  refine ⟨v', u', N' ++ M0, ?_, ?_, N', rfl, hF', ?_⟩
  · unfold execOp
    simp only [resolve, invoke, builtin, Sem.run_bind, Sem.run_pure, Result.andThen_ok, List.map_toArray, List.map_cons, List.map_nil, hyv, hx, hrun]
  · have hbel : Below w0.heap.size u u' := below_of_grown hgr (fun r hr => (hown.lt r hr).1) hu.bel.size
    refine ⟨hu.bel.trans hbel, fun g' o hm => ?_⟩
    rcases List.mem_append.1 hm with e | e
    · exact (hN' _ e).2.1
    · have hin := hM0 _ e
      rw [hgr.block g' (hu.lt hin.1) (fun e2 => by
        obtain ⟨o2, ho2⟩ := hF.block g' e2.symm
        exact hin.2 _ ho2 rfl)]
      exact hu.box _ _ hin.1
  · intro y hy
    refine ⟨(hN' y hy).1, fun z hz e => ?_⟩
    have hb := (hN' y hy).2.2
    have hin := hM0 z hz
    rcases hob with h | h
    · obtain ⟨o2, ho2⟩ := hF.block y.1 (h.symm.trans hb)
      exact hin.2 _ ho2 e
    · have h1 := hu.lt (g := z.1) (o := z.2) hin.1
      have h2 : u.heap.size = y.1 := Option.some.inj (h.symm.trans hb)
      omega
end
end Go.Proofs.YtmpjgfecnnefeaaDoor

namespace Go.Proofs.YtmpjgfecnnefeaaDoor
set_option maxRecDepth 8000
open Go.RowKit

section
variable {P : Program} {l : List Oper} {C : World → Prop} {Q : Act → Prop} {a : Act} {i : Nat} {rest : List Nat} {dst : Option Tmp} {ty : TypeId} {pos : String} {after : Array Edge} {gd : Option (Nat × Bool)}
theorem hOp_putAt {P : Program} {ops : Array Oper} {w0 : World} {i : Nat} {K : Act → Boxes → Prop} {a : Act} {M : Boxes} {ty : TypeId} {pos : String} {after : Array Edge} {ty' : TypeId} {x y : Operand} (ho : ops[i]? = some ⟨none, .store ty' x y, ty, pos, after, none⟩)
    (g k : Nat) (v : Value) (hx : a.eval x = .pointer (some ⟨g, k, none⟩)) (hy : a.eval y = v) (hg : w0.heap.size ≤ g) (t : TypeId) (old cs : Array Value) (hm : (g, Obj.cells old t (0, 0)) ∈ M)
    (hi : (P.info? ty').map (·.size) = some v.cells.size) (hk : k + v.cells.size ≤ old.size) (h1 : v.cells.all (·.oneCell') = true) (hcs : old.toList.take k ++ v.cells.toList ++ old.toList.drop (k + v.cells.size) = cs.toList) (M' : Boxes) (hM' : ∀ x ∈ M', x = (g, Obj.cells cs t (0, 0)) ∨ (x ∈ M ∧ x.1 ≠ g))
    (h : (∃ u, EnvX w0 u M') → K a M') : hOp P ops w0 i K a M := hOp_storeAt ho g k v hx hy hg t old cs hm hi hk h1 hcs M' hM' h
end
section
variable {a : Act} {dst : Option Tmp} {x y : Operand} {ty : TypeId} {pos : String} {after : Array Edge} {gd : Option (Nat × Bool)}
theorem sizeOf_info {e : TypeId} {z : Nat} (h : (Tryd.prog.info? e).map (·.size) = some z) (u : World) : (sizeOf e).run Tryd.prog u = .ok z u := by
  cases hq : Tryd.prog.info? e with
  | none => rw [hq] at h; cases h
  | some k =>
    rw [hq] at h
    simp only [Option.map_some, Option.some.injEq] at h
    simp [sizeOf, typeInfo, hq, h]
theorem idxSl_op {t e : TypeId} {z : Nat} (hu : Tryd.prog.underlying t = some (.slice e)) (hz : (Tryd.prog.info? e).map (·.size) = some z) {ad : Addr} {n c i : Nat} (hi : i < n) (u : World)
    (hx : a.eval x = .slice (some ad) n c) (hy : a.eval y = .int .i64 (i : Int)) :
    (execOp a.eval ⟨dst, .indexAddr t x y, ty, pos, after, gd⟩).run Tryd.prog u = .ok (.value (.pointer (some (ad.add (i * z))))) u := by
  have he : Tryd.prog.elem t = e := by simp [Program.elem, hu]
  have hr := run_indexAt_slice (P := Tryd.prog) u t ad n c .i64 (i : Int) (by rw [he]; exact hu)
  rw [he, if_pos ⟨by omega, by omega⟩, sizeOf_info hz u, Result.andThen_ok, Int.toNat_natCast] at hr
  unfold execOp
  simp only [hx, hy, Sem.run_bind, Sem.run_pure, hr, Result.andThen_ok]
theorem len_op {t e : TypeId} (hu : Tryd.prog.underlying t = some (.slice e)) {A : Option Addr} {n c : Nat} (hn : n < 9223372036854775808) (u : World) (hx : a.eval x = .slice A n c) :
    (execOp a.eval ⟨dst, .call { callee := .builtin .len, args := #[x], argTypes := #[t] }, ty, pos, after, gd⟩).run Tryd.prog u = .ok (.value (.int .i64 (n : Int))) u := by
  have he : Tryd.prog.elem t = e := by simp [Program.elem, hu]
  have hr := run_len_slice (P := Tryd.prog) u t ty A n c (by rw [he]; exact hu)
  have hg : goInt n = .int .i64 (n : Int) := rfl
  unfold execOp
  simp only [resolve, invoke, builtin, Sem.run_bind, Sem.run_pure, Result.andThen_ok, List.map_toArray, List.map_cons, List.map_nil, hx, hr, hg]
end
end Go.Proofs.YtmpjgfecnnefeaaDoor

namespace Go.Proofs.YtmpjgfecnnefeaaDoor
set_option maxRecDepth 8000
open Go.RowKit

theorem u8_one {xs : List Int} : ∀ u ∈ xs.map u8v, u.oneCell' = true := fun u hu => by
  obtain ⟨z, _, rfl⟩ := List.mem_map.1 hu
  rfl
theorem zero_wcs : (#[Value.int .u64 0, Value.int .u64 0, Value.int .u64 0, Value.int .u64 0] : Array Value) = wcs 0 := rfl
section
variable {a : Act} {dst : Option Tmp} {x y z : Operand} {ty : TypeId} {pos : String} {after : Array Edge} {gd : Option (Nat × Bool)}
theorem conv_u64_op {n : Int} {m : Nat} (u : World) (h : IntKind.u64.wrap n = (m : Int)) (hx : a.eval x = .int .i64 n) :
    (execOp a.eval ⟨dst, .convert 3 24 x, ty, pos, after, gd⟩).run Tryd.prog u = .ok (.value (.int .u64 (m : Int))) u := by
  rw [← h]
  unfold execOp
  simp only [hx]
  go_simp
theorem new_wd (a : Act) : NewAt Tryd.prog ⟨dst, .alloc 26, ty, pos, after, gd⟩ a (.cells (wcs 0) 26 (0, 0)) := fun u => by
  rw [← zero_wcs]
  go_simp
/-- one new byte -/
theorem FAt_byte1 (k : Int) (u : World) : FAt Tryd.prog ⟨dst, .buildSlice 30 1 #[(0, .const (.int .u8 k))], ty, pos, after, gd⟩ a (fun v N => ∃ g, v = .slice (some ⟨g, 0, none⟩) 1 1 ∧ N = [(g, Obj.cells #[.int .u8 k] 5 (0, 0))]) u := by
  have h : (execOp a.eval ⟨dst, .buildSlice 30 1 #[(0, .const (.int .u8 k))], ty, pos, after, gd⟩).run Tryd.prog u = .ok (.value (.slice (some ⟨u.heap.size, 0, none⟩) 1 1)) (u.alloc (.cells #[.int .u8 k] 5)) := by
    unfold execOp
    go_simp
  unfold FAt
  rw [h]
  refine ⟨(Below.refl _ _).alloc (Nat.le_refl _) _, _, ⟨_, rfl, rfl⟩, fun y hy => ?_⟩
  cases List.mem_singleton.1 hy
  exact ⟨Nat.le_refl _, heap_alloc_new u _⟩
end
theorem arrId_map {h : List Int} (hh : h.length = 32) : (arrB 32 h).toList = h.map u8v := by
  unfold arrB
  rw [hh]
  simp
theorem box_wide {w0 u : World} {M : Boxes} {g : Nat} {ty : TypeId} {n : Nat} (hu : EnvC w0 M u) (hm : (g, Obj.cells (wcs n) ty (0, 0)) ∈ M) : (loadVar 26 ⟨g, 0, none⟩).run Tryd.prog u = .ok (.agg (wcs n)) u := by
  have := box_agg aggWd (k := 0) hu hm (wcs n).toList (wcs_list n) (by rw [List.drop_zero, List.take_of_length_le (by rw [wcs_list]; omega)])
  rwa [agg_list] at this
/-- bytes in a box -/
theorem boxR_bytes {w0 u : World} {M : Boxes} {g cap n : Nat} {cur : Array Value} {xs : List Int} (hu : EnvC w0 M u) (hm : (g, Obj.cells cur 5 (0, 0)) ∈ M) (hl : xs.length = n) (h : n ≤ cap ∧ cap ≤ maxLen ∧ cur.size = cap * 1 ∧ cur.toList.take (n * 1) = xs.map u8v) : Bytes u u.heap.size (some ⟨g, 0, none⟩) xs := by
  subst hl
  exact box_bytes hu hm h
end Go.Proofs.YtmpjgfecnnefeaaDoor

namespace Go.Proofs.YtmpjgfecnnefeaaDoor
set_option maxRecDepth 8000
open Go.RowKit

def hdC (h : Hd) : List Value := [.int .i64 h.height] ++ ((arrB 32 h.prev).toList ++ ((arrB 32 h.links).toList ++ ((arrB 32 h.txs).toList ++ ((arrB 32 h.past).toList ++ ((wcs h.work).toList ++ ([.int .u32 h.bits] ++ [.int .u64 h.nonce]))))))
def hdA (h : Hd) : Array Value := (hdC h).toArray
def hdV (h : Hd) : Value := .agg (hdA h)
/-- each id of 32 bytes -/
def lenH (h : Hd) : Prop := h.prev.length = 32 ∧ h.links.length = 32 ∧ h.txs.length = 32 ∧ h.past.length = 32
theorem okHd.len {h : Hd} (k : okHd h) : lenH h := ⟨k.2.1.1, k.2.2.1.1, k.2.2.2.1.1, k.2.2.2.2.1.1⟩
theorem hdC_len {h : Hd} (k : lenH h) : (hdC h).length = 135 := by
  unfold hdC
  simp only [List.length_append, idA_list k.1, idA_list k.2.1, idA_list k.2.2.1, idA_list k.2.2.2, wcs_list, List.length_cons, List.length_nil]
theorem hdA_size {h : Hd} (k : lenH h) : (hdA h).size = 135 := by unfold hdA; rw [List.size_toArray, hdC_len k]
theorem hdC_one (h : Hd) : ∀ u ∈ hdC h, u.oneCell' = true := by
  intro u hu
  unfold hdC at hu
  simp only [List.mem_append, List.mem_singleton] at hu
  rcases hu with rfl | e | e | e | e | e | rfl | rfl
  · rfl
  · exact cell_of_all (arrB_one 32 _) u e
  · exact cell_of_all (arrB_one 32 _) u e
  · exact cell_of_all (arrB_one 32 _) u e
  · exact cell_of_all (arrB_one 32 _) u e
  · exact cell_of_all (wc_one _) u e
  · rfl
  · rfl
theorem hdA_one (h : Hd) : (hdA h).all (·.oneCell') = true := by
  rw [Array.all_eq_true]
  intro i hi
  exact hdC_one h _ (show (hdA h)[i] ∈ (hdA h).toList from Array.mem_toList_iff.2 (Array.getElem_mem hi))
theorem aggHd : AggT 29 135 := ⟨fun w => by simp [isAgg, run_underlying Tryd.underlying29], by kernel_rfl⟩
theorem infoHd (cs : Array Value) (h : cs.size = 135) : (Tryd.prog.info? 29).map (·.size) = some cs.size := by rw [h]; exact aggHd.size
theorem oneU32h : ∀ w, (isAgg 27).run Tryd.prog w = .ok false w := fun w => by simp [isAgg, run_underlying Tryd.underlying27]
theorem oneU64h : ∀ w, (isAgg 24).run Tryd.prog w = .ok false w := fun w => by simp [isAgg, run_underlying Tryd.underlying24]
/-- a part amid others -/
theorem cells_mid {a b c : List Value} {i n : Nat} (ha : a.length = i) (hb : b.length = n) : ((a ++ (b ++ c)).drop i).take n = b := by rw [List.drop_left' ha, List.take_left' hb]
theorem hdC_prev {h : Hd} (k : lenH h) : ((hdA h).toList.drop 1).take 32 = (arrB 32 h.prev).toList := by
  unfold hdA hdC
  exact cells_mid (by simp only [List.length_append, idA_list k.1, idA_list k.2.1, idA_list k.2.2.1, List.length_cons, List.length_nil]) (idA_list k.1)
theorem hdC_links {h : Hd} (k : lenH h) : ((hdA h).toList.drop 33).take 32 = (arrB 32 h.links).toList := by
  unfold hdA hdC
  rw [← List.append_assoc]
  exact cells_mid (by simp only [List.length_append, idA_list k.1, idA_list k.2.1, idA_list k.2.2.1, List.length_cons, List.length_nil]) (idA_list k.2.1)
theorem hdC_txs {h : Hd} (k : lenH h) : ((hdA h).toList.drop 65).take 32 = (arrB 32 h.txs).toList := by
  unfold hdA hdC
  rw [← List.append_assoc]; rw [← List.append_assoc]
  exact cells_mid (by simp only [List.length_append, idA_list k.1, idA_list k.2.1, idA_list k.2.2.1, List.length_cons, List.length_nil]) (idA_list k.2.2.1)
theorem hdC_past {h : Hd} (k : lenH h) : ((hdA h).toList.drop 97).take 32 = (arrB 32 h.past).toList := by
  unfold hdA hdC
  rw [← List.append_assoc]; rw [← List.append_assoc]; rw [← List.append_assoc]
  exact cells_mid (by simp only [List.length_append, idA_list k.1, idA_list k.2.1, idA_list k.2.2.1, List.length_cons, List.length_nil]) (idA_list k.2.2.2)
theorem hdC_work {h : Hd} (k : lenH h) : ((hdA h).toList.drop 129).take 4 = (wcs h.work).toList := by
  unfold hdA hdC
  rw [← List.append_assoc, ← List.append_assoc, ← List.append_assoc, ← List.append_assoc]
  exact cells_mid (by simp only [List.length_append, idA_list k.1, idA_list k.2.1, idA_list k.2.2.1, idA_list k.2.2.2, wcs_list, List.length_cons, List.length_nil]) (wcs_list _)
theorem hdC_height (h : Hd) : (hdA h)[0]? = some (.int .i64 h.height) := rfl
theorem cell_mid {a b : List Value} {v : Value} {i : Nat} (ha : a.length = i) : (a ++ (v :: b)).toArray[i]? = some v := by
  rw [List.getElem?_toArray, List.getElem?_append_right (by omega), ha, Nat.sub_self]
  rfl
theorem hdC_bits {h : Hd} (k : lenH h) : (hdA h)[133]? = some (.int .u32 h.bits) := by
  unfold hdA hdC
  rw [← List.append_assoc, ← List.append_assoc, ← List.append_assoc, ← List.append_assoc, ← List.append_assoc]
  exact cell_mid (by simp only [List.length_append, idA_list k.1, idA_list k.2.1, idA_list k.2.2.1, idA_list k.2.2.2, wcs_list, List.length_cons, List.length_nil])
theorem hdC_nonce {h : Hd} (k : lenH h) : (hdA h)[134]? = some (.int .u64 h.nonce) := by
  unfold hdA hdC
  rw [← List.append_assoc, ← List.append_assoc, ← List.append_assoc, ← List.append_assoc, ← List.append_assoc, ← List.append_assoc]
  exact cell_mid (by simp only [List.length_append, idA_list k.1, idA_list k.2.1, idA_list k.2.2.1, idA_list k.2.2.2, wcs_list, List.length_cons, List.length_nil])
section
variable {w0 u : World} {M : Boxes} {g : Nat} {ty : TypeId} {h : Hd}
theorem box_hd (hu : EnvC w0 M u) (hm : (g, Obj.cells (hdA h) ty (0, 0)) ∈ M) (k : lenH h) : (loadVar 29 ⟨g, 0, none⟩).run Tryd.prog u = .ok (hdV h) u := by
  have := box_agg aggHd (k := 0) hu hm (hdC h) (hdC_len k) (by unfold hdA; rw [List.drop_zero, List.take_of_length_le (by rw [hdC_len k]; omega)])
  exact this
theorem src_hd_prev {h : Hd} (k : lenH h) : ((hdA h).toList.drop 1).take (h.prev.map u8v).length = h.prev.map u8v := by
  have := hdC_prev k
  rw [arrId_map k.1] at this
  rwa [List.length_map, k.1]
theorem src_hd_links {h : Hd} (k : lenH h) : ((hdA h).toList.drop 33).take (h.links.map u8v).length = h.links.map u8v := by
  have := hdC_links k
  rw [arrId_map k.2.1] at this
  rwa [List.length_map, k.2.1]
theorem src_hd_txs {h : Hd} (k : lenH h) : ((hdA h).toList.drop 65).take (h.txs.map u8v).length = h.txs.map u8v := by
  have := hdC_txs k
  rw [arrId_map k.2.2.1] at this
  rwa [List.length_map, k.2.2.1]
theorem src_hd_past {h : Hd} (k : lenH h) : ((hdA h).toList.drop 97).take (h.past.map u8v).length = h.past.map u8v := by
  have := hdC_past k
  rw [arrId_map k.2.2.2] at this
  rwa [List.length_map, k.2.2.2]
theorem box_hd_work (hu : EnvC w0 M u) (hm : (g, Obj.cells (hdA h) ty (0, 0)) ∈ M) (k : lenH h) : (loadVar 26 ⟨g, 129, none⟩).run Tryd.prog u = .ok (.agg (wcs h.work)) u := by
  have := box_agg aggWd (k := 129) hu hm _ (wcs_list _) (hdC_work k)
  rwa [agg_list] at this
theorem box_hd_height (hu : EnvC w0 M u) (hm : (g, Obj.cells (hdA h) ty (0, 0)) ∈ M) : (loadVar 3 ⟨g, 0, none⟩).run Tryd.prog u = .ok (.int .i64 h.height) u :=
  run_load_one oneInt u (box_cell hu hm (hdC_height h))
theorem box_hd_bits (hu : EnvC w0 M u) (hm : (g, Obj.cells (hdA h) ty (0, 0)) ∈ M) (k : lenH h) : (loadVar 27 ⟨g, 133, none⟩).run Tryd.prog u = .ok (.int .u32 h.bits) u :=
  run_load_one oneU32h u (box_cell hu hm (hdC_bits k))
theorem box_hd_nonce (hu : EnvC w0 M u) (hm : (g, Obj.cells (hdA h) ty (0, 0)) ∈ M) (k : lenH h) : (loadVar 24 ⟨g, 134, none⟩).run Tryd.prog u = .ok (.int .u64 h.nonce) u :=
  run_load_one oneU64h u (box_cell hu hm (hdC_nonce k))
end
section
variable {a : Act} {dst : Option Tmp} {x y z : Operand} {ty : TypeId} {pos : String} {after : Array Edge} {gd : Option (Nat × Bool)}
end
theorem built_no : Tryd.prog.built 29 [] = some (hdA noHd) := by kernel_rfl
end Go.Proofs.YtmpjgfecnnefeaaDoor

namespace Go.Proofs.YtmpjgfecnnefeaaDoor
set_option maxRecDepth 8000
open Go.RowKit

def eqH (a b : Hd) : Bool := decide (a = b)
theorem Hd.ext' {a b : Hd} (h0 : a.height = b.height) (h1 : a.prev = b.prev) (h2 : a.links = b.links) (h3 : a.txs = b.txs) (h4 : a.past = b.past) (h5 : a.work = b.work) (h6 : a.bits = b.bits) (h7 : a.nonce = b.nonce) : a = b := by
  cases a
  cases b
  simp only at h0 h1 h2 h3 h4 h5 h6 h7
  subst h0 h1 h2 h3 h4 h5 h6 h7
  rfl
theorem fieldsHd : (Tryd.prog.fieldsOf 29).toList.map (fun f => (f.name == "_", f.type, f.offset)) = [(false, 3, 0), (false, 23, 1), (false, 23, 33), (false, 23, 65), (false, 23, 97), (false, 26, 129), (false, 27, 133), (false, 24, 134)] := by kernel_rfl
set_option maxRecDepth 20000 in
theorem run_equal_hd (a b : Hd) (ha : okHd a) (hb : okHd b) (w : World) : (Op.equal 29 (hdV a) (hdV b)).run Tryd.prog w = .ok (eqH a b) w := by
  unfold Op.equal hdV
  have h := run_equalIn_struct (P := Tryd.prog) w 9999 29 (hdA a) (hdA b) (by kernel_rfl) (by kernel_rfl)
  refine Eq.trans h ?_
  have hf := fieldsHd
  generalize (Tryd.prog.fieldsOf 29).toList = fs at hf ⊢
  have hl : fs.length = 8 := by simpa using congrArg List.length hf
  obtain ⟨f0, f1, f2, f3, f4, f5, f6, f7, rfl⟩ : ∃ f0 f1 f2 f3 f4 f5 f6 f7, fs = [f0, f1, f2, f3, f4, f5, f6, f7] := by
    match fs, hl with
    | [a, b, c, d, e, f, g, h], _ => exact ⟨a, b, c, d, e, f, g, h, rfl⟩
  simp only [List.map_cons, List.map_nil, List.cons.injEq, Prod.mk.injEq, beq_eq_false_iff_ne, and_true] at hf
  obtain ⟨⟨n0, t0, o0⟩, ⟨n1, t1, o1⟩, ⟨n2, t2, o2⟩, ⟨n3, t3, o3⟩, ⟨n4, t4, o4⟩, ⟨n5, t5, o5⟩, ⟨n6, t6, o6⟩, n7, t7, o7⟩ := hf
  have la := ha.len
  have lb := hb.len
  have p0 : ∀ t : Hd, lenH t → (part 3 (hdA t) 0).run Tryd.prog w = .ok (.int .i64 t.height) w := fun t kt => run_part_plain (P := Tryd.prog) w (by kernel_rfl) (hdC_height t)
  have p1 : ∀ t : Hd, lenH t → (part 23 (hdA t) 1).run Tryd.prog w = .ok (.agg (arrB 32 t.prev)) w := fun t kt => run_part_agg aggIdT (by have := ext_list (hdC_prev kt); rwa [Array.toArray_toList] at this) w
  have p2 : ∀ t : Hd, lenH t → (part 23 (hdA t) 33).run Tryd.prog w = .ok (.agg (arrB 32 t.links)) w := fun t kt => run_part_agg aggIdT (by have := ext_list (hdC_links kt); rwa [Array.toArray_toList] at this) w
  have p3 : ∀ t : Hd, lenH t → (part 23 (hdA t) 65).run Tryd.prog w = .ok (.agg (arrB 32 t.txs)) w := fun t kt => run_part_agg aggIdT (by have := ext_list (hdC_txs kt); rwa [Array.toArray_toList] at this) w
  have p4 : ∀ t : Hd, lenH t → (part 23 (hdA t) 97).run Tryd.prog w = .ok (.agg (arrB 32 t.past)) w := fun t kt => run_part_agg aggIdT (by have := ext_list (hdC_past kt); rwa [Array.toArray_toList] at this) w
  have p5 : ∀ t : Hd, lenH t → (part 26 (hdA t) 129).run Tryd.prog w = .ok (.agg (wcs t.work)) w := fun t kt => run_part_agg aggWd (by have := ext_list (hdC_work kt); rwa [Array.toArray_toList] at this) w
  have p6 : ∀ t : Hd, lenH t → (part 27 (hdA t) 133).run Tryd.prog w = .ok (.int .u32 t.bits) w := fun t kt => run_part_plain (P := Tryd.prog) w (by kernel_rfl) (hdC_bits kt)
  have p7 : ∀ t : Hd, lenH t → (part 24 (hdA t) 134).run Tryd.prog w = .ok (.int .u64 t.nonce) w := fun t kt => run_part_plain (P := Tryd.prog) w (by kernel_rfl) (hdC_nonce kt)
  have e0 := run_equalIn_int (P := Tryd.prog) w 9998 3 .i64 .i64 a.height b.height Tryd.underlying3
  have e1 := run_equalIn_id 9997 a.prev b.prev la.1 lb.1 w
  have e2 := run_equalIn_id 9997 a.links b.links la.2.1 lb.2.1 w
  have e3 := run_equalIn_id 9997 a.txs b.txs la.2.2.1 lb.2.2.1 w
  have e4 := run_equalIn_id 9997 a.past b.past la.2.2.2 lb.2.2.2 w
  have e5 := run_equalIn_wide 9997 a.work b.work ha.2.2.2.2.2.1 hb.2.2.2.2.2.1 w
  have e6 := run_equalIn_int (P := Tryd.prog) w 9998 27 .u32 .u32 a.bits b.bits Tryd.underlying27
  have e7 := run_equalIn_int (P := Tryd.prog) w 9998 24 .u64 .u64 a.nonce b.nonce Tryd.underlying24
  have hd : eqH a b = ((a.height == b.height) && (eqL a.prev b.prev && (eqL a.links b.links && (eqL a.txs b.txs && (eqL a.past b.past && (eqN a.work b.work && (((a.bits : Int) == (b.bits : Int)) && ((a.nonce : Int) == (b.nonce : Int))))))))) := by
    unfold eqH eqL eqN
    rw [Bool.eq_iff_iff]
    simp only [decide_eq_true_eq, Bool.and_eq_true, beq_iff_eq, Int.natCast_inj]
    exact ⟨fun h => by subst h; exact ⟨rfl, rfl, rfl, rfl, rfl, rfl, rfl, rfl⟩, fun h => Hd.ext' h.1 h.2.1 h.2.2.1 h.2.2.2.1 h.2.2.2.2.1 h.2.2.2.2.2.1 h.2.2.2.2.2.2.1 h.2.2.2.2.2.2.2⟩
  rw [hd]
  rw [eqFields_step (a := .int .i64 a.height) (b := .int .i64 b.height) n0 (by rw [t0, o0]; exact p0 a la) (by rw [t0, o0]; exact p0 b lb) (by rw [t0]; exact e0)]
  cases hc0 : (a.height == b.height) with
  | false => rfl
  | true =>
    rw [if_pos rfl, eqFields_step (a := .agg (arrB 32 a.prev)) (b := .agg (arrB 32 b.prev)) n1 (by rw [t1, o1]; exact p1 a la) (by rw [t1, o1]; exact p1 b lb) (by rw [t1]; exact e1)]
    cases hc1 : eqL a.prev b.prev with
    | false => rfl
    | true =>
      rw [if_pos rfl, eqFields_step (a := .agg (arrB 32 a.links)) (b := .agg (arrB 32 b.links)) n2 (by rw [t2, o2]; exact p2 a la) (by rw [t2, o2]; exact p2 b lb) (by rw [t2]; exact e2)]
      cases hc2 : eqL a.links b.links with
      | false => rfl
      | true =>
        rw [if_pos rfl, eqFields_step (a := .agg (arrB 32 a.txs)) (b := .agg (arrB 32 b.txs)) n3 (by rw [t3, o3]; exact p3 a la) (by rw [t3, o3]; exact p3 b lb) (by rw [t3]; exact e3)]
        cases hc3 : eqL a.txs b.txs with
        | false => rfl
        | true =>
          rw [if_pos rfl, eqFields_step (a := .agg (arrB 32 a.past)) (b := .agg (arrB 32 b.past)) n4 (by rw [t4, o4]; exact p4 a la) (by rw [t4, o4]; exact p4 b lb) (by rw [t4]; exact e4)]
          cases hc4 : eqL a.past b.past with
          | false => rfl
          | true =>
            rw [if_pos rfl, eqFields_step (a := .agg (wcs a.work)) (b := .agg (wcs b.work)) n5 (by rw [t5, o5]; exact p5 a la) (by rw [t5, o5]; exact p5 b lb) (by rw [t5]; exact e5)]
            cases hc5 : eqN a.work b.work with
            | false => rfl
            | true =>
              rw [if_pos rfl, eqFields_step (a := .int .u32 a.bits) (b := .int .u32 b.bits) n6 (by rw [t6, o6]; exact p6 a la) (by rw [t6, o6]; exact p6 b lb) (by rw [t6]; exact e6)]
              cases hc6 : ((a.bits : Int) == (b.bits : Int)) with
              | false => rfl
              | true =>
                rw [if_pos rfl, eqFields_step (a := .int .u64 a.nonce) (b := .int .u64 b.nonce) n7 (by rw [t7, o7]; exact p7 a la) (by rw [t7, o7]; exact p7 b lb) (by rw [t7]; exact e7)]
                cases hc7 : ((a.nonce : Int) == (b.nonce : Int)) with
                | false => rfl
                | true =>
                  rfl
theorem run_neq_hd (s t : Hd) (hs : okHd s) (ht : okHd t) (w : World) : (binOp .neq 29 (hdV s) (hdV t)).run Tryd.prog w = .ok (.bool (!eqH s t)) w := by
  have h := run_equal_hd s t hs ht w
  unfold hdV at *
  simp only [binOp]
  simp [h]
theorem run_eql_hd (s t : Hd) (hs : okHd s) (ht : okHd t) (w : World) : (binOp .eql 29 (hdV s) (hdV t)).run Tryd.prog w = .ok (.bool (eqH s t)) w := by
  have h := run_equal_hd s t hs ht w
  unfold hdV at *
  simp only [binOp]
  simp [h]
theorem guardHd : Tryd.prog.eqGuardType Tryd.prog.depth 29 = false := by kernel_rfl
section
variable {a : Act} {dst : Option Tmp} {x y : Operand} {ty : TypeId} {pos : String} {after : Array Edge} {gd : Option (Nat × Bool)}
theorem neqHd_op {s t : Hd} {b : Bool} (hs : okHd s) (ht : okHd t) (hb : (!eqH s t) = b) (u : World) (hx : a.eval x = hdV s) (hy : a.eval y = hdV t) :
    (execOp a.eval ⟨dst, .binOp .neq 29 x y 29, ty, pos, after, gd⟩).run Tryd.prog u = .ok (.value (.bool b)) u := by
  have h := run_neq_hd s t hs ht u
  have hg := run_eqGuard_agg (P := Tryd.prog) u .neq 29 x y (hdA s) (hdA t) guardHd
  rw [← hb]
  unfold hdV at *
  unfold execOp
  simp only [hx, hy, Sem.run_bind, hg, Result.andThen_ok, h, Sem.run_pure]
theorem eqlHd_op {s t : Hd} {b : Bool} (hs : okHd s) (ht : okHd t) (hb : eqH s t = b) (u : World) (hx : a.eval x = hdV s) (hy : a.eval y = hdV t) :
    (execOp a.eval ⟨dst, .binOp .eql 29 x y 29, ty, pos, after, gd⟩).run Tryd.prog u = .ok (.value (.bool b)) u := by
  have h := run_eql_hd s t hs ht u
  have hg := run_eqGuard_agg (P := Tryd.prog) u .eql 29 x y (hdA s) (hdA t) guardHd
  rw [← hb]
  unfold hdV at *
  unfold execOp
  simp only [hx, hy, Sem.run_bind, hg, Result.andThen_ok, h, Sem.run_pure]
end
theorem zero_hdA : hdA noHd = Tryd.zeroCells29 := by kernel_rfl
section
variable {dst : Option Tmp} {ty : TypeId} {pos : String} {after : Array Edge} {gd : Option (Nat × Bool)}
theorem new_hd (a : Act) : NewAt Tryd.prog ⟨dst, .alloc 29, ty, pos, after, gd⟩ a (.cells (hdA noHd) 29 (0, 0)) := fun u => by
  rw [zero_hdA]
  go_simp
end
/-- a literal of a head, all told -/
theorem built_hd (h : Hd) (k : lenH h) : Tryd.prog.built 29 [(0, .int .i64 h.height), (1, idv h.prev), (2, idv h.links), (3, idv h.txs), (4, idv h.past), (5, .agg (wcs h.work)), (6, .int .u32 h.bits), (7, .int .u64 h.nonce)] = some (hdA h) := by
  have z1 : (arrB 32 h.prev).size = 32 := arrB_size _ _ (by rw [k.1]; omega)
  have z2 : (arrB 32 h.links).size = 32 := arrB_size _ _ (by rw [k.2.1]; omega)
  have z3 : (arrB 32 h.txs).size = 32 := arrB_size _ _ (by rw [k.2.2.1]; omega)
  have z4 : (arrB 32 h.past).size = 32 := arrB_size _ _ (by rw [k.2.2.2]; omega)
  have z5 := wc_size h.work
  have e : cellsOfP [(0, .int .i64 h.height), (1, idv h.prev), (2, idv h.links), (3, idv h.txs), (4, idv h.past), (5, .agg (wcs h.work)), (6, .int .u32 h.bits), (7, .int .u64 h.nonce)] = hdC h := by simp [cellsOfP, hdC, idv, Value.cells]
  have := built_struct (t := 29) (n := 135) Tryd.underlying29 (by kernel_rfl) (places := [(0, 1), (1, 32), (33, 32), (65, 32), (97, 32), (129, 4), (133, 1), (134, 1)]) (by kernel_rfl) (ps := [(0, .int .i64 h.height), (1, idv h.prev), (2, idv h.links), (3, idv h.txs), (4, idv h.past), (5, .agg (wcs h.work)), (6, .int .u32 h.bits), (7, .int .u64 h.nonce)]) (by
    refine ⟨?_, ?_, ?_, ?_, ?_, ?_, ?_, ?_, trivial⟩
    · rfl
    · show some (1, 32) = some (0 + 1, (arrB 32 h.prev).size)
      rw [z1]
    · show some (33, 32) = some (0 + 1 + (arrB 32 h.prev).size, (arrB 32 h.links).size)
      rw [z1, z2]
    · show some (65, 32) = some (0 + 1 + (arrB 32 h.prev).size + (arrB 32 h.links).size, (arrB 32 h.txs).size)
      rw [z1, z2, z3]
    · show some (97, 32) = some (0 + 1 + (arrB 32 h.prev).size + (arrB 32 h.links).size + (arrB 32 h.txs).size, (arrB 32 h.past).size)
      rw [z1, z2, z3, z4]
    · show some (129, 4) = some (0 + 1 + (arrB 32 h.prev).size + (arrB 32 h.links).size + (arrB 32 h.txs).size + (arrB 32 h.past).size, (wcs h.work).size)
      rw [z1, z2, z3, z4, z5]
    · show some (133, 1) = some (0 + 1 + (arrB 32 h.prev).size + (arrB 32 h.links).size + (arrB 32 h.txs).size + (arrB 32 h.past).size + (wcs h.work).size, 1)
      rw [z1, z2, z3, z4, z5]
    · show some (134, 1) = some (0 + 1 + (arrB 32 h.prev).size + (arrB 32 h.links).size + (arrB 32 h.txs).size + (arrB 32 h.past).size + (wcs h.work).size + 1, 1)
      rw [z1, z2, z3, z4, z5]) (by rw [e, hdC_len k])
  rw [this, e]
  rfl
end Go.Proofs.YtmpjgfecnnefeaaDoor

namespace Go.Proofs.YtmpjgfecnnefeaaDoor
set_option maxRecDepth 8000
open Go.RowKit

set_option maxHeartbeats 4000000 in
theorem bytes_any (a : Nat) (w : World) :
    Calls Tryd.prog 30 #[.agg (wcs a)] w fun e w' => e = .returned (.agg (idF (bytesOf a))) ∧ Below w.heap.size w w' := by
  go_enter Tryd.func30, Tryd.ntmps30
  go_wp2_with fail
  go_loopw [6] (fun i u => ∃ k : Nat, k ≤ 32 ∧ i = .int .i64 k ∧ Below w.heap.size w u ∧ Hid (Row u w.heap.size 26 (wcs a) ∧ Row u (w.heap.size + 1) 23 (arrB 32 []) ∧ Row u (w.heap.size + 1 + 1) 23 (idF (fun i => if i < k then bytesOf a i else 0)))) (fun i _ => 32 - (intOf i).toNat)
  case atStart =>
    refine ⟨0, by omega, rfl, by go_grown, ((Row.new w 26 _).alloc _).alloc _, (Row.newAt (by simp) 23 _).alloc _, ?_⟩
    have e : idF (fun i => if i < 0 then bytesOf a i else 0) = arrB 32 [] := by rw [idF_zero]; exact idF_congr _ _ (fun i _ => by simp)
    rw [e]
    exact Row.newAt (by simp) 23 _
  case round =>
    obtain ⟨k, hk, rfl, hbl, hrows⟩ := hrel
    obtain ⟨r0, r1, r2⟩ := hrows.out
    by_cases hlt : k < 32
    · have hk0 : (0 : Int) ≤ (k : Int) := by omega
      have hk4 : (k : Int) < 32 := by omega
      have e0 : wr.cell? ⟨w.heap.size, 3 - k / 8, none⟩ = some (.int .u64 (W a (3 - k / 8))) := (r0.cell _).trans (wc_get a _ (by omega))
      have e2 := (r2.cell k).trans (idF_get _ k hlt)
      have f2 := r2.frozen k
      have R0 := Lib.hid r0
      have R1 := Lib.hid r1
      have R2 := Lib.hid r2
      have hput : Hid ((idF (fun i => if i < k then bytesOf a i else 0)).setIfInBounds k (.int .u8 (bytesOf a k)) = idF (fun i => if i < k + 1 then bytesOf a i else 0)) := by
        show _ = _
        refine idF_put _ _ k _ hlt (by simp) (fun i _ hne => ?_)
        by_cases hik : i < k
        · rw [if_pos hik, if_pos (by omega)]
        · rw [if_neg hik, if_neg (by omega)]
      have q0 : 0 ≤ 3 - (k : Int) / 8 := by omega
      have q1 : 3 - (k : Int) / 8 < 4 := by omega
      have q2 : (0 : Int) ≤ 7 - (k : Int) % 8 := by omega
      have q3 : 7 - (k : Int) % 8 < 8 := by omega
      have hv : Hid ((W a (3 - k / 8) : Int) / 2 ^ (8 * (7 - k % 8)) % 256 = bytesOf a k) := by
        show _ = _
        unfold bytesOf
        rw [← byte_word a k hlt, shrW]
        omega
      have hW := W_lt a (3 - k / 8)
      clear r0 r1 r2 hrows
      generalize W a (3 - k / 8) = x at *
      generalize (if k < k then bytesOf a k else 0) = z at *
      have hx0 : (0 : Int) ≤ (x : Int) := by omega
      go_wp2_with (go_at_call 57; refine (ofbyte_any _ _ (by omega) (by omega)).mono ?_; rintro e w' ⟨rfl, rfl⟩)
      go_roundw
      case rel =>
        refine ⟨k + 1, by omega, by go_num, hbl.setCell (by simp; omega) _, R0.out.farAt (by omega) _, R1.out.farAt (by omega) _, ?_⟩
        rw [← hput.out, ← hv.out]
        exact R2.out.put k _
      case measure => simp [intOf]; omega
    · obtain rfl : k = 32 := by omega
      have hE : idF (fun i => if i < 32 then bytesOf a i else 0) = idF (bytesOf a) := idF_congr _ _ (fun i hi => by rw [if_pos hi])
      rw [hE] at r2
      have hsz := Lib.hid (idF_size (bytesOf a))
      have hz0 := Lib.hid (arrB_size 32 [] (by simp))
      have ho := Lib.hid (idF_one (bytesOf a))
      have R1 : Hid (wr.heap[w.heap.size + 1]? = some (.cells (arrB 32 []) 23 (0, 0))) := r1
      have R2 : Hid (wr.heap[w.heap.size + 1 + 1]? = some (.cells (idF (bytesOf a)) 23 (0, 0))) := r2
      clear r0 r1 r2 hrows hE
      generalize hE2 : idF (bytesOf a) = cs at *
      have HE := Lib.hid hE2
      clear hE2
      generalize arrB 32 [] = zs at *
      go_wp2_with (first
        | ((with_reducible refine wpList_load_row (o := ⟨some 23, _, _, _, _, _⟩) ?_ 23 (.tmp 3) ?_ (w.heap.size + 1 + 1) ?_ 23 cs (0, 0) _ R2.out Tryd.underlying23 ?_ (infoId cs hsz.out) ?_); (rfl); (rfl); (rfl); (rfl))
        | ((with_reducible refine wpList_store_row (o := ⟨none, .store 23 _ _, _, _, _, _⟩) ?_ 23 (.tmp 2) (.tmp 23) ?_ (w.heap.size + 1) cs ?_ ?_ 23 zs R1.out (infoId cs hsz.out) (by rw [hz0.out, hsz.out]) ho.out ?_); (rfl); (rfl); (rfl); (rfl))
        | ((with_reducible refine bodyPost_ret (v := .agg cs) ?_ ?_ ?_); (exact results_cell_row (p := 2) (ty := 23) Tryd.results30 _ _ (w.heap.size + 1) 23 cs (0, 0) _ rfl (setRow_heap _ _ zs cs 23 (0, 0) R1.out) Tryd.underlying23 rfl (infoId cs hsz.out)); (rfl)))
      exact ⟨by rw [HE.out], below_setRow hbl (by omega) _⟩
end Go.Proofs.YtmpjgfecnnefeaaDoor

namespace Go.Proofs.YtmpjgfecnnefeaaDoor
set_option maxRecDepth 8000
open Go.RowKit

section
variable {a : Act} {dst : Option Tmp} {x y : Operand} {ty : TypeId} {pos : String} {after : Array Edge} {gd : Option (Nat × Bool)}
theorem ltZ_op {m k : Int} {b : Bool} (u : World) (hb : decide (m < k) = b) (hx : a.eval x = .int .i64 m) (hy : a.eval y = .int .i64 k) :
    (execOp a.eval ⟨dst, .binOp .lss 3 x y 3, ty, pos, after, gd⟩).run Tryd.prog u = .ok (.value (.bool b)) u := by
  subst hb
  unfold execOp
  simp only [hx, hy]
  go_simp
theorem gtZ_op {m k : Int} {b : Bool} (u : World) (hb : decide (k < m) = b) (hx : a.eval x = .int .i64 m) (hy : a.eval y = .int .i64 k) :
    (execOp a.eval ⟨dst, .binOp .gtr 3 x y 3, ty, pos, after, gd⟩).run Tryd.prog u = .ok (.value (.bool b)) u := by
  subst hb
  unfold execOp
  simp only [hx, hy]
  go_simp
theorem neZ_op {m k : Int} {b : Bool} (u : World) (hb : decide (m ≠ k) = b) (hx : a.eval x = .int .i64 m) (hy : a.eval y = .int .i64 k) :
    (execOp a.eval ⟨dst, .binOp .neq 3 x y 3, ty, pos, after, gd⟩).run Tryd.prog u = .ok (.value (.bool b)) u := by
  have e : (m != k) = b := by rw [← hb]; by_cases h : m = k <;> simp [h]
  subst e
  unfold execOp
  simp only [hx, hy]
  go_simp
theorem geZ_op {m k : Int} {b : Bool} (u : World) (hb : decide (k ≤ m) = b) (hx : a.eval x = .int .i64 m) (hy : a.eval y = .int .i64 k) :
    (execOp a.eval ⟨dst, .binOp .geq 3 x y 3, ty, pos, after, gd⟩).run Tryd.prog u = .ok (.value (.bool b)) u := by
  subst hb
  unfold execOp
  simp only [hx, hy]
  go_simp
end
end Go.Proofs.YtmpjgfecnnefeaaDoor

namespace Go.Proofs.YtmpjgfecnnefeaaDoor
set_option maxRecDepth 8000
open Go.RowKit

section
variable {a : Act} {dst : Option Tmp} {x : Operand} {ty : TypeId} {pos : String} {after : Array Edge} {gd : Option (Nat × Bool)}
theorem conv32_op {m : Nat} {k : Int} (u : World) (h : IntKind.u64.wrap k = (m : Int)) (hx : a.eval x = .int .u32 k) :
    (execOp a.eval ⟨dst, .convert 27 24 x, ty, pos, after, gd⟩).run Tryd.prog u = .ok (.value (.int .u64 (m : Int))) u := by
  rw [← h]
  unfold execOp
  simp only [hx]
  go_simp
end
end Go.Proofs.YtmpjgfecnnefeaaDoor

namespace Go.Proofs.YtmpjgfecnnefeaaDoor
set_option maxRecDepth 8000
open Go.RowKit

section
variable {a : Act} {dst : Option Tmp} {x y : Operand} {ty : TypeId} {pos : String} {after : Array Edge} {gd : Option (Nat × Bool)}
theorem conv_int_op {m : Nat} (u : World) (h : m < 9223372036854775808) (hx : a.eval x = .int .u64 (m : Int)) :
    (execOp a.eval ⟨dst, .convert 24 3 x, ty, pos, after, gd⟩).run Tryd.prog u = .ok (.value (.int .i64 (m : Int))) u := by
  have hw : IntKind.i64.wrap (m : Int) = (m : Int) := by rw [IntKind.wrap_i64]; omega
  unfold execOp
  simp only [hx]
  go_simp
theorem conv_u32_op {m : Nat} (u : World) (h : m < 4294967296) (hx : a.eval x = .int .u64 (m : Int)) :
    (execOp a.eval ⟨dst, .convert 24 27 x, ty, pos, after, gd⟩).run Tryd.prog u = .ok (.value (.int .u32 (m : Int))) u := by
  have hw : IntKind.u32.wrap (m : Int) = (m : Int) := by rw [IntKind.wrap_u32]; omega
  unfold execOp
  simp only [hx]
  go_simp
end
/-- an id as 32 numbers, told by their places -/
theorem arr_idF {l : List Int} (hl : l.length = 32) (hb : isB l) : arrB 32 l = idF (fun i => (((l.getD i 0).toNat : Nat) : Int)) := by
  unfold idF
  congr 1
  apply List.ext_getElem?
  intro i
  unfold listF
  by_cases h1 : i < 32
  · rw [List.getElem?_map, List.getElem?_range h1, List.getElem?_eq_getElem (by omega)]
    have := hb _ (List.getElem_mem (show i < l.length by omega))
    show some _ = some (((l.getD i 0).toNat : Nat) : Int)
    rw [List.getD_eq_getElem?_getD, List.getElem?_eq_getElem (by omega)]
    simp only [Option.getD_some]
    congr 1
    omega
  · rw [List.getElem?_eq_none (by omega), List.getElem?_eq_none (by rw [List.length_map, List.length_range]; omega)]
theorem byte_toNat {l : List Int} (hb : isB l) (i : Nat) : (l.getD i 0).toNat < 256 := by
  rw [List.getD_eq_getElem?_getD]
  cases h : l[i]? with
  | none => exact (by decide : (0 : Int).toNat < 256)
  | some x =>
    have := hb x (List.mem_of_getElem? h)
    simp only [Option.getD_some]
    omega
end Go.Proofs.YtmpjgfecnnefeaaDoor

namespace Go.Proofs.YtmpjgfecnnefeaaDoor
set_option maxRecDepth 8000
open Go.RowKit

section
variable {a : Act} {dst : Option Tmp} {x y : Operand} {ty : TypeId} {pos : String} {after : Array Edge} {gd : Option (Nat × Bool)}
end
/-- bytes of one's own, as boxes; what an append leaves -/
def FreshY (xs : List Int) (v : Value) (N : Boxes) : Prop := FreshR 5 1 xs.length (xs.map u8v) v N
theorem FreshY.one {g : Nat} {k : Int} : FreshY [k] (.slice (some ⟨g, 0, none⟩) 1 1) [(g, Obj.cells #[.int .u8 k] 5 (0, 0))] := .inl ⟨g, 1, #[.int .u8 k], rfl, rfl, Nat.le_refl _, by decide, rfl, rfl⟩
theorem FreshY.nil : FreshY [] (.slice none 0 0) [] := .inr ⟨rfl, rfl, rfl, rfl⟩
theorem FreshY.own {w : World} {B : Nat} {xs : List Int} {v : Value} {N : Boxes} (h : FreshY xs v N) (hN : ∀ y ∈ N, B ≤ y.1 ∧ w.heap[y.1]? = some y.2) : OwnB w B v xs :=
  FreshR.own h (by rw [List.length_map, Nat.mul_one]) hN
theorem hbuilt0 : Tryd.prog.built 23 [] = some (arrB 32 z32) := by kernel_rfl
section
variable {a : Act} {dst : Option Tmp} {x y z : Operand} {ty : TypeId} {pos : String} {after : Array Edge} {gd : Option (Nat × Bool)}
/-- two new parts -/
theorem FAt_rows2 {A0 A1 : Option Addr} {n0 n1 c0 c1 : Nat} (hx : a.eval x = .slice A0 n0 c0) (hy : a.eval y = .slice A1 n1 c1) (u : World) :
    FAt Tryd.prog ⟨dst, .buildSlice 65 2 #[(0, x), (1, y)], ty, pos, after, gd⟩ a (fun v N => ∃ g, v = .slice (some ⟨g, 0, none⟩) 2 2 ∧ N = [(g, Obj.cells #[.slice A0 n0 c0, .slice A1 n1 c1] 30 (0, 0))]) u := by
  have h : (execOp a.eval ⟨dst, .buildSlice 65 2 #[(0, x), (1, y)], ty, pos, after, gd⟩).run Tryd.prog u = .ok (.value (.slice (some ⟨u.heap.size, 0, none⟩) 2 2)) (u.alloc (.cells #[.slice A0 n0 c0, .slice A1 n1 c1] 30)) := by
    unfold execOp
    simp only [List.map_toArray, List.map_cons, List.map_nil, hx, hy]
    go_simp
  unfold FAt
  rw [h]
  refine ⟨(Below.refl _ _).alloc (Nat.le_refl _) _, _, ⟨_, rfl, rfl⟩, fun y hy => ?_⟩
  cases List.mem_singleton.1 hy
  exact ⟨Nat.le_refl _, heap_alloc_new u _⟩
end
end Go.Proofs.YtmpjgfecnnefeaaDoor

namespace Go.Proofs.YtmpjgfecnnefeaaDoor
set_option maxRecDepth 8000
open Go.RowKit

theorem id_len (h : Hd) : (idH h).length = 32 := by
  unfold idH
  split
  · exact sumL_len _
  · rfl
theorem id_byte (h : Hd) : isB (idH h) := by
  unfold idH
  split
  · exact sumL_byte _
  · intro y hy
    rw [List.eq_of_mem_replicate hy]
    decide
end Go.Proofs.YtmpjgfecnnefeaaDoor

namespace Go.Proofs.YtmpjgfecnnefeaaDoor
set_option maxRecDepth 8000
open Go.RowKit

theorem hbuilt_w0 : Tryd.prog.built 26 [] = some (wcs 0) := by kernel_rfl
end Go.Proofs.YtmpjgfecnnefeaaDoor

namespace Go.Proofs.YtmpjgfecnnefeaaDoor
set_option maxRecDepth 8000
open Go.RowKit

theorem nonce_zero {h : Hd} (hh : okHd h) : nonceAt h 0 = h := by
  unfold nonceAt
  rw [Nat.add_zero, Nat.mod_eq_of_lt hh.2.2.2.2.2.2.2]
theorem okHd_nonce {h : Hd} (hh : okHd h) (k : Nat) : okHd (nonceAt h k) := ⟨hh.1, hh.2.1, hh.2.2.1, hh.2.2.2.1, hh.2.2.2.2.1, hh.2.2.2.2.2.1, hh.2.2.2.2.2.2.1, Nat.mod_lt _ (by omega)⟩
theorem mine_some {h : Hd} {tries : Int} {k : Nat} (hk : k < (min tries 200).toNat) (h0 : ∀ j, j < k → mayH (nonceAt h j) = false) (h1 : mayH (nonceAt h k) = true) : mineH h tries = (nonceAt h k, true) := by
  unfold mineH
  have e : (List.range (min tries 200).toNat).find? (fun k => mayH (nonceAt h k)) = some k := List.find?_range_eq_some.2 ⟨h1, List.mem_range.2 hk, fun j hj => by simp [h0 j hj]⟩
  rw [e]
theorem mine_none {h : Hd} {tries : Int} (h0 : ∀ j, j < (min tries 200).toNat → mayH (nonceAt h j) = false) : mineH h tries = (h, false) := by
  unfold mineH
  have e : (List.range (min tries 200).toNat).find? (fun k => mayH (nonceAt h k)) = none := List.find?_range_eq_none.2 (fun j hj => by simp [h0 j hj])
  rw [e]
theorem put_nonce {a b : Hd} (ka : lenH a) (hb : b = { a with nonce := b.nonce }) : (hdA a).toList.take 134 ++ (Value.int .u64 (b.nonce : Int)).cells.toList ++ (hdA a).toList.drop (134 + (Value.int .u64 (b.nonce : Int)).cells.size) = (hdA b).toList := by
  obtain ⟨p, hp, hl⟩ : ∃ p : List Value, (∀ n : Nat, hdC { a with nonce := n } = p ++ [.int .u64 (n : Int)]) ∧ p.length = 134 := by
    refine ⟨[.int .i64 a.height] ++ ((arrB 32 a.prev).toList ++ ((arrB 32 a.links).toList ++ ((arrB 32 a.txs).toList ++ ((arrB 32 a.past).toList ++ ((wcs a.work).toList ++ [.int .u32 a.bits]))))), fun n => ?_, ?_⟩
    · unfold hdC
      simp only [List.append_assoc]
    · simp only [List.length_append, idA_list ka.1, idA_list ka.2.1, idA_list ka.2.2.1, idA_list ka.2.2.2, wcs_list, List.length_cons, List.length_nil]
  have ea : hdC a = p ++ [.int .u64 (a.nonce : Int)] := hp a.nonce
  have eb : hdC b = p ++ [.int .u64 (b.nonce : Int)] := by rw [hb]; exact hp b.nonce
  unfold hdA
  show (hdC a).take 134 ++ [Value.int .u64 (b.nonce : Int)] ++ (hdC a).drop (134 + 1) = hdC b
  rw [ea, eb, List.take_left' hl, List.drop_of_length_le (by rw [List.length_append, hl]; exact Nat.le_refl _), List.append_nil]
section
variable {a : Act} {dst : Option Tmp} {x y : Operand} {ty : TypeId} {pos : String} {after : Array Edge} {gd : Option (Nat × Bool)}
theorem addU_op {m k r : Int} (u : World) (hr : IntKind.u64.wrap (m + k) = r) (hx : a.eval x = .int .u64 m) (hy : a.eval y = .int .u64 k) :
    (execOp a.eval ⟨dst, .binOp .add 24 x y 24, ty, pos, after, gd⟩).run Tryd.prog u = .ok (.value (.int .u64 r)) u := by
  subst hr
  unfold execOp
  simp only [hx, hy]
  go_simp
end
theorem infoU64 : (Tryd.prog.info? 24).map (·.size) = some 1 := by kernel_rfl
end Go.Proofs.YtmpjgfecnnefeaaDoor
