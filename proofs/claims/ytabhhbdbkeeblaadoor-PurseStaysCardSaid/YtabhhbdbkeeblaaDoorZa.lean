/- Part of a proof. -/
import Derived.Test.YtabhhbdbkeeblaaDoorRows
import Derived.WalkKit
import Derived.ProofKit
import Derived.OpenShut
import Derived.ChangeOld
import Derived.Below
import Derived.Deep.DeepHandedRow
import Derived.LaidLaws
import Derived.Deep.Draws
import Derived.Laws.Rows
import Derived.Laws.Tables
import Derived.Deep.WholeRow
import Derived.Test.YtabhhbdbkeeblaaDoorProg
import Derived.Handy
import Derived.Maps.AppendAt
import Derived.Laws.BytesArg
import Derived.Laws.StructEq
import Derived.ChangeKeysEq
import Derived.Lib.SlBytesConst
import Derived.Deep.MidRow
import Derived.Laws.CopyOwn
import Derived.Laws.MakeOwn
import Derived.Deep.Cut
import Derived.Deep.QuietTactic
import Derived.BigQuiet
import Derived.StillTailTactics
import Derived.Lib.Hide
import Derived.Deep.Slices
namespace Go.Proofs.YtabhhbdbkeeblaaDoor
set_option maxRecDepth 8000
open Go.ChangeShapes Go.WideShapes Go.ChangeAt Go.RowKit
theorem own : ownKnob Tryd.prog.godebug = none := by kernel_rfl
theorem laidOut : laidOutB Tryd.prog = true := by kernel_rfl
open Go Go.RowKit
theorem below_drewN {B : Nat} {a w : World} (h : Below B a w) (n : Nat) : Below B a (w.drewN n) := ⟨h.os, h.tape, h.output, h.size, h.block⟩
/-- Block g holds just the cells cs, and all may be written. -/
def Row (w : World) (g : Nat) (t : TypeId) (cs : Array Value) : Prop := w.heap[g]? = some (.cells cs t (0, 0))
theorem Row.lt {w : World} {g : Nat} {t : TypeId} {cs : Array Value} (h : Row w g t cs) : g < w.heap.size := by
  rcases Nat.lt_or_ge g w.heap.size with hl | hl
  · exact hl
  · unfold Row at h
    rw [Array.getElem?_eq_none hl] at h
    cases h
theorem Row.cell {w : World} {g : Nat} {t : TypeId} {cs : Array Value} (h : Row w g t cs) (i : Nat) : w.cell? ⟨g, i, none⟩ = cs[i]? := cell_of_row w g i cs t (0, 0) h
theorem Row.frozen {w : World} {g : Nat} {t : TypeId} {cs : Array Value} (h : Row w g t cs) (i : Nat) : w.frozen? ⟨g, i, none⟩ = false := by
  unfold Row at h
  simp [World.frozen?, h]
theorem Row.new (w : World) (t : TypeId) (cs : Array Value) : Row (w.alloc (.cells cs t)) w.heap.size t cs := by
  show (w.heap.push _)[w.heap.size]? = _
  simp
theorem Row.newAt {w : World} {g : Nat} (h : w.heap.size = g) (t : TypeId) (cs : Array Value) : Row (w.alloc (.cells cs t)) g t cs := h ▸ Row.new w t cs
theorem Row.drewN {w : World} {g : Nat} {t : TypeId} {cs : Array Value} (h : Row w g t cs) (n : Nat) : Row (w.drewN n) g t cs := h
theorem Row.drew {w : World} {g : Nat} {t : TypeId} {cs : Array Value} (h : Row w g t cs) : Row w.drew g t cs := h
theorem Row.alloc {w : World} {g : Nat} {t : TypeId} {cs : Array Value} (h : Row w g t cs) (o : Obj) : Row (w.alloc o) g t cs := (Below.heap_alloc w o g h.lt).trans h
theorem Row.put {w : World} {g : Nat} {t : TypeId} {cs : Array Value} (h : Row w g t cs) (i : Nat) (u : Value) : Row (w.setCell ⟨g, i, none⟩ u) g t (cs.setIfInBounds i u) := by
  unfold Row at h ⊢
  simp [World.setCell, Array.getElem?_modify, h]
theorem Row.far {w : World} {g : Nat} {t : TypeId} {cs : Array Value} (h : Row w g t cs) {p : Addr} (hp : g ≠ p.block) (u : Value) : Row (w.setCell p u) g t cs := (Below.heap_setCell w p u g hp).trans h
theorem Row.below {w w' : World} {B g : Nat} {t : TypeId} {cs : Array Value} (h : Row w g t cs) (hb : Below B w w') (hg : g < B) : Row w' g t cs := (hb.block g hg).trans h
theorem Row.setRow {w : World} {g : Nat} {t : TypeId} {cs cs' : Array Value} (h : Row w g t cs) : Row (w.setRow g cs') g t cs' := setRow_heap w g cs cs' t (0, 0) h
theorem Row.setRowFar {w : World} {g g' : Nat} {t : TypeId} {cs cs' : Array Value} (h : Row w g t cs) (hg : g ≠ g') : Row (w.setRow g' cs') g t cs := (setRow_other w g' g cs' hg).trans h
theorem below_setRow {B : Nat} {a w : World} (h : Below B a w) {g : Nat} (hg : B ≤ g) (cs : Array Value) : Below B a (w.setRow g cs) :=
  ⟨h.os, h.tape, h.output, by simpa [World.setRow] using h.size, fun i hi => (setRow_other w g i cs (by omega)).trans (h.block i hi)⟩
def u8v (n : Int) : Value := .int .u8 n
/-- An array of n bytes whose first ones are told, the others 0. -/
def arrB (n : Nat) (l : List Int) : Array Value := ((l ++ List.replicate (n - l.length) 0).map u8v).toArray
theorem arrB_size (n : Nat) (l : List Int) (h : l.length ≤ n) : (arrB n l).size = n := by simp [arrB]; omega
theorem arrB_one (n : Nat) (l : List Int) : (arrB n l).all (·.oneCell') = true := by
  simp only [arrB, List.all_toArray, List.all_map, List.all_eq_true, Function.comp]
  exact fun _ _ => rfl
theorem arrB_get (n : Nat) (l : List Int) (i : Nat) (h : l.length ≤ n) (hi : i < n) : (arrB n l)[i]? = some (.int .u8 (l.getD i 0)) := by
  unfold arrB
  simp only [List.getElem?_toArray, List.getElem?_map]
  by_cases hl : i < l.length
  · rw [List.getElem?_append_left hl, List.getElem?_eq_getElem hl]
    simp [u8v, List.getD, List.getElem?_eq_getElem hl]
  · rw [List.getElem?_append_right (by omega), List.getElem?_replicate, if_pos (by omega)]
    simp [u8v, List.getD, List.getElem?_eq_none (by omega : l.length ≤ i)]
theorem arrB_ext (n : Nat) (l : List Int) (cs : Array Value) (h : l.length ≤ n) (hs : cs.size = n) (hg : ∀ i, i < n → cs[i]? = some (.int .u8 (l.getD i 0))) : cs = arrB n l := by
  apply Array.ext_getElem?
  intro i
  by_cases hi : i < n
  · rw [hg i hi, arrB_get n l i h hi]
  · rw [Array.getElem?_eq_none (by omega), Array.getElem?_eq_none (by rw [arrB_size n l h]; omega)]
theorem arrB_put (n : Nat) (l : List Int) (v : Int) (h : l.length < n) : (arrB n l).setIfInBounds l.length (.int .u8 v) = arrB n (l ++ [v]) := by
  apply arrB_ext
  · simp; omega
  · rw [Array.size_setIfInBounds, arrB_size n l (by omega)]
  · intro i hi
    rw [Array.getElem?_setIfInBounds, arrB_size n l (by omega)]
    by_cases e : l.length = i
    · subst e; simp [h]
    · rw [if_neg e, arrB_get n l i (by omega) hi]
      congr 2
      by_cases hl : i < l.length
      · simp [List.getD, List.getElem?_append_left hl]
      · simp [List.getD, List.getElem?_eq_none (by omega : l.length ≤ i), List.getElem?_eq_none (by simp; omega : (l ++ [v]).length ≤ i)]
theorem arrB_put_at (n : Nat) (l : List Int) (v : Int) (k : Nat) (hk : l.length = k) (h : k < n) : (arrB n l).setIfInBounds k (.int .u8 v) = arrB n (l ++ [v]) := by
  subst hk
  exact arrB_put n l v h
open Go.RowKit
theorem block_of_add (a : Addr) (n : Nat) : (a.add n).block = a.block := by unfold Addr.add; split <;> rfl
theorem infoB : (Tryd.prog.info? 5).map (fun i => (i.zero, i.size, i.bytes)) = some (some (.int .u8 0), 1, 1) := by kernel_rfl
theorem cellsB : Tryd.prog.cellsOf 5 = 1 := by kernel_rfl
theorem made_bytes (m : Nat) : madeCells #[.int .u8 0] m = arrB m [] := by
  apply arrB_ext
  · simp
  · exact size_madeCells _ _
  · intro i hi
    have e : i % 1 = 0 := by omega
    simp [madeCells, hi, e]
theorem make_bytes (m : Nat) (hm : m ≤ 140737488355328) (w : World) : (Instr.makeSlice 63 (.int .i64 (m : Int)) (.int .i64 (m : Int))).run Tryd.prog w = .ok (.slice (some ⟨w.heap.size, 0, none⟩) m m) (w.alloc (.cells (arrB m []) 5)) := by
  cases hq : Tryd.prog.info? 5 with
  | none => have := infoB; rw [hq] at this; cases this
  | some i =>
    have h := infoB
    rw [hq] at h
    simp only [Option.map_some, Option.some.injEq, Prod.mk.injEq] at h
    obtain ⟨h1, h2, h3⟩ := h
    have hr := run_make (P := Tryd.prog) w 63 5 i _ Tryd.underlying63 hq h1 .i64 .i64 (m : Int) (m : Int) (by omega) (by omega) (by rw [h3]; omega) (by omega)
    simp only [Int.toNat_natCast, h2, Nat.mul_one] at hr
    rw [← made_bytes]
    exact hr
/-- Bytes that are read from a slice's address; none of them: any address. -/
def Bytes (w : World) (B : Nat) (A : Option Addr) (xs : List Int) : Prop := 0 < xs.length → ∃ ad, A = some ad ∧ ad.block < B ∧ ∀ j v, (xs.map u8v)[j]? = some v → w.cell? (ad.add j) = some v
theorem Bytes.nil (w : World) (B : Nat) (A : Option Addr) : Bytes w B A [] := fun h => absurd h (by decide)
theorem Bytes.below {w w' : World} {B : Nat} {A : Option Addr} {xs : List Int} (h : Bytes w B A xs) (hb : Below B w w') : Bytes w' B A xs := by
  intro hp
  obtain ⟨ad, e, hlt, hc⟩ := h hp
  exact ⟨ad, e, hlt, fun j v hv => (hb.cell (by rw [block_of_add]; exact hlt)).trans (hc j v hv)⟩
theorem Bytes.more {w : World} {B B' : Nat} {A : Option Addr} {xs : List Int} (h : Bytes w B A xs) (hB : B ≤ B') : Bytes w B' A xs := fun hp => by
  obtain ⟨ad, e, hlt, hc⟩ := h hp
  exact ⟨ad, e, Nat.lt_of_lt_of_le hlt hB, hc⟩
theorem Bytes.up {w w' : World} {A : Option Addr} {xs : List Int} (h : Bytes w w.heap.size A xs) (hb : Below w.heap.size w w') : Bytes w' w'.heap.size A xs := (h.below hb).more hb.size
theorem Bytes.take {w : World} {B : Nat} {A : Option Addr} {xs : List Int} (h : Bytes w B A xs) (k : Nat) : Bytes w B A (xs.take k) := by
  intro hp
  obtain ⟨ad, e, hlt, hc⟩ := h (by simp at hp; omega)
  refine ⟨ad, e, hlt, fun j v hv => hc j v ?_⟩
  rw [List.map_take, List.getElem?_take] at hv
  split at hv
  · exact hv
  · cases hv
/-- a cell -/
theorem Bytes.cell {w : World} {B : Nat} {A : Option Addr} {xs : List Int} (h : Bytes w B A xs) (j : Nat) (hj : j < xs.length) : ∃ ad, A = some ad ∧ w.cell? (ad.add j) = some (.int .u8 (xs.getD j 0)) := by
  obtain ⟨ad, e, _, hc⟩ := h (by omega)
  refine ⟨ad, e, hc j _ ?_⟩
  simp [List.getD, List.getElem?_eq_getElem hj, u8v]
/-- A slice of slices of bytes, part by part. -/
def Parts (w : World) (B : Nat) (A : Option Addr) (xss : List (List Int)) : Prop :=
  ∀ (k : Nat) (xs : List Int), xss[k]? = some xs → ∃ (b o : Nat) (a : Option Addr) (c : Nat), A = some ⟨b, o, none⟩ ∧ b < B ∧ w.cell? ⟨b, o + k, none⟩ = some (.slice a xs.length c) ∧ Bytes w B a xs ∧ ∀ x ∈ xs, 0 ≤ x ∧ x ≤ 255
theorem Parts.nil (w : World) (B : Nat) (A : Option Addr) : Parts w B A [] := fun k xs h => by simp at h
theorem Parts.below {w w' : World} {B : Nat} {A : Option Addr} {xss : List (List Int)} (h : Parts w B A xss) (hb : Below B w w') : Parts w' B A xss := by
  intro k xs hk
  obtain ⟨b, o, a, c, e, hlt, hc, hx, hr⟩ := h k xs hk
  exact ⟨b, o, a, c, e, hlt, (hb.cell (p := ⟨b, o + k, none⟩) hlt).trans hc, hx.below hb, hr⟩
theorem Parts.more {w : World} {B B' : Nat} {A : Option Addr} {xss : List (List Int)} (h : Parts w B A xss) (hB : B ≤ B') : Parts w B' A xss := by
  intro k xs hk
  obtain ⟨b, o, a, c, e, hlt, hc, hx, hr⟩ := h k xs hk
  exact ⟨b, o, a, c, e, Nat.lt_of_lt_of_le hlt hB, hc, hx.more hB, hr⟩
theorem Parts.up {w w' : World} {A : Option Addr} {xss : List (List Int)} (h : Parts w w.heap.size A xss) (hb : Below w.heap.size w w') : Parts w' w'.heap.size A xss := (h.below hb).more hb.size
theorem append_bytes (base : Nat) (v : Value) (n : Nat) (l : List Value) (w : World) (hown : w.ownsRow base 5 1 v n l) (A : Option Addr) (m c B : Nat) (ys : List Int) (hl : ys.length = m) (hy : Bytes w B A ys)
    (hs : n + m ≤ 70368744177664) (hbase : base ≤ w.heap.size) :
    ∃ v' w', (Builtin.append_ #[63, 63] 63 #[v, .slice A m c]).run Tryd.prog w = .ok v' w' ∧ w'.ownsRow base 5 1 v' (n + m) (l ++ ys.map u8v) ∧ w.grownBy w' v.ownBlock := by
  cases hq : Tryd.prog.info? 5 with
  | none => have := infoB; rw [hq] at this; cases this
  | some i =>
    have h := infoB
    rw [hq] at h
    simp only [Option.map_some, Option.some.injEq, Prod.mk.injEq] at h
    obtain ⟨h1, h2, h3⟩ := h
    cases A with
    | none =>
      have hm : m = 0 := by
        rcases Nat.eq_zero_or_pos m with h0 | h0
        · exact h0
        · obtain ⟨ad, e, _⟩ := hy (by omega)
          cases e
      subst hm
      obtain rfl : ys = [] := List.eq_nil_of_length_eq_zero hl
      refine ⟨v, w, ?_, by simpa using hown, World.grownBy.refl w _⟩
      rcases hown.2 with ⟨rfl, rfl⟩ | ⟨g, cap, cur, rfl, _, _, hnc, _⟩
      · simp [Builtin.append_, run_underlying Tryd.underlying63, sizeOf, typeInfo, hq, Builtin.lenOf, Builtin.firstCells]
      · simp [Builtin.append_, run_underlying Tryd.underlying63, sizeOf, typeInfo, hq, Builtin.lenOf, Builtin.firstCells, hnc, storeCells]
    | some ad =>
      obtain ⟨v', w', hrun, hown', hg, _⟩ := run_append_own_at (P := Tryd.prog) w base 63 63 5 i _ 1 1 Tryd.underlying63 hq h1 h2 h3 rfl (by omega) v n l hown ad m c (ys.map u8v) (by simp [hl]) (fun j u hu => by
          have hp : 0 < ys.length := by
            rcases Nat.eq_zero_or_pos ys.length with h0 | h0
            · obtain rfl := List.eq_nil_of_length_eq_zero h0
              simp at hu
            · exact h0
          obtain ⟨ad', e, _, hc⟩ := hy hp
          obtain rfl := Option.some.inj e
          exact hc j u hu) (by intro u hu; obtain ⟨z, _, rfl⟩ := List.mem_map.1 hu; rfl) (by unfold maxLen; omega) (by omega) hbase
      exact ⟨v', w', hrun, hown', hg⟩
theorem wpList_append_run {P : Program} {ops : Array Oper} {rest : List Oper} {o : Oper} {a : Act} {w w' : World} {Q : Exit → Act → World → Prop} {v y v' : Value} {t : TypeId} (hgd : o.guard = none) (s x : Operand)
    (ho : o.op = .call { callee := .builtin .append, args := #[s, x], argTypes := #[t, t] }) (hty : o.type = t) (hs : a.eval s = v) (hx : a.eval x = y)
    (hrun : (Builtin.append_ #[t, t] t #[v, y]).run P w = .ok v' w') (h : wpList P ops Q rest (a.put o.dst v') w') : wpList P ops Q (o :: rest) a w :=
  wpList_plain hgd fun _ hK => by
    unfold Oper.wp execOp
    simp only [ho, hty, resolve, invoke, builtin, Sem.run_bind, Sem.run_pure, Result.andThen_ok, List.map_toArray, List.map_cons, List.map_nil, hs, hx, hrun]
    exact hK _ _ h
/-- What only grew above a mark is below it as it was. -/
theorem below_of_grown {B : Nat} {a b : World} {row : Option Nat} (h : a.grownBy b row) (hr : ∀ g, row = some g → B ≤ g) (hB : B ≤ a.heap.size) : Below B a b :=
  ⟨h.os, h.tape, h.output, h.size, fun i hi => h.block i (by omega) (fun e => by have := hr i e.symm; omega)⟩
/-- Bytes of one's own, from B on: nothing, or a row from its start on, with room or without. -/
def OwnB (w : World) (B : Nat) (v : Value) (xs : List Int) : Prop := w.ownsRow B 5 1 v xs.length (xs.map u8v)
theorem OwnB.nil (w : World) (B : Nat) : OwnB w B (.slice none 0 0) [] := World.ownsRow_nil _ _ _ _
theorem OwnB.bytes {w : World} {B n c : Nat} {A : Option Addr} {xs : List Int} (h : OwnB w B (.slice A n c) xs) : xs.length = n ∧ Bytes w w.heap.size A xs := by
  rcases h.2 with ⟨e, e2⟩ | ⟨g, cap, cur, e, _, hg, _⟩
  · injection e with e1 e3 e4
    refine ⟨by omega, fun hp => by omega⟩
  · injection e with e1 e2 e3
    subst e1
    refine ⟨e2.symm, fun hp => ⟨_, rfl, ?_, fun j v hv => h.cells (g := g) rfl j v hv⟩⟩
    exact Row.lt (t := 5) hg
theorem OwnB.below {w w' : World} {B : Nat} {v : Value} {xs : List Int} (h : OwnB w B v xs) (hb : Below w.heap.size w w') : OwnB w' B v xs := by
  refine ⟨h.1, ?_⟩
  rcases h.2 with h0 | ⟨g, cap, cur, e, hg, hh, h1⟩
  · exact .inl h0
  · exact .inr ⟨g, cap, cur, e, hg, (hb.block g (Row.lt (t := 5) hh)).trans hh, h1⟩
/-- an append to one's own -/
theorem OwnB.append {w : World} {B : Nat} {v : Value} {xs : List Int} (h : OwnB w B v xs) {A : Option Addr} {m c B' : Nat} {ys : List Int} (hl : ys.length = m) (hy : Bytes w B' A ys) (hs : xs.length + m ≤ 70368744177664) (hB : B ≤ w.heap.size) :
    ∃ v' w', (Builtin.append_ #[63, 63] 63 #[v, .slice A m c]).run Tryd.prog w = .ok v' w' ∧ OwnB w' B v' (xs ++ ys) ∧ Below B w w' := by
  obtain ⟨v', w', h1, h2, h3⟩ := append_bytes B v xs.length (xs.map u8v) w h A m c B' ys hl hy hs hB
  refine ⟨v', w', h1, ?_, below_of_grown h3 (fun g hg => (h.lt g hg).1) hB⟩
  unfold OwnB
  rw [List.length_append, hl, List.map_append]
  exact h2
theorem own_form {base n : Nat} {v : Value} {l : List Value} {w : World} (h : w.ownsRow base 5 1 v n l) : ∃ A c, v = .slice A n c := by
  rcases h.2 with ⟨rfl, rfl⟩ | ⟨g, cap, cur, rfl, _⟩
  · exact ⟨none, 0, rfl⟩
  · exact ⟨_, cap, rfl⟩
theorem own_bytes {base n c : Nat} {A : Option Addr} {xs : List Int} {w : World} (h : w.ownsRow base 5 1 (.slice A n c) n (xs.map u8v)) : Bytes w w.heap.size A xs := by
  intro hp
  have hl := h.1
  rcases h.2 with ⟨e, rfl⟩ | ⟨g, cap, cur, e, _, hg, _⟩
  · simp at hl
    rw [hl] at hp
    simp at hp
  · injection e with e1 e2 e3
    subst e1
    refine ⟨_, rfl, ?_, fun j v hv => h.cells (g := g) rfl j v hv⟩
    exact Row.lt (t := 5) hg
theorem flat_step (xss : List (List Int)) (k : Nat) (xs : List Int) (h : xss[k]? = some xs) : (xss.take (k + 1)).flatten = (xss.take k).flatten ++ xs := by
  rw [List.take_add_one, h]
  simp
theorem own_below {base n : Nat} {v : Value} {l : List Value} {w w' : World} (h : w.ownsRow base 5 1 v n l) (hb : Below w.heap.size w w') : w'.ownsRow base 5 1 v n l := by
  refine ⟨h.1, ?_⟩
  rcases h.2 with h0 | ⟨g, cap, cur, e, hg, hh, h1⟩
  · exact .inl h0
  · exact .inr ⟨g, cap, cur, e, hg, (hb.block g (Row.lt (t := 5) hh)).trans hh, h1⟩
theorem parts_two {w : World} {B g : Nat} {a a' : Option Addr} {c c' : Nat} {xs ys : List Int} (hg : g < B) (hc : w.cell? ⟨g, 0, none⟩ = some (.slice a xs.length c)) (hx : Bytes w B a xs) (hr : ∀ x ∈ xs, 0 ≤ x ∧ x ≤ 255)
    (hc' : w.cell? ⟨g, 1, none⟩ = some (.slice a' ys.length c')) (hy : Bytes w B a' ys) (hr' : ∀ x ∈ ys, 0 ≤ x ∧ x ≤ 255) : Parts w B (some ⟨g, 0, none⟩) [xs, ys] := by
  intro k zs hk
  rcases k with _ | _ | k
  · obtain rfl : xs = zs := by simpa using hk
    exact ⟨g, 0, a, c, rfl, hg, hc, hx, hr⟩
  · obtain rfl : ys = zs := by simpa using hk
    exact ⟨g, 0, a', c', rfl, hg, hc', hy, hr'⟩
  · simp at hk
theorem Bytes.drop {w : World} {B g : Nat} {xs : List Int} (h : Bytes w B (some ⟨g, 0, none⟩) xs) (k : Nat) : Bytes w B (some ⟨g, k, none⟩) (xs.drop k) := by
  intro hp
  obtain ⟨ad, e, hlt, hc⟩ := h (by simp at hp; omega)
  obtain rfl := Option.some.inj e
  refine ⟨_, rfl, hlt, fun j v hv => ?_⟩
  have := hc (k + j) v (by rw [← hv, List.map_drop, List.getElem?_drop])
  rw [Addr.add_mid] at this ⊢
  rw [Nat.zero_add] at this
  exact this
theorem plainB : Tryd.prog.plainKey 5 = true := by kernel_rfl
theorem run_items (d : Nat) (xs ys : List Int) (hx : xs.length = 32) (hy : ys.length = 32) (w : World) : ∀ is : List Nat, (∀ i ∈ is, i < 32) →
    (Op.eqItems (d + 1) 5 1 (arrB 32 xs) (arrB 32 ys) is).run Tryd.prog w = .ok (decide (∀ i ∈ is, xs.getD i 0 = ys.getD i 0)) w
  | [], _ => by simp [Op.eqItems]
  | i :: is, h => by
    have hi := h i (by simp)
    have p1 := run_part_plain (P := Tryd.prog) w plainB (arrB_get 32 xs (i * 1) (by omega) (by omega))
    have p2 := run_part_plain (P := Tryd.prog) w plainB (arrB_get 32 ys (i * 1) (by omega) (by omega))
    have p3 := run_equalIn_int (P := Tryd.prog) w d 5 .u8 .u8 (xs.getD (i * 1) 0) (ys.getD (i * 1) 0) Tryd.underlying5
    have ih := run_items d xs ys hx hy w is (fun j hj => h j (by simp [hj]))
    rw [Nat.mul_one] at p1 p2 p3
    simp only [Op.eqItems, Sem.run_bind, Nat.mul_one, p1, p2, p3, Result.andThen_ok]
    by_cases e : xs.getD i 0 = ys.getD i 0
    · have e' : (xs.getD i 0 == ys.getD i 0) = true := by simpa using e
      rw [e']
      simp only [Bool.not_true, Bool.false_eq_true, if_false, ih, List.forall_mem_cons, e, true_and]
    · have e' : (xs.getD i 0 == ys.getD i 0) = false := by simpa using e
      rw [e']
      simp only [Bool.not_false, if_true, Sem.run_pure, List.forall_mem_cons, e, false_and, decide_false]
def eqL (xs ys : List Int) : Bool := decide (xs = ys)
theorem list_eq_iff (xs ys : List Int) (hx : xs.length = 32) (hy : ys.length = 32) : (∀ i ∈ List.range 32, xs.getD i 0 = ys.getD i 0) ↔ xs = ys := by
  constructor
  · intro h
    apply List.ext_getElem (by omega)
    intro i h1 h2
    have := h i (by simp; omega)
    simpa [List.getD, List.getElem?_eq_getElem h1, List.getElem?_eq_getElem h2] using this
  · rintro rfl i _
    rfl
theorem run_equal_id (xs ys : List Int) (hx : xs.length = 32) (hy : ys.length = 32) (w : World) : (Op.equal 40 (.agg (arrB 32 xs)) (.agg (arrB 32 ys))).run Tryd.prog w = .ok (eqL xs ys) w := by
  unfold Op.equal
  cases hq : Tryd.prog.info? 5 with
  | none => have := infoB; rw [hq] at this; cases this
  | some i =>
    have h := run_equalIn_array (P := Tryd.prog) w 9999 (arrB 32 xs) (arrB 32 ys) Tryd.underlying40 hq
    rw [cellsB, run_items 9998 xs ys hx hy w (List.range 32) (by simp)] at h
    have e : decide (∀ i ∈ List.range 32, xs.getD i 0 = ys.getD i 0) = eqL xs ys := decide_eq_decide.2 (list_eq_iff xs ys hx hy)
    rw [e] at h
    exact h
/-- ids: each of 32 bytes -/
def isIds (l : List (List Int)) : Prop := ∀ x ∈ l, x.length = 32 ∧ ∀ b ∈ x, 0 ≤ b ∧ b ≤ 255
/-- the value of an id -/
def idv (x : List Int) : Value := .agg (arrB 32 x)
theorem isIds.take {l : List (List Int)} (h : isIds l) (k : Nat) : isIds (l.take k) := fun x hx => h x (List.mem_of_mem_take hx)
theorem isIds.drop {l : List (List Int)} (h : isIds l) (k : Nat) : isIds (l.drop k) := fun x hx => h x (List.mem_of_mem_drop hx)
theorem isIds.flat_len {l : List (List Int)} (h : isIds l) : l.flatten.length = l.length * 32 := by
  induction l with
  | nil => rfl
  | cons x l ih =>
    rw [List.flatten_cons, List.length_append, (h x (List.mem_cons_self ..)).1, ih (fun y hy => h y (List.mem_cons_of_mem _ hy)), List.length_cons]
    omega
theorem isIds.flat_get {l : List (List Int)} (h : isIds l) : ∀ (i j : Nat), i < l.length → j < 32 → l.flatten[i * 32 + j]? = (l.getD i [])[j]? := by
  induction l with
  | nil => intro i j hi; simp at hi
  | cons x l ih =>
    intro i j hi hj
    have hx := (h x (List.mem_cons_self ..)).1
    rw [List.flatten_cons]
    cases i with
    | zero =>
      rw [Nat.zero_mul, Nat.zero_add, List.getElem?_append_left (by omega)]
      rfl
    | succ i =>
      rw [List.getElem?_append_right (by omega), hx, show (i + 1) * 32 + j - 32 = i * 32 + j by omega, ih (fun y hy => h y (List.mem_cons_of_mem _ hy)) i j (by simpa using hi) hj]
      simp
theorem isIds.get {l : List (List Int)} (h : isIds l) {i : Nat} (hi : i < l.length) : (l.getD i []).length = 32 ∧ ∀ b ∈ l.getD i [], 0 ≤ b ∧ b ≤ 255 := by
  rw [List.getD_eq_getElem?_getD, List.getElem?_eq_getElem hi]
  exact h _ (List.getElem_mem hi)
/-- ids that are read from a slice's address -/
def IdsIn (w : World) (B : Nat) (A : Option Addr) (l : List (List Int)) : Prop := Bytes w B A l.flatten
theorem IdsIn.nil (w : World) (B : Nat) (A : Option Addr) : IdsIn w B A [] := Bytes.nil _ _ _
theorem IdsIn.up {w w' : World} {A : Option Addr} {l : List (List Int)} (h : IdsIn w w.heap.size A l) (hb : Below w.heap.size w w') : IdsIn w' w'.heap.size A l := Bytes.up h hb
theorem IdsIn.below {w w' : World} {B : Nat} {A : Option Addr} {l : List (List Int)} (h : IdsIn w B A l) (hb : Below B w w') : IdsIn w' B A l := Bytes.below h hb
theorem infoI : (Tryd.prog.info? 40).map (fun i => (i.size, i.bytes)) = some (32, 32) := by kernel_rfl
/-- an id at an address is read -/
theorem run_loadId {w : World} {ad : Addr} {x : List Int} (hx : x.length = 32) (h : ∀ j, j < 32 → w.cell? (ad.add j) = some (.int .u8 (x.getD j 0))) : (loadVar 40 ad).run Tryd.prog w = .ok (idv x) w := by
  have hc := run_loadCells_list (P := Tryd.prog) w ad (x.map u8v) (fun j v hv => by
    have hj : j < x.length := by
      rcases Nat.lt_or_ge j x.length with h' | h'
      · exact h'
      · rw [List.getElem?_eq_none (by simpa using h')] at hv
        cases hv
    rw [h j (by omega)]
    rw [List.getElem?_map, List.getElem?_eq_getElem hj] at hv
    simp only [Option.map_some] at hv
    rw [← hv]
    simp [u8v, List.getD, List.getElem?_eq_getElem hj])
  rw [List.length_map, hx] at hc
  have ha : (x.map u8v).toArray = arrB 32 x := by unfold arrB; rw [hx]; simp
  rw [ha] at hc
  cases hq : Tryd.prog.info? 40 with
  | none => have := infoI; rw [hq] at this; cases this
  | some i =>
    have hs := infoI
    rw [hq] at hs
    simp only [Option.map_some, Option.some.injEq, Prod.mk.injEq] at hs
    have hagg : (isAgg 40).run Tryd.prog w = .ok true w := by
      simp [isAgg, run_underlying Tryd.underlying40]
    simp [loadVar, hagg, sizeOf, typeInfo, hq, hs.1, hc, idv]
theorem IdsIn.load {w : World} {B : Nat} {A : Option Addr} {l : List (List Int)} (h : IdsIn w B A l) (hl : isIds l) {i : Nat} (hi : i < l.length) : ∃ ad, A = some ad ∧ (loadVar 40 (ad.add (i * 32))).run Tryd.prog w = .ok (idv (l.getD i [])) w := by
  have hfl := hl.flat_len
  obtain ⟨ad, e, _, hc⟩ := h (by omega)
  refine ⟨ad, e, run_loadId (hl.get hi).1 (fun j hj => ?_)⟩
  have h1 : (ad.add (i * 32)).add j = ad.add (i * 32 + j) := by
    unfold Addr.add
    by_cases h0 : i * 32 = 0
    · simp [h0]
    · by_cases h2 : j = 0
      · simp [h0, h2]
      · simp [h0, h2, Nat.add_assoc]
  rw [h1]
  refine hc (i * 32 + j) _ ?_
  rw [List.getElem?_map, hl.flat_get i j hi hj, List.getElem?_eq_getElem (by rw [(hl.get hi).1]; exact hj)]
  simp only [Option.map_some, u8v, Option.some.injEq, Value.int.injEq, true_and]
  rw [List.getD_eq_getElem?_getD (l := l.getD i []), List.getElem?_eq_getElem (by rw [(hl.get hi).1]; exact hj)]
  rfl
open Go.ChangeShapes Go.WideShapes Go.ChangeAt Go.RowKit Go.Deep
theorem cellsOfId : Tryd.prog.cellsOf 40 = 32 := by kernel_rfl
/-- the cells of an id that is read -/
theorem id_cells {H : Type} {enc : TypeId × Value → H} {W : World} {base : Nat} {spare : Nat → Bool} {held : Bool} {fuel : Nat} {cs : List Value} {x : DataW H × List MemPlace} (h : DataW.trod enc Tryd.prog W base spare held fuel 40 cs = some x) :
    ∃ xs : List Int, xs.length = 32 ∧ (∀ b ∈ xs, 0 ≤ b ∧ b ≤ 255) ∧ cs = xs.map u8v := by
  obtain ⟨ys, m, _, _, hlen, hl, hall⟩ := DataW.trod_array Tryd.underlying40 h
  rw [cellsOfId] at hlen
  have hc : ∀ i, i < 32 → ∃ n : Int, cs[i]? = some (.int .u8 n) ∧ 0 ≤ n ∧ n ≤ 255 := by
    intro i hi
    have h1 := hall i hi
    rw [List.getElem?_eq_getElem (by omega : i < ys.length)] at h1
    obtain ⟨n, e, _, wf⟩ := DataW.trod_int Tryd.underlying5 h1
    refine ⟨n, ?_, ?_⟩
    · rw [cellsB, Nat.mul_one] at e
      have hi' : i < cs.length := by omega
      simp only [List.drop_eq_getElem_cons hi', List.take_succ_cons, List.take_zero, List.cons.injEq, and_true] at e
      rw [List.getElem?_eq_getElem hi', e]
    · have := bounds_u8 wf
      omega
  refine ⟨cs.map intOf, by simp [hlen], ?_, ?_⟩
  · intro b hb
    obtain ⟨u, hu, rfl⟩ := List.mem_map.1 hb
    obtain ⟨i, hi, rfl⟩ := List.getElem_of_mem hu
    obtain ⟨n, e, hn⟩ := hc i (by omega)
    rw [List.getElem?_eq_getElem hi] at e
    rw [Option.some.inj e]
    exact hn
  · apply List.ext_getElem?
    intro i
    by_cases hi : i < 32
    · obtain ⟨n, e, _⟩ := hc i hi
      rw [e, List.getElem?_map, List.getElem?_map, e]
      rfl
    · rw [List.getElem?_eq_none (by omega), List.getElem?_eq_none (by simp; omega)]
open Go
def rotI (x n : Int) : Int := bits BinOp.or IntKind.u32 (x / 2 ^ n.toNat) (x * 2 ^ (32 - n).toNat % 4294967296)
def sig1 (e : Int) : Int := bits BinOp.xor IntKind.u32 (bits BinOp.xor IntKind.u32 (rotI e 6) (rotI e 11)) (rotI e 25)
def sig0 (a : Int) : Int := bits BinOp.xor IntKind.u32 (bits BinOp.xor IntKind.u32 (rotI a 2) (rotI a 13)) (rotI a 22)
def chI (e f g : Int) : Int := bits BinOp.xor IntKind.u32 (bits BinOp.and IntKind.u32 e f) (bits BinOp.and IntKind.u32 (bits BinOp.xor IntKind.u32 IntKind.u32.max e) g)
def majI (a b c : Int) : Int := bits BinOp.xor IntKind.u32 (bits BinOp.xor IntKind.u32 (bits BinOp.and IntKind.u32 a b) (bits BinOp.and IntKind.u32 a c)) (bits BinOp.and IntKind.u32 b c)
structure S8 where
  a : Int
  b : Int
  c : Int
  d : Int
  e : Int
  f : Int
  g : Int
  h : Int
def S8.step (s : S8) (k x : Int) : S8 :=
  { a := (s.h + sig1 s.e + chI s.e s.f s.g + k + x + (sig0 s.a + majI s.a s.b s.c)) % 4294967296
    b := s.a, c := s.b, d := s.c
    e := (s.d + (s.h + sig1 s.e + chI s.e s.f s.g + k + x)) % 4294967296
    f := s.e, g := s.f, h := s.g }
def S8.cells (s : S8) : Array Value := #[.int .u32 s.a, .int .u32 s.b, .int .u32 s.c, .int .u32 s.d, .int .u32 s.e, .int .u32 s.f, .int .u32 s.g, .int .u32 s.h]
def S8.add (s t : S8) : S8 :=
  { a := (s.a + t.a) % 4294967296, b := (s.b + t.b) % 4294967296, c := (s.c + t.c) % 4294967296, d := (s.d + t.d) % 4294967296
    e := (s.e + t.e) % 4294967296, f := (s.f + t.f) % 4294967296, g := (s.g + t.g) % 4294967296, h := (s.h + t.h) % 4294967296 }
def wordI (x0 x1 x2 x3 : Int) : Int := bits BinOp.or IntKind.u32 (bits BinOp.or IntKind.u32 (bits BinOp.or IntKind.u32 (x0 * 16777216) (x1 * 65536)) (x2 * 256)) x3
/-- the eight bytes of the length, n the number of bytes -/
def lenL (n : Int) : List Int := [8 * n / 256 / 256 / 256 / 256 / 256 / 256 / 256, 8 * n / 256 / 256 / 256 / 256 / 256 / 256, 8 * n / 256 / 256 / 256 / 256 / 256 % 256, 8 * n / 256 / 256 / 256 / 256 % 256, 8 * n / 256 / 256 / 256 % 256, 8 * n / 256 / 256 % 256, 8 * n / 256 % 256, 8 * n % 256]
/-- the k-th word of bytes -/
def wordAt (xs : List Int) (k : Nat) : Int := wordI (xs.getD (4 * k) 0) (xs.getD (4 * k + 1) 0) (xs.getD (4 * k + 2) 0) (xs.getD (4 * k + 3) 0)
def smallS (x : Int) : Int := bits BinOp.xor IntKind.u32 (bits BinOp.xor IntKind.u32 (rotI x 7) (rotI x 18)) (x / 8)
def smallT (x : Int) : Int := bits BinOp.xor IntKind.u32 (bits BinOp.xor IntKind.u32 (rotI x 17) (rotI x 19)) (x / 1024)
def nextW (l : List Int) (j : Nat) : Int := (l.getD j 0 + l.getD (j + 9) 0 + smallS (l.getD (j + 1) 0) + smallT (l.getD (j + 14) 0)) % 4294967296
/-- the first words -/
def firstL (xs : List Int) : Nat → List Int
  | 0 => []
  | k + 1 => firstL xs k ++ [wordAt xs k]
/-- the words behind the first sixteen -/
def moreL (xs : List Int) : Nat → List Int
  | 0 => firstL xs 16
  | j + 1 => moreL xs j ++ [nextW (moreL xs j) j]
theorem firstL_len (xs : List Int) (k : Nat) : (firstL xs k).length = k := by
  induction k with
  | zero => rfl
  | succ k ih => simp [firstL, ih]
theorem moreL_len (xs : List Int) (k : Nat) : (moreL xs k).length = 16 + k := by
  induction k with
  | zero => simp [moreL, firstL_len]
  | succ k ih => simp [moreL, ih]; omega
/-- the numbers of the rounds -/
def roundNs : List Int := [1116352408, 1899447441, 3049323471, 3921009573, 961987163, 1508970993, 2453635748, 2870763221, 3624381080, 310598401, 607225278, 1426881987, 1925078388, 2162078206, 2614888103, 3248222580, 3835390401, 4022224774, 264347078, 604807628, 770255983, 1249150122, 1555081692, 1996064986, 2554220882, 2821834349, 2952996808, 3210313671, 3336571891, 3584528711, 113926993, 338241895, 666307205, 773529912, 1294757372, 1396182291, 1695183700, 1986661051, 2177026350, 2456956037, 2730485921, 2820302411, 3259730800, 3345764771, 3516065817, 3600352804, 4094571909, 275423344, 430227734, 506948616, 659060556, 883997877, 958139571, 1322822218, 1537002063, 1747873779, 1955562222, 2024104815, 2227730452, 2361852424, 2428436474, 2756734187, 3204031479, 3329325298]
/-- the eight words behind k rounds -/
def runL (s : S8) (ws : List Int) : Nat → S8
  | 0 => s
  | k + 1 => (runL s ws k).step (roundNs.getD k 0) (ws.getD k 0)
def mixS (s : S8) (xs : List Int) : S8 := s.add (runL s (moreL xs 48) 64)
def u32v (n : Int) : Value := .int .u32 n
/-- An array of 64 words whose first ones are told, the others 0. -/
def arr64 (l : List Int) : Array Value := ((l ++ List.replicate (64 - l.length) 0).map u32v).toArray
theorem arr64_size (l : List Int) (h : l.length ≤ 64) : (arr64 l).size = 64 := by simp [arr64]; omega
theorem arr64_one (l : List Int) : (arr64 l).all (·.oneCell') = true := by
  simp only [arr64, List.all_toArray, List.all_map, List.all_eq_true, Function.comp]
  exact fun _ _ => rfl
theorem arr64_get (l : List Int) (i : Nat) (h : l.length ≤ 64) (hi : i < 64) : (arr64 l)[i]? = some (.int .u32 (l.getD i 0)) := by
  unfold arr64
  simp only [List.getElem?_toArray, List.getElem?_map]
  by_cases hl : i < l.length
  · rw [List.getElem?_append_left hl, List.getElem?_eq_getElem hl]
    simp [u32v, List.getD, List.getElem?_eq_getElem hl]
  · rw [List.getElem?_append_right (by omega), List.getElem?_replicate, if_pos (by omega)]
    simp [u32v, List.getD, List.getElem?_eq_none (by omega : l.length ≤ i)]
theorem arr64_put (l : List Int) (v : Int) (h : l.length < 64) : (arr64 l).setIfInBounds l.length (.int .u32 v) = arr64 (l ++ [v]) := by
  apply Array.ext_getElem?
  intro i
  rw [Array.getElem?_setIfInBounds]
  by_cases hi : i < 64
  · rw [arr64_get (l ++ [v]) i (by simp; omega) hi, arr64_size l (by omega)]
    by_cases e : l.length = i
    · subst e; simp [h]
    · rw [if_neg e, arr64_get l i (by omega) hi]
      congr 2
      by_cases hl : i < l.length
      · simp [List.getD, List.getElem?_append_left hl]
      · simp [List.getD, List.getElem?_eq_none (by omega : l.length ≤ i), List.getElem?_eq_none (by simp; omega : (l ++ [v]).length ≤ i)]
  · have h2 : (l ++ [v]).length ≤ 64 := by simp; omega
    rw [if_neg (by omega), Array.getElem?_eq_none (by rw [arr64_size l (by omega)]; omega), Array.getElem?_eq_none (by rw [arr64_size _ h2]; omega)]
def bytes4 (x : Int) : List Int := [x / 16777216 % 256, x / 65536 % 256, x / 256 % 256, x % 256]
def zero8 : S8 := ⟨0, 0, 0, 0, 0, 0, 0, 0⟩
def S8.get (s : S8) (k : Nat) : Int := [s.a, s.b, s.c, s.d, s.e, s.f, s.g, s.h].getD k 0
theorem S8.cells_get (s : S8) (k : Nat) (h : k < 8) : s.cells[k]? = some (.int .u32 (s.get k)) := by
  rcases k with _ | _ | _ | _ | _ | _ | _ | _ | k
  all_goals first | rfl | omega
theorem S8.cells_size (s : S8) : s.cells.size = 8 := rfl
theorem S8.cells_one (s : S8) : s.cells.all (·.oneCell') = true := by simp [S8.cells, Value.oneCell']
/-- the first k words are added, the others stand -/
def S8.addTo (s t : S8) (k : Nat) : S8 :=
  { a := if 0 < k then (s.a + t.a) % 4294967296 else s.a
    b := if 1 < k then (s.b + t.b) % 4294967296 else s.b
    c := if 2 < k then (s.c + t.c) % 4294967296 else s.c
    d := if 3 < k then (s.d + t.d) % 4294967296 else s.d
    e := if 4 < k then (s.e + t.e) % 4294967296 else s.e
    f := if 5 < k then (s.f + t.f) % 4294967296 else s.f
    g := if 6 < k then (s.g + t.g) % 4294967296 else s.g
    h := if 7 < k then (s.h + t.h) % 4294967296 else s.h }
theorem S8.addTo_get (s t : S8) (k : Nat) (h : k < 8) : (s.addTo t k).get k = s.get k := by
  rcases k with _ | _ | _ | _ | _ | _ | _ | _ | k
  all_goals first | rfl | omega
theorem S8.addTo_put (s t : S8) (k : Nat) (h : k < 8) : (s.addTo t k).cells.setIfInBounds k (.int .u32 ((s.get k + t.get k) % 4294967296)) = (s.addTo t (k + 1)).cells := by
  rcases k with _ | _ | _ | _ | _ | _ | _ | _ | k
  all_goals first | rfl | omega
/-- the bytes of the first k words -/
def idPre (s : S8) : Nat → List Int
  | 0 => []
  | k + 1 => idPre s k ++ bytes4 (s.get k)
theorem idPre_len (s : S8) (k : Nat) : (idPre s k).length = 4 * k := by
  induction k with
  | zero => rfl
  | succ k ih => simp [idPre, ih, bytes4]; omega
theorem idPre_put (s : S8) (k : Nat) (h : k < 8) : ((((arrB 32 (idPre s k)).setIfInBounds (4 * k) (.int .u8 (s.get k / 16777216 % 256))).setIfInBounds (4 * k + 1) (.int .u8 (s.get k / 65536 % 256))).setIfInBounds (4 * k + 2) (.int .u8 (s.get k / 256 % 256))).setIfInBounds (4 * k + 3) (.int .u8 (s.get k % 256)) = arrB 32 (idPre s (k + 1)) := by
  have hl := idPre_len s k
  rw [arrB_put_at 32 _ _ (4 * k) hl (by omega), arrB_put_at 32 _ _ (4 * k + 1) (by simp [hl]) (by omega), arrB_put_at 32 _ _ (4 * k + 2) (by simp [hl]) (by omega), arrB_put_at 32 _ _ (4 * k + 3) (by simp [hl]) (by omega)]
  simp [idPre, bytes4]
/-- the first words -/
def firstW : S8 := ⟨1779033703, 3144134277, 1013904242, 2773480762, 1359893119, 2600822924, 528734635, 1541459225⟩
/-- the eight words behind k times 64 bytes -/
def sumK (p : List Int) : Nat → S8
  | 0 => firstW
  | k + 1 => mixS (sumK p k) (p.drop (64 * k))
theorem S8.addTo_all (s t : S8) : s.addTo t 8 = s.add t := rfl
theorem turn_any (x n : Int) (w : World) (h0 : 0 ≤ n) (h1 : n ≤ 31) :
    Calls Tryd.prog 85 #[.int .u32 x, .int .u64 n] w fun e w' => e = .returned (.int .u32 (rotI x n)) ∧ w = w' := by
  go_enter Tryd.func85, Tryd.ntmps85
  go_wp2
  go_ret
  exact ⟨rfl, rfl⟩
set_option maxHeartbeats 1000000 in
set_option maxRecDepth 100000 in
theorem round_any (s : S8) (k x : Int) (w : World) :
    Calls Tryd.prog 79 #[.agg s.cells, .int .u32 k, .int .u32 x] w fun r w' => r = .returned (.agg (s.step k x).cells) ∧ Below w.heap.size w w' := by
  obtain ⟨a, b, c, d, e, f, g, h⟩ := s
  unfold S8.cells
  go_enter Tryd.func79, Tryd.ntmps79
  go_wp2_with fail
  go_quiet (fail)
  go_wp2_with (go_at_call 85; refine (turn_any _ _ _ (by omega) (by omega)).mono ?_; rintro e w' ⟨rfl, rfl⟩)
  go_returns
  refine ⟨rfl, ?_⟩
  repeat' (first | (with_reducible exact Below.refl _ _) | (with_reducible refine below_drewN ?_ _) | (with_reducible refine Below.alloc ?_ ?_ _) | (with_reducible refine Below.setCell ?_ ?_ _) | go_size)
set_option maxHeartbeats 1000000 in
theorem word_any (b : Nat) (o : Nat) (c : Nat) (x0 x1 x2 x3 : Int) (w : World)
    (g0 : w.cell? ⟨b, o, none⟩ = some (.int .u8 x0)) (g1 : w.cell? ⟨b, o + 1, none⟩ = some (.int .u8 x1)) (g2 : w.cell? ⟨b, o + 2, none⟩ = some (.int .u8 x2)) (g3 : w.cell? ⟨b, o + 3, none⟩ = some (.int .u8 x3))
    (b00 : 0 ≤ x0) (b01 : x0 ≤ 255) (b10 : 0 ≤ x1) (b11 : x1 ≤ 255) (b20 : 0 ≤ x2) (b21 : x2 ≤ 255) (b30 : 0 ≤ x3) (b31 : x3 ≤ 255) :
    Calls Tryd.prog 84 #[.slice (some ⟨b, o, none⟩) 4 c] w fun e w' => e = .returned (.int .u32 (wordI x0 x1 x2 x3)) ∧ ∃ n, w' = w.drewN n := by
  go_enter Tryd.func84, Tryd.ntmps84
  go_wp2_with fail
  go_quiet (fail)
  go_wp2
  go_returns
  exact ⟨rfl, nq, rfl⟩
set_option maxHeartbeats 1000000 in
theorem len_any (n : Int) (w : World) (h0 : 0 ≤ n) (h1 : n ≤ 140737488355328) :
    Calls Tryd.prog 77 #[.int .i64 n] w fun e w' => e = .returned (.agg ((lenL n).map u8v).toArray) ∧ Below w.heap.size w w' := by
  go_enter Tryd.func77, Tryd.ntmps77
  go_wp2
  go_rounds 9
  go_returns
  exact ⟨rfl, by go_grown⟩
theorem info48 : (Tryd.prog.info? 101).map (·.size) = some 64 := by kernel_rfl
set_option maxRecDepth 20000 in
set_option maxHeartbeats 2000000 in
theorem sched_any (b o n c : Nat) (xs : List Int) (w : World) (hn : 64 ≤ n) (hnc : n ≤ c) (hm : c ≤ 140737488355328) (hb : b < w.heap.size)
    (hx : ∀ i, i < 64 → w.cell? ⟨b, o + i, none⟩ = some (.int .u8 (xs.getD i 0))) (hr : ∀ i, 0 ≤ xs.getD i 0 ∧ xs.getD i 0 ≤ 255) :
    Calls Tryd.prog 78 #[.slice (some ⟨b, o, none⟩) n c] w fun e w' => e = .returned (.agg (arr64 (moreL xs 48))) ∧ Below w.heap.size w w' := by
  have HX := Lib.hid hx
  clear hx
  have HR := Lib.hid hr
  clear hr
  go_enter Tryd.func78, Tryd.ntmps78
  go_wp2
  go_loopw [10] (fun i u => ∃ k : Nat, k ≤ 16 ∧ i = .int .i64 k ∧ Below w.heap.size w u ∧ u.heap.size = w.heap.size + 2 ∧ Row u w.heap.size 101 (arr64 []) ∧ Row u (w.heap.size + 1) 101 (arr64 (firstL xs k))) (fun i _ => 16 - (intOf i).toNat)
  case atStart => exact ⟨0, by omega, rfl, by go_grown, by simp, (Row.new w 101 _).alloc _, Row.newAt (by simp) 101 _⟩
  case round =>
    obtain ⟨k, hk, rfl, hbl, hsz, hr0, hr1⟩ := hrel
    have HZ := Lib.hid hsz
    clear hsz
    by_cases hlt : k < 16
    · have g0 := (hbl.cell (p := ⟨b, o + 4 * k, none⟩) hb).trans (HX.out (4 * k) (by omega))
      have g1 := (hbl.cell (p := ⟨b, o + 4 * k + 1, none⟩) hb).trans (HX.out (4 * k + 1) (by omega))
      have g2 := (hbl.cell (p := ⟨b, o + 4 * k + 2, none⟩) hb).trans (HX.out (4 * k + 2) (by omega))
      have g3 := (hbl.cell (p := ⟨b, o + 4 * k + 3, none⟩) hb).trans (HX.out (4 * k + 3) (by omega))
      have G0 := Lib.hid g0
      have G1 := Lib.hid g1
      have G2 := Lib.hid g2
      have G3 := Lib.hid g3
      clear g0 g1 g2 g3
      have c1 := (hr1.cell k).trans (arr64_get _ k (by rw [firstL_len]; omega) (by omega))
      have f1 := hr1.frozen k
      have HR0 := Lib.hid hr0
      have HR1 := Lib.hid hr1
      clear hr0 hr1
      go_wp2_with fail
      refine (word_any b (o + 4 * k) _ _ _ _ _ _ G0.out G1.out G2.out G3.out (HR.out _).1 (HR.out _).2 (HR.out _).1 (HR.out _).2 (HR.out _).1 (HR.out _).2 (HR.out _).1 (HR.out _).2).mono ?_
      rintro e w' ⟨rfl, nq, rfl⟩
      go_wp2
      go_roundw
      case rel => exact ⟨k + 1, by omega, by go_num, (below_drewN hbl _).setCell (by simp) _, by simpa using HZ.out, (HR0.out.drewN _).far (by simp) _, by
          have h := (HR1.out.drewN nq).put k (.int .u32 (wordAt xs k))
          have e := arr64_put (firstL xs k) (wordAt xs k) (by rw [firstL_len]; omega)
          rw [firstL_len] at e
          rw [e] at h
          exact h⟩
      case measure => simp [intOf]; omega
    · obtain rfl : k = 16 := by omega
      have HR0 := Lib.hid hr0
      have HR1 := Lib.hid hr1
      clear hr0 hr1
      go_wp2
      go_loopw [5] (fun i u => ∃ j : Nat, j ≤ 48 ∧ i = .int .i64 (j + 16) ∧ Below w.heap.size w u ∧ u.heap.size = w.heap.size + 2 ∧ Row u w.heap.size 101 (arr64 []) ∧ Row u (w.heap.size + 1) 101 (arr64 (moreL xs j))) (fun i _ => 64 - (intOf i).toNat)
      case atStart => exact ⟨0, by omega, rfl, hbl, HZ.out, HR0.out, HR1.out⟩
      case round =>
        clear hbl HZ HR0 HR1
        obtain ⟨j, hj, rfl, hbl, hsz, hr0, hr1⟩ := hrel
        have HZ := Lib.hid hsz
        clear hsz
        have hl := moreL_len xs j
        by_cases hlt : j < 48
        · have c0 := (hr1.cell j).trans (arr64_get _ j (by omega) (by omega))
          have c1 := (hr1.cell (j + 1)).trans (arr64_get _ (j + 1) (by omega) (by omega))
          have c9 := (hr1.cell (j + 9)).trans (arr64_get _ (j + 9) (by omega) (by omega))
          have c14 := (hr1.cell (j + 14)).trans (arr64_get _ (j + 14) (by omega) (by omega))
          have c16 := (hr1.cell (j + 16)).trans (arr64_get _ (j + 16) (by omega) (by omega))
          have f16 := hr1.frozen (j + 16)
          have HL := Lib.hid hl
          have HR0 := Lib.hid hr0
          have HR1 := Lib.hid hr1
          clear hr0 hr1 hl
          go_wp2_with fail
          go_quiet (fail)
          go_wp2_with (go_at_call 85; refine (turn_any _ _ _ (by omega) (by omega)).mono ?_; rintro e w' ⟨rfl, rfl⟩)
          have s16 : IntKind.i64.wrap ((j : Int) + 16 - 16) = (j : Int) := by rw [IntWalk.i64_in _ (by omega)]; omega
          have s16' : IntKind.i64.wrap (j : Int) = (j : Int) := by rw [IntWalk.i64_in _ (by omega)]
          have s7 : IntKind.i64.wrap ((j : Int) + 16 - 7) = ((j + 9 : Nat) : Int) := by rw [IntWalk.i64_in _ (by omega)]; omega
          have q0 : j < 64 := by omega
          have q9 : j + 9 < 64 := by omega
          have q0' : (j : Int) < 64 := by omega
          have q9' : (j : Int) + 9 < 64 := by omega
          have q9'' : ((j : Int) + 9).toNat = j + 9 := by omega
          have q99 : 0 ≤ (j : Int) + 9 := by omega
          have d0 : (wr.drewN nq).cell? _ = _ := c0
          have d9 : (wr.drewN nq).cell? _ = _ := c9
          have d16 : (wr.drewN nq).cell? _ = _ := c16
          have e16 : (wr.drewN nq).frozen? _ = _ := f16
          have HR1' : Hid (Row (wr.drewN nq) (w.heap.size + 1) 101 (arr64 (moreL xs j))) := HR1
          have HR0' : Hid (Row (wr.drewN nq) w.heap.size 101 (arr64 [])) := HR0
          have hbl' := below_drewN hbl nq
          have HZ' : Hid ((wr.drewN nq).heap.size = w.heap.size + 2) := HZ
          clear c0 c1 c9 c14 c16 f16 HR1 HR0 hbl HZ
          generalize wr.drewN nq = w2 at *
          go_still_tail 14, (by kernel_rfl)
          clear s16 s16' s7 q9''
          change wpList _ _ _ _ _ w2.drew
          go_wp2
          go_roundw
          case rel =>
            repeat apply Exists.intro
            refine ⟨⟨j + 1, by omega, by go_num, hbl'.drew.setCell (by simp) _, by simpa using HZ'.out, HR0'.out.drew.far (by simp) _, by
              have h := HR1'.out.drew.put (j + 16) (.int .u32 (nextW (moreL xs j) j))
              have e := arr64_put (moreL xs j) (nextW (moreL xs j) j) (by rw [HL.out]; omega)
              rw [HL.out, Nat.add_comm] at e
              rw [e] at h
              exact h⟩, rfl⟩
          case measure => simp [intOf]; omega
        · obtain rfl : j = 48 := by omega
          have hcs : Hid ((Tryd.prog.info? 101).map (·.size) = some (arr64 (moreL xs 48)).size ∧ (arr64 []).size = (arr64 (moreL xs 48)).size ∧ (arr64 (moreL xs 48)).all (·.oneCell') = true) :=
            Lib.hid ⟨by rw [arr64_size _ (by omega)]; exact info48, by rw [arr64_size (moreL xs 48) (by omega), arr64_size [] (by simp)], arr64_one _⟩
          generalize hcsE : arr64 (moreL xs 48) = cs at *
          have HE := Lib.hid hcsE
          clear hcsE
          generalize arr64 [] = zs at *
          have R1 : Hid (wr.heap[w.heap.size + 1]? = some (.cells cs 101 (0, 0))) := hr1
          have R0 : Hid (wr.heap[w.heap.size]? = some (.cells zs 101 (0, 0))) := hr0
          clear hr0 hr1 hl
          go_upto_region 14 with fail
          refine wp_region_lit ?_
          refine wpList_load_row (o := ⟨some 67, _, _, _, _, _⟩) rfl 101 (.tmp 3) rfl (w.heap.size + 1) rfl 101 cs (0, 0) _ R1.out Tryd.underlying101 rfl hcs.out.1 ?_
          refine wpList_store_row rfl 101 (.tmp 2) (.tmp 67) rfl w.heap.size cs rfl rfl 101 zs R0.out hcs.out.1 hcs.out.2.1 hcs.out.2.2 ?_
          go_wp2_with ((with_reducible refine bodyPost_ret (v := .agg cs) ?_ ?_ ?_); (exact results_cell_row (p := 2) (ty := 101) Tryd.results78 _ _ w.heap.size 101 cs (0, 0) _ rfl (setRow_heap _ _ zs cs 101 (0, 0) R0.out) Tryd.underlying101 rfl hcs.out.1); (rfl))
          exact ⟨by rw [HE.out], below_setRow hbl (Nat.le_refl _) _⟩
theorem info40 (s : S8) : (Tryd.prog.info? 88).map (·.size) = some s.cells.size := by rw [s.cells_size]; kernel_rfl
set_option maxRecDepth 20000 in
set_option maxHeartbeats 4000000 in
theorem mix_any (s : S8) (b o n c : Nat) (xs : List Int) (w : World) (hn : 64 ≤ n) (hnc : n ≤ c) (hm : c ≤ 140737488355328) (hb : b < w.heap.size)
    (hx : ∀ i, i < 64 → w.cell? ⟨b, o + i, none⟩ = some (.int .u8 (xs.getD i 0))) (hr : ∀ i, 0 ≤ xs.getD i 0 ∧ xs.getD i 0 ≤ 255)
    (h1 : 1 < w.heap.size) (hk : ∀ i, i < 64 → w.cell? ⟨1, i, none⟩ = some (.int .u32 (roundNs.getD i 0))) :
    Calls Tryd.prog 68 #[.agg s.cells, .slice (some ⟨b, o, none⟩) n c] w fun e w' => e = .returned (.agg (mixS s xs).cells) ∧ Below w.heap.size w w' := by
  have HX := Lib.hid hx
  clear hx
  have HR := Lib.hid hr
  clear hr
  have HK := Lib.hid hk
  clear hk
  go_enter Tryd.func68, Tryd.ntmps68
  go_wp2_with fail
  refine (sched_any b o n c xs _ hn hnc hm ?_ ?_ HR.out).mono ?_
  · simp; omega
  · intro i hi
    rw [World.cell?_alloc_lt _ _ _ (by simp; omega), World.cell?_alloc_lt _ _ _ hb]
    exact HX.out i hi
  rintro e w1 ⟨rfl, hb1⟩
  have bw : Below w.heap.size w w1 := (((Below.refl _ _).alloc (Nat.le_refl _) _).alloc (by simp) _).trans (hb1.mono (by simp; omega))
  have sz : w.heap.size + 2 ≤ w1.heap.size := by have := hb1.size; simp at this; omega
  have r0 : Hid (Row w1 w.heap.size 88 s.cells) := ((Row.new w 88 _).alloc _).below hb1 (by simp; omega)
  have r1 : Hid (Row w1 (w.heap.size + 1) 88 zero8.cells) := (Row.newAt (by simp) 88 _).below hb1 (by simp)
  clear hb1
  have hcs : Hid ((Tryd.prog.info? 101).map (·.size) = some (arr64 (moreL xs 48)).size ∧ 64 = (arr64 (moreL xs 48)).size ∧ (arr64 (moreL xs 48)).all (·.oneCell') = true ∧ ∀ i, i < 64 → (arr64 (moreL xs 48))[i]? = some (.int .u32 ((moreL xs 48).getD i 0))) :=
    Lib.hid ⟨by rw [arr64_size _ (by rw [moreL_len]; omega)]; exact info48, by rw [arr64_size (moreL xs 48) (by rw [moreL_len]; omega)], arr64_one _, fun i hi => arr64_get _ i (by rw [moreL_len]; omega) hi⟩
  generalize hcsE : arr64 (moreL xs 48) = cs at *
  clear hcsE
  have hrun : Hid (mixS s xs = s.add (runL s (moreL xs 48) 64)) := rfl
  generalize moreL xs 48 = ws at *
  have a0 : Hid ((w1.alloc (.cells cs 101)).heap[w.heap.size]? = some (.cells s.cells 88 (0, 0))) := r0.out.alloc _
  have a1 : Hid (((w1.alloc (.cells cs 101)).alloc (.cells zero8.cells 88)).heap[w1.heap.size + 1]? = some (.cells zero8.cells 88 (0, 0))) := Row.newAt (by simp) 88 _
  go_wp2_with (first
    | ((with_reducible refine wpList_store_row (o := ⟨none, .store 101 _ _, _, _, _, _⟩) ?_ 101 (.tmp 5) (.tmp 10) ?_ w1.heap.size cs ?_ ?_ 101 _ (heap_alloc_last w1 _) hcs.out.1 ?_ hcs.out.2.2.1 ?_); (rfl); (rfl); (rfl); (rfl); (exact hcs.out.2.1); rw [World.setRow_alloc_new])
    | ((with_reducible refine wpList_load_row (o := ⟨some 11, _, _, _, _, _⟩) ?_ 88 (.tmp 2) ?_ w.heap.size ?_ 88 s.cells (0, 0) _ a0.out Tryd.underlying88 ?_ (info40 s) ?_); (rfl); (rfl); (rfl); (rfl))
    | ((with_reducible refine wpList_store_row (o := ⟨none, .store 88 _ _, _, _, _, _⟩) ?_ 88 (.tmp 6) (.tmp 11) ?_ (w1.heap.size + 1) s.cells ?_ ?_ 88 zero8.cells ?_ (info40 s) ?_ s.cells_one ?_); (rfl); (rfl); (rfl); (rfl); (exact a1.out); (rfl)))
  have z8 : Hid (Row ((w1.alloc (.cells cs 101)).alloc (.cells zero8.cells 88)) (w1.heap.size + 1) 88 zero8.cells) := a1
  have zc : Hid (Row (w1.alloc (.cells cs 101)) w1.heap.size 101 cs) := Row.new w1 101 cs
  go_loopw [12] (fun i u => ∃ k : Nat, k ≤ 64 ∧ i = .int .i64 k ∧ Below w.heap.size w u ∧ Hid (Row u w.heap.size 88 s.cells ∧ Row u (w.heap.size + 1) 88 zero8.cells ∧ Row u w1.heap.size 101 cs ∧ Row u (w1.heap.size + 1) 88 (runL s ws k).cells)) (fun i _ => 64 - (intOf i).toNat)
  case atStart =>
    refine ⟨0, by omega, rfl, below_setRow ((bw.alloc (by omega) _).alloc (by simp; omega) _) (by omega) _, ?_, ?_, ?_, ?_⟩
    · exact ((r0.out.alloc _).alloc _).setRowFar (by omega)
    · exact ((r1.out.alloc _).alloc _).setRowFar (by omega)
    · exact (zc.out.alloc _).setRowFar (by omega)
    · exact z8.out.setRow
  case round =>
    clear a0 a1 z8 zc r0 r1
    obtain ⟨k, hk, rfl, hbl, hrows⟩ := hrel
    obtain ⟨r0, r1, r2, r3⟩ := hrows.out
    by_cases hlt : k < 64
    · have kk : wr.cell? ⟨1, k, none⟩ = some (.int .u32 (roundNs.getD k 0)) := (hbl.cell (p := ⟨1, k, none⟩) h1).trans (HK.out k hlt)
      have wk : wr.cell? ⟨w1.heap.size, k, none⟩ = some (.int .u32 (ws.getD k 0)) := (r2.cell k).trans (hcs.out.2.2.2 k hlt)
      have hst : Hid (runL s ws (k + 1) = (runL s ws k).step (roundNs.getD k 0) (ws.getD k 0)) := rfl
      generalize roundNs.getD k 0 = kv at *
      generalize ws.getD k 0 = wv at *
      generalize runL s ws k = st at *
      have e0 : wr.cell? ⟨w1.heap.size + 1, 0, none⟩ = some (.int .u32 st.a) := r3.cell 0
      have e1 : wr.cell? ⟨w1.heap.size + 1, 1, none⟩ = some (.int .u32 st.b) := r3.cell 1
      have e2 : wr.cell? ⟨w1.heap.size + 1, 2, none⟩ = some (.int .u32 st.c) := r3.cell 2
      have e3 : wr.cell? ⟨w1.heap.size + 1, 3, none⟩ = some (.int .u32 st.d) := r3.cell 3
      have e4 : wr.cell? ⟨w1.heap.size + 1, 4, none⟩ = some (.int .u32 st.e) := r3.cell 4
      have e5 : wr.cell? ⟨w1.heap.size + 1, 5, none⟩ = some (.int .u32 st.f) := r3.cell 5
      have e6 : wr.cell? ⟨w1.heap.size + 1, 6, none⟩ = some (.int .u32 st.g) := r3.cell 6
      have e7 : wr.cell? ⟨w1.heap.size + 1, 7, none⟩ = some (.int .u32 st.h) := r3.cell 7
      have R3 : Hid (Row wr.drew (w1.heap.size + 1) 88 st.cells) := r3
      have R2 : Hid (Row wr.drew w1.heap.size 101 cs) := r2
      have R1 : Hid (Row wr.drew (w.heap.size + 1) 88 zero8.cells) := r1
      have R0 : Hid (Row wr.drew w.heap.size 88 s.cells) := r0
      clear r0 r1 r2 r3 hrows
      have hl2 : (k : Int) < 64 := by omega
      go_wp2_with fail
      go_still_tail 7, (by kernel_rfl)
      change wpList _ _ _ _ _ wr.drew
      go_wp2_with fail
      change Calls Tryd.prog 79 #[Value.agg st.cells, Value.int IntKind.u32 kv, Value.int IntKind.u32 wv] _ _
      refine (round_any st kv wv _).mono ?_
      rintro e w3 ⟨rfl, hb3⟩
      have s3 : w1.heap.size + 2 ≤ wr.drew.heap.size := by have := R3.out.lt; omega
      have Q3 : Hid (w3.heap[w1.heap.size + 1]? = some (.cells st.cells 88 (0, 0))) := R3.out.below hb3 (by omega)
      have Q2 : Hid (Row w3 w1.heap.size 101 cs) := R2.out.below hb3 (by omega)
      have Q1 : Hid (Row w3 (w.heap.size + 1) 88 zero8.cells) := R1.out.below hb3 (by omega)
      have Q0 : Hid (Row w3 w.heap.size 88 s.cells) := R0.out.below hb3 (by omega)
      have bl3 : Below w.heap.size w w3 := hbl.drew.trans (hb3.mono (by omega))
      clear hb3 e0 e1 e2 e3 e4 e5 e6 e7 kk wk
      generalize st.step kv wv = st2 at *
      go_wp2_with ((with_reducible refine wpList_store_row (o := ⟨none, .store 88 _ _, _, _, _, _⟩) ?_ 88 (.tmp 6) (.tmp 22) ?_ (w1.heap.size + 1) st2.cells ?_ ?_ 88 st.cells Q3.out (info40 st2) ?_ st2.cells_one ?_); (rfl); (rfl); (rfl); (rfl); (rfl))
      go_roundw
      case rel =>
        refine ⟨k + 1, by omega, by go_num, below_setRow bl3 (by omega) _, Q0.out.setRowFar (by omega), Q1.out.setRowFar (by omega), Q2.out.setRowFar (by omega), ?_⟩
        rw [hst.out]
        exact Row.setRow Q3.out
      case measure => simp [intOf]; omega
    · obtain rfl : k = 64 := by omega
      generalize runL s ws 64 = tt at *
      obtain ⟨r0, r1, r2, r3⟩ := hrows.out
      have R3 : Hid (Row wr (w1.heap.size + 1) 88 tt.cells) := r3
      have R1 : Hid (Row wr (w.heap.size + 1) 88 zero8.cells) := r1
      have R0 : Hid (Row wr w.heap.size 88 s.cells) := r0
      clear r0 r1 r2 r3 hrows
      go_wp2_with fail
      go_loopw [24] (fun i u => ∃ k : Nat, k ≤ 8 ∧ i = .int .i64 k ∧ Below w.heap.size w u ∧ Hid (Row u w.heap.size 88 (s.addTo tt k).cells ∧ Row u (w.heap.size + 1) 88 zero8.cells ∧ Row u (w1.heap.size + 1) 88 tt.cells)) (fun i _ => 8 - (intOf i).toNat)
      case atStart => exact ⟨0, by omega, rfl, hbl, R0.out, R1.out, R3.out⟩
      case round =>
        clear R0 R1 R3 hbl
        obtain ⟨k, hk, rfl, hbl, hrows⟩ := hrel
        obtain ⟨r0, r1, r3⟩ := hrows.out
        by_cases hlt : k < 8
        · have e0 : wr.cell? ⟨w.heap.size, k, none⟩ = some (.int .u32 (s.get k)) := by rw [r0.cell k, S8.cells_get _ k hlt, S8.addTo_get s tt k hlt]
          have e1 : wr.cell? ⟨w1.heap.size + 1, k, none⟩ = some (.int .u32 (tt.get k)) := by rw [r3.cell k, S8.cells_get _ k hlt]
          have f0 := r0.frozen k
          have R0 : Hid (Row wr w.heap.size 88 (s.addTo tt k).cells) := r0
          have R1 : Hid (Row wr (w.heap.size + 1) 88 zero8.cells) := r1
          have R3 : Hid (Row wr (w1.heap.size + 1) 88 tt.cells) := r3
          have HP := Lib.hid (S8.addTo_put s tt k hlt)
          clear r0 r1 r3 hrows
          have hl2 : (k : Int) < 8 := by omega
          go_wp2_with fail
          go_still_tail 7, (by kernel_rfl)
          change wpList _ _ _ _ _ wr.drew
          go_wp2
          go_roundw
          case rel =>
            repeat apply Exists.intro
            refine ⟨⟨k + 1, by omega, by go_num, hbl.drew.setCell (Nat.le_refl _) _, ?_, R1.out.drew.far (by simp) _, R3.out.drew.far (by simp; omega) _⟩, rfl⟩
            rw [← HP.out]
            exact R0.out.drew.put k _
          case measure => simp [intOf]; omega
        · obtain rfl : k = 8 := by omega
          rw [S8.addTo_all] at r0
          have hfin : Hid (mixS s xs = s.add tt) := hrun
          generalize s.add tt = ss at *
          have R0 : Hid (wr.heap[w.heap.size]? = some (.cells ss.cells 88 (0, 0))) := r0
          have R1 : Hid (wr.heap[w.heap.size + 1]? = some (.cells zero8.cells 88 (0, 0))) := r1
          clear r0 r1 r3 hrows
          go_wp2_with (first
            | ((with_reducible refine wpList_load_row (o := ⟨some 36, _, _, _, _, _⟩) ?_ 88 (.tmp 2) ?_ w.heap.size ?_ 88 ss.cells (0, 0) _ R0.out Tryd.underlying88 ?_ (info40 ss) ?_); (rfl); (rfl); (rfl); (rfl))
            | ((with_reducible refine wpList_store_row (o := ⟨none, .store 88 _ _, _, _, _, _⟩) ?_ 88 (.tmp 4) (.tmp 36) ?_ (w.heap.size + 1) ss.cells ?_ ?_ 88 zero8.cells R1.out (info40 ss) ?_ ss.cells_one ?_); (rfl); (rfl); (rfl); (rfl); (rfl))
            | ((with_reducible refine bodyPost_ret (v := .agg ss.cells) ?_ ?_ ?_); (exact results_cell_row (p := 4) (ty := 88) Tryd.results68 _ _ (w.heap.size + 1) 88 ss.cells (0, 0) _ rfl (setRow_heap _ _ zero8.cells ss.cells 88 (0, 0) R1.out) Tryd.underlying88 rfl (info40 ss)); (rfl)))
          exact ⟨by rw [hfin.out], below_setRow hbl (by omega) _⟩
theorem info26 (cs : Array Value) (h : cs.size = 32) : (Tryd.prog.info? 40).map (·.size) = some cs.size := by rw [h]; kernel_rfl
theorem index_cells (s : S8) (k : Nat) (h : k < 8) (w : World) : (Instr.index 88 (.agg s.cells) (.int .i64 (k : Int))).run Tryd.prog w = .ok (.int .u32 (s.get k)) w := by
  rcases k with _ | _ | _ | _ | _ | _ | _ | _ | k
  all_goals first | omega | kernel_rfl
set_option maxRecDepth 20000 in
set_option maxHeartbeats 4000000 in
theorem id_any (s : S8) (w : World) :
    Calls Tryd.prog 69 #[.agg s.cells] w fun e w' => e = .returned (.agg (arrB 32 (idPre s 8))) ∧ Below w.heap.size w w' := by
  have a0 : Hid ((w.alloc (.cells s.cells 88)).heap[w.heap.size]? = some (.cells s.cells 88 (0, 0))) := heap_alloc_last w _
  have a1 : Hid ((((w.alloc (.cells s.cells 88)).alloc (.cells (arrB 32 []) 40)).alloc (.cells (arrB 32 []) 40)).heap[w.heap.size]? = some (.cells s.cells 88 (0, 0))) := ((Row.new w 88 _).alloc _).alloc _
  go_enter Tryd.func69, Tryd.ntmps69
  go_wp2_with ((with_reducible refine wpList_load_row (o := ⟨some 6, _, _, _, _, _⟩) ?_ 88 (.tmp 1) ?_ w.heap.size ?_ 88 s.cells (0, 0) _ ?_ Tryd.underlying88 ?_ (info40 s) ?_); (rfl); (rfl); (rfl); (exact a1.out); (rfl))
  go_loopw [7] (fun i u => ∃ k : Nat, k ≤ 8 ∧ i = .int .i64 k ∧ Below w.heap.size w u ∧ Hid (Row u (w.heap.size + 1) 40 (arrB 32 []) ∧ Row u (w.heap.size + 1 + 1) 40 (arrB 32 (idPre s k)))) (fun i _ => 8 - (intOf i).toNat)
  case atStart => exact ⟨0, by omega, rfl, by go_grown, (Row.newAt (by simp) 40 _).alloc _, Row.newAt (by simp) 40 _⟩
  case round =>
    clear a0 a1
    obtain ⟨k, hk, rfl, hbl, hrows⟩ := hrel
    obtain ⟨r0, r1⟩ := hrows.out
    by_cases hlt : k < 8
    · have hix := index_cells s k hlt
      have e0 := (r1.cell (4 * k)).trans (arrB_get 32 _ (4 * k) (by rw [idPre_len]; omega) (by omega))
      have e1 := (r1.cell (4 * k + 1)).trans (arrB_get 32 _ (4 * k + 1) (by rw [idPre_len]; omega) (by omega))
      have e2 := (r1.cell (4 * k + 2)).trans (arrB_get 32 _ (4 * k + 2) (by rw [idPre_len]; omega) (by omega))
      have e3 := (r1.cell (4 * k + 3)).trans (arrB_get 32 _ (4 * k + 3) (by rw [idPre_len]; omega) (by omega))
      have f0 := r1.frozen (4 * k)
      have f1 := r1.frozen (4 * k + 1)
      have f2 := r1.frozen (4 * k + 2)
      have f3 := r1.frozen (4 * k + 3)
      have R0 := Lib.hid r0
      have R1 := Lib.hid r1
      have HP := Lib.hid (idPre_put s k hlt)
      clear r0 r1 hrows
      go_wp2
      go_roundw
      case rel =>
        refine ⟨k + 1, by omega, by go_num, (((hbl.setCell (by simp; omega) _).setCell (by simp; omega) _).setCell (by simp; omega) _).setCell (by simp; omega) _, (((R0.out.far (by simp) _).far (by simp) _).far (by simp) _).far (by simp) _, ?_⟩
        rw [← HP.out]
        exact (((R1.out.put _ _).put _ _).put _ _).put _ _
      case measure => simp [intOf]; omega
    · obtain rfl : k = 8 := by omega
      have hsz : Hid ((arrB 32 (idPre s 8)).size = 32 ∧ (arrB 32 []).size = (arrB 32 (idPre s 8)).size ∧ (arrB 32 (idPre s 8)).all (·.oneCell') = true) :=
        Lib.hid ⟨arrB_size _ _ (by rw [idPre_len]; omega), by rw [arrB_size 32 (idPre s 8) (by rw [idPre_len]; omega), arrB_size 32 [] (by simp)], arrB_one _ _⟩
      generalize hE : arrB 32 (idPre s 8) = cs at *
      have HE := Lib.hid hE
      clear hE
      generalize arrB 32 [] = zs at *
      have R0 : Hid (wr.heap[w.heap.size + 1]? = some (.cells zs 40 (0, 0))) := r0
      have R1 : Hid (wr.heap[w.heap.size + 1 + 1]? = some (.cells cs 40 (0, 0))) := r1
      clear r0 r1 hrows
      go_wp2_with (first
        | ((with_reducible refine wpList_load_row (o := ⟨some 38, _, _, _, _, _⟩) ?_ 40 (.tmp 3) ?_ (w.heap.size + 1 + 1) ?_ 40 cs (0, 0) _ R1.out Tryd.underlying40 ?_ (info26 cs hsz.out.1) ?_); (rfl); (rfl); (rfl); (rfl))
        | ((with_reducible refine wpList_store_row (o := ⟨none, .store 40 _ _, _, _, _, _⟩) ?_ 40 (.tmp 2) (.tmp 38) ?_ (w.heap.size + 1) cs ?_ ?_ 40 zs R0.out (info26 cs hsz.out.1) hsz.out.2.1 hsz.out.2.2 ?_); (rfl); (rfl); (rfl); (rfl))
        | ((with_reducible refine bodyPost_ret (v := .agg cs) ?_ ?_ ?_); (exact results_cell_row (p := 2) (ty := 40) Tryd.results69 _ _ (w.heap.size + 1) 40 cs (0, 0) _ rfl (setRow_heap _ _ zs cs 40 (0, 0) R0.out) Tryd.underlying40 rfl (info26 cs hsz.out.1)); (rfl)))
      exact ⟨by rw [HE.out], below_setRow hbl (by omega) _⟩
end Go.Proofs.YtabhhbdbkeeblaaDoor
