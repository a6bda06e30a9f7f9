/- Small facts on blocks of memory that are known whole, and on lists of numbers in them. -/
import Derived.WalkKit
import Derived.Below
import Derived.Deep.Draws
import Derived.Laws.Rows
import Derived.Laws.Tables
import Derived.Deep.WholeRow
namespace Go.Proofs.Ythgjfmdbipmhoaa
open Go Go.RowKit

theorem below_drewN {B : Nat} {a w : World} (h : Below B a w) (n : Nat) : Below B a (w.drewN n) := ⟨h.os, h.tape, h.output, h.size, h.block⟩

/-- Block g holds just the cells cs, and all may be written. -/
def Row (w : World) (g : Nat) (t : TypeId) (cs : Array Value) : Prop := w.heap[g]? = some (.cells cs t (0, 0))

theorem Row.lt {w : World} {g : Nat} {t : TypeId} {cs : Array Value} (h : Row w g t cs) : g < w.heap.size := by
  rcases Nat.lt_or_ge g w.heap.size with hl | hl
  · exact hl
  · unfold Row at h
    rw [Array.getElem?_eq_none hl] at h
    cases h
theorem Row.cell {w : World} {g : Nat} {t : TypeId} {cs : Array Value} (h : Row w g t cs) (i : Nat) : w.cell? ⟨g, i, none⟩ = cs[i]? := cell_of_row w g i cs t (0, 0) h
theorem Row.frozen {w : World} {g : Nat} {t : TypeId} {cs : Array Value} (h : Row w g t cs) (i : Nat) : w.frozen? ⟨g, i, none⟩ = false := by
  unfold Row at h
  simp [World.frozen?, h]
theorem Row.new (w : World) (t : TypeId) (cs : Array Value) : Row (w.alloc (.cells cs t)) w.heap.size t cs := by
  show (w.heap.push _)[w.heap.size]? = _
  simp
theorem Row.newAt {w : World} {g : Nat} (h : w.heap.size = g) (t : TypeId) (cs : Array Value) : Row (w.alloc (.cells cs t)) g t cs := h ▸ Row.new w t cs
theorem Row.drewN {w : World} {g : Nat} {t : TypeId} {cs : Array Value} (h : Row w g t cs) (n : Nat) : Row (w.drewN n) g t cs := h
theorem Row.drew {w : World} {g : Nat} {t : TypeId} {cs : Array Value} (h : Row w g t cs) : Row w.drew g t cs := h
theorem Row.alloc {w : World} {g : Nat} {t : TypeId} {cs : Array Value} (h : Row w g t cs) (o : Obj) : Row (w.alloc o) g t cs := (Below.heap_alloc w o g h.lt).trans h
theorem Row.put {w : World} {g : Nat} {t : TypeId} {cs : Array Value} (h : Row w g t cs) (i : Nat) (u : Value) : Row (w.setCell ⟨g, i, none⟩ u) g t (cs.setIfInBounds i u) := by
  unfold Row at h ⊢
  simp [World.setCell, Array.getElem?_modify, h]
theorem Row.far {w : World} {g : Nat} {t : TypeId} {cs : Array Value} (h : Row w g t cs) {p : Addr} (hp : g ≠ p.block) (u : Value) : Row (w.setCell p u) g t cs := (Below.heap_setCell w p u g hp).trans h
theorem Row.farAt {w : World} {g : Nat} {t : TypeId} {cs : Array Value} (h : Row w g t cs) {g' i : Nat} (hp : g ≠ g') (u : Value) : Row (w.setCell ⟨g', i, none⟩ u) g t cs := h.far hp u
theorem Row.below {w w' : World} {B g : Nat} {t : TypeId} {cs : Array Value} (h : Row w g t cs) (hb : Below B w w') (hg : g < B) : Row w' g t cs := (hb.block g hg).trans h
theorem Row.setRow {w : World} {g : Nat} {t : TypeId} {cs cs' : Array Value} (h : Row w g t cs) : Row (w.setRow g cs') g t cs' := setRow_heap w g cs cs' t (0, 0) h
theorem Row.setRowFar {w : World} {g g' : Nat} {t : TypeId} {cs cs' : Array Value} (h : Row w g t cs) (hg : g ≠ g') : Row (w.setRow g' cs') g t cs := (setRow_other w g' g cs' hg).trans h
theorem below_setRow {B : Nat} {a w : World} (h : Below B a w) {g : Nat} (hg : B ≤ g) (cs : Array Value) : Below B a (w.setRow g cs) :=
  ⟨h.os, h.tape, h.output, by simpa [World.setRow] using h.size, fun i hi => (setRow_other w g i cs (by omega)).trans (h.block i hi)⟩
theorem size_setRow (w : World) (g : Nat) (cs : Array Value) : (w.setRow g cs).heap.size = w.heap.size := by simp [World.setRow]

def u8v (n : Int) : Value := .int .u8 n
/-- An array of n bytes whose first ones are told, the others 0. -/
def arrB (n : Nat) (l : List Int) : Array Value := ((l ++ List.replicate (n - l.length) 0).map u8v).toArray
theorem arrB_size (n : Nat) (l : List Int) (h : l.length ≤ n) : (arrB n l).size = n := by simp [arrB]; omega
theorem arrB_one (n : Nat) (l : List Int) : (arrB n l).all (·.oneCell') = true := by
  simp only [arrB, List.all_toArray, List.all_map, List.all_eq_true, Function.comp]
  exact fun _ _ => rfl
theorem arrB_get (n : Nat) (l : List Int) (i : Nat) (h : l.length ≤ n) (hi : i < n) : (arrB n l)[i]? = some (.int .u8 (l.getD i 0)) := by
  unfold arrB
  simp only [List.getElem?_toArray, List.getElem?_map]
  by_cases hl : i < l.length
  · rw [List.getElem?_append_left hl, List.getElem?_eq_getElem hl]
    simp [u8v, List.getD, List.getElem?_eq_getElem hl]
  · rw [List.getElem?_append_right (by omega), List.getElem?_replicate, if_pos (by omega)]
    simp [u8v, List.getD, List.getElem?_eq_none (by omega : l.length ≤ i)]
theorem arrB_ext (n : Nat) (l : List Int) (cs : Array Value) (h : l.length ≤ n) (hs : cs.size = n) (hg : ∀ i, i < n → cs[i]? = some (.int .u8 (l.getD i 0))) : cs = arrB n l := by
  apply Array.ext_getElem?
  intro i
  by_cases hi : i < n
  · rw [hg i hi, arrB_get n l i h hi]
  · rw [Array.getElem?_eq_none (by omega), Array.getElem?_eq_none (by rw [arrB_size n l h]; omega)]
theorem arrB_put (n : Nat) (l : List Int) (v : Int) (h : l.length < n) : (arrB n l).setIfInBounds l.length (.int .u8 v) = arrB n (l ++ [v]) := by
  apply arrB_ext
  · simp; omega
  · rw [Array.size_setIfInBounds, arrB_size n l (by omega)]
  · intro i hi
    rw [Array.getElem?_setIfInBounds, arrB_size n l (by omega)]
    by_cases e : l.length = i
    · subst e; simp [h]
    · rw [if_neg e, arrB_get n l i (by omega) hi]
      congr 2
      by_cases hl : i < l.length
      · simp [List.getD, List.getElem?_append_left hl]
      · simp [List.getD, List.getElem?_eq_none (by omega : l.length ≤ i), List.getElem?_eq_none (by simp; omega : (l ++ [v]).length ≤ i)]
theorem arrB_put_at (n : Nat) (l : List Int) (v : Int) (k : Nat) (hk : l.length = k) (h : k < n) : (arrB n l).setIfInBounds k (.int .u8 v) = arrB n (l ++ [v]) := by
  subst hk
  exact arrB_put n l v h


def u64v (n : Int) : Value := .int .u64 n
/-- An array of n words whose first ones are told, the others 0. -/
def arrW (n : Nat) (l : List Int) : Array Value := ((l ++ List.replicate (n - l.length) 0).map u64v).toArray
theorem arrW_size (n : Nat) (l : List Int) (h : l.length ≤ n) : (arrW n l).size = n := by simp [arrW]; omega
theorem arrW_one (n : Nat) (l : List Int) : (arrW n l).all (·.oneCell') = true := by
  simp only [arrW, List.all_toArray, List.all_map, List.all_eq_true, Function.comp]
  exact fun _ _ => rfl
theorem arrW_get (n : Nat) (l : List Int) (i : Nat) (h : l.length ≤ n) (hi : i < n) : (arrW n l)[i]? = some (.int .u64 (l.getD i 0)) := by
  unfold arrW
  simp only [List.getElem?_toArray, List.getElem?_map]
  by_cases hl : i < l.length
  · rw [List.getElem?_append_left hl, List.getElem?_eq_getElem hl]
    simp [u64v, List.getD, List.getElem?_eq_getElem hl]
  · rw [List.getElem?_append_right (by omega), List.getElem?_replicate, if_pos (by omega)]
    simp [u64v, List.getD, List.getElem?_eq_none (by omega : l.length ≤ i)]
theorem arrW_ext (n : Nat) (l : List Int) (cs : Array Value) (h : l.length ≤ n) (hs : cs.size = n) (hg : ∀ i, i < n → cs[i]? = some (.int .u64 (l.getD i 0))) : cs = arrW n l := by
  apply Array.ext_getElem?
  intro i
  by_cases hi : i < n
  · rw [hg i hi, arrW_get n l i h hi]
  · rw [Array.getElem?_eq_none (by omega), Array.getElem?_eq_none (by rw [arrW_size n l h]; omega)]
theorem arrW_put (n : Nat) (l : List Int) (v : Int) (h : l.length < n) : (arrW n l).setIfInBounds l.length (.int .u64 v) = arrW n (l ++ [v]) := by
  apply arrW_ext
  · simp; omega
  · rw [Array.size_setIfInBounds, arrW_size n l (by omega)]
  · intro i hi
    rw [Array.getElem?_setIfInBounds, arrW_size n l (by omega)]
    by_cases e : l.length = i
    · subst e; simp [h]
    · rw [if_neg e, arrW_get n l i (by omega) hi]
      congr 2
      by_cases hl : i < l.length
      · simp [List.getD, List.getElem?_append_left hl]
      · simp [List.getD, List.getElem?_eq_none (by omega : l.length ≤ i), List.getElem?_eq_none (by simp; omega : (l ++ [v]).length ≤ i)]
theorem arrW_put_at (n : Nat) (l : List Int) (v : Int) (k : Nat) (hk : l.length = k) (h : k < n) : (arrW n l).setIfInBounds k (.int .u64 v) = arrW n (l ++ [v]) := by
  subst hk
  exact arrW_put n l v h

/-- Two results, a whole array and a slot. -/
theorem results_row_slot {P : Program} {fn : Func} {p q : Tmp} {ty : TypeId} (h : fn.results = #[.cell p ty, .tmp q]) (tmps : Array Value) (w : World) (g : Nat) (t : TypeId) (cs : Array Value) (fr : Nat × Nat) (d : TypeDesc)
    (hp : tmps.getD p undef = .pointer (some ⟨g, 0, none⟩)) (v : Value) (hv : tmps.getD q undef = v) (hg : w.heap[g]? = some (.cells cs t fr))
    (hu : P.underlying ty = some d) (hd : (match d with | .struct _ | .array _ _ => true | _ => false) = true) (hi : (P.info? ty).map (·.size) = some cs.size) :
    (results fn tmps).run P w = .ok (.tuple #[.agg cs, v]) w := by
  have hp' : tmps[p]?.getD undef = .pointer (some ⟨g, 0, none⟩) := by simpa using hp
  have hv' : tmps[q]?.getD undef = v := by simpa using hv
  simp [results, h, hp', hv', asAddr, run_loadVar_row w g t ty cs fr d hg hu hd hi]
/-- Three results, two whole arrays and a slot. -/
theorem results_rows_slot {P : Program} {fn : Func} {p p' q : Tmp} {ty : TypeId} (h : fn.results = #[.cell p ty, .cell p' ty, .tmp q]) (tmps : Array Value) (w : World) (g g' : Nat) (t : TypeId) (cs cs' : Array Value) (fr : Nat × Nat) (d : TypeDesc)
    (hp : tmps.getD p undef = .pointer (some ⟨g, 0, none⟩)) (hp' : tmps.getD p' undef = .pointer (some ⟨g', 0, none⟩)) (v : Value) (hv : tmps.getD q undef = v) (hg : w.heap[g]? = some (.cells cs t fr)) (hg' : w.heap[g']? = some (.cells cs' t fr))
    (hu : P.underlying ty = some d) (hd : (match d with | .struct _ | .array _ _ => true | _ => false) = true) (hi : (P.info? ty).map (·.size) = some cs.size) (hi' : (P.info? ty).map (·.size) = some cs'.size) :
    (results fn tmps).run P w = .ok (.tuple #[.agg cs, .agg cs', v]) w := by
  have hp1 : tmps[p]?.getD undef = .pointer (some ⟨g, 0, none⟩) := by simpa using hp
  have hp2 : tmps[p']?.getD undef = .pointer (some ⟨g', 0, none⟩) := by simpa using hp'
  have hv' : tmps[q]?.getD undef = v := by simpa using hv
  simp [results, h, hp1, hp2, hv', asAddr, run_loadVar_row w g t ty cs fr d hg hu hd hi, run_loadVar_row w g' t ty cs' fr d hg' hu hd hi']
end Go.Proofs.Ythgjfmdbipmhoaa
