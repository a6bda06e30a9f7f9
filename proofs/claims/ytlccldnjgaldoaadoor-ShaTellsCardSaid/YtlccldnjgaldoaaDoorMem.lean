/- Small facts on blocks of memory that are known whole, and on lists of numbers in them. -/
import Derived.Test.YtlccldnjgaldoaaDoorPure
import Derived.WalkKit
import Derived.Below
import Derived.Deep.Draws
import Derived.Laws.Rows
import Derived.Laws.Tables
namespace Go.Proofs.YtlccldnjgaldoaaDoor
open Go Go.RowKit

theorem below_drewN {B : Nat} {a w : World} (h : Below B a w) (n : Nat) : Below B a (w.drewN n) := ⟨h.os, h.tape, h.output, h.size, h.block⟩

/-- Block g holds just the cells cs, and all may be written. -/
def Row (w : World) (g : Nat) (t : TypeId) (cs : Array Value) : Prop := w.heap[g]? = some (.cells cs t (0, 0))

theorem Row.lt {w : World} {g : Nat} {t : TypeId} {cs : Array Value} (h : Row w g t cs) : g < w.heap.size := by
  rcases Nat.lt_or_ge g w.heap.size with hl | hl
  · exact hl
  · unfold Row at h
    rw [Array.getElem?_eq_none hl] at h
    cases h
theorem Row.cell {w : World} {g : Nat} {t : TypeId} {cs : Array Value} (h : Row w g t cs) (i : Nat) : w.cell? ⟨g, i, none⟩ = cs[i]? := cell_of_row w g i cs t (0, 0) h
theorem Row.frozen {w : World} {g : Nat} {t : TypeId} {cs : Array Value} (h : Row w g t cs) (i : Nat) : w.frozen? ⟨g, i, none⟩ = false := by
  unfold Row at h
  simp [World.frozen?, h]
theorem Row.new (w : World) (t : TypeId) (cs : Array Value) : Row (w.alloc (.cells cs t)) w.heap.size t cs := by
  show (w.heap.push _)[w.heap.size]? = _
  simp
theorem Row.newAt {w : World} {g : Nat} (h : w.heap.size = g) (t : TypeId) (cs : Array Value) : Row (w.alloc (.cells cs t)) g t cs := h ▸ Row.new w t cs
theorem Row.drewN {w : World} {g : Nat} {t : TypeId} {cs : Array Value} (h : Row w g t cs) (n : Nat) : Row (w.drewN n) g t cs := h
theorem Row.drew {w : World} {g : Nat} {t : TypeId} {cs : Array Value} (h : Row w g t cs) : Row w.drew g t cs := h
theorem Row.alloc {w : World} {g : Nat} {t : TypeId} {cs : Array Value} (h : Row w g t cs) (o : Obj) : Row (w.alloc o) g t cs := (Below.heap_alloc w o g h.lt).trans h
theorem Row.put {w : World} {g : Nat} {t : TypeId} {cs : Array Value} (h : Row w g t cs) (i : Nat) (u : Value) : Row (w.setCell ⟨g, i, none⟩ u) g t (cs.setIfInBounds i u) := by
  unfold Row at h ⊢
  simp [World.setCell, Array.getElem?_modify, h]
theorem Row.far {w : World} {g : Nat} {t : TypeId} {cs : Array Value} (h : Row w g t cs) {p : Addr} (hp : g ≠ p.block) (u : Value) : Row (w.setCell p u) g t cs := (Below.heap_setCell w p u g hp).trans h
theorem Row.below {w w' : World} {B g : Nat} {t : TypeId} {cs : Array Value} (h : Row w g t cs) (hb : Below B w w') (hg : g < B) : Row w' g t cs := (hb.block g hg).trans h
theorem Row.setRow {w : World} {g : Nat} {t : TypeId} {cs cs' : Array Value} (h : Row w g t cs) : Row (w.setRow g cs') g t cs' := setRow_heap w g cs cs' t (0, 0) h
theorem Row.setRowFar {w : World} {g g' : Nat} {t : TypeId} {cs cs' : Array Value} (h : Row w g t cs) (hg : g ≠ g') : Row (w.setRow g' cs') g t cs := (setRow_other w g' g cs' hg).trans h
theorem below_setRow {B : Nat} {a w : World} (h : Below B a w) {g : Nat} (hg : B ≤ g) (cs : Array Value) : Below B a (w.setRow g cs) :=
  ⟨h.os, h.tape, h.output, by simpa [World.setRow] using h.size, fun i hi => (setRow_other w g i cs (by omega)).trans (h.block i hi)⟩
theorem size_setRow (w : World) (g : Nat) (cs : Array Value) : (w.setRow g cs).heap.size = w.heap.size := by simp [World.setRow]

def u32v (n : Int) : Value := .int .u32 n

/-- An array of 64 words whose first ones are told, the others 0. -/
def arr64 (l : List Int) : Array Value := ((l ++ List.replicate (64 - l.length) 0).map u32v).toArray
theorem arr64_size (l : List Int) (h : l.length ≤ 64) : (arr64 l).size = 64 := by simp [arr64]; omega
theorem arr64_one (l : List Int) : (arr64 l).all (·.oneCell') = true := by
  simp only [arr64, List.all_toArray, List.all_map, List.all_eq_true, Function.comp]
  exact fun _ _ => rfl
theorem arr64_get (l : List Int) (i : Nat) (h : l.length ≤ 64) (hi : i < 64) : (arr64 l)[i]? = some (.int .u32 (l.getD i 0)) := by
  unfold arr64
  simp only [List.getElem?_toArray, List.getElem?_map]
  by_cases hl : i < l.length
  · rw [List.getElem?_append_left hl, List.getElem?_eq_getElem hl]
    simp [u32v, List.getD, List.getElem?_eq_getElem hl]
  · rw [List.getElem?_append_right (by omega), List.getElem?_replicate, if_pos (by omega)]
    simp [u32v, List.getD, List.getElem?_eq_none (by omega : l.length ≤ i)]
theorem arr64_put (l : List Int) (v : Int) (h : l.length < 64) : (arr64 l).setIfInBounds l.length (.int .u32 v) = arr64 (l ++ [v]) := by
  apply Array.ext_getElem?
  intro i
  rw [Array.getElem?_setIfInBounds]
  by_cases hi : i < 64
  · rw [arr64_get (l ++ [v]) i (by simp; omega) hi, arr64_size l (by omega)]
    by_cases e : l.length = i
    · subst e; simp [h]
    · rw [if_neg e, arr64_get l i (by omega) hi]
      congr 2
      by_cases hl : i < l.length
      · simp [List.getD, List.getElem?_append_left hl]
      · simp [List.getD, List.getElem?_eq_none (by omega : l.length ≤ i), List.getElem?_eq_none (by simp; omega : (l ++ [v]).length ≤ i)]
  · have h2 : (l ++ [v]).length ≤ 64 := by simp; omega
    rw [if_neg (by omega), Array.getElem?_eq_none (by rw [arr64_size l (by omega)]; omega), Array.getElem?_eq_none (by rw [arr64_size _ h2]; omega)]

/-- An array of n bytes whose first ones are told, the others 0. -/
def arrB (n : Nat) (l : List Int) : Array Value := ((l ++ List.replicate (n - l.length) 0).map u8v).toArray
theorem arrB_size (n : Nat) (l : List Int) (h : l.length ≤ n) : (arrB n l).size = n := by simp [arrB]; omega
theorem arrB_one (n : Nat) (l : List Int) : (arrB n l).all (·.oneCell') = true := by
  simp only [arrB, List.all_toArray, List.all_map, List.all_eq_true, Function.comp]
  exact fun _ _ => rfl
theorem arrB_get (n : Nat) (l : List Int) (i : Nat) (h : l.length ≤ n) (hi : i < n) : (arrB n l)[i]? = some (.int .u8 (l.getD i 0)) := by
  unfold arrB
  simp only [List.getElem?_toArray, List.getElem?_map]
  by_cases hl : i < l.length
  · rw [List.getElem?_append_left hl, List.getElem?_eq_getElem hl]
    simp [u8v, List.getD, List.getElem?_eq_getElem hl]
  · rw [List.getElem?_append_right (by omega), List.getElem?_replicate, if_pos (by omega)]
    simp [u8v, List.getD, List.getElem?_eq_none (by omega : l.length ≤ i)]
theorem arrB_ext (n : Nat) (l : List Int) (cs : Array Value) (h : l.length ≤ n) (hs : cs.size = n) (hg : ∀ i, i < n → cs[i]? = some (.int .u8 (l.getD i 0))) : cs = arrB n l := by
  apply Array.ext_getElem?
  intro i
  by_cases hi : i < n
  · rw [hg i hi, arrB_get n l i h hi]
  · rw [Array.getElem?_eq_none (by omega), Array.getElem?_eq_none (by rw [arrB_size n l h]; omega)]
theorem arrB_put (n : Nat) (l : List Int) (v : Int) (h : l.length < n) : (arrB n l).setIfInBounds l.length (.int .u8 v) = arrB n (l ++ [v]) := by
  apply arrB_ext
  · simp; omega
  · rw [Array.size_setIfInBounds, arrB_size n l (by omega)]
  · intro i hi
    rw [Array.getElem?_setIfInBounds, arrB_size n l (by omega)]
    by_cases e : l.length = i
    · subst e; simp [h]
    · rw [if_neg e, arrB_get n l i (by omega) hi]
      congr 2
      by_cases hl : i < l.length
      · simp [List.getD, List.getElem?_append_left hl]
      · simp [List.getD, List.getElem?_eq_none (by omega : l.length ≤ i), List.getElem?_eq_none (by simp; omega : (l ++ [v]).length ≤ i)]
theorem arrB_put_at (n : Nat) (l : List Int) (v : Int) (k : Nat) (hk : l.length = k) (h : k < n) : (arrB n l).setIfInBounds k (.int .u8 v) = arrB n (l ++ [v]) := by
  subst hk
  exact arrB_put n l v h

def bytes4 (x : Int) : List Int := [x / 16777216 % 256, x / 65536 % 256, x / 256 % 256, x % 256]
def zero8 : S8 := ⟨0, 0, 0, 0, 0, 0, 0, 0⟩
def S8.get (s : S8) (k : Nat) : Int := [s.a, s.b, s.c, s.d, s.e, s.f, s.g, s.h].getD k 0
theorem S8.cells_get (s : S8) (k : Nat) (h : k < 8) : s.cells[k]? = some (.int .u32 (s.get k)) := by
  rcases k with _ | _ | _ | _ | _ | _ | _ | _ | k
  all_goals first | rfl | omega
theorem S8.cells_size (s : S8) : s.cells.size = 8 := rfl
theorem S8.cells_one (s : S8) : s.cells.all (·.oneCell') = true := by simp [S8.cells, Value.oneCell']
/-- the first k words are added, the others stand -/
def S8.addTo (s t : S8) (k : Nat) : S8 :=
  { a := if 0 < k then (s.a + t.a) % 4294967296 else s.a
    b := if 1 < k then (s.b + t.b) % 4294967296 else s.b
    c := if 2 < k then (s.c + t.c) % 4294967296 else s.c
    d := if 3 < k then (s.d + t.d) % 4294967296 else s.d
    e := if 4 < k then (s.e + t.e) % 4294967296 else s.e
    f := if 5 < k then (s.f + t.f) % 4294967296 else s.f
    g := if 6 < k then (s.g + t.g) % 4294967296 else s.g
    h := if 7 < k then (s.h + t.h) % 4294967296 else s.h }
theorem S8.addTo_get (s t : S8) (k : Nat) (h : k < 8) : (s.addTo t k).get k = s.get k := by
  rcases k with _ | _ | _ | _ | _ | _ | _ | _ | k
  all_goals first | rfl | omega
theorem S8.addTo_put (s t : S8) (k : Nat) (h : k < 8) : (s.addTo t k).cells.setIfInBounds k (.int .u32 ((s.get k + t.get k) % 4294967296)) = (s.addTo t (k + 1)).cells := by
  rcases k with _ | _ | _ | _ | _ | _ | _ | _ | k
  all_goals first | rfl | omega
/-- the bytes of the first k words -/
def idPre (s : S8) : Nat → List Int
  | 0 => []
  | k + 1 => idPre s k ++ bytes4 (s.get k)
theorem idPre_len (s : S8) (k : Nat) : (idPre s k).length = 4 * k := by
  induction k with
  | zero => rfl
  | succ k ih => simp [idPre, ih, bytes4]; omega
theorem idPre_put (s : S8) (k : Nat) (h : k < 8) : ((((arrB 32 (idPre s k)).setIfInBounds (4 * k) (.int .u8 (s.get k / 16777216 % 256))).setIfInBounds (4 * k + 1) (.int .u8 (s.get k / 65536 % 256))).setIfInBounds (4 * k + 2) (.int .u8 (s.get k / 256 % 256))).setIfInBounds (4 * k + 3) (.int .u8 (s.get k % 256)) = arrB 32 (idPre s (k + 1)) := by
  have hl := idPre_len s k
  rw [arrB_put_at 32 _ _ (4 * k) hl (by omega), arrB_put_at 32 _ _ (4 * k + 1) (by simp [hl]) (by omega), arrB_put_at 32 _ _ (4 * k + 2) (by simp [hl]) (by omega), arrB_put_at 32 _ _ (4 * k + 3) (by simp [hl]) (by omega)]
  simp [idPre, bytes4]
/-- the first words -/
def firstW : S8 := ⟨1779033703, 3144134277, 1013904242, 2773480762, 1359893119, 2600822924, 528734635, 1541459225⟩
/-- the eight words behind k times 64 bytes -/
def sumK (p : List Int) : Nat → S8
  | 0 => firstW
  | k + 1 => mixS (sumK p k) (p.drop (64 * k))
theorem S8.addTo_zero (s t : S8) : s.addTo t 0 = s := rfl
theorem S8.addTo_all (s t : S8) : s.addTo t 8 = s.add t := rfl
end Go.Proofs.YtlccldnjgaldoaaDoor
