/- Part of a proof. -/
import Derived.Test.YtabhhbdbkeeblaaDoorZc
import Derived.Great.BuildSlice
import Derived.WalkKit
import Derived.Laws.Bits64b
import Derived.Great.FillDense
import Derived.Laws.StructEq
import Derived.Laws.OwnMore
import Derived.Deep.WholeRow
namespace Go.Proofs.YtabhhbdbkeeblaaDoor
set_option maxRecDepth 8000
open Go.RowKit
theorem own_of_row {w : World} {g B n : Nat} {xs : List Int} (h : Row w g 5 (arrB n xs)) (hl : xs.length = n) (hB : B ≤ g) (hn : n ≤ maxLen) : OwnB w B (.slice (some ⟨g, 0, none⟩) n n) xs := by
  subst hl
  refine ⟨by simp, .inr ⟨g, xs.length, arrB xs.length xs, rfl, hB, h, Nat.le_refl _, hn, by rw [arrB_size _ _ (Nat.le_refl _)]; omega, ?_⟩⟩
  rw [List.take_of_length_le (by rw [Array.length_toList, arrB_size _ _ (Nat.le_refl _)]; omega)]
  simp [arrB]
theorem OwnB.cap {w : World} {B n c : Nat} {A : Option Addr} {xs : List Int} (h : OwnB w B (.slice A n c) xs) : n ≤ c ∧ c ≤ maxLen := by
  rcases h.2 with ⟨e, e2⟩ | ⟨g, cap, cur, e, _, _, h1, h2, _⟩
  · injection e with e1 e3 e4
    subst e3 e4
    exact ⟨Nat.le_refl _, Nat.zero_le _⟩
  · injection e with e1 e3 e4
    subst e3 e4
    exact ⟨h1, h2⟩
theorem OwnB.up {w : World} {B n c : Nat} {A : Option Addr} {xs : List Int} (h : OwnB w B (.slice A n c) xs) : Bytes w w.heap.size A xs := h.bytes.2
/-- the zero id's cells, as the model writes them -/
theorem zero_cells : (#[Value.int .u8 0, Value.int .u8 0, Value.int .u8 0, Value.int .u8 0, Value.int .u8 0, Value.int .u8 0, Value.int .u8 0, Value.int .u8 0, Value.int .u8 0, Value.int .u8 0, Value.int .u8 0, Value.int .u8 0, Value.int .u8 0, Value.int .u8 0, Value.int .u8 0, Value.int .u8 0, Value.int .u8 0, Value.int .u8 0, Value.int .u8 0, Value.int .u8 0, Value.int .u8 0, Value.int .u8 0, Value.int .u8 0, Value.int .u8 0, Value.int .u8 0, Value.int .u8 0, Value.int .u8 0, Value.int .u8 0, Value.int .u8 0, Value.int .u8 0, Value.int .u8 0, Value.int .u8 0] : Array Value) = arrB 32 [] := rfl
/-- truths of one's own -/
def OwnF (w : World) (B : Nat) (v : Value) (l : List Bool) : Prop := w.ownsRow B 4 1 v l.length (l.map Value.bool)
theorem OwnF.nil (w : World) (B : Nat) : OwnF w B (.slice none 0 0) [] := World.ownsRow_nil _ _ _ _
theorem isIds.flat_take {l : List (List Int)} (h : isIds l) (k : Nat) : (l.take k).flatten = l.flatten.take (k * 32) := by
  induction l generalizing k with
  | nil => simp
  | cons x l ih =>
    have hx := (h x (List.mem_cons_self ..)).1
    cases k with
    | zero => simp
    | succ k =>
      rw [List.take_succ_cons, List.flatten_cons, List.flatten_cons, ih (fun y hy => h y (List.mem_cons_of_mem _ hy)), List.take_append, List.take_of_length_le (by omega : x.length ≤ (k + 1) * 32), hx, show (k + 1) * 32 - 32 = k * 32 by omega]
theorem isIds.flat_drop {l : List (List Int)} (h : isIds l) (k : Nat) : (l.drop k).flatten = l.flatten.drop (k * 32) := by
  induction l generalizing k with
  | nil => simp
  | cons x l ih =>
    have hx := (h x (List.mem_cons_self ..)).1
    cases k with
    | zero => simp
    | succ k =>
      rw [List.drop_succ_cons, List.flatten_cons, ih (fun y hy => h y (List.mem_cons_of_mem _ hy)), List.drop_append, List.drop_of_length_le (by omega : x.length ≤ (k + 1) * 32), hx, show (k + 1) * 32 - 32 = k * 32 by omega, List.nil_append]
theorem IdsIn.take {w : World} {B : Nat} {A : Option Addr} {l : List (List Int)} (h : IdsIn w B A l) (hl : isIds l) (k : Nat) : IdsIn w B A (l.take k) := by
  unfold IdsIn
  rw [hl.flat_take k]
  exact Bytes.take h _
/-- where a cut slice of ids begins -/
def cutI' (A : Option Addr) (l c : Nat) : Option Addr := if c = l then A else A.map (·.add (l * 32))
theorem add_add32 (a : Addr) (l j : Nat) : (a.add l).add j = a.add (l + j) := by
  unfold Addr.add
  by_cases h : l = 0
  · simp [h]
  · by_cases h2 : j = 0
    · simp [h, h2]
    · simp [h, h2, Nat.add_assoc]
theorem IdsIn.drop {w : World} {B : Nat} {A : Option Addr} {l : List (List Int)} (h : IdsIn w B A l) (hl : isIds l) (k c : Nat) (hc : l.length ≤ c) : IdsIn w B (cutI' A k c) (l.drop k) := by
  intro hp
  have e := hl.flat_drop k
  have hfl := hl.flat_len
  rw [e, List.length_drop] at hp
  obtain ⟨ad, rfl, hlt, hcell⟩ := h (by omega)
  have hne : ¬ c = k := by omega
  refine ⟨ad.add (k * 32), by simp [cutI', hne], by rw [block_of_add]; exact hlt, fun j v hv => ?_⟩
  rw [add_add32]
  refine hcell (k * 32 + j) v ?_
  rw [e, List.map_drop, List.getElem?_drop] at hv
  exact hv
section
variable {a : Act} {dst : Option Tmp} {x l h : Operand} {ty : TypeId} {pos : String} {after : Array Edge} {gd : Option (Nat × Bool)}
end
theorem sumL_byte (xs : List Int) : ∀ x ∈ sumL xs, 0 ≤ x ∧ x ≤ 255 := by
  have h : ∀ (s : S8) (k : Nat), ∀ x ∈ idPre s k, 0 ≤ x ∧ x ≤ 255 := by
    intro s k
    induction k with
    | zero => intro x hx; cases hx
    | succ k ih =>
      intro x hx
      unfold idPre at hx
      rcases List.mem_append.1 hx with h | h
      · exact ih x h
      · unfold bytes4 at h
        simp at h
        omega
  unfold sumL
  exact h _ _
theorem wpList_load_run {P : Program} {ops : Array Oper} {rest : List Oper} {o : Oper} {a : Act} {w : World} {Q : Exit → Act → World → Prop} {v : Value} (hgd : o.guard = none) (ty : TypeId) (x : Operand) (ho : o.op = .load ty x) (ad : Addr) (hx : a.eval x = .pointer (some ad))
    (hrun : (loadVar ty ad).run P w = .ok v w) (h : wpList P ops Q rest (a.put o.dst v) w) : wpList P ops Q (o :: rest) a w :=
  wpList_plain hgd fun _ hK => by
    unfold Oper.wp execOp
    simp only [ho, hx, Instr.loadAt, Instr.sureAddr, Sem.run_bind, Sem.run_pure, Result.andThen_ok, hrun]
    exact hK _ _ h
def OwnI (w : World) (B : Nat) (v : Value) (l : List (List Int)) : Prop := w.ownsRow B 40 32 v l.length (l.flatten.map u8v)
theorem OwnI.nil (w : World) (B : Nat) : OwnI w B (.slice none 0 0) [] := World.ownsRow_nil _ _ _ _
theorem OwnI.below {w w' : World} {B : Nat} {v : Value} {l : List (List Int)} (h : OwnI w B v l) (hb : Below w.heap.size w w') : OwnI w' B v l := by
  refine ⟨h.1, ?_⟩
  rcases h.2 with h0 | ⟨g, cap, cur, e, hg, hh, h1⟩
  · exact .inl h0
  · exact .inr ⟨g, cap, cur, e, hg, (hb.block g (Row.lt (t := 40) hh)).trans hh, h1⟩
/-- ids of one's own, as boxes -/
def FreshI (l : List (List Int)) (x : Value) (N : Boxes) : Prop :=
  (∃ g cap cur, x = .slice (some ⟨g, 0, none⟩) l.length cap ∧ N = [(g, Obj.cells cur 40 (0, 0))] ∧ l.length ≤ cap ∧ cap ≤ maxLen ∧ cur.size = cap * 32 ∧ cur.toList.take (l.length * 32) = l.flatten.map u8v) ∨
  (x = .slice none 0 0 ∧ N = [] ∧ l = [])
theorem FreshI.own {w : World} {B : Nat} {v : Value} {l : List (List Int)} {N : Boxes} (h : FreshI l v N) (hl : isIds l) (hN : ∀ y ∈ N, B ≤ y.1 ∧ w.heap[y.1]? = some y.2) : OwnI w B v l := by
  refine ⟨by rw [List.length_map]; exact hl.flat_len, ?_⟩
  rcases h with ⟨g, cap, cur, rfl, rfl, h3⟩ | ⟨rfl, rfl, rfl⟩
  · obtain ⟨k1, k2⟩ := hN _ (List.mem_singleton.2 rfl)
    exact .inr ⟨g, cap, cur, rfl, k1, k2, h3⟩
  · exact .inl ⟨rfl, rfl⟩
theorem FreshI.block {v : Value} {l : List (List Int)} {N : Boxes} (h : FreshI l v N) : ∀ g, v.ownBlock = some g → ∃ o, (g, o) ∈ N := by
  intro g hg
  rcases h with ⟨g', cap, cur, rfl, rfl, h3⟩ | ⟨rfl, rfl, rfl⟩
  · cases hg
    exact ⟨_, List.mem_singleton.2 rfl⟩
  · cases hg
section
variable {a : Act} {dst : Option Tmp} {x : Operand} {ty : TypeId} {pos : String} {after : Array Edge} {gd : Option (Nat × Bool)}
theorem new_id (a : Act) : NewAt Tryd.prog ⟨dst, .alloc 40, ty, pos, after, gd⟩ a (.cells (arrB 32 []) 40 (0, 0)) := fun u => by
  rw [← zero_cells]
  go_simp
theorem eql_id_op {y : Operand} {xs ys : List Int} (hxl : xs.length = 32) (hyl : ys.length = 32) (u : World) (hx : a.eval x = idv xs) (hy : a.eval y = idv ys) :
    (execOp a.eval ⟨dst, .binOp .eql 40 x y 40, ty, pos, after, gd⟩).run Tryd.prog u = .ok (.value (.bool (eqL xs ys))) u := by
  unfold idv at hx hy
  have h : (Op.equalIn 10000 40 (.agg (arrB 32 xs)) (.agg (arrB 32 ys))).run Tryd.prog u = .ok (eqL xs ys) u := run_equal_id xs ys hxl hyl u
  unfold execOp
  simp only [hx, hy]
  go_simp
theorem eqlb_op {y : Operand} {xs ys : List Int} {b : Bool} (hxl : xs.length = 32) (hyl : ys.length = 32) (hb : eqL xs ys = b) (u : World) (hx : a.eval x = idv xs) (hy : a.eval y = idv ys) :
    (execOp a.eval ⟨dst, .binOp .eql 40 x y 40, ty, pos, after, gd⟩).run Tryd.prog u = .ok (.value (.bool b)) u := by
  rw [← hb]
  exact eql_id_op hxl hyl u hx hy
end
theorem OwnF.get {w : World} {B n c : Nat} {A : Option Addr} {s : List Bool} (h : OwnF w B (.slice A n c) s) : s.length = n ∧ ∀ k, k < n → ∃ g, A = some ⟨g, 0, none⟩ ∧ g < w.heap.size ∧ w.cell? ⟨g, k, none⟩ = some (.bool (s.getD k true)) := by
  rcases h.2 with ⟨e, e2⟩ | ⟨g, cap, cur, e, _, hg, _⟩
  · injection e with e1 e3 e4
    exact ⟨by omega, fun k hk => by omega⟩
  · injection e with e1 e3 e4
    refine ⟨e3.symm, fun k hk => ⟨g, e1, Row.lt (t := 4) hg, ?_⟩⟩
    have hk' : k < s.length := by omega
    have := h.cells (g := g) (by rw [e1]; rfl) k (.bool (s.getD k true)) (by simp [List.getD, List.getElem?_eq_getElem hk'])
    rwa [Addr.add_mid, Nat.zero_add] at this
theorem OwnF.below {w w' : World} {B : Nat} {v : Value} {l : List Bool} (h : OwnF w B v l) (hb : Below w.heap.size w w') : OwnF w' B v l := by
  refine ⟨h.1, ?_⟩
  rcases h.2 with h0 | ⟨g, cap, cur, e, hg, hh, h1⟩
  · exact .inl h0
  · exact .inr ⟨g, cap, cur, e, hg, (hb.block g (Row.lt (t := 4) hh)).trans hh, h1⟩
theorem IdsIn.loads {w : World} {A : Option Addr} {l : List (List Int)} (h : IdsIn w w.heap.size A l) (hl : isIds l) {k : Nat} (hk : k < l.length) : ∃ ad, A = some ad ∧ ∀ u, EnvX w u [] → (loadVar 40 (ad.add (k * 32))).run Tryd.prog u = .ok (idv (l.getD k [])) u := by
  obtain ⟨ad, e, _⟩ := h.load hl hk
  refine ⟨ad, e, fun u hu => ?_⟩
  obtain ⟨ad2, e2, h2⟩ := (h.up (EnvX.bel hu)).load hl hk
  rw [e] at e2
  cases e2
  exact h2
/-- where a cut slice begins -/
def cutA (A : Option Addr) (l m : Nat) : Option Addr := if m = l then A else A.map (·.add (l * 1))
theorem add_add (a : Addr) (l j : Nat) : (a.add (l * 1)).add j = a.add (l + j) := by
  unfold Addr.add
  by_cases h : l = 0
  · simp [h]
  · by_cases h2 : j = 0
    · simp [h, h2]
    · simp [h, h2, Nat.add_assoc]
theorem Bytes.cut {w : World} {B : Nat} {A : Option Addr} {xs : List Int} (h : Bytes w B A xs) (l k m : Nat) (hm : l + k ≤ m) : Bytes w B (cutA A l m) ((xs.drop l).take k) := by
  intro hp
  rw [List.length_take, List.length_drop] at hp
  obtain ⟨ad, rfl, hlt, hc⟩ := h (by omega)
  have hne : ¬ m = l := by omega
  refine ⟨ad.add (l * 1), by simp [cutA, hne], by rw [block_of_add]; exact hlt, fun j v hv => ?_⟩
  rw [add_add]
  refine hc (l + j) v ?_
  rw [List.map_take, List.getElem?_take] at hv
  split at hv
  · rw [List.map_drop, List.getElem?_drop] at hv
    exact hv
  · cases hv
section
variable {a : Act} {dst : Option Tmp} {x l h : Operand} {ty : TypeId} {pos : String} {after : Array Edge} {gd : Option (Nat × Bool)}
end
/-- the bytes of a box -/
theorem box_bytes {w0 u : World} {M : Boxes} {g cap : Nat} {cur : Array Value} {xs : List Int} (hu : EnvC w0 M u) (hm : (g, Obj.cells cur 5 (0, 0)) ∈ M) (h : xs.length ≤ cap ∧ cap ≤ maxLen ∧ cur.size = cap * 1 ∧ cur.toList.take (xs.length * 1) = xs.map u8v) : Bytes u u.heap.size (some ⟨g, 0, none⟩) xs := by
  have : OwnB u 0 (.slice (some ⟨g, 0, none⟩) xs.length cap) xs := ⟨by simp, .inr ⟨g, cap, cur, rfl, Nat.zero_le _, EnvX.box hu g _ hm, h.1, h.2.1, h.2.2.1, h.2.2.2⟩⟩
  exact this.bytes.2
def isId (x : List Int) : Prop := x.length = 32 ∧ ∀ b ∈ x, 0 ≤ b ∧ b ≤ 255
def I64 (i : Int) : Prop := -9223372036854775808 ≤ i ∧ i ≤ 9223372036854775807
def z32 : List Int := List.replicate 32 0
/-- a byte's number -/
def isB (l : List Int) : Prop := ∀ x ∈ l, 0 ≤ x ∧ x ≤ 255
theorem isB_nil : isB [] := fun _ h => by cases h
theorem isB_append {a b : List Int} : isB (a ++ b) ↔ isB a ∧ isB b := by
  unfold isB
  constructor
  · intro h
    exact ⟨fun x hx => h x (List.mem_append_left _ hx), fun x hx => h x (List.mem_append_right _ hx)⟩
  · rintro ⟨h1, h2⟩ x hx
    rcases List.mem_append.1 hx with h | h
    · exact h1 x h
    · exact h2 x h
/-- the lowest k bytes of a number, the highest first -/
def putL (n : Nat) : Nat → List Int
  | 0 => []
  | k + 1 => putL (n / 256) k ++ [((n % 256 : Nat) : Int)]
theorem putL_len (n k : Nat) : (putL n k).length = k := by
  induction k generalizing n with
  | zero => rfl
  | succ k ih => unfold putL; rw [List.length_append, ih]; rfl
theorem putL_byte (n k : Nat) : isB (putL n k) := by
  induction k generalizing n with
  | zero => exact isB_nil
  | succ k ih =>
    unfold putL
    refine isB_append.2 ⟨ih _, fun x hx => ?_⟩
    cases List.mem_singleton.1 hx
    omega
theorem maysize_any (s : Int) (w : World) :
    Calls Tryd.prog 66 #[.int .i64 s] w fun e w' => e = .returned (.bool (decide (0 ≤ s ∧ s ≤ 8))) ∧ w = w' := by
  by_cases h0 : 0 ≤ s
  · by_cases h1 : s ≤ 8
    · go_enter Tryd.func66, Tryd.ntmps66
      go_wp2
      go_ret
      exact ⟨by simp [h0, h1], rfl⟩
    · go_enter Tryd.func66, Tryd.ntmps66
      go_wp2
      go_ret
      exact ⟨by simp [h1], rfl⟩
  · go_enter Tryd.func66, Tryd.ntmps66
    go_wp2
    go_ret
    exact ⟨by simp; omega, rfl⟩
theorem putL_head (n i : Nat) : putL n (i + 1) = ((n / 256 ^ i % 256 : Nat) : Int) :: putL n i := by
  induction i generalizing n with
  | zero => simp [putL]
  | succ i ih =>
    show putL (n / 256) (i + 1) ++ [((n % 256 : Nat) : Int)] = _
    rw [ih, List.cons_append, Nat.div_div_eq_div_mul, Nat.pow_succ, Nat.mul_comm (256 ^ i) 256]
    rfl
theorem put_set (n k i : Nat) (h : i < k) : (arrB k (List.replicate (k - i) 0 ++ putL n i)).setIfInBounds (k - 1 - i) (.int .u8 ((n / 256 ^ i % 256 : Nat) : Int)) = arrB k (List.replicate (k - (i + 1)) 0 ++ putL n (i + 1)) := by
  have hl : ∀ j, j ≤ k → (List.replicate (k - j) (0 : Int) ++ putL n j).length = k := fun j hj => by rw [List.length_append, List.length_replicate, putL_len]; omega
  obtain ⟨d, rfl⟩ : ∃ d, k = d + 1 + i := ⟨k - 1 - i, by omega⟩
  rw [show d + 1 + i - i = d + 1 by omega, show d + 1 + i - 1 - i = d by omega, show d + 1 + i - (i + 1) = d by omega, putL_head, List.replicate_succ', List.append_assoc]
  have hl1 := hl i (by omega)
  have hl2 := hl (i + 1) (by omega)
  rw [show d + 1 + i - i = d + 1 by omega, List.replicate_succ', List.append_assoc] at hl1
  rw [show d + 1 + i - (i + 1) = d by omega, putL_head] at hl2
  apply arrB_ext
  · omega
  · rw [Array.size_setIfInBounds, arrB_size _ _ (by omega)]
  · intro t ht
    rw [Array.getElem?_setIfInBounds, arrB_size _ _ (by omega)]
    by_cases e : d = t
    · subst e
      rw [if_pos rfl, if_pos (by omega)]
      simp [List.getD]
    · rw [if_neg e, arrB_get _ _ _ (by omega) ht]
      congr 2
      by_cases hlt : t < d
      · simp [List.getD, List.getElem?_append_left, hlt]
      · obtain ⟨s, rfl⟩ : ∃ s, t = d + (s + 1) := ⟨t - d - 1, by omega⟩
        simp [List.getD, List.getElem?_append_right]
set_option maxHeartbeats 1000000 in
theorem put_any (n k : Nat) (w : World) (hn : n < 18446744073709551616) (hk : k ≤ 8) :
    Calls Tryd.prog 52 #[.int .u64 n, .int .i64 k] w fun e w' => (∃ v, e = .returned v ∧ OwnB w' w.heap.size v (putL n k)) ∧ Below w.heap.size w w' := by
  have k8 : (k : Int) ≤ 8 := by omega
  have d0 : (decide (0 ≤ (k : Int) ∧ (k : Int) ≤ 8)) = true := by simp; omega
  go_enter Tryd.func52, Tryd.ntmps52
  go_wp2_with fail
  refine (maysize_any (k : Int) w).mono ?_
  rintro e w1 ⟨rfl, rfl⟩
  rw [d0]
  go_wp2_with fail
  rw [make_bytes k (by omega)]
  go_wp2_with fail
  go_loopw [13] (fun i u => ∃ j : Nat, j ≤ k ∧ i = .int .i64 j ∧ Below w.heap.size w u ∧ Hid (Row u w.heap.size 5 (arrB k (List.replicate (k - j) 0 ++ putL n j)))) (fun i _ => k - (intOf i).toNat)
  case atStart =>
    refine ⟨0, by omega, rfl, by go_grown, ?_⟩
    have e : arrB k (List.replicate (k - 0) 0 ++ putL n 0) = arrB k [] := by simp [putL, arrB]
    rw [e]
    exact Row.new w 5 _
  case round =>
    obtain ⟨j, hj, rfl, hbl, hrows⟩ := hrel
    have r0 := hrows.out
    by_cases hlt : j < k
    · have hlt2 : (j : Int) < (k : Int) := by omega
      have hj8 : (j : Int) < 8 := by omega
      have hj0 : (0 : Int) ≤ (j : Int) := by omega
      have hset := put_set n k j hlt
      have e0 := (r0.cell (k - 1 - j)).trans (arrB_get k _ (k - 1 - j) (by rw [List.length_append, List.length_replicate, putL_len]; omega) (by omega))
      have f0 := r0.frozen (k - 1 - j)
      have hv : Hid ((n : Int) / 2 ^ (8 * j) % 256 = ((n / 256 ^ j % 256 : Nat) : Int)) := by
        show _ = _
        rw [show (256 : Nat) = 2 ^ 8 from rfl, ← Nat.pow_mul]
        simp
      have HS := Lib.hid hset
      have R0 := Lib.hid r0
      clear hset r0 hrows
      generalize (List.replicate (k - j) 0 ++ putL n j).getD (k - 1 - j) 0 = z at *
      generalize arrB k (List.replicate (k - j) 0 ++ putL n j) = cs at *
      go_wp2_with fail
      go_roundw
      case rel =>
        refine ⟨j + 1, by omega, by go_num, hbl.setCell (by simp) _, ?_⟩
        rw [← HS.out, ← hv.out]
        exact R0.out.put _ _
      case measure => simp [intOf]; omega
    · obtain rfl : j = k := by omega
      have r1 : Row wr w.heap.size 5 (arrB j (putL n j)) := by simpa using r0
      go_wp2
      go_ret
      exact ⟨⟨_, rfl, own_of_row r1 (putL_len _ _) (Nat.le_refl _) (by unfold maxLen; omega)⟩, hbl⟩
structure InR where
  tx : List Int
  i : Int
deriving DecidableEq
structure OutR where
  v : Int
  to : Int
deriving DecidableEq
structure TxR where
  ins : List InR
  outs : List OutR
deriving DecidableEq
def noTx : TxR := ⟨[], []⟩
def okIn (x : InR) : Prop := isId x.tx ∧ I64 x.i
def okOut (o : OutR) : Prop := I64 o.v ∧ I64 o.to
def okX (t : TxR) : Prop := (∀ x ∈ t.ins, okIn x) ∧ ∀ o ∈ t.outs, okOut o
def mayIn (x : InR) : Bool := decide (0 ≤ x.i ∧ x.i ≤ 2)
def mayOut (o : OutR) : Bool := decide (1 ≤ o.v ∧ o.v ≤ 1099511627776 ∧ 0 ≤ o.to ∧ o.to ≤ 255)
def mayX (t : TxR) : Bool := decide (t.ins.length ≤ 3 ∧ 1 ≤ t.outs.length ∧ t.outs.length ≤ 3 ∧ (∀ x ∈ t.ins, mayIn x = true) ∧ t.ins.Nodup ∧ ∀ o ∈ t.outs, mayOut o = true)
def inB (x : InR) : List Int := x.tx ++ [x.i]
def outB (o : OutR) : List Int := putL o.v.toNat 6 ++ [o.to]
def bodyX (t : TxR) : List Int := [(t.ins.length : Int)] ++ ((t.ins.map inB).flatten ++ ((t.outs.length : Int) :: (t.outs.map outB).flatten))
def putX (t : TxR) : List Int × Bool := if mayX t then (bodyX t, true) else ([], false)
def idX (t : TxR) : List Int := if mayX t then sumL (6 :: bodyX t) else z32
theorem mayX_iff {t : TxR} : mayX t = true ↔ (t.ins.length ≤ 3 ∧ 1 ≤ t.outs.length ∧ t.outs.length ≤ 3 ∧ (∀ x ∈ t.ins, 0 ≤ x.i ∧ x.i ≤ 2) ∧ t.ins.Nodup ∧ ∀ o ∈ t.outs, 1 ≤ o.v ∧ o.v ≤ 1099511627776 ∧ 0 ≤ o.to ∧ o.to ≤ 255) := by
  unfold mayX mayIn mayOut
  simp only [decide_eq_true_eq]
theorem idX_id (t : TxR) : isId (idX t) := by
  unfold idX
  split
  · exact ⟨sumL_len _, sumL_byte _⟩
  · exact ⟨rfl, fun y hy => by rw [List.eq_of_mem_replicate hy]; decide⟩
theorem insB_len {l : List InR} (h : ∀ x ∈ l, okIn x) : ∀ r ∈ l.map inB, r.length = 33 := fun r hr => by
  obtain ⟨x, hx, rfl⟩ := List.mem_map.1 hr
  unfold inB
  rw [List.length_append, (h x hx).1.1]
  rfl
theorem outsB_len (l : List OutR) : ∀ r ∈ l.map outB, r.length = 7 := fun r hr => by
  obtain ⟨x, hx, rfl⟩ := List.mem_map.1 hr
  unfold outB
  rw [List.length_append, putL_len]
  rfl
theorem flat_len {z : Nat} : ∀ {L : List (List Int)}, (∀ r ∈ L, r.length = z) → L.flatten.length = z * L.length
  | [], _ => by simp
  | x :: L, h => by
    rw [List.flatten_cons, List.length_append, h x (List.mem_cons_self ..), flat_len (L := L) (fun r hr => h r (List.mem_cons_of_mem _ hr)), List.length_cons, Nat.mul_succ]
    omega
theorem bodyX_len {t : TxR} (h : okX t) : (bodyX t).length = 2 + 33 * t.ins.length + 7 * t.outs.length := by
  have h1 := flat_len (insB_len h.1)
  have h2 := flat_len (outsB_len t.outs)
  rw [List.length_map] at h1 h2
  unfold bodyX
  simp only [List.length_append, List.length_cons, List.length_nil, h1, h2]
  omega
theorem bodyX_byte {t : TxR} (h : okX t) (hm : mayX t = true) : isB (bodyX t) := by
  obtain ⟨h1, h2, h3, h4, _, h5⟩ := mayX_iff.1 hm
  unfold bodyX
  rw [isB_append, isB_append]
  refine ⟨fun y hy => ?_, fun y hy => ?_, fun y hy => ?_⟩
  · cases List.mem_singleton.1 hy; omega
  · obtain ⟨r, hr, hy⟩ := List.mem_flatten.1 hy
    obtain ⟨x, hx, rfl⟩ := List.mem_map.1 hr
    rcases List.mem_append.1 hy with e | e
    · exact (h.1 x hx).1.2 y e
    · cases List.mem_singleton.1 e
      have := h4 x hx
      omega
  · rcases List.mem_cons.1 hy with e | e
    · omega
    · obtain ⟨r, hr, hy⟩ := List.mem_flatten.1 e
      obtain ⟨x, hx, rfl⟩ := List.mem_map.1 hr
      rcases List.mem_append.1 hy with e | e
      · exact putL_byte _ _ y e
      · cases List.mem_singleton.1 e
        have := h5 x hx
        omega
open Go
def Big : Nat := 115792089237316195423570985008687907853269984665640564039457584007913129639936
/-- word j of a number -/
def W (m j : Nat) : Nat := m / 2 ^ (64 * j) % 2 ^ 64
structure Tot where
  h : List Int
  w : Nat
  n : Int
theorem Tot.ext' {a b : Tot} (h1 : a.h = b.h) (h2 : a.w = b.w) (h3 : a.n = b.n) : a = b := by
  cases a; cases b; simp_all
instance : DecidableEq Tot := fun a b => decidable_of_iff (a.h = b.h ∧ a.w = b.w ∧ a.n = b.n) ⟨fun h => Tot.ext' h.1 h.2.1 h.2.2, fun h => by subst h; exact ⟨rfl, rfl, rfl⟩⟩
def noTot : Tot := ⟨sumL [4], 0, 0⟩
def seqAt (place : Nat → Option (Nat × Nat)) : Nat → List (Nat × Value) → Prop
  | _, [] => True
  | o, (i, v) :: ps => place i = some (o, v.cells.size) ∧ seqAt place (o + v.cells.size) ps
def cellsOfP (ps : List (Nat × Value)) : List Value := (ps.map fun p => p.2.cells.toList).flatten
theorem fill_step (o : Nat) (v zs : Array Value) (hz : o + v.size ≤ zs.size) : ((v.toList.zipIdx 0).foldl (fun cs (x : Value × Nat) => cs.setIfInBounds (o + x.2) x.1) zs).toList = zs.toList.take o ++ v.toList ++ zs.toList.drop (o + v.size) := by
  obtain ⟨g1, g2⟩ := Great.foldl_set o v.toList 0 zs
  apply List.ext_getElem?
  intro k
  have hA : (zs.toList.take o).length = o := by rw [List.length_take, Array.length_toList]; omega
  have hAV : (zs.toList.take o ++ v.toList).length = o + v.size := by rw [List.length_append, hA, Array.length_toList]
  rw [Array.getElem?_toList, g2 k, Array.length_toList, Nat.add_zero]
  by_cases a1 : k < o
  · rw [if_neg (by omega), List.getElem?_append_left (by omega), List.getElem?_append_left (by omega), List.getElem?_take_of_lt a1, Array.getElem?_toList]
  · by_cases a2 : k < o + v.size
    · rw [if_pos (by omega), List.getElem?_append_left (by omega), List.getElem?_append_right (by omega), hA]
    · rw [if_neg (by omega), List.getElem?_append_right (by omega), hAV, List.getElem?_drop, Array.getElem?_toList]
      congr 1
      omega
theorem fill_seq {place : Nat → Option (Nat × Nat)} : ∀ (ps : List (Nat × Value)) (o : Nat) (zs : Array Value), seqAt place o ps → o + (cellsOfP ps).length ≤ zs.size →
    ∃ r, Instr.fill place zs ps = some r ∧ r.toList = zs.toList.take o ++ cellsOfP ps ++ zs.toList.drop (o + (cellsOfP ps).length)
  | [], o, zs, _, _ => ⟨zs, rfl, by simp [cellsOfP]⟩
  | (i, v) :: ps, o, zs, h, hz => by
    obtain ⟨h1, h2⟩ := h
    have hl : (cellsOfP ((i, v) :: ps)).length = v.cells.size + (cellsOfP ps).length := by simp [cellsOfP]
    obtain ⟨g1, g2⟩ := Great.foldl_set o v.cells.toList 0 zs
    have e1 : v.cells.zipIdx.foldl (fun cs (x : Value × Nat) => cs.setIfInBounds (o + x.2) x.1) zs = (v.cells.toList.zipIdx 0).foldl (fun cs (x : Value × Nat) => cs.setIfInBounds (o + x.2) x.1) zs := by rw [← Array.foldl_toList, Array.toList_zipIdx]
    obtain ⟨r, hr, hrl⟩ := fill_seq ps (o + v.cells.size) ((v.cells.toList.zipIdx 0).foldl (fun cs (x : Value × Nat) => cs.setIfInBounds (o + x.2) x.1) zs) h2 (by rw [g1]; omega)
    refine ⟨r, ?_, ?_⟩
    · unfold Instr.fill
      simp only [h1, e1]
      split
      · rename_i h
        simp at h
        omega
      · exact hr
    · have hc : cellsOfP ((i, v) :: ps) = v.cells.toList ++ cellsOfP ps := by simp [cellsOfP]
      rw [hrl, hc, fill_step o v.cells zs (by omega)]
      have hA : (zs.toList.take o ++ v.cells.toList).length = o + v.cells.size := by
        rw [List.length_append, List.length_take, Array.length_toList, Array.length_toList]
        omega
      have hd : (zs.toList.take o ++ v.cells.toList ++ zs.toList.drop (o + v.cells.size)).drop (o + v.cells.size + (cellsOfP ps).length) = zs.toList.drop (o + (v.cells.toList ++ cellsOfP ps).length) := by
        rw [List.drop_append, List.drop_of_length_le (by omega), List.nil_append, List.drop_drop, hA]
        congr 1
        have hvl : v.cells.toList.length = v.cells.size := Array.length_toList
        simp only [List.length_append, hvl]
        omega
      rw [hd, List.take_left' hA]
      simp only [List.append_assoc]
theorem fill_all {place : Nat → Option (Nat × Nat)} {ps : List (Nat × Value)} {zs : Array Value} (h : seqAt place 0 ps) (hz : zs.size = (cellsOfP ps).length) : Instr.fill place zs ps = some (cellsOfP ps).toArray := by
  obtain ⟨r, hr, hl⟩ := fill_seq ps 0 zs h (by omega)
  rw [hr]
  congr 1
  apply Array.ext'
  rw [hl]
  simp only [List.take_zero, List.nil_append, Nat.zero_add]
  rw [List.drop_of_length_le (by rw [Array.length_toList]; omega), List.append_nil]
/-- a struct's literal: all its fields -/
theorem built_struct {t : TypeId} {fields : Array Field} {places : List (Nat × Nat)} {n : Nat} (hu : Tryd.prog.underlying t = some (.struct fields)) (hn : (Tryd.prog.info? t).map (fun i => i.zero.map (·.cells.size)) = some (some n))
    (hp : fields.toList.mapM (fun f => (Tryd.prog.info? f.type).map fun i => (f.offset, i.size)) = some places) {ps : List (Nat × Value)} (h : seqAt (places.toArray[·]?) 0 ps) (hz : n = (cellsOfP ps).length) : Tryd.prog.built t ps = some (cellsOfP ps).toArray := by
  cases hq : Tryd.prog.info? t with
  | none => rw [hq] at hn; cases hn
  | some it =>
    rw [hq] at hn
    simp only [Option.map_some, Option.some.injEq] at hn
    cases hzz : it.zero with
    | none => rw [hzz] at hn; cases hn
    | some z =>
      rw [hzz] at hn
      simp only [Option.map_some, Option.some.injEq] at hn
      unfold Program.built
      simp only [hq, hu, hzz, hp]
      exact fill_all h (by omega)
theorem oneInt : ∀ w, (isAgg 3).run Tryd.prog w = .ok false w := fun w => by simp [isAgg, run_underlying Tryd.underlying3]
section
variable {a : Act} {dst : Option Tmp} {x y : Operand} {ty : TypeId} {pos : String} {after : Array Edge} {gd : Option (Nat × Bool)}
theorem eqlI_op {m k : Int} {b : Bool} (u : World) (hb : decide (m = k) = b) (hx : a.eval x = .int .i64 m) (hy : a.eval y = .int .i64 k) :
    (execOp a.eval ⟨dst, .binOp .eql 3 x y 3, ty, pos, after, gd⟩).run Tryd.prog u = .ok (.value (.bool b)) u := by
  subst hb
  unfold execOp
  simp only [hx, hy]
  go_simp
  rfl
theorem buildA_op {t : TypeId} {parts : Array (Nat × Operand)} {cs : Array Value} (u : World) (hb : Tryd.prog.built t (parts.toList.map fun x => (x.1, a.eval x.2)) = some cs) :
    (execOp a.eval ⟨dst, .build t parts, ty, pos, after, gd⟩).run Tryd.prog u = .ok (.value (.agg cs)) u := by
  have hb' : Tryd.prog.built t (parts.map fun (i, x) => (i, a.eval x)).toList = some cs := by
    rw [Array.toList_map]
    exact hb
  unfold execOp
  simp only [Sem.run_bind, Sem.run_pure, run_build u t _ _ hb', Result.andThen_ok]
end
def okT (t : Tot) : Prop := (t.h.length = 32 ∧ ∀ b ∈ t.h, 0 ≤ b ∧ b ≤ 255) ∧ t.w < Big ∧ -9223372036854775808 ≤ t.n ∧ t.n ≤ 9223372036854775807
def len32 (t : Tot) : Prop := t.h.length = 32
theorem idA_list {h : List Int} (hh : h.length = 32) : (arrB 32 h).toList.length = 32 := by rw [Array.length_toList]; exact arrB_size _ _ (by omega)
theorem cell_of_all {a : Array Value} (h : a.all (·.oneCell') = true) : ∀ u ∈ a.toList, u.oneCell' = true := fun u hu => by
  obtain ⟨i, hi, rfl⟩ := Array.mem_iff_getElem.1 (Array.mem_toList_iff.1 hu)
  exact Array.all_eq_true.1 h i hi
theorem aggIdT : AggT 40 32 := ⟨fun w => by simp [isAgg, run_underlying Tryd.underlying40], by kernel_rfl⟩
theorem agg_list (a : Array Value) : Value.agg a.toList.toArray = .agg a := by rw [Array.toArray_toList]
section
variable {w0 u : World} {M : Boxes} {g : Nat} {ty : TypeId} {t : Tot}
end
def okTs (l : List Tot) : Prop := ∀ t ∈ l, okT t
theorem okT.len {t : Tot} (h : okT t) : len32 t := h.1.1
theorem okTs.get {l : List Tot} (h : okTs l) {i : Nat} (hi : i < l.length) : okT (l.getD i noTot) := by
  rw [List.getD_eq_getElem?_getD, List.getElem?_eq_getElem hi]
  exact h _ (List.getElem_mem hi)
theorem okTs.take {l : List Tot} (h : okTs l) (k : Nat) : okTs (l.take k) := fun x hx => h x (List.mem_of_mem_take hx)
theorem okTs.drop {l : List Tot} (h : okTs l) (k : Nat) : okTs (l.drop k) := fun x hx => h x (List.mem_of_mem_drop hx)
theorem run_equalIn_id (d : Nat) (xs ys : List Int) (hx : xs.length = 32) (hy : ys.length = 32) (w : World) : (Op.equalIn (d + 2) 40 (.agg (arrB 32 xs)) (.agg (arrB 32 ys))).run Tryd.prog w = .ok (eqL xs ys) w := by
  cases hq : Tryd.prog.info? 5 with
  | none => have := infoB; rw [hq] at this; cases this
  | some i =>
    have h := run_equalIn_array (P := Tryd.prog) w (d + 1) (arrB 32 xs) (arrB 32 ys) Tryd.underlying40 hq
    rw [cellsB, run_items d xs ys hx hy w (List.range 32) (by simp)] at h
    have e : decide (∀ i ∈ List.range 32, xs.getD i 0 = ys.getD i 0) = eqL xs ys := decide_eq_decide.2 (list_eq_iff xs ys hx hy)
    rw [e] at h
    exact h
theorem run_part_agg {e : TypeId} {z : Nat} (D : AggT e z) {cs v : Array Value} {off : Nat} (hv : cs.extract off (off + z) = v) (w : World) : (part e cs off).run Tryd.prog w = .ok (.agg v) w := by
  have hs := D.size
  cases hq : Tryd.prog.info? e with
  | none => rw [hq] at hs; cases hs
  | some k =>
    rw [hq] at hs
    simp only [Option.map_some, Option.some.injEq] at hs
    have hsz : (sizeOf e).run Tryd.prog w = .ok z w := by simp [sizeOf, typeInfo, hq, hs]
    simp [part, D.agg, hsz, hv]
theorem ext_list {a : Array Value} {k z : Nat} {l : List Value} (h : (a.toList.drop k).take z = l) : a.extract k (k + z) = l.toArray := by
  apply Array.ext'
  rw [Array.toList_extract, ← h]
  simp [List.extract_eq_take_drop]
theorem eqFields_step {d : Nat} {xs ys : Array Value} {f : Field} {fs : List Field} {w : World} {a b : Value} {r : Bool} (hn : f.name ≠ "_") (pa : (part f.type xs f.offset).run Tryd.prog w = .ok a w) (pb : (part f.type ys f.offset).run Tryd.prog w = .ok b w)
    (hr : (Op.equalIn d f.type a b).run Tryd.prog w = .ok r w) : (Op.eqFields d xs ys (f :: fs)).run Tryd.prog w = if r = true then (Op.eqFields d xs ys fs).run Tryd.prog w else .ok false w := by
  rw [Op.eqFields, if_pos hn]
  simp only [Sem.run_bind, pa, pb, hr, Result.andThen_ok]
  cases r with
  | false => rfl
  | true => rfl
theorem elB : ElemT 63 5 1 1 (.int .u8 0) := ⟨Tryd.underlying63, by kernel_rfl, rfl, by decide, by decide, by decide⟩
section
variable {a : Act} {dst : Option Tmp} {x : Operand} {ty : TypeId} {pos : String} {after : Array Edge} {gd : Option (Nat × Bool)}
theorem sliceArr_op {ad : Addr} (u : World) (hx : a.eval x = .pointer (some ad)) :
    (execOp a.eval ⟨dst, .slice 40 x none none none, ty, pos, after, gd⟩).run Tryd.prog u = .ok (.value (.slice (some ad) 32 32)) u := by
  unfold execOp
  simp only [hx]
  go_simp
end
section
variable {st e : TypeId} {z bytes : Nat} {zero : Value}
/-- the cells of a source -/
def SrcAt (u : World) (ad : Addr) (ys : List Value) : Prop := ∀ j c, ys[j]? = some c → u.cell? (ad.add j) = some c
theorem src_box {w0 u : World} {M : Boxes} {g : Nat} {t : TypeId} {cs : Array Value} {ys : List Value} (hu : EnvC w0 M u) (hm : (g, Obj.cells cs t (0, 0)) ∈ M) {k : Nat} (h : (cs.toList.drop k).take ys.length = ys) : SrcAt u ⟨g, k, none⟩ ys := by
  intro j c hc
  rw [Addr.add_mid]
  refine box_cell hu hm ?_
  have hj : j < ys.length := by
    rcases Nat.lt_or_ge j ys.length with h' | h'
    · exact h'
    · rw [List.getElem?_eq_none h'] at hc; cases hc
  rw [← h, List.getElem?_take_of_lt hj, List.getElem?_drop, Array.getElem?_toList] at hc
  exact hc
theorem appX_op (T : ElemT st e z bytes zero) {w0 u : World} {M : Boxes} (M0 : Boxes) {N : Boxes} {n m c : Nat} {xs : List Value} {v : Value} {ys : List Value} {ad : Addr} {a : Act} {dst : Option Tmp} {y x : Operand} {pos : String} {after : Array Edge} {gd : Option (Nat × Bool)}
    (hu : EnvX w0 u M) (hl : xs.length = n * z) (hy : ys.length = m * z) (h1 : ∀ u ∈ ys, u.oneCell' = true) (hF : FreshR e z n xs v N) (hN : ∀ y ∈ N, y ∈ M ∧ w0.heap.size ≤ y.1) (hc : SrcAt u ad ys) (hM0 : ∀ z ∈ M0, z ∈ M ∧ ∀ y ∈ N, z.1 ≠ y.1) (hs : n + m ≤ 2000000)
    (hyv : a.eval y = v) (hx : a.eval x = .slice (some ad) m c) :
    ∃ v' u' M', (execOp a.eval ⟨dst, .call { callee := .builtin .append, args := #[y, x], argTypes := #[st, st] }, st, pos, after, gd⟩).run Tryd.prog u = .ok (.value v') u' ∧ EnvX w0 u' M' ∧ GrownR w0 e z (n + m) (xs ++ ys) M0 v' M' := by
  have hown : u.ownsRow w0.heap.size e z v n xs := hF.own hl (fun y hy => ⟨(hN y hy).2, hu.box _ _ (hN y hy).1⟩)
  obtain ⟨v', u', hrun, hown', hgr, hob⟩ := appendR T (c := c) hown hy hc h1 hs hu.bel.size
  obtain ⟨N', hF', hN'⟩ := fresh_of_own hown'
  refine ⟨v', u', N' ++ M0, ?_, ?_, N', rfl, hF', ?_⟩
  · unfold execOp
    simp only [resolve, invoke, builtin, Sem.run_bind, Sem.run_pure, Result.andThen_ok, List.map_toArray, List.map_cons, List.map_nil, hyv, hx, hrun]
  · have hbel : Below w0.heap.size u u' := below_of_grown hgr (fun r hr => (hown.lt r hr).1) hu.bel.size
    refine ⟨hu.bel.trans hbel, fun g' o hm => ?_⟩
    rcases List.mem_append.1 hm with e | e
    · exact (hN' _ e).2.1
    · have hin := hM0 _ e
      rw [hgr.block g' (hu.lt hin.1) (fun e2 => by
        obtain ⟨o2, ho2⟩ := hF.block g' e2.symm
        exact hin.2 _ ho2 rfl)]
      exact hu.box _ _ hin.1
  · intro y hy
    refine ⟨(hN' y hy).1, fun z hz e => ?_⟩
    have hb := (hN' y hy).2.2
    have hin := hM0 z hz
    rcases hob with h | h
    · obtain ⟨o2, ho2⟩ := hF.block y.1 (h.symm.trans hb)
      exact hin.2 _ ho2 e
    · have h1 := hu.lt (g := z.1) (o := z.2) hin.1
      have h2 : u.heap.size = y.1 := Option.some.inj (h.symm.trans hb)
      omega
end
theorem run_callV {P : Program} {a : Act} {x : Operand} {f : FuncId} {caps args all : Array Value} {xs : Array Operand} {ats : Array TypeId} {fn : Func} {c : Code} {dst : Option Tmp} {ty : TypeId} {pos : String} {after : Array Edge} {gd : Option (Nat × Bool)} (hx : a.eval x = .func (.func f) #[] caps) (hargs : xs.toList.map a.eval = args.toList)
    (hall : args.toList ++ caps.toList = all.toList) (hfn : P.funcs[f]? = some fn) (hname : (fn.name == "runtime.NumGoroutine") = false) (hb : fn.body = some c) (u : World) :
    (execOp a.eval ⟨dst, .call { callee := .value x, args := xs, argTypes := ats }, ty, pos, after, gd⟩).run P u = .ok (.enter f all) u := by
  have ha : xs.map a.eval = args := by
    apply Array.ext'
    rw [Array.toList_map]
    exact hargs
  have h2 : args ++ caps = all := by
    apply Array.ext'
    rw [Array.toList_append]
    exact hall
  unfold execOp
  simp only [resolve, hx, ha, Deferred.ofValue, invoke, Sem.run_bind, Sem.run_pure, Result.andThen_ok, Array.empty_append, h2]
  exact run_enter hfn hname hb _ u
section
variable {P : Program} {Γ : HP} {l : List Oper} {C : World → Prop} {Q : Act → Prop} {a : Act} {i : Nat} {rest : List Nat} {dst : Option Tmp} {ty : TypeId} {pos : String} {after : Array Edge} {gd : Option (Nat × Bool)}
theorem wpG_callV {f : FuncId} {x : Operand} {xs : Array Operand} {ats : Array TypeId} {fn : Func} {c : Code} {v : Value} {args caps all : Array Value} (ho : l[i]? = some ⟨dst, .call { callee := .value x, args := xs, argTypes := ats }, ty, pos, after, gd⟩)
    (hw : Region.wanted ⟨dst, .call { callee := .value x, args := xs, argTypes := ats }, ty, pos, after, gd⟩ (yielded l.toArray a.tmps) = true)
    (hx : a.eval x = .func (.func f) #[] caps) (hargs : xs.toList.map a.eval = args.toList) (hall : args.toList ++ caps.toList = all.toList) (hfn : P.funcs[f]? = some fn) (hname : (fn.name == "runtime.NumGoroutine") = false) (hb : fn.body = some c)
    (hcall : ∀ u, C u → Calls P f all u (fun e w'' => e = .returned v ∧ Below u.heap.size u w''))
    (h : ∀ K : Act → Prop, (∀ a, wpG P l C Q rest a → K a) → Oper.quiet P ⟨dst, .move (.const v), ty, pos, after, gd⟩ a C K) {u0 : World} (h0 : C u0) : wpG P l C Q (i :: rest) a := by
  refine ⟨?_⟩
  unfold wpG0
  simp only [ho]
  rw [if_pos hw]
  obtain ⟨v', hv, hK⟩ := h (wpG0 P l C Q rest) (fun _ h => h.out)
  have e : v' = v := by
    have h1 := hv u0 h0
    unfold Oper.quietAt execOp at h1
    exact h1.2.symm
  rw [e] at hK
  refine ⟨v, fun u hu => ?_, hK⟩
  unfold GAt
  rw [run_callV hx hargs hall hfn hname hb u]
  exact ⟨rfl, hcall u hu⟩
end
section
variable {a : Act} {dst : Option Tmp} {x y : Operand} {ty : TypeId} {pos : String} {after : Array Edge} {gd : Option (Nat × Bool)}
theorem sizeOf_info {e : TypeId} {z : Nat} (h : (Tryd.prog.info? e).map (·.size) = some z) (u : World) : (sizeOf e).run Tryd.prog u = .ok z u := by
  cases hq : Tryd.prog.info? e with
  | none => rw [hq] at h; cases h
  | some k =>
    rw [hq] at h
    simp only [Option.map_some, Option.some.injEq] at h
    simp [sizeOf, typeInfo, hq, h]
theorem idxSl_op {t e : TypeId} {z : Nat} (hu : Tryd.prog.underlying t = some (.slice e)) (hz : (Tryd.prog.info? e).map (·.size) = some z) {ad : Addr} {n c i : Nat} (hi : i < n) (u : World)
    (hx : a.eval x = .slice (some ad) n c) (hy : a.eval y = .int .i64 (i : Int)) :
    (execOp a.eval ⟨dst, .indexAddr t x y, ty, pos, after, gd⟩).run Tryd.prog u = .ok (.value (.pointer (some (ad.add (i * z))))) u := by
  have he : Tryd.prog.elem t = e := by simp [Program.elem, hu]
  have hr := run_indexAt_slice (P := Tryd.prog) u t ad n c .i64 (i : Int) (by rw [he]; exact hu)
  rw [he, if_pos ⟨by omega, by omega⟩, sizeOf_info hz u, Result.andThen_ok, Int.toNat_natCast] at hr
  unfold execOp
  simp only [hx, hy, Sem.run_bind, Sem.run_pure, hr, Result.andThen_ok]
theorem len_op {t e : TypeId} (hu : Tryd.prog.underlying t = some (.slice e)) {A : Option Addr} {n c : Nat} (hn : n < 9223372036854775808) (u : World) (hx : a.eval x = .slice A n c) :
    (execOp a.eval ⟨dst, .call { callee := .builtin .len, args := #[x], argTypes := #[t] }, ty, pos, after, gd⟩).run Tryd.prog u = .ok (.value (.int .i64 (n : Int))) u := by
  have he : Tryd.prog.elem t = e := by simp [Program.elem, hu]
  have hr := run_len_slice (P := Tryd.prog) u t ty A n c (by rw [he]; exact hu)
  have hg : goInt n = .int .i64 (n : Int) := rfl
  unfold execOp
  simp only [resolve, invoke, builtin, Sem.run_bind, Sem.run_pure, Result.andThen_ok, List.map_toArray, List.map_cons, List.map_nil, hx, hr, hg]
theorem new_of {t : TypeId} {z : Value} {n : Nat} (h : (Tryd.prog.info? t).map (fun i => (i.zero, i.size)) = some (some z, n)) (a : Act) : NewAt Tryd.prog ⟨dst, .alloc t, ty, pos, after, gd⟩ a (.cells z.cells t (0, 0)) := fun u => by
  have hz := (zero_of_info h).1
  unfold execOp
  simp [Instr.alloc, hz, newVar, newRow]
end
theorem u8_one {xs : List Int} : ∀ u ∈ xs.map u8v, u.oneCell' = true := fun u hu => by
  obtain ⟨z, _, rfl⟩ := List.mem_map.1 hu
  rfl
section
variable {a : Act} {dst : Option Tmp} {x y z : Operand} {ty : TypeId} {pos : String} {after : Array Edge} {gd : Option (Nat × Bool)}
theorem conv_u64_op {n : Int} {m : Nat} (u : World) (h : IntKind.u64.wrap n = (m : Int)) (hx : a.eval x = .int .i64 n) :
    (execOp a.eval ⟨dst, .convert 3 75 x, ty, pos, after, gd⟩).run Tryd.prog u = .ok (.value (.int .u64 (m : Int))) u := by
  rw [← h]
  unfold execOp
  simp only [hx]
  go_simp
/-- one new byte -/
theorem FAt_byte1 (k : Int) (u : World) : FAt Tryd.prog ⟨dst, .buildSlice 63 1 #[(0, .const (.int .u8 k))], ty, pos, after, gd⟩ a (fun v N => ∃ g, v = .slice (some ⟨g, 0, none⟩) 1 1 ∧ N = [(g, Obj.cells #[.int .u8 k] 5 (0, 0))]) u := by
  have h : (execOp a.eval ⟨dst, .buildSlice 63 1 #[(0, .const (.int .u8 k))], ty, pos, after, gd⟩).run Tryd.prog u = .ok (.value (.slice (some ⟨u.heap.size, 0, none⟩) 1 1)) (u.alloc (.cells #[.int .u8 k] 5)) := by
    unfold execOp
    go_simp
  unfold FAt
  rw [h]
  refine ⟨(Below.refl _ _).alloc (Nat.le_refl _) _, _, ⟨_, rfl, rfl⟩, fun y hy => ?_⟩
  cases List.mem_singleton.1 hy
  exact ⟨Nat.le_refl _, heap_alloc_new u _⟩
end
theorem arrId_map {h : List Int} (hh : h.length = 32) : (arrB 32 h).toList = h.map u8v := by
  unfold arrB
  rw [hh]
  simp
/-- bytes in a box -/
theorem boxR_bytes {w0 u : World} {M : Boxes} {g cap n : Nat} {cur : Array Value} {xs : List Int} (hu : EnvC w0 M u) (hm : (g, Obj.cells cur 5 (0, 0)) ∈ M) (hl : xs.length = n) (h : n ≤ cap ∧ cap ≤ maxLen ∧ cur.size = cap * 1 ∧ cur.toList.take (n * 1) = xs.map u8v) : Bytes u u.heap.size (some ⟨g, 0, none⟩) xs := by
  subst hl
  exact box_bytes hu hm h
theorem isRows.flat_take {z : Nat} {L : List (List Value)} (h : isRows z L) (k : Nat) : (L.take k).flatten = L.flatten.take (k * z) := by
  induction L generalizing k with
  | nil => simp
  | cons x L ih =>
    have hx := h x (List.mem_cons_self ..)
    cases k with
    | zero => simp
    | succ k =>
      have hk : (k + 1) * z - z = k * z := by rw [Nat.succ_mul]; omega
      rw [List.take_succ_cons, List.flatten_cons, List.flatten_cons, ih (fun y hy => h y (List.mem_cons_of_mem _ hy)), List.take_append, List.take_of_length_le (by rw [hx, Nat.succ_mul]; omega : x.length ≤ (k + 1) * z), hx, hk]
theorem isRows.flat_drop {z : Nat} {L : List (List Value)} (h : isRows z L) (k : Nat) : (L.drop k).flatten = L.flatten.drop (k * z) := by
  induction L generalizing k with
  | nil => simp
  | cons x L ih =>
    have hx := h x (List.mem_cons_self ..)
    cases k with
    | zero => simp
    | succ k =>
      have hk : (k + 1) * z - z = k * z := by rw [Nat.succ_mul]; omega
      rw [List.drop_succ_cons, List.flatten_cons, ih (fun y hy => h y (List.mem_cons_of_mem _ hy)), List.drop_append, List.drop_of_length_le (by rw [hx, Nat.succ_mul]; omega : x.length ≤ (k + 1) * z), hx, hk, List.nil_append]
theorem CellsIn.take {w : World} {B : Nat} {A : Option Addr} {xs : List Value} (h : CellsIn w B A xs) (k : Nat) : CellsIn w B A (xs.take k) := by
  intro hp
  rw [List.length_take] at hp
  obtain ⟨ad, e, hb, hc⟩ := h (by omega)
  refine ⟨ad, e, hb, fun j v hv => hc j v ?_⟩
  have hj : j < k := by
    rcases Nat.lt_or_ge j k with h' | h'
    · exact h'
    · rw [List.getElem?_eq_none (by rw [List.length_take]; omega)] at hv
      cases hv
  rwa [List.getElem?_take_of_lt hj] at hv
/-- where a cut slice begins -/
def cutX (z : Nat) (A : Option Addr) (l c : Nat) : Option Addr := if c = l then A else A.map (·.add (l * z))
theorem CellsIn.drop {w : World} {B : Nat} {A : Option Addr} {xs : List Value} (h : CellsIn w B A xs) (z k c : Nat) (hc : k < c ∨ xs.length ≤ k * z) : CellsIn w B (cutX z A k c) (xs.drop (k * z)) := by
  intro hp
  rw [List.length_drop] at hp
  obtain ⟨ad, rfl, hlt, hcell⟩ := h (by omega)
  have hne : ¬ c = k := by rcases hc with h | h <;> omega
  refine ⟨ad.add (k * z), by simp [cutX, hne], by rw [block_of_add]; exact hlt, fun j v hv => ?_⟩
  rw [add_addN]
  refine hcell (k * z + j) v ?_
  rwa [List.getElem?_drop] at hv
section
variable {st e : TypeId} {z bytes : Nat} {zero : Value}
theorem ElemT.elem (T : ElemT st e z bytes zero) : Tryd.prog.elem st = e := by simp [Program.elem, T.und]
theorem ElemT.sizeOf (T : ElemT st e z bytes zero) (w : World) : (Go.sizeOf e).run Tryd.prog w = .ok z w := by
  have h := T.info
  cases hq : Tryd.prog.info? e with
  | none => rw [hq] at h; cases h
  | some i =>
    rw [hq] at h
    simp only [Option.map_some, Option.some.injEq, Prod.mk.injEq] at h
    simp [Go.sizeOf, typeInfo, hq, h.2.1]
theorem run_cutX_h (T : ElemT st e z bytes zero) (A : Option Addr) (n c h : Nat) (w : World) (h2 : h ≤ c) :
    (Instr.sliceAt st (.slice A n c) none (some (.int .i64 (h : Int))) none).run Tryd.prog w = .ok (.slice A h c) w := by
  have ht' : Tryd.prog.underlying st = some (.slice (Tryd.prog.elem st)) := by rw [T.elem]; exact T.und
  rw [run_sliceAt_slice w _ _ _ _ _ ht', run_slice_h w st _ _ _ ht' .i64 _ (by omega) (by omega), T.elem, T.sizeOf]
  have e : (fun a : Addr => a.add (0 * z)) = id := by
    funext a
    simp [Addr.add]
  simp only [Result.andThen, sliced, e, Option.map_id, Int.toNat_natCast, Nat.sub_zero, ite_self, id]
theorem run_cutX_l (T : ElemT st e z bytes zero) (A : Option Addr) (n c l : Nat) (w : World) (h1 : l ≤ n) :
    (Instr.sliceAt st (.slice A n c) (some (.int .i64 (l : Int))) none none).run Tryd.prog w = .ok (.slice (cutX z A l c) (n - l) (c - l)) w := by
  have ht' : Tryd.prog.underlying st = some (.slice (Tryd.prog.elem st)) := by rw [T.elem]; exact T.und
  rw [run_sliceAt_slice w _ _ _ _ _ ht', run_slice_l w st _ _ _ ht' .i64 _ (by omega) (by omega), T.elem, T.sizeOf]
  simp [Result.andThen, sliced, cutX]
theorem run_cutX_lh (T : ElemT st e z bytes zero) (A : Option Addr) (n c l h : Nat) (w : World) (h1 : l ≤ h) (h2 : h ≤ c) :
    (Instr.sliceAt st (.slice A n c) (some (.int .i64 (l : Int))) (some (.int .i64 (h : Int))) none).run Tryd.prog w = .ok (.slice (cutX z A l c) (h - l) (c - l)) w := by
  have ht' : Tryd.prog.underlying st = some (.slice (Tryd.prog.elem st)) := by rw [T.elem]; exact T.und
  rw [run_sliceAt_slice w _ _ _ _ _ ht', run_slice_lh w st _ _ _ ht' .i64 .i64 _ _ (by omega) (by omega) (by omega), T.elem, T.sizeOf]
  simp [Result.andThen, sliced, cutX]
variable {a : Act} {dst : Option Tmp} {x l h : Operand} {ty : TypeId} {pos : String} {after : Array Edge} {gd : Option (Nat × Bool)}
theorem cutXh_op (T : ElemT st e z bytes zero) {A : Option Addr} {n c j : Nat} (u : World) (h2 : j ≤ c) (hx : a.eval x = .slice A n c) (hh : a.eval h = .int .i64 (j : Int)) :
    (execOp a.eval ⟨dst, .slice st x none (some h) none, ty, pos, after, gd⟩).run Tryd.prog u = .ok (.value (.slice A j c)) u := by
  unfold execOp
  simp only [hx, hh, Option.map_some, Option.map_none, Sem.run_bind, Sem.run_pure, Result.andThen_ok, run_cutX_h T A n c j u h2]
theorem cutXl_op (T : ElemT st e z bytes zero) {A : Option Addr} {n c j : Nat} (u : World) (h2 : j ≤ n) (hx : a.eval x = .slice A n c) (hh : a.eval l = .int .i64 (j : Int)) :
    (execOp a.eval ⟨dst, .slice st x (some l) none none, ty, pos, after, gd⟩).run Tryd.prog u = .ok (.value (.slice (cutX z A j c) (n - j) (c - j))) u := by
  unfold execOp
  simp only [hx, hh, Option.map_some, Option.map_none, Sem.run_bind, Sem.run_pure, Result.andThen_ok, run_cutX_l T A n c j u h2]
theorem cutXlh_op (T : ElemT st e z bytes zero) {A : Option Addr} {n c i j len : Nat} (u : World) (h1 : i ≤ j) (h2 : j ≤ c) (hlen : j - i = len) (hx : a.eval x = .slice A n c) (hl : a.eval l = .int .i64 (i : Int)) (hh : a.eval h = .int .i64 (j : Int)) :
    (execOp a.eval ⟨dst, .slice st x (some l) (some h) none, ty, pos, after, gd⟩).run Tryd.prog u = .ok (.value (.slice (cutX z A i c) len (c - i))) u := by
  subst hlen
  unfold execOp
  simp only [hx, hl, hh, Option.map_some, Option.map_none, Sem.run_bind, Sem.run_pure, Result.andThen_ok, run_cutX_lh T A n c i j u h1 h2]
end
section
variable {st e : TypeId} {z bytes : Nat} {zero : Value}
theorem FreshR.formC {e : TypeId} {z n : Nat} {xs : List Value} {x : Value} {N : Boxes} (h : FreshR e z n xs x N) : ∃ A c, x = .slice A n c ∧ n ≤ c ∧ c ≤ maxLen := by
  rcases h with ⟨g, cap, cur, rfl, _, h1, h2, _⟩ | ⟨h1, _, h3, h4⟩
  · exact ⟨_, _, rfl, h1, h2⟩
  · first | (subst h3; exact ⟨none, 0, h1, Nat.le_refl _, Nat.zero_le _⟩) | (subst h4; exact ⟨none, 0, h1, Nat.le_refl _, Nat.zero_le _⟩)
end
/-- a small number is not wrapped round -/
theorem wrapS {x : Int} (h : -9223372036854775808 ≤ x ∧ x ≤ 9223372036854775807) : IntKind.i64.wrap x = x := by rw [IntKind.wrap_i64]; omega
section
variable {a : Act} {dst : Option Tmp} {x y : Operand} {ty : TypeId} {pos : String} {after : Array Edge} {gd : Option (Nat × Bool)}
theorem ltZ_op {m k : Int} {b : Bool} (u : World) (hb : decide (m < k) = b) (hx : a.eval x = .int .i64 m) (hy : a.eval y = .int .i64 k) :
    (execOp a.eval ⟨dst, .binOp .lss 3 x y 3, ty, pos, after, gd⟩).run Tryd.prog u = .ok (.value (.bool b)) u := by
  subst hb
  unfold execOp
  simp only [hx, hy]
  go_simp
theorem gtZ_op {m k : Int} {b : Bool} (u : World) (hb : decide (k < m) = b) (hx : a.eval x = .int .i64 m) (hy : a.eval y = .int .i64 k) :
    (execOp a.eval ⟨dst, .binOp .gtr 3 x y 3, ty, pos, after, gd⟩).run Tryd.prog u = .ok (.value (.bool b)) u := by
  subst hb
  unfold execOp
  simp only [hx, hy]
  go_simp
theorem leZ_op {m k : Int} {b : Bool} (u : World) (hb : decide (m ≤ k) = b) (hx : a.eval x = .int .i64 m) (hy : a.eval y = .int .i64 k) :
    (execOp a.eval ⟨dst, .binOp .leq 3 x y 3, ty, pos, after, gd⟩).run Tryd.prog u = .ok (.value (.bool b)) u := by
  subst hb
  unfold execOp
  simp only [hx, hy]
  go_simp
theorem neZ_op {m k : Int} {b : Bool} (u : World) (hb : decide (m ≠ k) = b) (hx : a.eval x = .int .i64 m) (hy : a.eval y = .int .i64 k) :
    (execOp a.eval ⟨dst, .binOp .neq 3 x y 3, ty, pos, after, gd⟩).run Tryd.prog u = .ok (.value (.bool b)) u := by
  have e : (m != k) = b := by rw [← hb]; by_cases h : m = k <;> simp [h]
  subst e
  unfold execOp
  simp only [hx, hy]
  go_simp
theorem geZ_op {m k : Int} {b : Bool} (u : World) (hb : decide (k ≤ m) = b) (hx : a.eval x = .int .i64 m) (hy : a.eval y = .int .i64 k) :
    (execOp a.eval ⟨dst, .binOp .geq 3 x y 3, ty, pos, after, gd⟩).run Tryd.prog u = .ok (.value (.bool b)) u := by
  subst hb
  unfold execOp
  simp only [hx, hy]
  go_simp
theorem addZ_op {m k r : Int} (u : World) (hr : IntKind.i64.wrap (m + k) = r) (hx : a.eval x = .int .i64 m) (hy : a.eval y = .int .i64 k) :
    (execOp a.eval ⟨dst, .binOp .add 3 x y 3, ty, pos, after, gd⟩).run Tryd.prog u = .ok (.value (.int .i64 r)) u := by
  subst hr
  unfold execOp
  simp only [hx, hy]
  go_simp
theorem subZ_op {m k r : Int} (u : World) (hr : IntKind.i64.wrap (m - k) = r) (hx : a.eval x = .int .i64 m) (hy : a.eval y = .int .i64 k) :
    (execOp a.eval ⟨dst, .binOp .sub 3 x y 3, ty, pos, after, gd⟩).run Tryd.prog u = .ok (.value (.int .i64 r)) u := by
  subst hr
  unfold execOp
  simp only [hx, hy]
  go_simp
end
end Go.Proofs.YtabhhbdbkeeblaaDoor
