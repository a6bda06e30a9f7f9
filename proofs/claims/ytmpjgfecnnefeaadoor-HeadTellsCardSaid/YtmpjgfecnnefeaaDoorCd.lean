/- Part of a proof. -/
import Derived.Test.YtmpjgfecnnefeaaDoorCc
import Derived.WalkKit
import Derived.Laws.Bits64b
import Derived.Test.YtmpjgfecnnefeaaDoorProg
import Derived.ProofKit
import Derived.Handy
import Derived.Laws.Externs
import Derived.Laws.BitsAllLaws
import Derived.Deep.WholeRow
import Derived.Deep.Cut
import Derived.Deep.QuietTactic
import Derived.BigQuiet
import Derived.StillTailTactics
import Derived.Lib.Hide
import Derived.Deep.RegionHeld3
import Derived.Deep.DrawnRows
import Derived.RegionTactic
namespace Go.Proofs.YtmpjgfecnnefeaaDoor
set_option maxRecDepth 8000
open Go.RowKit

section
variable {a : Act} {dst : Option Tmp} {x : Operand} {ty : TypeId} {pos : String} {after : Array Edge} {gd : Option (Nat × Bool)}
theorem new_id (a : Act) : NewAt Tryd.prog ⟨dst, .alloc 23, ty, pos, after, gd⟩ a (.cells (arrB 32 []) 23 (0, 0)) := fun u => by
  rw [← zero_cells]
  go_simp
theorem eql_id_op {y : Operand} {xs ys : List Int} (hxl : xs.length = 32) (hyl : ys.length = 32) (u : World) (hx : a.eval x = idv xs) (hy : a.eval y = idv ys) :
    (execOp a.eval ⟨dst, .binOp .eql 23 x y 23, ty, pos, after, gd⟩).run Tryd.prog u = .ok (.value (.bool (eqL xs ys))) u := by
  unfold idv at hx hy
  have h : (Op.equalIn 10000 23 (.agg (arrB 32 xs)) (.agg (arrB 32 ys))).run Tryd.prog u = .ok (eqL xs ys) u := run_equal_id xs ys hxl hyl u
  unfold execOp
  simp only [hx, hy]
  go_simp
theorem neq_id_op {y : Operand} {xs ys : List Int} (hxl : xs.length = 32) (hyl : ys.length = 32) (u : World) (hx : a.eval x = idv xs) (hy : a.eval y = idv ys) :
    (execOp a.eval ⟨dst, .binOp .neq 23 x y 23, ty, pos, after, gd⟩).run Tryd.prog u = .ok (.value (.bool (!eqL xs ys))) u := by
  unfold idv at hx hy
  have h : (Op.equalIn 10000 23 (.agg (arrB 32 xs)) (.agg (arrB 32 ys))).run Tryd.prog u = .ok (eqL xs ys) u := run_equal_id xs ys hxl hyl u
  unfold execOp
  simp only [hx, hy]
  go_simp
theorem eqlb_op {y : Operand} {xs ys : List Int} {b : Bool} (hxl : xs.length = 32) (hyl : ys.length = 32) (hb : eqL xs ys = b) (u : World) (hx : a.eval x = idv xs) (hy : a.eval y = idv ys) :
    (execOp a.eval ⟨dst, .binOp .eql 23 x y 23, ty, pos, after, gd⟩).run Tryd.prog u = .ok (.value (.bool b)) u := by
  rw [← hb]
  exact eql_id_op hxl hyl u hx hy
theorem neqb_op {y : Operand} {xs ys : List Int} {b : Bool} (hxl : xs.length = 32) (hyl : ys.length = 32) (hb : (!eqL xs ys) = b) (u : World) (hx : a.eval x = idv xs) (hy : a.eval y = idv ys) :
    (execOp a.eval ⟨dst, .binOp .neq 23 x y 23, ty, pos, after, gd⟩).run Tryd.prog u = .ok (.value (.bool b)) u := by
  rw [← hb]
  exact neq_id_op hxl hyl u hx hy
end
end Go.Proofs.YtmpjgfecnnefeaaDoor

namespace Go.Proofs.YtmpjgfecnnefeaaDoor
set_option maxRecDepth 8000
open Go.RowKit

theorem OwnF.get {w : World} {B n c : Nat} {A : Option Addr} {s : List Bool} (h : OwnF w B (.slice A n c) s) : s.length = n ∧ ∀ k, k < n → ∃ g, A = some ⟨g, 0, none⟩ ∧ g < w.heap.size ∧ w.cell? ⟨g, k, none⟩ = some (.bool (s.getD k true)) := by
  rcases h.2 with ⟨e, e2⟩ | ⟨g, cap, cur, e, _, hg, _⟩
  · injection e with e1 e3 e4
    exact ⟨by omega, fun k hk => by omega⟩
  · injection e with e1 e3 e4
    refine ⟨e3.symm, fun k hk => ⟨g, e1, Row.lt (t := 4) hg, ?_⟩⟩
    have hk' : k < s.length := by omega
    have := h.cells (g := g) (by rw [e1]; rfl) k (.bool (s.getD k true)) (by simp [List.getD, List.getElem?_eq_getElem hk'])
    rwa [Addr.add_mid, Nat.zero_add] at this
theorem OwnF.form {w : World} {B : Nat} {v : Value} {l : List Bool} (h : OwnF w B v l) : ∃ A c, v = .slice A l.length c ∧ l.length ≤ c ∧ c ≤ maxLen := by
  rcases h.2 with ⟨rfl, e⟩ | ⟨g, cap, cur, rfl, _, _, h1, h2, _⟩
  · exact ⟨none, 0, by rw [e], by omega, Nat.zero_le _⟩
  · exact ⟨_, cap, rfl, h1, h2⟩
theorem OwnF.below {w w' : World} {B : Nat} {v : Value} {l : List Bool} (h : OwnF w B v l) (hb : Below w.heap.size w w') : OwnF w' B v l := by
  refine ⟨h.1, ?_⟩
  rcases h.2 with h0 | ⟨g, cap, cur, e, hg, hh, h1⟩
  · exact .inl h0
  · exact .inr ⟨g, cap, cur, e, hg, (hb.block g (Row.lt (t := 4) hh)).trans hh, h1⟩
end Go.Proofs.YtmpjgfecnnefeaaDoor

namespace Go.Proofs.YtmpjgfecnnefeaaDoor
set_option maxRecDepth 8000
open Go.RowKit

theorem elemB : Tryd.prog.elem 30 = 5 := by simp [Program.elem, Tryd.underlying30]
theorem sizeB (w : World) : (Go.sizeOf 5).run Tryd.prog w = .ok 1 w := by
  have h := infoB
  cases hq : Tryd.prog.info? 5 with
  | none => rw [hq] at h; cases h
  | some i =>
    rw [hq] at h
    simp only [Option.map_some, Option.some.injEq, Prod.mk.injEq] at h
    simp [Go.sizeOf, typeInfo, hq, h.2.1]
/-- where a cut slice begins -/
def cutA (A : Option Addr) (l m : Nat) : Option Addr := if m = l then A else A.map (·.add (l * 1))
theorem add_add (a : Addr) (l j : Nat) : (a.add (l * 1)).add j = a.add (l + j) := by
  unfold Addr.add
  by_cases h : l = 0
  · simp [h]
  · by_cases h2 : j = 0
    · simp [h, h2]
    · simp [h, h2, Nat.add_assoc]
theorem Bytes.cut {w : World} {B : Nat} {A : Option Addr} {xs : List Int} (h : Bytes w B A xs) (l k m : Nat) (hm : l + k ≤ m) : Bytes w B (cutA A l m) ((xs.drop l).take k) := by
  intro hp
  rw [List.length_take, List.length_drop] at hp
  obtain ⟨ad, rfl, hlt, hc⟩ := h (by omega)
  have hne : ¬ m = l := by omega
  refine ⟨ad.add (l * 1), by simp [cutA, hne], by rw [block_of_add]; exact hlt, fun j v hv => ?_⟩
  rw [add_add]
  refine hc (l + j) v ?_
  rw [List.map_take, List.getElem?_take] at hv
  split at hv
  · rw [List.map_drop, List.getElem?_drop] at hv
    exact hv
  · cases hv
theorem run_cut2 (A : Option Addr) (n c l h : Nat) (w : World) (h1 : l ≤ h) (h2 : h ≤ c) :
    (Instr.sliceAt 30 (.slice A n c) (some (.int .i64 (l : Int))) (some (.int .i64 (h : Int))) none).run Tryd.prog w = .ok (.slice (cutA A l c) (h - l) (c - l)) w := by
  have ht' : Tryd.prog.underlying 30 = some (.slice (Tryd.prog.elem 30)) := by rw [elemB]; exact Tryd.underlying30
  rw [run_sliceAt_slice w _ _ _ _ _ ht', run_slice_lh w 30 _ _ _ ht' .i64 .i64 _ _ (by omega) (by omega) (by omega), elemB, sizeB]
  simp [Result.andThen, sliced, cutA]
theorem wpList_cut2 {P : Program} {ops : Array Oper} {rest : List Oper} {o : Oper} {a : Act} {w : World} {Q : Exit → Act → World → Prop} {v lv hv v' : Value} {t : TypeId} (hgd : o.guard = none) (x l h : Operand)
    (ho : o.op = .slice t x (some l) (some h) none) (hx : a.eval x = v) (hl : a.eval l = lv) (hh : a.eval h = hv)
    (hrun : (Instr.sliceAt t v (some lv) (some hv) none).run P w = .ok v' w) (hk : wpList P ops Q rest (a.put o.dst v') w) : wpList P ops Q (o :: rest) a w :=
  wpList_plain hgd fun _ hK => by
    unfold Oper.wp execOp
    simp only [ho, hx, hl, hh, Option.map_some, Option.map_none, Sem.run_bind, Sem.run_pure, Result.andThen_ok, hrun]
    exact hK _ _ hk
end Go.Proofs.YtmpjgfecnnefeaaDoor

namespace Go.Proofs.YtmpjgfecnnefeaaDoor
set_option maxRecDepth 8000
open Go.RowKit

section
variable {a : Act} {dst : Option Tmp} {x l h : Operand} {ty : TypeId} {pos : String} {after : Array Edge} {gd : Option (Nat × Bool)}
theorem conv_op {A : Option Addr} {n c B : Nat} {xs : List Int} {s : ByteArray} (u : World) (hl : xs.length = n) (h : Bytes u B A xs) (hs : strOfNums xs = s) (hx : a.eval x = .slice A n c) :
    (execOp a.eval ⟨dst, .convert 30 9 x, ty, pos, after, gd⟩).run Tryd.prog u = .ok (.value (.string s)) u := by
  subst hs
  unfold execOp
  simp only [hx, Sem.run_bind, Sem.run_pure, Result.andThen_ok, conv_bytes A n c B xs u hl h]
theorem nes_op {s s' : ByteArray} {b : Bool} (u : World) (hb : (!(s.toList == s'.toList)) = b) (hx : a.eval x = .string s) (hy : a.eval l = .string s') :
    (execOp a.eval ⟨dst, .binOp .neq 9 x l 9, ty, pos, after, gd⟩).run Tryd.prog u = .ok (.value (.bool b)) u := by
  subst hb
  unfold execOp
  simp only [hx, hy]
  go_simp
end
/-- the bytes of a box -/
theorem box_bytes {w0 u : World} {M : Boxes} {g cap : Nat} {cur : Array Value} {xs : List Int} (hu : EnvC w0 M u) (hm : (g, Obj.cells cur 5 (0, 0)) ∈ M) (h : xs.length ≤ cap ∧ cap ≤ maxLen ∧ cur.size = cap * 1 ∧ cur.toList.take (xs.length * 1) = xs.map u8v) : Bytes u u.heap.size (some ⟨g, 0, none⟩) xs := by
  have : OwnB u 0 (.slice (some ⟨g, 0, none⟩) xs.length cap) xs := ⟨by simp, .inr ⟨g, cap, cur, rfl, Nat.zero_le _, EnvX.box hu g _ hm, h.1, h.2.1, h.2.2.1, h.2.2.2⟩⟩
  exact this.bytes.2
end Go.Proofs.YtmpjgfecnnefeaaDoor

namespace Go.Proofs.YtmpjgfecnnefeaaDoor
set_option maxRecDepth 8000
open Go.RowKit

def isId (x : List Int) : Prop := x.length = 32 ∧ ∀ b ∈ x, 0 ≤ b ∧ b ≤ 255
def I64 (i : Int) : Prop := -9223372036854775808 ≤ i ∧ i ≤ 9223372036854775807
def z32 : List Int := List.replicate 32 0
end Go.Proofs.YtmpjgfecnnefeaaDoor

namespace Go.Proofs.YtmpjgfecnnefeaaDoor
set_option maxRecDepth 8000

/-- a byte's number -/
def isB (l : List Int) : Prop := ∀ x ∈ l, 0 ≤ x ∧ x ≤ 255
theorem isB_nil : isB [] := fun _ h => by cases h
theorem isB_append {a b : List Int} : isB (a ++ b) ↔ isB a ∧ isB b := by
  unfold isB
  constructor
  · intro h
    exact ⟨fun x hx => h x (List.mem_append_left _ hx), fun x hx => h x (List.mem_append_right _ hx)⟩
  · rintro ⟨h1, h2⟩ x hx
    rcases List.mem_append.1 hx with h | h
    · exact h1 x h
    · exact h2 x h
theorem isB_take {a : List Int} (h : isB a) (k : Nat) : isB (a.take k) := fun x hx => h x (List.mem_of_mem_take hx)
theorem isB_drop {a : List Int} (h : isB a) (k : Nat) : isB (a.drop k) := fun x hx => h x (List.mem_of_mem_drop hx)
/-- the lowest k bytes of a number, the highest first -/
def putL (n : Nat) : Nat → List Int
  | 0 => []
  | k + 1 => putL (n / 256) k ++ [((n % 256 : Nat) : Int)]
/-- the number of bytes -/
def getL (l : List Int) : Nat := l.foldl (fun a x => 256 * a + x.toNat) 0
theorem putL_len (n k : Nat) : (putL n k).length = k := by
  induction k generalizing n with
  | zero => rfl
  | succ k ih => unfold putL; rw [List.length_append, ih]; rfl
theorem putL_byte (n k : Nat) : isB (putL n k) := by
  induction k generalizing n with
  | zero => exact isB_nil
  | succ k ih =>
    unfold putL
    refine isB_append.2 ⟨ih _, fun x hx => ?_⟩
    cases List.mem_singleton.1 hx
    omega
theorem getL_snoc (l : List Int) (x : Int) : getL (l ++ [x]) = 256 * getL l + x.toNat := by
  unfold getL
  rw [List.foldl_append]
  rfl
theorem getL_putL (n k : Nat) : getL (putL n k) = n % 256 ^ k := by
  induction k generalizing n with
  | zero => simp [putL, getL, Nat.mod_one]
  | succ k ih =>
    unfold putL
    rw [getL_snoc, ih, Int.toNat_natCast, Nat.pow_succ, Nat.mul_comm (256 ^ k) 256, Nat.mod_mul]
    omega
theorem snoc_ind {Q : List Int → Prop} (h0 : Q []) (h1 : ∀ l x, Q l → Q (l ++ [x])) (l : List Int) : Q l := by
  have h : ∀ l : List Int, Q l.reverse := fun l => by
    induction l with
    | nil => exact h0
    | cons x l ih => rw [List.reverse_cons]; exact h1 _ _ ih
  have h2 := h l.reverse
  rwa [List.reverse_reverse] at h2
theorem getL_lt (l : List Int) (h : isB l) : getL l < 256 ^ l.length := by
  revert h
  refine snoc_ind (Q := fun l => isB l → getL l < 256 ^ l.length) (fun _ => by decide) (fun l x ih h => ?_) l
  obtain ⟨h1, h2⟩ := isB_append.1 h
  have h3 := ih h1
  have h4 := h2 x (List.mem_singleton.2 rfl)
  rw [getL_snoc, List.length_append, List.length_singleton, Nat.pow_succ]
  omega
theorem putL_getL (l : List Int) (h : isB l) : putL (getL l) l.length = l := by
  revert h
  refine snoc_ind (Q := fun l => isB l → putL (getL l) l.length = l) (fun _ => rfl) (fun l x ih h => ?_) l
  obtain ⟨h1, h2⟩ := isB_append.1 h
  have h4 := h2 x (List.mem_singleton.2 rfl)
  rw [getL_snoc, List.length_append, List.length_singleton]
  show putL ((256 * getL l + x.toNat) / 256) l.length ++ [(((256 * getL l + x.toNat) % 256 : Nat) : Int)] = l ++ [x]
  rw [show (256 * getL l + x.toNat) / 256 = getL l by omega, ih h1, show (((256 * getL l + x.toNat) % 256 : Nat) : Int) = x by omega]
end Go.Proofs.YtmpjgfecnnefeaaDoor

namespace Go.Proofs.YtmpjgfecnnefeaaDoor
set_option maxRecDepth 8000

def cutP (b : List Int) (i n : Nat) : List Int := (b.drop i).take n
theorem cutP_len {b : List Int} {i n : Nat} (h : i + n ≤ b.length) : (cutP b i n).length = n := by
  unfold cutP
  rw [List.length_take, List.length_drop]
  omega
theorem cutP_byte {b : List Int} (h : isB b) (i n : Nat) : isB (cutP b i n) := fun x hx => h x (List.mem_of_mem_drop (List.mem_of_mem_take hx))
end Go.Proofs.YtmpjgfecnnefeaaDoor

namespace Go.Proofs.YtmpjgfecnnefeaaDoor
set_option maxRecDepth 8000
open Go.RowKit

theorem maysize_any (s : Int) (w : World) :
    Calls Tryd.prog 59 #[.int .i64 s] w fun e w' => e = .returned (.bool (decide (0 ≤ s ∧ s ≤ 8))) ∧ w = w' := by
  by_cases h0 : 0 ≤ s
  · by_cases h1 : s ≤ 8
    · go_enter Tryd.func59, Tryd.ntmps59
      go_wp2
      go_ret
      exact ⟨by simp [h0, h1], rfl⟩
    · go_enter Tryd.func59, Tryd.ntmps59
      go_wp2
      go_ret
      exact ⟨by simp [h1], rfl⟩
  · go_enter Tryd.func59, Tryd.ntmps59
    go_wp2
    go_ret
    exact ⟨by simp; omega, rfl⟩
theorem putL_head (n i : Nat) : putL n (i + 1) = ((n / 256 ^ i % 256 : Nat) : Int) :: putL n i := by
  induction i generalizing n with
  | zero => simp [putL]
  | succ i ih =>
    show putL (n / 256) (i + 1) ++ [((n % 256 : Nat) : Int)] = _
    rw [ih, List.cons_append, Nat.div_div_eq_div_mul, Nat.pow_succ, Nat.mul_comm (256 ^ i) 256]
    rfl
theorem put_set (n k i : Nat) (h : i < k) : (arrB k (List.replicate (k - i) 0 ++ putL n i)).setIfInBounds (k - 1 - i) (.int .u8 ((n / 256 ^ i % 256 : Nat) : Int)) = arrB k (List.replicate (k - (i + 1)) 0 ++ putL n (i + 1)) := by
  have hl : ∀ j, j ≤ k → (List.replicate (k - j) (0 : Int) ++ putL n j).length = k := fun j hj => by rw [List.length_append, List.length_replicate, putL_len]; omega
  obtain ⟨d, rfl⟩ : ∃ d, k = d + 1 + i := ⟨k - 1 - i, by omega⟩
  rw [show d + 1 + i - i = d + 1 by omega, show d + 1 + i - 1 - i = d by omega, show d + 1 + i - (i + 1) = d by omega, putL_head, List.replicate_succ', List.append_assoc]
  have hl1 := hl i (by omega)
  have hl2 := hl (i + 1) (by omega)
  rw [show d + 1 + i - i = d + 1 by omega, List.replicate_succ', List.append_assoc] at hl1
  rw [show d + 1 + i - (i + 1) = d by omega, putL_head] at hl2
  apply arrB_ext
  · omega
  · rw [Array.size_setIfInBounds, arrB_size _ _ (by omega)]
  · intro t ht
    rw [Array.getElem?_setIfInBounds, arrB_size _ _ (by omega)]
    by_cases e : d = t
    · subst e
      rw [if_pos rfl, if_pos (by omega)]
      simp [List.getD]
    · rw [if_neg e, arrB_get _ _ _ (by omega) ht]
      congr 2
      by_cases hlt : t < d
      · simp [List.getD, List.getElem?_append_left, hlt]
      · obtain ⟨s, rfl⟩ : ∃ s, t = d + (s + 1) := ⟨t - d - 1, by omega⟩
        simp [List.getD, List.getElem?_append_right]
set_option maxHeartbeats 1000000 in
theorem put_any (n k : Nat) (w : World) (hn : n < 18446744073709551616) (hk : k ≤ 8) :
    Calls Tryd.prog 32 #[.int .u64 n, .int .i64 k] w fun e w' => (∃ v, e = .returned v ∧ OwnB w' w.heap.size v (putL n k)) ∧ Below w.heap.size w w' := by
  have k8 : (k : Int) ≤ 8 := by omega
  have d0 : (decide (0 ≤ (k : Int) ∧ (k : Int) ≤ 8)) = true := by simp; omega
  go_enter Tryd.func32, Tryd.ntmps32
  go_wp2_with fail
  refine (maysize_any (k : Int) w).mono ?_
  rintro e w1 ⟨rfl, rfl⟩
  rw [d0]
  go_wp2_with fail
  rw [make_bytes k (by omega)]
  go_wp2_with fail
  go_loopw [13] (fun i u => ∃ j : Nat, j ≤ k ∧ i = .int .i64 j ∧ Below w.heap.size w u ∧ Hid (Row u w.heap.size 5 (arrB k (List.replicate (k - j) 0 ++ putL n j)))) (fun i _ => k - (intOf i).toNat)
  case atStart =>
    refine ⟨0, by omega, rfl, by go_grown, ?_⟩
    have e : arrB k (List.replicate (k - 0) 0 ++ putL n 0) = arrB k [] := by simp [putL, arrB]
    rw [e]
    exact Row.new w 5 _
  case round =>
    obtain ⟨j, hj, rfl, hbl, hrows⟩ := hrel
    have r0 := hrows.out
    by_cases hlt : j < k
    · have hlt2 : (j : Int) < (k : Int) := by omega
      have hj8 : (j : Int) < 8 := by omega
      have hj0 : (0 : Int) ≤ (j : Int) := by omega
      have hset := put_set n k j hlt
      have e0 := (r0.cell (k - 1 - j)).trans (arrB_get k _ (k - 1 - j) (by rw [List.length_append, List.length_replicate, putL_len]; omega) (by omega))
      have f0 := r0.frozen (k - 1 - j)
      have hv : Hid ((n : Int) / 2 ^ (8 * j) % 256 = ((n / 256 ^ j % 256 : Nat) : Int)) := by
        show _ = _
        rw [show (256 : Nat) = 2 ^ 8 from rfl, ← Nat.pow_mul]
        simp
      have HS := Lib.hid hset
      have R0 := Lib.hid r0
      clear hset r0 hrows
      generalize (List.replicate (k - j) 0 ++ putL n j).getD (k - 1 - j) 0 = z at *
      generalize arrB k (List.replicate (k - j) 0 ++ putL n j) = cs at *
      go_wp2_with fail
      go_roundw
      case rel =>
        refine ⟨j + 1, by omega, by go_num, hbl.setCell (by simp) _, ?_⟩
        rw [← HS.out, ← hv.out]
        exact R0.out.put _ _
      case measure => simp [intOf]; omega
    · obtain rfl : j = k := by omega
      have r1 : Row wr w.heap.size 5 (arrB j (putL n j)) := by simpa using r0
      go_wp2
      go_ret
      exact ⟨⟨_, rfl, own_of_row r1 (putL_len _ _) (Nat.le_refl _) (by unfold maxLen; omega)⟩, hbl⟩
end Go.Proofs.YtmpjgfecnnefeaaDoor

namespace Go.Proofs.YtmpjgfecnnefeaaDoor
set_option maxRecDepth 8000
open Go.RowKit

theorem get_step (m x : Nat) (hm : m < 72057594037927936) (hx : x ≤ 255) : bits .or .u64 ((m : Int) * 256) (x : Int) = ((256 * m + x : Nat) : Int) := by
  rw [show (m : Int) * 256 = ((m * 256 : Nat) : Int) by omega, bits_or_u64_nat _ _ (by omega) (by omega)]
  congr 1
  have := Nat.shiftLeft_add_eq_or_of_lt (show x < 2 ^ 8 by omega) m
  rw [Nat.shiftLeft_eq, show (2 : Nat) ^ 8 = 256 from rfl] at this
  omega
set_option maxHeartbeats 1000000 in
theorem get_some (A : Option Addr) (n c i s : Nat) (xs : List Int) (w : World) (hl : xs.length = n) (hc : n ≤ c) (hn : c ≤ maxLen) (hB : isB xs) (hx : Bytes w w.heap.size A xs) (s8 : s ≤ 8) (his : i + s ≤ n) :
    Calls Tryd.prog 35 #[.slice A n c, .int .i64 i, .int .i64 s] w fun e w' => e = .returned (.tuple #[.int .u64 (getL ((xs.drop i).take s)), .bool true]) ∧ w = w' := by
  unfold maxLen at hn
  have d0 : (decide (0 ≤ (s : Int) ∧ (s : Int) ≤ 8)) = true := by simp; omega
  have k8 : (s : Int) ≤ 8 := by omega
  have n1 : ¬ ((n : Int) - (s : Int) < (i : Int)) := by omega
  have hcut := fun w => run_cut2 A n c i (i + s) w (by omega) (by omega)
  rw [show i + s - i = s by omega] at hcut
  have HY := Lib.hid (hx.cut i s c (by omega))
  have HB := Lib.hid (isB_take (isB_drop hB i) s)
  have hyl : ((xs.drop i).take s).length = s := by rw [List.length_take, List.length_drop]; omega
  generalize (xs.drop i).take s = ys at *
  have HCUT := Lib.hid hcut
  have HL := Lib.hid hyl
  clear hcut hl hx hB hyl
  generalize cutA A i c = A' at *
  go_enter Tryd.func35, Tryd.ntmps35
  go_wp2_with fail
  refine (maysize_any s w).mono ?_
  rintro e w1 ⟨rfl, rfl⟩
  rw [d0]
  go_wp2_with ((with_reducible refine wpList_cut2 (o := ⟨some 31, _, _, _, _, _⟩) ?_ (.tmp 26) (.tmp 27) (.tmp 30) ?_ ?_ ?_ ?_ (HCUT.out _) ?_); (rfl); (rfl); (rfl); (rfl); (rfl))
  go_loopw [8, 33] (fun v i u => ∃ j : Nat, j ≤ s ∧ i = .int .i64 j ∧ v = .int .u64 (getL (ys.take j)) ∧ u = w) (fun _ i _ => s - (intOf i).toNat)
  case atStart => exact ⟨0, by omega, rfl, rfl, rfl⟩
  case round =>
    obtain ⟨j, hj, rfl, rfl, rfl⟩ := hrel
    by_cases hlt : j < s
    · have hlt2 : (j : Int) < (s : Int) := by omega
      obtain ⟨ad, rfl, hcell⟩ := HY.out.cell j (by rw [HL.out]; exact hlt)
      have hx := HB.out _ (List.getElem_mem (by rw [HL.out]; exact hlt : j < ys.length))
      have hg : ys.getD j 0 = ys[j]'(by rw [HL.out]; exact hlt) := by rw [List.getD_eq_getElem?_getD, List.getElem?_eq_getElem (by rw [HL.out]; exact hlt)]; rfl
      have ht : Hid (getL (ys.take (j + 1)) = 256 * getL (ys.take j) + (ys.getD j 0).toNat) := by
        show _ = _
        rw [List.take_add_one, List.getElem?_eq_getElem (by rw [HL.out]; exact hlt), hg]
        exact getL_snoc _ _
      have hm : getL (ys.take j) < 72057594037927936 := by
        have h1 := getL_lt (ys.take j) (isB_take HB.out j)
        rw [List.length_take, HL.out] at h1
        have h2 : 256 ^ (min j s) ≤ 256 ^ 7 := Nat.pow_le_pow_right (by omega) (by omega)
        omega
      rw [← hg] at hx
      obtain ⟨x, hx2⟩ := Int.eq_ofNat_of_zero_le hx.1
      rw [hx2] at hx hcell ht
      have hst := Lib.hid (get_step (getL (ys.take j)) x hm (by omega))
      clear hg hx2
      generalize getL (ys.take j) = m at *
      go_wp2
      go_roundw
      case rel =>
        refine ⟨j + 1, by omega, by go_num, ?_, trivial⟩
        rw [hst.out, ht.out, Int.toNat_natCast]
      case measure => simp [intOf]; omega
    · obtain rfl : j = s := by omega
      have hT : ys.take j = ys := List.take_of_length_le (by rw [HL.out]; exact Nat.le_refl _)
      rw [hT]
      go_wp2
      go_returns
      exact ⟨rfl, rfl⟩
end Go.Proofs.YtmpjgfecnnefeaaDoor

namespace Go.Proofs.YtmpjgfecnnefeaaDoor
set_option maxRecDepth 8000
open Go.RowKit

def adc (x y c : Int) : Int := (x + y + c) % 18446744073709551616
def adk (x y c : Int) : Int := (x + y + c) / 18446744073709551616
def sbc (x y c : Int) : Int := (x - y - c) % 18446744073709551616
def sbk (x y c : Int) : Int := if x < y + c then 1 else 0

theorem add64 (x y c : Int) (hx : 0 ≤ x) (hy : 0 ≤ y) (hc0 : 0 ≤ c) (hc : c ≤ 1) (w : World) : (callFunc 72 #[.int .u64 x, .int .u64 y, .int .u64 c]).run Tryd.prog w =
    .ok (.value (.tuple #[.int .u64 (adc x y c), .int .u64 (adk x y c)])) w := by
  rw [run_callFunc_extern Tryd.func72 (by kernel_rfl) (by kernel_rfl) (by kernel_rfl) (e := add64Entry) (by kernel_rfl), run_add64 x y c hx hy hc0 hc]
  rfl
theorem sub64_nat (x y c : Nat) (hc : c ≤ 1) (w : World) : (callFunc 73 #[.int .u64 x, .int .u64 y, .int .u64 c]).run Tryd.prog w =
    .ok (.value (.tuple #[.int .u64 (((x + 18446744073709551616 - y - c) % 18446744073709551616 : Nat) : Int), .int .u64 ((if x < y + c then 1 else 0 : Nat) : Int)])) w := by
  rw [run_callFunc_extern Tryd.func73 (by kernel_rfl) (by kernel_rfl) (by kernel_rfl) (e := (Extern.MathBitsCarry.rows[1]'(by decide)).2) (by kernel_rfl)]
  have : c = 0 ∨ c = 1 := by omega
  rcases this with rfl | rfl <;> rfl
theorem sub64 (x y c : Int) (hx : 0 ≤ x) (hy : 0 ≤ y) (hy' : y < 18446744073709551616) (hc0 : 0 ≤ c) (hc : c ≤ 1) (w : World) : (callFunc 73 #[.int .u64 x, .int .u64 y, .int .u64 c]).run Tryd.prog w =
    .ok (.value (.tuple #[.int .u64 (sbc x y c), .int .u64 (sbk x y c)])) w := by
  obtain ⟨x, rfl⟩ := Int.eq_ofNat_of_zero_le hx
  obtain ⟨y, rfl⟩ := Int.eq_ofNat_of_zero_le hy
  obtain ⟨c, rfl⟩ := Int.eq_ofNat_of_zero_le hc0
  have e1 : (((x + 18446744073709551616 - y - c) % 18446744073709551616 : Nat) : Int) = sbc x y c := by unfold sbc; omega
  have e2 : ((if x < y + c then 1 else 0 : Nat) : Int) = sbk x y c := by unfold sbk; split <;> split <;> omega
  rw [← e1, ← e2]
  exact sub64_nat x y c (by omega) w
theorem ofbyte_any (i : Int) (w : World) (h0 : 0 ≤ i) (h1 : i < 32) :
    Calls Tryd.prog 57 #[.int .i64 i] w fun e w' => e = .returned (.int .i64 (3 - i / 8)) ∧ w = w' := by
  go_enter Tryd.func57, Tryd.ntmps57
  go_wp2
  go_ret
  exact ⟨rfl, rfl⟩
theorem part_any (xs : List Int) (i : Int) (w : World) (hx : xs.length = 4) (h0 : 0 ≤ i) (h1 : i < 4) :
    Calls Tryd.prog 71 #[.agg (arrW 4 xs), .int .i64 i] w fun e w' => e = .returned (.int .u64 (xs.getD i.toNat 0)) ∧ w' = w.alloc (.cells (arrW 4 xs) 26) := by
  have e0 : (w.alloc (.cells (arrW 4 xs) 26)).cell? ⟨w.heap.size, i.toNat, none⟩ = some (.int .u64 (xs.getD i.toNat 0)) := ((Row.new w 26 _).cell i.toNat).trans (arrW_get 4 _ _ (by omega) (by omega))
  have HX := Lib.hid hx
  clear hx
  go_enter Tryd.func71, Tryd.ntmps71
  go_wp2
  go_ret
  exact ⟨rfl, rfl⟩
theorem part_out (xs : List Int) (i : Int) (w : World) (h : i < 0 ∨ 4 ≤ i) :
    Calls Tryd.prog 71 #[.agg (arrW 4 xs), .int .i64 i] w fun e w' => e = .returned (.int .u64 0) ∧ w' = w.alloc (.cells (arrW 4 xs) 26) := by
  by_cases h0 : i < 0
  · clear h
    go_enter Tryd.func71, Tryd.ntmps71
    go_wp2
    go_ret
    exact ⟨rfl, rfl⟩
  · have h1 : 4 ≤ i := by omega
    have h2 : 0 ≤ i := by omega
    clear h h0
    go_enter Tryd.func71, Tryd.ntmps71
    go_wp2
    go_ret
    exact ⟨rfl, rfl⟩
theorem bit_any (xs : List Int) (i : Int) (w : World) (hx : xs.length = 4) (h0 : 0 ≤ i) (h1 : i < 256) :
    Calls Tryd.prog 74 #[.agg (arrW 4 xs), .int .i64 i] w fun e w' => e = .returned (.int .u64 (bits .and .u64 (xs.getD (i / 64).toNat 0 / 2 ^ (i % 64).toNat) 1)) ∧ w' = w.alloc (.cells (arrW 4 xs) 26) := by
  have e0 : (w.alloc (.cells (arrW 4 xs) 26)).cell? ⟨w.heap.size, (i / 64).toNat, none⟩ = some (.int .u64 (xs.getD (i / 64).toNat 0)) := ((Row.new w 26 _).cell _).trans (arrW_get 4 _ _ (by omega) (by omega))
  have q0 : 0 ≤ i / 64 := by omega
  have q1 : i / 64 < 4 := by omega
  have q2 : 0 ≤ i % 64 := by omega
  have q3 : i % 64 < 64 := by omega
  have HX := Lib.hid hx
  clear hx
  go_enter Tryd.func74, Tryd.ntmps74
  go_wp2
  go_ret
  exact ⟨rfl, rfl⟩
theorem of_any (n : Int) (w : World) :
    Calls Tryd.prog 27 #[.int .u64 n] w fun e w' => e = .returned (.agg (arrW 4 [n, 0, 0, 0])) ∧ Below w.heap.size w w' := by
  go_enter Tryd.func27, Tryd.ntmps27
  go_wp2
  go_returns
  exact ⟨rfl, by go_grown⟩
end Go.Proofs.YtmpjgfecnnefeaaDoor

namespace Go.Proofs.YtmpjgfecnnefeaaDoor
set_option maxRecDepth 8000
open Go.RowKit
attribute [local go_sem ↓] Go.wp_at_zero Go.wp_at_succ

/-- the carry ahead of word k -/
def addC (xs ys : List Int) : Nat → Int
  | 0 => 0
  | k + 1 => adk (xs.getD k 0) (ys.getD k 0) (addC xs ys k)
/-- the first k words of a sum -/
def addL (xs ys : List Int) : Nat → List Int
  | 0 => []
  | k + 1 => addL xs ys k ++ [adc (xs.getD k 0) (ys.getD k 0) (addC xs ys k)]
theorem addL_len (xs ys : List Int) (k : Nat) : (addL xs ys k).length = k := by
  induction k with
  | zero => rfl
  | succ k ih => simp [addL, ih]
/-- the borrow ahead of word k -/
def subC (xs ys : List Int) : Nat → Int
  | 0 => 0
  | k + 1 => sbk (xs.getD k 0) (ys.getD k 0) (subC xs ys k)
/-- the first k words of a difference -/
def subL (xs ys : List Int) : Nat → List Int
  | 0 => []
  | k + 1 => subL xs ys k ++ [sbc (xs.getD k 0) (ys.getD k 0) (subC xs ys k)]
theorem subL_len (xs ys : List Int) (k : Nat) : (subL xs ys k).length = k := by
  induction k with
  | zero => rfl
  | succ k ih => simp [subL, ih]
/-- every word of a list is one of 64 bits -/
def Words (xs : List Int) : Prop := ∀ k, 0 ≤ xs.getD k 0 ∧ xs.getD k 0 < 18446744073709551616
theorem addC_bit (xs ys : List Int) (hx : Words xs) (hy : Words ys) (k : Nat) : 0 ≤ addC xs ys k ∧ addC xs ys k ≤ 1 := by
  induction k with
  | zero => simp [addC]
  | succ k ih =>
    have := hx k
    have := hy k
    simp only [addC, adk]
    omega
theorem subC_bit (xs ys : List Int) (k : Nat) : 0 ≤ subC xs ys k ∧ subC xs ys k ≤ 1 := by
  cases k with
  | zero => simp [subC]
  | succ k =>
    simp only [subC, sbk]
    split <;> omega
theorem infoW (cs : Array Value) (h : cs.size = 4) : (Tryd.prog.info? 26).map (·.size) = some cs.size := by rw [h]; kernel_rfl

set_option maxHeartbeats 4000000 in
theorem addw_any (xs ys : List Int) (w : World) (hx : xs.length = 4) (hy : ys.length = 4) (bx : Words xs) (bY : Words ys) :
    Calls Tryd.prog 51 #[.agg (arrW 4 xs), .agg (arrW 4 ys)] w fun e w' => e = .returned (.tuple #[.agg (arrW 4 (addL xs ys 4)), .bool (addC xs ys 4 == 0)]) ∧ Below w.heap.size w w' := by
  have HX := Lib.hid hx
  have HY := Lib.hid hy
  clear hx hy
  go_enter Tryd.func51, Tryd.ntmps51
  go_wp2_with fail
  go_loopw [7, 9] (fun c i u => ∃ k : Nat, k ≤ 4 ∧ i = .int .i64 k ∧ c = .int .u64 (addC xs ys k) ∧ Below w.heap.size w u ∧ Hid (Row u w.heap.size 26 (arrW 4 xs) ∧ Row u (w.heap.size + 1) 26 (arrW 4 ys) ∧ Row u (w.heap.size + 1 + 1) 26 (arrW 4 []) ∧ Row u (w.heap.size + 1 + 1 + 1) 26 (arrW 4 (addL xs ys k)))) (fun _ i _ => 4 - (intOf i).toNat)
  case atStart => exact ⟨0, by omega, rfl, rfl, by go_grown, (((Row.new w 26 _).alloc _).alloc _).alloc _, ((Row.newAt (by simp) 26 _).alloc _).alloc _, (Row.newAt (by simp) 26 _).alloc _, Row.newAt (by simp) 26 _⟩
  case round =>
    obtain ⟨k, hk, rfl, rfl, hbl, hrows⟩ := hrel
    obtain ⟨r0, r1, r2, r3⟩ := hrows.out
    by_cases hlt : k < 4
    · have e0 : wr.cell? ⟨w.heap.size, k, none⟩ = some (.int .u64 (xs.getD k 0)) := (r0.cell k).trans (arrW_get 4 _ k (by rw [HX.out]; omega) hlt)
      have e1 : wr.cell? ⟨w.heap.size + 1, k, none⟩ = some (.int .u64 (ys.getD k 0)) := (r1.cell k).trans (arrW_get 4 _ k (by rw [HY.out]; omega) hlt)
      have e3 := (r3.cell k).trans (arrW_get 4 _ k (by rw [addL_len]; omega) hlt)
      have f3 := r3.frozen k
      have R0 := Lib.hid r0
      have R1 := Lib.hid r1
      have R2 := Lib.hid r2
      have R3 := Lib.hid r3
      have hc := addC_bit xs ys bx bY k
      have hcall := add64 (xs.getD k 0) (ys.getD k 0) (addC xs ys k) (bx k).1 (bY k).1 hc.1 hc.2
      have hput := Lib.hid (arrW_put_at 4 (addL xs ys k) (adc (xs.getD k 0) (ys.getD k 0) (addC xs ys k)) k (addL_len _ _ _) hlt)
      have hL : Hid (addL xs ys (k + 1) = addL xs ys k ++ [adc (xs.getD k 0) (ys.getD k 0) (addC xs ys k)]) := rfl
      have hC : Hid (addC xs ys (k + 1) = adk (xs.getD k 0) (ys.getD k 0) (addC xs ys k)) := rfl
      clear r0 r1 r2 r3 hrows hc
      have hk0 : (0 : Int) ≤ (k : Int) := by omega
      have hk4 : (k : Int) < 4 := by omega
      generalize xs.getD k 0 = x at *
      generalize ys.getD k 0 = y at *
      generalize addC xs ys k = c at *
      generalize adc x y c = s at *
      generalize adk x y c = d at *
      generalize (addL xs ys k).getD k 0 = z at *
      have e0' : (wr.setCell ⟨w.heap.size + 1 + 1 + 1, k, none⟩ (.int .u64 s)).cell? ⟨w.heap.size, k, none⟩ = some (.int .u64 x) := ((R0.out.farAt (by omega) _).cell k).trans ((R0.out.cell k).symm.trans e0)
      have e1' : (wr.setCell ⟨w.heap.size + 1 + 1 + 1, k, none⟩ (.int .u64 s)).cell? ⟨w.heap.size + 1, k, none⟩ = some (.int .u64 y) := ((R1.out.farAt (by omega) _).cell k).trans ((R1.out.cell k).symm.trans e1)
      go_wp2_with fail
      go_region_held3 (fun u => u.cell? ⟨w.heap.size, k, none⟩ = some (.int .u64 x) ∧ u.cell? ⟨w.heap.size + 1, k, none⟩ = some (.int .u64 y)) (first | exact ⟨e0, e1⟩ | exact ⟨e0', e1'⟩) (fail)
      clear e0' e1' hcall
      go_wp2
      go_roundw
      case rel =>
        refine ⟨k + 1, by omega, by go_num, ?_, (hbl.setCell (by simp; omega) _).drew, R0.out.farAt (by omega) _, R1.out.farAt (by omega) _, R2.out.farAt (by omega) _, ?_⟩
        · rw [hC.out]
        · rw [hL.out, ← hput.out]
          exact R3.out.put k _
      case measure => simp [intOf]; omega
    · obtain rfl : k = 4 := by omega
      have hsz := Lib.hid (arrW_size 4 (addL xs ys 4) (by rw [addL_len]; omega))
      have hz0 := Lib.hid (arrW_size 4 [] (by simp))
      have ho := Lib.hid (arrW_one 4 (addL xs ys 4))
      have R2 : Hid (wr.heap[w.heap.size + 1 + 1]? = some (.cells (arrW 4 []) 26 (0, 0))) := r2
      have R3 : Hid (wr.heap[w.heap.size + 1 + 1 + 1]? = some (.cells (arrW 4 (addL xs ys 4)) 26 (0, 0))) := r3
      clear r0 r1 r2 r3 hrows
      generalize hE : arrW 4 (addL xs ys 4) = cs at *
      have HE := Lib.hid hE
      clear hE
      generalize arrW 4 [] = zs at *
      generalize hC : addC xs ys 4 = c at *
      have HC := Lib.hid hC
      clear hC
      go_wp2_with (first
        | ((with_reducible refine wpList_load_row (o := ⟨some 26, _, _, _, _, _⟩) ?_ 26 (.tmp 6) ?_ (w.heap.size + 1 + 1 + 1) ?_ 26 cs (0, 0) _ R3.out Tryd.underlying26 ?_ (infoW cs hsz.out) ?_); (rfl); (rfl); (rfl); (rfl))
        | ((with_reducible refine wpList_store_row (o := ⟨none, .store 26 _ _, _, _, _, _⟩) ?_ 26 (.tmp 4) (.tmp 26) ?_ (w.heap.size + 1 + 1) cs ?_ ?_ 26 zs R2.out (infoW cs hsz.out) (by rw [hz0.out, hsz.out]) ho.out ?_); (rfl); (rfl); (rfl); (rfl))
        | ((with_reducible refine bodyPost_ret (v := .tuple #[.agg cs, .bool (c == 0)]) ?_ ?_ ?_); (exact results_row_slot (p := 4) (q := 5) (ty := 26) Tryd.results51 _ _ (w.heap.size + 1 + 1) 26 cs (0, 0) _ rfl _ rfl (setRow_heap _ _ zs cs 26 (0, 0) R2.out) Tryd.underlying26 rfl (infoW cs hsz.out)); (rfl)))
      exact ⟨by rw [HE.out, HC.out], below_setRow hbl (by omega) _⟩
set_option maxHeartbeats 4000000 in
theorem subw_any (xs ys : List Int) (w : World) (hx : xs.length = 4) (hy : ys.length = 4) (bx : Words xs) (bY : Words ys) :
    Calls Tryd.prog 52 #[.agg (arrW 4 xs), .agg (arrW 4 ys)] w fun e w' => e = .returned (.tuple #[.agg (arrW 4 (subL xs ys 4)), .bool (subC xs ys 4 == 0)]) ∧ Below w.heap.size w w' := by
  have HX := Lib.hid hx
  have HY := Lib.hid hy
  clear hx hy
  go_enter Tryd.func52, Tryd.ntmps52
  go_wp2_with fail
  go_loopw [7, 9] (fun c i u => ∃ k : Nat, k ≤ 4 ∧ i = .int .i64 k ∧ c = .int .u64 (subC xs ys k) ∧ Below w.heap.size w u ∧ Hid (Row u w.heap.size 26 (arrW 4 xs) ∧ Row u (w.heap.size + 1) 26 (arrW 4 ys) ∧ Row u (w.heap.size + 1 + 1) 26 (arrW 4 []) ∧ Row u (w.heap.size + 1 + 1 + 1) 26 (arrW 4 (subL xs ys k)))) (fun _ i _ => 4 - (intOf i).toNat)
  case atStart => exact ⟨0, by omega, rfl, rfl, by go_grown, (((Row.new w 26 _).alloc _).alloc _).alloc _, ((Row.newAt (by simp) 26 _).alloc _).alloc _, (Row.newAt (by simp) 26 _).alloc _, Row.newAt (by simp) 26 _⟩
  case round =>
    obtain ⟨k, hk, rfl, rfl, hbl, hrows⟩ := hrel
    obtain ⟨r0, r1, r2, r3⟩ := hrows.out
    by_cases hlt : k < 4
    · have e0 : wr.cell? ⟨w.heap.size, k, none⟩ = some (.int .u64 (xs.getD k 0)) := (r0.cell k).trans (arrW_get 4 _ k (by rw [HX.out]; omega) hlt)
      have e1 : wr.cell? ⟨w.heap.size + 1, k, none⟩ = some (.int .u64 (ys.getD k 0)) := (r1.cell k).trans (arrW_get 4 _ k (by rw [HY.out]; omega) hlt)
      have e3 := (r3.cell k).trans (arrW_get 4 _ k (by rw [subL_len]; omega) hlt)
      have f3 := r3.frozen k
      have R0 := Lib.hid r0
      have R1 := Lib.hid r1
      have R2 := Lib.hid r2
      have R3 := Lib.hid r3
      have hc := subC_bit xs ys k
      have hcall := sub64 (xs.getD k 0) (ys.getD k 0) (subC xs ys k) (bx k).1 (bY k).1 (bY k).2 hc.1 hc.2
      have hput := Lib.hid (arrW_put_at 4 (subL xs ys k) (sbc (xs.getD k 0) (ys.getD k 0) (subC xs ys k)) k (subL_len _ _ _) hlt)
      have hL : Hid (subL xs ys (k + 1) = subL xs ys k ++ [sbc (xs.getD k 0) (ys.getD k 0) (subC xs ys k)]) := rfl
      have hC : Hid (subC xs ys (k + 1) = sbk (xs.getD k 0) (ys.getD k 0) (subC xs ys k)) := rfl
      clear r0 r1 r2 r3 hrows hc
      have hk0 : (0 : Int) ≤ (k : Int) := by omega
      have hk4 : (k : Int) < 4 := by omega
      generalize xs.getD k 0 = x at *
      generalize ys.getD k 0 = y at *
      generalize subC xs ys k = c at *
      generalize sbc x y c = s at *
      generalize sbk x y c = d at *
      generalize (subL xs ys k).getD k 0 = z at *
      have e0' : (wr.setCell ⟨w.heap.size + 1 + 1 + 1, k, none⟩ (.int .u64 s)).cell? ⟨w.heap.size, k, none⟩ = some (.int .u64 x) := ((R0.out.farAt (by omega) _).cell k).trans ((R0.out.cell k).symm.trans e0)
      have e1' : (wr.setCell ⟨w.heap.size + 1 + 1 + 1, k, none⟩ (.int .u64 s)).cell? ⟨w.heap.size + 1, k, none⟩ = some (.int .u64 y) := ((R1.out.farAt (by omega) _).cell k).trans ((R1.out.cell k).symm.trans e1)
      go_wp2_with fail
      go_region_held3 (fun u => u.cell? ⟨w.heap.size, k, none⟩ = some (.int .u64 x) ∧ u.cell? ⟨w.heap.size + 1, k, none⟩ = some (.int .u64 y)) (first | exact ⟨e0, e1⟩ | exact ⟨e0', e1'⟩) (fail)
      clear e0' e1' hcall
      go_wp2
      go_roundw
      case rel =>
        refine ⟨k + 1, by omega, by go_num, ?_, (hbl.setCell (by simp; omega) _).drew, R0.out.farAt (by omega) _, R1.out.farAt (by omega) _, R2.out.farAt (by omega) _, ?_⟩
        · rw [hC.out]
        · rw [hL.out, ← hput.out]
          exact R3.out.put k _
      case measure => simp [intOf]; omega
    · obtain rfl : k = 4 := by omega
      have hsz := Lib.hid (arrW_size 4 (subL xs ys 4) (by rw [subL_len]; omega))
      have hz0 := Lib.hid (arrW_size 4 [] (by simp))
      have ho := Lib.hid (arrW_one 4 (subL xs ys 4))
      have R2 : Hid (wr.heap[w.heap.size + 1 + 1]? = some (.cells (arrW 4 []) 26 (0, 0))) := r2
      have R3 : Hid (wr.heap[w.heap.size + 1 + 1 + 1]? = some (.cells (arrW 4 (subL xs ys 4)) 26 (0, 0))) := r3
      clear r0 r1 r2 r3 hrows
      generalize hE : arrW 4 (subL xs ys 4) = cs at *
      have HE := Lib.hid hE
      clear hE
      generalize arrW 4 [] = zs at *
      generalize hC : subC xs ys 4 = c at *
      have HC := Lib.hid hC
      clear hC
      go_wp2_with (first
        | ((with_reducible refine wpList_load_row (o := ⟨some 26, _, _, _, _, _⟩) ?_ 26 (.tmp 6) ?_ (w.heap.size + 1 + 1 + 1) ?_ 26 cs (0, 0) _ R3.out Tryd.underlying26 ?_ (infoW cs hsz.out) ?_); (rfl); (rfl); (rfl); (rfl))
        | ((with_reducible refine wpList_store_row (o := ⟨none, .store 26 _ _, _, _, _, _⟩) ?_ 26 (.tmp 4) (.tmp 26) ?_ (w.heap.size + 1 + 1) cs ?_ ?_ 26 zs R2.out (infoW cs hsz.out) (by rw [hz0.out, hsz.out]) ho.out ?_); (rfl); (rfl); (rfl); (rfl))
        | ((with_reducible refine bodyPost_ret (v := .tuple #[.agg cs, .bool (c == 0)]) ?_ ?_ ?_); (exact results_row_slot (p := 4) (q := 5) (ty := 26) Tryd.results52 _ _ (w.heap.size + 1 + 1) 26 cs (0, 0) _ rfl _ rfl (setRow_heap _ _ zs cs 26 (0, 0) R2.out) Tryd.underlying26 rfl (infoW cs hsz.out)); (rfl)))
      exact ⟨by rw [HE.out, HC.out], below_setRow hbl (by omega) _⟩
end Go.Proofs.YtmpjgfecnnefeaaDoor

namespace Go.Proofs.YtmpjgfecnnefeaaDoor
set_option maxRecDepth 8000
open Go

def Big : Nat := 115792089237316195423570985008687907853269984665640564039457584007913129639936
theorem Big_eq : Big = 2 ^ 256 := by decide +kernel
/-- the four words of a number -/
def wl (n : Nat) : List Int := [((n % 18446744073709551616 : Nat) : Int), ((n / 18446744073709551616 % 18446744073709551616 : Nat) : Int), ((n / 340282366920938463463374607431768211456 % 18446744073709551616 : Nat) : Int), ((n / 6277101735386680763835789423207666416102355444464034512896 % 18446744073709551616 : Nat) : Int)]
theorem wl_len (n : Nat) : (wl n).length = 4 := rfl
theorem wl_words (n : Nat) : Words (wl n) := by
  intro k
  rcases k with _ | _ | _ | _ | k
  · simp only [wl, List.getD_cons_zero]; omega
  · simp only [wl, List.getD_cons_zero, List.getD_cons_succ]; omega
  · simp only [wl, List.getD_cons_zero, List.getD_cons_succ]; omega
  · simp only [wl, List.getD_cons_zero, List.getD_cons_succ]; omega
  · simp [wl]
/-- the number of four words -/
def mk4 (a b c d : Nat) : Nat := a + 18446744073709551616 * b + 340282366920938463463374607431768211456 * c + 6277101735386680763835789423207666416102355444464034512896 * d
theorem wl_mk4 (a b c d : Nat) (ha : a < 18446744073709551616) (hb : b < 18446744073709551616) (hc : c < 18446744073709551616) (hd : d < 18446744073709551616) : wl (mk4 a b c d) = [(a : Int), (b : Int), (c : Int), (d : Int)] := by
  have e0 : mk4 a b c d % 18446744073709551616 = a := by unfold mk4; omega
  have e1 : mk4 a b c d / 18446744073709551616 % 18446744073709551616 = b := by unfold mk4; omega
  have e2 : mk4 a b c d / 340282366920938463463374607431768211456 % 18446744073709551616 = c := by unfold mk4; omega
  have e3 : mk4 a b c d / 6277101735386680763835789423207666416102355444464034512896 % 18446744073709551616 = d := by unfold mk4; omega
  unfold wl
  rw [e0, e1, e2, e3]
theorem mk4_lt (a b c d : Nat) (ha : a < 18446744073709551616) (hb : b < 18446744073709551616) (hc : c < 18446744073709551616) (hd : d < 18446744073709551616) : mk4 a b c d < Big := by
  unfold mk4 Big; omega
theorem split4 (n : Nat) (h : n < Big) : ∃ a b c d : Nat, n = mk4 a b c d ∧ a < 18446744073709551616 ∧ b < 18446744073709551616 ∧ c < 18446744073709551616 ∧ d < 18446744073709551616 := by
  refine ⟨n % 18446744073709551616, n / 18446744073709551616 % 18446744073709551616, n / 340282366920938463463374607431768211456 % 18446744073709551616, n / 6277101735386680763835789423207666416102355444464034512896, ?_, by omega, by omega, by omega, by unfold Big at h; omega⟩
  unfold mk4; omega
theorem wl_of (xs : List Int) (hl : xs.length = 4) (hw : Words xs) : ∃ n, n < Big ∧ xs = wl n := by
  match xs, hl with
  | [a, b, c, d], _ =>
    have h0 := hw 0
    have h1 := hw 1
    have h2 := hw 2
    have h3 := hw 3
    simp only [List.getD_cons_zero, List.getD_cons_succ] at h0 h1 h2 h3
    obtain ⟨a, rfl⟩ := Int.eq_ofNat_of_zero_le h0.1
    obtain ⟨b, rfl⟩ := Int.eq_ofNat_of_zero_le h1.1
    obtain ⟨c, rfl⟩ := Int.eq_ofNat_of_zero_le h2.1
    obtain ⟨d, rfl⟩ := Int.eq_ofNat_of_zero_le h3.1
    exact ⟨mk4 a b c d, mk4_lt a b c d (by omega) (by omega) (by omega) (by omega), (wl_mk4 a b c d (by omega) (by omega) (by omega) (by omega)).symm⟩
theorem wl_inj {m n : Nat} (hm : m < Big) (hn : n < Big) (h : wl m = wl n) : m = n := by
  obtain ⟨a, b, c, d, rfl, ha, hb, hc, hd⟩ := split4 m hm
  obtain ⟨a', b', c', d', rfl, ha', hb', hc', hd'⟩ := split4 n hn
  rw [wl_mk4 a b c d ha hb hc hd, wl_mk4 a' b' c' d' ha' hb' hc' hd'] at h
  simp only [List.cons.injEq, Int.ofNat_inj, and_true] at h
  obtain ⟨rfl, rfl, rfl, rfl⟩ := h
  rfl
theorem add_words (m n : Nat) (hm : m < Big) (hn : n < Big) : addL (wl m) (wl n) 4 = wl ((m + n) % Big) ∧ (addC (wl m) (wl n) 4 == 0) = decide (m + n < Big) := by
  obtain ⟨a, b, c, d, rfl, ha, hb, hc, hd⟩ := split4 m hm
  obtain ⟨a', b', c', d', rfl, ha', hb', hc', hd'⟩ := split4 n hn
  rw [wl_mk4 a b c d ha hb hc hd, wl_mk4 a' b' c' d' ha' hb' hc' hd']
  simp only [addL, addC, adc, adk, List.getD_cons_zero, List.getD_cons_succ, List.nil_append, List.cons_append]
  have k0 : ((a : Int) + a' + 0) / 18446744073709551616 = (((a + a') / 18446744073709551616 : Nat) : Int) := by omega
  have s0 : ((a : Int) + a' + 0) % 18446744073709551616 = (((a + a') % 18446744073709551616 : Nat) : Int) := by omega
  rw [k0, s0]
  have l0 : (a + a') / 18446744073709551616 ≤ 1 := by omega
  have v0 : a + a' = 18446744073709551616 * ((a + a') / 18446744073709551616) + (a + a') % 18446744073709551616 := by omega
  have w0 : (a + a') % 18446744073709551616 < 18446744073709551616 := by omega
  generalize (a + a') / 18446744073709551616 = q0 at *
  generalize (a + a') % 18446744073709551616 = r0 at *
  have k1 : ((b : Int) + b' + q0) / 18446744073709551616 = (((b + b' + q0) / 18446744073709551616 : Nat) : Int) := by omega
  have s1 : ((b : Int) + b' + q0) % 18446744073709551616 = (((b + b' + q0) % 18446744073709551616 : Nat) : Int) := by omega
  rw [k1, s1]
  have l1 : (b + b' + q0) / 18446744073709551616 ≤ 1 := by omega
  have v1 : b + b' + q0 = 18446744073709551616 * ((b + b' + q0) / 18446744073709551616) + (b + b' + q0) % 18446744073709551616 := by omega
  have w1 : (b + b' + q0) % 18446744073709551616 < 18446744073709551616 := by omega
  generalize (b + b' + q0) / 18446744073709551616 = q1 at *
  generalize (b + b' + q0) % 18446744073709551616 = r1 at *
  have k2 : ((c : Int) + c' + q1) / 18446744073709551616 = (((c + c' + q1) / 18446744073709551616 : Nat) : Int) := by omega
  have s2 : ((c : Int) + c' + q1) % 18446744073709551616 = (((c + c' + q1) % 18446744073709551616 : Nat) : Int) := by omega
  rw [k2, s2]
  have l2 : (c + c' + q1) / 18446744073709551616 ≤ 1 := by omega
  have v2 : c + c' + q1 = 18446744073709551616 * ((c + c' + q1) / 18446744073709551616) + (c + c' + q1) % 18446744073709551616 := by omega
  have w2 : (c + c' + q1) % 18446744073709551616 < 18446744073709551616 := by omega
  generalize (c + c' + q1) / 18446744073709551616 = q2 at *
  generalize (c + c' + q1) % 18446744073709551616 = r2 at *
  have k3 : ((d : Int) + d' + q2) / 18446744073709551616 = (((d + d' + q2) / 18446744073709551616 : Nat) : Int) := by omega
  have s3 : ((d : Int) + d' + q2) % 18446744073709551616 = (((d + d' + q2) % 18446744073709551616 : Nat) : Int) := by omega
  rw [k3, s3]
  have l3 : (d + d' + q2) / 18446744073709551616 ≤ 1 := by omega
  have v3 : d + d' + q2 = 18446744073709551616 * ((d + d' + q2) / 18446744073709551616) + (d + d' + q2) % 18446744073709551616 := by omega
  have w3 : (d + d' + q2) % 18446744073709551616 < 18446744073709551616 := by omega
  generalize (d + d' + q2) / 18446744073709551616 = q3 at *
  generalize (d + d' + q2) % 18446744073709551616 = r3 at *
  clear k0 k1 k2 k3 s0 s1 s2 s3
  have hs : mk4 a b c d + mk4 a' b' c' d' = mk4 r0 r1 r2 r3 + Big * q3 := by unfold mk4 Big; omega
  have hlt := mk4_lt r0 r1 r2 r3 w0 w1 w2 w3
  have hmod : (mk4 a b c d + mk4 a' b' c' d') % Big = mk4 r0 r1 r2 r3 := by rw [hs, Nat.add_mul_mod_self_left, Nat.mod_eq_of_lt hlt]
  rw [hmod, wl_mk4 r0 r1 r2 r3 w0 w1 w2 w3, hs]
  refine ⟨rfl, ?_⟩
  rw [Bool.eq_iff_iff]
  simp only [beq_iff_eq, decide_eq_true_eq]
  have : q3 = 0 ∨ q3 = 1 := by omega
  rcases this with rfl | rfl
  · simp [hlt]
  · simp
theorem sub_words (m n : Nat) (hm : m < Big) (hn : n < Big) : subL (wl m) (wl n) 4 = wl ((m + (Big - n)) % Big) ∧ (subC (wl m) (wl n) 4 == 0) = decide (n ≤ m) := by
  obtain ⟨a, b, c, d, rfl, ha, hb, hc, hd⟩ := split4 m hm
  obtain ⟨a', b', c', d', rfl, ha', hb', hc', hd'⟩ := split4 n hn
  rw [wl_mk4 a b c d ha hb hc hd, wl_mk4 a' b' c' d' ha' hb' hc' hd']
  simp only [subL, subC, sbc, List.getD_cons_zero, List.getD_cons_succ, List.nil_append, List.cons_append]
  have step : ∀ (x y q : Nat), x < 18446744073709551616 → y < 18446744073709551616 → q ≤ 1 → ∃ r q' : Nat, ((x : Int) - y - q) % 18446744073709551616 = (r : Int) ∧ sbk x y q = (q' : Int) ∧ r < 18446744073709551616 ∧ q' ≤ 1 ∧ x + 18446744073709551616 * q' = y + q + r := by
    intro x y q hx hy hq
    by_cases h : (x : Int) < y + q
    · exact ⟨x + 18446744073709551616 - y - q, 1, by omega, by simp [sbk, h], by omega, by omega, by omega⟩
    · exact ⟨x - y - q, 0, by omega, by simp [sbk, h], by omega, by omega, by omega⟩
  obtain ⟨r0, q0, e0, f0, w0, l0, v0⟩ := step a a' 0 ha ha' (by omega)
  rw [show ((0 : Nat) : Int) = 0 from rfl] at e0 f0
  rw [e0, f0]
  obtain ⟨r1, q1, e1, f1, w1, l1, v1⟩ := step b b' q0 hb hb' l0
  rw [e1, f1]
  obtain ⟨r2, q2, e2, f2, w2, l2, v2⟩ := step c c' q1 hc hc' l1
  rw [e2, f2]
  obtain ⟨r3, q3, e3, f3, w3, l3, v3⟩ := step d d' q2 hd hd' l2
  rw [e3, f3]
  clear step e0 e1 e2 e3 f0 f1 f2 f3
  have hs : mk4 a b c d + Big * q3 = mk4 a' b' c' d' + mk4 r0 r1 r2 r3 := by unfold mk4 Big; omega
  have hlt := mk4_lt r0 r1 r2 r3 w0 w1 w2 w3
  have hmod : (mk4 a b c d + (Big - mk4 a' b' c' d')) % Big = mk4 r0 r1 r2 r3 := by
    have : q3 = 0 ∨ q3 = 1 := by omega
    rcases this with rfl | rfl
    · rw [show mk4 a b c d + (Big - mk4 a' b' c' d') = mk4 r0 r1 r2 r3 + Big by omega, Nat.add_mod_right, Nat.mod_eq_of_lt hlt]
    · rw [show mk4 a b c d + (Big - mk4 a' b' c' d') = mk4 r0 r1 r2 r3 by omega, Nat.mod_eq_of_lt hlt]
  rw [hmod, wl_mk4 r0 r1 r2 r3 w0 w1 w2 w3]
  refine ⟨rfl, ?_⟩
  rw [Bool.eq_iff_iff]
  simp only [beq_iff_eq, decide_eq_true_eq]
  have : q3 = 0 ∨ q3 = 1 := by omega
  rcases this with rfl | rfl
  · simp; omega
  · simp; omega
end Go.Proofs.YtmpjgfecnnefeaaDoor

namespace Go.Proofs.YtmpjgfecnnefeaaDoor
set_option maxRecDepth 8000
open Go.RowKit
attribute [local go_sem ↓] Go.wp_at_zero Go.wp_at_succ

/-- a part, 0 beyond both ends -/
def partZ (xs : List Int) (i : Int) : Int := if 0 ≤ i ∧ i < 4 then xs.getD i.toNat 0 else 0
theorem part_z (x0 x1 x2 x3 i : Int) (w : World) :
    Calls Tryd.prog 71 #[.agg #[.int .u64 x0, .int .u64 x1, .int .u64 x2, .int .u64 x3], .int .i64 i] w fun e w' => e = .returned (.int .u64 (partZ [x0, x1, x2, x3] i)) ∧ w' = w.alloc (.cells #[.int .u64 x0, .int .u64 x1, .int .u64 x2, .int .u64 x3] 26) := by
  by_cases h : 0 ≤ i ∧ i < 4
  · refine (part_any [x0, x1, x2, x3] i w rfl h.1 h.2).mono ?_
    rintro e w' ⟨rfl, rfl⟩
    exact ⟨by unfold partZ; rw [if_pos h], rfl⟩
  · refine (part_out [x0, x1, x2, x3] i w (by omega)).mono ?_
    rintro e w' ⟨rfl, rfl⟩
    exact ⟨by unfold partZ; rw [if_neg h], rfl⟩
def upW (xs : List Int) (p r : Int) (k : Nat) : Int := bits .or .u64 (IntKind.u64.wrap (partZ xs (k - p) * 2 ^ r.toNat)) (partZ xs (k - p - 1) / 2 ^ (64 - r).toNat)
def upL (xs : List Int) (p r : Int) : Nat → List Int
  | 0 => []
  | k + 1 => upL xs p r k ++ [upW xs p r k]
theorem upL_len (xs : List Int) (p r : Int) (k : Nat) : (upL xs p r k).length = k := by
  induction k with
  | zero => rfl
  | succ k ih => simp [upL, ih]
def downW (xs : List Int) (p r : Int) (k : Nat) : Int := bits .or .u64 (partZ xs (k + p) / 2 ^ r.toNat) (IntKind.u64.wrap (partZ xs (k + p + 1) * 2 ^ (64 - r).toNat))
def downL (xs : List Int) (p r : Int) : Nat → List Int
  | 0 => []
  | k + 1 => downL xs p r k ++ [downW xs p r k]
theorem downL_len (xs : List Int) (p r : Int) (k : Nat) : (downL xs p r k).length = k := by
  induction k with
  | zero => rfl
  | succ k ih => simp [downL, ih]
set_option maxHeartbeats 4000000 in
theorem upw_any (x0 x1 x2 x3 n : Int) (w : World) (h0 : 0 ≤ n) (h1 : n ≤ 9223372036854775807) :
    Calls Tryd.prog 50 #[.agg (arrW 4 [x0, x1, x2, x3]), .int .i64 n] w fun e w' => e = .returned (.agg (arrW 4 (upL [x0, x1, x2, x3] (n / 64) (n % 64) 4))) ∧ Below w.heap.size w w' := by
  go_enter Tryd.func50, Tryd.ntmps50
  go_wp2_with fail
  have p0 : 0 ≤ n / 64 := by omega
  have p1 : n / 64 ≤ 144115188075855872 := by omega
  have r0 : 0 ≤ n % 64 := by omega
  have r1 : n % 64 < 64 := by omega
  generalize hp : n / 64 = p at *
  generalize hr : n % 64 = r at *
  have HP := Lib.hid hp
  have HR := Lib.hid hr
  clear hp hr h0 h1
  go_loopw [16] (fun i u => ∃ k : Nat, k ≤ 4 ∧ i = .int .i64 k ∧ Below w.heap.size w u ∧ Hid (Row u w.heap.size 26 (arrW 4 [x0, x1, x2, x3]) ∧ Row u (w.heap.size + 1) 26 (arrW 4 []) ∧ Row u (w.heap.size + 1 + 1) 26 (arrW 4 (upL [x0, x1, x2, x3] p r k)))) (fun i _ => 4 - (intOf i).toNat)
  case atStart => exact ⟨0, by omega, rfl, by go_grown, ((Row.new w 26 _).alloc _).alloc _, (Row.newAt (by simp) 26 _).alloc _, Row.newAt (by simp) 26 _⟩
  case round =>
    obtain ⟨k, hk, rfl, hbl, hrows⟩ := hrel
    obtain ⟨r0', r1', r2⟩ := hrows.out
    by_cases hlt : k < 4
    · have R0 := Lib.hid r0'
      have R1 := Lib.hid r1'
      have R2 := Lib.hid r2
      have e2 := (r2.cell k).trans (arrW_get 4 _ k (by rw [upL_len]; omega) hlt)
      have f2 := r2.frozen k
      have hput := Lib.hid (arrW_put_at 4 (upL [x0, x1, x2, x3] p r k) (upW [x0, x1, x2, x3] p r k) k (upL_len _ _ _ _) hlt)
      have hL : Hid (upL [x0, x1, x2, x3] p r (k + 1) = upL [x0, x1, x2, x3] p r k ++ [upW [x0, x1, x2, x3] p r k]) := rfl
      have hk0 : (0 : Int) ≤ (k : Int) := by omega
      have hk4 : (k : Int) < 4 := by omega
      have d1 : IntKind.i64.wrap ((k : Int) - p) = (k : Int) - p := by rw [IntWalk.i64_in _ (by omega)]
      have d2 : IntKind.i64.wrap ((k : Int) - p - 1) = (k : Int) - p - 1 := by rw [IntWalk.i64_in _ (by omega)]
      have d3 : IntKind.i64.wrap (64 - r) = 64 - r := by rw [IntWalk.i64_in _ (by omega)]
      have d4 : 0 ≤ 64 - r := by omega
      have c0 : wr.cell? ⟨w.heap.size, 0, none⟩ = some (.int .u64 x0) := (r0'.cell 0).trans rfl
      have c1 : wr.cell? ⟨w.heap.size, 1, none⟩ = some (.int .u64 x1) := (r0'.cell 1).trans rfl
      have c2 : wr.cell? ⟨w.heap.size, 2, none⟩ = some (.int .u64 x2) := (r0'.cell 2).trans rfl
      have c3 : wr.cell? ⟨w.heap.size, 3, none⟩ = some (.int .u64 x3) := (r0'.cell 3).trans rfl
      have s2 := r2.lt
      have s0 : w.heap.size < wr.heap.size := by omega
      have s1 : w.heap.size + 1 < wr.heap.size := by omega
      clear r0' r1' r2 hrows
      generalize (upL [x0, x1, x2, x3] p r k).getD k 0 = z at *
      go_wp2_with fail
      go_region_held3 (fun u => u.cell? ⟨w.heap.size, 0, none⟩ = some (.int .u64 x0) ∧ u.cell? ⟨w.heap.size, 1, none⟩ = some (.int .u64 x1) ∧ u.cell? ⟨w.heap.size, 2, none⟩ = some (.int .u64 x2) ∧ u.cell? ⟨w.heap.size, 3, none⟩ = some (.int .u64 x3)) (first | exact ⟨c0, c1, c2, c3⟩ | (simp [go_sem, World.cell?_alloc_past, s0, s2, c0, c1, c2, c3]; done)) (first | (go_at_call 71; refine (part_z _ _ _ _ _ _).mono ?_; rintro e w' ⟨rfl, rfl⟩))
      clear d1 d2 d3 d4
      go_wp2
      go_roundw
      case rel =>
        refine ⟨k + 1, by omega, by go_num, (((hbl.setCell (by simp; omega) _).alloc (by simp; omega) _).alloc (by simp; omega) _).drew, ((R0.out.farAt (by omega) _).alloc _).alloc _, ((R1.out.farAt (by omega) _).alloc _).alloc _, ?_⟩
        rw [hL.out, ← hput.out]
        exact ((R2.out.put k _).alloc _).alloc _
      case measure => simp [intOf]; omega
    · obtain rfl : k = 4 := by omega
      have hsz := Lib.hid (arrW_size 4 (upL [x0, x1, x2, x3] p r 4) (by rw [upL_len]; omega))
      have hz0 := Lib.hid (arrW_size 4 [] (by simp))
      have ho := Lib.hid (arrW_one 4 (upL [x0, x1, x2, x3] p r 4))
      have R1 : Hid (wr.heap[w.heap.size + 1]? = some (.cells (arrW 4 []) 26 (0, 0))) := r1'
      have R2 : Hid (wr.heap[w.heap.size + 1 + 1]? = some (.cells (arrW 4 (upL [x0, x1, x2, x3] p r 4)) 26 (0, 0))) := r2
      clear r0' r1' r2 hrows
      generalize hE : arrW 4 (upL [x0, x1, x2, x3] p r 4) = cs at *
      have HE := Lib.hid hE
      clear hE
      generalize arrW 4 [] = zs at *
      go_wp2_with (first
        | ((with_reducible refine wpList_load_row (o := ⟨some 39, _, _, _, _, _⟩) ?_ 26 (.tmp 5) ?_ (w.heap.size + 1 + 1) ?_ 26 cs (0, 0) _ R2.out Tryd.underlying26 ?_ (infoW cs hsz.out) ?_); (rfl); (rfl); (rfl); (rfl))
        | ((with_reducible refine wpList_store_row (o := ⟨none, .store 26 _ _, _, _, _, _⟩) ?_ 26 (.tmp 4) (.tmp 39) ?_ (w.heap.size + 1) cs ?_ ?_ 26 zs R1.out (infoW cs hsz.out) (by rw [hz0.out, hsz.out]) ho.out ?_); (rfl); (rfl); (rfl); (rfl))
        | ((with_reducible refine bodyPost_ret (v := .agg cs) ?_ ?_ ?_); (exact results_cell_row (p := 4) (ty := 26) Tryd.results50 _ _ (w.heap.size + 1) 26 cs (0, 0) _ rfl (setRow_heap _ _ zs cs 26 (0, 0) R1.out) Tryd.underlying26 rfl (infoW cs hsz.out)); (rfl)))
      exact ⟨by rw [HP.out, HR.out, HE.out], below_setRow hbl (by omega) _⟩
set_option maxHeartbeats 4000000 in
theorem up_neg (x0 x1 x2 x3 n : Int) (w : World) (h0 : n < 0) :
    Calls Tryd.prog 50 #[.agg (arrW 4 [x0, x1, x2, x3]), .int .i64 n] w fun e w' => e = .returned (.agg (arrW 4 [x0, x1, x2, x3])) ∧ Below w.heap.size w w' := by
  change Calls Tryd.prog 50 #[.agg #[.int .u64 x0, .int .u64 x1, .int .u64 x2, .int .u64 x3], .int .i64 n] w fun e w' => e = .returned (.agg #[.int .u64 x0, .int .u64 x1, .int .u64 x2, .int .u64 x3]) ∧ Below w.heap.size w w'
  go_enter Tryd.func50, Tryd.ntmps50
  go_wp2
  go_returns
  exact ⟨rfl, by go_grown⟩
set_option maxHeartbeats 4000000 in
theorem downw_any (x0 x1 x2 x3 n : Int) (w : World) (h0 : 0 ≤ n) (h1 : n ≤ 9223372036854775807) :
    Calls Tryd.prog 56 #[.agg (arrW 4 [x0, x1, x2, x3]), .int .i64 n] w fun e w' => e = .returned (.agg (arrW 4 (downL [x0, x1, x2, x3] (n / 64) (n % 64) 4))) ∧ Below w.heap.size w w' := by
  go_enter Tryd.func56, Tryd.ntmps56
  go_wp2_with fail
  have p0 : 0 ≤ n / 64 := by omega
  have p1 : n / 64 ≤ 144115188075855872 := by omega
  have r0 : 0 ≤ n % 64 := by omega
  have r1 : n % 64 < 64 := by omega
  generalize hp : n / 64 = p at *
  generalize hr : n % 64 = r at *
  have HP := Lib.hid hp
  have HR := Lib.hid hr
  clear hp hr h0 h1
  go_loopw [16] (fun i u => ∃ k : Nat, k ≤ 4 ∧ i = .int .i64 k ∧ Below w.heap.size w u ∧ Hid (Row u w.heap.size 26 (arrW 4 [x0, x1, x2, x3]) ∧ Row u (w.heap.size + 1) 26 (arrW 4 []) ∧ Row u (w.heap.size + 1 + 1) 26 (arrW 4 (downL [x0, x1, x2, x3] p r k)))) (fun i _ => 4 - (intOf i).toNat)
  case atStart => exact ⟨0, by omega, rfl, by go_grown, ((Row.new w 26 _).alloc _).alloc _, (Row.newAt (by simp) 26 _).alloc _, Row.newAt (by simp) 26 _⟩
  case round =>
    obtain ⟨k, hk, rfl, hbl, hrows⟩ := hrel
    obtain ⟨r0', r1', r2⟩ := hrows.out
    by_cases hlt : k < 4
    · have R0 := Lib.hid r0'
      have R1 := Lib.hid r1'
      have R2 := Lib.hid r2
      have e2 := (r2.cell k).trans (arrW_get 4 _ k (by rw [downL_len]; omega) hlt)
      have f2 := r2.frozen k
      have hput := Lib.hid (arrW_put_at 4 (downL [x0, x1, x2, x3] p r k) (downW [x0, x1, x2, x3] p r k) k (downL_len _ _ _ _) hlt)
      have hL : Hid (downL [x0, x1, x2, x3] p r (k + 1) = downL [x0, x1, x2, x3] p r k ++ [downW [x0, x1, x2, x3] p r k]) := rfl
      have hk0 : (0 : Int) ≤ (k : Int) := by omega
      have hk4 : (k : Int) < 4 := by omega
      have d1 : IntKind.i64.wrap ((k : Int) + p) = (k : Int) + p := by rw [IntWalk.i64_in _ (by omega)]
      have d2 : IntKind.i64.wrap ((k : Int) + p + 1) = (k : Int) + p + 1 := by rw [IntWalk.i64_in _ (by omega)]
      have d3 : IntKind.i64.wrap (64 - r) = 64 - r := by rw [IntWalk.i64_in _ (by omega)]
      have d4 : 0 ≤ 64 - r := by omega
      have c0 : wr.cell? ⟨w.heap.size, 0, none⟩ = some (.int .u64 x0) := (r0'.cell 0).trans rfl
      have c1 : wr.cell? ⟨w.heap.size, 1, none⟩ = some (.int .u64 x1) := (r0'.cell 1).trans rfl
      have c2 : wr.cell? ⟨w.heap.size, 2, none⟩ = some (.int .u64 x2) := (r0'.cell 2).trans rfl
      have c3 : wr.cell? ⟨w.heap.size, 3, none⟩ = some (.int .u64 x3) := (r0'.cell 3).trans rfl
      have s2 := r2.lt
      have s0 : w.heap.size < wr.heap.size := by omega
      have s1 : w.heap.size + 1 < wr.heap.size := by omega
      clear r0' r1' r2 hrows
      generalize (downL [x0, x1, x2, x3] p r k).getD k 0 = z at *
      go_wp2_with fail
      go_region_held3 (fun u => u.cell? ⟨w.heap.size, 0, none⟩ = some (.int .u64 x0) ∧ u.cell? ⟨w.heap.size, 1, none⟩ = some (.int .u64 x1) ∧ u.cell? ⟨w.heap.size, 2, none⟩ = some (.int .u64 x2) ∧ u.cell? ⟨w.heap.size, 3, none⟩ = some (.int .u64 x3)) (first | exact ⟨c0, c1, c2, c3⟩ | (simp [go_sem, World.cell?_alloc_past, s0, s2, c0, c1, c2, c3]; done)) (first | (go_at_call 71; refine (part_z _ _ _ _ _ _).mono ?_; rintro e w' ⟨rfl, rfl⟩))
      clear d1 d2 d3 d4
      go_wp2
      go_roundw
      case rel =>
        refine ⟨k + 1, by omega, by go_num, (((hbl.setCell (by simp; omega) _).alloc (by simp; omega) _).alloc (by simp; omega) _).drew, ((R0.out.farAt (by omega) _).alloc _).alloc _, ((R1.out.farAt (by omega) _).alloc _).alloc _, ?_⟩
        rw [hL.out, ← hput.out]
        exact ((R2.out.put k _).alloc _).alloc _
      case measure => simp [intOf]; omega
    · obtain rfl : k = 4 := by omega
      have hsz := Lib.hid (arrW_size 4 (downL [x0, x1, x2, x3] p r 4) (by rw [downL_len]; omega))
      have hz0 := Lib.hid (arrW_size 4 [] (by simp))
      have ho := Lib.hid (arrW_one 4 (downL [x0, x1, x2, x3] p r 4))
      have R1 : Hid (wr.heap[w.heap.size + 1]? = some (.cells (arrW 4 []) 26 (0, 0))) := r1'
      have R2 : Hid (wr.heap[w.heap.size + 1 + 1]? = some (.cells (arrW 4 (downL [x0, x1, x2, x3] p r 4)) 26 (0, 0))) := r2
      clear r0' r1' r2 hrows
      generalize hE : arrW 4 (downL [x0, x1, x2, x3] p r 4) = cs at *
      have HE := Lib.hid hE
      clear hE
      generalize arrW 4 [] = zs at *
      go_wp2_with (first
        | ((with_reducible refine wpList_load_row (o := ⟨some 39, _, _, _, _, _⟩) ?_ 26 (.tmp 5) ?_ (w.heap.size + 1 + 1) ?_ 26 cs (0, 0) _ R2.out Tryd.underlying26 ?_ (infoW cs hsz.out) ?_); (rfl); (rfl); (rfl); (rfl))
        | ((with_reducible refine wpList_store_row (o := ⟨none, .store 26 _ _, _, _, _, _⟩) ?_ 26 (.tmp 4) (.tmp 39) ?_ (w.heap.size + 1) cs ?_ ?_ 26 zs R1.out (infoW cs hsz.out) (by rw [hz0.out, hsz.out]) ho.out ?_); (rfl); (rfl); (rfl); (rfl))
        | ((with_reducible refine bodyPost_ret (v := .agg cs) ?_ ?_ ?_); (exact results_cell_row (p := 4) (ty := 26) Tryd.results56 _ _ (w.heap.size + 1) 26 cs (0, 0) _ rfl (setRow_heap _ _ zs cs 26 (0, 0) R1.out) Tryd.underlying26 rfl (infoW cs hsz.out)); (rfl)))
      exact ⟨by rw [HP.out, HR.out, HE.out], below_setRow hbl (by omega) _⟩
end Go.Proofs.YtmpjgfecnnefeaaDoor
