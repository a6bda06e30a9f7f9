/- Part of a proof. -/
import Derived.Test.YtcodmedgkboohaaDoorCd
import Derived.Laws.Bits64b
import Derived.Great.FillDense
import Derived.Laws.StructEq
import Derived.Laws.OwnMore
import Derived.Deep.WholeRow
namespace Go.Proofs.YtcodmedgkboohaaDoor
set_option maxRecDepth 8000

structure InR where
  tx : List Int
  i : Int
deriving DecidableEq
structure OutR where
  v : Int
  to : Int
deriving DecidableEq
structure TxR where
  ins : List InR
  outs : List OutR
deriving DecidableEq
def noTx : TxR := ⟨[], []⟩
def okIn (x : InR) : Prop := isId x.tx ∧ I64 x.i
def okOut (o : OutR) : Prop := I64 o.v ∧ I64 o.to
def okX (t : TxR) : Prop := (∀ x ∈ t.ins, okIn x) ∧ ∀ o ∈ t.outs, okOut o
def mayIn (x : InR) : Bool := decide (0 ≤ x.i ∧ x.i ≤ 2)
def mayOut (o : OutR) : Bool := decide (1 ≤ o.v ∧ o.v ≤ 1099511627776 ∧ 0 ≤ o.to ∧ o.to ≤ 255)
def mayX (t : TxR) : Bool := decide (t.ins.length ≤ 3 ∧ 1 ≤ t.outs.length ∧ t.outs.length ≤ 3 ∧ (∀ x ∈ t.ins, mayIn x = true) ∧ t.ins.Nodup ∧ ∀ o ∈ t.outs, mayOut o = true)
def sameX (a b : TxR) : Bool := decide (a = b)
def inB (x : InR) : List Int := x.tx ++ [x.i]
def outB (o : OutR) : List Int := putL o.v.toNat 6 ++ [o.to]
def bodyX (t : TxR) : List Int := [(t.ins.length : Int)] ++ ((t.ins.map inB).flatten ++ ((t.outs.length : Int) :: (t.outs.map outB).flatten))
def putX (t : TxR) : List Int × Bool := if mayX t then (bodyX t, true) else ([], false)
def inOf (r : List Int) : InR := ⟨r.take 32, r.getD 32 0⟩
def outOf (r : List Int) : OutR := ⟨(getL (r.take 6) : Int), r.getD 6 0⟩
def rowsAt (z : Nat) (b : List Int) (o n : Nat) : List (List Int) := (List.range n).map fun i => (b.drop (o + z * i)).take z
def nIn (b : List Int) : Nat := (b.getD 0 0).toNat
def atO (b : List Int) : Nat := 1 + 33 * nIn b
def nOut (b : List Int) : Nat := (b.getD (atO b) 0).toNat
def lenOK (b : List Int) : Bool := decide (b.length ≠ 0 ∧ atO b < b.length ∧ b.length = atO b + (1 + 7 * nOut b))
def parseX (b : List Int) : TxR := ⟨(rowsAt 33 b 1 (nIn b)).map inOf, (rowsAt 7 b (atO b + 1) (nOut b)).map outOf⟩
def mayReadX (b : List Int) : Bool := lenOK b && mayX (parseX b)
def readX (b : List Int) : TxR × Bool := if mayReadX b then (parseX b, true) else (noTx, false)
def idX (t : TxR) : List Int := if mayX t then sumL (6 :: bodyX t) else z32
def idsX (l : List TxR) : List (List Int) := l.map idX
theorem mayX_iff {t : TxR} : mayX t = true ↔ (t.ins.length ≤ 3 ∧ 1 ≤ t.outs.length ∧ t.outs.length ≤ 3 ∧ (∀ x ∈ t.ins, 0 ≤ x.i ∧ x.i ≤ 2) ∧ t.ins.Nodup ∧ ∀ o ∈ t.outs, 1 ≤ o.v ∧ o.v ≤ 1099511627776 ∧ 0 ≤ o.to ∧ o.to ≤ 255) := by
  unfold mayX mayIn mayOut
  simp only [decide_eq_true_eq]
theorem idX_id (t : TxR) : isId (idX t) := by
  unfold idX
  split
  · exact ⟨sumL_len _, sumL_byte _⟩
  · exact ⟨rfl, fun y hy => by rw [List.eq_of_mem_replicate hy]; decide⟩
theorem idsX_ids (l : List TxR) : isIds (idsX l) := fun x hx => by
  obtain ⟨t, _, rfl⟩ := List.mem_map.1 hx
  exact idX_id t
/-- rows that stand one behind another -/
theorem rows_chunk (z : Nat) (b : List Int) (o : Nat) : ∀ n, o + z * n ≤ b.length → (rowsAt z b o n).flatten = (b.drop o).take (z * n)
  | 0, _ => by simp [rowsAt]
  | n + 1, h => by
    have ih := rows_chunk z b o n (by rw [Nat.mul_succ] at h; omega)
    unfold rowsAt at ih ⊢
    rw [List.range_succ, List.map_append, List.flatten_append, ih, List.map_singleton, List.flatten_singleton, Nat.mul_succ, ← List.drop_drop, List.take_add]
theorem rows_len (z : Nat) (b : List Int) (o n : Nat) : (rowsAt z b o n).length = n := by unfold rowsAt; rw [List.length_map, List.length_range]
theorem rows_row {z : Nat} {b : List Int} {o n : Nat} (h : o + z * n ≤ b.length) : ∀ r ∈ rowsAt z b o n, r.length = z := fun r hr => by
  unfold rowsAt at hr
  obtain ⟨i, hi, rfl⟩ := List.mem_map.1 hr
  have hi' := List.mem_range.1 hi
  have : z * (i + 1) ≤ z * n := Nat.mul_le_mul_left z hi'
  rw [List.length_take, List.length_drop]
  rw [Nat.mul_succ] at this
  omega
theorem rows_byte {z : Nat} {b : List Int} {o n : Nat} (hb : isB b) : ∀ r ∈ rowsAt z b o n, isB r := fun r hr x hx => by
  unfold rowsAt at hr
  obtain ⟨i, _, rfl⟩ := List.mem_map.1 hr
  exact hb x (List.mem_of_mem_drop (List.mem_of_mem_take hx))
theorem rows_of (z : Nat) : ∀ (L : List (List Int)) (pre post : List Int), (∀ r ∈ L, r.length = z) → rowsAt z (pre ++ (L.flatten ++ post)) pre.length L.length = L
  | [], _, _, _ => rfl
  | x :: L, pre, post, h => by
    have hx := h x (List.mem_cons_self ..)
    have ih := rows_of z L (pre ++ x) post (fun r hr => h r (List.mem_cons_of_mem _ hr))
    unfold rowsAt at ih ⊢
    rw [List.length_cons, List.range_succ_eq_map, List.map_cons, List.map_map, List.flatten_cons]
    congr 1
    · rw [Nat.mul_zero, Nat.add_zero, List.drop_left' rfl, List.append_assoc, List.take_left' hx]
    · refine Eq.trans (List.map_congr_left fun i hi => ?_) ih
      show ((pre ++ (x ++ L.flatten ++ post)).drop (pre.length + z * (i + 1))).take z = ((pre ++ x ++ (L.flatten ++ post)).drop ((pre ++ x).length + z * i)).take z
      rw [List.length_append, hx, Nat.mul_succ, show pre.length + (z * i + z) = pre.length + z + z * i by omega, List.append_assoc, List.append_assoc]
theorem inOf_inB {x : InR} (h : isId x.tx) : inOf (inB x) = x := by
  unfold inOf inB
  have e1 : (x.tx ++ [x.i]).take 32 = x.tx := List.take_left' h.1
  have e2 : (x.tx ++ [x.i]).getD 32 0 = x.i := by rw [List.getD_eq_getElem?_getD, List.getElem?_append_right (by rw [h.1]; exact Nat.le_refl _), h.1]; rfl
  rw [e1, e2]
theorem inB_inOf {r : List Int} (h : r.length = 33) : inB (inOf r) = r := by
  unfold inOf inB
  have e : r.getD 32 0 = r[32] := by rw [List.getD_eq_getElem?_getD, List.getElem?_eq_getElem (by omega)]; rfl
  rw [e, ← List.take_succ_eq_append_getElem (by omega), List.take_of_length_le (by omega)]
theorem outOf_outB {o : OutR} (h : mayOut o = true) : outOf (outB o) = o := by
  unfold mayOut at h
  rw [decide_eq_true_eq] at h
  unfold outOf outB
  have e1 : (putL o.v.toNat 6 ++ [o.to]).take 6 = putL o.v.toNat 6 := List.take_left' (putL_len _ _)
  have e2 : (putL o.v.toNat 6 ++ [o.to]).getD 6 0 = o.to := by rw [List.getD_eq_getElem?_getD, List.getElem?_append_right (by rw [putL_len]; exact Nat.le_refl _), putL_len]; rfl
  rw [e1, e2, getL_putL]
  have e3 : ((o.v.toNat % 256 ^ 6 : Nat) : Int) = o.v := by omega
  rw [e3]
theorem outB_outOf {r : List Int} (h : r.length = 7) (hb : isB r) : outB (outOf r) = r := by
  unfold outOf outB
  have hb6 : isB (r.take 6) := fun x hx => hb x (List.mem_of_mem_take hx)
  have e : r.getD 6 0 = r[6] := by rw [List.getD_eq_getElem?_getD, List.getElem?_eq_getElem (by omega)]; rfl
  have e2 := putL_getL (r.take 6) hb6
  rw [List.length_take, show min 6 r.length = 6 by omega] at e2
  simp only [Int.toNat_natCast]
  rw [e2, e, ← List.take_succ_eq_append_getElem (by omega), List.take_of_length_le (by omega)]
theorem insB_len {l : List InR} (h : ∀ x ∈ l, okIn x) : ∀ r ∈ l.map inB, r.length = 33 := fun r hr => by
  obtain ⟨x, hx, rfl⟩ := List.mem_map.1 hr
  unfold inB
  rw [List.length_append, (h x hx).1.1]
  rfl
theorem outsB_len (l : List OutR) : ∀ r ∈ l.map outB, r.length = 7 := fun r hr => by
  obtain ⟨x, hx, rfl⟩ := List.mem_map.1 hr
  unfold outB
  rw [List.length_append, putL_len]
  rfl
theorem flat_len {z : Nat} : ∀ {L : List (List Int)}, (∀ r ∈ L, r.length = z) → L.flatten.length = z * L.length
  | [], _ => by simp
  | x :: L, h => by
    rw [List.flatten_cons, List.length_append, h x (List.mem_cons_self ..), flat_len (L := L) (fun r hr => h r (List.mem_cons_of_mem _ hr)), List.length_cons, Nat.mul_succ]
    omega
theorem bodyX_len {t : TxR} (h : okX t) : (bodyX t).length = 2 + 33 * t.ins.length + 7 * t.outs.length := by
  have h1 := flat_len (insB_len h.1)
  have h2 := flat_len (outsB_len t.outs)
  rw [List.length_map] at h1 h2
  unfold bodyX
  simp only [List.length_append, List.length_cons, List.length_nil, h1, h2]
  omega
theorem bodyX_byte {t : TxR} (h : okX t) (hm : mayX t = true) : isB (bodyX t) := by
  obtain ⟨h1, h2, h3, h4, _, h5⟩ := mayX_iff.1 hm
  unfold bodyX
  rw [isB_append, isB_append]
  refine ⟨fun y hy => ?_, fun y hy => ?_, fun y hy => ?_⟩
  · cases List.mem_singleton.1 hy; omega
  · obtain ⟨r, hr, hy⟩ := List.mem_flatten.1 hy
    obtain ⟨x, hx, rfl⟩ := List.mem_map.1 hr
    rcases List.mem_append.1 hy with e | e
    · exact (h.1 x hx).1.2 y e
    · cases List.mem_singleton.1 e
      have := h4 x hx
      omega
  · rcases List.mem_cons.1 hy with e | e
    · omega
    · obtain ⟨r, hr, hy⟩ := List.mem_flatten.1 e
      obtain ⟨x, hx, rfl⟩ := List.mem_map.1 hr
      rcases List.mem_append.1 hy with e | e
      · exact putL_byte _ _ y e
      · cases List.mem_singleton.1 e
        have := h5 x hx
        omega
theorem body_in (t : TxR) : nIn (bodyX t) = t.ins.length := by
  show ((t.ins.length : Int)).toNat = _
  exact Int.toNat_natCast _
theorem body_at (t : TxR) : atO (bodyX t) = 1 + 33 * t.ins.length := by unfold atO; rw [body_in]
theorem body_out {t : TxR} (h : okX t) : nOut (bodyX t) = t.outs.length := by
  unfold nOut
  rw [body_at]
  have hl := flat_len (insB_len h.1)
  rw [List.length_map] at hl
  have e : (bodyX t).getD (1 + 33 * t.ins.length) 0 = (t.outs.length : Int) := by
    rw [List.getD_eq_getElem?_getD]
    unfold bodyX
    rw [List.getElem?_append_right (by show 1 ≤ _; omega)]
    show (((t.ins.map inB).flatten ++ ((t.outs.length : Int) :: (t.outs.map outB).flatten))[1 + 33 * t.ins.length - 1]?).getD 0 = _
    rw [show 1 + 33 * t.ins.length - 1 = 33 * t.ins.length by omega, List.getElem?_append_right (by rw [hl]; exact Nat.le_refl _), hl, Nat.sub_self]
    rfl
  rw [e, Int.toNat_natCast]
theorem body_lenOK {t : TxR} (h : okX t) : lenOK (bodyX t) = true := by
  unfold lenOK
  rw [decide_eq_true_eq, body_at, body_out h, bodyX_len h]
  omega
theorem parse_body {t : TxR} (h : okX t) (hm : mayX t = true) : parseX (bodyX t) = t := by
  have hmx := mayX_iff.1 hm
  have hl := flat_len (insB_len h.1)
  rw [List.length_map] at hl
  have e1 : rowsAt 33 (bodyX t) 1 (nIn (bodyX t)) = t.ins.map inB := by
    have := rows_of 33 (t.ins.map inB) [(t.ins.length : Int)] ((t.outs.length : Int) :: (t.outs.map outB).flatten) (insB_len h.1)
    rw [List.length_map] at this
    rw [body_in]
    exact this
  have e2 : rowsAt 7 (bodyX t) (atO (bodyX t) + 1) (nOut (bodyX t)) = t.outs.map outB := by
    have := rows_of 7 (t.outs.map outB) ([(t.ins.length : Int)] ++ ((t.ins.map inB).flatten ++ [(t.outs.length : Int)])) [] (outsB_len t.outs)
    rw [List.length_map, List.append_nil] at this
    rw [body_at, body_out h]
    have el : ([(t.ins.length : Int)] ++ ((t.ins.map inB).flatten ++ [(t.outs.length : Int)])).length = 1 + 33 * t.ins.length + 1 := by
      rw [List.length_append, List.length_append, hl]
      show 1 + (33 * t.ins.length + 1) = _
      omega
    rw [el] at this
    rw [← this]
    unfold bodyX
    simp only [List.append_assoc, List.singleton_append, List.cons_append, List.nil_append]
  unfold parseX
  rw [e1, e2, List.map_map, List.map_map]
  have k1 : t.ins.map (inOf ∘ inB) = t.ins := by
    conv => rhs; rw [← List.map_id t.ins]
    exact List.map_congr_left fun x hx => inOf_inB (h.1 x hx).1
  have k2 : t.outs.map (outOf ∘ outB) = t.outs := by
    conv => rhs; rw [← List.map_id t.outs]
    refine List.map_congr_left fun o ho => outOf_outB ?_
    unfold mayX at hm
    rw [decide_eq_true_eq] at hm
    exact hm.2.2.2.2.2 o ho
  rw [k1, k2]
theorem read_bodyX {t : TxR} (h : okX t) (hm : mayX t = true) : readX (bodyX t) = (t, true) := by
  have e := parse_body h hm
  unfold readX
  rw [if_pos (by unfold mayReadX; rw [body_lenOK h, e, hm]; rfl), e]
theorem lenOK_iff {b : List Int} : lenOK b = true ↔ (b.length ≠ 0 ∧ atO b < b.length ∧ b.length = atO b + (1 + 7 * nOut b)) := by unfold lenOK; rw [decide_eq_true_eq]
/-- what has the right length is what its parts are put as -/
theorem body_parse {b : List Int} (hb : isB b) (hl : lenOK b = true) : okX (parseX b) ∧ bodyX (parseX b) = b := by
  obtain ⟨h0, h1, h2⟩ := lenOK_iff.1 hl
  have hr1 : 1 + 33 * nIn b ≤ b.length := by unfold atO at h1; omega
  have hr2 : atO b + 1 + 7 * nOut b ≤ b.length := by omega
  have hg : ∀ i, i < b.length → ((b.getD i 0).toNat : Int) = b.getD i 0 := fun i hi => by
    rw [List.getD_eq_getElem?_getD, List.getElem?_eq_getElem hi]
    have := hb b[i] (List.getElem_mem _)
    simp only [Option.getD_some]
    omega
  constructor
  · constructor
    · intro x hx
      obtain ⟨r, hr, rfl⟩ := List.mem_map.1 hx
      have hl := rows_row hr1 r hr
      have hB := rows_byte hb r hr
      refine ⟨⟨by unfold inOf; rw [List.length_take]; omega, fun y hy => hB y (List.mem_of_mem_take hy)⟩, ?_⟩
      show I64 (r.getD 32 0)
      rw [List.getD_eq_getElem?_getD, List.getElem?_eq_getElem (by omega)]
      have := hB r[32] (List.getElem_mem _)
      unfold I64
      simp only [Option.getD_some]
      omega
    · intro x hx
      obtain ⟨r, hr, rfl⟩ := List.mem_map.1 hx
      have hl := rows_row hr2 r hr
      have hB := rows_byte hb r hr
      have hlt := getL_lt (r.take 6) (fun y hy => hB y (List.mem_of_mem_take hy))
      rw [List.length_take, show min 6 r.length = 6 by omega] at hlt
      constructor
      · show I64 ((getL (r.take 6) : Nat) : Int)
        unfold I64
        omega
      · show I64 (r.getD 6 0)
        rw [List.getD_eq_getElem?_getD, List.getElem?_eq_getElem (by omega)]
        have := hB r[6] (List.getElem_mem _)
        unfold I64
        simp only [Option.getD_some]
        omega
  · unfold bodyX parseX
    simp only
    rw [List.length_map, List.length_map, rows_len, rows_len, List.map_map, List.map_map]
    have k1 : (rowsAt 33 b 1 (nIn b)).map (inB ∘ inOf) = rowsAt 33 b 1 (nIn b) := by
      conv => rhs; rw [← List.map_id (rowsAt 33 b 1 (nIn b))]
      exact List.map_congr_left fun r hr => inB_inOf (rows_row hr1 r hr)
    have k2 : (rowsAt 7 b (atO b + 1) (nOut b)).map (outB ∘ outOf) = rowsAt 7 b (atO b + 1) (nOut b) := by
      conv => rhs; rw [← List.map_id (rowsAt 7 b (atO b + 1) (nOut b))]
      exact List.map_congr_left fun r hr => outB_outOf (rows_row hr2 r hr) (rows_byte hb r hr)
    rw [k1, k2, rows_chunk _ _ _ _ hr1, rows_chunk _ _ _ _ hr2]
    have e0 : ((nIn b : Nat) : Int) = b.getD 0 0 := hg 0 (by omega)
    have e1 : ((nOut b : Nat) : Int) = b.getD (atO b) 0 := hg _ h1
    rw [e0, e1]
    have d : ∀ i, i < b.length → b.getD i 0 :: b.drop (i + 1) = b.drop i := fun i hi => by
      rw [List.getD_eq_getElem?_getD, List.getElem?_eq_getElem hi]
      exact (List.drop_eq_getElem_cons hi).symm
    have t2 : (b.drop (atO b + 1)).take (7 * nOut b) = b.drop (atO b + 1) := List.take_of_length_le (by rw [List.length_drop]; omega)
    rw [t2, d _ h1]
    have e3 : b.drop (atO b) = (b.drop 1).drop (33 * nIn b) := by rw [List.drop_drop]; rfl
    rw [e3, List.take_append_drop]
    exact d 0 (by omega)
theorem bodyX_inj {s t : TxR} (hs : okX s) (ht : okX t) (ms : mayX s = true) (mt : mayX t = true) (e : bodyX s = bodyX t) : s = t := by
  rw [← parse_body hs ms, ← parse_body ht mt, e]
theorem readX_snd (b : List Int) : (readX b).2 = mayReadX b := by unfold readX; cases h : mayReadX b <;> rfl
theorem readX_no {b : List Int} (h : mayReadX b = false) : readX b = (noTx, false) := by unfold readX; rw [if_neg (by rw [h]; decide)]
end Go.Proofs.YtcodmedgkboohaaDoor

namespace Go.Proofs.YtcodmedgkboohaaDoor
set_option maxRecDepth 8000
open Go

def Big : Nat := 115792089237316195423570985008687907853269984665640564039457584007913129639936
end Go.Proofs.YtcodmedgkboohaaDoor

namespace Go.Proofs.YtcodmedgkboohaaDoor
set_option maxRecDepth 8000
open Go

/-- word j of a number -/
def W (m j : Nat) : Nat := m / 2 ^ (64 * j) % 2 ^ 64
end Go.Proofs.YtcodmedgkboohaaDoor

namespace Go.Proofs.YtcodmedgkboohaaDoor
set_option maxRecDepth 8000

structure Tot where
  h : List Int
  w : Nat
  n : Int
theorem Tot.ext' {a b : Tot} (h1 : a.h = b.h) (h2 : a.w = b.w) (h3 : a.n = b.n) : a = b := by
  cases a; cases b; simp_all
instance : DecidableEq Tot := fun a b => decidable_of_iff (a.h = b.h ∧ a.w = b.w ∧ a.n = b.n) ⟨fun h => Tot.ext' h.1 h.2.1 h.2.2, fun h => by subst h; exact ⟨rfl, rfl, rfl⟩⟩
def noTot : Tot := ⟨sumL [4], 0, 0⟩
end Go.Proofs.YtcodmedgkboohaaDoor

namespace Go.Proofs.YtcodmedgkboohaaDoor
set_option maxRecDepth 8000
open Go.RowKit

def seqAt (place : Nat → Option (Nat × Nat)) : Nat → List (Nat × Value) → Prop
  | _, [] => True
  | o, (i, v) :: ps => place i = some (o, v.cells.size) ∧ seqAt place (o + v.cells.size) ps
def cellsOfP (ps : List (Nat × Value)) : List Value := (ps.map fun p => p.2.cells.toList).flatten
theorem fill_step (o : Nat) (v zs : Array Value) (hz : o + v.size ≤ zs.size) : ((v.toList.zipIdx 0).foldl (fun cs (x : Value × Nat) => cs.setIfInBounds (o + x.2) x.1) zs).toList = zs.toList.take o ++ v.toList ++ zs.toList.drop (o + v.size) := by
  obtain ⟨g1, g2⟩ := Great.foldl_set o v.toList 0 zs
  apply List.ext_getElem?
  intro k
  have hA : (zs.toList.take o).length = o := by rw [List.length_take, Array.length_toList]; omega
  have hAV : (zs.toList.take o ++ v.toList).length = o + v.size := by rw [List.length_append, hA, Array.length_toList]
  rw [Array.getElem?_toList, g2 k, Array.length_toList, Nat.add_zero]
  by_cases a1 : k < o
  · rw [if_neg (by omega), List.getElem?_append_left (by omega), List.getElem?_append_left (by omega), List.getElem?_take_of_lt a1, Array.getElem?_toList]
  · by_cases a2 : k < o + v.size
    · rw [if_pos (by omega), List.getElem?_append_left (by omega), List.getElem?_append_right (by omega), hA]
    · rw [if_neg (by omega), List.getElem?_append_right (by omega), hAV, List.getElem?_drop, Array.getElem?_toList]
      congr 1
      omega
theorem fill_seq {place : Nat → Option (Nat × Nat)} : ∀ (ps : List (Nat × Value)) (o : Nat) (zs : Array Value), seqAt place o ps → o + (cellsOfP ps).length ≤ zs.size →
    ∃ r, Instr.fill place zs ps = some r ∧ r.toList = zs.toList.take o ++ cellsOfP ps ++ zs.toList.drop (o + (cellsOfP ps).length)
  | [], o, zs, _, _ => ⟨zs, rfl, by simp [cellsOfP]⟩
  | (i, v) :: ps, o, zs, h, hz => by
    obtain ⟨h1, h2⟩ := h
    have hl : (cellsOfP ((i, v) :: ps)).length = v.cells.size + (cellsOfP ps).length := by simp [cellsOfP]
    obtain ⟨g1, g2⟩ := Great.foldl_set o v.cells.toList 0 zs
    have e1 : v.cells.zipIdx.foldl (fun cs (x : Value × Nat) => cs.setIfInBounds (o + x.2) x.1) zs = (v.cells.toList.zipIdx 0).foldl (fun cs (x : Value × Nat) => cs.setIfInBounds (o + x.2) x.1) zs := by rw [← Array.foldl_toList, Array.toList_zipIdx]
    obtain ⟨r, hr, hrl⟩ := fill_seq ps (o + v.cells.size) ((v.cells.toList.zipIdx 0).foldl (fun cs (x : Value × Nat) => cs.setIfInBounds (o + x.2) x.1) zs) h2 (by rw [g1]; omega)
    refine ⟨r, ?_, ?_⟩
    · unfold Instr.fill
      simp only [h1, e1]
      split
      · rename_i h
        simp at h
        omega
      · exact hr
    · have hc : cellsOfP ((i, v) :: ps) = v.cells.toList ++ cellsOfP ps := by simp [cellsOfP]
      rw [hrl, hc, fill_step o v.cells zs (by omega)]
      have hA : (zs.toList.take o ++ v.cells.toList).length = o + v.cells.size := by
        rw [List.length_append, List.length_take, Array.length_toList, Array.length_toList]
        omega
      have hd : (zs.toList.take o ++ v.cells.toList ++ zs.toList.drop (o + v.cells.size)).drop (o + v.cells.size + (cellsOfP ps).length) = zs.toList.drop (o + (v.cells.toList ++ cellsOfP ps).length) := by
        rw [List.drop_append, List.drop_of_length_le (by omega), List.nil_append, List.drop_drop, hA]
        congr 1
        have hvl : v.cells.toList.length = v.cells.size := Array.length_toList
        simp only [List.length_append, hvl]
        omega
      rw [hd, List.take_left' hA]
      simp only [List.append_assoc]
theorem fill_all {place : Nat → Option (Nat × Nat)} {ps : List (Nat × Value)} {zs : Array Value} (h : seqAt place 0 ps) (hz : zs.size = (cellsOfP ps).length) : Instr.fill place zs ps = some (cellsOfP ps).toArray := by
  obtain ⟨r, hr, hl⟩ := fill_seq ps 0 zs h (by omega)
  rw [hr]
  congr 1
  apply Array.ext'
  rw [hl]
  simp only [List.take_zero, List.nil_append, Nat.zero_add]
  rw [List.drop_of_length_le (by rw [Array.length_toList]; omega), List.append_nil]
/-- a struct's literal: all its fields -/
theorem built_struct {t : TypeId} {fields : Array Field} {places : List (Nat × Nat)} {n : Nat} (hu : Tryd.prog.underlying t = some (.struct fields)) (hn : (Tryd.prog.info? t).map (fun i => i.zero.map (·.cells.size)) = some (some n))
    (hp : fields.toList.mapM (fun f => (Tryd.prog.info? f.type).map fun i => (f.offset, i.size)) = some places) {ps : List (Nat × Value)} (h : seqAt (places.toArray[·]?) 0 ps) (hz : n = (cellsOfP ps).length) : Tryd.prog.built t ps = some (cellsOfP ps).toArray := by
  cases hq : Tryd.prog.info? t with
  | none => rw [hq] at hn; cases hn
  | some it =>
    rw [hq] at hn
    simp only [Option.map_some, Option.some.injEq] at hn
    cases hzz : it.zero with
    | none => rw [hzz] at hn; cases hn
    | some z =>
      rw [hzz] at hn
      simp only [Option.map_some, Option.some.injEq] at hn
      unfold Program.built
      simp only [hq, hu, hzz, hp]
      exact fill_all h (by omega)
end Go.Proofs.YtcodmedgkboohaaDoor

namespace Go.Proofs.YtcodmedgkboohaaDoor
set_option maxRecDepth 8000
open Go.RowKit

def InI (r : Int) : Prop := -9223372036854775808 ≤ r ∧ r ≤ 9223372036854775807
theorem wrap64_in {r : Int} (h : InI r) : IntKind.i64.wrap r = r := by unfold InI at h; rw [IntKind.wrap_i64]; omega
theorem oneInt : ∀ w, (isAgg 3).run Tryd.prog w = .ok false w := fun w => by simp [isAgg, run_underlying Tryd.underlying3]
theorem oneIds : ∀ w, (isAgg 44).run Tryd.prog w = .ok false w := fun w => by simp [isAgg, run_underlying Tryd.underlying44]
section
variable {a : Act} {dst : Option Tmp} {x y : Operand} {ty : TypeId} {pos : String} {after : Array Edge} {gd : Option (Nat × Bool)}
theorem sub_op {m k r : Int} (u : World) (hr : m - k = r) (hb : InI r) (hx : a.eval x = .int .i64 m) (hy : a.eval y = .int .i64 k) :
    (execOp a.eval ⟨dst, .binOp .sub 3 x y 3, ty, pos, after, gd⟩).run Tryd.prog u = .ok (.value (.int .i64 r)) u := by
  have hw := wrap64_in hb
  subst hr
  unfold execOp
  simp only [hx, hy]
  go_simp
theorem add_op {m k r : Int} (u : World) (hr : m + k = r) (hb : InI r) (hx : a.eval x = .int .i64 m) (hy : a.eval y = .int .i64 k) :
    (execOp a.eval ⟨dst, .binOp .add 3 x y 3, ty, pos, after, gd⟩).run Tryd.prog u = .ok (.value (.int .i64 r)) u := by
  have hw := wrap64_in hb
  subst hr
  unfold execOp
  simp only [hx, hy]
  go_simp
theorem eqlI_op {m k : Int} {b : Bool} (u : World) (hb : decide (m = k) = b) (hx : a.eval x = .int .i64 m) (hy : a.eval y = .int .i64 k) :
    (execOp a.eval ⟨dst, .binOp .eql 3 x y 3, ty, pos, after, gd⟩).run Tryd.prog u = .ok (.value (.bool b)) u := by
  subst hb
  unfold execOp
  simp only [hx, hy]
  go_simp
  rfl
theorem buildA_op {t : TypeId} {parts : Array (Nat × Operand)} {cs : Array Value} (u : World) (hb : Tryd.prog.built t (parts.toList.map fun x => (x.1, a.eval x.2)) = some cs) :
    (execOp a.eval ⟨dst, .build t parts, ty, pos, after, gd⟩).run Tryd.prog u = .ok (.value (.agg cs)) u := by
  have hb' : Tryd.prog.built t (parts.map fun (i, x) => (i, a.eval x)).toList = some cs := by
    rw [Array.toList_map]
    exact hb
  unfold execOp
  simp only [Sem.run_bind, Sem.run_pure, run_build u t _ _ hb', Result.andThen_ok]
end
end Go.Proofs.YtcodmedgkboohaaDoor

namespace Go.Proofs.YtcodmedgkboohaaDoor
set_option maxRecDepth 8000
open Go.RowKit

def okT (t : Tot) : Prop := (t.h.length = 32 ∧ ∀ b ∈ t.h, 0 ≤ b ∧ b ≤ 255) ∧ t.w < Big ∧ -9223372036854775808 ≤ t.n ∧ t.n ≤ 9223372036854775807
def len32 (t : Tot) : Prop := t.h.length = 32
theorem idA_list {h : List Int} (hh : h.length = 32) : (arrB 32 h).toList.length = 32 := by rw [Array.length_toList]; exact arrB_size _ _ (by omega)
theorem cell_of_all {a : Array Value} (h : a.all (·.oneCell') = true) : ∀ u ∈ a.toList, u.oneCell' = true := fun u hu => by
  obtain ⟨i, hi, rfl⟩ := Array.mem_iff_getElem.1 (Array.mem_toList_iff.1 hu)
  exact Array.all_eq_true.1 h i hi
theorem aggIdT : AggT 37 32 := ⟨fun w => by simp [isAgg, run_underlying Tryd.underlying37], by kernel_rfl⟩
theorem agg_list (a : Array Value) : Value.agg a.toList.toArray = .agg a := by rw [Array.toArray_toList]
section
variable {w0 u : World} {M : Boxes} {g : Nat} {ty : TypeId} {t : Tot}
end
def okTs (l : List Tot) : Prop := ∀ t ∈ l, okT t
theorem okT.len {t : Tot} (h : okT t) : len32 t := h.1.1
theorem okTs.get {l : List Tot} (h : okTs l) {i : Nat} (hi : i < l.length) : okT (l.getD i noTot) := by
  rw [List.getD_eq_getElem?_getD, List.getElem?_eq_getElem hi]
  exact h _ (List.getElem_mem hi)
theorem okTs.take {l : List Tot} (h : okTs l) (k : Nat) : okTs (l.take k) := fun x hx => h x (List.mem_of_mem_take hx)
theorem okTs.drop {l : List Tot} (h : okTs l) (k : Nat) : okTs (l.drop k) := fun x hx => h x (List.mem_of_mem_drop hx)
theorem run_equalIn_id (d : Nat) (xs ys : List Int) (hx : xs.length = 32) (hy : ys.length = 32) (w : World) : (Op.equalIn (d + 2) 37 (.agg (arrB 32 xs)) (.agg (arrB 32 ys))).run Tryd.prog w = .ok (eqL xs ys) w := by
  cases hq : Tryd.prog.info? 5 with
  | none => have := infoB; rw [hq] at this; cases this
  | some i =>
    have h := run_equalIn_array (P := Tryd.prog) w (d + 1) (arrB 32 xs) (arrB 32 ys) Tryd.underlying37 hq
    rw [cellsB, run_items d xs ys hx hy w (List.range 32) (by simp)] at h
    have e : decide (∀ i ∈ List.range 32, xs.getD i 0 = ys.getD i 0) = eqL xs ys := decide_eq_decide.2 (list_eq_iff xs ys hx hy)
    rw [e] at h
    exact h
theorem run_part_agg {e : TypeId} {z : Nat} (D : AggT e z) {cs v : Array Value} {off : Nat} (hv : cs.extract off (off + z) = v) (w : World) : (part e cs off).run Tryd.prog w = .ok (.agg v) w := by
  have hs := D.size
  cases hq : Tryd.prog.info? e with
  | none => rw [hq] at hs; cases hs
  | some k =>
    rw [hq] at hs
    simp only [Option.map_some, Option.some.injEq] at hs
    have hsz : (sizeOf e).run Tryd.prog w = .ok z w := by simp [sizeOf, typeInfo, hq, hs]
    simp [part, D.agg, hsz, hv]
theorem ext_list {a : Array Value} {k z : Nat} {l : List Value} (h : (a.toList.drop k).take z = l) : a.extract k (k + z) = l.toArray := by
  apply Array.ext'
  rw [Array.toList_extract, ← h]
  simp [List.extract_eq_take_drop]
theorem eqFields_step {d : Nat} {xs ys : Array Value} {f : Field} {fs : List Field} {w : World} {a b : Value} {r : Bool} (hn : f.name ≠ "_") (pa : (part f.type xs f.offset).run Tryd.prog w = .ok a w) (pb : (part f.type ys f.offset).run Tryd.prog w = .ok b w)
    (hr : (Op.equalIn d f.type a b).run Tryd.prog w = .ok r w) : (Op.eqFields d xs ys (f :: fs)).run Tryd.prog w = if r = true then (Op.eqFields d xs ys fs).run Tryd.prog w else .ok false w := by
  rw [Op.eqFields, if_pos hn]
  simp only [Sem.run_bind, pa, pb, hr, Result.andThen_ok]
  cases r with
  | false => rfl
  | true => rfl
end Go.Proofs.YtcodmedgkboohaaDoor

namespace Go.Proofs.YtcodmedgkboohaaDoor
set_option maxRecDepth 8000
open Go.RowKit

theorem elB : ElemT 26 5 1 1 (.int .u8 0) := ⟨Tryd.underlying26, by kernel_rfl, rfl, by decide, by decide, by decide⟩
section
variable {a : Act} {dst : Option Tmp} {x : Operand} {ty : TypeId} {pos : String} {after : Array Edge} {gd : Option (Nat × Bool)}
theorem sliceArr_op {ad : Addr} (u : World) (hx : a.eval x = .pointer (some ad)) :
    (execOp a.eval ⟨dst, .slice 37 x none none none, ty, pos, after, gd⟩).run Tryd.prog u = .ok (.value (.slice (some ad) 32 32)) u := by
  unfold execOp
  simp only [hx]
  go_simp
end
end Go.Proofs.YtcodmedgkboohaaDoor

namespace Go.Proofs.YtcodmedgkboohaaDoor
set_option maxRecDepth 8000
open Go.RowKit

section
variable {st e : TypeId} {z bytes : Nat} {zero : Value}
/-- the cells of a source -/
def SrcAt (u : World) (ad : Addr) (ys : List Value) : Prop := ∀ j c, ys[j]? = some c → u.cell? (ad.add j) = some c
theorem src_box {w0 u : World} {M : Boxes} {g : Nat} {t : TypeId} {cs : Array Value} {ys : List Value} (hu : EnvC w0 M u) (hm : (g, Obj.cells cs t (0, 0)) ∈ M) {k : Nat} (h : (cs.toList.drop k).take ys.length = ys) : SrcAt u ⟨g, k, none⟩ ys := by
  intro j c hc
  rw [Addr.add_mid]
  refine box_cell hu hm ?_
  have hj : j < ys.length := by
    rcases Nat.lt_or_ge j ys.length with h' | h'
    · exact h'
    · rw [List.getElem?_eq_none h'] at hc; cases hc
  rw [← h, List.getElem?_take_of_lt hj, List.getElem?_drop, Array.getElem?_toList] at hc
  exact hc
theorem appX_op (T : ElemT st e z bytes zero) {w0 u : World} {M : Boxes} (M0 : Boxes) {N : Boxes} {n m c : Nat} {xs : List Value} {v : Value} {ys : List Value} {ad : Addr} {a : Act} {dst : Option Tmp} {y x : Operand} {pos : String} {after : Array Edge} {gd : Option (Nat × Bool)}
    (hu : EnvX w0 u M) (hl : xs.length = n * z) (hy : ys.length = m * z) (h1 : ∀ u ∈ ys, u.oneCell' = true) (hF : FreshR e z n xs v N) (hN : ∀ y ∈ N, y ∈ M ∧ w0.heap.size ≤ y.1) (hc : SrcAt u ad ys) (hM0 : ∀ z ∈ M0, z ∈ M ∧ ∀ y ∈ N, z.1 ≠ y.1) (hs : n + m ≤ 2000000)
    (hyv : a.eval y = v) (hx : a.eval x = .slice (some ad) m c) :
    ∃ v' u' M', (execOp a.eval ⟨dst, .call { callee := .builtin .append, args := #[y, x], argTypes := #[st, st] }, st, pos, after, gd⟩).run Tryd.prog u = .ok (.value v') u' ∧ EnvX w0 u' M' ∧ GrownR w0 e z (n + m) (xs ++ ys) M0 v' M' := by
  have hown : u.ownsRow w0.heap.size e z v n xs := hF.own hl (fun y hy => ⟨(hN y hy).2, hu.box _ _ (hN y hy).1⟩)
  obtain ⟨v', u', hrun, hown', hgr, hob⟩ := appendR T (c := c) hown hy hc h1 hs hu.bel.size
  obtain ⟨N', hF', hN'⟩ := fresh_of_own hown'
  refine ⟨v', u', N' ++ M0, ?_, ?_, N', rfl, hF', ?_⟩
  · unfold execOp
    simp only [resolve, invoke, builtin, Sem.run_bind, Sem.run_pure, Result.andThen_ok, List.map_toArray, List.map_cons, List.map_nil, hyv, hx, hrun]
  · have hbel : Below w0.heap.size u u' := below_of_grown hgr (fun r hr => (hown.lt r hr).1) hu.bel.size
    refine ⟨hu.bel.trans hbel, fun g' o hm => ?_⟩
    rcases List.mem_append.1 hm with e | e
    · exact (hN' _ e).2.1
    · have hin := hM0 _ e
      rw [hgr.block g' (hu.lt hin.1) (fun e2 => by
        obtain ⟨o2, ho2⟩ := hF.block g' e2.symm
        exact hin.2 _ ho2 rfl)]
      exact hu.box _ _ hin.1
  · intro y hy
    refine ⟨(hN' y hy).1, fun z hz e => ?_⟩
    have hb := (hN' y hy).2.2
    have hin := hM0 z hz
    rcases hob with h | h
    · obtain ⟨o2, ho2⟩ := hF.block y.1 (h.symm.trans hb)
      exact hin.2 _ ho2 e
    · have h1 := hu.lt (g := z.1) (o := z.2) hin.1
      have h2 : u.heap.size = y.1 := Option.some.inj (h.symm.trans hb)
      omega
end
end Go.Proofs.YtcodmedgkboohaaDoor

namespace Go.Proofs.YtcodmedgkboohaaDoor
set_option maxRecDepth 8000
open Go.RowKit

theorem run_callV {P : Program} {a : Act} {x : Operand} {f : FuncId} {caps args all : Array Value} {xs : Array Operand} {ats : Array TypeId} {fn : Func} {c : Code} {dst : Option Tmp} {ty : TypeId} {pos : String} {after : Array Edge} {gd : Option (Nat × Bool)} (hx : a.eval x = .func (.func f) #[] caps) (hargs : xs.toList.map a.eval = args.toList)
    (hall : args.toList ++ caps.toList = all.toList) (hfn : P.funcs[f]? = some fn) (hname : (fn.name == "runtime.NumGoroutine") = false) (hb : fn.body = some c) (u : World) :
    (execOp a.eval ⟨dst, .call { callee := .value x, args := xs, argTypes := ats }, ty, pos, after, gd⟩).run P u = .ok (.enter f all) u := by
  have ha : xs.map a.eval = args := by
    apply Array.ext'
    rw [Array.toList_map]
    exact hargs
  have h2 : args ++ caps = all := by
    apply Array.ext'
    rw [Array.toList_append]
    exact hall
  unfold execOp
  simp only [resolve, hx, ha, Deferred.ofValue, invoke, Sem.run_bind, Sem.run_pure, Result.andThen_ok, Array.empty_append, h2]
  exact run_enter hfn hname hb _ u
section
variable {P : Program} {Γ : HP} {l : List Oper} {C : World → Prop} {Q : Act → Prop} {a : Act} {i : Nat} {rest : List Nat} {dst : Option Tmp} {ty : TypeId} {pos : String} {after : Array Edge} {gd : Option (Nat × Bool)}
theorem wpG_callV {f : FuncId} {x : Operand} {xs : Array Operand} {ats : Array TypeId} {fn : Func} {c : Code} {v : Value} {args caps all : Array Value} (ho : l[i]? = some ⟨dst, .call { callee := .value x, args := xs, argTypes := ats }, ty, pos, after, gd⟩)
    (hw : Region.wanted ⟨dst, .call { callee := .value x, args := xs, argTypes := ats }, ty, pos, after, gd⟩ (yielded l.toArray a.tmps) = true)
    (hx : a.eval x = .func (.func f) #[] caps) (hargs : xs.toList.map a.eval = args.toList) (hall : args.toList ++ caps.toList = all.toList) (hfn : P.funcs[f]? = some fn) (hname : (fn.name == "runtime.NumGoroutine") = false) (hb : fn.body = some c)
    (hcall : ∀ u, C u → Calls P f all u (fun e w'' => e = .returned v ∧ Below u.heap.size u w''))
    (h : ∀ K : Act → Prop, (∀ a, wpG P l C Q rest a → K a) → Oper.quiet P ⟨dst, .move (.const v), ty, pos, after, gd⟩ a C K) {u0 : World} (h0 : C u0) : wpG P l C Q (i :: rest) a := by
  refine ⟨?_⟩
  unfold wpG0
  simp only [ho]
  rw [if_pos hw]
  obtain ⟨v', hv, hK⟩ := h (wpG0 P l C Q rest) (fun _ h => h.out)
  have e : v' = v := by
    have h1 := hv u0 h0
    unfold Oper.quietAt execOp at h1
    exact h1.2.symm
  rw [e] at hK
  refine ⟨v, fun u hu => ?_, hK⟩
  unfold GAt
  rw [run_callV hx hargs hall hfn hname hb u]
  exact ⟨rfl, hcall u hu⟩
theorem hOp_putAt {P : Program} {ops : Array Oper} {w0 : World} {i : Nat} {K : Act → Boxes → Prop} {a : Act} {M : Boxes} {ty : TypeId} {pos : String} {after : Array Edge} {ty' : TypeId} {x y : Operand} (ho : ops[i]? = some ⟨none, .store ty' x y, ty, pos, after, none⟩)
    (g k : Nat) (v : Value) (hx : a.eval x = .pointer (some ⟨g, k, none⟩)) (hy : a.eval y = v) (hg : w0.heap.size ≤ g) (t : TypeId) (old cs : Array Value) (hm : (g, Obj.cells old t (0, 0)) ∈ M)
    (hi : (P.info? ty').map (·.size) = some v.cells.size) (hk : k + v.cells.size ≤ old.size) (h1 : v.cells.all (·.oneCell') = true) (hcs : old.toList.take k ++ v.cells.toList ++ old.toList.drop (k + v.cells.size) = cs.toList) (M' : Boxes) (hM' : ∀ x ∈ M', x = (g, Obj.cells cs t (0, 0)) ∨ (x ∈ M ∧ x.1 ≠ g))
    (h : (∃ u, EnvX w0 u M') → K a M') (hkeep : ∀ x ∈ Γ.keep i, x ∈ M → x ∈ M' := by exact no_keep) : hOp (Γ := Γ) P ops w0 i K a M := hOp_storeAt ho g k v hx hy hg t old cs hm hi hk h1 hcs M' hM' h hkeep
end
section
variable {a : Act} {dst : Option Tmp} {x y : Operand} {ty : TypeId} {pos : String} {after : Array Edge} {gd : Option (Nat × Bool)}
theorem sizeOf_info {e : TypeId} {z : Nat} (h : (Tryd.prog.info? e).map (·.size) = some z) (u : World) : (sizeOf e).run Tryd.prog u = .ok z u := by
  cases hq : Tryd.prog.info? e with
  | none => rw [hq] at h; cases h
  | some k =>
    rw [hq] at h
    simp only [Option.map_some, Option.some.injEq] at h
    simp [sizeOf, typeInfo, hq, h]
theorem idxArr_op {t e : TypeId} {len z : Nat} (hu : Tryd.prog.underlying t = some (.array len e)) (hz : (Tryd.prog.info? e).map (·.size) = some z) {g o i : Nat} (hi : i < len) (u : World)
    (hx : a.eval x = .pointer (some ⟨g, o, none⟩)) (hy : a.eval y = .int .i64 (i : Int)) :
    (execOp a.eval ⟨dst, .indexAddr t x y, ty, pos, after, gd⟩).run Tryd.prog u = .ok (.value (.pointer (some ⟨g, o + i * z, none⟩))) u := by
  have hl : Tryd.prog.arrayLen t = len := by simp [Program.arrayLen, hu]
  have he : Tryd.prog.elem t = e := by simp [Program.elem, hu]
  have hr := run_indexAt_array (P := Tryd.prog) u t ⟨g, o, none⟩ .i64 (i : Int) (by rw [hl, he]; exact hu)
  rw [hl, he, if_pos ⟨by omega, by omega⟩, sizeOf_info hz u, Result.andThen_ok, Int.toNat_natCast, Addr.add_mid] at hr
  unfold execOp
  simp only [hx, hy, Sem.run_bind, Sem.run_pure, hr, Result.andThen_ok]
theorem idxSl_op {t e : TypeId} {z : Nat} (hu : Tryd.prog.underlying t = some (.slice e)) (hz : (Tryd.prog.info? e).map (·.size) = some z) {ad : Addr} {n c i : Nat} (hi : i < n) (u : World)
    (hx : a.eval x = .slice (some ad) n c) (hy : a.eval y = .int .i64 (i : Int)) :
    (execOp a.eval ⟨dst, .indexAddr t x y, ty, pos, after, gd⟩).run Tryd.prog u = .ok (.value (.pointer (some (ad.add (i * z))))) u := by
  have he : Tryd.prog.elem t = e := by simp [Program.elem, hu]
  have hr := run_indexAt_slice (P := Tryd.prog) u t ad n c .i64 (i : Int) (by rw [he]; exact hu)
  rw [he, if_pos ⟨by omega, by omega⟩, sizeOf_info hz u, Result.andThen_ok, Int.toNat_natCast] at hr
  unfold execOp
  simp only [hx, hy, Sem.run_bind, Sem.run_pure, hr, Result.andThen_ok]
theorem len_op {t e : TypeId} (hu : Tryd.prog.underlying t = some (.slice e)) {A : Option Addr} {n c : Nat} (hn : n < 9223372036854775808) (u : World) (hx : a.eval x = .slice A n c) :
    (execOp a.eval ⟨dst, .call { callee := .builtin .len, args := #[x], argTypes := #[t] }, ty, pos, after, gd⟩).run Tryd.prog u = .ok (.value (.int .i64 (n : Int))) u := by
  have he : Tryd.prog.elem t = e := by simp [Program.elem, hu]
  have hr := run_len_slice (P := Tryd.prog) u t ty A n c (by rw [he]; exact hu)
  have hg : goInt n = .int .i64 (n : Int) := rfl
  unfold execOp
  simp only [resolve, invoke, builtin, Sem.run_bind, Sem.run_pure, Result.andThen_ok, List.map_toArray, List.map_cons, List.map_nil, hx, hr, hg]
theorem new_of {t : TypeId} {z : Value} {n : Nat} (h : (Tryd.prog.info? t).map (fun i => (i.zero, i.size)) = some (some z, n)) (a : Act) : NewAt Tryd.prog ⟨dst, .alloc t, ty, pos, after, gd⟩ a (.cells z.cells t (0, 0)) := fun u => by
  have hz := (zero_of_info h).1
  unfold execOp
  simp [Instr.alloc, hz, newVar, newRow]
end
end Go.Proofs.YtcodmedgkboohaaDoor

namespace Go.Proofs.YtcodmedgkboohaaDoor
set_option maxRecDepth 8000
open Go.RowKit

theorem u8_one {xs : List Int} : ∀ u ∈ xs.map u8v, u.oneCell' = true := fun u hu => by
  obtain ⟨z, _, rfl⟩ := List.mem_map.1 hu
  rfl
section
variable {a : Act} {dst : Option Tmp} {x y z : Operand} {ty : TypeId} {pos : String} {after : Array Edge} {gd : Option (Nat × Bool)}
theorem conv_u64_op {n : Int} {m : Nat} (u : World) (h : IntKind.u64.wrap n = (m : Int)) (hx : a.eval x = .int .i64 n) :
    (execOp a.eval ⟨dst, .convert 3 54 x, ty, pos, after, gd⟩).run Tryd.prog u = .ok (.value (.int .u64 (m : Int))) u := by
  rw [← h]
  unfold execOp
  simp only [hx]
  go_simp
/-- one new byte -/
theorem FAt_byte1 (k : Int) (u : World) : FAt Tryd.prog ⟨dst, .buildSlice 26 1 #[(0, .const (.int .u8 k))], ty, pos, after, gd⟩ a (fun v N => ∃ g, v = .slice (some ⟨g, 0, none⟩) 1 1 ∧ N = [(g, Obj.cells #[.int .u8 k] 5 (0, 0))]) u := by
  have h : (execOp a.eval ⟨dst, .buildSlice 26 1 #[(0, .const (.int .u8 k))], ty, pos, after, gd⟩).run Tryd.prog u = .ok (.value (.slice (some ⟨u.heap.size, 0, none⟩) 1 1)) (u.alloc (.cells #[.int .u8 k] 5)) := by
    unfold execOp
    go_simp
  unfold FAt
  rw [h]
  refine ⟨(Below.refl _ _).alloc (Nat.le_refl _) _, _, ⟨_, rfl, rfl⟩, fun y hy => ?_⟩
  cases List.mem_singleton.1 hy
  exact ⟨Nat.le_refl _, heap_alloc_new u _⟩
end
theorem arrId_map {h : List Int} (hh : h.length = 32) : (arrB 32 h).toList = h.map u8v := by
  unfold arrB
  rw [hh]
  simp
/-- bytes in a box -/
theorem boxR_bytes {w0 u : World} {M : Boxes} {g cap n : Nat} {cur : Array Value} {xs : List Int} (hu : EnvC w0 M u) (hm : (g, Obj.cells cur 5 (0, 0)) ∈ M) (hl : xs.length = n) (h : n ≤ cap ∧ cap ≤ maxLen ∧ cur.size = cap * 1 ∧ cur.toList.take (n * 1) = xs.map u8v) : Bytes u u.heap.size (some ⟨g, 0, none⟩) xs := by
  subst hl
  exact box_bytes hu hm h
end Go.Proofs.YtcodmedgkboohaaDoor

namespace Go.Proofs.YtcodmedgkboohaaDoor
set_option maxRecDepth 8000
open Go.RowKit

theorem CellsIn.take {w : World} {B : Nat} {A : Option Addr} {xs : List Value} (h : CellsIn w B A xs) (k : Nat) : CellsIn w B A (xs.take k) := by
  intro hp
  rw [List.length_take] at hp
  obtain ⟨ad, e, hb, hc⟩ := h (by omega)
  refine ⟨ad, e, hb, fun j v hv => hc j v ?_⟩
  have hj : j < k := by
    rcases Nat.lt_or_ge j k with h' | h'
    · exact h'
    · rw [List.getElem?_eq_none (by rw [List.length_take]; omega)] at hv
      cases hv
  rwa [List.getElem?_take_of_lt hj] at hv
/-- where a cut slice begins -/
def cutX (z : Nat) (A : Option Addr) (l c : Nat) : Option Addr := if c = l then A else A.map (·.add (l * z))
theorem CellsIn.drop {w : World} {B : Nat} {A : Option Addr} {xs : List Value} (h : CellsIn w B A xs) (z k c : Nat) (hc : k < c ∨ xs.length ≤ k * z) : CellsIn w B (cutX z A k c) (xs.drop (k * z)) := by
  intro hp
  rw [List.length_drop] at hp
  obtain ⟨ad, rfl, hlt, hcell⟩ := h (by omega)
  have hne : ¬ c = k := by rcases hc with h | h <;> omega
  refine ⟨ad.add (k * z), by simp [cutX, hne], by rw [block_of_add]; exact hlt, fun j v hv => ?_⟩
  rw [add_addN]
  refine hcell (k * z + j) v ?_
  rwa [List.getElem?_drop] at hv
section
variable {st e : TypeId} {z bytes : Nat} {zero : Value}
theorem ElemT.elem (T : ElemT st e z bytes zero) : Tryd.prog.elem st = e := by simp [Program.elem, T.und]
theorem ElemT.sizeOf (T : ElemT st e z bytes zero) (w : World) : (Go.sizeOf e).run Tryd.prog w = .ok z w := by
  have h := T.info
  cases hq : Tryd.prog.info? e with
  | none => rw [hq] at h; cases h
  | some i =>
    rw [hq] at h
    simp only [Option.map_some, Option.some.injEq, Prod.mk.injEq] at h
    simp [Go.sizeOf, typeInfo, hq, h.2.1]
theorem run_cutX_h (T : ElemT st e z bytes zero) (A : Option Addr) (n c h : Nat) (w : World) (h2 : h ≤ c) :
    (Instr.sliceAt st (.slice A n c) none (some (.int .i64 (h : Int))) none).run Tryd.prog w = .ok (.slice A h c) w := by
  have ht' : Tryd.prog.underlying st = some (.slice (Tryd.prog.elem st)) := by rw [T.elem]; exact T.und
  rw [run_sliceAt_slice w _ _ _ _ _ ht', run_slice_h w st _ _ _ ht' .i64 _ (by omega) (by omega), T.elem, T.sizeOf]
  have e : (fun a : Addr => a.add (0 * z)) = id := by
    funext a
    simp [Addr.add]
  simp only [Result.andThen, sliced, e, Option.map_id, Int.toNat_natCast, Nat.sub_zero, ite_self, id]
theorem run_cutX_l (T : ElemT st e z bytes zero) (A : Option Addr) (n c l : Nat) (w : World) (h1 : l ≤ n) :
    (Instr.sliceAt st (.slice A n c) (some (.int .i64 (l : Int))) none none).run Tryd.prog w = .ok (.slice (cutX z A l c) (n - l) (c - l)) w := by
  have ht' : Tryd.prog.underlying st = some (.slice (Tryd.prog.elem st)) := by rw [T.elem]; exact T.und
  rw [run_sliceAt_slice w _ _ _ _ _ ht', run_slice_l w st _ _ _ ht' .i64 _ (by omega) (by omega), T.elem, T.sizeOf]
  simp [Result.andThen, sliced, cutX]
variable {a : Act} {dst : Option Tmp} {x l h : Operand} {ty : TypeId} {pos : String} {after : Array Edge} {gd : Option (Nat × Bool)}
theorem cutXh_op (T : ElemT st e z bytes zero) {A : Option Addr} {n c j : Nat} (u : World) (h2 : j ≤ c) (hx : a.eval x = .slice A n c) (hh : a.eval h = .int .i64 (j : Int)) :
    (execOp a.eval ⟨dst, .slice st x none (some h) none, ty, pos, after, gd⟩).run Tryd.prog u = .ok (.value (.slice A j c)) u := by
  unfold execOp
  simp only [hx, hh, Option.map_some, Option.map_none, Sem.run_bind, Sem.run_pure, Result.andThen_ok, run_cutX_h T A n c j u h2]
theorem cutXl_op (T : ElemT st e z bytes zero) {A : Option Addr} {n c j : Nat} (u : World) (h2 : j ≤ n) (hx : a.eval x = .slice A n c) (hh : a.eval l = .int .i64 (j : Int)) :
    (execOp a.eval ⟨dst, .slice st x (some l) none none, ty, pos, after, gd⟩).run Tryd.prog u = .ok (.value (.slice (cutX z A j c) (n - j) (c - j))) u := by
  unfold execOp
  simp only [hx, hh, Option.map_some, Option.map_none, Sem.run_bind, Sem.run_pure, Result.andThen_ok, run_cutX_l T A n c j u h2]
end
end Go.Proofs.YtcodmedgkboohaaDoor

namespace Go.Proofs.YtcodmedgkboohaaDoor
set_option maxRecDepth 8000
open Go.RowKit

section
variable {a : Act} {dst : Option Tmp} {x y : Operand} {ty : TypeId} {pos : String} {after : Array Edge} {gd : Option (Nat × Bool)}
theorem ltZ_op {m k : Int} {b : Bool} (u : World) (hb : decide (m < k) = b) (hx : a.eval x = .int .i64 m) (hy : a.eval y = .int .i64 k) :
    (execOp a.eval ⟨dst, .binOp .lss 3 x y 3, ty, pos, after, gd⟩).run Tryd.prog u = .ok (.value (.bool b)) u := by
  subst hb
  unfold execOp
  simp only [hx, hy]
  go_simp
theorem gtZ_op {m k : Int} {b : Bool} (u : World) (hb : decide (k < m) = b) (hx : a.eval x = .int .i64 m) (hy : a.eval y = .int .i64 k) :
    (execOp a.eval ⟨dst, .binOp .gtr 3 x y 3, ty, pos, after, gd⟩).run Tryd.prog u = .ok (.value (.bool b)) u := by
  subst hb
  unfold execOp
  simp only [hx, hy]
  go_simp
theorem leZ_op {m k : Int} {b : Bool} (u : World) (hb : decide (m ≤ k) = b) (hx : a.eval x = .int .i64 m) (hy : a.eval y = .int .i64 k) :
    (execOp a.eval ⟨dst, .binOp .leq 3 x y 3, ty, pos, after, gd⟩).run Tryd.prog u = .ok (.value (.bool b)) u := by
  subst hb
  unfold execOp
  simp only [hx, hy]
  go_simp
theorem geZ_op {m k : Int} {b : Bool} (u : World) (hb : decide (k ≤ m) = b) (hx : a.eval x = .int .i64 m) (hy : a.eval y = .int .i64 k) :
    (execOp a.eval ⟨dst, .binOp .geq 3 x y 3, ty, pos, after, gd⟩).run Tryd.prog u = .ok (.value (.bool b)) u := by
  subst hb
  unfold execOp
  simp only [hx, hy]
  go_simp
end
end Go.Proofs.YtcodmedgkboohaaDoor
