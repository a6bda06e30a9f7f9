/- Part of a proof. -/
import Derived.Test.YtmpjgfecnnefeaaDoorCe
import Derived.BigQuiet
import Derived.Scope
import Derived.ScopeJumps
import Derived.WalkMore
import Derived.Laws.BytesArg
namespace Go.Proofs.YtmpjgfecnnefeaaDoor
set_option maxRecDepth 8000
open Go.RowKit

/-- a number's block -/
abbrev wo (n : Nat) : Obj := .cells (wcs n) 26 (0, 0)
/-- an id's block -/
abbrev io (f : Nat → Int) : Obj := .cells (idF f) 23 (0, 0)
theorem EnvX.cell {w u : World} {l : List (Nat × Obj)} (h : EnvX w u l) {g n : Nat} (hm : (g, wo n) ∈ l) (i : Nat) (hi : i < 4) : u.cell? ⟨g, i, none⟩ = some (.int .u64 (W n i)) :=
  ((h.row hm).cell i).trans (wc_get n i hi)

end Go.Proofs.YtmpjgfecnnefeaaDoor

namespace Go.Proofs.YtmpjgfecnnefeaaDoor
set_option maxRecDepth 8000
open Go.RowKit

theorem small_big {n : Nat} (h : n < 18446744073709551616) : n < Big := by unfold Big; omega

end Go.Proofs.YtmpjgfecnnefeaaDoor

namespace Go.Proofs.YtmpjgfecnnefeaaDoor
set_option maxRecDepth 8000

/-- a compact number -/
def isC (b : Nat) : Bool := decide (3 ≤ b / 16777216 ∧ b / 16777216 ≤ 32 ∧ 32768 ≤ b % 16777216 ∧ b % 16777216 ≤ 8388607)
/-- what it stands for -/
def tv (b : Nat) : Nat := if isC b then b % 16777216 * 2 ^ (8 * (b / 16777216 - 3)) else 0

theorem tv_lt (b : Nat) (h : 3 ≤ b / 16777216 ∧ b / 16777216 ≤ 32 ∧ 32768 ≤ b % 16777216 ∧ b % 16777216 ≤ 8388607) : b % 16777216 * 2 ^ (8 * (b / 16777216 - 3)) < Big := by
  rw [Big_eq]
  have h1 : (2 : Nat) ^ (8 * (b / 16777216 - 3)) ≤ 2 ^ 232 := Nat.pow_le_pow_right (by omega) (by omega)
  calc b % 16777216 * 2 ^ (8 * (b / 16777216 - 3)) ≤ 8388607 * 2 ^ 232 := Nat.mul_le_mul h.2.2.2 h1
    _ < 2 ^ 256 := by decide
theorem tv_big (b : Nat) : tv b < Big := by
  unfold tv
  split
  · rename_i h
    exact tv_lt b (of_decide_eq_true h)
  · exact Big_pos

def wkV (t : Nat) : Nat := if t + 1 < Big then Big / (t + 1) % Big else 1
theorem wk_prog {t : Nat} (h : t + 1 < Big) : ((Big - (t + 1)) / (t + 1) + 1) % Big = wkV t := by
  unfold wkV
  rw [if_pos h]
  have e : Big = (Big - (t + 1)) + (t + 1) := by omega
  have e2 : Big / (t + 1) = (Big - (t + 1)) / (t + 1) + 1 := by
    conv => lhs; rw [e]
    exact Nat.add_div_right _ (by omega)
  rw [e2]
/-- how many levels, of the first k, are reached: one more than the greatest -/
def lvC (n t : Nat) : Nat → Nat
  | 0 => 0
  | k + 1 => if n ≤ t / 2 ^ k then k + 1 else lvC n t k
theorem half_le (t : Nat) {i j : Nat} (h : i ≤ j) : t / 2 ^ j ≤ t / 2 ^ i := Nat.div_le_div_left (Nat.pow_le_pow_right (by omega) h) (Nat.pos_of_ne_zero (by simp))
theorem lvC_le (n t : Nat) : ∀ k, lvC n t k ≤ k
  | 0 => Nat.le_refl _
  | k + 1 => by
    unfold lvC
    split
    · omega
    · have := lvC_le n t k; omega
theorem lvC_iff (n t : Nat) : ∀ (k j : Nat), j < k → (j < lvC n t k ↔ n ≤ t / 2 ^ j)
  | 0, j, h => by omega
  | k + 1, j, h => by
    unfold lvC
    by_cases h1 : n ≤ t / 2 ^ k
    · rw [if_pos h1]
      have := half_le t (show j ≤ k by omega)
      exact ⟨fun _ => by omega, fun _ => h⟩
    · rw [if_neg h1]
      by_cases hj : j = k
      · subst hj
        have := lvC_le n t j
        exact ⟨fun h => by omega, fun h => absurd h h1⟩
      · exact lvC_iff n t k j (by omega)
/-- the level -/
def lvI (n t : Nat) : Int := (lvC n t 32 : Int) - 1
/-- the search from below ends at the first level that is not reached -/
theorem lvC_stop {n t k : Nat} (hk : k ≤ 32) (hall : ∀ j, j < k → n ≤ t / 2 ^ j) (hstop : k = 32 ∨ ¬ n ≤ t / 2 ^ k) : lvC n t 32 = k := by
  have h1 := lvC_le n t 32
  rcases Nat.lt_trichotomy (lvC n t 32) k with h | h | h
  · have := (lvC_iff n t 32 (lvC n t 32) (by omega)).2 (hall _ h)
    omega
  · exact h
  · rcases hstop with h2 | h2
    · omega
    · exact absurd ((lvC_iff n t 32 k (by omega)).1 h) h2
end Go.Proofs.YtmpjgfecnnefeaaDoor

namespace Go.Proofs.YtmpjgfecnnefeaaDoor
set_option maxRecDepth 8000
open Go.RowKit

theorem and32_nat (a b : Nat) (ha : a < 4294967296) (hb : b < 4294967296) : bits .and .u32 (a : Int) (b : Int) = ((a &&& b : Nat) : Int) := by
  have hx : a &&& b < 2 ^ 32 := Nat.and_lt_two_pow _ (by omega)
  have h1 : (BitVec.ofInt 32 (a : Int)).toNat = a := by
    rw [BitVec.ofInt_natCast, BitVec.toNat_ofNat]; exact Nat.mod_eq_of_lt (by omega)
  have h2 : (BitVec.ofInt 32 (b : Int)).toNat = b := by
    rw [BitVec.ofInt_natCast, BitVec.toNat_ofNat]; exact Nat.mod_eq_of_lt (by omega)
  show IntKind.u32.wrap ((BitVec.ofInt 32 (a : Int) &&& BitVec.ofInt 32 (b : Int)).toNat : Int) = _
  rw [BitVec.toNat_and, h1, h2]
  simp only [IntKind.wrap, IntKind.bits, IntKind.signed]
  simp
  omega
theorem low24 (b : Nat) (hb : b < 4294967296) : bits .and .u32 (b : Int) 16777215 = ((b % 16777216 : Nat) : Int) := by
  have h := and32_nat b 16777215 hb (by omega)
  rw [show (16777215 : Nat) = 2 ^ 24 - 1 by decide, Nat.and_two_pow_sub_one_eq_mod] at h
  exact h
set_option maxHeartbeats 4000000 in
theorem target_no (b E M : Nat) (w : World) (hE : (b : Int) / 16777216 = (E : Int)) (hM : bits .and .u32 (b : Int) 16777215 = (M : Int)) (hb : b < 4294967296) (h : ¬ (3 ≤ E ∧ E ≤ 32 ∧ 32768 ≤ M ∧ M ≤ 8388607)) :
    Calls Tryd.prog 25 #[.int .u32 b] w fun e w' => e = .returned (.tuple #[.agg (wcs 0), .bool false]) ∧ Below w.heap.size w w' := by
  go_enter Tryd.func25, Tryd.ntmps25
  by_cases h1 : (3 : Int) ≤ (E : Int)
  · by_cases h2 : (E : Int) ≤ 32
    · by_cases h3 : (32768 : Int) ≤ (M : Int)
      · have h4 : ¬ (M : Int) ≤ 8388607 := by omega
        go_wp2
        go_returns
        exact ⟨rfl, by go_grown⟩
      · go_wp2
        go_returns
        exact ⟨rfl, by go_grown⟩
    · go_wp2
      go_returns
      exact ⟨rfl, by go_grown⟩
  · go_wp2
    go_returns
    exact ⟨rfl, by go_grown⟩
set_option maxHeartbeats 4000000 in
theorem target_yes (b E M : Nat) (w : World) (hE : (b : Int) / 16777216 = (E : Int)) (hM : bits .and .u32 (b : Int) 16777215 = (M : Int)) (hb : b < 4294967296) (h1 : 3 ≤ E) (h2 : E ≤ 32) (h3 : 32768 ≤ M) (h4 : M ≤ 8388607) :
    Calls Tryd.prog 25 #[.int .u32 b] w fun e w' => e = .returned (.tuple #[.agg (wcs (M * 2 ^ (8 * (E - 3)) % Big)), .bool true]) ∧ Below w.heap.size w w' := by
  have HU : Hid (∀ u, Calls Tryd.prog 50 #[.agg (wcs M), .int .i64 (8 * ((E : Int) - 3))] u fun e w' => e = .returned (.agg (wcs (M * 2 ^ (8 * (E - 3)) % Big))) ∧ Below u.heap.size u w') := fun u => by
    have h9 := up_v M (8 * ((E : Int) - 3)) u (small_big (by omega)) (by omega)
    have e9 : upV M (8 * ((E : Int) - 3)) = M * 2 ^ (8 * (E - 3)) % Big := by
      unfold upV aUp
      rw [if_neg (by omega), show (8 * ((E : Int) - 3)).toNat = 8 * (E - 3) by omega]
    rw [e9] at h9
    exact h9
  generalize M * 2 ^ (8 * (E - 3)) % Big = N at *
  have z0 : Hid (Row (w.alloc (.cells #[.int .u64 0, .int .u64 0, .int .u64 0, .int .u64 0] 26)) w.heap.size 26 #[.int .u64 0, .int .u64 0, .int .u64 0, .int .u64 0]) := Row.new w 26 _
  have B0 : Hid (Below w.heap.size w (w.alloc (.cells #[.int .u64 0, .int .u64 0, .int .u64 0, .int .u64 0] 26))) := (Below.refl _ _).alloc (Nat.le_refl _) _
  go_enter Tryd.func25, Tryd.ntmps25
  go_wp2_with fail
  generalize w.alloc (.cells #[.int .u64 0, .int .u64 0, .int .u64 0, .int .u64 0] 26) = w0 at *
  refine (of_n M w0 (by omega)).mono ?_
  rintro e w1 ⟨rfl, hb1⟩
  have z1 := Lib.hid (z0.out.below hb1 z0.out.lt)
  have B1 := Lib.hid (B0.out.trans (hb1.mono B0.out.size))
  clear z0 B0 hb1
  go_wp2_with fail
  refine (HU.out w1).mono ?_
  rintro e w2 ⟨rfl, hb2⟩
  have z2 : Hid (w2.heap[w.heap.size]? = some (.cells #[.int .u64 0, .int .u64 0, .int .u64 0, .int .u64 0] 26 (0, 0))) := z1.out.below hb2 z1.out.lt
  have B2 := Lib.hid (B1.out.trans (hb2.mono B1.out.size))
  have hsz := Lib.hid (wc_size N)
  have ho := Lib.hid (wc_one N)
  clear z1 B1 hb2 HU
  generalize hc : wcs N = cs at *
  have HC := Lib.hid hc
  clear hc
  go_wp2_with (first
    | ((with_reducible refine wpList_store_row (o := ⟨none, .store 26 _ _, _, _, _, _⟩) ?_ 26 (.tmp 2) (.tmp 32) ?_ w.heap.size cs ?_ ?_ 26 _ z2.out (infoW cs hsz.out) ?_ ho.out ?_); (rfl); (rfl); (rfl); (rfl); (rw [hsz.out]; rfl))
    | ((with_reducible refine bodyPost_ret (v := .tuple #[.agg cs, .bool true]) ?_ ?_ ?_); (exact results_row_slot (p := 2) (q := 3) (ty := 26) Tryd.results25 _ _ w.heap.size 26 cs (0, 0) _ rfl _ rfl (setRow_heap _ _ _ cs 26 (0, 0) z2.out) Tryd.underlying26 rfl (infoW cs hsz.out)); (rfl)))
  exact ⟨by rw [HC.out], below_setRow B2.out (Nat.le_refl _) _⟩
theorem target_any (b : Nat) (w : World) (hb : b < 4294967296) :
    Calls Tryd.prog 25 #[.int .u32 b] w fun e w' => e = .returned (.tuple #[.agg (wcs (tv b)), .bool (isC b)]) ∧ Below w.heap.size w w' := by
  by_cases h : 3 ≤ b / 16777216 ∧ b / 16777216 ≤ 32 ∧ 32768 ≤ b % 16777216 ∧ b % 16777216 ≤ 8388607
  · have h9 := target_yes b (b / 16777216) (b % 16777216) w (by omega) (low24 b hb) hb h.1 h.2.1 h.2.2.1 h.2.2.2
    rw [Nat.mod_eq_of_lt (tv_lt b h)] at h9
    have e1 : isC b = true := decide_eq_true h
    have e2 : tv b = b % 16777216 * 2 ^ (8 * (b / 16777216 - 3)) := by unfold tv; rw [if_pos e1]
    rw [e1, e2]
    exact h9
  · have h9 := target_no b (b / 16777216) (b % 16777216) w (by omega) (low24 b hb) hb h
    have e1 : isC b = false := decide_eq_false h
    have e2 : tv b = 0 := by unfold tv; rw [e1]; rfl
    rw [e1, e2]
    exact h9
end Go.Proofs.YtmpjgfecnnefeaaDoor

namespace Go.Proofs.YtmpjgfecnnefeaaDoor
set_option maxRecDepth 8000
open Go.RowKit

theorem wcs_zero : wcs 0 = #[.int .u64 0, .int .u64 0, .int .u64 0, .int .u64 0] := rfl
theorem new_wide {dst : Option Tmp} {ty : TypeId} {pos : String} {after : Array Edge} {gd : Option (Nat × Bool)} (a : Act) : NewAt Tryd.prog ⟨dst, .alloc 26, ty, pos, after, gd⟩ a (wo 0) := fun u => by
  have h := wcs_zero
  unfold wo
  rw [h]
  go_simp
end Go.Proofs.YtmpjgfecnnefeaaDoor

namespace Go.Proofs.YtmpjgfecnnefeaaDoor
set_option maxRecDepth 8000
open Go.RowKit

theorem ret_num {k : IntKind} {a b : Int} (h : a = b) : Ending.returned (.int k a) = .returned (.int k b) := by rw [h]
theorem cmpI_lt {m n : Nat} (h : m < n) : cmpI m n = -1 := by unfold cmpI; rw [if_pos h]
theorem cmpI_eq (m : Nat) : cmpI m m = 0 := by unfold cmpI; simp
theorem cmpI_gt {m n : Nat} (h : n < m) : cmpI m n = 1 := by unfold cmpI; rw [if_neg (by omega), if_neg (by omega)]
theorem cmpI_sgn (m n : Nat) : (cmpI m n < 0 ↔ m < n) ∧ (cmpI m n ≤ 0 ↔ m ≤ n) ∧ (0 < cmpI m n ↔ n < m) ∧ (0 ≤ cmpI m n ↔ n ≤ m) := by
  rcases Nat.lt_trichotomy m n with h | h | h
  · rw [cmpI_lt h]; omega
  · subst h; rw [cmpI_eq]; omega
  · rw [cmpI_gt h]; omega

end Go.Proofs.YtmpjgfecnnefeaaDoor

namespace Go.Proofs.YtmpjgfecnnefeaaDoor
set_option maxRecDepth 8000
open Go.RowKit

theorem Big_gt : 1000000000000 < Big := by unfold Big; omega
theorem add_yes (m n s : Nat) (u : World) (hs : s = m + n) (h : s < Big) :
    Calls Tryd.prog 51 #[.agg (wcs m), .agg (wcs n)] u fun e w' => e = .returned (.tuple #[.agg (wcs s), .bool true]) ∧ Below u.heap.size u w' := by
  subst hs
  have h1 := add_any m n u (by omega) (by omega)
  have e1 : decide (m + n < Big) = true := by simp only [h, decide_true]
  rw [Nat.mod_eq_of_lt h, e1] at h1
  exact h1
theorem add_no (m n s : Nat) (u : World) (hm : m < Big) (hn : n < Big) (hs : s = m + n - Big) (h : Big ≤ m + n) :
    Calls Tryd.prog 51 #[.agg (wcs m), .agg (wcs n)] u fun e w' => e = .returned (.tuple #[.agg (wcs s), .bool false]) ∧ Below u.heap.size u w' := by
  rw [hs]
  have h1 := add_any m n u hm hn
  have e1 : decide (m + n < Big) = false := by simp only [show ¬ m + n < Big by omega, decide_false]
  rw [e1, show (m + n) % Big = m + n - Big by rw [Nat.mod_eq_sub_mod h]; exact Nat.mod_eq_of_lt (by omega)] at h1
  exact h1
theorem sub_neg (n r : Nat) (u : World) (hn : 0 < n) (hB : n < Big) (hr : r = Big - n) :
    Calls Tryd.prog 52 #[.agg (wcs 0), .agg (wcs n)] u fun e w' => e = .returned (.tuple #[.agg (wcs r), .bool false]) ∧ Below u.heap.size u w' := by
  rw [hr]
  have h1 := sub_any 0 n u Big_pos hB
  have e1 : decide (n ≤ 0) = false := by simp only [show ¬ n ≤ 0 by omega, decide_false]
  have e2 : (0 + (Big - n)) % Big = Big - n := by rw [Nat.zero_add]; exact Nat.mod_eq_of_lt (by omega)
  rw [e1, e2] at h1
  exact h1

set_option maxRecDepth 100000 in
set_option maxHeartbeats 4000000 in
theorem work_no (t : Nat) (w : World) (ht : t + 1 = Big) :
    Calls Tryd.prog 26 #[.agg (wcs t)] w fun e w' => e = .returned (.agg (wcs 1)) ∧ Below w.heap.size w w' := by
  have H1 := Lib.hid Big_gt
  have E1 : Hid (EnvX w ((w.alloc (.cells (wcs t) 26)).alloc (.cells #[.int .u64 0, .int .u64 0, .int .u64 0, .int .u64 0] 26)) [(w.heap.size + 1, wo 0), (w.heap.size, wo t)]) := (EnvX.start w).two (wo t) (wo 0)
  have hb1 : w.heap.size ≤ w.heap.size := Nat.le_refl _
  have hb2 : w.heap.size ≤ w.heap.size + 1 := Nat.le_succ _
  have n21 : Hid (w.heap.size + 1 ≠ w.heap.size) := by show _ ≠ _; omega
  go_enter Tryd.func26, Tryd.ntmps26
  go_upto_region 1 with (fail)
  generalize (w.alloc (.cells (wcs t) 26)).alloc (.cells #[.int .u64 0, .int .u64 0, .int .u64 0, .int .u64 0] 26) = w1 at *
  refine wp_region_Gx (w0 := w) [0] [1, 2] [(w.heap.size + 1, (wo (0))), (w.heap.size, (wo (t)))] rfl E1.out ?_
  have hone := @EnvC.one _ _ _ (E1.out)
  (refine wpG_call (f := 27) (args := #[.int .u64 (1 : Nat)]) (v := .agg (wcs (1))) rfl rfl rfl Tryd.func27 rfl rfl (fun u _ => of_n 1 u (by decide)) ?_ (E1.out); intro K hK; go_big_quiet_op; go_big_quiet_on)
  clear hone
  refine wpG_nil ?_
  (refine (gOp_new (wo (0)) rfl (new_wide _) ?_); intro g1 hbg1 hfg1; intro K' hK'; go_big_quiet_op; go_big_quiet_on)
  have ng1x0 : Hid (w.heap.size + 1 ≠ g1) := hfg1 (w.heap.size + 1, _) (List.Mem.head _)
  have ng1x1 : Hid (w.heap.size ≠ g1) := hfg1 (w.heap.size, _) (List.Mem.tail _ (List.Mem.head _))
  clear hfg1
  refine (gOp_store rfl (g1) (wcs (1)) rfl rfl hbg1 26 (wcs (0)) (List.Mem.head _) (wc_info _) ((wc_size _).trans (wc_size _).symm) (wc_one _) [(g1, (wo (1))), (w.heap.size + 1, (wo (0))), (w.heap.size, (wo (t)))] (List.forall_mem_cons.2 ⟨.inl rfl, (List.forall_mem_cons.2 ⟨.inr ⟨(List.Mem.tail _ (List.Mem.head _)), ng1x0.out⟩, (List.forall_mem_cons.2 ⟨.inr ⟨(List.Mem.tail _ (List.Mem.tail _ (List.Mem.head _))), ng1x1.out⟩, (fun _ h => by cases h)⟩)⟩)⟩) ?_)
  rintro u3 ⟨hl2, E2'⟩
  have E2 := Lib.hid E2'
  clear hl2 E2' E1
  go_upto_region 2 with (fail)
  refine wp_region_Gx (w0 := w) [0, 1, 2, 3, 4, 5] [6, 7, 8] [(g1, (wo (1))), (w.heap.size + 1, (wo (0))), (w.heap.size, (wo (t)))] rfl E2.out ?_
  have hone := @EnvC.one _ _ _ (E2.out)
  (refine wpG_load rfl rfl (w.heap.size) rfl 26 _ _ (fun u hu => EnvC.box hu _ (wo (t)) (List.Mem.tail _ (List.Mem.tail _ (List.Mem.head _)))) Tryd.underlying26 rfl (wc_info _) ?_ (E2.out); intro K hK; go_big_quiet_op; go_big_quiet_on)
  (refine wpG_load rfl rfl (g1) rfl 26 _ _ (fun u hu => EnvC.box hu _ (wo (1)) (List.Mem.head _)) Tryd.underlying26 rfl (wc_info _) ?_ (E2.out); intro K hK; go_big_quiet_op; go_big_quiet_on)
  (refine wpG_call (f := 51) (args := #[.agg (wcs (t)), .agg (wcs (1))]) (v := .tuple #[.agg (wcs (0)), .bool (false)]) rfl rfl rfl Tryd.func51 rfl rfl (fun u _ => add_no t 1 0 u (by omega) (by have := H1.out; omega) (by omega) (by omega)) ?_ (E2.out); intro K hK; go_big_quiet_op; go_big_quiet_on)
  (refine wpG_op rfl rfl rfl ?_; intro K hK; go_big_quiet_op; go_big_quiet_on)
  (refine wpG_op rfl rfl rfl ?_; intro K hK; go_big_quiet_op; go_big_quiet_on)
  (refine wpG_op rfl rfl rfl ?_; intro K hK; go_big_quiet_op; go_big_quiet_on)
  clear hone
  refine wpG_nil ?_
  (refine (gOp_new (wo (0)) rfl (new_wide _) ?_); intro g4 hbg4 hfg4; intro K' hK'; go_big_quiet_op; go_big_quiet_on)
  have ng4x0 : Hid (g1 ≠ g4) := hfg4 (g1, _) (List.Mem.head _)
  have ng4x1 : Hid (w.heap.size + 1 ≠ g4) := hfg4 (w.heap.size + 1, _) (List.Mem.tail _ (List.Mem.head _))
  have ng4x2 : Hid (w.heap.size ≠ g4) := hfg4 (w.heap.size, _) (List.Mem.tail _ (List.Mem.tail _ (List.Mem.head _)))
  clear hfg4
  refine (gOp_store rfl (g4) (wcs (0)) rfl rfl hbg4 26 (wcs (0)) (List.Mem.head _) (wc_info _) ((wc_size _).trans (wc_size _).symm) (wc_one _) [(g4, (wo (0))), (g1, (wo (1))), (w.heap.size + 1, (wo (0))), (w.heap.size, (wo (t)))] (List.forall_mem_cons.2 ⟨.inl rfl, (List.forall_mem_cons.2 ⟨.inr ⟨(List.Mem.tail _ (List.Mem.head _)), ng4x0.out⟩, (List.forall_mem_cons.2 ⟨.inr ⟨(List.Mem.tail _ (List.Mem.tail _ (List.Mem.head _))), ng4x1.out⟩, (List.forall_mem_cons.2 ⟨.inr ⟨(List.Mem.tail _ (List.Mem.tail _ (List.Mem.tail _ (List.Mem.head _)))), ng4x2.out⟩, (fun _ h => by cases h)⟩)⟩)⟩)⟩) ?_)
  (refine (gOp_pure rfl rfl ?_); intro K' hK'; go_big_quiet_op; go_big_quiet_on)
  rintro u6 ⟨hl2, E2'⟩
  have E5 := Lib.hid E2'
  clear hl2 E2' E2
  go_upto_region 4 with (fail)
  refine wp_region_Gx (w0 := w) [0] [1] [(g4, (wo (0))), (g1, (wo (1))), (w.heap.size + 1, (wo (0))), (w.heap.size, (wo (t)))] rfl E5.out ?_
  have hone := @EnvC.one _ _ _ (E5.out)
  (refine wpG_load rfl rfl (g1) rfl 26 _ _ (fun u hu => EnvC.box hu _ (wo (1)) (List.Mem.tail _ (List.Mem.head _))) Tryd.underlying26 rfl (wc_info _) ?_ (E5.out); intro K hK; go_big_quiet_op; go_big_quiet_on)
  clear hone
  refine wpG_nil ?_
  refine (gOp_store rfl (w.heap.size + 1) (wcs (1)) rfl rfl hb2 26 (wcs (0)) (List.Mem.tail _ (List.Mem.tail _ (List.Mem.head _))) (wc_info _) ((wc_size _).trans (wc_size _).symm) (wc_one _) [(w.heap.size + 1, (wo (1))), (g4, (wo (0))), (g1, (wo (1))), (w.heap.size, (wo (t)))] (List.forall_mem_cons.2 ⟨.inl rfl, (List.forall_mem_cons.2 ⟨.inr ⟨(List.Mem.head _), (Ne.symm ng4x1.out)⟩, (List.forall_mem_cons.2 ⟨.inr ⟨(List.Mem.tail _ (List.Mem.head _)), (Ne.symm ng1x0.out)⟩, (List.forall_mem_cons.2 ⟨.inr ⟨(List.Mem.tail _ (List.Mem.tail _ (List.Mem.tail _ (List.Mem.head _)))), (Ne.symm n21.out)⟩, (fun _ h => by cases h)⟩)⟩)⟩)⟩) ?_)
  rintro u8 ⟨hl2, E2'⟩
  have E7 := Lib.hid E2'
  clear hl2 E2' E5
  go_wp2_with ((with_reducible refine bodyPost_ret (v := .agg (wcs (1))) ?_ ?_ ?_); (exact results_cell_row (p := 2) (ty := 26) Tryd.results26 _ _ (w.heap.size + 1) 26 (wcs (1)) (0, 0) _ rfl (E7.out.box _ (wo (1)) (List.Mem.head _)) Tryd.underlying26 rfl (wc_info _)); (rfl))
  exact E7.out.bel

set_option maxRecDepth 100000 in
set_option maxHeartbeats 4000000 in
theorem work_yes (t : Nat) (w : World) (n r k : Nat) (kb : Bool) (hn : Hid (n = t + 1)) (hnB : Hid (n < Big)) (hn0 : Hid (0 < n)) (hr : Hid (r = Big - n)) (hrB : Hid (r < Big)) (hqB : Hid (r / n < Big)) (hk : Hid ((r / n + 1) % Big = k)) (hkb : Hid (decide (r / n + 1 < Big) = kb)) :
    Calls Tryd.prog 26 #[.agg (wcs t)] w fun e w' => e = .returned (.agg (wcs k)) ∧ Below w.heap.size w w' := by
  have H1 := Lib.hid Big_gt
  have E1 : Hid (EnvX w ((w.alloc (.cells (wcs t) 26)).alloc (.cells #[.int .u64 0, .int .u64 0, .int .u64 0, .int .u64 0] 26)) [(w.heap.size + 1, wo 0), (w.heap.size, wo t)]) := (EnvX.start w).two (wo t) (wo 0)
  have hb1 : w.heap.size ≤ w.heap.size := Nat.le_refl _
  have hb2 : w.heap.size ≤ w.heap.size + 1 := Nat.le_succ _
  have n21 : Hid (w.heap.size + 1 ≠ w.heap.size) := by show _ ≠ _; omega
  go_enter Tryd.func26, Tryd.ntmps26
  go_upto_region 1 with (fail)
  generalize (w.alloc (.cells (wcs t) 26)).alloc (.cells #[.int .u64 0, .int .u64 0, .int .u64 0, .int .u64 0] 26) = w1 at *
  refine wp_region_Gx (w0 := w) [0] [1, 2] [(w.heap.size + 1, (wo (0))), (w.heap.size, (wo (t)))] rfl E1.out ?_
  have hone := @EnvC.one _ _ _ (E1.out)
  (refine wpG_call (f := 27) (args := #[.int .u64 (1 : Nat)]) (v := .agg (wcs (1))) rfl rfl rfl Tryd.func27 rfl rfl (fun u _ => of_n 1 u (by decide)) ?_ (E1.out); intro K hK; go_big_quiet_op; go_big_quiet_on)
  clear hone
  refine wpG_nil ?_
  (refine (gOp_new (wo (0)) rfl (new_wide _) ?_); intro g1 hbg1 hfg1; intro K' hK'; go_big_quiet_op; go_big_quiet_on)
  have ng1x0 : Hid (w.heap.size + 1 ≠ g1) := hfg1 (w.heap.size + 1, _) (List.Mem.head _)
  have ng1x1 : Hid (w.heap.size ≠ g1) := hfg1 (w.heap.size, _) (List.Mem.tail _ (List.Mem.head _))
  clear hfg1
  refine (gOp_store rfl (g1) (wcs (1)) rfl rfl hbg1 26 (wcs (0)) (List.Mem.head _) (wc_info _) ((wc_size _).trans (wc_size _).symm) (wc_one _) [(g1, (wo (1))), (w.heap.size + 1, (wo (0))), (w.heap.size, (wo (t)))] (List.forall_mem_cons.2 ⟨.inl rfl, (List.forall_mem_cons.2 ⟨.inr ⟨(List.Mem.tail _ (List.Mem.head _)), ng1x0.out⟩, (List.forall_mem_cons.2 ⟨.inr ⟨(List.Mem.tail _ (List.Mem.tail _ (List.Mem.head _))), ng1x1.out⟩, (fun _ h => by cases h)⟩)⟩)⟩) ?_)
  rintro u3 ⟨hl2, E2'⟩
  have E2 := Lib.hid E2'
  clear hl2 E2' E1
  go_upto_region 2 with (fail)
  refine wp_region_Gx (w0 := w) [0, 1, 2, 3, 4, 5] [6, 7, 8] [(g1, (wo (1))), (w.heap.size + 1, (wo (0))), (w.heap.size, (wo (t)))] rfl E2.out ?_
  have hone := @EnvC.one _ _ _ (E2.out)
  (refine wpG_load rfl rfl (w.heap.size) rfl 26 _ _ (fun u hu => EnvC.box hu _ (wo (t)) (List.Mem.tail _ (List.Mem.tail _ (List.Mem.head _)))) Tryd.underlying26 rfl (wc_info _) ?_ (E2.out); intro K hK; go_big_quiet_op; go_big_quiet_on)
  (refine wpG_load rfl rfl (g1) rfl 26 _ _ (fun u hu => EnvC.box hu _ (wo (1)) (List.Mem.head _)) Tryd.underlying26 rfl (wc_info _) ?_ (E2.out); intro K hK; go_big_quiet_op; go_big_quiet_on)
  (refine wpG_call (f := 51) (args := #[.agg (wcs (t)), .agg (wcs (1))]) (v := .tuple #[.agg (wcs (n)), .bool (true)]) rfl rfl rfl Tryd.func51 rfl rfl (fun u _ => add_yes t 1 n u hn.out (by have := hnB.out; omega)) ?_ (E2.out); intro K hK; go_big_quiet_op; go_big_quiet_on)
  (refine wpG_op rfl rfl rfl ?_; intro K hK; go_big_quiet_op; go_big_quiet_on)
  (refine wpG_op rfl rfl rfl ?_; intro K hK; go_big_quiet_op; go_big_quiet_on)
  (refine wpG_op rfl rfl rfl ?_; intro K hK; go_big_quiet_op; go_big_quiet_on)
  clear hone
  refine wpG_nil ?_
  (refine (gOp_new (wo (0)) rfl (new_wide _) ?_); intro g4 hbg4 hfg4; intro K' hK'; go_big_quiet_op; go_big_quiet_on)
  have ng4x0 : Hid (g1 ≠ g4) := hfg4 (g1, _) (List.Mem.head _)
  have ng4x1 : Hid (w.heap.size + 1 ≠ g4) := hfg4 (w.heap.size + 1, _) (List.Mem.tail _ (List.Mem.head _))
  have ng4x2 : Hid (w.heap.size ≠ g4) := hfg4 (w.heap.size, _) (List.Mem.tail _ (List.Mem.tail _ (List.Mem.head _)))
  clear hfg4
  refine (gOp_store rfl (g4) (wcs (n)) rfl rfl hbg4 26 (wcs (0)) (List.Mem.head _) (wc_info _) ((wc_size _).trans (wc_size _).symm) (wc_one _) [(g4, (wo (n))), (g1, (wo (1))), (w.heap.size + 1, (wo (0))), (w.heap.size, (wo (t)))] (List.forall_mem_cons.2 ⟨.inl rfl, (List.forall_mem_cons.2 ⟨.inr ⟨(List.Mem.tail _ (List.Mem.head _)), ng4x0.out⟩, (List.forall_mem_cons.2 ⟨.inr ⟨(List.Mem.tail _ (List.Mem.tail _ (List.Mem.head _))), ng4x1.out⟩, (List.forall_mem_cons.2 ⟨.inr ⟨(List.Mem.tail _ (List.Mem.tail _ (List.Mem.tail _ (List.Mem.head _)))), ng4x2.out⟩, (fun _ h => by cases h)⟩)⟩)⟩)⟩) ?_)
  (refine (gOp_pure rfl rfl ?_); intro K' hK'; go_big_quiet_op; go_big_quiet_on)
  rintro u6 ⟨hl2, E2'⟩
  have E5 := Lib.hid E2'
  clear hl2 E2' E2
  go_upto_region 5 with (fail)
  refine wp_region_Gx (w0 := w) [0, 1, 2, 3, 4, 5] [6, 7, 8] [(g4, (wo (n))), (g1, (wo (1))), (w.heap.size + 1, (wo (0))), (w.heap.size, (wo (t)))] rfl E5.out ?_
  have hone := @EnvC.one _ _ _ (E5.out)
  (refine wpG_op rfl rfl rfl ?_; intro K hK; go_big_quiet_op; go_big_quiet_on)
  (refine wpG_load rfl rfl (g4) rfl 26 _ _ (fun u hu => EnvC.box hu _ (wo (n)) (List.Mem.head _)) Tryd.underlying26 rfl (wc_info _) ?_ (E5.out); intro K hK; go_big_quiet_op; go_big_quiet_on)
  (refine wpG_call (f := 52) (args := #[.agg (wcs (0)), .agg (wcs (n))]) (v := .tuple #[.agg (wcs (r)), .bool (false)]) rfl rfl rfl Tryd.func52 rfl rfl (fun u _ => sub_neg n r u hn0.out hnB.out hr.out) ?_ (E5.out); intro K hK; go_big_quiet_op; go_big_quiet_on)
  (refine wpG_op rfl rfl rfl ?_; intro K hK; go_big_quiet_op; go_big_quiet_on)
  (refine wpG_op rfl rfl rfl ?_; intro K hK; go_big_quiet_op; go_big_quiet_on)
  (refine wpG_op rfl rfl rfl ?_; intro K hK; go_big_quiet_op; go_big_quiet_on)
  clear hone
  refine wpG_nil ?_
  (refine (gOp_new (wo (0)) rfl (new_wide _) ?_); intro g7 hbg7 hfg7; intro K' hK'; go_big_quiet_op; go_big_quiet_on)
  have ng7x0 : Hid (g4 ≠ g7) := hfg7 (g4, _) (List.Mem.head _)
  have ng7x1 : Hid (g1 ≠ g7) := hfg7 (g1, _) (List.Mem.tail _ (List.Mem.head _))
  have ng7x2 : Hid (w.heap.size + 1 ≠ g7) := hfg7 (w.heap.size + 1, _) (List.Mem.tail _ (List.Mem.tail _ (List.Mem.head _)))
  have ng7x3 : Hid (w.heap.size ≠ g7) := hfg7 (w.heap.size, _) (List.Mem.tail _ (List.Mem.tail _ (List.Mem.tail _ (List.Mem.head _))))
  clear hfg7
  refine (gOp_store rfl (g7) (wcs (r)) rfl rfl hbg7 26 (wcs (0)) (List.Mem.head _) (wc_info _) ((wc_size _).trans (wc_size _).symm) (wc_one _) [(g7, (wo (r))), (g4, (wo (n))), (g1, (wo (1))), (w.heap.size + 1, (wo (0))), (w.heap.size, (wo (t)))] (List.forall_mem_cons.2 ⟨.inl rfl, (List.forall_mem_cons.2 ⟨.inr ⟨(List.Mem.tail _ (List.Mem.head _)), ng7x0.out⟩, (List.forall_mem_cons.2 ⟨.inr ⟨(List.Mem.tail _ (List.Mem.tail _ (List.Mem.head _))), ng7x1.out⟩, (List.forall_mem_cons.2 ⟨.inr ⟨(List.Mem.tail _ (List.Mem.tail _ (List.Mem.tail _ (List.Mem.head _)))), ng7x2.out⟩, (List.forall_mem_cons.2 ⟨.inr ⟨(List.Mem.tail _ (List.Mem.tail _ (List.Mem.tail _ (List.Mem.tail _ (List.Mem.head _))))), ng7x3.out⟩, (fun _ h => by cases h)⟩)⟩)⟩)⟩)⟩) ?_)
  (refine (gOp_pure rfl rfl ?_); intro K' hK'; go_big_quiet_op; go_big_quiet_on)
  rintro u9 ⟨hl2, E2'⟩
  have E8 := Lib.hid E2'
  clear hl2 E2' E5
  go_upto_region 6 with (fail)
  refine wp_region_Gx (w0 := w) [0, 1, 2, 3, 4, 5, 6] [7, 8, 9, 10, 11] [(g7, (wo (r))), (g4, (wo (n))), (g1, (wo (1))), (w.heap.size + 1, (wo (0))), (w.heap.size, (wo (t)))] rfl E8.out ?_
  have hone := @EnvC.one _ _ _ (E8.out)
  (refine wpG_load rfl rfl (g7) rfl 26 _ _ (fun u hu => EnvC.box hu _ (wo (r)) (List.Mem.head _)) Tryd.underlying26 rfl (wc_info _) ?_ (E8.out); intro K hK; go_big_quiet_op; go_big_quiet_on)
  (refine wpG_load rfl rfl (g4) rfl 26 _ _ (fun u hu => EnvC.box hu _ (wo (n)) (List.Mem.tail _ (List.Mem.head _))) Tryd.underlying26 rfl (wc_info _) ?_ (E8.out); intro K hK; go_big_quiet_op; go_big_quiet_on)
  (refine wpG_call (f := 53) (args := #[.agg (wcs (r)), .agg (wcs (n))]) (v := .tuple #[.agg (wcs (r / n)), .agg (wcs (r % n)), .bool (true)]) rfl rfl rfl Tryd.func53 rfl rfl (fun u _ => div_yes r n u hrB.out hnB.out hn0.out) ?_ (E8.out); intro K hK; go_big_quiet_op; go_big_quiet_on)
  (refine wpG_op rfl rfl rfl ?_; intro K hK; go_big_quiet_op; go_big_quiet_on)
  (refine wpG_op rfl rfl rfl ?_; intro K hK; go_big_quiet_op; go_big_quiet_on)
  (refine wpG_op rfl rfl rfl ?_; intro K hK; go_big_quiet_op; go_big_quiet_on)
  (refine wpG_op rfl rfl rfl ?_; intro K hK; go_big_quiet_op; go_big_quiet_on)
  clear hone
  refine wpG_nil ?_
  (refine (gOp_new (wo (0)) rfl (new_wide _) ?_); intro g10 hbg10 hfg10; intro K' hK'; go_big_quiet_op; go_big_quiet_on)
  have ng10x0 : Hid (g7 ≠ g10) := hfg10 (g7, _) (List.Mem.head _)
  have ng10x1 : Hid (g4 ≠ g10) := hfg10 (g4, _) (List.Mem.tail _ (List.Mem.head _))
  have ng10x2 : Hid (g1 ≠ g10) := hfg10 (g1, _) (List.Mem.tail _ (List.Mem.tail _ (List.Mem.head _)))
  have ng10x3 : Hid (w.heap.size + 1 ≠ g10) := hfg10 (w.heap.size + 1, _) (List.Mem.tail _ (List.Mem.tail _ (List.Mem.tail _ (List.Mem.head _))))
  have ng10x4 : Hid (w.heap.size ≠ g10) := hfg10 (w.heap.size, _) (List.Mem.tail _ (List.Mem.tail _ (List.Mem.tail _ (List.Mem.tail _ (List.Mem.head _)))))
  clear hfg10
  (refine (gOp_new (wo (0)) rfl (new_wide _) ?_); intro g11 hbg11 hfg11; intro K' hK'; go_big_quiet_op; go_big_quiet_on)
  have ng11x5 : Hid (g10 ≠ g11) := hfg11 (g10, _) (List.Mem.head _)
  have ng11x6 : Hid (g7 ≠ g11) := hfg11 (g7, _) (List.Mem.tail _ (List.Mem.head _))
  have ng11x7 : Hid (g4 ≠ g11) := hfg11 (g4, _) (List.Mem.tail _ (List.Mem.tail _ (List.Mem.head _)))
  have ng11x8 : Hid (g1 ≠ g11) := hfg11 (g1, _) (List.Mem.tail _ (List.Mem.tail _ (List.Mem.tail _ (List.Mem.head _))))
  have ng11x9 : Hid (w.heap.size + 1 ≠ g11) := hfg11 (w.heap.size + 1, _) (List.Mem.tail _ (List.Mem.tail _ (List.Mem.tail _ (List.Mem.tail _ (List.Mem.head _)))))
  have ng11x10 : Hid (w.heap.size ≠ g11) := hfg11 (w.heap.size, _) (List.Mem.tail _ (List.Mem.tail _ (List.Mem.tail _ (List.Mem.tail _ (List.Mem.tail _ (List.Mem.head _))))))
  clear hfg11
  refine (gOp_store rfl (g10) (wcs (r / n)) rfl rfl hbg10 26 (wcs (0)) (List.Mem.tail _ (List.Mem.head _)) (wc_info _) ((wc_size _).trans (wc_size _).symm) (wc_one _) [(g10, (wo (r / n))), (g11, (wo (0))), (g7, (wo (r))), (g4, (wo (n))), (g1, (wo (1))), (w.heap.size + 1, (wo (0))), (w.heap.size, (wo (t)))] (List.forall_mem_cons.2 ⟨.inl rfl, (List.forall_mem_cons.2 ⟨.inr ⟨(List.Mem.head _), (Ne.symm ng11x5.out)⟩, (List.forall_mem_cons.2 ⟨.inr ⟨(List.Mem.tail _ (List.Mem.tail _ (List.Mem.head _))), ng10x0.out⟩, (List.forall_mem_cons.2 ⟨.inr ⟨(List.Mem.tail _ (List.Mem.tail _ (List.Mem.tail _ (List.Mem.head _)))), ng10x1.out⟩, (List.forall_mem_cons.2 ⟨.inr ⟨(List.Mem.tail _ (List.Mem.tail _ (List.Mem.tail _ (List.Mem.tail _ (List.Mem.head _))))), ng10x2.out⟩, (List.forall_mem_cons.2 ⟨.inr ⟨(List.Mem.tail _ (List.Mem.tail _ (List.Mem.tail _ (List.Mem.tail _ (List.Mem.tail _ (List.Mem.head _)))))), ng10x3.out⟩, (List.forall_mem_cons.2 ⟨.inr ⟨(List.Mem.tail _ (List.Mem.tail _ (List.Mem.tail _ (List.Mem.tail _ (List.Mem.tail _ (List.Mem.tail _ (List.Mem.head _))))))), ng10x4.out⟩, (fun _ h => by cases h)⟩)⟩)⟩)⟩)⟩)⟩)⟩) ?_)
  refine (gOp_store rfl (g11) (wcs (r % n)) rfl rfl hbg11 26 (wcs (0)) (List.Mem.tail _ (List.Mem.head _)) (wc_info _) ((wc_size _).trans (wc_size _).symm) (wc_one _) [(g11, (wo (r % n))), (g10, (wo (r / n))), (g7, (wo (r))), (g4, (wo (n))), (g1, (wo (1))), (w.heap.size + 1, (wo (0))), (w.heap.size, (wo (t)))] (List.forall_mem_cons.2 ⟨.inl rfl, (List.forall_mem_cons.2 ⟨.inr ⟨(List.Mem.head _), ng11x5.out⟩, (List.forall_mem_cons.2 ⟨.inr ⟨(List.Mem.tail _ (List.Mem.tail _ (List.Mem.head _))), ng11x6.out⟩, (List.forall_mem_cons.2 ⟨.inr ⟨(List.Mem.tail _ (List.Mem.tail _ (List.Mem.tail _ (List.Mem.head _)))), ng11x7.out⟩, (List.forall_mem_cons.2 ⟨.inr ⟨(List.Mem.tail _ (List.Mem.tail _ (List.Mem.tail _ (List.Mem.tail _ (List.Mem.head _))))), ng11x8.out⟩, (List.forall_mem_cons.2 ⟨.inr ⟨(List.Mem.tail _ (List.Mem.tail _ (List.Mem.tail _ (List.Mem.tail _ (List.Mem.tail _ (List.Mem.head _)))))), ng11x9.out⟩, (List.forall_mem_cons.2 ⟨.inr ⟨(List.Mem.tail _ (List.Mem.tail _ (List.Mem.tail _ (List.Mem.tail _ (List.Mem.tail _ (List.Mem.tail _ (List.Mem.head _))))))), ng11x10.out⟩, (fun _ h => by cases h)⟩)⟩)⟩)⟩)⟩)⟩)⟩) ?_)
  (refine (gOp_pure rfl rfl ?_); intro K' hK'; go_big_quiet_op; go_big_quiet_on)
  rintro u13 ⟨hl2, E2'⟩
  have E12 := Lib.hid E2'
  clear hl2 E2' E8
  go_upto_region 7 with (fail)
  refine wp_region_Gx (w0 := w) [0, 1, 2, 3, 4, 5] [6, 7, 8] [(g11, (wo (r % n))), (g10, (wo (r / n))), (g7, (wo (r))), (g4, (wo (n))), (g1, (wo (1))), (w.heap.size + 1, (wo (0))), (w.heap.size, (wo (t)))] rfl E12.out ?_
  have hone := @EnvC.one _ _ _ (E12.out)
  (refine wpG_load rfl rfl (g10) rfl 26 _ _ (fun u hu => EnvC.box hu _ (wo (r / n)) (List.Mem.tail _ (List.Mem.head _))) Tryd.underlying26 rfl (wc_info _) ?_ (E12.out); intro K hK; go_big_quiet_op; go_big_quiet_on)
  (refine wpG_load rfl rfl (g1) rfl 26 _ _ (fun u hu => EnvC.box hu _ (wo (1)) (List.Mem.tail _ (List.Mem.tail _ (List.Mem.tail _ (List.Mem.tail _ (List.Mem.head _)))))) Tryd.underlying26 rfl (wc_info _) ?_ (E12.out); intro K hK; go_big_quiet_op; go_big_quiet_on)
  (refine wpG_call (f := 51) (args := #[.agg (wcs (r / n)), .agg (wcs (1))]) (v := .tuple #[.agg (wcs (k)), .bool (kb)]) rfl rfl rfl Tryd.func51 rfl rfl (fun u _ => by have h := add_any (r / n) 1 u hqB.out (by have := H1.out; omega); rw [hk.out, hkb.out] at h; exact h) ?_ (E12.out); intro K hK; go_big_quiet_op; go_big_quiet_on)
  (refine wpG_op rfl rfl rfl ?_; intro K hK; go_big_quiet_op; go_big_quiet_on)
  (refine wpG_op rfl rfl rfl ?_; intro K hK; go_big_quiet_op; go_big_quiet_on)
  (refine wpG_op rfl rfl rfl ?_; intro K hK; go_big_quiet_op; go_big_quiet_on)
  clear hone
  refine wpG_nil ?_
  (refine (gOp_new (wo (0)) rfl (new_wide _) ?_); intro g14 hbg14 hfg14; intro K' hK'; go_big_quiet_op; go_big_quiet_on)
  have ng14x0 : Hid (g11 ≠ g14) := hfg14 (g11, _) (List.Mem.head _)
  have ng14x1 : Hid (g10 ≠ g14) := hfg14 (g10, _) (List.Mem.tail _ (List.Mem.head _))
  have ng14x2 : Hid (g7 ≠ g14) := hfg14 (g7, _) (List.Mem.tail _ (List.Mem.tail _ (List.Mem.head _)))
  have ng14x3 : Hid (g4 ≠ g14) := hfg14 (g4, _) (List.Mem.tail _ (List.Mem.tail _ (List.Mem.tail _ (List.Mem.head _))))
  have ng14x4 : Hid (g1 ≠ g14) := hfg14 (g1, _) (List.Mem.tail _ (List.Mem.tail _ (List.Mem.tail _ (List.Mem.tail _ (List.Mem.head _)))))
  have ng14x5 : Hid (w.heap.size + 1 ≠ g14) := hfg14 (w.heap.size + 1, _) (List.Mem.tail _ (List.Mem.tail _ (List.Mem.tail _ (List.Mem.tail _ (List.Mem.tail _ (List.Mem.head _))))))
  have ng14x6 : Hid (w.heap.size ≠ g14) := hfg14 (w.heap.size, _) (List.Mem.tail _ (List.Mem.tail _ (List.Mem.tail _ (List.Mem.tail _ (List.Mem.tail _ (List.Mem.tail _ (List.Mem.head _)))))))
  clear hfg14
  refine (gOp_store rfl (g14) (wcs (k)) rfl rfl hbg14 26 (wcs (0)) (List.Mem.head _) (wc_info _) ((wc_size _).trans (wc_size _).symm) (wc_one _) [(g14, (wo (k))), (g11, (wo (r % n))), (g10, (wo (r / n))), (g7, (wo (r))), (g4, (wo (n))), (g1, (wo (1))), (w.heap.size + 1, (wo (0))), (w.heap.size, (wo (t)))] (List.forall_mem_cons.2 ⟨.inl rfl, (List.forall_mem_cons.2 ⟨.inr ⟨(List.Mem.tail _ (List.Mem.head _)), ng14x0.out⟩, (List.forall_mem_cons.2 ⟨.inr ⟨(List.Mem.tail _ (List.Mem.tail _ (List.Mem.head _))), ng14x1.out⟩, (List.forall_mem_cons.2 ⟨.inr ⟨(List.Mem.tail _ (List.Mem.tail _ (List.Mem.tail _ (List.Mem.head _)))), ng14x2.out⟩, (List.forall_mem_cons.2 ⟨.inr ⟨(List.Mem.tail _ (List.Mem.tail _ (List.Mem.tail _ (List.Mem.tail _ (List.Mem.head _))))), ng14x3.out⟩, (List.forall_mem_cons.2 ⟨.inr ⟨(List.Mem.tail _ (List.Mem.tail _ (List.Mem.tail _ (List.Mem.tail _ (List.Mem.tail _ (List.Mem.head _)))))), ng14x4.out⟩, (List.forall_mem_cons.2 ⟨.inr ⟨(List.Mem.tail _ (List.Mem.tail _ (List.Mem.tail _ (List.Mem.tail _ (List.Mem.tail _ (List.Mem.tail _ (List.Mem.head _))))))), ng14x5.out⟩, (List.forall_mem_cons.2 ⟨.inr ⟨(List.Mem.tail _ (List.Mem.tail _ (List.Mem.tail _ (List.Mem.tail _ (List.Mem.tail _ (List.Mem.tail _ (List.Mem.tail _ (List.Mem.head _)))))))), ng14x6.out⟩, (fun _ h => by cases h)⟩)⟩)⟩)⟩)⟩)⟩)⟩)⟩) ?_)
  (refine (gOp_pure rfl rfl ?_); intro K' hK'; go_big_quiet_op; go_big_quiet_on)
  rintro u16 ⟨hl2, E2'⟩
  have E15 := Lib.hid E2'
  clear hl2 E2' E12
  go_upto_region 8 with (fail)
  refine wp_region_Gx (w0 := w) [0] [1] [(g14, (wo (k))), (g11, (wo (r % n))), (g10, (wo (r / n))), (g7, (wo (r))), (g4, (wo (n))), (g1, (wo (1))), (w.heap.size + 1, (wo (0))), (w.heap.size, (wo (t)))] rfl E15.out ?_
  have hone := @EnvC.one _ _ _ (E15.out)
  (refine wpG_load rfl rfl (g14) rfl 26 _ _ (fun u hu => EnvC.box hu _ (wo (k)) (List.Mem.head _)) Tryd.underlying26 rfl (wc_info _) ?_ (E15.out); intro K hK; go_big_quiet_op; go_big_quiet_on)
  clear hone
  refine wpG_nil ?_
  refine (gOp_store rfl (w.heap.size + 1) (wcs (k)) rfl rfl hb2 26 (wcs (0)) (List.Mem.tail _ (List.Mem.tail _ (List.Mem.tail _ (List.Mem.tail _ (List.Mem.tail _ (List.Mem.tail _ (List.Mem.head _))))))) (wc_info _) ((wc_size _).trans (wc_size _).symm) (wc_one _) [(w.heap.size + 1, (wo (k))), (g14, (wo (k))), (g11, (wo (r % n))), (g10, (wo (r / n))), (g7, (wo (r))), (g4, (wo (n))), (g1, (wo (1))), (w.heap.size, (wo (t)))] (List.forall_mem_cons.2 ⟨.inl rfl, (List.forall_mem_cons.2 ⟨.inr ⟨(List.Mem.head _), (Ne.symm ng14x5.out)⟩, (List.forall_mem_cons.2 ⟨.inr ⟨(List.Mem.tail _ (List.Mem.head _)), (Ne.symm ng11x9.out)⟩, (List.forall_mem_cons.2 ⟨.inr ⟨(List.Mem.tail _ (List.Mem.tail _ (List.Mem.head _))), (Ne.symm ng10x3.out)⟩, (List.forall_mem_cons.2 ⟨.inr ⟨(List.Mem.tail _ (List.Mem.tail _ (List.Mem.tail _ (List.Mem.head _)))), (Ne.symm ng7x2.out)⟩, (List.forall_mem_cons.2 ⟨.inr ⟨(List.Mem.tail _ (List.Mem.tail _ (List.Mem.tail _ (List.Mem.tail _ (List.Mem.head _))))), (Ne.symm ng4x1.out)⟩, (List.forall_mem_cons.2 ⟨.inr ⟨(List.Mem.tail _ (List.Mem.tail _ (List.Mem.tail _ (List.Mem.tail _ (List.Mem.tail _ (List.Mem.head _)))))), (Ne.symm ng1x0.out)⟩, (List.forall_mem_cons.2 ⟨.inr ⟨(List.Mem.tail _ (List.Mem.tail _ (List.Mem.tail _ (List.Mem.tail _ (List.Mem.tail _ (List.Mem.tail _ (List.Mem.tail _ (List.Mem.head _)))))))), (Ne.symm n21.out)⟩, (fun _ h => by cases h)⟩)⟩)⟩)⟩)⟩)⟩)⟩)⟩) ?_)
  rintro u18 ⟨hl2, E2'⟩
  have E17 := Lib.hid E2'
  clear hl2 E2' E15
  go_wp2_with ((with_reducible refine bodyPost_ret (v := .agg (wcs (k))) ?_ ?_ ?_); (exact results_cell_row (p := 2) (ty := 26) Tryd.results26 _ _ (w.heap.size + 1) 26 (wcs (k)) (0, 0) _ rfl (E17.out.box _ (wo (k)) (List.Mem.head _)) Tryd.underlying26 rfl (wc_info _)); (rfl))
  exact E17.out.bel

theorem work_any (t : Nat) (w : World) (ht : t < Big) :
    Calls Tryd.prog 26 #[.agg (wcs t)] w fun e w' => e = .returned (.agg (wcs (wkV t))) ∧ Below w.heap.size w w' := by
  by_cases h : t + 1 < Big
  · have h1 := wk_prog h
    refine work_yes t w (t + 1) (Big - (t + 1)) (wkV t) _ rfl h (by show _ < _; omega) rfl (by show _ < _; omega) ?_ h1 rfl
    show _ < _
    exact Nat.lt_of_le_of_lt (Nat.div_le_self _ _) (by omega)
  · have e : wkV t = 1 := by unfold wkV; rw [if_neg h]
    rw [e]
    exact work_no t w (by omega)

end Go.Proofs.YtmpjgfecnnefeaaDoor

namespace Go.Proofs.YtmpjgfecnnefeaaDoor
set_option maxRecDepth 8000
open Go.RowKit

theorem reaches_any (n t k g5 g3 : Nat) (b : Bool) (w : World) (hn : Hid (n < Big)) (ht : Hid (t < Big)) (hk : k ≤ 31) (hb : Hid (decide (n ≤ t / 2 ^ k) = b)) (h5 : Hid (w.heap[g5]? = some (wo n))) (h3 : Hid (w.heap[g3]? = some (wo t))) :
    Calls Tryd.prog 54 #[.int .i64 (k : Int), .pointer (some ⟨g5, 0, none⟩), .pointer (some ⟨g3, 0, none⟩)] w fun e w' => e = .returned (.bool b) ∧ Below w.heap.size w w' := by
  have E1 : Hid (EnvX w w [(g5, wo n), (g3, wo t)]) := ⟨Below.refl _ _, fun g o hm => by
    rcases List.mem_cons.1 hm with e | hm
    · cases e; exact h5.out
    · cases List.mem_singleton.1 hm; exact h3.out⟩
  clear h5 h3
  have hdB := Lib.hid (Nat.lt_of_le_of_lt (Nat.div_le_self t (2 ^ k)) ht.out)
  have hS := Lib.hid (cmpI_sgn n (t / 2 ^ k)).2.1
  have hdn : Hid (∀ u, Calls Tryd.prog 56 #[.agg (wcs t), .int .i64 (k : Int)] u fun e w' => e = .returned (.agg (wcs (t / 2 ^ k))) ∧ Below u.heap.size u w') := fun u => down_any t k u ht.out (by omega)
  generalize t / 2 ^ k = d at *
  generalize hc : cmpI n d = c at *
  have HC := Lib.hid hc
  clear hc
  go_enter Tryd.func54, Tryd.ntmps54
  go_upto_region 1 with (fail)
  refine wp_region_G (w0 := w) [0, 1, 2, 3, 4, 5, 6] [(g5, (wo (n))), (g3, (wo (t)))] 0 (by kernel_rfl) (by kernel_rfl) rfl E1.out ?_
  have hone := @EnvC.one _ _ _ (E1.out.drew)
  (refine wpG_load rfl rfl (g5) rfl 26 _ _ (fun u hu => EnvC.box hu _ (wo (n)) (List.Mem.head _)) Tryd.underlying26 rfl (wc_info _) ?_ (E1.out.drew); intro K hK; go_big_quiet_op; go_big_quiet_on)
  (refine wpG_load rfl rfl (g3) rfl 26 _ _ (fun u hu => EnvC.box hu _ (wo (t)) (List.Mem.tail _ (List.Mem.head _))) Tryd.underlying26 rfl (wc_info _) ?_ (E1.out.drew); intro K hK; go_big_quiet_op; go_big_quiet_on)
  (refine wpG_op rfl rfl rfl ?_; intro K hK; go_big_quiet_op; go_big_quiet_on)
  (refine wpG_call (f := 56) (args := #[.agg (wcs (t)), .int .i64 (k : Int)]) (v := .agg (wcs (d))) rfl rfl rfl Tryd.func56 rfl rfl (fun u _ => hdn.out u) ?_ (E1.out.drew); intro K hK; go_big_quiet_op; go_big_quiet_on)
  (refine wpG_call (f := 55) (args := #[.agg (wcs (n)), .agg (wcs (d))]) (v := .int .i64 c) rfl rfl rfl Tryd.func55 rfl rfl (fun u _ => (by rw [← HC.out]; exact cmp_any n d u hn.out hdB.out)) ?_ (E1.out.drew); intro K hK; go_big_quiet_op; go_big_quiet_on)
  (refine wpG_op rfl rfl rfl ?_; intro K hK; go_big_quiet_op; go_big_quiet_on)
  (refine wpG_op rfl rfl rfl ?_; intro K hK; go_big_quiet_op; go_big_quiet_on)
  clear hone
  refine wpG_nil ?_
  refine anyG_done (by kernel_rfl) ?_
  rintro u2 ⟨hl2, E2'⟩
  have EX1 := Lib.hid E2'
  clear hl2 E2' E1
  go_wp2_with fail
  go_ret
  refine ⟨?_, EX1.out.bel⟩
  rw [← hb.out, show decide (n ≤ d) = decide (c ≤ 0) by simp only [hS.out]]
  rfl

set_option maxRecDepth 100000 in
set_option maxHeartbeats 4000000 in
theorem level_any (f : Nat → Nat) (hf : ∀ i, f i < 256) (t : Nat) (w : World) (ht : t < Big) :
    Calls Tryd.prog 28 #[.agg (idF (fun i => (f i : Int))), .agg (wcs t)] w fun e w' => e = .returned (.int .i64 (lvI (numOf f) t)) ∧ Below w.heap.size w w' := by
  have hN := Lib.hid (numOf_lt f hf)
  have ht' := Lib.hid ht
  have HO : Hid (∀ u, Calls Tryd.prog 37 #[.agg (idF (fun i => (f i : Int)))] u fun e w' => e = .returned (.agg (wcs (numOf f))) ∧ Below u.heap.size u w') := fun u => of32_any f hf u
  generalize numOf f = n at *
  have E1 : Hid (EnvX w ((w.alloc (.cells (idF (fun i => (f i : Int))) 23)).alloc (.cells (wcs t) 26)) [(w.heap.size + 1, wo t), (w.heap.size, io (fun i => (f i : Int)))]) := (EnvX.start w).two (io (fun i => (f i : Int))) (wo t)
  have hb1 : w.heap.size ≤ w.heap.size := Nat.le_refl _
  have hb2 : w.heap.size ≤ w.heap.size + 1 := Nat.le_succ _
  have n21 : Hid (w.heap.size + 1 ≠ w.heap.size) := by show _ ≠ _; omega
  have hmf : ∀ (fn : Fn) (first cap : Array Value) (w : World), (Instr.makeFunc fn first cap).run Tryd.prog w = .ok (.func fn first cap) w := fun _ _ _ _ => rfl
  go_enter Tryd.func28, Tryd.ntmps28
  go_upto_region 1 with (fail)
  generalize (w.alloc (.cells (idF (fun i => (f i : Int))) 23)).alloc (.cells (wcs t) 26) = w1 at *
  refine wp_region_Gx (w0 := w) [0, 1] [2, 3] [(w.heap.size + 1, (wo (t))), (w.heap.size, (io (fun i => (f i : Int))))] rfl E1.out ?_
  have hone := @EnvC.one _ _ _ (E1.out)
  (refine wpG_load rfl rfl (w.heap.size) rfl 23 _ _ (fun u hu => EnvC.box hu _ (io (fun i => (f i : Int))) (List.Mem.tail _ (List.Mem.head _))) Tryd.underlying23 rfl (infoId _ (idF_size _)) ?_ (E1.out); intro K hK; go_big_quiet_op; go_big_quiet_on)
  (refine wpG_call (f := 37) (args := #[.agg (idF (fun i => (f i : Int)))]) (v := .agg (wcs (n))) rfl rfl rfl Tryd.func37 rfl rfl (fun u _ => HO.out u) ?_ (E1.out); intro K hK; go_big_quiet_op; go_big_quiet_on)
  clear hone
  refine wpG_nil ?_
  (refine (gOp_new (wo (0)) rfl (new_wide _) ?_); intro g1 hbg1 hfg1; intro K' hK'; go_big_quiet_op; go_big_quiet_on)
  have ng1x0 : Hid (w.heap.size + 1 ≠ g1) := hfg1 (w.heap.size + 1, _) (List.Mem.head _)
  have ng1x1 : Hid (w.heap.size ≠ g1) := hfg1 (w.heap.size, _) (List.Mem.tail _ (List.Mem.head _))
  clear hfg1
  refine (gOp_store rfl (g1) (wcs (n)) rfl rfl hbg1 26 (wcs (0)) (List.Mem.head _) (wc_info _) ((wc_size _).trans (wc_size _).symm) (wc_one _) [(g1, (wo (n))), (w.heap.size + 1, (wo (t))), (w.heap.size, (io (fun i => (f i : Int))))] (List.forall_mem_cons.2 ⟨.inl rfl, (List.forall_mem_cons.2 ⟨.inr ⟨(List.Mem.tail _ (List.Mem.head _)), ng1x0.out⟩, (List.forall_mem_cons.2 ⟨.inr ⟨(List.Mem.tail _ (List.Mem.tail _ (List.Mem.head _))), ng1x1.out⟩, (fun _ h => by cases h)⟩)⟩)⟩) ?_)
  rintro u3 ⟨hl2, E2'⟩
  have EX2 := Lib.hid E2'
  clear hl2 E2' E1
  have z5 : Hid (EX2.out.box g1 _ (List.Mem.head _) = EX2.out.box g1 _ (List.Mem.head _)) := rfl
  clear z5
  go_wp2_with fail
  go_loopw [7] (fun l u => ∃ k : Nat, k ≤ 32 ∧ l = .int .i64 ((k : Int) - 1) ∧ Hid (EnvX w u [(g1, (wo (n))), (w.heap.size + 1, (wo (t))), (w.heap.size, (io (fun i => (f i : Int))))]) ∧ Hid (∀ j, j < k → n ≤ t / 2 ^ j)) (fun l _ => (31 - intOf l).toNat)
  case atStart => exact ⟨0, by omega, rfl, EX2, fun j hj => by omega⟩
  case round =>
    obtain ⟨k, hk, rfl, hE, hall⟩ := hrel
    clear EX2
    have hk0 : (-1 : Int) ≤ (k : Int) - 1 := by omega
    have hk1 : (k : Int) - 1 ≤ 31 := by omega
    by_cases h31 : k < 32
    · have h3 : (k : Int) - 1 < 31 := by omega
      by_cases hr : n ≤ t / 2 ^ k
      · go_wp2_with (go_at_call 54; refine (reaches_any n t k g1 (w.heap.size + 1) true _ hN ht' (by omega) (decide_eq_true hr) (hE.out.box g1 _ (List.Mem.head _)) (hE.out.box (w.heap.size + 1) _ (List.Mem.tail _ (List.Mem.head _)))).mono ?_; rintro e w' ⟨rfl, hb⟩; have hE2 := Lib.hid (hE.out.below hb); clear hb)
        go_roundw
        case rel =>
          refine ⟨k + 1, by omega, by go_num, by assumption, fun j hj => ?_⟩
          by_cases hjk : j = k
          · subst hjk; exact hr
          · exact hall.out j (by omega)
        case measure => simp [intOf]; omega
      · go_wp2_with (go_at_call 54; refine (reaches_any n t k g1 (w.heap.size + 1) false _ hN ht' (by omega) (decide_eq_false hr) (hE.out.box g1 _ (List.Mem.head _)) (hE.out.box (w.heap.size + 1) _ (List.Mem.tail _ (List.Mem.head _)))).mono ?_; rintro e w' ⟨rfl, hb⟩; have hE2 := Lib.hid (hE.out.below hb); clear hb)
        go_ret
        exact ⟨ret_num (by unfold lvI; rw [lvC_stop hk hall.out (.inr hr)]), by have h := hE2.out.bel; exact h⟩
    · have h3 : ¬ (k : Int) - 1 < 31 := by omega
      go_wp2
      go_ret
      exact ⟨ret_num (by unfold lvI; rw [lvC_stop hk hall.out (.inl (by omega))]), hE.out.bel⟩
end Go.Proofs.YtmpjgfecnnefeaaDoor

namespace Go.Proofs.YtmpjgfecnnefeaaDoor
set_option maxRecDepth 8000
open Go.RowKit

theorem acc_word (a p j : Nat) (hp : p < 4) (hj : j ≤ 8) : wordAcc (byteAt a) p (8 * (3 - p) + j) = W a p / 256 ^ (8 - j) := by
  induction j with
  | zero =>
    rw [Nat.add_zero, wordAcc_before _ p _ hp (by omega)]
    exact (Nat.div_eq_of_lt (W_lt a p)).symm
  | succ j ih =>
    rw [← Nat.add_assoc, wordAcc, if_pos (by omega), ih (by omega), ← byte_word a (8 * (3 - p) + j) (by omega)]
    rw [show 3 - (8 * (3 - p) + j) / 8 = p by omega, show 8 * (7 - (8 * (3 - p) + j) % 8) = 8 * (7 - j) by omega, Nat.pow_mul, show (2 : Nat) ^ 8 = 256 from rfl]
    rw [show 8 - j = (7 - j) + 1 by omega, show 8 - (j + 1) = 7 - j by omega, Nat.pow_succ, ← Nat.div_div_eq_div_mul]
    omega
theorem acc_all (a p : Nat) (hp : p < 4) : wordAcc (byteAt a) p 32 = W a p := by
  have h := wordAcc_after (byteAt a) p (32 - (8 * (3 - p) + 8)) hp (by omega)
  rw [show 8 * (3 - p) + 8 + (32 - (8 * (3 - p) + 8)) = 32 by omega, acc_word a p 8 hp (by omega)] at h
  rw [h]
  simp
theorem num_bytes (a : Nat) (ha : a < Big) : numOf (byteAt a) = a := by
  apply wl_inj (numOf_lt _ (byteAt_lt a)) ha
  unfold numOf
  rw [acc_all a 0 (by omega), acc_all a 1 (by omega), acc_all a 2 (by omega), acc_all a 3 (by omega), wl_mk4 _ _ _ _ (W_lt a 0) (W_lt a 1) (W_lt a 2) (W_lt a 3), wl_W]
end Go.Proofs.YtmpjgfecnnefeaaDoor

namespace Go.Proofs.YtmpjgfecnnefeaaDoor
set_option maxRecDepth 8000

structure Hd where
  height : Int
  prev : List Int
  links : List Int
  txs : List Int
  past : List Int
  work : Nat
  bits : Nat
  nonce : Nat
deriving DecidableEq
def noHd : Hd := ⟨0, z32, z32, z32, z32, 0, 0, 0⟩
def okHd (h : Hd) : Prop := I64 h.height ∧ isId h.prev ∧ isId h.links ∧ isId h.txs ∧ isId h.past ∧ h.work < Big ∧ h.bits < 4294967296 ∧ h.nonce < 18446744073709551616
/-- the bytes of a number -/
def bytesW (a : Nat) : List Int := listF (bytesOf a)
theorem bytesW_len (a : Nat) : (bytesW a).length = 32 := listF_len _
theorem bytesW_byte (a : Nat) : isB (bytesW a) := by
  intro x hx
  unfold bytesW listF at hx
  obtain ⟨i, _, rfl⟩ := List.mem_map.1 hx
  have := byteAt_lt a i
  unfold bytesOf
  omega
/-- the number of 32 bytes -/
def numB (l : List Int) : Nat := numOf (fun i => (l.getD i 0).toNat)
def bodyH (h : Hd) : List Int := putL h.height.toNat 4 ++ (h.prev ++ (h.links ++ (h.txs ++ (h.past ++ (bytesW h.work ++ (putL h.bits 4 ++ putL h.nonce 8))))))
def mayPut (h : Hd) : Bool := decide (0 ≤ h.height ∧ h.height ≤ 1048576)
def putH (h : Hd) : List Int × Bool := if mayPut h then (bodyH h, true) else ([], false)
def headOf (b : List Int) : Hd := ⟨getL (cutP b 0 4), cutP b 4 32, cutP b 36 32, cutP b 68 32, cutP b 100 32, numB (cutP b 132 32), getL (cutP b 164 4), getL (cutP b 168 8)⟩
def mayRead (b : List Int) : Bool := decide (b.length = 176 ∧ getL (cutP b 0 4) ≤ 1048576)
def readH (b : List Int) : Hd × Bool := if mayRead b then (headOf b, true) else (noHd, false)
def idH (h : Hd) : List Int := if mayPut h then sumL (5 :: bodyH h) else z32
def levelH (h : Hd) : Int := if mayPut h && isC h.bits then if h.height = 0 then 31 else lvI (numB (idH h)) (tv h.bits) else -1
def workH (h : Hd) : Nat := if isC h.bits then wkV (tv h.bits) else 0
def mayH (h : Hd) : Bool := decide (0 ≤ levelH h)
def nonceAt (h : Hd) (k : Nat) : Hd := { h with nonce := (h.nonce + k) % 18446744073709551616 }
def mineH (h : Hd) (tries : Int) : Hd × Bool := match (List.range (min tries 200).toNat).find? (fun k => mayH (nonceAt h k)) with
  | some k => (nonceAt h k, true)
  | none => (h, false)
theorem cutP_mid {a b c : List Int} {i n : Nat} (ha : a.length = i) (hb : b.length = n) : cutP (a ++ (b ++ c)) i n = b := by
  unfold cutP
  rw [List.drop_left' ha, List.take_left' hb]
theorem cutP_end {a b : List Int} {i n : Nat} (ha : a.length = i) (hb : b.length = n) : cutP (a ++ b) i n = b := by
  have := cutP_mid (c := []) ha hb
  rwa [List.append_nil] at this
/-- a list of 176 is its parts -/
theorem cutP_join (b : List Int) (i n : Nat) (r : List Int) (h : b.drop (i + n) = r) : b.drop i = cutP b i n ++ r := by
  unfold cutP
  rw [← h, ← List.drop_drop, List.take_append_drop]
theorem body_len {h : Hd} (hh : okHd h) : (bodyH h).length = 176 := by
  obtain ⟨_, h1, h2, h3, h4, _, _, _⟩ := hh
  unfold bodyH
  simp only [List.length_append, putL_len, bytesW_len, h1.1, h2.1, h3.1, h4.1]
theorem body_byte {h : Hd} (hh : okHd h) : isB (bodyH h) := by
  obtain ⟨_, h1, h2, h3, h4, _, _, _⟩ := hh
  unfold bodyH
  simp only [isB_append]
  exact ⟨putL_byte _ _, h1.2, h2.2, h3.2, h4.2, bytesW_byte _, putL_byte _ _, putL_byte _ _⟩
theorem wordAcc_congr {f g : Nat → Nat} (p : Nat) : ∀ k, (∀ i, i < k → f i = g i) → wordAcc f p k = wordAcc g p k := by
  intro k
  induction k with
  | zero => intro _; rfl
  | succ k ih =>
    intro h
    rw [wordAcc, wordAcc, ih (fun i hi => h i (by omega)), h k (by omega)]
theorem numOf_congr {f g : Nat → Nat} (h : ∀ i, i < 32 → f i = g i) : numOf f = numOf g := by
  unfold numOf
  rw [wordAcc_congr 0 32 h, wordAcc_congr 1 32 h, wordAcc_congr 2 32 h, wordAcc_congr 3 32 h]
/-- a word's bytes are those of which it was made -/
theorem wordAcc_div (f : Nat → Nat) (hf : ∀ i, f i < 256) (p : Nat) (hp : p < 4) : ∀ j, j ≤ 8 → ∀ q, q < j → wordAcc f p (8 * (3 - p) + j) / 256 ^ (j - 1 - q) % 256 = f (8 * (3 - p) + q) := by
  intro j
  induction j with
  | zero => intro _ q hq; omega
  | succ j ih =>
    intro hj q hq
    have := hf (8 * (3 - p) + j)
    rw [← Nat.add_assoc, wordAcc, if_pos (by omega)]
    by_cases e : q = j
    · subst e
      rw [show q + 1 - 1 - q = 0 by omega, Nat.pow_zero, Nat.div_one]
      omega
    · rw [show j + 1 - 1 - q = (j - 1 - q) + 1 by omega, Nat.pow_succ, Nat.mul_comm (256 ^ (j - 1 - q)) 256, ← Nat.div_div_eq_div_mul, show (256 * wordAcc f p (8 * (3 - p) + j) + f (8 * (3 - p) + j)) / 256 = wordAcc f p (8 * (3 - p) + j) by omega]
      exact ih (by omega) q (by omega)
theorem byte_num (f : Nat → Nat) (hf : ∀ i, f i < 256) (i : Nat) (hi : i < 32) : byteAt (numOf f) i = f i := by
  have h1 : W (numOf f) (3 - i / 8) = wordAcc f (3 - i / 8) 32 := by
    have e : (arrW 4 (accL f 32))[3 - i / 8]? = (wcs (numOf f))[3 - i / 8]? := by rw [accL_all f hf]
    rw [wc_get _ _ (by omega)] at e
    have hk : 3 - i / 8 = 0 ∨ 3 - i / 8 = 1 ∨ 3 - i / 8 = 2 ∨ 3 - i / 8 = 3 := by omega
    rcases hk with k | k | k | k <;> rw [k] at e ⊢ <;> simp [arrW, accL, u64v] at e <;> omega
  rw [← byte_word _ i hi, h1, show (32 : Nat) = 8 * (3 - (3 - i / 8)) + 8 + (32 - (8 * (3 - (3 - i / 8)) + 8)) by omega, wordAcc_after f _ _ (by omega) (by omega), Nat.pow_mul, show (2 : Nat) ^ 8 = 256 from rfl]
  have := wordAcc_div f hf (3 - i / 8) (by omega) 8 (by omega) (i % 8) (by omega)
  rw [show 8 - 1 - i % 8 = 7 - i % 8 by omega, show 8 * (3 - (3 - i / 8)) + i % 8 = i by omega] at this
  exact this
theorem bytesW_numB {l : List Int} (hl : l.length = 32) (hb : isB l) : bytesW (numB l) = l := by
  have hg : ∀ i, i < 32 → 0 ≤ l.getD i 0 ∧ l.getD i 0 ≤ 255 := fun i hi => by
    rw [List.getD_eq_getElem?_getD, List.getElem?_eq_getElem (by omega)]
    exact hb _ (List.getElem_mem _)
  have e : numB l = numOf (fun i => (l.getD i 0).toNat % 256) := numOf_congr (fun i hi => by have := hg i hi; omega)
  apply List.ext_getElem?
  intro i
  by_cases h1 : i < 32
  case neg => rw [List.getElem?_eq_none (by rw [bytesW_len]; omega), List.getElem?_eq_none (by omega)]
  have h2 : i < l.length := by omega
  have := byte_num (fun i => (l.getD i 0).toNat % 256) (fun i => Nat.mod_lt _ (by omega)) i h1
  unfold bytesW listF
  rw [List.getElem?_map, List.getElem?_range h1, List.getElem?_eq_getElem h2]
  show some ((byteAt (numB l) i : Nat) : Int) = _
  rw [e, this]
  congr 1
  have h3 := hg i h1
  have h4 : l.getD i 0 = l[i] := by rw [List.getD_eq_getElem?_getD, List.getElem?_eq_getElem h2]; rfl
  rw [← h4]
  omega
theorem numB_lt (l : List Int) (hb : isB l) : numB l < Big := by
  have hg : ∀ i, (l.getD i 0).toNat < 256 := fun i => by
    rw [List.getD_eq_getElem?_getD]
    cases h : l[i]? with
    | none => exact (by decide : (0 : Int).toNat < 256)
    | some x =>
      have := hb x (List.mem_of_getElem? h)
      simp only [Option.getD_some]
      omega
  exact numOf_lt _ hg
theorem numB_bytesW {a : Nat} (ha : a < Big) : numB (bytesW a) = a := by
  have e : numB (bytesW a) = numOf (byteAt a) := by
    unfold numB
    have hf : ∀ i, i < 32 → ((bytesW a).getD i 0).toNat = byteAt a i := fun i hi => by
      unfold bytesW listF
      rw [List.getD_eq_getElem?_getD, List.getElem?_map, List.getElem?_range hi]
      show ((byteAt a i : Nat) : Int).toNat = _
      exact Int.toNat_natCast _
    exact numOf_congr hf
  rw [e, num_bytes a ha]
theorem head_body {h : Hd} (hh : okHd h) (hm : mayPut h = true) : headOf (bodyH h) = h := by
  obtain ⟨h0, h1, h2, h3, h4, h5, h6, h7⟩ := hh
  unfold mayPut at hm
  simp only [decide_eq_true_eq] at hm
  have e0 : cutP (bodyH h) 0 4 = putL h.height.toNat 4 := cutP_mid (a := []) rfl (putL_len _ _)
  have e1 : cutP (bodyH h) 4 32 = h.prev := cutP_mid (putL_len _ _) h1.1
  have e2 : cutP (bodyH h) 36 32 = h.links := by
    unfold bodyH
    rw [← List.append_assoc]
    exact cutP_mid (by rw [List.length_append, putL_len, h1.1]) h2.1
  have e3 : cutP (bodyH h) 68 32 = h.txs := by
    unfold bodyH
    rw [← List.append_assoc, ← List.append_assoc]
    exact cutP_mid (by rw [List.length_append, List.length_append, putL_len, h1.1, h2.1]) h3.1
  have e4 : cutP (bodyH h) 100 32 = h.past := by
    unfold bodyH
    rw [← List.append_assoc, ← List.append_assoc, ← List.append_assoc]
    exact cutP_mid (by simp only [List.length_append, putL_len, h1.1, h2.1, h3.1]) h4.1
  have e5 : cutP (bodyH h) 132 32 = bytesW h.work := by
    unfold bodyH
    rw [← List.append_assoc, ← List.append_assoc, ← List.append_assoc, ← List.append_assoc]
    exact cutP_mid (by simp only [List.length_append, putL_len, h1.1, h2.1, h3.1, h4.1]) (bytesW_len _)
  have e6 : cutP (bodyH h) 164 4 = putL h.bits 4 := by
    unfold bodyH
    rw [← List.append_assoc, ← List.append_assoc, ← List.append_assoc, ← List.append_assoc, ← List.append_assoc]
    exact cutP_mid (by simp only [List.length_append, putL_len, h1.1, h2.1, h3.1, h4.1, bytesW_len]) (putL_len _ _)
  have e7 : cutP (bodyH h) 168 8 = putL h.nonce 8 := by
    unfold bodyH
    rw [← List.append_assoc, ← List.append_assoc, ← List.append_assoc, ← List.append_assoc, ← List.append_assoc, ← List.append_assoc]
    exact cutP_end (by simp only [List.length_append, putL_len, h1.1, h2.1, h3.1, h4.1, bytesW_len]) (putL_len _ _)
  unfold headOf
  rw [e0, e1, e2, e3, e4, e5, e6, e7, numB_bytesW h5, getL_putL, getL_putL, getL_putL]
  have k0 : ((h.height.toNat % 256 ^ 4 : Nat) : Int) = h.height := by
    rw [Nat.mod_eq_of_lt (by omega)]
    omega
  rw [k0, Nat.mod_eq_of_lt (show h.bits < 256 ^ 4 by omega), Nat.mod_eq_of_lt (show h.nonce < 256 ^ 8 by omega)]
theorem read_body {h : Hd} (hh : okHd h) (hm : mayPut h = true) : readH (bodyH h) = (h, true) := by
  have e := head_body hh hm
  have hr : mayRead (bodyH h) = true := by
    unfold mayRead
    rw [decide_eq_true_eq]
    refine ⟨body_len hh, ?_⟩
    have := congrArg Hd.height e
    unfold headOf at this
    simp only at this
    unfold mayPut at hm
    rw [decide_eq_true_eq] at hm
    omega
  unfold readH
  rw [if_pos hr, e]
/-- what is read may be put, as the same bytes -/
theorem read_ok {b : List Int} (hb : isB b) (hm : mayRead b = true) : okHd (headOf b) ∧ mayPut (headOf b) = true ∧ bodyH (headOf b) = b := by
  unfold mayRead at hm
  rw [decide_eq_true_eq] at hm
  obtain ⟨hl, hh⟩ := hm
  have hid : ∀ i, i + 32 ≤ 176 → isId (cutP b i 32) := fun i hi => ⟨cutP_len (by omega), cutP_byte hb i 32⟩
  have hn4 : ∀ i, i + 4 ≤ 176 → getL (cutP b i 4) < 4294967296 := fun i hi => by
    have := getL_lt (cutP b i 4) (cutP_byte hb i 4)
    rwa [cutP_len (by omega)] at this
  have hn8 : getL (cutP b 168 8) < 18446744073709551616 := by
    have := getL_lt (cutP b 168 8) (cutP_byte hb 168 8)
    rwa [cutP_len (by omega)] at this
  refine ⟨⟨?_, hid 4 (by omega), hid 36 (by omega), hid 68 (by omega), hid 100 (by omega), numB_lt _ (cutP_byte hb _ _), hn4 164 (by omega), hn8⟩, ?_, ?_⟩
  · show I64 ((getL (cutP b 0 4) : Nat) : Int)
    unfold I64
    omega
  · unfold mayPut
    rw [decide_eq_true_eq]
    show 0 ≤ ((getL (cutP b 0 4) : Nat) : Int) ∧ ((getL (cutP b 0 4) : Nat) : Int) ≤ 1048576
    omega
  · have hp4 : ∀ i, i + 4 ≤ 176 → putL (getL (cutP b i 4)) 4 = cutP b i 4 := fun i hi => by
      have := putL_getL (cutP b i 4) (cutP_byte hb i 4)
      rwa [cutP_len (by omega)] at this
    have hp8 : putL (getL (cutP b 168 8)) 8 = cutP b 168 8 := by
      have := putL_getL (cutP b 168 8) (cutP_byte hb 168 8)
      rwa [cutP_len (by omega)] at this
    have e : bodyH (headOf b) = cutP b 0 4 ++ (cutP b 4 32 ++ (cutP b 36 32 ++ (cutP b 68 32 ++ (cutP b 100 32 ++ (cutP b 132 32 ++ (cutP b 164 4 ++ cutP b 168 8)))))) := by
      unfold bodyH headOf
      simp only [Int.toNat_natCast]
      rw [hp4 0 (by omega), hp4 164 (by omega), hp8, bytesW_numB (cutP_len (by omega)) (cutP_byte hb _ _)]
    have l8 : b.drop 168 = cutP b 168 8 := by unfold cutP; rw [List.take_of_length_le (by rw [List.length_drop]; omega)]
    rw [e, ← cutP_join b 164 4 _ l8, ← cutP_join b 132 32 _ rfl, ← cutP_join b 100 32 _ rfl, ← cutP_join b 68 32 _ rfl, ← cutP_join b 36 32 _ rfl, ← cutP_join b 4 32 _ rfl, ← cutP_join b 0 4 _ rfl, List.drop_zero]
theorem body_inj {g h : Hd} (hg : okHd g) (hh : okHd h) (mg : mayPut g = true) (mh : mayPut h = true) (e : bodyH g = bodyH h) : g = h := by
  rw [← head_body hg mg, ← head_body hh mh, e]
end Go.Proofs.YtmpjgfecnnefeaaDoor

namespace Go.Proofs.YtmpjgfecnnefeaaDoor
set_option maxRecDepth 8000

structure Tot where
  h : List Int
  w : Nat
  n : Int
theorem Tot.ext' {a b : Tot} (h1 : a.h = b.h) (h2 : a.w = b.w) (h3 : a.n = b.n) : a = b := by
  cases a; cases b; simp_all
instance : DecidableEq Tot := fun a b => decidable_of_iff (a.h = b.h ∧ a.w = b.w ∧ a.n = b.n) ⟨fun h => Tot.ext' h.1 h.2.1 h.2.2, fun h => by subst h; exact ⟨rfl, rfl, rfl⟩⟩
end Go.Proofs.YtmpjgfecnnefeaaDoor
