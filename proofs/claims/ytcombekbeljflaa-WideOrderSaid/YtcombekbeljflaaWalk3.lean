/- The walks of Up and Down, word by word. -/
import Derived.Test.YtcombekbeljflaaWalk2
import Derived.Deep.RegionHeld3
import Derived.Deep.DrawnRows
import Derived.RegionTactic
namespace Go.Proofs.Ytcombekbeljflaa
open Go.RowKit
attribute [local go_sem ↓] Go.wp_at_zero Go.wp_at_succ

/-- a part, 0 beyond both ends -/
def partZ (xs : List Int) (i : Int) : Int := if 0 ≤ i ∧ i < 4 then xs.getD i.toNat 0 else 0
theorem part_z (x0 x1 x2 x3 i : Int) (w : World) :
    Calls Try.prog 31 #[.agg #[.int .u64 x0, .int .u64 x1, .int .u64 x2, .int .u64 x3], .int .i64 i] w fun e w' => e = .returned (.int .u64 (partZ [x0, x1, x2, x3] i)) ∧ w' = w.alloc (.cells #[.int .u64 x0, .int .u64 x1, .int .u64 x2, .int .u64 x3] 24) := by
  by_cases h : 0 ≤ i ∧ i < 4
  · refine (part_any [x0, x1, x2, x3] i w rfl h.1 h.2).mono ?_
    rintro e w' ⟨rfl, rfl⟩
    exact ⟨by unfold partZ; rw [if_pos h], rfl⟩
  · refine (part_out [x0, x1, x2, x3] i w (by omega)).mono ?_
    rintro e w' ⟨rfl, rfl⟩
    exact ⟨by unfold partZ; rw [if_neg h], rfl⟩
def upW (xs : List Int) (p r : Int) (k : Nat) : Int := bits .or .u64 (IntKind.u64.wrap (partZ xs (k - p) * 2 ^ r.toNat)) (partZ xs (k - p - 1) / 2 ^ (64 - r).toNat)
def upL (xs : List Int) (p r : Int) : Nat → List Int
  | 0 => []
  | k + 1 => upL xs p r k ++ [upW xs p r k]
theorem upL_len (xs : List Int) (p r : Int) (k : Nat) : (upL xs p r k).length = k := by
  induction k with
  | zero => rfl
  | succ k ih => simp [upL, ih]
def downW (xs : List Int) (p r : Int) (k : Nat) : Int := bits .or .u64 (partZ xs (k + p) / 2 ^ r.toNat) (IntKind.u64.wrap (partZ xs (k + p + 1) * 2 ^ (64 - r).toNat))
def downL (xs : List Int) (p r : Int) : Nat → List Int
  | 0 => []
  | k + 1 => downL xs p r k ++ [downW xs p r k]
theorem downL_len (xs : List Int) (p r : Int) (k : Nat) : (downL xs p r k).length = k := by
  induction k with
  | zero => rfl
  | succ k ih => simp [downL, ih]
set_option maxHeartbeats 4000000 in
theorem upw_any (x0 x1 x2 x3 n : Int) (w : World) (h0 : 0 ≤ n) (h1 : n ≤ 9223372036854775807) :
    Calls Try.prog 15 #[.agg (arrW 4 [x0, x1, x2, x3]), .int .i64 n] w fun e w' => e = .returned (.agg (arrW 4 (upL [x0, x1, x2, x3] (n / 64) (n % 64) 4))) ∧ Below w.heap.size w w' := by
  go_enter Try.func15, Try.ntmps15
  go_wp2_with fail
  have p0 : 0 ≤ n / 64 := by omega
  have p1 : n / 64 ≤ 144115188075855872 := by omega
  have r0 : 0 ≤ n % 64 := by omega
  have r1 : n % 64 < 64 := by omega
  generalize hp : n / 64 = p at *
  generalize hr : n % 64 = r at *
  have HP := Lib.hid hp
  have HR := Lib.hid hr
  clear hp hr h0 h1
  go_loopw [16] (fun i u => ∃ k : Nat, k ≤ 4 ∧ i = .int .i64 k ∧ Below w.heap.size w u ∧ Hid (Row u w.heap.size 24 (arrW 4 [x0, x1, x2, x3]) ∧ Row u (w.heap.size + 1) 24 (arrW 4 []) ∧ Row u (w.heap.size + 1 + 1) 24 (arrW 4 (upL [x0, x1, x2, x3] p r k)))) (fun i _ => 4 - (intOf i).toNat)
  case atStart => exact ⟨0, by omega, rfl, by go_grown, ((Row.new w 24 _).alloc _).alloc _, (Row.newAt (by simp) 24 _).alloc _, Row.newAt (by simp) 24 _⟩
  case round =>
    obtain ⟨k, hk, rfl, hbl, hrows⟩ := hrel
    obtain ⟨r0', r1', r2⟩ := hrows.out
    by_cases hlt : k < 4
    · have R0 := Lib.hid r0'
      have R1 := Lib.hid r1'
      have R2 := Lib.hid r2
      have e2 := (r2.cell k).trans (arrW_get 4 _ k (by rw [upL_len]; omega) hlt)
      have f2 := r2.frozen k
      have hput := Lib.hid (arrW_put_at 4 (upL [x0, x1, x2, x3] p r k) (upW [x0, x1, x2, x3] p r k) k (upL_len _ _ _ _) hlt)
      have hL : Hid (upL [x0, x1, x2, x3] p r (k + 1) = upL [x0, x1, x2, x3] p r k ++ [upW [x0, x1, x2, x3] p r k]) := rfl
      have hk0 : (0 : Int) ≤ (k : Int) := by omega
      have hk4 : (k : Int) < 4 := by omega
      have d1 : IntKind.i64.wrap ((k : Int) - p) = (k : Int) - p := by rw [IntWalk.i64_in _ (by omega)]
      have d2 : IntKind.i64.wrap ((k : Int) - p - 1) = (k : Int) - p - 1 := by rw [IntWalk.i64_in _ (by omega)]
      have d3 : IntKind.i64.wrap (64 - r) = 64 - r := by rw [IntWalk.i64_in _ (by omega)]
      have d4 : 0 ≤ 64 - r := by omega
      have c0 : wr.cell? ⟨w.heap.size, 0, none⟩ = some (.int .u64 x0) := (r0'.cell 0).trans rfl
      have c1 : wr.cell? ⟨w.heap.size, 1, none⟩ = some (.int .u64 x1) := (r0'.cell 1).trans rfl
      have c2 : wr.cell? ⟨w.heap.size, 2, none⟩ = some (.int .u64 x2) := (r0'.cell 2).trans rfl
      have c3 : wr.cell? ⟨w.heap.size, 3, none⟩ = some (.int .u64 x3) := (r0'.cell 3).trans rfl
      have s2 := r2.lt
      have s0 : w.heap.size < wr.heap.size := by omega
      have s1 : w.heap.size + 1 < wr.heap.size := by omega
      clear r0' r1' r2 hrows
      generalize (upL [x0, x1, x2, x3] p r k).getD k 0 = z at *
      go_wp2_with fail
      go_region_held3 (fun u => u.cell? ⟨w.heap.size, 0, none⟩ = some (.int .u64 x0) ∧ u.cell? ⟨w.heap.size, 1, none⟩ = some (.int .u64 x1) ∧ u.cell? ⟨w.heap.size, 2, none⟩ = some (.int .u64 x2) ∧ u.cell? ⟨w.heap.size, 3, none⟩ = some (.int .u64 x3)) (first | exact ⟨c0, c1, c2, c3⟩ | (simp [go_sem, World.cell?_alloc_past, s0, s2, c0, c1, c2, c3]; done)) (first | (go_at_call 31; refine (part_z _ _ _ _ _ _).mono ?_; rintro e w' ⟨rfl, rfl⟩))
      clear d1 d2 d3 d4
      go_wp2
      go_roundw
      case rel =>
        refine ⟨k + 1, by omega, by go_num, (((hbl.setCell (by simp; omega) _).alloc (by simp; omega) _).alloc (by simp; omega) _).drew, ((R0.out.farAt (by omega) _).alloc _).alloc _, ((R1.out.farAt (by omega) _).alloc _).alloc _, ?_⟩
        rw [hL.out, ← hput.out]
        exact ((R2.out.put k _).alloc _).alloc _
      case measure => simp [intOf]; omega
    · obtain rfl : k = 4 := by omega
      have hsz := Lib.hid (arrW_size 4 (upL [x0, x1, x2, x3] p r 4) (by rw [upL_len]; omega))
      have hz0 := Lib.hid (arrW_size 4 [] (by simp))
      have ho := Lib.hid (arrW_one 4 (upL [x0, x1, x2, x3] p r 4))
      have R1 : Hid (wr.heap[w.heap.size + 1]? = some (.cells (arrW 4 []) 24 (0, 0))) := r1'
      have R2 : Hid (wr.heap[w.heap.size + 1 + 1]? = some (.cells (arrW 4 (upL [x0, x1, x2, x3] p r 4)) 24 (0, 0))) := r2
      clear r0' r1' r2 hrows
      generalize hE : arrW 4 (upL [x0, x1, x2, x3] p r 4) = cs at *
      have HE := Lib.hid hE
      clear hE
      generalize arrW 4 [] = zs at *
      go_wp2_with (first
        | ((with_reducible refine wpList_load_row (o := ⟨some 39, _, _, _, _, _⟩) ?_ 24 (.tmp 5) ?_ (w.heap.size + 1 + 1) ?_ 24 cs (0, 0) _ R2.out Try.underlying24 ?_ (infoW cs hsz.out) ?_); (rfl); (rfl); (rfl); (rfl))
        | ((with_reducible refine wpList_store_row (o := ⟨none, .store 24 _ _, _, _, _, _⟩) ?_ 24 (.tmp 4) (.tmp 39) ?_ (w.heap.size + 1) cs ?_ ?_ 24 zs R1.out (infoW cs hsz.out) (by rw [hz0.out, hsz.out]) ho.out ?_); (rfl); (rfl); (rfl); (rfl))
        | ((with_reducible refine bodyPost_ret (v := .agg cs) ?_ ?_ ?_); (exact results_cell_row (p := 4) (ty := 24) Try.results15 _ _ (w.heap.size + 1) 24 cs (0, 0) _ rfl (setRow_heap _ _ zs cs 24 (0, 0) R1.out) Try.underlying24 rfl (infoW cs hsz.out)); (rfl)))
      exact ⟨by rw [HP.out, HR.out, HE.out], below_setRow hbl (by omega) _⟩
set_option maxHeartbeats 4000000 in
theorem up_neg (x0 x1 x2 x3 n : Int) (w : World) (h0 : n < 0) :
    Calls Try.prog 15 #[.agg (arrW 4 [x0, x1, x2, x3]), .int .i64 n] w fun e w' => e = .returned (.agg (arrW 4 [x0, x1, x2, x3])) ∧ Below w.heap.size w w' := by
  change Calls Try.prog 15 #[.agg #[.int .u64 x0, .int .u64 x1, .int .u64 x2, .int .u64 x3], .int .i64 n] w fun e w' => e = .returned (.agg #[.int .u64 x0, .int .u64 x1, .int .u64 x2, .int .u64 x3]) ∧ Below w.heap.size w w'
  go_enter Try.func15, Try.ntmps15
  go_wp2
  go_returns
  exact ⟨rfl, by go_grown⟩
set_option maxHeartbeats 4000000 in
theorem downw_any (x0 x1 x2 x3 n : Int) (w : World) (h0 : 0 ≤ n) (h1 : n ≤ 9223372036854775807) :
    Calls Try.prog 17 #[.agg (arrW 4 [x0, x1, x2, x3]), .int .i64 n] w fun e w' => e = .returned (.agg (arrW 4 (downL [x0, x1, x2, x3] (n / 64) (n % 64) 4))) ∧ Below w.heap.size w w' := by
  go_enter Try.func17, Try.ntmps17
  go_wp2_with fail
  have p0 : 0 ≤ n / 64 := by omega
  have p1 : n / 64 ≤ 144115188075855872 := by omega
  have r0 : 0 ≤ n % 64 := by omega
  have r1 : n % 64 < 64 := by omega
  generalize hp : n / 64 = p at *
  generalize hr : n % 64 = r at *
  have HP := Lib.hid hp
  have HR := Lib.hid hr
  clear hp hr h0 h1
  go_loopw [16] (fun i u => ∃ k : Nat, k ≤ 4 ∧ i = .int .i64 k ∧ Below w.heap.size w u ∧ Hid (Row u w.heap.size 24 (arrW 4 [x0, x1, x2, x3]) ∧ Row u (w.heap.size + 1) 24 (arrW 4 []) ∧ Row u (w.heap.size + 1 + 1) 24 (arrW 4 (downL [x0, x1, x2, x3] p r k)))) (fun i _ => 4 - (intOf i).toNat)
  case atStart => exact ⟨0, by omega, rfl, by go_grown, ((Row.new w 24 _).alloc _).alloc _, (Row.newAt (by simp) 24 _).alloc _, Row.newAt (by simp) 24 _⟩
  case round =>
    obtain ⟨k, hk, rfl, hbl, hrows⟩ := hrel
    obtain ⟨r0', r1', r2⟩ := hrows.out
    by_cases hlt : k < 4
    · have R0 := Lib.hid r0'
      have R1 := Lib.hid r1'
      have R2 := Lib.hid r2
      have e2 := (r2.cell k).trans (arrW_get 4 _ k (by rw [downL_len]; omega) hlt)
      have f2 := r2.frozen k
      have hput := Lib.hid (arrW_put_at 4 (downL [x0, x1, x2, x3] p r k) (downW [x0, x1, x2, x3] p r k) k (downL_len _ _ _ _) hlt)
      have hL : Hid (downL [x0, x1, x2, x3] p r (k + 1) = downL [x0, x1, x2, x3] p r k ++ [downW [x0, x1, x2, x3] p r k]) := rfl
      have hk0 : (0 : Int) ≤ (k : Int) := by omega
      have hk4 : (k : Int) < 4 := by omega
      have d1 : IntKind.i64.wrap ((k : Int) + p) = (k : Int) + p := by rw [IntWalk.i64_in _ (by omega)]
      have d2 : IntKind.i64.wrap ((k : Int) + p + 1) = (k : Int) + p + 1 := by rw [IntWalk.i64_in _ (by omega)]
      have d3 : IntKind.i64.wrap (64 - r) = 64 - r := by rw [IntWalk.i64_in _ (by omega)]
      have d4 : 0 ≤ 64 - r := by omega
      have c0 : wr.cell? ⟨w.heap.size, 0, none⟩ = some (.int .u64 x0) := (r0'.cell 0).trans rfl
      have c1 : wr.cell? ⟨w.heap.size, 1, none⟩ = some (.int .u64 x1) := (r0'.cell 1).trans rfl
      have c2 : wr.cell? ⟨w.heap.size, 2, none⟩ = some (.int .u64 x2) := (r0'.cell 2).trans rfl
      have c3 : wr.cell? ⟨w.heap.size, 3, none⟩ = some (.int .u64 x3) := (r0'.cell 3).trans rfl
      have s2 := r2.lt
      have s0 : w.heap.size < wr.heap.size := by omega
      have s1 : w.heap.size + 1 < wr.heap.size := by omega
      clear r0' r1' r2 hrows
      generalize (downL [x0, x1, x2, x3] p r k).getD k 0 = z at *
      go_wp2_with fail
      go_region_held3 (fun u => u.cell? ⟨w.heap.size, 0, none⟩ = some (.int .u64 x0) ∧ u.cell? ⟨w.heap.size, 1, none⟩ = some (.int .u64 x1) ∧ u.cell? ⟨w.heap.size, 2, none⟩ = some (.int .u64 x2) ∧ u.cell? ⟨w.heap.size, 3, none⟩ = some (.int .u64 x3)) (first | exact ⟨c0, c1, c2, c3⟩ | (simp [go_sem, World.cell?_alloc_past, s0, s2, c0, c1, c2, c3]; done)) (first | (go_at_call 31; refine (part_z _ _ _ _ _ _).mono ?_; rintro e w' ⟨rfl, rfl⟩))
      clear d1 d2 d3 d4
      go_wp2
      go_roundw
      case rel =>
        refine ⟨k + 1, by omega, by go_num, (((hbl.setCell (by simp; omega) _).alloc (by simp; omega) _).alloc (by simp; omega) _).drew, ((R0.out.farAt (by omega) _).alloc _).alloc _, ((R1.out.farAt (by omega) _).alloc _).alloc _, ?_⟩
        rw [hL.out, ← hput.out]
        exact ((R2.out.put k _).alloc _).alloc _
      case measure => simp [intOf]; omega
    · obtain rfl : k = 4 := by omega
      have hsz := Lib.hid (arrW_size 4 (downL [x0, x1, x2, x3] p r 4) (by rw [downL_len]; omega))
      have hz0 := Lib.hid (arrW_size 4 [] (by simp))
      have ho := Lib.hid (arrW_one 4 (downL [x0, x1, x2, x3] p r 4))
      have R1 : Hid (wr.heap[w.heap.size + 1]? = some (.cells (arrW 4 []) 24 (0, 0))) := r1'
      have R2 : Hid (wr.heap[w.heap.size + 1 + 1]? = some (.cells (arrW 4 (downL [x0, x1, x2, x3] p r 4)) 24 (0, 0))) := r2
      clear r0' r1' r2 hrows
      generalize hE : arrW 4 (downL [x0, x1, x2, x3] p r 4) = cs at *
      have HE := Lib.hid hE
      clear hE
      generalize arrW 4 [] = zs at *
      go_wp2_with (first
        | ((with_reducible refine wpList_load_row (o := ⟨some 39, _, _, _, _, _⟩) ?_ 24 (.tmp 5) ?_ (w.heap.size + 1 + 1) ?_ 24 cs (0, 0) _ R2.out Try.underlying24 ?_ (infoW cs hsz.out) ?_); (rfl); (rfl); (rfl); (rfl))
        | ((with_reducible refine wpList_store_row (o := ⟨none, .store 24 _ _, _, _, _, _⟩) ?_ 24 (.tmp 4) (.tmp 39) ?_ (w.heap.size + 1) cs ?_ ?_ 24 zs R1.out (infoW cs hsz.out) (by rw [hz0.out, hsz.out]) ho.out ?_); (rfl); (rfl); (rfl); (rfl))
        | ((with_reducible refine bodyPost_ret (v := .agg cs) ?_ ?_ ?_); (exact results_cell_row (p := 4) (ty := 24) Try.results17 _ _ (w.heap.size + 1) 24 cs (0, 0) _ rfl (setRow_heap _ _ zs cs 24 (0, 0) R1.out) Try.underlying24 rfl (infoW cs hsz.out)); (rfl)))
      exact ⟨by rw [HP.out, HR.out, HE.out], below_setRow hbl (by omega) _⟩
set_option maxHeartbeats 4000000 in
theorem down_neg (x0 x1 x2 x3 n : Int) (w : World) (h0 : n < 0) :
    Calls Try.prog 17 #[.agg (arrW 4 [x0, x1, x2, x3]), .int .i64 n] w fun e w' => e = .returned (.agg (arrW 4 [x0, x1, x2, x3])) ∧ Below w.heap.size w w' := by
  change Calls Try.prog 17 #[.agg #[.int .u64 x0, .int .u64 x1, .int .u64 x2, .int .u64 x3], .int .i64 n] w fun e w' => e = .returned (.agg #[.int .u64 x0, .int .u64 x1, .int .u64 x2, .int .u64 x3]) ∧ Below w.heap.size w w'
  go_enter Try.func17, Try.ntmps17
  go_wp2
  go_returns
  exact ⟨rfl, by go_grown⟩
end Go.Proofs.Ytcombekbeljflaa
