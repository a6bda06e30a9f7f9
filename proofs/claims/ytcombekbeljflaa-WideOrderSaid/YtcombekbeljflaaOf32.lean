/- The walks of Of32: the program's and the reference's. -/
import Derived.Test.YtcombekbeljflaaIds
import Derived.RegionTactic
import Derived.BigRegion
namespace Go.Proofs.Ytcombekbeljflaa
open Go.RowKit

/-- word p of the first k bytes -/
def wordAcc (f : Nat → Nat) (p : Nat) : Nat → Nat
  | 0 => 0
  | k + 1 => if 3 - k / 8 = p then 256 * wordAcc f p k + f k else wordAcc f p k
theorem wordAcc_before (f : Nat → Nat) (p k : Nat) (hp : p < 4) (hk : k ≤ 8 * (3 - p)) : wordAcc f p k = 0 := by
  induction k with
  | zero => rfl
  | succ k ih => rw [wordAcc, if_neg (by omega), ih (by omega)]
theorem wordAcc_lt (f : Nat → Nat) (hf : ∀ i, f i < 256) (p j : Nat) (hp : p < 4) (hj : j ≤ 8) : wordAcc f p (8 * (3 - p) + j) < 256 ^ j := by
  induction j with
  | zero => rw [Nat.add_zero, wordAcc_before f p _ hp (by omega)]; decide
  | succ j ih =>
    have := ih (by omega)
    have := hf (8 * (3 - p) + j)
    rw [← Nat.add_assoc, wordAcc, if_pos (by omega), Nat.pow_succ]
    omega
theorem wordAcc_after (f : Nat → Nat) (p j : Nat) (hp : p < 4) (hj : 8 * (3 - p) + 8 + j ≤ 32) : wordAcc f p (8 * (3 - p) + 8 + j) = wordAcc f p (8 * (3 - p) + 8) := by
  induction j with
  | zero => rfl
  | succ j ih => rw [← Nat.add_assoc, wordAcc, if_neg (by omega), ih (by omega)]
theorem wordAcc_word (f : Nat → Nat) (hf : ∀ i, f i < 256) (p k : Nat) (hp : p < 4) (hk : k ≤ 32) : wordAcc f p k < 18446744073709551616 := by
  by_cases h1 : k ≤ 8 * (3 - p)
  · rw [wordAcc_before f p k hp h1]; decide
  · by_cases h2 : k ≤ 8 * (3 - p) + 8
    · have h := wordAcc_lt f hf p (k - 8 * (3 - p)) hp (by omega)
      rw [show 8 * (3 - p) + (k - 8 * (3 - p)) = k by omega] at h
      have : 256 ^ (k - 8 * (3 - p)) ≤ 256 ^ 8 := Nat.pow_le_pow_right (by omega) (by omega)
      exact Nat.lt_of_lt_of_le h this
    · have h := wordAcc_after f p (k - (8 * (3 - p) + 8)) hp (by omega)
      rw [show 8 * (3 - p) + 8 + (k - (8 * (3 - p) + 8)) = k by omega] at h
      rw [h]
      exact wordAcc_lt f hf p 8 hp (by omega)
theorem wordAcc_small (f : Nat → Nat) (hf : ∀ i, f i < 256) (k : Nat) (hk : k < 32) : wordAcc f (3 - k / 8) k < 72057594037927936 := by
  have h := wordAcc_lt f hf (3 - k / 8) (k % 8) (by omega) (by omega)
  rw [show 8 * (3 - (3 - k / 8)) + k % 8 = k by omega] at h
  have : 256 ^ (k % 8) ≤ 256 ^ 7 := Nat.pow_le_pow_right (by omega) (by omega)
  exact Nat.lt_of_lt_of_le h this
/-- the four words of the first k bytes -/
def accL (f : Nat → Nat) (k : Nat) : List Int := [(wordAcc f 0 k : Int), (wordAcc f 1 k : Int), (wordAcc f 2 k : Int), (wordAcc f 3 k : Int)]
/-- the number of 32 bytes -/
def numOf (f : Nat → Nat) : Nat := mk4 (wordAcc f 0 32) (wordAcc f 1 32) (wordAcc f 2 32) (wordAcc f 3 32)
theorem numOf_lt (f : Nat → Nat) (hf : ∀ i, f i < 256) : numOf f < Big := mk4_lt _ _ _ _ (wordAcc_word f hf 0 32 (by omega) (by omega)) (wordAcc_word f hf 1 32 (by omega) (by omega)) (wordAcc_word f hf 2 32 (by omega) (by omega)) (wordAcc_word f hf 3 32 (by omega) (by omega))
theorem accL_all (f : Nat → Nat) (hf : ∀ i, f i < 256) : arrW 4 (accL f 32) = wcs (numOf f) := by
  unfold wcs numOf
  rw [wl_mk4 _ _ _ _ (wordAcc_word f hf 0 32 (by omega) (by omega)) (wordAcc_word f hf 1 32 (by omega) (by omega)) (wordAcc_word f hf 2 32 (by omega) (by omega)) (wordAcc_word f hf 3 32 (by omega) (by omega))]
  rfl
theorem accL_get (f : Nat → Nat) (k p : Nat) (hp : p < 4) : (arrW 4 (accL f k))[p]? = some (.int .u64 (wordAcc f p k)) := by
  rcases p with _ | _ | _ | _ | p
  all_goals first | rfl | omega
theorem accL_put (f : Nat → Nat) (k : Nat) (hk : k < 32) : (arrW 4 (accL f k)).setIfInBounds (3 - k / 8) (.int .u64 ((256 * wordAcc f (3 - k / 8) k + f k : Nat) : Int)) = arrW 4 (accL f (k + 1)) := by
  have key : ∀ p, p < 4 → wordAcc f p (k + 1) = if 3 - k / 8 = p then 256 * wordAcc f p k + f k else wordAcc f p k := fun p _ => rfl
  have hq : k / 8 = 0 ∨ k / 8 = 1 ∨ k / 8 = 2 ∨ k / 8 = 3 := by omega
  unfold accL
  rw [key 0 (by omega), key 1 (by omega), key 2 (by omega), key 3 (by omega)]
  rcases hq with h | h | h | h <;> rw [h] <;> rfl
theorem or_byte (x b : Nat) (hx : x < 72057594037927936) (hb : b < 256) : bits .or .u64 ((x : Int) * 256) (b : Int) = ((256 * x + b : Nat) : Int) := by
  have c1 : ((x : Int) * 256) = ((x * 256 : Nat) : Int) := by simp
  rw [c1, bits_or_u64_nat (x * 256) b (by omega) (by omega)]
  congr 1
  have h := Nat.shiftLeft_add_eq_or_of_lt (a := x) (b := b) (i := 8) (by omega)
  rw [Nat.shiftLeft_eq, show (2 : Nat) ^ 8 = 256 from rfl] at h
  rw [← h]
  omega
set_option maxHeartbeats 4000000 in
theorem of32_any (f : Nat → Nat) (hf : ∀ i, f i < 256) (w : World) :
    Calls Try.prog 21 #[.agg (idF (fun i => (f i : Int)))] w fun e w' => e = .returned (.agg (wcs (numOf f))) ∧ Below w.heap.size w w' := by
  have HF := Lib.hid hf
  clear hf
  go_enter Try.func21, Try.ntmps21
  go_wp2_with fail
  go_loopw [6] (fun i u => ∃ k : Nat, k ≤ 32 ∧ i = .int .i64 k ∧ Below w.heap.size w u ∧ Hid (Row u w.heap.size 30 (idF (fun i => (f i : Int))) ∧ Row u (w.heap.size + 1) 24 (arrW 4 []) ∧ Row u (w.heap.size + 1 + 1) 24 (arrW 4 (accL f k)))) (fun i _ => 32 - (intOf i).toNat)
  case atStart => exact ⟨0, by omega, rfl, by go_grown, ((Row.new w 30 _).alloc _).alloc _, (Row.newAt (by simp) 24 _).alloc _, Row.newAt (by simp) 24 _⟩
  case round =>
    obtain ⟨k, hk, rfl, hbl, hrows⟩ := hrel
    obtain ⟨r0, r1, r2⟩ := hrows.out
    by_cases hlt : k < 32
    · have hk0 : (0 : Int) ≤ (k : Int) := by omega
      have hk4 : (k : Int) < 32 := by omega
      have e0 : wr.cell? ⟨w.heap.size, k, none⟩ = some (.int .u8 (f k : Int)) := (r0.cell k).trans (idF_get _ k hlt)
      have e2 : wr.cell? ⟨w.heap.size + 1 + 1, 3 - k / 8, none⟩ = some (.int .u64 (wordAcc f (3 - k / 8) k)) := (r2.cell _).trans (accL_get f k _ (by omega))
      have f2 : wr.frozen? ⟨w.heap.size + 1 + 1, 3 - k / 8, none⟩ = false := r2.frozen _
      have R0 := Lib.hid r0
      have R1 := Lib.hid r1
      have R2 := Lib.hid r2
      have hput := Lib.hid (accL_put f k hlt)
      have hor := Lib.hid (or_byte _ _ (wordAcc_small f HF.out k hlt) (HF.out k))
      have hsm := wordAcc_small f HF.out k hlt
      have hfk := HF.out k
      clear r0 r1 r2 hrows
      generalize wordAcc f (3 - k / 8) k = x at *
      generalize f k = b at *
      have q0 : 0 ≤ 3 - (k : Int) / 8 := by omega
      have q1 : 3 - (k : Int) / 8 < 4 := by omega
      have q2 : (3 - (k : Int) / 8).toNat = 3 - k / 8 := by omega
      have hx0 : (0 : Int) ≤ (x : Int) := by omega
      have hx1 : (x : Int) < 72057594037927936 := by omega
      have hb0 : (0 : Int) ≤ (b : Int) := by omega
      have hb1 : (b : Int) < 256 := by omega
      have wx : IntKind.u64.wrap ((x : Int) * 256) = (x : Int) * 256 := by rw [IntKind.wrap_u64]; omega
      have wb : IntKind.u64.wrap (b : Int) = (b : Int) := by rw [IntKind.wrap_u64]; omega
      go_wp2_with (go_at_call 33; refine (ofbyte_any _ _ (by omega) (by omega)).mono ?_; rintro e w' ⟨rfl, rfl⟩)
      go_region
      clear wx wb q2
      go_wp2
      go_roundw
      case rel =>
        refine ⟨k + 1, by omega, by go_num, (hbl.setCell (by simp; omega) _).drew, R0.out.farAt (by omega) _, R1.out.farAt (by omega) _, ?_⟩
        rw [← hput.out, ← hor.out]
        exact R2.out.put (3 - k / 8) _
      case measure => simp [intOf]; omega
    · obtain rfl : k = 32 := by omega
      rw [accL_all f HF.out] at r2
      have hsz := Lib.hid (wc_size (numOf f))
      have hz0 := Lib.hid (arrW_size 4 [] (by simp))
      have ho := Lib.hid (wc_one (numOf f))
      have R1 : Hid (wr.heap[w.heap.size + 1]? = some (.cells (arrW 4 []) 24 (0, 0))) := r1
      have R2 : Hid (wr.heap[w.heap.size + 1 + 1]? = some (.cells (wcs (numOf f)) 24 (0, 0))) := r2
      clear r0 r1 r2 hrows
      generalize hE : wcs (numOf f) = cs at *
      have HE := Lib.hid hE
      clear hE
      generalize arrW 4 [] = zs at *
      go_wp2_with (first
        | ((with_reducible refine wpList_load_row (o := ⟨some 23, _, _, _, _, _⟩) ?_ 24 (.tmp 3) ?_ (w.heap.size + 1 + 1) ?_ 24 cs (0, 0) _ R2.out Try.underlying24 ?_ (infoW cs hsz.out) ?_); (rfl); (rfl); (rfl); (rfl))
        | ((with_reducible refine wpList_store_row (o := ⟨none, .store 24 _ _, _, _, _, _⟩) ?_ 24 (.tmp 2) (.tmp 23) ?_ (w.heap.size + 1) cs ?_ ?_ 24 zs R1.out (infoW cs hsz.out) (by rw [hz0.out, hsz.out]) ho.out ?_); (rfl); (rfl); (rfl); (rfl))
        | ((with_reducible refine bodyPost_ret (v := .agg cs) ?_ ?_ ?_); (exact results_cell_row (p := 2) (ty := 24) Try.results21 _ _ (w.heap.size + 1) 24 cs (0, 0) _ rfl (setRow_heap _ _ zs cs 24 (0, 0) R1.out) Try.underlying24 rfl (infoW cs hsz.out)); (rfl)))
      exact ⟨by rw [HE.out], below_setRow hbl (by omega) _⟩
set_option maxHeartbeats 4000000 in
theorem rof32_any (f : Nat → Nat) (hf : ∀ i, f i < 256) (w : World) :
    Calls Try.prog 22 #[.agg (idF (fun i => (f i : Int)))] w fun e w' => e = .returned (.agg (wcs (numOf f))) ∧ Below w.heap.size w w' := by
  have HF := Lib.hid hf
  clear hf
  go_enter Try.func22, Try.ntmps22
  go_wp2_with fail
  go_loopw [4] (fun i u => ∃ k : Nat, k ≤ 32 ∧ i = .int .i64 k ∧ Below w.heap.size w u ∧ Hid (Row u w.heap.size 30 (idF (fun i => (f i : Int))) ∧ Row u (w.heap.size + 1) 24 (arrW 4 []) ∧ Row u (w.heap.size + 1 + 1) 24 (arrW 4 (accL f k)))) (fun i _ => 32 - (intOf i).toNat)
  case atStart => exact ⟨0, by omega, rfl, by go_grown, ((Row.new w 30 _).alloc _).alloc _, (Row.newAt (by simp) 24 _).alloc _, Row.newAt (by simp) 24 _⟩
  case round =>
    obtain ⟨k, hk, rfl, hbl, hrows⟩ := hrel
    obtain ⟨r0, r1, r2⟩ := hrows.out
    by_cases hlt : k < 32
    · have hk0 : (0 : Int) ≤ (k : Int) := by omega
      have hk4 : (k : Int) < 32 := by omega
      have e0 : wr.cell? ⟨w.heap.size, k, none⟩ = some (.int .u8 (f k : Int)) := (r0.cell k).trans (idF_get _ k hlt)
      have e2 : wr.cell? ⟨w.heap.size + 1 + 1, 3 - k / 8, none⟩ = some (.int .u64 (wordAcc f (3 - k / 8) k)) := (r2.cell _).trans (accL_get f k _ (by omega))
      have f2 : wr.frozen? ⟨w.heap.size + 1 + 1, 3 - k / 8, none⟩ = false := r2.frozen _
      have R0 := Lib.hid r0
      have R1 := Lib.hid r1
      have R2 := Lib.hid r2
      have hput := Lib.hid (accL_put f k hlt)
      have hsm := wordAcc_small f HF.out k hlt
      have hfk := HF.out k
      clear r0 r1 r2 hrows
      generalize wordAcc f (3 - k / 8) k = x at *
      generalize f k = b at *
      have q0 : 0 ≤ 3 - (k : Int) / 8 := by omega
      have q1 : 3 - (k : Int) / 8 < 4 := by omega
      have q2 : (3 - (k : Int) / 8).toNat = 3 - k / 8 := by omega
      have hx0 : (0 : Int) ≤ (x : Int) := by omega
      have hx1 : (x : Int) < 72057594037927936 := by omega
      have hb0 : (0 : Int) ≤ (b : Int) := by omega
      have hb1 : (b : Int) < 256 := by omega
      have wx : IntKind.u64.wrap (256 * (x : Int)) = 256 * (x : Int) := by rw [IntKind.wrap_u64]; omega
      have wy : IntKind.u64.wrap (256 * (x : Int) + (b : Int)) = 256 * (x : Int) + (b : Int) := by rw [IntKind.wrap_u64]; omega
      have wb : IntKind.u64.wrap (b : Int) = (b : Int) := by rw [IntKind.wrap_u64]; omega
      go_wp2_with fail
      go_region
      clear wx wb q2 wy
      go_wp2
      go_roundw
      case rel =>
        refine ⟨k + 1, by omega, by go_num, (hbl.setCell (by simp; omega) _).drew, R0.out.farAt (by omega) _, R1.out.farAt (by omega) _, ?_⟩
        rw [← hput.out, show ((256 * x + b : Nat) : Int) = 256 * (x : Int) + (b : Int) by omega]
        exact R2.out.put (3 - k / 8) _
      case measure => simp [intOf]; omega
    · obtain rfl : k = 32 := by omega
      rw [accL_all f HF.out] at r2
      have hsz := Lib.hid (wc_size (numOf f))
      have hz0 := Lib.hid (arrW_size 4 [] (by simp))
      have ho := Lib.hid (wc_one (numOf f))
      have R1 : Hid (wr.heap[w.heap.size + 1]? = some (.cells (arrW 4 []) 24 (0, 0))) := r1
      have R2 : Hid (wr.heap[w.heap.size + 1 + 1]? = some (.cells (wcs (numOf f)) 24 (0, 0))) := r2
      clear r0 r1 r2 hrows
      generalize hE : wcs (numOf f) = cs at *
      have HE := Lib.hid hE
      clear hE
      generalize arrW 4 [] = zs at *
      go_wp2_with (first
        | ((with_reducible refine wpList_load_row (o := ⟨some 24, _, _, _, _, _⟩) ?_ 24 (.tmp 3) ?_ (w.heap.size + 1 + 1) ?_ 24 cs (0, 0) _ R2.out Try.underlying24 ?_ (infoW cs hsz.out) ?_); (rfl); (rfl); (rfl); (rfl))
        | ((with_reducible refine wpList_store_row (o := ⟨none, .store 24 _ _, _, _, _, _⟩) ?_ 24 (.tmp 2) (.tmp 24) ?_ (w.heap.size + 1) cs ?_ ?_ 24 zs R1.out (infoW cs hsz.out) (by rw [hz0.out, hsz.out]) ho.out ?_); (rfl); (rfl); (rfl); (rfl))
        | ((with_reducible refine bodyPost_ret (v := .agg cs) ?_ ?_ ?_); (exact results_cell_row (p := 2) (ty := 24) Try.results22 _ _ (w.heap.size + 1) 24 cs (0, 0) _ rfl (setRow_heap _ _ zs cs 24 (0, 0) R1.out) Try.underlying24 rfl (infoW cs hsz.out)); (rfl)))
      exact ⟨by rw [HE.out], below_setRow hbl (by omega) _⟩
end Go.Proofs.Ytcombekbeljflaa
