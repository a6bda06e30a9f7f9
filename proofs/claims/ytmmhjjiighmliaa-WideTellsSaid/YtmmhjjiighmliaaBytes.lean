/- The walks of Bytes: the program's and the reference's. -/
import Derived.Test.YtmmhjjiighmliaaWalk4
namespace Go.Proofs.Ytmmhjjiighmliaa
open Go.RowKit

/-- byte i of a number, the highest one first -/
def byteAt (a i : Nat) : Nat := a / 2 ^ (8 * (31 - i)) % 256
theorem byteAt_lt (a i : Nat) : byteAt a i < 256 := Nat.mod_lt _ (by omega)
/-- 32 numbers, told by their places -/
def listF (f : Nat → Int) : List Int := (List.range 32).map f
theorem listF_len (f : Nat → Int) : (listF f).length = 32 := by simp [listF]
theorem listF_get (f : Nat → Int) (i : Nat) (h : i < 32) : (listF f).getD i 0 = f i := by
  unfold listF
  simp [List.getD, h]
def idF (f : Nat → Int) : Array Value := arrB 32 (listF f)
theorem idF_size (f : Nat → Int) : (idF f).size = 32 := arrB_size 32 _ (by rw [listF_len]; omega)
theorem idF_one (f : Nat → Int) : (idF f).all (·.oneCell') = true := arrB_one 32 _
theorem idF_get (f : Nat → Int) (i : Nat) (h : i < 32) : (idF f)[i]? = some (.int .u8 (f i)) := by
  unfold idF
  rw [arrB_get 32 _ i (by rw [listF_len]; omega) h, listF_get f i h]
theorem idF_put (f g : Nat → Int) (j : Nat) (v : Int) (hj : j < 32) (hg : g j = v) (hf : ∀ i, i < 32 → i ≠ j → g i = f i) : (idF f).setIfInBounds j (.int .u8 v) = idF g := by
  unfold idF
  apply arrB_ext
  · rw [listF_len]; omega
  · rw [Array.size_setIfInBounds]; exact idF_size f
  · intro i hi
    rw [Array.getElem?_setIfInBounds, listF_get g i hi]
    by_cases e : j = i
    · subst e
      rw [if_pos rfl, if_pos (by rw [arrB_size 32 _ (by rw [listF_len]; omega)]; exact hj), hg]
    · rw [if_neg e, hf i hi (fun h => e h.symm)]
      exact idF_get f i hi
theorem idF_zero : arrB 32 [] = idF (fun _ => 0) := by
  unfold idF
  apply arrB_ext
  · rw [listF_len]; omega
  · rw [arrB_size 32 [] (by simp)]
  · intro i hi
    rw [listF_get _ i hi, arrB_get 32 [] i (by simp) hi]
    rfl
theorem idF_congr (f g : Nat → Int) (h : ∀ i, i < 32 → f i = g i) : idF f = idF g := by
  unfold idF
  congr 1
  unfold listF
  apply List.map_congr_left
  intro i hi
  exact h i (by simpa using hi)
/-- the bytes of a number -/
def bytesOf (a : Nat) : Nat → Int := fun i => (byteAt a i : Int)
theorem byte_word (a k : Nat) (hk : k < 32) : W a (3 - k / 8) / 2 ^ (8 * (7 - k % 8)) % 256 = byteAt a k := by
  unfold byteAt
  rw [show (256 : Nat) = 2 ^ 8 from rfl]
  apply Nat.eq_of_testBit_eq
  intro i
  rw [Nat.testBit_mod_two_pow, Nat.testBit_mod_two_pow, Nat.testBit_div_two_pow, Nat.testBit_div_two_pow, W_bit]
  by_cases hi : i < 8
  · rw [show 64 * (3 - k / 8) + (i + 8 * (7 - k % 8)) = i + 8 * (31 - k) by omega]
    simp only [show i + 8 * (7 - k % 8) < 64 by omega, decide_true, Bool.true_and]
  · simp only [hi, decide_false, Bool.false_and]
theorem infoId (cs : Array Value) (h : cs.size = 32) : (Try.prog.info? 30).map (·.size) = some cs.size := by rw [h]; kernel_rfl
set_option maxHeartbeats 4000000 in
theorem bytes_any (a : Nat) (w : World) :
    Calls Try.prog 19 #[.agg (wcs a)] w fun e w' => e = .returned (.agg (idF (bytesOf a))) ∧ Below w.heap.size w w' := by
  go_enter Try.func19, Try.ntmps19
  go_wp2_with fail
  go_loopw [6] (fun i u => ∃ k : Nat, k ≤ 32 ∧ i = .int .i64 k ∧ Below w.heap.size w u ∧ Hid (Row u w.heap.size 24 (wcs a) ∧ Row u (w.heap.size + 1) 30 (arrB 32 []) ∧ Row u (w.heap.size + 1 + 1) 30 (idF (fun i => if i < k then bytesOf a i else 0)))) (fun i _ => 32 - (intOf i).toNat)
  case atStart =>
    refine ⟨0, by omega, rfl, by go_grown, ((Row.new w 24 _).alloc _).alloc _, (Row.newAt (by simp) 30 _).alloc _, ?_⟩
    have e : idF (fun i => if i < 0 then bytesOf a i else 0) = arrB 32 [] := by rw [idF_zero]; exact idF_congr _ _ (fun i _ => by simp)
    rw [e]
    exact Row.newAt (by simp) 30 _
  case round =>
    obtain ⟨k, hk, rfl, hbl, hrows⟩ := hrel
    obtain ⟨r0, r1, r2⟩ := hrows.out
    by_cases hlt : k < 32
    · have hk0 : (0 : Int) ≤ (k : Int) := by omega
      have hk4 : (k : Int) < 32 := by omega
      have e0 : wr.cell? ⟨w.heap.size, 3 - k / 8, none⟩ = some (.int .u64 (W a (3 - k / 8))) := (r0.cell _).trans (wc_get a _ (by omega))
      have e2 := (r2.cell k).trans (idF_get _ k hlt)
      have f2 := r2.frozen k
      have R0 := Lib.hid r0
      have R1 := Lib.hid r1
      have R2 := Lib.hid r2
      have hput : Hid ((idF (fun i => if i < k then bytesOf a i else 0)).setIfInBounds k (.int .u8 (bytesOf a k)) = idF (fun i => if i < k + 1 then bytesOf a i else 0)) := by
        show _ = _
        refine idF_put _ _ k _ hlt (by simp) (fun i _ hne => ?_)
        by_cases hik : i < k
        · rw [if_pos hik, if_pos (by omega)]
        · rw [if_neg hik, if_neg (by omega)]
      have q0 : 0 ≤ 3 - (k : Int) / 8 := by omega
      have q1 : 3 - (k : Int) / 8 < 4 := by omega
      have q2 : (0 : Int) ≤ 7 - (k : Int) % 8 := by omega
      have q3 : 7 - (k : Int) % 8 < 8 := by omega
      have hv : Hid ((W a (3 - k / 8) : Int) / 2 ^ (8 * (7 - k % 8)) % 256 = bytesOf a k) := by
        show _ = _
        unfold bytesOf
        rw [← byte_word a k hlt, shrW]
        omega
      have hW := W_lt a (3 - k / 8)
      clear r0 r1 r2 hrows
      generalize W a (3 - k / 8) = x at *
      generalize (if k < k then bytesOf a k else 0) = z at *
      have hx0 : (0 : Int) ≤ (x : Int) := by omega
      go_wp2_with (go_at_call 33; refine (ofbyte_any _ _ (by omega) (by omega)).mono ?_; rintro e w' ⟨rfl, rfl⟩)
      go_roundw
      case rel =>
        refine ⟨k + 1, by omega, by go_num, hbl.setCell (by simp; omega) _, R0.out.farAt (by omega) _, R1.out.farAt (by omega) _, ?_⟩
        rw [← hput.out, ← hv.out]
        exact R2.out.put k _
      case measure => simp [intOf]; omega
    · obtain rfl : k = 32 := by omega
      have hE : idF (fun i => if i < 32 then bytesOf a i else 0) = idF (bytesOf a) := idF_congr _ _ (fun i hi => by rw [if_pos hi])
      rw [hE] at r2
      have hsz := Lib.hid (idF_size (bytesOf a))
      have hz0 := Lib.hid (arrB_size 32 [] (by simp))
      have ho := Lib.hid (idF_one (bytesOf a))
      have R1 : Hid (wr.heap[w.heap.size + 1]? = some (.cells (arrB 32 []) 30 (0, 0))) := r1
      have R2 : Hid (wr.heap[w.heap.size + 1 + 1]? = some (.cells (idF (bytesOf a)) 30 (0, 0))) := r2
      clear r0 r1 r2 hrows hE
      generalize hE2 : idF (bytesOf a) = cs at *
      have HE := Lib.hid hE2
      clear hE2
      generalize arrB 32 [] = zs at *
      go_wp2_with (first
        | ((with_reducible refine wpList_load_row (o := ⟨some 23, _, _, _, _, _⟩) ?_ 30 (.tmp 3) ?_ (w.heap.size + 1 + 1) ?_ 30 cs (0, 0) _ R2.out Try.underlying30 ?_ (infoId cs hsz.out) ?_); (rfl); (rfl); (rfl); (rfl))
        | ((with_reducible refine wpList_store_row (o := ⟨none, .store 30 _ _, _, _, _, _⟩) ?_ 30 (.tmp 2) (.tmp 23) ?_ (w.heap.size + 1) cs ?_ ?_ 30 zs R1.out (infoId cs hsz.out) (by rw [hz0.out, hsz.out]) ho.out ?_); (rfl); (rfl); (rfl); (rfl))
        | ((with_reducible refine bodyPost_ret (v := .agg cs) ?_ ?_ ?_); (exact results_cell_row (p := 2) (ty := 30) Try.results19 _ _ (w.heap.size + 1) 30 cs (0, 0) _ rfl (setRow_heap _ _ zs cs 30 (0, 0) R1.out) Try.underlying30 rfl (infoId cs hsz.out)); (rfl)))
      exact ⟨by rw [HE.out], below_setRow hbl (by omega) _⟩
theorem byte_ref (a i : Nat) (hi : i < 32) : W a (i / 8) / 256 ^ (i % 8) % 256 = byteAt a (31 - i) := by
  have h := byte_word a (31 - i) (by omega)
  rw [show 3 - (31 - i) / 8 = i / 8 by omega, show 8 * (7 - (31 - i) % 8) = 8 * (i % 8) by omega, Nat.pow_mul] at h
  exact h
set_option maxHeartbeats 4000000 in
theorem rbytes_any (a : Nat) (w : World) :
    Calls Try.prog 20 #[.agg (wcs a)] w fun e w' => e = .returned (.agg (idF (bytesOf a))) ∧ Below w.heap.size w w' := by
  go_enter Try.func20, Try.ntmps20
  go_wp2_with fail
  go_loopw [4] (fun i u => ∃ k : Nat, k ≤ 32 ∧ i = .int .i64 k ∧ Below w.heap.size w u ∧ Hid (Row u w.heap.size 24 (wcs a) ∧ Row u (w.heap.size + 1) 30 (arrB 32 []) ∧ Row u (w.heap.size + 1 + 1) 30 (idF (fun i => if 32 - k ≤ i then bytesOf a i else 0)))) (fun i _ => 32 - (intOf i).toNat)
  case atStart =>
    refine ⟨0, by omega, rfl, by go_grown, ((Row.new w 24 _).alloc _).alloc _, (Row.newAt (by simp) 30 _).alloc _, ?_⟩
    have e : idF (fun i => if 32 - 0 ≤ i then bytesOf a i else 0) = arrB 32 [] := by rw [idF_zero]; exact idF_congr _ _ (fun i hi => by rw [if_neg (by omega)])
    rw [e]
    exact Row.newAt (by simp) 30 _
  case round =>
    obtain ⟨k, hk, rfl, hbl, hrows⟩ := hrel
    obtain ⟨r0, r1, r2⟩ := hrows.out
    by_cases hlt : k < 32
    · have hk0 : (0 : Int) ≤ (k : Int) := by omega
      have hk4 : (k : Int) < 32 := by omega
      have e0 : wr.cell? ⟨w.heap.size, k / 8, none⟩ = some (.int .u64 (W a (k / 8))) := (r0.cell _).trans (wc_get a _ (by omega))
      have e2 := (r2.cell (31 - k)).trans (idF_get _ (31 - k) (by omega))
      have f2 := r2.frozen (31 - k)
      have R0 := Lib.hid r0
      have R1 := Lib.hid r1
      have R2 := Lib.hid r2
      have hput : Hid ((idF (fun i => if 32 - k ≤ i then bytesOf a i else 0)).setIfInBounds (31 - k) (.int .u8 (bytesOf a (31 - k))) = idF (fun i => if 32 - (k + 1) ≤ i then bytesOf a i else 0)) := by
        show _ = _
        refine idF_put _ _ (31 - k) _ (by omega) (by rw [if_pos (by omega)]) (fun i _ hne => ?_)
        by_cases hik : 32 - k ≤ i
        · rw [if_pos hik, if_pos (by omega)]
        · rw [if_neg hik, if_neg (by omega)]
      have hv : Hid (((W a (k / 8) / 256 ^ (k % 8) : Nat) : Int) % 256 = bytesOf a (31 - k)) := by
        show _ = _
        unfold bytesOf
        rw [← byte_ref a k hlt]
        omega
      have hW := W_lt a (k / 8)
      clear r0 r1 r2 hrows
      generalize W a (k / 8) = x at *
      generalize (if 32 - k ≤ 31 - k then bytesOf a (31 - k) else 0) = z at *
      have hx0 : (0 : Int) ≤ (x : Int) := by omega
      go_wp2_with fail
      go_loop [5, 6] (fun n j => ∃ i : Nat, i ≤ k % 8 ∧ j = .int .i64 i ∧ n = .int .u64 ((x / 256 ^ i : Nat) : Int)) (fun _ j => k % 8 - (intOf j).toNat)
      case atStart => exact ⟨0, by omega, rfl, by simp⟩
      case round =>
        obtain ⟨i, hi, rfl, rfl⟩ := hrel
        by_cases hil : i < k % 8
        · have hi1 : (i : Int) < (k : Int) % 8 := by omega
          have hp : Hid ((x / 256 ^ i : Nat) / 256 = x / 256 ^ (i + 1)) := by show _ = _; rw [Nat.div_div_eq_div_mul, ← Nat.pow_succ]
          have hyx : x / 256 ^ i ≤ x := Nat.div_le_self _ _
          generalize x / 256 ^ i = y at *
          have hyw : IntKind.u64.wrap ((y : Int) / 256) = (y : Int) / 256 := by rw [IntKind.wrap_u64]; omega
          go_wp2
          go_round
          case rel => exact ⟨i + 1, by omega, by go_num, congrArg (Value.int .u64) (by rw [← hp.out]; omega)⟩
          case measure => simp [intOf]; omega
        · obtain rfl : i = k % 8 := by omega
          have hi1 : ¬ (((k % 8 : Nat) : Int) < (k : Int) % 8) := by omega
          have hy : x / 256 ^ (k % 8) ≤ x := Nat.div_le_self _ _
          generalize x / 256 ^ (k % 8) = y at *
          go_wp2
          refine ⟨⟨k + 1, by omega, by go_num, hbl.setCell (by simp; omega) _, R0.out.farAt (by omega) _, R1.out.farAt (by omega) _, ?_⟩, by simp [intOf]; omega⟩
          rw [← hput.out, ← hv.out]
          exact R2.out.put (31 - k) _
    · obtain rfl : k = 32 := by omega
      have hE : idF (fun i => if 32 - 32 ≤ i then bytesOf a i else 0) = idF (bytesOf a) := idF_congr _ _ (fun i hi => by rw [if_pos (by omega)])
      rw [hE] at r2
      have hsz := Lib.hid (idF_size (bytesOf a))
      have hz0 := Lib.hid (arrB_size 32 [] (by simp))
      have ho := Lib.hid (idF_one (bytesOf a))
      have R1 : Hid (wr.heap[w.heap.size + 1]? = some (.cells (arrB 32 []) 30 (0, 0))) := r1
      have R2 : Hid (wr.heap[w.heap.size + 1 + 1]? = some (.cells (idF (bytesOf a)) 30 (0, 0))) := r2
      clear r0 r1 r2 hrows hE
      generalize hE2 : idF (bytesOf a) = cs at *
      have HE := Lib.hid hE2
      clear hE2
      generalize arrB 32 [] = zs at *
      go_wp2_with (first
        | ((with_reducible refine wpList_load_row (o := ⟨some 29, _, _, _, _, _⟩) ?_ 30 (.tmp 3) ?_ (w.heap.size + 1 + 1) ?_ 30 cs (0, 0) _ R2.out Try.underlying30 ?_ (infoId cs hsz.out) ?_); (rfl); (rfl); (rfl); (rfl))
        | ((with_reducible refine wpList_store_row (o := ⟨none, .store 30 _ _, _, _, _, _⟩) ?_ 30 (.tmp 2) (.tmp 29) ?_ (w.heap.size + 1) cs ?_ ?_ 30 zs R1.out (infoId cs hsz.out) (by rw [hz0.out, hsz.out]) ho.out ?_); (rfl); (rfl); (rfl); (rfl))
        | ((with_reducible refine bodyPost_ret (v := .agg cs) ?_ ?_ ?_); (exact results_cell_row (p := 2) (ty := 30) Try.results20 _ _ (w.heap.size + 1) 30 cs (0, 0) _ rfl (setRow_heap _ _ zs cs 30 (0, 0) R1.out) Try.underlying30 rfl (infoId cs hsz.out)); (rfl)))
      exact ⟨by rw [HE.out], below_setRow hbl (by omega) _⟩
end Go.Proofs.Ytmmhjjiighmliaa
