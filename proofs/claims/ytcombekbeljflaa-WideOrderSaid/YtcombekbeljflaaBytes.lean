/- The walk of Bytes, the program's. -/
import Derived.Test.YtcombekbeljflaaIds
namespace Go.Proofs.Ytcombekbeljflaa
open Go.RowKit

set_option maxHeartbeats 4000000 in
theorem bytes_any (a : Nat) (w : World) :
    Calls Try.prog 19 #[.agg (wcs a)] w fun e w' => e = .returned (.agg (idF (bytesOf a))) ∧ Below w.heap.size w w' := by
  go_enter Try.func19, Try.ntmps19
  go_wp2_with fail
  go_loopw [6] (fun i u => ∃ k : Nat, k ≤ 32 ∧ i = .int .i64 k ∧ Below w.heap.size w u ∧ Hid (Row u w.heap.size 24 (wcs a) ∧ Row u (w.heap.size + 1) 30 (arrB 32 []) ∧ Row u (w.heap.size + 1 + 1) 30 (idF (fun i => if i < k then bytesOf a i else 0)))) (fun i _ => 32 - (intOf i).toNat)
  case atStart =>
    refine ⟨0, by omega, rfl, by go_grown, ((Row.new w 24 _).alloc _).alloc _, (Row.newAt (by simp) 30 _).alloc _, ?_⟩
    have e : idF (fun i => if i < 0 then bytesOf a i else 0) = arrB 32 [] := by rw [idF_zero]; exact idF_congr _ _ (fun i _ => by simp)
    rw [e]
    exact Row.newAt (by simp) 30 _
  case round =>
    obtain ⟨k, hk, rfl, hbl, hrows⟩ := hrel
    obtain ⟨r0, r1, r2⟩ := hrows.out
    by_cases hlt : k < 32
    · have hk0 : (0 : Int) ≤ (k : Int) := by omega
      have hk4 : (k : Int) < 32 := by omega
      have e0 : wr.cell? ⟨w.heap.size, 3 - k / 8, none⟩ = some (.int .u64 (W a (3 - k / 8))) := (r0.cell _).trans (wc_get a _ (by omega))
      have e2 := (r2.cell k).trans (idF_get _ k hlt)
      have f2 := r2.frozen k
      have R0 := Lib.hid r0
      have R1 := Lib.hid r1
      have R2 := Lib.hid r2
      have hput : Hid ((idF (fun i => if i < k then bytesOf a i else 0)).setIfInBounds k (.int .u8 (bytesOf a k)) = idF (fun i => if i < k + 1 then bytesOf a i else 0)) := by
        show _ = _
        refine idF_put _ _ k _ hlt (by simp) (fun i _ hne => ?_)
        by_cases hik : i < k
        · rw [if_pos hik, if_pos (by omega)]
        · rw [if_neg hik, if_neg (by omega)]
      have q0 : 0 ≤ 3 - (k : Int) / 8 := by omega
      have q1 : 3 - (k : Int) / 8 < 4 := by omega
      have q2 : (0 : Int) ≤ 7 - (k : Int) % 8 := by omega
      have q3 : 7 - (k : Int) % 8 < 8 := by omega
      have hv : Hid ((W a (3 - k / 8) : Int) / 2 ^ (8 * (7 - k % 8)) % 256 = bytesOf a k) := by
        show _ = _
        unfold bytesOf
        rw [← byte_word a k hlt, shrW]
        omega
      have hW := W_lt a (3 - k / 8)
      clear r0 r1 r2 hrows
      generalize W a (3 - k / 8) = x at *
      generalize (if k < k then bytesOf a k else 0) = z at *
      have hx0 : (0 : Int) ≤ (x : Int) := by omega
      go_wp2_with (go_at_call 33; refine (ofbyte_any _ _ (by omega) (by omega)).mono ?_; rintro e w' ⟨rfl, rfl⟩)
      go_roundw
      case rel =>
        refine ⟨k + 1, by omega, by go_num, hbl.setCell (by simp; omega) _, R0.out.farAt (by omega) _, R1.out.farAt (by omega) _, ?_⟩
        rw [← hput.out, ← hv.out]
        exact R2.out.put k _
      case measure => simp [intOf]; omega
    · obtain rfl : k = 32 := by omega
      have hE : idF (fun i => if i < 32 then bytesOf a i else 0) = idF (bytesOf a) := idF_congr _ _ (fun i hi => by rw [if_pos hi])
      rw [hE] at r2
      have hsz := Lib.hid (idF_size (bytesOf a))
      have hz0 := Lib.hid (arrB_size 32 [] (by simp))
      have ho := Lib.hid (idF_one (bytesOf a))
      have R1 : Hid (wr.heap[w.heap.size + 1]? = some (.cells (arrB 32 []) 30 (0, 0))) := r1
      have R2 : Hid (wr.heap[w.heap.size + 1 + 1]? = some (.cells (idF (bytesOf a)) 30 (0, 0))) := r2
      clear r0 r1 r2 hrows hE
      generalize hE2 : idF (bytesOf a) = cs at *
      have HE := Lib.hid hE2
      clear hE2
      generalize arrB 32 [] = zs at *
      go_wp2_with (first
        | ((with_reducible refine wpList_load_row (o := ⟨some 23, _, _, _, _, _⟩) ?_ 30 (.tmp 3) ?_ (w.heap.size + 1 + 1) ?_ 30 cs (0, 0) _ R2.out Try.underlying30 ?_ (infoId cs hsz.out) ?_); (rfl); (rfl); (rfl); (rfl))
        | ((with_reducible refine wpList_store_row (o := ⟨none, .store 30 _ _, _, _, _, _⟩) ?_ 30 (.tmp 2) (.tmp 23) ?_ (w.heap.size + 1) cs ?_ ?_ 30 zs R1.out (infoId cs hsz.out) (by rw [hz0.out, hsz.out]) ho.out ?_); (rfl); (rfl); (rfl); (rfl))
        | ((with_reducible refine bodyPost_ret (v := .agg cs) ?_ ?_ ?_); (exact results_cell_row (p := 2) (ty := 30) Try.results19 _ _ (w.heap.size + 1) 30 cs (0, 0) _ rfl (setRow_heap _ _ zs cs 30 (0, 0) R1.out) Try.underlying30 rfl (infoId cs hsz.out)); (rfl)))
      exact ⟨by rw [HE.out], below_setRow hbl (by omega) _⟩
end Go.Proofs.Ytcombekbeljflaa
