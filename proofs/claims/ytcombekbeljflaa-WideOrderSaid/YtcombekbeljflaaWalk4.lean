/- Contracts over numbers, not words: Add, Sub, Up, Down, bit, Of; numbers compared as arrays; the walk of Cmp. -/
import Derived.Test.YtcombekbeljflaaBits
import Derived.ChangeKeysEq
namespace Go.Proofs.Ytcombekbeljflaa
open Go.RowKit

/-- the cells of a number -/
def wcs (n : Nat) : Array Value := arrW 4 (wl n)
theorem wc_size (n : Nat) : (wcs n).size = 4 := arrW_size 4 _ (by simp [wl_len])
theorem wc_one (n : Nat) : (wcs n).all (·.oneCell') = true := arrW_one 4 _
theorem wc_info (n : Nat) : (Try.prog.info? 24).map (·.size) = some (wcs n).size := infoW _ (wc_size n)
theorem wc_get (n k : Nat) (hk : k < 4) : (wcs n)[k]? = some (.int .u64 (W n k)) := by
  unfold wcs
  rw [arrW_get 4 _ k (by simp [wl_len]) hk, wl_get n k hk]
theorem wc_cells (n : Nat) : wcs n = #[.int .u64 (W n 0), .int .u64 (W n 1), .int .u64 (W n 2), .int .u64 (W n 3)] := by
  unfold wcs
  rw [wl_W]
  rfl
theorem wc_zero : wcs 0 = #[.int .u64 0, .int .u64 0, .int .u64 0, .int .u64 0] := rfl
theorem wc_small (n : Nat) (h : n < 18446744073709551616) : wcs n = arrW 4 [(n : Int), 0, 0, 0] := by
  unfold wcs
  have := wl_mk4 n 0 0 0 h (by decide) (by decide) (by decide)
  rw [show mk4 n 0 0 0 = n by unfold mk4; omega] at this
  rw [this]
  rfl
theorem add_any (m n : Nat) (w : World) (hm : m < Big) (hn : n < Big) :
    Calls Try.prog 11 #[.agg (wcs m), .agg (wcs n)] w fun e w' => e = .returned (.tuple #[.agg (wcs ((m + n) % Big)), .bool (decide (m + n < Big))]) ∧ Below w.heap.size w w' := by
  have h := add_words m n hm hn
  refine (addw_any (wl m) (wl n) w (wl_len m) (wl_len n) (wl_words m) (wl_words n)).mono ?_
  rintro e w' ⟨rfl, hb⟩
  exact ⟨by rw [h.1, h.2]; rfl, hb⟩
theorem sub_any (m n : Nat) (w : World) (hm : m < Big) (hn : n < Big) :
    Calls Try.prog 13 #[.agg (wcs m), .agg (wcs n)] w fun e w' => e = .returned (.tuple #[.agg (wcs ((m + (Big - n)) % Big)), .bool (decide (n ≤ m))]) ∧ Below w.heap.size w w' := by
  have h := sub_words m n hm hn
  refine (subw_any (wl m) (wl n) w (wl_len m) (wl_len n) (wl_words m) (wl_words n)).mono ?_
  rintro e w' ⟨rfl, hb⟩
  exact ⟨by rw [h.1, h.2]; rfl, hb⟩
theorem up_any (m n : Nat) (w : World) (hm : m < Big) (hn : n ≤ 9223372036854775807) :
    Calls Try.prog 15 #[.agg (wcs m), .int .i64 n] w fun e w' => e = .returned (.agg (wcs (m * 2 ^ n % Big))) ∧ Below w.heap.size w w' := by
  have h := up_words m n hm
  have e : wcs m = arrW 4 [(W m 0 : Int), (W m 1 : Int), (W m 2 : Int), (W m 3 : Int)] := by unfold wcs; rw [wl_W]
  rw [e]
  rw [wl_W] at h
  refine (upw_any _ _ _ _ n w (by omega) (by omega)).mono ?_
  rintro e w' ⟨rfl, hb⟩
  exact ⟨by rw [h]; rfl, hb⟩
theorem down_any (m n : Nat) (w : World) (hm : m < Big) (hn : n ≤ 9223372036854775807) :
    Calls Try.prog 17 #[.agg (wcs m), .int .i64 n] w fun e w' => e = .returned (.agg (wcs (m / 2 ^ n))) ∧ Below w.heap.size w w' := by
  have h := down_words m n hm
  have e : wcs m = arrW 4 [(W m 0 : Int), (W m 1 : Int), (W m 2 : Int), (W m 3 : Int)] := by unfold wcs; rw [wl_W]
  rw [e]
  rw [wl_W] at h
  refine (downw_any _ _ _ _ n w (by omega) (by omega)).mono ?_
  rintro e w' ⟨rfl, hb⟩
  exact ⟨by rw [h]; rfl, hb⟩
theorem up_below (m : Nat) (n : Int) (w : World) (hn : n < 0) :
    Calls Try.prog 15 #[.agg (wcs m), .int .i64 n] w fun e w' => e = .returned (.agg (wcs m)) ∧ Below w.heap.size w w' := by
  have e : wcs m = arrW 4 [(W m 0 : Int), (W m 1 : Int), (W m 2 : Int), (W m 3 : Int)] := by unfold wcs; rw [wl_W]
  rw [e]
  exact up_neg _ _ _ _ n w hn
theorem down_below (m : Nat) (n : Int) (w : World) (hn : n < 0) :
    Calls Try.prog 17 #[.agg (wcs m), .int .i64 n] w fun e w' => e = .returned (.agg (wcs m)) ∧ Below w.heap.size w w' := by
  have e : wcs m = arrW 4 [(W m 0 : Int), (W m 1 : Int), (W m 2 : Int), (W m 3 : Int)] := by unfold wcs; rw [wl_W]
  rw [e]
  exact down_neg _ _ _ _ n w hn
/-- a single bit of a number -/
def bitN (m i : Nat) : Nat := m / 2 ^ i % 2
theorem bit_n (m i : Nat) (w : World) (hi : i < 256) :
    Calls Try.prog 34 #[.agg (wcs m), .int .i64 i] w fun e w' => e = .returned (.int .u64 (bitN m i)) ∧ w' = w.alloc (.cells (wcs m) 24) := by
  have h := bit_word m i hi
  refine (bit_any (wl m) i w (wl_len m) (by omega) (by omega)).mono ?_
  rintro e w' ⟨rfl, hb⟩
  exact ⟨by rw [h]; rfl, hb⟩
theorem of_n (n : Nat) (w : World) (h : n < 18446744073709551616) :
    Calls Try.prog 25 #[.int .u64 n] w fun e w' => e = .returned (.agg (wcs n)) ∧ Below w.heap.size w w' := by
  rw [wc_small n h]
  exact of_any n w
theorem rof_n (n : Nat) (w : World) (h : n < 18446744073709551616) :
    Calls Try.prog 26 #[.int .u64 n] w fun e w' => e = .returned (.agg (wcs n)) ∧ Below w.heap.size w w' := by
  rw [wc_small n h]
  exact rof_any n w

theorem cellsU64 : Try.prog.cellsOf 22 = 1 := by kernel_rfl
theorem plainU64 : Try.prog.plainKey 22 = true := by kernel_rfl
theorem run_itemsW (d : Nat) (m n : Nat) (w : World) : ∀ is : List Nat, (∀ i ∈ is, i < 4) →
    (Op.eqItems (d + 1) 22 1 (wcs m) (wcs n) is).run Try.prog w = .ok (decide (∀ i ∈ is, W m i = W n i)) w
  | [], _ => by simp [Op.eqItems]
  | i :: is, h => by
    have hi := h i (by simp)
    have p1 := run_part_plain (P := Try.prog) w plainU64 (wc_get m i hi)
    have p2 := run_part_plain (P := Try.prog) w plainU64 (wc_get n i hi)
    have p3 := run_equalIn_int (P := Try.prog) w d 22 .u64 .u64 (W m i) (W n i) Try.underlying22
    have ih := run_itemsW d m n w is (fun j hj => h j (by simp [hj]))
    simp only [Op.eqItems, Sem.run_bind, Nat.mul_one, p1, p2, p3, Result.andThen_ok]
    by_cases e : W m i = W n i
    · have e' : ((W m i : Int) == (W n i : Int)) = true := by simp [e]
      rw [e']
      simp only [Bool.not_true, Bool.false_eq_true, if_false, ih, List.forall_mem_cons, e, true_and]
    · have e' : ((W m i : Int) == (W n i : Int)) = false := by simp; omega
      rw [e']
      simp only [Bool.not_false, if_true, Sem.run_pure, List.forall_mem_cons, e, false_and, decide_false]
def eqN (m n : Nat) : Bool := decide (m = n)
theorem words_eq_iff (m n : Nat) (hm : m < Big) (hn : n < Big) : (∀ i ∈ List.range 4, W m i = W n i) ↔ m = n := by
  constructor
  · intro h
    apply wl_inj hm hn
    rw [wl_W, wl_W, h 0 (by simp), h 1 (by simp), h 2 (by simp), h 3 (by simp)]
  · rintro rfl i _
    rfl
theorem run_equal_wide (m n : Nat) (hm : m < Big) (hn : n < Big) (w : World) : (Op.equal 24 (.agg (wcs m)) (.agg (wcs n))).run Try.prog w = .ok (eqN m n) w := by
  unfold Op.equal
  cases hq : Try.prog.info? 22 with
  | none =>
    have : (Try.prog.info? 22).isSome = true := by kernel_rfl
    rw [hq] at this
    cases this
  | some i =>
    have h := run_equalIn_array (P := Try.prog) w 9999 (wcs m) (wcs n) Try.underlying24 hq
    rw [cellsU64, run_itemsW 9998 m n w (List.range 4) (by simp)] at h
    have e : decide (∀ i ∈ List.range 4, W m i = W n i) = eqN m n := decide_eq_decide.2 (words_eq_iff m n hm hn)
    rw [e] at h
    exact h
theorem eql_wide (m n : Nat) (hm : m < Big) (hn : n < Big) (w : World) : (binOp .eql 24 (.agg (wcs m)) (.agg (wcs n))).run Try.prog w = .ok (.bool (eqN m n)) w := by
  simp only [binOp]
  simp [run_equal_wide m n hm hn w]
theorem neq_wide (m n : Nat) (hm : m < Big) (hn : n < Big) (w : World) : (binOp .neq 24 (.agg (wcs m)) (.agg (wcs n))).run Try.prog w = .ok (.bool (!eqN m n)) w := by
  simp only [binOp]
  simp [run_equal_wide m n hm hn w]
theorem Big_pos : 0 < Big := by decide
theorem eql_zero (m : Nat) (hm : m < Big) (w : World) : (binOp .eql 24 (.agg (wcs m)) (.agg #[.int .u64 0, .int .u64 0, .int .u64 0, .int .u64 0])).run Try.prog w = .ok (.bool (eqN m 0)) w := eql_wide m 0 hm Big_pos w
theorem neq_zero (m : Nat) (hm : m < Big) (w : World) : (binOp .neq 24 (.agg (wcs m)) (.agg #[.int .u64 0, .int .u64 0, .int .u64 0, .int .u64 0])).run Try.prog w = .ok (.bool (!eqN m 0)) w := neq_wide m 0 hm Big_pos w

/-- -1, 0 or 1 -/
def cmpI (m n : Nat) : Int := if m < n then -1 else if m = n then 0 else 1
set_option maxHeartbeats 4000000 in
theorem cmp_any (m n : Nat) (w : World) (hm : m < Big) (hn : n < Big) :
    Calls Try.prog 23 #[.agg (wcs m), .agg (wcs n)] w fun e w' => e = .returned (.int .i64 (cmpI m n)) ∧ Below w.heap.size w w' := by
  have HM := Lib.hid hm
  have HN := Lib.hid hn
  have heq := eql_wide m n hm hn
  clear hm hn
  have R0 : Hid (((w.alloc (.cells (wcs m) 24)).alloc (.cells (wcs n) 24)).heap[w.heap.size]? = some (.cells (wcs m) 24 (0, 0))) := (Row.new w 24 _).alloc _
  have R1 : Hid (((w.alloc (.cells (wcs m) 24)).alloc (.cells (wcs n) 24)).heap[w.heap.size + 1]? = some (.cells (wcs n) 24 (0, 0))) := Row.newAt (by simp) 24 _
  have hbl : Hid (Below w.heap.size w ((w.alloc (.cells (wcs m) 24)).alloc (.cells (wcs n) 24))) := by show Below _ _ _; go_grown
  cases hc : eqN m n
  · rw [hc] at heq
    have hne0 : m ≠ n := by simpa [eqN] using hc
    have hne := Lib.hid hne0
    clear hc hne0
    go_enter Try.func23, Try.ntmps23
    go_wp2_with (first
      | ((with_reducible refine wpList_load_row (o := ⟨some 7, _, _, _, _, _⟩) ?_ 24 (.tmp 2) ?_ w.heap.size ?_ 24 (wcs m) (0, 0) _ R0.out Try.underlying24 ?_ (wc_info _) ?_); (rfl); (rfl); (rfl); (rfl))
      | ((with_reducible refine wpList_load_row (o := ⟨some 8, _, _, _, _, _⟩) ?_ 24 (.tmp 3) ?_ (w.heap.size + 1) ?_ 24 (wcs n) (0, 0) _ R1.out Try.underlying24 ?_ (wc_info _) ?_); (rfl); (rfl); (rfl); (rfl))
      | ((with_reducible refine wpList_load_row (o := ⟨some 11, _, _, _, _, _⟩) ?_ 24 (.tmp 2) ?_ w.heap.size ?_ 24 (wcs m) (0, 0) _ R0.out Try.underlying24 ?_ (wc_info _) ?_); (rfl); (rfl); (rfl); (rfl))
      | ((with_reducible refine wpList_load_row (o := ⟨some 12, _, _, _, _, _⟩) ?_ 24 (.tmp 3) ?_ (w.heap.size + 1) ?_ 24 (wcs n) (0, 0) _ R1.out Try.underlying24 ?_ (wc_info _) ?_); (rfl); (rfl); (rfl); (rfl)))
    refine (sub_any m n _ HM.out HN.out).mono ?_
    rintro e w1 ⟨rfl, hb⟩
    have b1 := Lib.hid (hbl.out.trans (hb.mono hbl.out.size))
    clear hb hbl R0 R1 heq
    have hw1 : Hid (w.heap.size ≤ w1.heap.size) := b1.out.size
    by_cases hle : n ≤ m
    · have hle' : decide (n ≤ m) = true := by simpa using hle
      have hres : Hid (cmpI m n = 1) := by show _ = _; unfold cmpI; rw [if_neg (by omega), if_neg hne.out]
      rw [hle']
      clear hle hle'
      have hsz := wc_size ((m + (Big - n)) % Big)
      have hon := wc_one ((m + (Big - n)) % Big)
      have hin := wc_info ((m + (Big - n)) % Big)
      generalize wcs ((m + (Big - n)) % Big) = cs at *
      have HSZ := Lib.hid hsz
      have HON := Lib.hid hon
      have HIN := Lib.hid hin
      clear hsz hon hin
      go_wp2_with ((with_reducible refine wpList_store_row (o := ⟨none, .store 24 _ _, _, _, _, _⟩) ?_ 24 (.tmp 5) (.tmp 14) ?_ w1.heap.size cs ?_ ?_ 24 _ (heap_alloc_last w1 _) HIN.out ?_ HON.out ?_); (rfl); (rfl); (rfl); (rfl); (rw [HSZ.out]; rfl); rw [World.setRow_alloc_new])
      go_ret
      exact ⟨by rw [hres.out]; rfl, b1.out.alloc hw1.out _⟩
    · have hle' : decide (n ≤ m) = false := by simpa using hle
      have hres : Hid (cmpI m n = -1) := by show _ = _; unfold cmpI; rw [if_pos (by omega)]
      rw [hle']
      clear hle hle'
      have hsz := wc_size ((m + (Big - n)) % Big)
      have hon := wc_one ((m + (Big - n)) % Big)
      have hin := wc_info ((m + (Big - n)) % Big)
      generalize wcs ((m + (Big - n)) % Big) = cs at *
      have HSZ := Lib.hid hsz
      have HON := Lib.hid hon
      have HIN := Lib.hid hin
      clear hsz hon hin
      go_wp2_with ((with_reducible refine wpList_store_row (o := ⟨none, .store 24 _ _, _, _, _, _⟩) ?_ 24 (.tmp 5) (.tmp 14) ?_ w1.heap.size cs ?_ ?_ 24 _ (heap_alloc_last w1 _) HIN.out ?_ HON.out ?_); (rfl); (rfl); (rfl); (rfl); (rw [HSZ.out]; rfl); rw [World.setRow_alloc_new])
      go_ret
      exact ⟨by rw [hres.out]; rfl, b1.out.alloc hw1.out _⟩
  · rw [hc] at heq
    have hne0 : m = n := by simpa [eqN] using hc
    have hne := Lib.hid hne0
    clear hc hne0
    have hres : Hid (cmpI m n = 0) := by show _ = _; unfold cmpI; rw [if_neg (by have := hne.out; omega), if_pos hne.out]
    go_enter Try.func23, Try.ntmps23
    go_wp2_with (first
      | ((with_reducible refine wpList_load_row (o := ⟨some 7, _, _, _, _, _⟩) ?_ 24 (.tmp 2) ?_ w.heap.size ?_ 24 (wcs m) (0, 0) _ R0.out Try.underlying24 ?_ (wc_info _) ?_); (rfl); (rfl); (rfl); (rfl))
      | ((with_reducible refine wpList_load_row (o := ⟨some 8, _, _, _, _, _⟩) ?_ 24 (.tmp 3) ?_ (w.heap.size + 1) ?_ 24 (wcs n) (0, 0) _ R1.out Try.underlying24 ?_ (wc_info _) ?_); (rfl); (rfl); (rfl); (rfl)))
    go_ret
    exact ⟨by rw [hres.out]; rfl, hbl.out⟩
end Go.Proofs.Ytcombekbeljflaa
