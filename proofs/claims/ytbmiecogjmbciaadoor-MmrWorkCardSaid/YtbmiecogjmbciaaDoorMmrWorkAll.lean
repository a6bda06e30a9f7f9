/-
  PROVED: the law stepladderlaw06.MmrWork answers true for every input, and leaves its arguments as they were.
  Conditions: the two package-level tables of package sha hold at the call what their initialisers lay; the card ties that to the text of the program (a pruned copy of the project: the packages that the roots of this seat load).
-/
import Derived.Test.YtbmiecogjmbciaaDoorCq
import Derived.Test.YtbmiecogjmbciaaDoorProg
import Derived.WalkKit
import Derived.ProofKit
import Derived.Handy
import Derived.Laws.Externs
import Derived.Laws.BitsAllLaws
import Derived.Deep.WholeRow
import Derived.Deep.Cut
import Derived.Deep.QuietTactic
import Derived.BigQuiet
import Derived.StillTailTactics
import Derived.Lib.Hide
import Derived.Deep.RegionHeld3
import Derived.Deep.DrawnRows
import Derived.RegionTactic
import Derived.ChangeKeysEq
namespace Go.Proofs.YtbmiecogjmbciaaDoor
set_option maxRecDepth 8000
open Go.RowKit

def sbc (x y c : Int) : Int := (x - y - c) % 18446744073709551616
def sbk (x y c : Int) : Int := if x < y + c then 1 else 0

theorem sub64_nat (x y c : Nat) (hc : c ≤ 1) (w : World) : (callFunc 69 #[.int .u64 x, .int .u64 y, .int .u64 c]).run Tryd.prog w =
    .ok (.value (.tuple #[.int .u64 (((x + 18446744073709551616 - y - c) % 18446744073709551616 : Nat) : Int), .int .u64 ((if x < y + c then 1 else 0 : Nat) : Int)])) w := by
  rw [run_callFunc_extern Tryd.func69 (by kernel_rfl) (by kernel_rfl) (by kernel_rfl) (e := (Extern.MathBitsCarry.rows[1]'(by decide)).2) (by kernel_rfl)]
  have : c = 0 ∨ c = 1 := by omega
  rcases this with rfl | rfl <;> rfl
theorem sub64 (x y c : Int) (hx : 0 ≤ x) (hy : 0 ≤ y) (hy' : y < 18446744073709551616) (hc0 : 0 ≤ c) (hc : c ≤ 1) (w : World) : (callFunc 69 #[.int .u64 x, .int .u64 y, .int .u64 c]).run Tryd.prog w =
    .ok (.value (.tuple #[.int .u64 (sbc x y c), .int .u64 (sbk x y c)])) w := by
  obtain ⟨x, rfl⟩ := Int.eq_ofNat_of_zero_le hx
  obtain ⟨y, rfl⟩ := Int.eq_ofNat_of_zero_le hy
  obtain ⟨c, rfl⟩ := Int.eq_ofNat_of_zero_le hc0
  have e1 : (((x + 18446744073709551616 - y - c) % 18446744073709551616 : Nat) : Int) = sbc x y c := by unfold sbc; omega
  have e2 : ((if x < y + c then 1 else 0 : Nat) : Int) = sbk x y c := by unfold sbk; split <;> split <;> omega
  rw [← e1, ← e2]
  exact sub64_nat x y c (by omega) w
end Go.Proofs.YtbmiecogjmbciaaDoor

namespace Go.Proofs.YtbmiecogjmbciaaDoor
set_option maxRecDepth 8000
open Go.RowKit
attribute [local go_sem ↓] Go.wp_at_zero Go.wp_at_succ

/-- the borrow ahead of word k -/
def subC (xs ys : List Int) : Nat → Int
  | 0 => 0
  | k + 1 => sbk (xs.getD k 0) (ys.getD k 0) (subC xs ys k)
/-- the first k words of a difference -/
def subL (xs ys : List Int) : Nat → List Int
  | 0 => []
  | k + 1 => subL xs ys k ++ [sbc (xs.getD k 0) (ys.getD k 0) (subC xs ys k)]
theorem subL_len (xs ys : List Int) (k : Nat) : (subL xs ys k).length = k := by
  induction k with
  | zero => rfl
  | succ k ih => simp [subL, ih]
theorem subC_bit (xs ys : List Int) (k : Nat) : 0 ≤ subC xs ys k ∧ subC xs ys k ≤ 1 := by
  cases k with
  | zero => simp [subC]
  | succ k =>
    simp only [subC, sbk]
    split <;> omega
set_option maxHeartbeats 4000000 in
theorem subw_any (xs ys : List Int) (w : World) (hx : xs.length = 4) (hy : ys.length = 4) (bx : Words xs) (bY : Words ys) :
    Calls Tryd.prog 52 #[.agg (arrW 4 xs), .agg (arrW 4 ys)] w fun e w' => e = .returned (.tuple #[.agg (arrW 4 (subL xs ys 4)), .bool (subC xs ys 4 == 0)]) ∧ Below w.heap.size w w' := by
  have HX := Lib.hid hx
  have HY := Lib.hid hy
  clear hx hy
  go_enter Tryd.func52, Tryd.ntmps52
  go_wp2_with fail
  go_loopw [7, 9] (fun c i u => ∃ k : Nat, k ≤ 4 ∧ i = .int .i64 k ∧ c = .int .u64 (subC xs ys k) ∧ Below w.heap.size w u ∧ Hid (Row u w.heap.size 27 (arrW 4 xs) ∧ Row u (w.heap.size + 1) 27 (arrW 4 ys) ∧ Row u (w.heap.size + 1 + 1) 27 (arrW 4 []) ∧ Row u (w.heap.size + 1 + 1 + 1) 27 (arrW 4 (subL xs ys k)))) (fun _ i _ => 4 - (intOf i).toNat)
  case atStart => exact ⟨0, by omega, rfl, rfl, by go_grown, (((Row.new w 27 _).alloc _).alloc _).alloc _, ((Row.newAt (by simp) 27 _).alloc _).alloc _, (Row.newAt (by simp) 27 _).alloc _, Row.newAt (by simp) 27 _⟩
  case round =>
    obtain ⟨k, hk, rfl, rfl, hbl, hrows⟩ := hrel
    obtain ⟨r0, r1, r2, r3⟩ := hrows.out
    by_cases hlt : k < 4
    · have e0 : wr.cell? ⟨w.heap.size, k, none⟩ = some (.int .u64 (xs.getD k 0)) := (r0.cell k).trans (arrW_get 4 _ k (by rw [HX.out]; omega) hlt)
      have e1 : wr.cell? ⟨w.heap.size + 1, k, none⟩ = some (.int .u64 (ys.getD k 0)) := (r1.cell k).trans (arrW_get 4 _ k (by rw [HY.out]; omega) hlt)
      have e3 := (r3.cell k).trans (arrW_get 4 _ k (by rw [subL_len]; omega) hlt)
      have f3 := r3.frozen k
      have R0 := Lib.hid r0
      have R1 := Lib.hid r1
      have R2 := Lib.hid r2
      have R3 := Lib.hid r3
      have hc := subC_bit xs ys k
      have hcall := sub64 (xs.getD k 0) (ys.getD k 0) (subC xs ys k) (bx k).1 (bY k).1 (bY k).2 hc.1 hc.2
      have hput := Lib.hid (arrW_put_at 4 (subL xs ys k) (sbc (xs.getD k 0) (ys.getD k 0) (subC xs ys k)) k (subL_len _ _ _) hlt)
      have hL : Hid (subL xs ys (k + 1) = subL xs ys k ++ [sbc (xs.getD k 0) (ys.getD k 0) (subC xs ys k)]) := rfl
      have hC : Hid (subC xs ys (k + 1) = sbk (xs.getD k 0) (ys.getD k 0) (subC xs ys k)) := rfl
      clear r0 r1 r2 r3 hrows hc
      have hk0 : (0 : Int) ≤ (k : Int) := by omega
      have hk4 : (k : Int) < 4 := by omega
      generalize xs.getD k 0 = x at *
      generalize ys.getD k 0 = y at *
      generalize subC xs ys k = c at *
      generalize sbc x y c = s at *
      generalize sbk x y c = d at *
      generalize (subL xs ys k).getD k 0 = z at *
      have e0' : (wr.setCell ⟨w.heap.size + 1 + 1 + 1, k, none⟩ (.int .u64 s)).cell? ⟨w.heap.size, k, none⟩ = some (.int .u64 x) := ((R0.out.farAt (by omega) _).cell k).trans ((R0.out.cell k).symm.trans e0)
      have e1' : (wr.setCell ⟨w.heap.size + 1 + 1 + 1, k, none⟩ (.int .u64 s)).cell? ⟨w.heap.size + 1, k, none⟩ = some (.int .u64 y) := ((R1.out.farAt (by omega) _).cell k).trans ((R1.out.cell k).symm.trans e1)
      go_wp2_with fail
      go_region_held3 (fun u => u.cell? ⟨w.heap.size, k, none⟩ = some (.int .u64 x) ∧ u.cell? ⟨w.heap.size + 1, k, none⟩ = some (.int .u64 y)) (first | exact ⟨e0, e1⟩ | exact ⟨e0', e1'⟩) (fail)
      clear e0' e1' hcall
      go_wp2
      go_roundw
      case rel =>
        refine ⟨k + 1, by omega, by go_num, ?_, (hbl.setCell (by simp; omega) _).drew, R0.out.farAt (by omega) _, R1.out.farAt (by omega) _, R2.out.farAt (by omega) _, ?_⟩
        · rw [hC.out]
        · rw [hL.out, ← hput.out]
          exact R3.out.put k _
      case measure => simp [intOf]; omega
    · obtain rfl : k = 4 := by omega
      have hsz := Lib.hid (arrW_size 4 (subL xs ys 4) (by rw [subL_len]; omega))
      have hz0 := Lib.hid (arrW_size 4 [] (by simp))
      have ho := Lib.hid (arrW_one 4 (subL xs ys 4))
      have R2 : Hid (wr.heap[w.heap.size + 1 + 1]? = some (.cells (arrW 4 []) 27 (0, 0))) := r2
      have R3 : Hid (wr.heap[w.heap.size + 1 + 1 + 1]? = some (.cells (arrW 4 (subL xs ys 4)) 27 (0, 0))) := r3
      clear r0 r1 r2 r3 hrows
      generalize hE : arrW 4 (subL xs ys 4) = cs at *
      have HE := Lib.hid hE
      clear hE
      generalize arrW 4 [] = zs at *
      generalize hC : subC xs ys 4 = c at *
      have HC := Lib.hid hC
      clear hC
      go_wp2_with (first
        | ((with_reducible refine wpList_load_row (o := ⟨some 26, _, _, _, _, _⟩) ?_ 27 (.tmp 6) ?_ (w.heap.size + 1 + 1 + 1) ?_ 27 cs (0, 0) _ R3.out Tryd.underlying27 ?_ (infoW cs hsz.out) ?_); (rfl); (rfl); (rfl); (rfl))
        | ((with_reducible refine wpList_store_row (o := ⟨none, .store 27 _ _, _, _, _, _⟩) ?_ 27 (.tmp 4) (.tmp 26) ?_ (w.heap.size + 1 + 1) cs ?_ ?_ 27 zs R2.out (infoW cs hsz.out) (by rw [hz0.out, hsz.out]) ho.out ?_); (rfl); (rfl); (rfl); (rfl))
        | ((with_reducible refine bodyPost_ret (v := .tuple #[.agg cs, .bool (c == 0)]) ?_ ?_ ?_); (exact results_row_slot (p := 4) (q := 5) (ty := 27) Tryd.results52 _ _ (w.heap.size + 1 + 1) 27 cs (0, 0) _ rfl _ rfl (setRow_heap _ _ zs cs 27 (0, 0) R2.out) Tryd.underlying27 rfl (infoW cs hsz.out)); (rfl)))
      exact ⟨by rw [HE.out, HC.out], below_setRow hbl (by omega) _⟩
end Go.Proofs.YtbmiecogjmbciaaDoor

namespace Go.Proofs.YtbmiecogjmbciaaDoor
set_option maxRecDepth 8000
open Go

theorem sub_words (m n : Nat) (hm : m < Big) (hn : n < Big) : subL (wl m) (wl n) 4 = wl ((m + (Big - n)) % Big) ∧ (subC (wl m) (wl n) 4 == 0) = decide (n ≤ m) := by
  obtain ⟨a, b, c, d, rfl, ha, hb, hc, hd⟩ := split4 m hm
  obtain ⟨a', b', c', d', rfl, ha', hb', hc', hd'⟩ := split4 n hn
  rw [wl_mk4 a b c d ha hb hc hd, wl_mk4 a' b' c' d' ha' hb' hc' hd']
  simp only [subL, subC, sbc, List.getD_cons_zero, List.getD_cons_succ, List.nil_append, List.cons_append]
  have step : ∀ (x y q : Nat), x < 18446744073709551616 → y < 18446744073709551616 → q ≤ 1 → ∃ r q' : Nat, ((x : Int) - y - q) % 18446744073709551616 = (r : Int) ∧ sbk x y q = (q' : Int) ∧ r < 18446744073709551616 ∧ q' ≤ 1 ∧ x + 18446744073709551616 * q' = y + q + r := by
    intro x y q hx hy hq
    by_cases h : (x : Int) < y + q
    · exact ⟨x + 18446744073709551616 - y - q, 1, by omega, by simp [sbk, h], by omega, by omega, by omega⟩
    · exact ⟨x - y - q, 0, by omega, by simp [sbk, h], by omega, by omega, by omega⟩
  obtain ⟨r0, q0, e0, f0, w0, l0, v0⟩ := step a a' 0 ha ha' (by omega)
  rw [show ((0 : Nat) : Int) = 0 from rfl] at e0 f0
  rw [e0, f0]
  obtain ⟨r1, q1, e1, f1, w1, l1, v1⟩ := step b b' q0 hb hb' l0
  rw [e1, f1]
  obtain ⟨r2, q2, e2, f2, w2, l2, v2⟩ := step c c' q1 hc hc' l1
  rw [e2, f2]
  obtain ⟨r3, q3, e3, f3, w3, l3, v3⟩ := step d d' q2 hd hd' l2
  rw [e3, f3]
  clear step e0 e1 e2 e3 f0 f1 f2 f3
  have hs : mk4 a b c d + Big * q3 = mk4 a' b' c' d' + mk4 r0 r1 r2 r3 := by unfold mk4 Big; omega
  have hlt := mk4_lt r0 r1 r2 r3 w0 w1 w2 w3
  have hmod : (mk4 a b c d + (Big - mk4 a' b' c' d')) % Big = mk4 r0 r1 r2 r3 := by
    have : q3 = 0 ∨ q3 = 1 := by omega
    rcases this with rfl | rfl
    · rw [show mk4 a b c d + (Big - mk4 a' b' c' d') = mk4 r0 r1 r2 r3 + Big by omega, Nat.add_mod_right, Nat.mod_eq_of_lt hlt]
    · rw [show mk4 a b c d + (Big - mk4 a' b' c' d') = mk4 r0 r1 r2 r3 by omega, Nat.mod_eq_of_lt hlt]
  rw [hmod, wl_mk4 r0 r1 r2 r3 w0 w1 w2 w3]
  refine ⟨rfl, ?_⟩
  rw [Bool.eq_iff_iff]
  simp only [beq_iff_eq, decide_eq_true_eq]
  have : q3 = 0 ∨ q3 = 1 := by omega
  rcases this with rfl | rfl
  · simp; omega
  · simp; omega
end Go.Proofs.YtbmiecogjmbciaaDoor

namespace Go.Proofs.YtbmiecogjmbciaaDoor
set_option maxRecDepth 8000
open Go.RowKit

theorem sub_any (m n : Nat) (w : World) (hm : m < Big) (hn : n < Big) :
    Calls Tryd.prog 52 #[.agg (wcs m), .agg (wcs n)] w fun e w' => e = .returned (.tuple #[.agg (wcs ((m + (Big - n)) % Big)), .bool (decide (n ≤ m))]) ∧ Below w.heap.size w w' := by
  have h := sub_words m n hm hn
  refine (subw_any (wl m) (wl n) w (wl_len m) (wl_len n) (wl_words m) (wl_words n)).mono ?_
  rintro e w' ⟨rfl, hb⟩
  exact ⟨by rw [h.1, h.2]; rfl, hb⟩
theorem eql_wide (m n : Nat) (hm : m < Big) (hn : n < Big) (w : World) : (binOp .eql 27 (.agg (wcs m)) (.agg (wcs n))).run Tryd.prog w = .ok (.bool (eqN m n)) w := by
  simp only [binOp]
  simp [run_equal_wide m n hm hn w]
/-- -1, 0 or 1 -/
def cmpI (m n : Nat) : Int := if m < n then -1 else if m = n then 0 else 1
set_option maxHeartbeats 4000000 in
theorem cmp_any (m n : Nat) (w : World) (hm : m < Big) (hn : n < Big) :
    Calls Tryd.prog 29 #[.agg (wcs m), .agg (wcs n)] w fun e w' => e = .returned (.int .i64 (cmpI m n)) ∧ Below w.heap.size w w' := by
  have HM := Lib.hid hm
  have HN := Lib.hid hn
  have heq := eql_wide m n hm hn
  clear hm hn
  have R0 : Hid (((w.alloc (.cells (wcs m) 27)).alloc (.cells (wcs n) 27)).heap[w.heap.size]? = some (.cells (wcs m) 27 (0, 0))) := (Row.new w 27 _).alloc _
  have R1 : Hid (((w.alloc (.cells (wcs m) 27)).alloc (.cells (wcs n) 27)).heap[w.heap.size + 1]? = some (.cells (wcs n) 27 (0, 0))) := Row.newAt (by simp) 27 _
  have hbl : Hid (Below w.heap.size w ((w.alloc (.cells (wcs m) 27)).alloc (.cells (wcs n) 27))) := by show Below _ _ _; go_grown
  cases hc : eqN m n
  · rw [hc] at heq
    have hne0 : m ≠ n := by simpa [eqN] using hc
    have hne := Lib.hid hne0
    clear hc hne0
    go_enter Tryd.func29, Tryd.ntmps29
    go_wp2_with (first
      | ((with_reducible refine wpList_load_row (o := ⟨some 7, _, _, _, _, _⟩) ?_ 27 (.tmp 2) ?_ w.heap.size ?_ 27 (wcs m) (0, 0) _ R0.out Tryd.underlying27 ?_ (wc_info _) ?_); (rfl); (rfl); (rfl); (rfl))
      | ((with_reducible refine wpList_load_row (o := ⟨some 8, _, _, _, _, _⟩) ?_ 27 (.tmp 3) ?_ (w.heap.size + 1) ?_ 27 (wcs n) (0, 0) _ R1.out Tryd.underlying27 ?_ (wc_info _) ?_); (rfl); (rfl); (rfl); (rfl))
      | ((with_reducible refine wpList_load_row (o := ⟨some 11, _, _, _, _, _⟩) ?_ 27 (.tmp 2) ?_ w.heap.size ?_ 27 (wcs m) (0, 0) _ R0.out Tryd.underlying27 ?_ (wc_info _) ?_); (rfl); (rfl); (rfl); (rfl))
      | ((with_reducible refine wpList_load_row (o := ⟨some 12, _, _, _, _, _⟩) ?_ 27 (.tmp 3) ?_ (w.heap.size + 1) ?_ 27 (wcs n) (0, 0) _ R1.out Tryd.underlying27 ?_ (wc_info _) ?_); (rfl); (rfl); (rfl); (rfl)))
    refine (sub_any m n _ HM.out HN.out).mono ?_
    rintro e w1 ⟨rfl, hb⟩
    have b1 := Lib.hid (hbl.out.trans (hb.mono hbl.out.size))
    clear hb hbl R0 R1 heq
    have hw1 : Hid (w.heap.size ≤ w1.heap.size) := b1.out.size
    by_cases hle : n ≤ m
    · have hle' : decide (n ≤ m) = true := by simpa using hle
      have hres : Hid (cmpI m n = 1) := by show _ = _; unfold cmpI; rw [if_neg (by omega), if_neg hne.out]
      rw [hle']
      clear hle hle'
      have hsz := wc_size ((m + (Big - n)) % Big)
      have hon := wc_one ((m + (Big - n)) % Big)
      have hin := wc_info ((m + (Big - n)) % Big)
      generalize wcs ((m + (Big - n)) % Big) = cs at *
      have HSZ := Lib.hid hsz
      have HON := Lib.hid hon
      have HIN := Lib.hid hin
      clear hsz hon hin
      go_wp2_with ((with_reducible refine wpList_store_row (o := ⟨none, .store 27 _ _, _, _, _, _⟩) ?_ 27 (.tmp 5) (.tmp 14) ?_ w1.heap.size cs ?_ ?_ 27 _ (heap_alloc_last w1 _) HIN.out ?_ HON.out ?_); (rfl); (rfl); (rfl); (rfl); (rw [HSZ.out]; rfl); rw [World.setRow_alloc_new])
      go_ret
      exact ⟨by rw [hres.out]; rfl, b1.out.alloc hw1.out _⟩
    · have hle' : decide (n ≤ m) = false := by simpa using hle
      have hres : Hid (cmpI m n = -1) := by show _ = _; unfold cmpI; rw [if_pos (by omega)]
      rw [hle']
      clear hle hle'
      have hsz := wc_size ((m + (Big - n)) % Big)
      have hon := wc_one ((m + (Big - n)) % Big)
      have hin := wc_info ((m + (Big - n)) % Big)
      generalize wcs ((m + (Big - n)) % Big) = cs at *
      have HSZ := Lib.hid hsz
      have HON := Lib.hid hon
      have HIN := Lib.hid hin
      clear hsz hon hin
      go_wp2_with ((with_reducible refine wpList_store_row (o := ⟨none, .store 27 _ _, _, _, _, _⟩) ?_ 27 (.tmp 5) (.tmp 14) ?_ w1.heap.size cs ?_ ?_ 27 _ (heap_alloc_last w1 _) HIN.out ?_ HON.out ?_); (rfl); (rfl); (rfl); (rfl); (rw [HSZ.out]; rfl); rw [World.setRow_alloc_new])
      go_ret
      exact ⟨by rw [hres.out]; rfl, b1.out.alloc hw1.out _⟩
  · rw [hc] at heq
    have hne0 : m = n := by simpa [eqN] using hc
    have hne := Lib.hid hne0
    clear hc hne0
    have hres : Hid (cmpI m n = 0) := by show _ = _; unfold cmpI; rw [if_neg (by have := hne.out; omega), if_pos hne.out]
    go_enter Tryd.func29, Tryd.ntmps29
    go_wp2_with (first
      | ((with_reducible refine wpList_load_row (o := ⟨some 7, _, _, _, _, _⟩) ?_ 27 (.tmp 2) ?_ w.heap.size ?_ 27 (wcs m) (0, 0) _ R0.out Tryd.underlying27 ?_ (wc_info _) ?_); (rfl); (rfl); (rfl); (rfl))
      | ((with_reducible refine wpList_load_row (o := ⟨some 8, _, _, _, _, _⟩) ?_ 27 (.tmp 3) ?_ (w.heap.size + 1) ?_ 27 (wcs n) (0, 0) _ R1.out Tryd.underlying27 ?_ (wc_info _) ?_); (rfl); (rfl); (rfl); (rfl)))
    go_ret
    exact ⟨by rw [hres.out]; rfl, hbl.out⟩
end Go.Proofs.YtbmiecogjmbciaaDoor

namespace Go.Proofs.YtbmiecogjmbciaaDoor
set_option maxRecDepth 8000

theorem sizes_sum (n i : Nat) : 1 ≤ n → (sizesT n i).sum + 1 = n := by
  refine tree_ind (C := fun n i => 1 ≤ n → (sizesT n i).sum + 1 = n) (fun n i h h1 => ?_) (fun n i h hi ih _ => ?_) (fun n i h hi ih _ => ?_) n i
  · rw [(few_nil h).2]; simp; omega
  · obtain ⟨a, b, _, _⟩ := half_spec h
    rw [sizes_low h hi, List.sum_append]
    have := ih (by omega)
    simp only [List.sum_cons, List.sum_nil]
    omega
  · obtain ⟨a, b, _, _⟩ := half_spec h
    rw [sizes_high h hi, List.sum_append]
    have := ih (by omega)
    simp only [List.sum_cons, List.sum_nil]
    omega
end Go.Proofs.YtbmiecogjmbciaaDoor

namespace Go.Proofs.YtbmiecogjmbciaaDoor
set_option maxRecDepth 8000

theorem mclimb_work (s : List Bool) (m : List Nat) (p : List Tot) (x : Tot) (hx : x.w < Big) : ∀ (k : Nat) (y : Tot) (a : Nat), mclimbK s m p x k = some (y, a) → a + x.w ≤ y.w ∧ y.w < Big ∧ ∀ j, j < k → (p.getD j noTot).n = ((m.getD j 0 : Nat) : Int)
  | 0, y, a, h => by
    cases h
    exact ⟨by omega, hx, fun j hj => by omega⟩
  | k + 1, y, a, h => by
    unfold mclimbK at h
    cases hk : mclimbK s m p x k with
    | none => rw [hk] at h; cases h
    | some z =>
      rw [hk, Option.bind_some] at h
      obtain ⟨z1, z2⟩ := z
      obtain ⟨h1, h2, h3⟩ := mclimb_work s m p x hx k z1 z2 hk
      unfold mstep at h
      simp only at h
      split at h
      · rename_i hc
        have hn : ∀ j, j < k + 1 → (p.getD j noTot).n = ((m.getD j 0 : Nat) : Int) := fun j hj => by
          rcases Nat.lt_or_ge j k with h' | h'
          · exact h3 j h'
          · obtain rfl : j = k := by omega
            exact hc.1
        split at h
        · cases h
          refine ⟨?_, ?_, hn⟩
          · show _ ≤ (z1.w + (p.getD k noTot).w) % Big
            rw [Nat.mod_eq_of_lt hc.2]
            omega
          · exact Nat.mod_lt _ (by unfold Big; decide)
        · cases h
          refine ⟨?_, ?_, hn⟩
          · show _ ≤ ((p.getD k noTot).w + z1.w) % Big
            rw [Nat.mod_eq_of_lt (show z2 + (p.getD k noTot).w < Big by omega), Nat.mod_eq_of_lt (by omega)]
            omega
          · exact Nat.mod_lt _ (by unfold Big; decide)
      · cases h
end Go.Proofs.YtbmiecogjmbciaaDoor

namespace Go.Proofs.YtbmiecogjmbciaaDoor
set_option maxRecDepth 8000
open Go.RowKit

section
variable {a : Act} {dst : Option Tmp} {x y : Operand} {ty : TypeId} {pos : String} {after : Array Edge} {gd : Option (Nat × Bool)}
end
theorem mcheck_zero {root leaf : Tot} {i : Int} {p : List Tot} {v : Nat} (h : mcheckT root i leaf p = (v, false)) : v = 0 := by
  unfold mcheckT at h
  split at h
  · split at h
    · split at h
      · cases h
      · cases h; rfl
    · cases h; rfl
  · cases h; rfl
theorem mcheck_facts {root leaf : Tot} {i : Int} {p : List Tot} {v : Nat} (_hr : root.w < Big) (hlf : leaf.w < Big) (h : mcheckT root i leaf p = (v, true)) :
    ∃ N : Nat, root.n = (N : Int) ∧ (1 ≤ N ∧ N ≤ 64) ∧ leaf.n = 1 ∧ (0 ≤ i ∧ i < (N : Int)) ∧ p.length = (sidesT N i.toNat).length ∧ v + leaf.w ≤ root.w ∧ ∀ j, j < (sidesT N i.toNat).length → (p.getD j noTot).n = (((sizesT N i.toNat).getD j 0 : Nat) : Int) := by
  unfold mcheckT at h
  split at h
  · rename_i hc
    obtain ⟨c1, c2, c3, c4, c5, c6⟩ := hc
    obtain ⟨N, hN⟩ := Int.eq_ofNat_of_zero_le (by omega : 0 ≤ root.n)
    rw [hN, Int.toNat_natCast] at c6 h
    split at h
    · rename_i x a hcl
      split at h
      · rename_i hx
        cases h
        obtain ⟨k1, k2, k3⟩ := mclimb_work _ _ _ _ hlf _ _ _ hcl
        subst hx
        exact ⟨N, hN, by omega, c5, by omega, c6, k1, k3⟩
      · cases h
    · cases h
  · cases h
set_option maxHeartbeats 1000000 in
theorem law_work_a (T : MmrC) (root leaf : Tot) (i : Int) (p : List Tot) (A : Option Addr) (m c : Nat) (w : World)
    (hr : okT root) (hlf : okT leaf) (hi : -9223372036854775808 ≤ i ∧ i ≤ 9223372036854775807) (hm : p.length = m) (hmc : m ≤ c) (hcm : c ≤ maxLen) (hI : okTs p) (hA : TotsIn w w.heap.size A p) (ht : Tables w) (g0 : 12 < m) :
    Calls Tryd.prog 6 #[totV root, .int .i64 i, totV leaf, .slice A m c] w fun e w' => e = .returned (.bool true) ∧ Below w.heap.size w w' := by
  have g0' : (12 : Int) < (m : Int) := by omega
  have E0 : Hid (EnvX w ((w.alloc (.cells (totA root) 29)).alloc (.cells (totA leaf) 29)) [(w.heap.size + 1, Obj.cells (totA leaf) 29 (0, 0)), (w.heap.size, Obj.cells (totA root) 29 (0, 0))]) := (EnvX.start w).two _ _
  have HAW := Lib.hid (mawake_any T ((w.alloc (.cells (totA root) 29)).alloc (.cells (totA leaf) 29)) (ht.below (EnvX.bel E0.out)))
  have HT := Lib.hid ht
  have HM := Lib.hid T
  clear ht T
  have HR := Lib.hid hr
  have HLF := Lib.hid hlf
  have HP := Lib.hid (And.intro hm (And.intro hI hA))
  have HCM := Lib.hid hcm
  unfold maxLen at hcm
  clear hr hlf hm hI hA
  unfold totV
  go_enter Tryd.func6, Tryd.ntmps6
  go_upto_region 1 with (fail)
  generalize ((w.alloc (.cells (totA root) 29)).alloc (.cells (totA leaf) 29)) = W at *
  go_wp2_with fail
  refine HAW.out.mono ?_
  rintro e w1 ⟨rfl, hb1⟩
  have HB1 := Lib.hid (EnvX.below E0.out hb1).bel
  have E1 : Hid (EnvX w1 w1 [(w.heap.size + 1, Obj.cells (totA leaf) 29 (0, 0)), (w.heap.size, Obj.cells (totA root) 29 (0, 0))]) := ⟨Below.refl _ _, (EnvX.below E0.out hb1).box⟩
  have HT1 := Lib.hid (HT.out.below HB1.out)
  clear hb1 E0 HAW
  go_wp2
  go_ret
  exact ⟨rfl, HB1.out⟩
set_option maxRecDepth 20000 in
set_option maxHeartbeats 4000000 in
theorem law_work_b (T : MmrC) (root leaf : Tot) (i : Int) (p : List Tot) (A : Option Addr) (m c : Nat) (w : World)
    (hr : okT root) (hlf : okT leaf) (hi : -9223372036854775808 ≤ i ∧ i ≤ 9223372036854775807) (hm : p.length = m) (hmc : m ≤ c) (hcm : c ≤ maxLen) (hI : okTs p) (hA : TotsIn w w.heap.size A p) (ht : Tables w) (g0 : m ≤ 12) (hv : mcheckT root i leaf p = (0, false)) :
    Calls Tryd.prog 6 #[totV root, .int .i64 i, totV leaf, .slice A m c] w fun e w' => e = .returned (.bool true) ∧ Below w.heap.size w w' := by
  have g0' : ¬ (12 : Int) < (m : Int) := by omega
  have HV := Lib.hid hv
  clear hv
  have HZ : Hid (0 < Big ∧ eqN 0 0 = true) := ⟨by decide +kernel, rfl⟩
  have E0 : Hid (EnvX w ((w.alloc (.cells (totA root) 29)).alloc (.cells (totA leaf) 29)) [(w.heap.size + 1, Obj.cells (totA leaf) 29 (0, 0)), (w.heap.size, Obj.cells (totA root) 29 (0, 0))]) := (EnvX.start w).two _ _
  have HAW := Lib.hid (mawake_any T ((w.alloc (.cells (totA root) 29)).alloc (.cells (totA leaf) 29)) (ht.below (EnvX.bel E0.out)))
  have HT := Lib.hid ht
  have HM := Lib.hid T
  clear ht T
  have HR := Lib.hid hr
  have HLF := Lib.hid hlf
  have HP := Lib.hid (And.intro hm (And.intro hI hA))
  have HCM := Lib.hid hcm
  unfold maxLen at hcm
  clear hr hlf hm hI hA
  unfold totV
  go_enter Tryd.func6, Tryd.ntmps6
  go_upto_region 1 with (fail)
  generalize ((w.alloc (.cells (totA root) 29)).alloc (.cells (totA leaf) 29)) = W at *
  go_wp2_with fail
  refine HAW.out.mono ?_
  rintro e w1 ⟨rfl, hb1⟩
  have HB1 := Lib.hid (EnvX.below E0.out hb1).bel
  have E1 : Hid (EnvX w1 w1 [(w.heap.size + 1, Obj.cells (totA leaf) 29 (0, 0)), (w.heap.size, Obj.cells (totA root) 29 (0, 0))]) := ⟨Below.refl _ _, (EnvX.below E0.out hb1).box⟩
  have HT1 := Lib.hid (HT.out.below HB1.out)
  clear hb1 E0 HAW
  have HCK : Hid (∀ u, EnvX w1 u [] → Calls Tryd.prog 15 #[.agg (totA root), .int .i64 i, .agg (totA leaf), .slice A m c] u fun e w' => e = .returned (.tuple #[.agg (wcs 0), .bool false]) ∧ Below u.heap.size u w') := fun u hu => by
    have h := HM.out.check root leaf i p A m c u HR.out HLF.out hi HP.out.1 (by omega) hmc HCM.out HP.out.2.1 ((HP.out.2.2.up HB1.out).up (EnvX.bel hu)) (HT1.out.below (EnvX.bel hu))
    rwa [HV.out] at h
  go_upto_region 4 with (fail)
  refine wp_region_Hx (w0 := w1) [0, 1, 2, 3, 4, 5, 6, 7, 8, 9, 10] [(w.heap.size + 1, Obj.cells (totA leaf) 29 (0, 0)), (w.heap.size, Obj.cells (totA root) 29 (0, 0))] rfl E1.out ?_
  refine lexH_phase [0, 1, 2, 3, 4, 5, 6, 7] [8, 9, 10] ?_
  have hw1 : EnvX w1 _ [(w.heap.size + 1, Obj.cells (totA leaf) 29 (0, 0)), (w.heap.size, Obj.cells (totA root) 29 (0, 0))] := E1.out
  have hone := @EnvC.one _ _ _ hw1
  (refine wpG_val (v := .agg (totA root)) rfl rfl (fun u hu => load_any_op u (box_tot hu (List.Mem.tail _ (List.Mem.head _)) HR.out.len) rfl) ?_ hw1; intro K hK; go_big_quiet_op; go_big_quiet_on)
  (refine wpG_op rfl rfl rfl ?_; intro K hK; go_big_quiet_op; go_big_quiet_on)
  (refine wpG_val (v := .agg (totA leaf)) rfl rfl (fun u hu => load_any_op u (box_tot hu (List.Mem.head _) HLF.out.len) rfl) ?_ hw1; intro K hK; go_big_quiet_op; go_big_quiet_on)
  (refine wpG_op rfl rfl rfl ?_; intro K hK; go_big_quiet_op; go_big_quiet_on)
  (refine wpG_call (f := 15) (args := #[.agg (totA root), .int .i64 i, .agg (totA leaf), .slice A m c]) (v := .tuple #[.agg (wcs 0), .bool false]) rfl rfl rfl Tryd.func15 rfl rfl (fun u hu => HCK.out u (EnvX.sub hu (fun _ h => by cases h))) ?_ hw1; intro K hK; go_big_quiet_op; go_big_quiet_on)
  (refine wpG_op rfl rfl rfl ?_; intro K hK; go_big_quiet_op; go_big_quiet_on)
  (refine wpG_op rfl rfl rfl ?_; intro K hK; go_big_quiet_op; go_big_quiet_on)
  (refine wpG_op rfl rfl rfl ?_; intro K hK; go_big_quiet_op; go_big_quiet_on)
  clear hone hw1
  refine wpG_nil ?_
  refine (hOp_fresh (R := fun x N => ∃ g, x = .pointer (some ⟨g, 0, none⟩) ∧ N = [(g, Obj.cells (wcs 0) 27 (0, 0))]) (M0 := [(w.heap.size + 1, Obj.cells (totA leaf) 29 (0, 0)), (w.heap.size, Obj.cells (totA root) 29 (0, 0))]) rfl rfl (fun _ h => h) (fun u hu => FAt_new (new_wd _) u) ?_)
  rintro _ _ ⟨g10, rfl, rfl⟩ hf he2; intro K' hK'; go_big_quiet_op; go_big_quiet_on
  have HGg10 := Lib.hid (hf _ (List.mem_singleton.2 rfl))
  clear hf
  change lexH _ _ _ _ _ _ [(g10, Obj.cells (wcs 0) 27 (0, 0)), (w.heap.size + 1, Obj.cells (totA leaf) 29 (0, 0)), (w.heap.size, Obj.cells (totA root) 29 (0, 0))]
  refine (hOp_store rfl (g10) (wcs (0)) rfl rfl HGg10.out.1 27 ((wcs 0)) (List.Mem.head _) (wc_info _) ((wc_size _).trans (wc_size _).symm) (wc_one _) [(g10, Obj.cells (wcs (0)) 27 (0, 0)), (w.heap.size + 1, Obj.cells (totA leaf) 29 (0, 0)), (w.heap.size, Obj.cells (totA root) 29 (0, 0))] (List.forall_mem_cons.2 ⟨.inl rfl, fun y hy => .inr ⟨List.mem_cons_of_mem _ hy, HGg10.out.2 y hy⟩⟩) ?_)
  intro he3
  refine lexH_phase [10] [] ?_
  have hw4 : EnvX w1 _ [(g10, Obj.cells (wcs (0)) 27 (0, 0)), (w.heap.size + 1, Obj.cells (totA leaf) 29 (0, 0)), (w.heap.size, Obj.cells (totA root) 29 (0, 0))] := he3.choose_spec
  have hone := @EnvC.one _ _ _ hw4
  (refine wpG_op rfl rfl rfl ?_; intro K hK; go_big_quiet_op; go_big_quiet_on)
  clear hone hw4
  refine wpG_nil ?_
  intro u6 E2'
  have EX5 := Lib.hid E2'
  clear E2'
  go_upto_region 6 with (fail)
  refine wp_region_Hx (w0 := w1) [0, 1, 2, 3] [(g10, Obj.cells (wcs (0)) 27 (0, 0)), (w.heap.size + 1, Obj.cells (totA leaf) 29 (0, 0)), (w.heap.size, Obj.cells (totA root) 29 (0, 0))] rfl EX5.out ?_
  refine lexH_phase [0, 1, 2, 3] [] ?_
  have hw7 : EnvX w1 _ [(g10, Obj.cells (wcs (0)) 27 (0, 0)), (w.heap.size + 1, Obj.cells (totA leaf) 29 (0, 0)), (w.heap.size, Obj.cells (totA root) 29 (0, 0))] := EX5.out
  have hone := @EnvC.one _ _ _ hw7
  (refine wpG_val (v := .agg (wcs 0)) rfl rfl (fun u hu => load_any_op u (box_wide hu (List.Mem.head _)) rfl) ?_ hw7; intro K hK; go_big_quiet_op; go_big_quiet_on)
  (refine wpG_val (v := .agg (wcs 0)) rfl rfl (fun u hu => buildA_op u built_w0) ?_ hw7; intro K hK; go_big_quiet_op; go_big_quiet_on)
  (refine wpG_val (v := .bool true) rfl rfl (fun u hu => eqlW_op HZ.out.1 HZ.out.1 HZ.out.2 u rfl rfl) ?_ hw7; intro K hK; go_big_quiet_op; go_big_quiet_on)
  (refine wpG_op rfl rfl rfl ?_; intro K hK; go_big_quiet_op; go_big_quiet_on)
  clear hone hw7
  refine wpG_nil ?_
  intro u9 E2'
  have EX8 := Lib.hid E2'
  clear E2'
  go_wp2
  go_ret
  exact ⟨rfl, HB1.out.trans ((EnvX.bel EX8.out).mono HB1.out.size)⟩
set_option maxRecDepth 20000 in
set_option maxHeartbeats 4000000 in
theorem law_work_c (T : MmrC) (root leaf : Tot) (i : Int) (p : List Tot) (A : Option Addr) (m c : Nat) (w : World)
    (hr : okT root) (hlf : okT leaf) (hi : -9223372036854775808 ≤ i ∧ i ≤ 9223372036854775807) (hm : p.length = m) (hmc : m ≤ c) (hcm : c ≤ maxLen) (hI : okTs p) (hA : TotsIn w w.heap.size A p) (ht : Tables w) (g0 : m ≤ 12) (v : Nat) (hv : mcheckT root i leaf p = (v, true)) :
    Calls Tryd.prog 6 #[totV root, .int .i64 i, totV leaf, .slice A m c] w fun e w' => e = .returned (.bool true) ∧ Below w.heap.size w w' := by
  have g0' : ¬ (12 : Int) < (m : Int) := by omega
  have HV := Lib.hid hv
  obtain ⟨N, f1, f2, f3, f4, f5, f6, f7⟩ := mcheck_facts (root := root) (leaf := leaf) (i := i) (p := p) (v := v) hr.2.1 hlf.2.1 hv
  rw [hm] at f5
  have HF := Lib.hid (And.intro f1 (And.intro f2 (And.intro f4 f6)))
  have HRN := Lib.hid f1
  have HLN := Lib.hid f3
  have HSUM : Hid (1 + ((sizesT N i.toNat).take m).sum = N) := by
    show _ = _
    rw [f5, ← sizes_len, List.take_length]
    have := sizes_sum N i.toNat (by omega)
    omega
  have HSB : Hid (∀ k, ((sizesT N i.toNat).take k).sum ≤ 64) := fun k => by
    have h1 := sizes_sum N i.toNat (by omega)
    have h2 := List.sum_append (l₁ := (sizesT N i.toNat).take k) (l₂ := (sizesT N i.toNat).drop k)
    rw [List.take_append_drop] at h2
    omega
  have HST : Hid (∀ k, k < m → (p.getD k noTot).n = (((sizesT N i.toNat).getD k 0 : Nat) : Int) ∧ ((sizesT N i.toNat).take (k + 1)).sum = ((sizesT N i.toNat).take k).sum + (sizesT N i.toNat).getD k 0) := fun k hk => by
    have hl : k < (sizesT N i.toNat).length := by rw [sizes_len]; omega
    refine ⟨f7 k (by omega), ?_⟩
    rw [List.take_succ_eq_append_getElem hl, List.sum_append, List.getD_eq_getElem?_getD, List.getElem?_eq_getElem hl]
    simp
  have HIG : Hid (decide ((0 : Int) ≤ i) = true) := decide_eq_true (by omega)
  have HIL : Hid (decide (i < (N : Int)) = true) := decide_eq_true (by omega)
  have HSW : Hid ((v + leaf.w) % Big = v + leaf.w ∧ v < Big ∧ v + leaf.w < Big) := by
    have := hr.2.1
    exact ⟨Nat.mod_eq_of_lt (by omega), by omega, by omega⟩
  generalize sizesT N i.toNat = z at *
  clear hv f1 f2 f3 f4 f5 f6 f7
  have E0 : Hid (EnvX w ((w.alloc (.cells (totA root) 29)).alloc (.cells (totA leaf) 29)) [(w.heap.size + 1, Obj.cells (totA leaf) 29 (0, 0)), (w.heap.size, Obj.cells (totA root) 29 (0, 0))]) := (EnvX.start w).two _ _
  have HAW := Lib.hid (mawake_any T ((w.alloc (.cells (totA root) 29)).alloc (.cells (totA leaf) 29)) (ht.below (EnvX.bel E0.out)))
  have HT := Lib.hid ht
  have HM := Lib.hid T
  clear ht T
  have HR := Lib.hid hr
  have HLF := Lib.hid hlf
  have HP := Lib.hid (And.intro hm (And.intro hI hA))
  have HCM := Lib.hid hcm
  unfold maxLen at hcm
  clear hr hlf hm hI hA
  unfold totV
  go_enter Tryd.func6, Tryd.ntmps6
  go_upto_region 1 with (fail)
  generalize ((w.alloc (.cells (totA root) 29)).alloc (.cells (totA leaf) 29)) = W at *
  go_wp2_with fail
  refine HAW.out.mono ?_
  rintro e w1 ⟨rfl, hb1⟩
  have HB1 := Lib.hid (EnvX.below E0.out hb1).bel
  have E1 : Hid (EnvX w1 w1 [(w.heap.size + 1, Obj.cells (totA leaf) 29 (0, 0)), (w.heap.size, Obj.cells (totA root) 29 (0, 0))]) := ⟨Below.refl _ _, (EnvX.below E0.out hb1).box⟩
  have HT1 := Lib.hid (HT.out.below HB1.out)
  clear hb1 E0 HAW
  have HCK : Hid (∀ u, EnvX w1 u [] → Calls Tryd.prog 15 #[.agg (totA root), .int .i64 i, .agg (totA leaf), .slice A m c] u fun e w' => e = .returned (.tuple #[.agg (wcs v), .bool true]) ∧ Below u.heap.size u w') := fun u hu => by
    have h := HM.out.check root leaf i p A m c u HR.out HLF.out hi HP.out.1 (by omega) hmc HCM.out HP.out.2.1 ((HP.out.2.2.up HB1.out).up (EnvX.bel hu)) (HT1.out.below (EnvX.bel hu))
    rwa [HV.out] at h
  go_upto_region 4 with (fail)
  refine wp_region_Hx (w0 := w1) [0, 1, 2, 3, 4, 5, 6, 7, 8, 9, 10] [(w.heap.size + 1, Obj.cells (totA leaf) 29 (0, 0)), (w.heap.size, Obj.cells (totA root) 29 (0, 0))] rfl E1.out ?_
  refine lexH_phase [0, 1, 2, 3, 4, 5, 6, 7] [8, 9, 10] ?_
  have hw1 : EnvX w1 _ [(w.heap.size + 1, Obj.cells (totA leaf) 29 (0, 0)), (w.heap.size, Obj.cells (totA root) 29 (0, 0))] := E1.out
  have hone := @EnvC.one _ _ _ hw1
  (refine wpG_val (v := .agg (totA root)) rfl rfl (fun u hu => load_any_op u (box_tot hu (List.Mem.tail _ (List.Mem.head _)) HR.out.len) rfl) ?_ hw1; intro K hK; go_big_quiet_op; go_big_quiet_on)
  (refine wpG_op rfl rfl rfl ?_; intro K hK; go_big_quiet_op; go_big_quiet_on)
  (refine wpG_val (v := .agg (totA leaf)) rfl rfl (fun u hu => load_any_op u (box_tot hu (List.Mem.head _) HLF.out.len) rfl) ?_ hw1; intro K hK; go_big_quiet_op; go_big_quiet_on)
  (refine wpG_op rfl rfl rfl ?_; intro K hK; go_big_quiet_op; go_big_quiet_on)
  (refine wpG_call (f := 15) (args := #[.agg (totA root), .int .i64 i, .agg (totA leaf), .slice A m c]) (v := .tuple #[.agg (wcs v), .bool true]) rfl rfl rfl Tryd.func15 rfl rfl (fun u hu => HCK.out u (EnvX.sub hu (fun _ h => by cases h))) ?_ hw1; intro K hK; go_big_quiet_op; go_big_quiet_on)
  (refine wpG_op rfl rfl rfl ?_; intro K hK; go_big_quiet_op; go_big_quiet_on)
  (refine wpG_op rfl rfl rfl ?_; intro K hK; go_big_quiet_op; go_big_quiet_on)
  (refine wpG_op rfl rfl rfl ?_; intro K hK; go_big_quiet_op; go_big_quiet_on)
  clear hone hw1
  refine wpG_nil ?_
  refine (hOp_fresh (R := fun x N => ∃ g, x = .pointer (some ⟨g, 0, none⟩) ∧ N = [(g, Obj.cells (wcs 0) 27 (0, 0))]) (M0 := [(w.heap.size + 1, Obj.cells (totA leaf) 29 (0, 0)), (w.heap.size, Obj.cells (totA root) 29 (0, 0))]) rfl rfl (fun _ h => h) (fun u hu => FAt_new (new_wd _) u) ?_)
  rintro _ _ ⟨g10, rfl, rfl⟩ hf he2; intro K' hK'; go_big_quiet_op; go_big_quiet_on
  have HGg10 := Lib.hid (hf _ (List.mem_singleton.2 rfl))
  clear hf
  change lexH _ _ _ _ _ _ [(g10, Obj.cells (wcs 0) 27 (0, 0)), (w.heap.size + 1, Obj.cells (totA leaf) 29 (0, 0)), (w.heap.size, Obj.cells (totA root) 29 (0, 0))]
  refine (hOp_store rfl (g10) (wcs (v)) rfl rfl HGg10.out.1 27 ((wcs 0)) (List.Mem.head _) (wc_info _) ((wc_size _).trans (wc_size _).symm) (wc_one _) [(g10, Obj.cells (wcs (v)) 27 (0, 0)), (w.heap.size + 1, Obj.cells (totA leaf) 29 (0, 0)), (w.heap.size, Obj.cells (totA root) 29 (0, 0))] (List.forall_mem_cons.2 ⟨.inl rfl, fun y hy => .inr ⟨List.mem_cons_of_mem _ hy, HGg10.out.2 y hy⟩⟩) ?_)
  intro he3
  refine lexH_phase [10] [] ?_
  have hw4 : EnvX w1 _ [(g10, Obj.cells (wcs (v)) 27 (0, 0)), (w.heap.size + 1, Obj.cells (totA leaf) 29 (0, 0)), (w.heap.size, Obj.cells (totA root) 29 (0, 0))] := he3.choose_spec
  have hone := @EnvC.one _ _ _ hw4
  (refine wpG_op rfl rfl rfl ?_; intro K hK; go_big_quiet_op; go_big_quiet_on)
  clear hone hw4
  refine wpG_nil ?_
  intro u6 E2'
  have EX5 := Lib.hid E2'
  clear E2'
  have HADD : Hid (∀ u, Calls Tryd.prog 27 #[.agg (wcs v), .agg (wcs leaf.w)] u fun e w' => e = .returned (.tuple #[.agg (wcs (v + leaf.w)), .bool true]) ∧ Below u.heap.size u w') := fun u => by
    have h := add_any v leaf.w u HSW.out.2.1 HLF.out.2.1
    rwa [HSW.out.1, decide_eq_true HSW.out.2.2] at h
  have HCMP : Hid (∀ u, Calls Tryd.prog 29 #[.agg (wcs (v + leaf.w)), .agg (wcs root.w)] u fun e w' => e = .returned (.int .i64 (cmpI (v + leaf.w) root.w)) ∧ Below u.heap.size u w') := fun u => cmp_any (v + leaf.w) root.w u HSW.out.2.2 HR.out.2.1
  have HCL : Hid (decide (cmpI (v + leaf.w) root.w ≤ 0) = true) := decide_eq_true (by
    have := HF.out.2.2.2
    unfold cmpI
    split
    · decide
    · split
      · decide
      · omega)
  go_upto_region 7 with (fail)
  refine wp_region_Hx (w0 := w1) [0, 1, 2, 3, 4, 5, 6, 7, 8, 9] [(g10, Obj.cells (wcs (v)) 27 (0, 0)), (w.heap.size + 1, Obj.cells (totA leaf) 29 (0, 0)), (w.heap.size, Obj.cells (totA root) 29 (0, 0))] rfl EX5.out ?_
  refine lexH_phase [0, 1, 2, 3, 4, 5, 6] [7, 8, 9] ?_
  have hw7 : EnvX w1 _ [(g10, Obj.cells (wcs (v)) 27 (0, 0)), (w.heap.size + 1, Obj.cells (totA leaf) 29 (0, 0)), (w.heap.size, Obj.cells (totA root) 29 (0, 0))] := EX5.out
  have hone := @EnvC.one _ _ _ hw7
  (refine wpG_val (v := .agg (wcs v)) rfl rfl (fun u hu => load_any_op u (box_wide hu (List.Mem.head _)) rfl) ?_ hw7; intro K hK; go_big_quiet_op; go_big_quiet_on)
  (refine wpG_op rfl rfl rfl ?_; intro K hK; go_big_quiet_op; go_big_quiet_on)
  (refine wpG_val (v := .agg (wcs leaf.w)) rfl rfl (fun u hu => load_any_op u (box_totW hu (List.Mem.tail _ (List.Mem.head _)) HLF.out.len) rfl) ?_ hw7; intro K hK; go_big_quiet_op; go_big_quiet_on)
  (refine wpG_call (f := 27) (args := #[.agg (wcs v), .agg (wcs leaf.w)]) (v := .tuple #[.agg (wcs (v + leaf.w)), .bool true]) rfl rfl rfl Tryd.func27 rfl rfl (fun u hu => HADD.out u) ?_ hw7; intro K hK; go_big_quiet_op; go_big_quiet_on)
  (refine wpG_op rfl rfl rfl ?_; intro K hK; go_big_quiet_op; go_big_quiet_on)
  (refine wpG_op rfl rfl rfl ?_; intro K hK; go_big_quiet_op; go_big_quiet_on)
  (refine wpG_op rfl rfl rfl ?_; intro K hK; go_big_quiet_op; go_big_quiet_on)
  clear hone hw7
  refine wpG_nil ?_
  refine (hOp_fresh (R := fun x N => ∃ g, x = .pointer (some ⟨g, 0, none⟩) ∧ N = [(g, Obj.cells (wcs 0) 27 (0, 0))]) (M0 := [(g10, Obj.cells (wcs (v)) 27 (0, 0)), (w.heap.size + 1, Obj.cells (totA leaf) 29 (0, 0)), (w.heap.size, Obj.cells (totA root) 29 (0, 0))]) rfl rfl (fun _ h => h) (fun u hu => FAt_new (new_wd _) u) ?_)
  rintro _ _ ⟨g12, rfl, rfl⟩ hf he8; intro K' hK'; go_big_quiet_op; go_big_quiet_on
  have HGg12 := Lib.hid (hf _ (List.mem_singleton.2 rfl))
  clear hf
  change lexH _ _ _ _ _ _ [(g12, Obj.cells (wcs 0) 27 (0, 0)), (g10, Obj.cells (wcs (v)) 27 (0, 0)), (w.heap.size + 1, Obj.cells (totA leaf) 29 (0, 0)), (w.heap.size, Obj.cells (totA root) 29 (0, 0))]
  refine (hOp_store rfl (g12) (wcs (v + leaf.w)) rfl rfl HGg12.out.1 27 ((wcs 0)) (List.Mem.head _) (wc_info _) ((wc_size _).trans (wc_size _).symm) (wc_one _) [(g12, Obj.cells (wcs (v + leaf.w)) 27 (0, 0)), (g10, Obj.cells (wcs (v)) 27 (0, 0)), (w.heap.size + 1, Obj.cells (totA leaf) 29 (0, 0)), (w.heap.size, Obj.cells (totA root) 29 (0, 0))] (List.forall_mem_cons.2 ⟨.inl rfl, fun y hy => .inr ⟨List.mem_cons_of_mem _ hy, HGg12.out.2 y hy⟩⟩) ?_)
  intro he9
  refine lexH_phase [9] [] ?_
  have hw10 : EnvX w1 _ [(g12, Obj.cells (wcs (v + leaf.w)) 27 (0, 0)), (g10, Obj.cells (wcs (v)) 27 (0, 0)), (w.heap.size + 1, Obj.cells (totA leaf) 29 (0, 0)), (w.heap.size, Obj.cells (totA root) 29 (0, 0))] := he9.choose_spec
  have hone := @EnvC.one _ _ _ hw10
  (refine wpG_op rfl rfl rfl ?_; intro K hK; go_big_quiet_op; go_big_quiet_on)
  clear hone hw10
  refine wpG_nil ?_
  intro u12 E2'
  have EX11 := Lib.hid E2'
  clear E2'
  go_upto_region 8 with (fail)
  refine wp_region_Hx (w0 := w1) [0, 1, 2] [(g12, Obj.cells (wcs (v + leaf.w)) 27 (0, 0)), (g10, Obj.cells (wcs (v)) 27 (0, 0)), (w.heap.size + 1, Obj.cells (totA leaf) 29 (0, 0)), (w.heap.size, Obj.cells (totA root) 29 (0, 0))] rfl EX11.out ?_
  refine lexH_phase [0, 1, 2] [] ?_
  have hw13 : EnvX w1 _ [(g12, Obj.cells (wcs (v + leaf.w)) 27 (0, 0)), (g10, Obj.cells (wcs (v)) 27 (0, 0)), (w.heap.size + 1, Obj.cells (totA leaf) 29 (0, 0)), (w.heap.size, Obj.cells (totA root) 29 (0, 0))] := EX11.out
  have hone := @EnvC.one _ _ _ hw13
  (refine wpG_op rfl rfl rfl ?_; intro K hK; go_big_quiet_op; go_big_quiet_on)
  (refine wpG_val (v := .int .i64 leaf.n) rfl rfl (fun u hu => load_any_op u (box_totN hu (List.Mem.tail _ (List.Mem.tail _ (List.Mem.head _))) HLF.out.len) rfl) ?_ hw13; intro K hK; go_big_quiet_op; go_big_quiet_on)
  (refine wpG_op rfl rfl rfl ?_; intro K hK; go_big_quiet_op; go_big_quiet_on)
  clear hone hw13
  refine wpG_nil ?_
  intro u15 E2'
  have EX14 := Lib.hid E2'
  clear E2'
  go_upto_region 10 with (fail)
  rw [HLN.out]
  have EI : Hid (EnvX w1 u15 [(g12, Obj.cells (wcs (v + leaf.w)) 27 (0, 0)), (g10, Obj.cells (wcs (v)) 27 (0, 0)), (w.heap.size + 1, Obj.cells (totA leaf) 29 (0, 0)), (w.heap.size, Obj.cells (totA root) 29 (0, 0))]) := EX14
  clear EX14 E1 HCK
  go_loopw [14, 15] (fun n j u => ∃ k : Nat, k ≤ m ∧ n = .int .i64 ((1 + (z.take k).sum : Nat) : Int) ∧ j = .int .i64 (k : Int) ∧ Hid (EnvX w1 u [(g12, Obj.cells (wcs (v + leaf.w)) 27 (0, 0)), (g10, Obj.cells (wcs (v)) 27 (0, 0)), (w.heap.size + 1, Obj.cells (totA leaf) 29 (0, 0)), (w.heap.size, Obj.cells (totA root) 29 (0, 0))])) (fun _ j _ => m - (intOf j).toNat)
  case atStart => exact ⟨0, by omega, rfl, rfl, EI⟩
  case round =>
    obtain ⟨k, hk, rfl, rfl, EK⟩ := hrel
    clear EI
    by_cases hlt : k < m
    · have hlt2 : (k : Int) < (m : Int) := by omega
      obtain ⟨ad, rfl, hld⟩ := (HP.out.2.2.up HB1.out).loads HP.out.2.1 (k := k) (by rw [HP.out.1]; exact hlt)
      have HLD := Lib.hid hld
      have HKM := Lib.hid hlt
      have HSK := Lib.hid (HST.out k hlt)
      have HS1 : Hid (((1 + (z.take k).sum : Nat) : Int) + (p.getD k noTot).n = ((1 + (z.take (k + 1)).sum : Nat) : Int) ∧ InI ((1 + (z.take (k + 1)).sum : Nat) : Int)) := by
        have h1 := HSB.out (k + 1)
        rw [HSK.out.1, HSK.out.2]
        rw [HSK.out.2] at h1
        exact ⟨by omega, by unfold InI; omega⟩
      clear hld
      go_upto_region 12 with (fail)
      refine wp_region_Hx (w0 := w1) [0, 1, 2, 3, 4, 5, 6, 7] [(g12, Obj.cells (wcs (v + leaf.w)) 27 (0, 0)), (g10, Obj.cells (wcs (v)) 27 (0, 0)), (w.heap.size + 1, Obj.cells (totA leaf) 29 (0, 0)), (w.heap.size, Obj.cells (totA root) 29 (0, 0))] rfl EK.out ?_
      refine lexH_phase [0, 1, 2, 3, 4, 5, 6, 7] [] ?_
      have hw16 : EnvX w1 _ [(g12, Obj.cells (wcs (v + leaf.w)) 27 (0, 0)), (g10, Obj.cells (wcs (v)) 27 (0, 0)), (w.heap.size + 1, Obj.cells (totA leaf) 29 (0, 0)), (w.heap.size, Obj.cells (totA root) 29 (0, 0))] := EK.out
      have hone := @EnvC.one _ _ _ hw16
      (refine wpG_op rfl rfl rfl ?_; intro K hK; go_big_quiet_op; go_big_quiet_on)
      (refine wpG_op rfl rfl rfl ?_; intro K hK; go_big_quiet_op; go_big_quiet_on)
      (refine wpG_op rfl rfl rfl ?_; intro K hK; go_big_quiet_op; go_big_quiet_on)
      (refine wpG_val (v := .pointer (some (ad.add (k * 37)))) rfl rfl (fun u hu => idxSl_op Tryd.underlying22 aggTot.size HKM.out u rfl rfl) ?_ hw16; intro K hK; go_big_quiet_op; go_big_quiet_on)
      (refine wpG_val (v := .pointer (some ((ad.add (k * 37)).add 36))) rfl rfl (fun u hu => fieldT_op (k := 2) (off := 36) rfl u rfl) ?_ hw16; intro K hK; go_big_quiet_op; go_big_quiet_on)
      (refine wpG_val (v := .int .i64 (p.getD k noTot).n) rfl rfl (fun u hu => load_any_op u (HLD.out u (EnvX.sub hu (fun _ h => by cases h))).2.2.2 rfl) ?_ hw16; intro K hK; go_big_quiet_op; go_big_quiet_on)
      (refine wpG_val (v := .int .i64 ((1 + (z.take (k + 1)).sum : Nat) : Int)) rfl rfl (fun u hu => add_op u HS1.out.1 HS1.out.2 rfl rfl) ?_ hw16; intro K hK; go_big_quiet_op; go_big_quiet_on)
      (refine wpG_op rfl rfl rfl ?_; intro K hK; go_big_quiet_op; go_big_quiet_on)
      clear hone hw16
      refine wpG_nil ?_
      intro u18 E2'
      have EX17 := Lib.hid E2'
      clear E2'
      go_wp2
      go_roundw
      case rel => exact ⟨k + 1, by omega, rfl, by go_num, EX17⟩
      case measure => simp [intOf]; omega
    · obtain rfl : k = m := by omega
      have hge : ¬ (k : Int) < (k : Int) := by omega
      rw [HSUM.out]
      go_upto_region 13 with (fail)
      refine wp_region_Hx (w0 := w1) [0, 1, 2, 3, 4, 5, 6, 7, 8, 9, 10, 11, 12, 13, 14, 15, 16, 17, 18, 19, 20, 21, 22, 23, 24] [(g12, Obj.cells (wcs (v + leaf.w)) 27 (0, 0)), (g10, Obj.cells (wcs (v)) 27 (0, 0)), (w.heap.size + 1, Obj.cells (totA leaf) 29 (0, 0)), (w.heap.size, Obj.cells (totA root) 29 (0, 0))] rfl EK.out ?_
      refine lexH_phase [0, 1, 2, 3, 4, 5, 6, 7, 8, 9, 10, 11, 12, 13, 14, 15, 16, 17, 18, 19, 20, 21, 22, 23, 24] [] ?_
      have hw19 : EnvX w1 _ [(g12, Obj.cells (wcs (v + leaf.w)) 27 (0, 0)), (g10, Obj.cells (wcs (v)) 27 (0, 0)), (w.heap.size + 1, Obj.cells (totA leaf) 29 (0, 0)), (w.heap.size, Obj.cells (totA root) 29 (0, 0))] := EK.out
      have hone := @EnvC.one _ _ _ hw19
      (refine wpG_op rfl rfl rfl ?_; intro K hK; go_big_quiet_op; go_big_quiet_on)
      (refine wpG_op rfl rfl rfl ?_; intro K hK; go_big_quiet_op; go_big_quiet_on)
      (refine wpG_val (v := .agg (wcs (v + leaf.w))) rfl rfl (fun u hu => load_any_op u (box_wide hu (List.Mem.head _)) rfl) ?_ hw19; intro K hK; go_big_quiet_op; go_big_quiet_on)
      (refine wpG_op rfl rfl rfl ?_; intro K hK; go_big_quiet_op; go_big_quiet_on)
      (refine wpG_val (v := .agg (wcs root.w)) rfl rfl (fun u hu => load_any_op u (box_totW hu (List.Mem.tail _ (List.Mem.tail _ (List.Mem.tail _ (List.Mem.head _)))) HR.out.len) rfl) ?_ hw19; intro K hK; go_big_quiet_op; go_big_quiet_on)
      (refine wpG_call (f := 29) (args := #[.agg (wcs (v + leaf.w)), .agg (wcs root.w)]) (v := .int .i64 (cmpI (v + leaf.w) root.w)) rfl rfl rfl Tryd.func29 rfl rfl (fun u hu => HCMP.out u) ?_ hw19; intro K hK; go_big_quiet_op; go_big_quiet_on)
      (refine wpG_val (v := .bool true) rfl rfl (fun u hu => leqI_op u HCL.out rfl rfl) ?_ hw19; intro K hK; go_big_quiet_op; go_big_quiet_on)
      (refine wpG_op rfl rfl rfl ?_; intro K hK; go_big_quiet_op; go_big_quiet_on)
      (refine wpG_op rfl rfl rfl ?_; intro K hK; go_big_quiet_op; go_big_quiet_on)
      (refine wpG_op rfl rfl rfl ?_; intro K hK; go_big_quiet_op; go_big_quiet_on)
      (refine wpG_op rfl rfl rfl ?_; intro K hK; go_big_quiet_op; go_big_quiet_on)
      (refine wpG_val (v := .int .i64 (N : Int)) rfl rfl (fun u hu => load_any_op u (by have h := box_totN hu (List.Mem.tail _ (List.Mem.tail _ (List.Mem.tail _ (List.Mem.head _)))) HR.out.len; rw [HRN.out] at h; exact h) rfl) ?_ hw19; intro K hK; go_big_quiet_op; go_big_quiet_on)
      (refine wpG_val (v := .bool true) rfl rfl (fun u hu => eqlI_op u (decide_eq_true rfl) rfl rfl) ?_ hw19; intro K hK; go_big_quiet_op; go_big_quiet_on)
      (refine wpG_op rfl rfl rfl ?_; intro K hK; go_big_quiet_op; go_big_quiet_on)
      (refine wpG_op rfl rfl rfl ?_; intro K hK; go_big_quiet_op; go_big_quiet_on)
      (refine wpG_op rfl rfl rfl ?_; intro K hK; go_big_quiet_op; go_big_quiet_on)
      (refine wpG_val (v := .bool true) rfl rfl (fun u hu => geq_op u HIG.out rfl rfl) ?_ hw19; intro K hK; go_big_quiet_op; go_big_quiet_on)
      (refine wpG_op rfl rfl rfl ?_; intro K hK; go_big_quiet_op; go_big_quiet_on)
      (refine wpG_op rfl rfl rfl ?_; intro K hK; go_big_quiet_op; go_big_quiet_on)
      (refine wpG_op rfl rfl rfl ?_; intro K hK; go_big_quiet_op; go_big_quiet_on)
      (refine wpG_op rfl rfl rfl ?_; intro K hK; go_big_quiet_op; go_big_quiet_on)
      (refine wpG_val (v := .int .i64 (N : Int)) rfl rfl (fun u hu => load_any_op u (by have h := box_totN hu (List.Mem.tail _ (List.Mem.tail _ (List.Mem.tail _ (List.Mem.head _)))) HR.out.len; rw [HRN.out] at h; exact h) rfl) ?_ hw19; intro K hK; go_big_quiet_op; go_big_quiet_on)
      (refine wpG_val (v := .bool true) rfl rfl (fun u hu => lssI_op u HIL.out rfl rfl) ?_ hw19; intro K hK; go_big_quiet_op; go_big_quiet_on)
      (refine wpG_op rfl rfl rfl ?_; intro K hK; go_big_quiet_op; go_big_quiet_on)
      (refine wpG_op rfl rfl rfl ?_; intro K hK; go_big_quiet_op; go_big_quiet_on)
      clear hone hw19
      refine wpG_nil ?_
      intro u21 E2'
      have EX20 := Lib.hid E2'
      clear E2'
      go_wp2
      go_ret
      exact ⟨rfl, HB1.out.trans ((EnvX.bel EX20.out).mono HB1.out.size)⟩
theorem law_work (T : MmrC) (root leaf : Tot) (i : Int) (p : List Tot) (A : Option Addr) (m c : Nat) (w : World)
    (hr : okT root) (hlf : okT leaf) (hi : -9223372036854775808 ≤ i ∧ i ≤ 9223372036854775807) (hm : p.length = m) (hmc : m ≤ c) (hcm : c ≤ maxLen) (hI : okTs p) (hA : TotsIn w w.heap.size A p) (ht : Tables w) :
    Calls Tryd.prog 6 #[totV root, .int .i64 i, totV leaf, .slice A m c] w fun e w' => e = .returned (.bool true) ∧ Below w.heap.size w w' := by
  by_cases g0 : 12 < m
  · exact law_work_a T root leaf i p A m c w hr hlf hi hm hmc hcm hI hA ht g0
  · cases hv : mcheckT root i leaf p with
    | mk v b =>
      cases b with
      | true => exact law_work_c T root leaf i p A m c w hr hlf hi hm hmc hcm hI hA ht (by omega) v hv
      | false =>
        have h0 : v = 0 := mcheck_zero hv
        subst h0
        exact law_work_b T root leaf i p A m c w hr hlf hi hm hmc hcm hI hA ht (by omega) hv
end Go.Proofs.YtbmiecogjmbciaaDoor

namespace Go.Proofs.YtbmiecogjmbciaaDoor.mmrWork
set_option maxRecDepth 8000
open Go.ChangeShapes Go.WideShapes Go.ChangeAt Go.RowKit

theorem contract (H : Type) (enc : TypeId × Value → H) (W : World) (base : Nat) (args : Array Value) (ds gs : List (DataW H)) (before : List MemPlace)
    (hval : ∀ (j : Nat) t v, Tryd.f6.params[j]? = some t → args[j]? = some v → Value.okWide Tryd.prog W .any base t v)
    (hW : DataW.Whole enc Tryd.prog Tryd.f6.params.toList Rows.mmrWorkSpec.vars false W args.toList ds gs before) (hL : laidMetH Tryd.prog Rows.mmrWorkRow.laid W) :
    Calls Tryd.prog 6 args W fun e W' => ∃ v, e = .returned v ∧ Rows.mmrWorkSpec.post enc Tryd.prog Tryd.f6 false true false false W args v W' := by
  have hW' := hW
  obtain ⟨p, q, hA0, hV, rfl, hfz, hnd⟩ := hW
  have hA : DataW.TrodAll enc Tryd.prog W 0 (fun _ => true) true Tryd.f6.params.toList args.toList ds p := hA0
  rw [Tryd.params6] at hA hval
  obtain ⟨v0, vs0, d0, ds0, p0, q0, hargs, rfl, rfl, h0, r0⟩ := trodAll_cons hA
  obtain ⟨v1, vs1, d1, ds1, p1, q1, rfl, rfl, rfl, h1, r1⟩ := trodAll_cons r0
  obtain ⟨v2, vs2, d2, ds2, p2, q2, rfl, rfl, rfl, h2, r2⟩ := trodAll_cons r1
  obtain ⟨v3, vs3, d3, ds3, p3, q3, rfl, rfl, rfl, h3, r3⟩ := trodAll_cons r2
  obtain ⟨rfl, rfl, rfl⟩ := trodAll_nil r3
  obtain rfl : args = #[v0, v1, v2, v3] := by cases args; simp_all
  obtain ⟨rfl, rfl⟩ := trodVars_none hV
  have lt0 : ∀ x ∈ p0, x.block < W.heap.size := by obtain ⟨m, hm⟩ := h0; exact DataW.trod_lt m _ _ _ hm
  obtain ⟨x0, rfl, kx0⟩ := open_tot (hval 0 29 v0 rfl rfl) h0
  obtain ⟨x1, rfl, rfl, rfl, wx1⟩ := open_int Tryd.underlying3 (hval 1 3 v1 rfl rfl) h1
  have lt2 : ∀ x ∈ p2, x.block < W.heap.size := by obtain ⟨m, hm⟩ := h2; exact DataW.trod_lt m _ _ _ hm
  obtain ⟨x2, rfl, kx2⟩ := open_tot (hval 2 29 v2 rfl rfl) h2
  have lt3 : ∀ x ∈ p3, x.block < W.heap.size := by obtain ⟨m, hm⟩ := h3; exact DataW.trod_lt m _ _ _ hm
  obtain ⟨a3, n3, c3, x3, rfl, lx3, nc3, cm3, kx3, px3⟩ := open_tots (hval 3 22 v3 rfl rfl) h3
  clear hA0
  refine (law_work mmrC x0 x2 x1 x3 a3 n3 c3 W kx0 kx2 (bounds_i64 wx1) lx3 nc3 cm3 kx3 px3 (tables_of_laid hL)).mono fun e W' ⟨he, bel⟩ => ?_
  subst he
  exact ⟨_, rfl, _, _, _, [], _, [], hW', trodAll_mk1 (shut_bool Tryd.underlying4 _), (trodAll_cons_mk (Below.trod laidOut (by kernel_rfl) (of_decide_eq_true (by kernel_rfl)) h0 bel lt0) (trodAll_cons_mk (shut_int Tryd.underlying3 wx1) (trodAll_cons_mk (Below.trod laidOut (by kernel_rfl) (of_decide_eq_true (by kernel_rfl)) h2 bel lt2) (trodAll_cons_mk (Below.trod laidOut (by kernel_rfl) (of_decide_eq_true (by kernel_rfl)) h3 bel lt3) trodAll_mk0)))), rfl, bel.frame _, fun h => by cases h⟩

def start : Array Value := #[zeroT, .int .i64 0, zeroT, .slice none 0 0]
theorem reads (os : Os) {H : Type} (enc : TypeId × Value → H) : ∃ places, DataW.whole enc Tryd.prog ((laidWorld os).forCall (fun _ _ => 0) ⟨#[], start, []⟩).memory Tryd.f6.params.toList Rows.mmrWorkSpec.vars false start.toList 8 = some ([zeroTD, .lit (.int .i64 0), zeroTD, .nil], [], places) :=
  ⟨[], by kernel_rfl⟩

set_option maxRecDepth 100000 in
theorem lifted (os : Os) (started : os.Started) (H : Type) (enc : TypeId × Value → H) (F : Stop.Interp) :
    ReturnsInHanded {} Tryd.checked os 6 .any ((OpenSpec.ofChange Rows.mmrWorkSpec).preRow enc Tryd.prog Tryd.f6 Rows.mmrWorkRow.domain false Rows.mmrWorkRow.laid) (((OpenSpec.ofChange Rows.mmrWorkSpec).at F).post enc Tryd.prog Tryd.f6 false true false false) := by
  obtain ⟨places, hx⟩ := reads os enc
  refine returnsInHanded_of_row (C := Tryd.checked) (s := OpenSpec.ofChange Rows.mmrWorkSpec) own started (by kernel_rfl) Tryd.func6
    (witness_row_at (enc := enc) (C := Tryd.checked) false (laidWorld os) start rfl (by kernel_rfl) (by kernel_rfl) (by kernel_rfl)
      (OpenSpec.preRow_of_cond 8 hx (by kernel_rfl) (fun k hk => by cases hk) (by kernel_rfl) (laidMet_of_run' 8 (by kernel_rfl) (by kernel_rfl)))) ?_
  intro W base args ds gs before hval hW _ _ _ hL _ _
  exact contract H enc W base args ds gs before hval hW hL

theorem said : Rows.MmrWorkSaid :=
  OpenClaim.holds_of_cond 6 Tryd.f6 rfl rfl rfl rfl rfl rfl rfl ⟨rfl, rfl, rfl, rfl, rfl⟩ rfl rfl rfl rfl rfl (by kernel_rfl) Tryd.func6 (by kernel_rfl)
    (of_decide_eq_true (by kernel_rfl)) (by unfold Func.isWrapper; first | (rw [if_pos (by decide +kernel)]; kernel_rfl) | (rw [if_neg (by decide +kernel)]; exact ⟨rfl, rfl⟩))
    (fun os started H enc _ F => by rw [OpenClaim.pre_eq_preRow]; exact lifted os started H enc F)

theorem plain (f : FuncId) (fn : Func) (hf : Tryd.pinned.checked.prog.funcNamed "stepladder/stepladderlaw06.MmrWork" = some f) (hfn : Tryd.pinned.checked.prog.funcs[f]? = some fn) :
    false = Tryd.pinned.checked.prog.looks [] ∧ ∀ (j : Nat) t, fn.params[j]? = some t → Tryd.pinned.checked.prog.wantsStandIn t = false := by
  obtain rfl : f = 6 := Option.some.inj ((show Tryd.prog.funcNamed "stepladder/stepladderlaw06.MmrWork" = some 6 by kernel_rfl).symm.trans hf) |>.symm
  obtain rfl : fn = Tryd.f6 := (Option.some.inj (Tryd.func6.symm.trans hfn)).symm
  refine ⟨by kernel_rfl, fun j t ht => ?_⟩
  rw [Tryd.params6] at ht
  have hm : t = 29 ∨ t = 3 ∨ t = 29 ∨ t = 22 := by simpa using Array.mem_of_getElem? ht
  rcases hm with rfl | rfl | rfl | rfl
  · exact (show Tryd.prog.wantsStandIn 29 = false by kernel_rfl)
  · exact (show Tryd.prog.wantsStandIn 3 = false by kernel_rfl)
  · exact (show Tryd.prog.wantsStandIn 29 = false by kernel_rfl)
  · exact (show Tryd.prog.wantsStandIn 22 = false by kernel_rfl)
theorem card : Rows.MmrWorkCardSaid :=
  Claim7.holds_tied_plain_at .later [] _ _ _ _ said (fun _ h => by cases h) (by kernel_rfl) (fun _ h => by cases h) mmrWork_row_tie rfl ⟨rfl, rfl⟩ (by kernel_rfl) rfl plain (by kernel_rfl)

end Go.Proofs.YtbmiecogjmbciaaDoor.mmrWork
