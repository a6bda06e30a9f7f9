/- The walk of the law ShaEnds. -/
import Derived.Test.YtlccldnjgaldoaaDoorLawLess
import Derived.WalkKit
import Derived.ProofKit
import Derived.Handy
import Derived.ChangeKeysEq
import Derived.Lib.SlBytesConst
import Derived.Deep.MidRow
import Derived.Laws.CopyOwn
import Derived.Laws.MakeOwn
import Derived.Deep.WholeRow
import Derived.Deep.Cut
import Derived.Deep.QuietTactic
import Derived.BigQuiet
import Derived.StillTailTactics
import Derived.Lib.Hide
namespace Go.Proofs.YtlccldnjgaldoaaDoor
open Go.RowKit










theorem less_zeros : ∀ (n : Nat) (xs : List Int), (∀ x ∈ xs, 0 ≤ x ∧ x ≤ 255) → lessL xs (List.replicate n 0) = false
  | 0, xs, _ => by cases xs <;> simp [lessL]
  | n + 1, [], _ => by simp [lessL]
  | n + 1, x :: xs, h => by
    have h0 := h x (by simp)
    have ih := less_zeros n xs (fun y hy => h y (by simp [hy]))
    simp only [List.replicate_succ, lessL]
    by_cases e : x = 0
    · simp [e, ih]
    · simp [e]; omega
theorem tops_less : ∀ (n : Nat) (xs : List Int), (∀ x ∈ xs, 0 ≤ x ∧ x ≤ 255) → lessL (List.replicate n 255) xs = false
  | 0, xs, _ => by cases xs <;> simp [lessL]
  | n + 1, [], _ => by simp [List.replicate_succ, lessL]
  | n + 1, x :: xs, h => by
    have h0 := h x (by simp)
    have ih := tops_less n xs (fun y hy => h y (by simp [hy]))
    simp only [List.replicate_succ, lessL]
    by_cases e : 255 = x
    · simp [← e, ih]
    · simp [e]; omega
theorem less_from (xs ys : List Int) (n : Nat) (hx : n < xs.length) (hy : n < ys.length) : ∀ k, k ≤ n → (∀ j, j < n → xs.getD j 0 = ys.getD j 0) → lessL xs ys = lessL (xs.drop k) (ys.drop k)
  | 0, _, _ => rfl
  | k + 1, hk, h => by rw [less_from xs ys n hx hy k (by omega) h, (lessL_at xs ys k (by omega) (by omega)).1 (h k (by omega))]
theorem less_at (xs ys : List Int) (n : Nat) (hx : n < xs.length) (hy : n < ys.length) (h : ∀ j, j < n → xs.getD j 0 = ys.getD j 0) (hl : xs.getD n 0 < ys.getD n 0) : lessL xs ys = true := by
  rw [less_from xs ys n hx hy n (Nat.le_refl _) h, (lessL_at xs ys n hx hy).2 (by omega)]
  simpa using hl
theorem arrB_set (n : Nat) (l : List Int) (k : Nat) (v : Int) (h : l.length = n) : (arrB n l).setIfInBounds k (.int .u8 v) = arrB n (l.set k v) := by
  apply arrB_ext
  · simp [h]
  · rw [Array.size_setIfInBounds, arrB_size n l (by omega)]
  · intro i hi
    rw [Array.getElem?_setIfInBounds, arrB_size n l (by omega)]
    by_cases e : k = i
    · subst e; simp [hi, List.getD, h]
    · rw [if_neg e, arrB_get n l i (by omega) hi]
      simp [List.getD, e]
theorem tops_put (k : Nat) (h : k < 32) : (arrB 32 (List.replicate k 255)).setIfInBounds k (.int .u8 255) = arrB 32 (List.replicate (k + 1) 255) := by
  rw [arrB_put_at 32 _ 255 k (by simp) h, List.replicate_succ']
/-- the ids in their boxes, and what Less answers -/
structure Ends (w : World) (g h : Nat) (xs ys : List Int) : Prop where
  x : w.heap[g]? = some (.cells (arrB 32 xs) 26 (0, 0))
  y : w.heap[g + 1]? = some (.cells (arrB 32 ys) 26 (0, 0))
  z : w.heap[h]? = some (.cells (arrB 32 (List.replicate 32 255)) 26 (0, 0))
  lt : g + 1 < h
  lt' : h < w.heap.size
theorem Ends.below {w w' : World} {g h : Nat} {xs ys : List Int} (e : Ends w g h xs ys) (hb : Below w.heap.size w w') : Ends w' g h xs ys := by
  have := e.lt
  have := e.lt'
  exact ⟨(hb.block _ (by omega)).trans e.x, (hb.block _ (by omega)).trans e.y, (hb.block _ (by omega)).trans e.z, e.lt, Nat.lt_of_lt_of_le e.lt' hb.size⟩
set_option maxHeartbeats 4000000 in
theorem law_ends (xs ys : List Int) (i : Int) (w : World) (hx : xs.length = 32) (hy : ys.length = 32) (rx : ∀ x ∈ xs, 0 ≤ x ∧ x ≤ 255) (ht : Tables w) :
    Calls Tryd.prog 8 #[.agg (arrB 32 xs), .agg (arrB 32 ys), .int .i64 i] w fun e w' => e = .returned (.bool true) ∧ Below w.heap.size w w' := by
  have HX := Lib.hid hx
  have HY := Lib.hid hy
  have hszx := Lib.hid (arrB_size 32 xs (by omega))
  have hszy := Lib.hid (arrB_size 32 ys (by omega))
  have hszt := Lib.hid (arrB_size 32 (List.replicate 32 255) (by simp))
  have l0 := Lib.hid (less_zeros 32 xs rx)
  have l1 := Lib.hid (tops_less 32 xs rx)
  have RX := Lib.hid (getD_range xs rx)
  clear hx hy rx
  go_enter Tryd.func8, Tryd.ntmps8
  go_wp2_with fail
  have b0 : Below w.heap.size w ((w.alloc (.cells (arrB 32 xs) 26)).alloc (.cells (arrB 32 ys) 26)) := by go_grown
  have k0 : Row ((w.alloc (.cells (arrB 32 xs) 26)).alloc (.cells (arrB 32 ys) 26)) w.heap.size 26 (arrB 32 xs) := (Row.new w 26 _).alloc _
  have k1 : Row ((w.alloc (.cells (arrB 32 xs) 26)).alloc (.cells (arrB 32 ys) 26)) (w.heap.size + 1) 26 (arrB 32 ys) := Row.newAt (by simp) 26 _
  generalize (w.alloc (.cells (arrB 32 xs) 26)).alloc (.cells (arrB 32 ys) 26) = w0 at *
  refine (awake_any w0 (ht.below b0)).mono ?_
  rintro e w1 ⟨rfl, hb⟩
  have j0 := Lib.hid (k0.below hb k0.lt)
  have j1 := Lib.hid (k1.below hb k1.lt)
  have b1 := Lib.hid (b0.trans (hb.mono b0.size))
  have s1 := j1.out.lt
  clear hb k0 k1 b0
  go_wp2_with fail
  go_loopw [9] (fun i u => ∃ k : Nat, k ≤ 32 ∧ i = .int .i64 k ∧ Below w1.heap.size w1 u ∧ Hid (Row u w1.heap.size 26 (arrB 32 (List.replicate k 255)))) (fun i _ => 32 - (intOf i).toNat)
  case atStart => exact ⟨0, by omega, rfl, by go_grown, Row.new w1 26 _⟩
  case round =>
    obtain ⟨k, hk, rfl, hbl, hr⟩ := hrel
    by_cases hlt : k < 32
    · have e0 := (hr.out.cell k).trans (arrB_get 32 _ k (by simp; omega) hlt)
      have f0 := hr.out.frozen k
      have HP := Lib.hid (tops_put k hlt)
      go_wp2
      go_roundw
      case rel => exact ⟨k + 1, by omega, by go_num, hbl.setCell (Nat.le_refl _) _, by
          show Row _ _ _ _
          rw [← HP.out]
          exact hr.out.put k _⟩
      case measure => simp [intOf]; omega
    · obtain rfl : k = 32 := by omega
      have E0 := Lib.hid (⟨j0.out.below hbl (by omega), j1.out.below hbl s1, hr.out, s1, hr.out.lt⟩ : Ends wr w.heap.size w1.heap.size xs ys)
      have b2 := Lib.hid (b1.out.trans (hbl.mono b1.out.size))
      clear hr j0 j1 hbl b1 ht
      go_wp2_with (first
        | ((with_reducible refine wpList_load_guarded (o := ⟨some 22, _, _, _, _, _⟩) ?_ 26 (.tmp 3) ?_ w.heap.size ?_ 26 (arrB 32 xs) (0, 0) _ E0.out.x Tryd.underlying26 ?_ (info26 _ (hszx.out)) ?_); (rfl); (rfl); (rfl); (rfl))
        | fail)
      change Calls Tryd.prog 15 #[.agg (arrB 32 xs), .agg (arrB 32 (List.replicate 32 0))] _ _
      refine (less_any xs (List.replicate 32 0) wr HX.out (by simp)).mono ?_
      rintro e w2 ⟨rfl, hb⟩
      rw [l0.out]
      have E1 := Lib.hid (E0.out.below hb)
      have b3 := Lib.hid (b2.out.trans (hb.mono b2.out.size))
      clear hb E0 b2
      go_wp2_with (first
        | ((with_reducible refine wpList_load_guarded (o := ⟨some 27, _, _, _, _, _⟩) ?_ 26 (.tmp 8) ?_ w1.heap.size ?_ 26 (arrB 32 (List.replicate 32 255)) (0, 0) _ E1.out.z Tryd.underlying26 ?_ (info26 _ (hszt.out)) ?_); (rfl); (rfl); (rfl); (rfl))
        | ((with_reducible refine wpList_load_guarded (o := ⟨some 28, _, _, _, _, _⟩) ?_ 26 (.tmp 3) ?_ w.heap.size ?_ 26 (arrB 32 xs) (0, 0) _ E1.out.x Tryd.underlying26 ?_ (info26 _ (hszx.out)) ?_); (rfl); (rfl); (rfl); (rfl)))
      refine (less_any (List.replicate 32 255) xs w2 (by simp) HX.out).mono ?_
      rintro e w3 ⟨rfl, hb⟩
      rw [l1.out]
      have E2 := Lib.hid (E1.out.below hb)
      have b4 := Lib.hid (b3.out.trans (hb.mono b3.out.size))
      clear hb E1 b3
      by_cases hneg : i < 0
      · clear s1 hk hlt
        go_wp2_with (first
          | ((with_reducible refine wpList_load_guarded (o := ⟨some 47, _, _, _, _, _⟩) ?_ 26 (.tmp 3) ?_ w.heap.size ?_ 26 (arrB 32 xs) (0, 0) _ E2.out.x Tryd.underlying26 ?_ (info26 _ (hszx.out)) ?_); (rfl); (rfl); (rfl); (rfl))
          | fail)
        change Calls Tryd.prog 15 #[.agg (arrB 32 xs), .agg (arrB 32 (List.replicate 32 0))] _ _
        refine (less_any xs (List.replicate 32 0) w3 HX.out (by simp)).mono ?_
        rintro e w4 ⟨rfl, hb⟩
        rw [l0.out]
        have E3 := Lib.hid (E2.out.below hb)
        have b5 := Lib.hid (b4.out.trans (hb.mono b4.out.size))
        clear hb E2 b4
        go_wp2_with (first
          | ((with_reducible refine wpList_load_guarded (o := ⟨some 53, _, _, _, _, _⟩) ?_ 26 (.tmp 8) ?_ w1.heap.size ?_ 26 (arrB 32 (List.replicate 32 255)) (0, 0) _ E3.out.z Tryd.underlying26 ?_ (info26 _ (hszt.out)) ?_); (rfl); (rfl); (rfl); (rfl))
          | ((with_reducible refine wpList_load_guarded (o := ⟨some 54, _, _, _, _, _⟩) ?_ 26 (.tmp 3) ?_ w.heap.size ?_ 26 (arrB 32 xs) (0, 0) _ E3.out.x Tryd.underlying26 ?_ (info26 _ (hszx.out)) ?_); (rfl); (rfl); (rfl); (rfl)))
        refine (less_any (List.replicate 32 255) xs w4 (by simp) HX.out).mono ?_
        rintro e w5 ⟨rfl, hb⟩
        rw [l1.out]
        have b6 := Lib.hid (b5.out.trans (hb.mono b5.out.size))
        clear hb E3 b5
        go_wp2
        go_ret
        exact ⟨rfl, b6.out⟩
      by_cases hbig : 31 < i
      · clear s1 hk hlt
        go_wp2_with (first
          | ((with_reducible refine wpList_load_guarded (o := ⟨some 47, _, _, _, _, _⟩) ?_ 26 (.tmp 3) ?_ w.heap.size ?_ 26 (arrB 32 xs) (0, 0) _ E2.out.x Tryd.underlying26 ?_ (info26 _ (hszx.out)) ?_); (rfl); (rfl); (rfl); (rfl))
          | fail)
        change Calls Tryd.prog 15 #[.agg (arrB 32 xs), .agg (arrB 32 (List.replicate 32 0))] _ _
        refine (less_any xs (List.replicate 32 0) w3 HX.out (by simp)).mono ?_
        rintro e w4 ⟨rfl, hb⟩
        rw [l0.out]
        have E3 := Lib.hid (E2.out.below hb)
        have b5 := Lib.hid (b4.out.trans (hb.mono b4.out.size))
        clear hb E2 b4
        go_wp2_with (first
          | ((with_reducible refine wpList_load_guarded (o := ⟨some 53, _, _, _, _, _⟩) ?_ 26 (.tmp 8) ?_ w1.heap.size ?_ 26 (arrB 32 (List.replicate 32 255)) (0, 0) _ E3.out.z Tryd.underlying26 ?_ (info26 _ (hszt.out)) ?_); (rfl); (rfl); (rfl); (rfl))
          | ((with_reducible refine wpList_load_guarded (o := ⟨some 54, _, _, _, _, _⟩) ?_ 26 (.tmp 3) ?_ w.heap.size ?_ 26 (arrB 32 xs) (0, 0) _ E3.out.x Tryd.underlying26 ?_ (info26 _ (hszx.out)) ?_); (rfl); (rfl); (rfl); (rfl)))
        refine (less_any (List.replicate 32 255) xs w4 (by simp) HX.out).mono ?_
        rintro e w5 ⟨rfl, hb⟩
        rw [l1.out]
        have b6 := Lib.hid (b5.out.trans (hb.mono b5.out.size))
        clear hb E3 b5
        go_wp2
        go_ret
        exact ⟨rfl, b6.out⟩
      obtain ⟨n, rfl⟩ := Int.eq_ofNat_of_zero_le (by omega : 0 ≤ i)
      have hn : n < 32 := by omega
      have rn := RX.out n
      have e0 : w3.cell? ⟨w.heap.size, n, none⟩ = some (.int .u8 (xs.getD n 0)) := (Row.cell E2.out.x n).trans (arrB_get 32 xs n (by rw [HX.out]; omega) hn)
      have hv : Hid (xs.getD n 0 = xs.getD n 0) := rfl
      generalize hX : xs.getD n 0 = x at e0 rn
      have HV := Lib.hid hX
      clear hX hv hk hlt
      by_cases h255 : x = 255
      · have t255 : (x == 255) = true := by simpa using h255
        clear h255
        go_wp2_with (first
          | ((with_reducible refine wpList_load_guarded (o := ⟨some 47, _, _, _, _, _⟩) ?_ 26 (.tmp 3) ?_ w.heap.size ?_ 26 (arrB 32 xs) (0, 0) _ E2.out.x Tryd.underlying26 ?_ (info26 _ (hszx.out)) ?_); (rfl); (rfl); (rfl); (rfl))
          | fail)
        change Calls Tryd.prog 15 #[.agg (arrB 32 xs), .agg (arrB 32 (List.replicate 32 0))] _ _
        refine (less_any xs (List.replicate 32 0) w3 HX.out (by simp)).mono ?_
        rintro e w4 ⟨rfl, hb⟩
        rw [l0.out]
        have E3 := Lib.hid (E2.out.below hb)
        have b5 := Lib.hid (b4.out.trans (hb.mono b4.out.size))
        clear hb E2 b4
        go_wp2_with (first
          | ((with_reducible refine wpList_load_guarded (o := ⟨some 53, _, _, _, _, _⟩) ?_ 26 (.tmp 8) ?_ w1.heap.size ?_ 26 (arrB 32 (List.replicate 32 255)) (0, 0) _ E3.out.z Tryd.underlying26 ?_ (info26 _ (hszt.out)) ?_); (rfl); (rfl); (rfl); (rfl))
          | ((with_reducible refine wpList_load_guarded (o := ⟨some 54, _, _, _, _, _⟩) ?_ 26 (.tmp 3) ?_ w.heap.size ?_ 26 (arrB 32 xs) (0, 0) _ E3.out.x Tryd.underlying26 ?_ (info26 _ (hszx.out)) ?_); (rfl); (rfl); (rfl); (rfl)))
        refine (less_any (List.replicate 32 255) xs w4 (by simp) HX.out).mono ?_
        rintro e w5 ⟨rfl, hb⟩
        rw [l1.out]
        have b6 := Lib.hid (b5.out.trans (hb.mono b5.out.size))
        clear hb E3 b5
        go_wp2
        go_ret
        exact ⟨rfl, b6.out⟩
      have f255 : (x == 255) = false := by simpa using h255
      obtain ⟨rn0, rn1⟩ := rn
      have rn2 : x + 1 ≤ 255 := by omega
      clear h255
      go_wp2_with (first
        | ((with_reducible refine wpList_load_row (o := ⟨some 58, _, _, _, _, _⟩) ?_ 26 (.tmp 3) ?_ w.heap.size ?_ 26 (arrB 32 xs) (0, 0) _ E2.out.x Tryd.underlying26 ?_ (info26 _ (hszx.out)) ?_); (rfl); (rfl); (rfl); (rfl))
        | ((with_reducible refine wpList_store_row (o := ⟨none, .store 26 (.tmp 10) _, _, _, _, _⟩) ?_ 26 (.tmp 10) (.tmp 58) ?_ w3.heap.size (arrB 32 xs) ?_ ?_ 26 _ (heap_alloc_last w3 _) (info26 _ hszx.out) ?_ (arrB_one 32 xs) ?_); (rfl); (rfl); (rfl); (rfl); (rw [hszx.out]; rfl); rw [World.setRow_alloc_new]; have d0 : (w3.alloc (.cells (arrB 32 xs) 26)).cell? ⟨w3.heap.size, n, none⟩ = some (.int .u8 x) := (((Row.new w3 26 (arrB 32 xs)).cell n).trans (arrB_get 32 xs n (by rw [HX.out]; omega) hn)).trans (by rw [HV.out]); have d1 := (Row.new w3 26 (arrB 32 xs)).frozen n))
      have z0 := E2.out.lt'
      have z1 := E2.out.lt
      have z2 := b4.out.size
      have u0 : Hid (Row (w3.alloc (.cells ((arrB 32 xs).setIfInBounds n (.int .u8 (x + 1))) 26)) w3.heap.size 26 (arrB 32 (xs.set n (x + 1)))) := by
        show Row _ _ _ _
        rw [← arrB_set 32 xs n (x + 1) HX.out]
        exact Row.new w3 26 _
      have u1 : Hid (Row (w3.alloc (.cells ((arrB 32 xs).setIfInBounds n (.int .u8 (x + 1))) 26)) w.heap.size 26 (arrB 32 xs)) := Row.alloc E2.out.x _
      have u2 : Hid (Row (w3.alloc (.cells ((arrB 32 xs).setIfInBounds n (.int .u8 (x + 1))) 26)) (w.heap.size + 1) 26 (arrB 32 ys)) := Row.alloc E2.out.y _
      have u3 : Hid (Below w.heap.size w (w3.alloc (.cells ((arrB 32 xs).setIfInBounds n (.int .u8 (x + 1))) 26))) := Lib.hid (b4.out.alloc (by omega) _)
      clear e0 d0 d1
      generalize (w3.alloc (.cells ((arrB 32 xs).setIfInBounds n (.int .u8 (x + 1))) 26)) = w5 at *
      go_loopw [11] (fun i u => ∃ k : Nat, k ≤ 32 ∧ n + 1 ≤ k ∧ i = .int .i64 k ∧ Below w.heap.size w u ∧ Hid (Row u w.heap.size 26 (arrB 32 xs) ∧ Row u (w.heap.size + 1) 26 (arrB 32 ys) ∧ ∃ l : List Int, l.length = 32 ∧ (∀ j, j < n → xs.getD j 0 = l.getD j 0) ∧ xs.getD n 0 < l.getD n 0 ∧ Row u w3.heap.size 26 (arrB 32 l))) (fun i _ => 32 - (intOf i).toNat)
      case atStart =>
        refine ⟨n + 1, by omega, by omega, by go_num, u3.out, u1.out, u2.out, xs.set n (x + 1), by rw [List.length_set, HX.out], fun j hj => ?_, ?_, u0.out⟩
        · simp [List.getD, show ¬ n = j by omega]
        · rw [HV.out]
          simp [List.getD, HX.out, hn]
          omega
      case round =>
        clear u0 u1 u2 u3
        obtain ⟨k, hk, hk2, rfl, hbl, hr⟩ := hrel
        obtain ⟨r0, r1, l, ll, la, lb, r2⟩ := hr.out
        by_cases hlt : k < 32
        · have e1 := (r1.cell k).trans (arrB_get 32 ys k (by rw [HY.out]; omega) hlt)
          have e2 := (r2.cell k).trans (arrB_get 32 l k (by omega) hlt)
          have f2 := r2.frozen k
          have HP := Lib.hid (arrB_set 32 l k (ys.getD k 0) ll)
          have R0 := Lib.hid r0
          have R1 := Lib.hid r1
          have R2 := Lib.hid r2
          have LL := Lib.hid ll
          have LA := Lib.hid la
          have LB := Lib.hid lb
          clear r0 r1 r2 hr ll la lb
          go_wp2
          go_roundw
          case rel =>
            refine ⟨k + 1, by omega, by omega, by go_num, hbl.setCell (by simp; omega) _, R0.out.far (by simp; omega) _, R1.out.far (by simp; omega) _, l.set k (ys.getD k 0), by rw [List.length_set, LL.out], fun j hj => ?_, ?_, ?_⟩
            · have := LA.out j hj
              simpa [List.getD, show ¬ k = j by omega] using this
            · have := LB.out
              simpa [List.getD, show ¬ k = n by omega] using this
            · rw [← HP.out]
              exact R2.out.put k _
          case measure => simp [intOf]; omega
        · obtain rfl : k = 32 := by omega
          have hfin := Lib.hid (less_at xs l n (by rw [HX.out]; exact hn) (by omega) la lb)
          have hszl := Lib.hid (arrB_size 32 l (by omega))
          have R0 : Hid (wr.heap[w.heap.size]? = some (.cells (arrB 32 xs) 26 (0, 0))) := r0
          have R2 : Hid (wr.heap[w3.heap.size]? = some (.cells (arrB 32 l) 26 (0, 0))) := r2
          have LL := Lib.hid ll
          clear r0 r1 r2 hr ll la lb
          go_wp2_with (first
            | ((with_reducible refine wpList_load_row (o := ⟨some 76, _, _, _, _, _⟩) ?_ 26 (.tmp 3) ?_ w.heap.size ?_ 26 (arrB 32 xs) (0, 0) _ R0.out Tryd.underlying26 ?_ (info26 _ (hszx.out)) ?_); (rfl); (rfl); (rfl); (rfl))
            | ((with_reducible refine wpList_load_row (o := ⟨some 77, _, _, _, _, _⟩) ?_ 26 (.tmp 10) ?_ w3.heap.size ?_ 26 (arrB 32 l) (0, 0) _ R2.out Tryd.underlying26 ?_ (info26 _ (hszl.out)) ?_); (rfl); (rfl); (rfl); (rfl)))
          refine (less_any xs l wr HX.out LL.out).mono ?_
          rintro e w6 ⟨rfl, hb⟩
          rw [hfin.out]
          have b6 := Lib.hid (hbl.trans (hb.mono hbl.size))
          clear hb
          go_wp2
          go_ret
          exact ⟨rfl, b6.out⟩
end Go.Proofs.YtlccldnjgaldoaaDoor
