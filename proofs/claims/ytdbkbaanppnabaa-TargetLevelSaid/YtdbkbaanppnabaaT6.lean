/- The walk of Compact, of the reference. -/
import Derived.Test.YtdbkbaanppnabaaT5
namespace Go.Proofs.Ytdbkbaanppnabaa
open Go.RowKit

theorem rO_step (t k : Nat) : rO t (k + 1) = if 8388607 < t / 256 ^ k then 16777216 * (3 + k) + 8388607 else if 32768 ≤ t / 256 ^ k then 16777216 * (3 + k) + t / 256 ^ k else rO t k := rfl
theorem rO_lt (t : Nat) : ∀ k, k ≤ 30 → rO t k < 4294967296
  | 0, _ => by show 0 < 4294967296; decide
  | k + 1, h => by
    rw [rO_step]
    split
    · omega
    · split
      · omega
      · exact rO_lt t k (by omega)
theorem W_split {m : Nat} (h : m < Big) : m = W m 0 + 18446744073709551616 * (W m 1 + 18446744073709551616 * (W m 2 + 18446744073709551616 * W m 3)) := by
  have e0 : W m 0 = m % 18446744073709551616 := by unfold W; rw [Nat.mul_zero, Nat.pow_zero, Nat.div_one]
  have e1 : W m 1 = m / 18446744073709551616 % 18446744073709551616 := rfl
  have e2 : W m 2 = m / 18446744073709551616 / 18446744073709551616 % 18446744073709551616 := by rw [Nat.div_div_eq_div_mul]; rfl
  have e3 : W m 3 = m / 18446744073709551616 / 18446744073709551616 / 18446744073709551616 % 18446744073709551616 := by rw [Nat.div_div_eq_div_mul, Nat.div_div_eq_div_mul]; rfl
  have h3 : m / 18446744073709551616 / 18446744073709551616 / 18446744073709551616 < 18446744073709551616 := by
    rw [Nat.div_div_eq_div_mul, Nat.div_div_eq_div_mul]
    exact Nat.div_lt_of_lt_mul h
  rw [e0, e1, e2, e3, Nat.mod_eq_of_lt h3]
  have a0 := Nat.div_add_mod m 18446744073709551616
  have a1 := Nat.div_add_mod (m / 18446744073709551616) 18446744073709551616
  have a2 := Nat.div_add_mod (m / 18446744073709551616 / 18446744073709551616) 18446744073709551616
  omega
theorem W_fits {m : Nat} (h : m < Big) (h1 : W m 1 = 0) (h2 : W m 2 = 0) (h3 : W m 3 = 0) : W m 0 = m := by
  have := W_split h
  rw [h1, h2, h3] at this
  omega
theorem W_highs {m : Nat} (h : m < Big) (hs : m ≤ 8388607) : W m 0 = m ∧ W m 1 = 0 ∧ W m 2 = 0 ∧ W m 3 = 0 := by
  have := W_split h
  omega
theorem W_big {m : Nat} (h : m < Big) (hs : 8388607 < m) : 0 < W m 1 ∨ 0 < W m 2 ∨ 0 < W m 3 ∨ 8388607 < W m 0 := by
  have := W_split h
  omega
set_option maxRecDepth 100000 in
set_option maxHeartbeats 4000000 in
theorem rcompact_any (t : Nat) (w : World) (ht : t < Big) :
    Calls Try.prog 13 #[.agg (wcs t)] w fun e w' => e = .returned (.int .u32 ((cN t : Nat) : Int)) ∧ Below w.heap.size w w' := by
  have ht' := Lib.hid ht
  have E1 : Hid (EnvX w (w.alloc (.cells (wcs t) 25)) [(w.heap.size, wo t)]) := (EnvX.start w).new (wo t)
  go_enter Try.func13, Try.ntmps13
  go_wp2_with fail
  generalize w.alloc (.cells (wcs t) 25) = w1 at *
  go_loopw [3, 4] (fun o l u => ∃ k : Nat, k ≤ 30 ∧ o = .int .u32 ((rO t k : Nat) : Int) ∧ l = .int .i64 (3 + (k : Int)) ∧ Hid (EnvX w u [(w.heap.size, wo t)])) (fun _ l _ => (33 - intOf l).toNat)
  case atStart => exact ⟨0, by omega, rfl, rfl, E1⟩
  case round =>
    obtain ⟨k, hk, rfl, rfl, hE⟩ := hrel
    clear E1
    have hk0 : (0 : Int) ≤ (k : Int) := by omega
    have hk1 : (k : Int) ≤ 30 := by omega
    have hs := Lib.hid (rO_step t k)
    have hrb : Hid (rO t k < 4294967296) := rO_lt t k hk
    by_cases h31 : k ≤ 29
    · have h3 : 3 + (k : Int) ≤ 32 := by omega
      have hmB := Lib.hid (Nat.lt_of_le_of_lt (Nat.div_le_self t (256 ^ k)) ht'.out)
      have hdn : Hid (∀ u, Calls Try.prog 28 #[.agg (wcs t), .int .i64 (8 * (3 + (k : Int) - 3))] u fun e w' => e = .returned (.agg (wcs (t / 256 ^ k))) ∧ Below u.heap.size u w') := fun u => by
        have h := rdown_v t (8 * (3 + (k : Int) - 3)) u ht'.out
        have e : downV t (8 * (3 + (k : Int) - 3)) = t / 256 ^ k := by
          unfold downV aDown
          rw [if_neg (by omega), show (8 * (3 + (k : Int) - 3)).toNat = 8 * k by omega, Nat.pow_mul]
        rw [e] at h
        exact h
      generalize t / 256 ^ k = m at *
      generalize hlk : rO t k = lk at *
      generalize hlk2 : rO t (k + 1) = lk2 at *
      have HL := Lib.hid hlk
      have HL2 := Lib.hid hlk2
      clear hlk hlk2
      go_upto_region 5 with (fail)
      refine wp_region_Gx (w0 := w) [0, 1, 2, 3, 4] [5, 6] [(w.heap.size, (wo (t)))] rfl hE.out ?_
      have hone := @EnvC.one _ _ _ (hE.out)
      (refine wpG_load rfl rfl (w.heap.size) rfl 25 _ _ (fun u hu => EnvC.box hu _ (wo (t)) (List.Mem.head _)) Try.underlying25 rfl (wc_info _) ?_ (hE.out); intro K hK; go_big_quiet_op; go_big_quiet_on)
      (refine wpG_op rfl rfl rfl ?_; intro K hK; go_big_quiet_op; go_big_quiet_on)
      (refine wpG_op rfl rfl rfl ?_; intro K hK; go_big_quiet_op; go_big_quiet_on)
      (refine wpG_op rfl rfl rfl ?_; intro K hK; go_big_quiet_op; go_big_quiet_on)
      (refine wpG_call (f := 28) (args := #[.agg (wcs (t)), .int .i64 (8 * (3 + (k : Int) - 3))]) (v := .agg (wcs (m))) rfl rfl rfl Try.func28 rfl rfl (fun u _ => hdn.out u) ?_ (hE.out); intro K hK; go_big_quiet_op; go_big_quiet_on)
      clear hone
      refine wpG_nil ?_
      (refine (gOp_new (wo (0)) rfl (new_wide _) ?_); intro g1 hbg1 hfg1; intro K' hK'; go_big_quiet_op; go_big_quiet_on)
      have ng1x0 : Hid (w.heap.size ≠ g1) := hfg1 (w.heap.size, _) (List.Mem.head _)
      clear hfg1
      refine (gOp_store rfl (g1) (wcs (m)) rfl rfl hbg1 25 (wcs (0)) (List.Mem.head _) (wc_info _) ((wc_size _).trans (wc_size _).symm) (wc_one _) [(g1, (wo (m))), (w.heap.size, (wo (t)))] (List.forall_mem_cons.2 ⟨.inl rfl, (List.forall_mem_cons.2 ⟨.inr ⟨(List.Mem.tail _ (List.Mem.head _)), ng1x0.out⟩, (fun _ h => by cases h)⟩)⟩) ?_)
      rintro u3 ⟨hl2, E2'⟩
      have EX2 := Lib.hid E2'
      clear hl2 E2' hE
      have hc0 := EX2.out.cell (g := g1) (n := m) (List.Mem.head _) 0 (by decide)
      have hc1 := EX2.out.cell (g := g1) (n := m) (List.Mem.head _) 1 (by decide)
      have hc2 := EX2.out.cell (g := g1) (n := m) (List.Mem.head _) 2 (by decide)
      have hc3 := EX2.out.cell (g := g1) (n := m) (List.Mem.head _) 3 (by decide)
      have EF := Lib.hid (EX2.out.sub (l' := [(w.heap.size, wo t)]) (fun x hx => .tail _ hx))
      generalize hw0 : W m 0 = x0 at *
      generalize hw1 : W m 1 = x1 at *
      generalize hw2 : W m 2 = x2 at *
      generalize hw3 : W m 3 = x3 at *
      have hx0 : (x0 : Int) < 18446744073709551616 := by have := W_lt m 0; omega
      have X0 := Lib.hid hw0
      have X1 := Lib.hid hw1
      have X2 := Lib.hid hw2
      have X3 := Lib.hid hw3
      clear hw0 hw1 hw2 hw3
      by_cases hbig : 8388607 < m
      · have hw := W_big hmB.out hbig
        rw [X0.out, X1.out, X2.out, X3.out] at hw
        by_cases k1 : 0 < x1
        · have i1 : (0 : Int) < (x1 : Int) := by omega
          go_wp2
          go_roundw
          case rel => exact ⟨k + 1, by omega, by rw [HL2.out, hs.out, if_pos hbig]; go_num, by go_num, EF⟩
          case measure => simp [intOf]; omega
        · have i1 : ¬ (0 : Int) < (x1 : Int) := by omega
          by_cases k2 : 0 < x2
          · have i2 : (0 : Int) < (x2 : Int) := by omega
            go_wp2
            go_roundw
            case rel => exact ⟨k + 1, by omega, by rw [HL2.out, hs.out, if_pos hbig]; go_num, by go_num, EF⟩
            case measure => simp [intOf]; omega
          · have i2 : ¬ (0 : Int) < (x2 : Int) := by omega
            by_cases k3 : 0 < x3
            · have i3 : (0 : Int) < (x3 : Int) := by omega
              go_wp2
              go_roundw
              case rel => exact ⟨k + 1, by omega, by rw [HL2.out, hs.out, if_pos hbig]; go_num, by go_num, EF⟩
              case measure => simp [intOf]; omega
            · have i3 : ¬ (0 : Int) < (x3 : Int) := by omega
              have i0 : (8388607 : Int) < (x0 : Int) := by omega
              go_wp2
              go_roundw
              case rel => exact ⟨k + 1, by omega, by rw [HL2.out, hs.out, if_pos hbig]; go_num, by go_num, EF⟩
              case measure => simp [intOf]; omega
      · obtain ⟨q0, q1, q2, q3⟩ := W_highs hmB.out (by omega)
        rw [X0.out] at q0
        rw [X1.out] at q1
        rw [X2.out] at q2
        rw [X3.out] at q3
        clear X0 X1 X2 X3
        subst q1 q2 q3
        obtain rfl : x0 = m := q0
        have i0 : ¬ (8388607 : Int) < (x0 : Int) := by omega
        by_cases hmid : 32768 ≤ x0
        · have i4 : (32768 : Int) ≤ (x0 : Int) := by omega
          go_wp2
          go_roundw
          case rel => exact ⟨k + 1, by omega, by rw [HL2.out, hs.out, if_neg hbig, if_pos hmid]; go_num, by go_num, EF⟩
          case measure => simp [intOf]; omega
        · have i4 : ¬ (32768 : Int) ≤ (x0 : Int) := by omega
          go_wp2
          go_roundw
          case rel => exact ⟨k + 1, by omega, by rw [HL2.out, hs.out, if_neg hbig, if_neg hmid], by go_num, EF⟩
          case measure => simp [intOf]; omega
    · have h3 : ¬ 3 + (k : Int) ≤ 32 := by omega
      obtain rfl : k = 30 := by omega
      have hr := Lib.hid (rO_cN t)
      go_wp2
      go_ret
      exact ⟨by rw [← hr.out]; rfl, hE.out.bel⟩
end Go.Proofs.Ytdbkbaanppnabaa
