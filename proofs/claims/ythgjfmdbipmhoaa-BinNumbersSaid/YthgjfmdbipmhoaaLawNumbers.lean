/- The walk of the law BinNumbers. -/
import Derived.Test.YthgjfmdbipmhoaaBB
import Derived.Test.YthgjfmdbipmhoaaBy3
namespace Go.Proofs.Ythgjfmdbipmhoaa
open Go.RowKit

theorem getU (A : Option Addr) (n c : Nat) (i : Int) (s : Nat) (xs : List Int) (w : World) (hl : xs.length = n) (hc : n ≤ c) (hn : c ≤ maxLen) (hB : isB xs) (hx : Bytes w w.heap.size A xs) (hs : s ≤ 8) :
    Calls Try.prog 10 #[.slice A n c, .int .i64 i, .int .i64 s] w fun e w' => e = .returned (.tuple #[.int .u64 ((getV xs i s).getD 0 : Nat), .bool (getV xs i s).isSome]) ∧ w = w' := by
  cases h : getV xs i s with
  | none => exact get_none A n c i s xs w hl (by omega) h
  | some y =>
    have h' := h
    unfold getV at h
    split at h
    · rename_i hc'
      obtain ⟨_, _, h3, h4⟩ := hc'
      obtain ⟨j, rfl⟩ := Int.eq_ofNat_of_zero_le h3
      have hj : j + s ≤ n := by omega
      refine (get_some A n c j s xs w hl hc hn hB hx hs hj).mono ?_
      rintro e w' ⟨rfl, rfl⟩
      simp only [Int.toNat_natCast, Option.some.injEq] at h
      rw [h]
      exact ⟨rfl, rfl⟩
    · cases h
theorem getV_some {xs : List Int} {i : Int} {s y : Nat} (h : getV xs i s = some y) : ∃ j : Nat, i = (j : Int) ∧ j + s ≤ xs.length ∧ y = getL ((xs.drop j).take s) := by
  unfold getV at h
  split at h
  · rename_i hc
    obtain ⟨_, _, h3, h4⟩ := hc
    obtain ⟨j, rfl⟩ := Int.eq_ofNat_of_zero_le h3
    simp only [Int.toNat_natCast, Option.some.injEq] at h
    exact ⟨j, rfl, by omega, h.symm⟩
  · cases h
set_option maxHeartbeats 4000000 in
theorem law_numbers (N : Nat) (s i : Int) (A : Option Addr) (n c : Nat) (xs : List Int) (w : World) (hN : N < 18446744073709551616) (hl : xs.length = n) (hc : n ≤ c) (hn : c ≤ maxLen) (hX : isB xs) (hx : Bytes w w.heap.size A xs) (hi : -9223372036854775808 ≤ i ∧ i ≤ 9223372036854775807) :
    Calls Try.prog 3 #[.int .u64 N, .int .i64 s, .slice A n c, .int .i64 i] w fun e w' => e = .returned (.bool true) ∧ Below w.heap.size w w' := by
  have HN := Lib.hid hn
  have HX := Lib.hid hx
  have HXB := Lib.hid hX
  have HL := Lib.hid hl
  unfold maxLen at hn
  clear hx hX hl
  go_enter Try.func3, Try.ntmps3
  go_wp2_with fail
  refine (awake_any w).mono ?_
  rintro e w1 ⟨rfl, hb1⟩
  by_cases h1 : (700 : Int) < (n : Int)
  · go_wp2
    go_ret
    exact ⟨rfl, hb1⟩
  have h1' : (n : Int) ≤ 700 := by omega
  by_cases h2 : s < 1
  · go_wp2
    go_ret
    exact ⟨rfl, hb1⟩
  by_cases h3 : 8 < s
  · have h2' : (1 : Int) ≤ s := by omega
    go_wp2
    go_ret
    exact ⟨rfl, hb1⟩
  obtain ⟨k, rfl⟩ := Int.eq_ofNat_of_zero_le (by omega : 0 ≤ s)
  have k1 : 1 ≤ k := by omega
  have k8 : k ≤ 8 := by omega
  have k1' : (1 : Int) ≤ (k : Int) := by omega
  have k8' : (k : Int) ≤ 8 := by omega
  clear h1 h2 h3
  have HP := Lib.hid (put_any N k w1 hN k8)
  go_wp2_with fail
  refine HP.out.mono ?_
  rintro e w2 ⟨⟨v, rfl, hv⟩, hb2⟩
  obtain ⟨P, cp, rfl⟩ := hv.form
  rw [putL_len]
  rw [putL_len] at hv
  have B2 : Below w.heap.size w w2 := hb1.trans (hb2.mono hb1.size)
  obtain ⟨v3, w3, hrun3, own3, b3⟩ := (OwnB.nil w2 w2.heap.size).append (c := c) HL.out (HX.out.up B2) (by simp; omega) (Nat.le_refl _)
  rw [List.nil_append] at own3
  obtain ⟨A3, c3, rfl⟩ := own3.form
  rw [HL.out] at hrun3 own3
  obtain ⟨v4, w4, hrun4, own4, b4⟩ := own3.append (m := k) (c := cp) (putL_len _ _) (hv.up.up b3) (by rw [HL.out]; omega) b3.size
  obtain ⟨A4, c4, rfl⟩ := own4.form
  have hl4 : (xs ++ putL N k).length = n + k := by rw [List.length_append, putL_len, HL.out]
  rw [hl4] at hrun4 own4
  have B4 : Below w2.heap.size w2 w4 := b3.trans b4
  have hget := get_some A4 (n + k) c4 n k _ w4 hl4 own4.cap.1 own4.cap.2 (isB_append.2 ⟨HXB.out, putL_byte _ _⟩) own4.up k8 (Nat.le_refl _)
  have hgv : getL (((xs ++ putL N k).drop n).take k) = N % 256 ^ k := by
    rw [← HL.out, List.drop_left, List.take_of_length_le (by rw [putL_len]; exact Nat.le_refl _), getL_putL]
  rw [hgv] at hget
  have HG := Lib.hid hget
  have HR3 := Lib.hid hrun3
  have HR4 := Lib.hid hrun4
  have BB4 := Lib.hid (B2.trans (B4.mono B2.size))
  have HG2 := Lib.hid (getU A n c i k xs w4 HL.out hc HN.out HXB.out (HX.out.up BB4.out) k8)
  clear hrun3 hrun4 own3 own4 b3 b4 B4 B2 hv hb1 hb2 hl4 hget hgv HP
  obtain ⟨X, hXv⟩ : ∃ X, N % 256 ^ k = X := ⟨_, rfl⟩
  rw [hXv] at HG
  have HXV := Lib.hid hXv
  clear hXv
  go_wp2_with (first
    | (at_builtin; (with_reducible refine wpList_append_run (o := ⟨some 38, _, _, _, _, _⟩) ?_ (.const (.slice none 0 0)) (.tmp 37) ?_ ?_ ?_ ?_ HR3.out ?_); (rfl); (rfl); (rfl); (rfl); (rfl))
    | (at_builtin; (with_reducible refine wpList_append_run (o := ⟨some 40, _, _, _, _, _⟩) ?_ (.tmp 38) (.tmp 39) ?_ ?_ ?_ ?_ HR4.out ?_); (rfl); (rfl); (rfl); (rfl); (rfl)))
  refine HG.out.mono ?_
  rintro e w5 ⟨rfl, rfl⟩
  clear HR3 HR4 HG
  go_wp2_with fail
  refine HG2.out.mono ?_
  rintro e w5 ⟨rfl, rfl⟩
  clear HG2
  obtain ⟨o, ho⟩ : ∃ o, getV xs i k = o := ⟨_, rfl⟩
  rw [ho]
  have HO := Lib.hid ho
  clear ho
  have hf : ∃ b8 bl bx : Bool, ((k : Int) == 8) = b8 ∧ decide ((N : Int) < IntKind.u64.wrap (2 ^ (8 * k))) = bl ∧ ((X : Int) == (N : Int)) = bx ∧ ((b8 = true ∧ bx = true) ∨ (b8 = false ∧ bl = true ∧ bx = true) ∨ (b8 = false ∧ bl = false ∧ bx = false)) := by
    refine ⟨_, _, _, rfl, rfl, rfl, ?_⟩
    by_cases hk8 : k = 8
    · subst hk8
      refine .inl ⟨rfl, ?_⟩
      have : X = N := by have := HXV.out; omega
      simp [this]
    · have hp : 2 ^ (8 * k) = 256 ^ k := by rw [Nat.pow_mul]
      have hb : 256 ^ k ≤ 256 ^ 7 := Nat.pow_le_pow_right (by omega) (by omega)
      have hw : IntKind.u64.wrap (2 ^ (8 * k)) = ((256 ^ k : Nat) : Int) := by
        rw [← hp, IntKind.wrap_u64]
        have h2 : ((2 : Int) ^ (8 * k)) = ((2 ^ (8 * k) : Nat) : Int) := by simp
        rw [h2, hp]
        have hb2 : 256 ^ k ≤ 72057594037927936 := hb
        clear h2 hp hb
        generalize 256 ^ k = z at *
        omega
      have hk : ((k : Int) == 8) = false := by
        have : ¬ (k : Int) = 8 := by omega
        simp [this]
      rw [hk, hw]
      have hpos : 0 < 256 ^ k := Nat.pow_pos (by decide)
      by_cases hlt : N < 256 ^ k
      · refine .inr (.inl ⟨rfl, by simp only [decide_eq_true_eq]; omega, ?_⟩)
        have : X = N := by rw [← HXV.out]; exact Nat.mod_eq_of_lt hlt
        simp [this]
      · refine .inr (.inr ⟨rfl, by simp only [decide_eq_false_iff_not]; omega, ?_⟩)
        have hX := Nat.mod_lt N hpos
        rw [HXV.out] at hX
        have : ¬ (X : Int) = (N : Int) := by omega
        simp [this]
  obtain ⟨b8, bl, bx, f1, f2, f3, hf4⟩ := hf
  rcases hf4 with ⟨rfl, rfl⟩ | ⟨rfl, rfl, rfl⟩ | ⟨rfl, rfl, rfl⟩
  all_goals
    cases o with
    | none =>
      clear HO
      simp only [Option.isSome_none, Option.getD_none]
      go_wp2_with fail
      go_quiet (fail)
      go_wp2
      go_ret
      exact ⟨rfl, below_drewN BB4.out _⟩
    | some y =>
      obtain ⟨j, rfl, hj1, hj2⟩ := getV_some HO.out
      clear HO
      rw [HL.out] at hj1
      have hcut : Bytes w w.heap.size (cutA A j c) ((xs.drop j).take k) := HX.out.cut j k c (by omega)
      have hylen : ((xs.drop j).take k).length = k := by rw [List.length_take, List.length_drop, HL.out]; omega
      have hput : putL y k = (xs.drop j).take k := by
        have h := putL_getL ((xs.drop j).take k) (isB_take (isB_drop HXB.out _) _)
        rw [hylen, ← hj2] at h
        exact h
      have hylt : y < 18446744073709551616 := by
        have h := getL_lt ((xs.drop j).take k) (isB_take (isB_drop HXB.out _) _)
        rw [hylen, ← hj2] at h
        exact Nat.lt_of_lt_of_le h (Nat.pow_le_pow_right (n := 256) (by decide) k8)
      generalize (xs.drop j).take k = ys at *
      have HC := Lib.hid hcut
      have HYK : Hid (ys.length = j + k - j) := by show _ = _; omega
      have hjn : (j : Int) + (k : Int) ≤ (n : Int) := by omega
      have hj0 : (0 : Int) ≤ (j : Int) := by omega
      obtain ⟨s, hs⟩ : ∃ s, strOfNums ys = s := ⟨_, rfl⟩
      have HSS := Lib.hid hs
      have HSP : Hid (strOfNums (putL y k) = s) := by rw [hput]; exact hs
      have E0 : Hid (EnvX w w4 []) := ⟨BB4.out, fun _ _ h => by cases h⟩
      clear hj2 hcut hylen hput hs
      simp only [Option.isSome_some, Option.getD_some]
      go_wp2_with fail
      refine wp_region_H (w0 := w) [] (by kernel_rfl) E0.out ?_
      refine anyH_phase [0, 1, 2, 3, 4, 5, 6, 7, 8, 9, 10, 11, 12, 13, 14, 17, 18, 19, 20, 21, 22, 23] 6 rfl ⟨_, (EnvX.drew E0.out)⟩ (by kernel_rfl) ?_
      have hw1 : EnvX w _ [] := (EnvX.drew E0.out)
      have hone := @EnvC.one _ _ _ hw1
      (refine wpG_op rfl rfl rfl ?_; intro K hK; go_big_quiet_op; go_big_quiet_on)
      (refine wpG_op rfl rfl rfl ?_; intro K hK; go_big_quiet_op; go_big_quiet_on)
      (refine wpG_op rfl rfl rfl ?_; intro K hK; go_big_quiet_op; go_big_quiet_on)
      (refine wpG_skip rfl rfl ?_ hw1; intro K hK; go_big_quiet_op; go_big_quiet_on)
      (refine wpG_skip rfl rfl ?_ hw1; intro K hK; go_big_quiet_op; go_big_quiet_on)
      (refine wpG_op rfl rfl rfl ?_; intro K hK; go_big_quiet_op; go_big_quiet_on)
      (refine wpG_op rfl rfl rfl ?_; intro K hK; go_big_quiet_op; go_big_quiet_on)
      (refine wpG_op rfl rfl rfl ?_; intro K hK; go_big_quiet_op; go_big_quiet_on)
      (refine wpG_op rfl rfl rfl ?_; intro K hK; go_big_quiet_op; go_big_quiet_on)
      (refine wpG_op rfl rfl rfl ?_; intro K hK; go_big_quiet_op; go_big_quiet_on)
      (refine wpG_op rfl rfl rfl ?_; intro K hK; go_big_quiet_op; go_big_quiet_on)
      (refine wpG_op rfl rfl rfl ?_; intro K hK; go_big_quiet_op; go_big_quiet_on)
      (refine wpG_op rfl rfl rfl ?_; intro K hK; go_big_quiet_op; go_big_quiet_on)
      (refine wpG_op rfl rfl rfl ?_; intro K hK; go_big_quiet_op; go_big_quiet_on)
      (refine wpG_op rfl rfl rfl ?_; intro K hK; go_big_quiet_op; go_big_quiet_on)
      (refine wpG_op rfl rfl rfl ?_; intro K hK; go_big_quiet_op; go_big_quiet_on)
      (refine wpG_op rfl rfl rfl ?_; intro K hK; go_big_quiet_op; go_big_quiet_on)
      (refine wpG_op rfl rfl rfl ?_; intro K hK; go_big_quiet_op; go_big_quiet_on)
      (refine wpG_op rfl rfl rfl ?_; intro K hK; go_big_quiet_op; go_big_quiet_on)
      (refine wpG_op rfl rfl rfl ?_; intro K hK; go_big_quiet_op; go_big_quiet_on)
      (refine wpG_val (v := .slice (cutA A j c) (j + k - j) (c - j)) rfl rfl (fun u hu => cut2_op u (by omega) (by omega) rfl rfl rfl) ?_ hw1; intro K hK; go_big_quiet_op; go_big_quiet_on)
      (refine wpG_val (v := .string s) rfl rfl (fun u hu => conv_op u HYK.out (HC.out.below (EnvX.bel hu)) HSS.out rfl) ?_ hw1; intro K hK; go_big_quiet_op; go_big_quiet_on)
      clear hone hw1
      refine wpG_nil ?_
      refine anyH_one (i := 15) (by kernel_rfl) (hOp_freshG (R := FreshB (putL y k)) (M0 := []) rfl rfl rfl (fun _ h => h) (fun u hu => FAt_call (fid := 9) (xs := #[.tmp 92, .tmp 93]) (args := #[.int .u64 y, .int .i64 k]) rfl Try.func9 rfl rfl u (calls_fresh (by rw [putL_len]; omega) (put_any y k u hylt k8))) ?_)
      rintro x N ⟨g, cap, cur, rfl, rfl, hcur⟩ hf he2; intro K' hK'; go_big_quiet_op; go_big_quiet_on
      clear hf
      change anyH _ _ _ _ _ _ _ _ [(g, Obj.cells cur 5 (0, 0))]
      refine anyH_phase [16, 24, 25, 26, 27] 0 rfl ⟨_, he2.choose_spec⟩ (by kernel_rfl) ?_
      have hw3 : EnvX w _ [(g, Obj.cells cur 5 (0, 0))] := he2.choose_spec
      have hone := @EnvC.one _ _ _ hw3
      (refine wpG_val (v := .string s) rfl rfl (fun u hu => conv_op u rfl (box_bytes hu (List.Mem.head _) hcur) HSP.out rfl) ?_ hw3; intro K hK; go_big_quiet_op; go_big_quiet_on)
      (refine wpG_val (v := .bool true) rfl rfl (fun u hu => eqs_op u (beq_self_eq_true _) rfl rfl) ?_ hw3; intro K hK; go_big_quiet_op; go_big_quiet_on)
      (refine wpG_op rfl rfl rfl ?_; intro K hK; go_big_quiet_op; go_big_quiet_on)
      (refine wpG_op rfl rfl rfl ?_; intro K hK; go_big_quiet_op; go_big_quiet_on)
      (refine wpG_op rfl rfl rfl ?_; intro K hK; go_big_quiet_op; go_big_quiet_on)
      clear hone hw3
      refine wpG_nil ?_
      refine anyH_done (by kernel_rfl) ?_
      intro u5 E2'
      have EX4 := Lib.hid E2'
      clear E2'
      go_wp2_with fail
      go_ret
      exact ⟨rfl, EX4.out.bel⟩
end Go.Proofs.Ythgjfmdbipmhoaa
