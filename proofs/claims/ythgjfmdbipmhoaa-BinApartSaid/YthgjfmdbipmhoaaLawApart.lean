/- The walk of the law BinApart. -/
import Derived.Test.YthgjfmdbipmhoaaBB
import Derived.Test.YthgjfmdbipmhoaaBy3
namespace Go.Proofs.Ythgjfmdbipmhoaa
open Go.RowKit

theorem wrap_pow (k : Nat) (h1 : 1 ≤ k) (h7 : k ≤ 7) : IntKind.u64.wrap (2 ^ (8 * k)) = ((256 ^ k : Nat) : Int) ∧ 256 ^ k ≤ 72057594037927936 := by
  have hp : 2 ^ (8 * k) = 256 ^ k := by rw [Nat.pow_mul]
  have hb : 256 ^ k ≤ 256 ^ 7 := Nat.pow_le_pow_right (by omega) h7
  refine ⟨?_, hb⟩
  rw [← hp, IntKind.wrap_u64]
  have h2 : ((2 : Int) ^ (8 * k)) = ((2 ^ (8 * k) : Nat) : Int) := by simp
  rw [h2, hp]
  have hb2 : 256 ^ k ≤ 72057594037927936 := hb
  clear h2 hp hb
  generalize 256 ^ k = z at *
  omega
set_option maxHeartbeats 8000000 in
theorem law_apart (N M : Nat) (s : Int) (A B : Option Addr) (n c m d : Nat) (xss yss : List (List Int)) (w : World) (hN : N < 18446744073709551616) (hM : M < 18446744073709551616) (hl : xss.length = n) (hn : n ≤ maxLen) (hx : Parts w w.heap.size A xss) (hall : ∀ x ∈ xss, x.length ≤ maxLen)
    (hl2 : yss.length = m) (hm : m ≤ maxLen) (hy : Parts w w.heap.size B yss) (hall2 : ∀ x ∈ yss, x.length ≤ maxLen) :
    Calls Try.prog 6 #[.int .u64 N, .int .u64 M, .int .i64 s, .slice A n c, .slice B m d] w fun e w' => e = .returned (.bool true) ∧ Below w.heap.size w w' := by
  have HN := Lib.hid hn
  have HM := Lib.hid hm
  have HX := Lib.hid hx
  have HY := Lib.hid hy
  have HXB := Lib.hid hx.byte
  have HYB := Lib.hid hy.byte
  have HL := Lib.hid hl
  have HL2 := Lib.hid hl2
  have HALL := Lib.hid hall
  have HALL2 := Lib.hid hall2
  unfold maxLen at hn hm
  clear hx hy hl hl2 hall hall2
  go_enter Try.func6, Try.ntmps6
  go_wp2_with fail
  refine (awake_any w).mono ?_
  rintro e w1 ⟨rfl, hb1⟩
  have HX1 := Lib.hid (HX.out.up hb1)
  have HY1 := Lib.hid (HY.out.up hb1)
  have HS := Lib.hid (small_any A n c xss w1 HL.out HN.out HX1.out HALL.out)
  have HS' := Lib.hid (small_any B m d yss w1 HL2.out HM.out HY1.out HALL2.out)
  clear HX HY
  go_wp2_with fail
  refine HS.out.mono ?_
  rintro e w2 ⟨rfl, rfl⟩
  go_wp2_with fail
  refine HS'.out.mono ?_
  rintro e w2 ⟨rfl, rfl⟩
  clear HS HS'
  cases hsm : smallB xss with
  | false =>
    generalize smallB yss = bb at *
    go_wp2
    go_ret
    exact ⟨rfl, hb1⟩
  | true =>
  cases hsm2 : smallB yss with
  | false =>
    go_wp2
    go_ret
    exact ⟨rfl, hb1⟩
  | true =>
    have hq : xss.length ≤ 300 ∧ ∀ x ∈ xss, x.length ≤ 400 := by simpa [smallB] using hsm
    have hq2 : yss.length ≤ 300 ∧ ∀ x ∈ yss, x.length ≤ 400 := by simpa [smallB] using hsm2
    have HQ : Hid ((∀ x ∈ xss, x.length ≤ 65535) ∧ (∀ x ∈ yss, x.length ≤ 65535)) := ⟨fun x hx => by have := hq.2 x hx; omega, fun x hx => by have := hq2.2 x hx; omega⟩
    have hn3 : n ≤ 300 := by have := HL.out; omega
    have hm3 : m ≤ 300 := by have := HL2.out; omega
    clear hq hq2 hsm hsm2
    have HR := Lib.hid (rowsU A n c xss w1 HL.out HN.out HX1.out HQ.out.1)
    go_wp2_with fail
    refine HR.out.mono ?_
    rintro e w3 ⟨⟨A3, c3, rfl, hv3⟩, hb3⟩
    have HV3 := Lib.hid hv3.up
    have HY3 := Lib.hid (HY1.out.up hb3)
    have HB3 := Lib.hid (hb1.trans (hb3.mono hb1.size))
    have HX3 := Lib.hid (HX1.out.up hb3)
    have HR4 := Lib.hid (rowsU B m d yss w3 HL2.out HM.out HY3.out HQ.out.2)
    clear hv3 hb3 HR HX1 HY1
    go_wp2_with fail
    refine HR4.out.mono ?_
    rintro e w4 ⟨⟨A4, c4, rfl, hv4⟩, hb4⟩
    have HV4 := Lib.hid hv4.up
    have HP4 := Lib.hid (HV3.out.up hb4)
    have HB4 := Lib.hid (HB3.out.trans (hb4.mono HB3.out.size))
    have HX4 := Lib.hid (HX3.out.up hb4)
    have HY4 := Lib.hid (HY3.out.up hb4)
    clear hv4 hb4 HR4 HX3 HY3 HV3 HB3
    obtain ⟨p0, hp0⟩ : ∃ p, (rowsD xss).length = p := ⟨_, rfl⟩
    obtain ⟨q0, hq0⟩ : ∃ p, (rowsD yss).length = p := ⟨_, rfl⟩
    rw [hp0, hq0]
    have HP0 := Lib.hid hp0
    have HQ0 := Lib.hid hq0
    clear hp0 hq0
    have hlen : ((n : Int) == (m : Int)) = decide (n = m) := by
      by_cases h : n = m
      · subst h; simp
      · have : ¬ (n : Int) = (m : Int) := by omega
        simp [h, this]
    go_wp2_with fail
    go_loopw [18, 19] (fun v i u => ∃ (j : Nat) (sm : Bool), j ≤ n ∧ i = .int .i64 j ∧ v = .bool sm ∧ Below w4.heap.size w4 u ∧ Hid ((sm = true ∧ n = m ∧ xss.take j = yss.take j) ∨ (sm = false ∧ ¬ xss = yss))) (fun _ i _ => n - (intOf i).toNat)
    case atStart =>
      refine ⟨0, decide (n = m), Nat.zero_le _, rfl, by first | rfl | rw [hlen], Below.refl _ _, ?_⟩
      by_cases h : n = m
      · exact .inl ⟨by simp [h], h, rfl⟩
      · refine .inr ⟨by simp [h], fun e => h ?_⟩
        have h1 := HL.out
        have h2 := HL2.out
        rw [e] at h1
        omega
    case round =>
      obtain ⟨j, sm, hj, rfl, rfl, hbl, hrel⟩ := hrel
      by_cases hgo : j < n ∧ sm = true
      · obtain ⟨hlt, rfl⟩ := hgo
        have hrel2 : n = m ∧ xss.take j = yss.take j := by
          rcases hrel.out with ⟨_, h1, h2⟩ | ⟨h1, _⟩
          · exact ⟨h1, h2⟩
          · cases h1
        obtain ⟨hnm, htk⟩ := hrel2
        have hg := List.getElem?_eq_getElem (by rw [HL.out]; exact hlt : j < xss.length)
        have hg' := List.getElem?_eq_getElem (by rw [HL2.out, ← hnm]; exact hlt : j < yss.length)
        obtain ⟨b, o, a, c1, rfl, hb, hc, hy, hr⟩ := HX4.out j _ hg
        obtain ⟨b', o', a', c1', rfl, hb', hc', hy', hr'⟩ := HY4.out j _ hg'
        have hj2 : (j : Int) < (n : Int) := by omega
        have hj3 : (j : Int) < (m : Int) := by omega
        have HG := Lib.hid hg
        have HG' := Lib.hid hg'
        generalize xss[j]'(by rw [HL.out]; exact hlt) = xs at *
        generalize yss[j]'(by rw [HL2.out, ← hnm]; exact hlt) = ys at *
        have e0 := (hbl.cell (p := ⟨b, o + j, none⟩) hb).trans hc
        have e1 := (hbl.cell (p := ⟨b', o' + j, none⟩) hb').trans hc'
        have cv0 : ∀ k, (convert 23 9 (.slice a xs.length c1)).run Try.prog (wr.drewN k) = .ok (.string (strOfNums xs)) (wr.drewN k) := fun k => conv_bytes a xs.length c1 _ xs _ rfl ((hy.below hbl).below (below_drewN (Below.refl _ _) k))
        have cv1 : ∀ k, (convert 23 9 (.slice a' ys.length c1')).run Try.prog (wr.drewN k) = .ok (.string (strOfNums ys)) (wr.drewN k) := fun k => conv_bytes a' ys.length c1' _ ys _ rfl ((hy'.below hbl).below (below_drewN (Below.refl _ _) k))
        have hbq := strOf_beq hr hr'
        have HT := Lib.hid htk
        have hn4 : Hid ((decide (xs = ys) = true ∧ n = m ∧ xss.take (j + 1) = yss.take (j + 1)) ∨ (decide (xs = ys) = false ∧ ¬ xss = yss)) := by
          show _ ∨ _
          by_cases h : xs = ys
          · refine .inl ⟨by simp [h], hnm, ?_⟩
            rw [List.take_add_one, List.take_add_one, HG.out, HG'.out, HT.out, h]
          · refine .inr ⟨by simp [h], ?_⟩
            rintro rfl
            have := HG.out.symm.trans HG'.out
            exact h (Option.some.inj this)
        clear hg hg' hy hy' hr hr' hc hc' hrel htk HT HG HG' hnm
        generalize decide (xs = ys) = dd at *
        generalize strOfNums xs = s1 at *
        generalize strOfNums ys = s2 at *
        go_wp2_with fail
        go_quiet (fail)
        go_wp2
        go_roundw
        case rel => exact ⟨j + 1, dd, by omega, by go_num, by first | rfl | (rw [hbq]), below_drewN hbl _, hn4⟩
        case measure => simp [intOf]; omega
      · have hdec : (decide ((j : Int) < (n : Int)) && sm) = false := by
          cases sm with
          | false => simp
          | true =>
            have : ¬ (j : Int) < (n : Int) := fun h => hgo ⟨by omega, rfl⟩
            simp [this]
        have hsm : Hid (sm = decide (xss = yss)) := by
          show _ = _
          rcases hrel.out with ⟨rfl, h1, h2⟩ | ⟨rfl, h1⟩
          · have hjn : ¬ j < n := fun h => hgo ⟨h, rfl⟩
            rw [List.take_of_length_le (by rw [HL.out]; omega), List.take_of_length_le (by rw [HL2.out]; omega)] at h2
            simp [h2]
          · simp [h1]
        have HP5 := Lib.hid ((HP4.out.below hbl).more hbl.size)
        have HV5 := Lib.hid ((HV4.out.below hbl).more hbl.size)
        have HB5 := Lib.hid (HB4.out.trans (hbl.mono HB4.out.size))
        clear hrel hbl HP4 HV4 HB4 HX4 HY4 hlen
        have hcv0 := conv_bytes A3 p0 c3 _ (rowsD xss) wr HP0.out HP5.out
        have hcv1 := conv_bytes A4 q0 c4 _ (rowsD yss) wr HQ0.out HV5.out
        have hbytes : Hid (n ≤ 255 → m ≤ 255 → ((strOfNums (rowsD xss)).toList == (strOfNums (rowsD yss)).toList) = sm) := by
          intro h1 h2
          have e1 : rowsD xss = rowsL xss := by unfold rowsD; rw [if_pos (by rw [HL.out]; exact h1)]
          have e2 : rowsD yss = rowsL yss := by unfold rowsD; rw [if_pos (by rw [HL2.out]; exact h2)]
          rw [e1, e2, strOf_beq (rowsL_byte (fun x hx => HXB.out x hx)) (rowsL_byte (fun x hx => HYB.out x hx)), hsm.out]
          by_cases h : xss = yss
          · simp [h]
          · have : ¬ rowsL xss = rowsL yss := fun e => h (rowsL_inj (by rw [HL.out]; exact h1) (by rw [HL2.out]; exact h2) HQ.out.1 HQ.out.2 e)
            simp [h, this]
        generalize strOfNums (rowsD xss) = t0 at *
        generalize strOfNums (rowsD yss) = t1 at *
        clear hsm hgo
        have hcomb : (decide (n ≤ 255) = true ∧ decide (m ≤ 255) = true ∧ (t0.toList == t1.toList) = sm) ∨ decide (n ≤ 255) = false ∨ (decide (n ≤ 255) = true ∧ decide (m ≤ 255) = false) := by
          by_cases q1 : n ≤ 255
          · by_cases q2 : m ≤ 255
            · exact .inl ⟨by simpa using q1, by simpa using q2, hbytes.out q1 q2⟩
            · exact .inr (.inr ⟨by simpa using q1, by simpa using q2⟩)
          · exact .inr (.inl (by simpa using q1))
        clear hbytes
        have hcase : s < 1 ∨ (1 ≤ s ∧ 7 < s) ∨ ∃ k : Nat, s = (k : Int) ∧ 1 ≤ k ∧ k ≤ 7 := by
          rcases Int.lt_or_le s 1 with h | h
          · exact .inl h
          · rcases Int.lt_or_le 7 s with h2 | h2
            · exact .inr (.inl ⟨h, h2⟩)
            · obtain ⟨k, rfl⟩ := Int.eq_ofNat_of_zero_le (by omega : 0 ≤ s)
              exact .inr (.inr ⟨k, rfl, by omega, by omega⟩)
        have hexit : ¬ (j : Int) < (n : Int) ∨ ((j : Int) < (n : Int) ∧ sm = false) := by
          by_cases h : (j : Int) < (n : Int)
          · cases sm with
            | false => exact .inr ⟨h, rfl⟩
            | true => simp [h] at hdec
          · exact .inl h
        clear hdec
        rcases hcomb with ⟨e1, e2, e3⟩ | e1 | ⟨e1, e2⟩
        · rw [e1, e2]
          clear e1 e2
          rcases hcase with z1 | ⟨z1, z2⟩ | ⟨k, rfl, k1, k7⟩
          · rcases hexit with hx1 | ⟨hx1, rfl⟩
            all_goals
              go_wp2
              go_ret
              exact ⟨rfl, HB5.out⟩
          · rcases hexit with hx1 | ⟨hx1, rfl⟩
            all_goals
              go_wp2
              go_ret
              exact ⟨rfl, HB5.out⟩
          obtain ⟨hw, hz⟩ := wrap_pow k k1 k7
          have hpc : N < 256 ^ k → M < 256 ^ k → decide (putL N k = putL M k) = ((N : Int) == (M : Int)) := fun h1 h2 => by
            by_cases h : N = M
            · simp [h]
            · have h3 : ¬ putL N k = putL M k := fun e => h (putL_inj h1 h2 e)
              have h4 : ¬ (N : Int) = (M : Int) := by omega
              simp [h3, h4]
          have HPC := Lib.hid hpc
          clear hpc
          generalize 256 ^ k = Z at *
          have k1' : (1 : Int) ≤ (k : Int) := by omega
          have k7' : (k : Int) ≤ 7 := by omega
          by_cases z3 : (Z : Int) ≤ (N : Int)
          · rcases hexit with hx1 | ⟨hx1, rfl⟩
            all_goals
              go_wp2
              go_ret
              exact ⟨rfl, HB5.out⟩
          by_cases z4 : (Z : Int) ≤ (M : Int)
          · rcases hexit with hx1 | ⟨hx1, rfl⟩
            all_goals
              go_wp2
              go_ret
              exact ⟨rfl, HB5.out⟩
          obtain ⟨s0, hs0⟩ : ∃ s0, strOfNums (putL N k) = s0 := ⟨_, rfl⟩
          obtain ⟨s1, hs1⟩ : ∃ s1, strOfNums (putL M k) = s1 := ⟨_, rfl⟩
          have hee : (s0.toList == s1.toList) = ((N : Int) == (M : Int)) := by
            rw [← hs0, ← hs1, strOf_beq (putL_byte _ _) (putL_byte _ _)]
            exact HPC.out (by omega) (by omega)
          have HS0 := Lib.hid hs0
          have HS1 := Lib.hid hs1
          have E0 : Hid (EnvX w wr []) := ⟨HB5.out, fun _ _ h => by cases h⟩
          clear hs0 hs1 HPC
          rcases hexit with hx1 | ⟨hx1, rfl⟩
          all_goals
            go_wp2_with fail
            refine wp_region_H (w0 := w) [] (by kernel_rfl) E0.out ?_
            refine anyH_phase [0, 1, 4, 5, 9, 10, 11] 7 rfl ⟨_, (EnvX.drew E0.out)⟩ (by kernel_rfl) ?_
            have hw1 : EnvX w _ [] := (EnvX.drew E0.out)
            have hone := @EnvC.one _ _ _ hw1
            (refine wpG_op rfl rfl rfl ?_; intro K hK; go_big_quiet_op; go_big_quiet_on)
            (refine wpG_op rfl rfl rfl ?_; intro K hK; go_big_quiet_op; go_big_quiet_on)
            (refine wpG_op rfl rfl rfl ?_; intro K hK; go_big_quiet_op; go_big_quiet_on)
            (refine wpG_op rfl rfl rfl ?_; intro K hK; go_big_quiet_op; go_big_quiet_on)
            (refine wpG_op rfl rfl rfl ?_; intro K hK; go_big_quiet_op; go_big_quiet_on)
            (refine wpG_op rfl rfl rfl ?_; intro K hK; go_big_quiet_op; go_big_quiet_on)
            (refine wpG_op rfl rfl rfl ?_; intro K hK; go_big_quiet_op; go_big_quiet_on)
            clear hone hw1
            refine wpG_nil ?_
            refine anyH_one (i := 2) (by kernel_rfl) (hOp_fresh (R := FreshB (putL N k)) (M0 := []) rfl rfl (fun _ h => h) (fun u hu => FAt_call (fid := 9) (xs := #[.tmp 106, .tmp 107]) (args := #[.int .u64 N, .int .i64 k]) rfl Try.func9 rfl rfl u (calls_fresh (by rw [putL_len]; omega) (put_any N k u hN (by omega)))) ?_)
            rintro x N ⟨g, cap, cur, rfl, rfl, hcur⟩ hf he2; intro K' hK'; go_big_quiet_op; go_big_quiet_on
            clear hf
            change anyH _ _ _ _ _ _ _ _ [(g, Obj.cells cur 5 (0, 0))]
            refine anyH_phase [3] 5 rfl ⟨_, he2.choose_spec⟩ (by kernel_rfl) ?_
            have hw3 : EnvX w _ [(g, Obj.cells cur 5 (0, 0))] := he2.choose_spec
            have hone := @EnvC.one _ _ _ hw3
            (refine wpG_val (v := .string s0) rfl rfl (fun u hu => conv_op u rfl (box_bytes hu (List.Mem.head _) hcur) HS0.out rfl) ?_ hw3; intro K hK; go_big_quiet_op; go_big_quiet_on)
            clear hone hw3
            refine wpG_nil ?_
            refine anyH_one (i := 6) (by kernel_rfl) (hOp_fresh (R := FreshB (putL M k)) (M0 := [(g, Obj.cells cur 5 (0, 0))]) rfl rfl (fun _ h => h) (fun u hu => FAt_call (fid := 9) (xs := #[.tmp 110, .tmp 111]) (args := #[.int .u64 M, .int .i64 k]) rfl Try.func9 rfl rfl u (calls_fresh (by rw [putL_len]; omega) (put_any M k u hM (by omega)))) ?_)
            rintro x N ⟨g2, cap2, cur2, rfl, rfl, hcur2⟩ hf he4; intro K' hK'; go_big_quiet_op; go_big_quiet_on
            clear hf
            change anyH _ _ _ _ _ _ _ _ [(g2, Obj.cells cur2 5 (0, 0)), (g, Obj.cells cur 5 (0, 0))]
            refine anyH_phase [7, 8, 12, 13] 0 rfl ⟨_, he4.choose_spec⟩ (by kernel_rfl) ?_
            have hw5 : EnvX w _ [(g2, Obj.cells cur2 5 (0, 0)), (g, Obj.cells cur 5 (0, 0))] := he4.choose_spec
            have hone := @EnvC.one _ _ _ hw5
            (refine wpG_val (v := .string s1) rfl rfl (fun u hu => conv_op u rfl (box_bytes hu (List.Mem.head _) hcur2) HS1.out rfl) ?_ hw5; intro K hK; go_big_quiet_op; go_big_quiet_on)
            (refine wpG_val (v := .bool ((N : Int) == (M : Int))) rfl rfl (fun u hu => eqs_op u hee rfl rfl) ?_ hw5; intro K hK; go_big_quiet_op; go_big_quiet_on)
            (refine wpG_op rfl rfl rfl ?_; intro K hK; go_big_quiet_op; go_big_quiet_on)
            (refine wpG_op rfl rfl rfl ?_; intro K hK; go_big_quiet_op; go_big_quiet_on)
            clear hone hw5
            refine wpG_nil ?_
            refine anyH_done (by kernel_rfl) ?_
            intro u7 E2'
            have EX6 := Lib.hid E2'
            clear E2'
            go_wp2_with fail
            go_ret
            exact ⟨by simp, EX6.out.bel⟩
        · rw [e1]
          clear e1
          generalize decide (m ≤ 255) = b2 at *
          rcases hcase with z1 | ⟨z1, z2⟩ | ⟨k, rfl, k1, k7⟩
          · rcases hexit with hx1 | ⟨hx1, rfl⟩
            all_goals
              go_wp2
              go_ret
              exact ⟨rfl, HB5.out⟩
          · rcases hexit with hx1 | ⟨hx1, rfl⟩
            all_goals
              go_wp2
              go_ret
              exact ⟨rfl, HB5.out⟩
          obtain ⟨hw, hz⟩ := wrap_pow k k1 k7
          have hpc : N < 256 ^ k → M < 256 ^ k → decide (putL N k = putL M k) = ((N : Int) == (M : Int)) := fun h1 h2 => by
            by_cases h : N = M
            · simp [h]
            · have h3 : ¬ putL N k = putL M k := fun e => h (putL_inj h1 h2 e)
              have h4 : ¬ (N : Int) = (M : Int) := by omega
              simp [h3, h4]
          have HPC := Lib.hid hpc
          clear hpc
          generalize 256 ^ k = Z at *
          have k1' : (1 : Int) ≤ (k : Int) := by omega
          have k7' : (k : Int) ≤ 7 := by omega
          by_cases z3 : (Z : Int) ≤ (N : Int)
          · rcases hexit with hx1 | ⟨hx1, rfl⟩
            all_goals
              go_wp2
              go_ret
              exact ⟨rfl, HB5.out⟩
          by_cases z4 : (Z : Int) ≤ (M : Int)
          · rcases hexit with hx1 | ⟨hx1, rfl⟩
            all_goals
              go_wp2
              go_ret
              exact ⟨rfl, HB5.out⟩
          obtain ⟨s0, hs0⟩ : ∃ s0, strOfNums (putL N k) = s0 := ⟨_, rfl⟩
          obtain ⟨s1, hs1⟩ : ∃ s1, strOfNums (putL M k) = s1 := ⟨_, rfl⟩
          have hee : (s0.toList == s1.toList) = ((N : Int) == (M : Int)) := by
            rw [← hs0, ← hs1, strOf_beq (putL_byte _ _) (putL_byte _ _)]
            exact HPC.out (by omega) (by omega)
          have HS0 := Lib.hid hs0
          have HS1 := Lib.hid hs1
          have E0 : Hid (EnvX w wr []) := ⟨HB5.out, fun _ _ h => by cases h⟩
          clear hs0 hs1 HPC
          rcases hexit with hx1 | ⟨hx1, rfl⟩
          all_goals
            go_wp2_with fail
            refine wp_region_H (w0 := w) [] (by kernel_rfl) E0.out ?_
            refine anyH_phase [0, 1, 4, 5, 9, 10, 11] 7 rfl ⟨_, (EnvX.drew E0.out)⟩ (by kernel_rfl) ?_
            have hw1 : EnvX w _ [] := (EnvX.drew E0.out)
            have hone := @EnvC.one _ _ _ hw1
            (refine wpG_op rfl rfl rfl ?_; intro K hK; go_big_quiet_op; go_big_quiet_on)
            (refine wpG_op rfl rfl rfl ?_; intro K hK; go_big_quiet_op; go_big_quiet_on)
            (refine wpG_op rfl rfl rfl ?_; intro K hK; go_big_quiet_op; go_big_quiet_on)
            (refine wpG_op rfl rfl rfl ?_; intro K hK; go_big_quiet_op; go_big_quiet_on)
            (refine wpG_op rfl rfl rfl ?_; intro K hK; go_big_quiet_op; go_big_quiet_on)
            (refine wpG_op rfl rfl rfl ?_; intro K hK; go_big_quiet_op; go_big_quiet_on)
            (refine wpG_op rfl rfl rfl ?_; intro K hK; go_big_quiet_op; go_big_quiet_on)
            clear hone hw1
            refine wpG_nil ?_
            refine anyH_one (i := 2) (by kernel_rfl) (hOp_fresh (R := FreshB (putL N k)) (M0 := []) rfl rfl (fun _ h => h) (fun u hu => FAt_call (fid := 9) (xs := #[.tmp 106, .tmp 107]) (args := #[.int .u64 N, .int .i64 k]) rfl Try.func9 rfl rfl u (calls_fresh (by rw [putL_len]; omega) (put_any N k u hN (by omega)))) ?_)
            rintro x N ⟨g, cap, cur, rfl, rfl, hcur⟩ hf he2; intro K' hK'; go_big_quiet_op; go_big_quiet_on
            clear hf
            change anyH _ _ _ _ _ _ _ _ [(g, Obj.cells cur 5 (0, 0))]
            refine anyH_phase [3] 5 rfl ⟨_, he2.choose_spec⟩ (by kernel_rfl) ?_
            have hw3 : EnvX w _ [(g, Obj.cells cur 5 (0, 0))] := he2.choose_spec
            have hone := @EnvC.one _ _ _ hw3
            (refine wpG_val (v := .string s0) rfl rfl (fun u hu => conv_op u rfl (box_bytes hu (List.Mem.head _) hcur) HS0.out rfl) ?_ hw3; intro K hK; go_big_quiet_op; go_big_quiet_on)
            clear hone hw3
            refine wpG_nil ?_
            refine anyH_one (i := 6) (by kernel_rfl) (hOp_fresh (R := FreshB (putL M k)) (M0 := [(g, Obj.cells cur 5 (0, 0))]) rfl rfl (fun _ h => h) (fun u hu => FAt_call (fid := 9) (xs := #[.tmp 110, .tmp 111]) (args := #[.int .u64 M, .int .i64 k]) rfl Try.func9 rfl rfl u (calls_fresh (by rw [putL_len]; omega) (put_any M k u hM (by omega)))) ?_)
            rintro x N ⟨g2, cap2, cur2, rfl, rfl, hcur2⟩ hf he4; intro K' hK'; go_big_quiet_op; go_big_quiet_on
            clear hf
            change anyH _ _ _ _ _ _ _ _ [(g2, Obj.cells cur2 5 (0, 0)), (g, Obj.cells cur 5 (0, 0))]
            refine anyH_phase [7, 8, 12, 13] 0 rfl ⟨_, he4.choose_spec⟩ (by kernel_rfl) ?_
            have hw5 : EnvX w _ [(g2, Obj.cells cur2 5 (0, 0)), (g, Obj.cells cur 5 (0, 0))] := he4.choose_spec
            have hone := @EnvC.one _ _ _ hw5
            (refine wpG_val (v := .string s1) rfl rfl (fun u hu => conv_op u rfl (box_bytes hu (List.Mem.head _) hcur2) HS1.out rfl) ?_ hw5; intro K hK; go_big_quiet_op; go_big_quiet_on)
            (refine wpG_val (v := .bool ((N : Int) == (M : Int))) rfl rfl (fun u hu => eqs_op u hee rfl rfl) ?_ hw5; intro K hK; go_big_quiet_op; go_big_quiet_on)
            (refine wpG_op rfl rfl rfl ?_; intro K hK; go_big_quiet_op; go_big_quiet_on)
            (refine wpG_op rfl rfl rfl ?_; intro K hK; go_big_quiet_op; go_big_quiet_on)
            clear hone hw5
            refine wpG_nil ?_
            refine anyH_done (by kernel_rfl) ?_
            intro u7 E2'
            have EX6 := Lib.hid E2'
            clear E2'
            go_wp2_with fail
            go_ret
            exact ⟨by simp, EX6.out.bel⟩
        · rw [e1, e2]
          clear e1 e2
          rcases hcase with z1 | ⟨z1, z2⟩ | ⟨k, rfl, k1, k7⟩
          · rcases hexit with hx1 | ⟨hx1, rfl⟩
            all_goals
              go_wp2
              go_ret
              exact ⟨rfl, HB5.out⟩
          · rcases hexit with hx1 | ⟨hx1, rfl⟩
            all_goals
              go_wp2
              go_ret
              exact ⟨rfl, HB5.out⟩
          obtain ⟨hw, hz⟩ := wrap_pow k k1 k7
          have hpc : N < 256 ^ k → M < 256 ^ k → decide (putL N k = putL M k) = ((N : Int) == (M : Int)) := fun h1 h2 => by
            by_cases h : N = M
            · simp [h]
            · have h3 : ¬ putL N k = putL M k := fun e => h (putL_inj h1 h2 e)
              have h4 : ¬ (N : Int) = (M : Int) := by omega
              simp [h3, h4]
          have HPC := Lib.hid hpc
          clear hpc
          generalize 256 ^ k = Z at *
          have k1' : (1 : Int) ≤ (k : Int) := by omega
          have k7' : (k : Int) ≤ 7 := by omega
          by_cases z3 : (Z : Int) ≤ (N : Int)
          · rcases hexit with hx1 | ⟨hx1, rfl⟩
            all_goals
              go_wp2
              go_ret
              exact ⟨rfl, HB5.out⟩
          by_cases z4 : (Z : Int) ≤ (M : Int)
          · rcases hexit with hx1 | ⟨hx1, rfl⟩
            all_goals
              go_wp2
              go_ret
              exact ⟨rfl, HB5.out⟩
          obtain ⟨s0, hs0⟩ : ∃ s0, strOfNums (putL N k) = s0 := ⟨_, rfl⟩
          obtain ⟨s1, hs1⟩ : ∃ s1, strOfNums (putL M k) = s1 := ⟨_, rfl⟩
          have hee : (s0.toList == s1.toList) = ((N : Int) == (M : Int)) := by
            rw [← hs0, ← hs1, strOf_beq (putL_byte _ _) (putL_byte _ _)]
            exact HPC.out (by omega) (by omega)
          have HS0 := Lib.hid hs0
          have HS1 := Lib.hid hs1
          have E0 : Hid (EnvX w wr []) := ⟨HB5.out, fun _ _ h => by cases h⟩
          clear hs0 hs1 HPC
          rcases hexit with hx1 | ⟨hx1, rfl⟩
          all_goals
            go_wp2_with fail
            refine wp_region_H (w0 := w) [] (by kernel_rfl) E0.out ?_
            refine anyH_phase [0, 1, 4, 5, 9, 10, 11] 7 rfl ⟨_, (EnvX.drew E0.out)⟩ (by kernel_rfl) ?_
            have hw1 : EnvX w _ [] := (EnvX.drew E0.out)
            have hone := @EnvC.one _ _ _ hw1
            (refine wpG_op rfl rfl rfl ?_; intro K hK; go_big_quiet_op; go_big_quiet_on)
            (refine wpG_op rfl rfl rfl ?_; intro K hK; go_big_quiet_op; go_big_quiet_on)
            (refine wpG_op rfl rfl rfl ?_; intro K hK; go_big_quiet_op; go_big_quiet_on)
            (refine wpG_op rfl rfl rfl ?_; intro K hK; go_big_quiet_op; go_big_quiet_on)
            (refine wpG_op rfl rfl rfl ?_; intro K hK; go_big_quiet_op; go_big_quiet_on)
            (refine wpG_op rfl rfl rfl ?_; intro K hK; go_big_quiet_op; go_big_quiet_on)
            (refine wpG_op rfl rfl rfl ?_; intro K hK; go_big_quiet_op; go_big_quiet_on)
            clear hone hw1
            refine wpG_nil ?_
            refine anyH_one (i := 2) (by kernel_rfl) (hOp_fresh (R := FreshB (putL N k)) (M0 := []) rfl rfl (fun _ h => h) (fun u hu => FAt_call (fid := 9) (xs := #[.tmp 106, .tmp 107]) (args := #[.int .u64 N, .int .i64 k]) rfl Try.func9 rfl rfl u (calls_fresh (by rw [putL_len]; omega) (put_any N k u hN (by omega)))) ?_)
            rintro x N ⟨g, cap, cur, rfl, rfl, hcur⟩ hf he2; intro K' hK'; go_big_quiet_op; go_big_quiet_on
            clear hf
            change anyH _ _ _ _ _ _ _ _ [(g, Obj.cells cur 5 (0, 0))]
            refine anyH_phase [3] 5 rfl ⟨_, he2.choose_spec⟩ (by kernel_rfl) ?_
            have hw3 : EnvX w _ [(g, Obj.cells cur 5 (0, 0))] := he2.choose_spec
            have hone := @EnvC.one _ _ _ hw3
            (refine wpG_val (v := .string s0) rfl rfl (fun u hu => conv_op u rfl (box_bytes hu (List.Mem.head _) hcur) HS0.out rfl) ?_ hw3; intro K hK; go_big_quiet_op; go_big_quiet_on)
            clear hone hw3
            refine wpG_nil ?_
            refine anyH_one (i := 6) (by kernel_rfl) (hOp_fresh (R := FreshB (putL M k)) (M0 := [(g, Obj.cells cur 5 (0, 0))]) rfl rfl (fun _ h => h) (fun u hu => FAt_call (fid := 9) (xs := #[.tmp 110, .tmp 111]) (args := #[.int .u64 M, .int .i64 k]) rfl Try.func9 rfl rfl u (calls_fresh (by rw [putL_len]; omega) (put_any M k u hM (by omega)))) ?_)
            rintro x N ⟨g2, cap2, cur2, rfl, rfl, hcur2⟩ hf he4; intro K' hK'; go_big_quiet_op; go_big_quiet_on
            clear hf
            change anyH _ _ _ _ _ _ _ _ [(g2, Obj.cells cur2 5 (0, 0)), (g, Obj.cells cur 5 (0, 0))]
            refine anyH_phase [7, 8, 12, 13] 0 rfl ⟨_, he4.choose_spec⟩ (by kernel_rfl) ?_
            have hw5 : EnvX w _ [(g2, Obj.cells cur2 5 (0, 0)), (g, Obj.cells cur 5 (0, 0))] := he4.choose_spec
            have hone := @EnvC.one _ _ _ hw5
            (refine wpG_val (v := .string s1) rfl rfl (fun u hu => conv_op u rfl (box_bytes hu (List.Mem.head _) hcur2) HS1.out rfl) ?_ hw5; intro K hK; go_big_quiet_op; go_big_quiet_on)
            (refine wpG_val (v := .bool ((N : Int) == (M : Int))) rfl rfl (fun u hu => eqs_op u hee rfl rfl) ?_ hw5; intro K hK; go_big_quiet_op; go_big_quiet_on)
            (refine wpG_op rfl rfl rfl ?_; intro K hK; go_big_quiet_op; go_big_quiet_on)
            (refine wpG_op rfl rfl rfl ?_; intro K hK; go_big_quiet_op; go_big_quiet_on)
            clear hone hw5
            refine wpG_nil ?_
            refine anyH_done (by kernel_rfl) ?_
            intro u7 E2'
            have EX6 := Lib.hid E2'
            clear E2'
            go_wp2_with fail
            go_ret
            exact ⟨by simp, EX6.out.bel⟩
end Go.Proofs.Ythgjfmdbipmhoaa
