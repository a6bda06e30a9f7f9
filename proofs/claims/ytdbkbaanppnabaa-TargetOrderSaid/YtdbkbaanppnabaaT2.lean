/- The walk of Compact, of the program. -/
import Derived.Test.YtdbkbaanppnabaaT1
import Derived.Test.YtdbkbaanppnabaaG2
import Derived.Test.YtdbkbaanppnabaaT0
import Derived.Scope
import Derived.ScopeJumps
import Derived.WalkMore
namespace Go.Proofs.Ytdbkbaanppnabaa
open Go.RowKit

theorem wp_scope_jumps2 {P : Program} {a : Act} {w : World} {Q : Exit → Act → World → Prop} {c rest : Code} (l : Nat) (J : Act → World → Prop) (μ : Act → World → Nat) (hf : findLabel c l = some (Code.skip.seq rest))
    (pass : ∀ a w, J a w → rest.wp P (Exit.jump l (fun a' w' => J a' w' ∧ μ a' w' < μ a w) Q) a w)
    (first : (∀ a w, J a w → rest.wp P (Exit.jump l J Q) a w) → c.wp P (Exit.jump l J Q) a w) : (Code.scope c).wp P Q a w :=
  wp_scope_jumps l J μ hf (first fun a w h => wp_mono (pass a w h) (fun e a w he => by cases e <;> first | exact he | exact ⟨he.1, he.2.1⟩)) (fun a w h => wp_seq (wp_skip (pass a w h)))
/-- at the label -/
def JC (t : Nat) (w : World) (a' : Act) (w' : World) : Prop := ∃ (k m g1 g4 : Nat) (u5 u6 u7 u8 u9 u10 u11 u12 u13 u14 u15 u16 u17 u18 u19 u20 u21 u22 u23 u24 u25 : Value), a' = { tmps := #[.agg (wcs t), .pointer (some ⟨g1, 0, none⟩), .int .u32 0, .int .i64 ((3 + k : Nat) : Int), .pointer (some ⟨g4, 0, none⟩), u5, u6, u7, u8, u9, u10, u11, u12, u13, u14, u15, u16, u17, u18, u19, u20, u21, u22, u23, u24, u25], defers := [] } ∧
  EnvX w w' [(g4, wo m)] ∧ k ≤ 29 ∧ cG (29 - k) (3 + k) m = cN t ∧ m < Big ∧ w.heap.size ≤ g4
theorem down_8 (m : Nat) (u : World) (hm : m < Big) :
    Calls Try.prog 23 #[.agg (wcs m), .int .i64 8] u fun e w' => e = .returned (.agg (wcs (m / 256))) ∧ Below u.heap.size u w' := by
  have h := down_v m 8 u hm (by omega)
  have e : downV m 8 = m / 256 := by unfold downV aDown; simp
  rw [e] at h
  exact h
theorem ret_num {k : IntKind} {a b : Int} (h : a = b) : Ending.returned (.int k a) = .returned (.int k b) := by rw [h]
theorem W_small {m : Nat} (h : m < 18446744073709551616) : W m 0 = m := by
  unfold W
  rw [Nat.mul_zero, Nat.pow_zero, Nat.div_one]
  exact Nat.mod_eq_of_lt h
theorem cmpI_lt {m n : Nat} (h : m < n) : cmpI m n = -1 := by unfold cmpI; rw [if_pos h]
theorem cmpI_eq (m : Nat) : cmpI m m = 0 := by unfold cmpI; simp
theorem cmpI_gt {m n : Nat} (h : n < m) : cmpI m n = 1 := by unfold cmpI; rw [if_neg (by omega), if_neg (by omega)]
theorem cmpI_sgn (m n : Nat) : (cmpI m n < 0 ↔ m < n) ∧ (cmpI m n ≤ 0 ↔ m ≤ n) ∧ (0 < cmpI m n ↔ n < m) ∧ (0 ≤ cmpI m n ↔ n ≤ m) := by
  rcases Nat.lt_trichotomy m n with h | h | h
  · rw [cmpI_lt h]; omega
  · subst h; rw [cmpI_eq]; omega
  · rw [cmpI_gt h]; omega

set_option maxRecDepth 100000 in
set_option maxHeartbeats 4000000 in
theorem compact_any (t : Nat) (w : World) (ht : t < Big) :
    Calls Try.prog 12 #[.agg (wcs t)] w fun e w' => e = .returned (.int .u32 ((cN t : Nat) : Int)) ∧ Below w.heap.size w w' := by
  have E1 := Lib.hid ((EnvX.start w).new (wo t))
  have hB : Hid (32768 < Big ∧ 8388607 < Big) := ⟨by unfold Big; omega, by unfold Big; omega⟩
  have hS := Lib.hid (cmpI_sgn t 32768)
  go_enter Try.func12, Try.ntmps12
  go_wp2_with fail
  refine wp_scope_jumps2 0 (JC t w) (fun a' _ => (32 - intOf (a'.tmps.getD 3 undef)).toNat) rfl ?_ ?_
  · clear E1 hS
    rintro a' w' ⟨k, m, g1, g4, u5, u6, u7, u8, u9, u10, u11, u12, u13, u14, u15, u16, u17, u18, u19, u20, u21, u22, u23, u24, u25, rfl, E0, hk, hG, hm, hg4⟩
    have E1 := Lib.hid E0
    have HG := Lib.hid hG
    have HM := Lib.hid hm
    have hS := Lib.hid (cmpI_sgn m 8388607)
    have hk0 : (0 : Int) ≤ ((3 + k : Nat) : Int) := by omega
    have hk1 : ((3 + k : Nat) : Int) ≤ 32 := by omega
    clear E0 hG hm
    go_wp2_with fail
    generalize hc : cmpI m 8388607 = c at *
    have HC := Lib.hid hc
    clear hc
    by_cases hle : c ≤ 0
    · have h2 : m ≤ 8388607 := hS.out.2.1.1 hle
      have hgz := Lib.hid (cG_fit (29 - k) (3 + k) m h2)
      have hcell : ∀ u, EnvC w [(g4, wo m)] u → u.cell? ⟨g4, 0, none⟩ = some (.int .u64 (m : Int)) := fun u hu => by
        have h3 := EnvX.cell hu (g := g4) (n := m) (by simp) 0 (by decide)
        rw [W_small (by omega)] at h3
        exact h3
      have HL := Lib.hid hcell
      clear hcell
      refine wp_region_G (w0 := w) [0, 1, 2, 3] [(g4, wo m)] 0 (by kernel_rfl) (by kernel_rfl) rfl E1.out ?_
      have hone := @EnvC.one _ _ _ E1.out.drew
      (refine wpG_load rfl rfl (g4) rfl 25 _ _ (fun u hu => EnvC.box hu _ (wo (m)) (by simp)) Try.underlying25 rfl (wc_info _) ?_ E1.out.drew; intro K hK; go_big_quiet_op; go_big_quiet_on)
      (refine wpG_call (f := 19) (args := #[.int .u64 (8388607 : Nat)]) (v := .agg (wcs 8388607)) rfl rfl rfl Try.func19 rfl rfl (fun u _ => of_n 8388607 u (by decide)) ?_ E1.out.drew; intro K hK; go_big_quiet_op; go_big_quiet_on)
      (refine wpG_call (f := 18) (args := #[.agg (wcs m), .agg (wcs 8388607)]) (v := .int .i64 c) rfl rfl rfl Try.func18 rfl rfl (fun u _ => (by rw [← HC.out]; exact cmp_any m 8388607 u HM.out hB.out.2)) ?_ E1.out.drew; intro K hK; go_big_quiet_op; go_big_quiet_on)
      (refine wpG_op rfl rfl rfl ?_; intro K hK; go_big_quiet_op; go_big_quiet_on)
      clear hone
      refine wpG_nil ?_
      refine anyG_done (by kernel_rfl) ?_
      rintro u2 ⟨hl2, E2'⟩
      have E2 := Lib.hid E2'
      clear hl2 E2' E1
      have e0 := HL.out u2 E2.out
      have b0 : (m : Int) ≤ 8388607 := by omega
      have b1 : (0 : Int) ≤ (m : Int) := by omega
      go_wp2_with (go_at_call 27; refine (compactOf_any (3 + k) m _ (by omega) (by omega)).mono ?_; rintro e w' ⟨rfl, rfl⟩)
      simp only [Exit.jump]
      go_ret
      exact ⟨by rw [← HG.out, hgz.out]; exact ret_num (by omega), E2.out.bel⟩
    · have hgt : 8388607 < m := by
        have h9 := hS.out.2.1
        omega
      have hnle : ¬ c ≤ 0 := hle
      refine wp_region_G (w0 := w) [0, 1, 2, 3] [(g4, wo m)] 0 (by kernel_rfl) (by kernel_rfl) rfl E1.out ?_
      have hone := @EnvC.one _ _ _ E1.out.drew
      (refine wpG_load rfl rfl (g4) rfl 25 _ _ (fun u hu => EnvC.box hu _ (wo (m)) (by simp)) Try.underlying25 rfl (wc_info _) ?_ E1.out.drew; intro K hK; go_big_quiet_op; go_big_quiet_on)
      (refine wpG_call (f := 19) (args := #[.int .u64 (8388607 : Nat)]) (v := .agg (wcs 8388607)) rfl rfl rfl Try.func19 rfl rfl (fun u _ => of_n 8388607 u (by decide)) ?_ E1.out.drew; intro K hK; go_big_quiet_op; go_big_quiet_on)
      (refine wpG_call (f := 18) (args := #[.agg (wcs m), .agg (wcs 8388607)]) (v := .int .i64 c) rfl rfl rfl Try.func18 rfl rfl (fun u _ => (by rw [← HC.out]; exact cmp_any m 8388607 u HM.out hB.out.2)) ?_ E1.out.drew; intro K hK; go_big_quiet_op; go_big_quiet_on)
      (refine wpG_op rfl rfl rfl ?_; intro K hK; go_big_quiet_op; go_big_quiet_on)
      clear hone
      refine wpG_nil ?_
      refine anyG_done (by kernel_rfl) ?_
      rintro u2 ⟨hl2, E2'⟩
      have E2 := Lib.hid E2'
      clear hl2 E2' E1
      clear hS HC hle hnle
      have hgt2 := Lib.hid hgt
      clear hgt
      by_cases h29 : k = 29
      · subst h29
        have hgz := Lib.hid (cG_end 32 m hgt2.out)
        go_wp2_with (go_at_call 27; refine (compactOf_any 32 8388607 _ (by omega) (by omega)).mono ?_; rintro e w' ⟨rfl, rfl⟩)
        simp only [Exit.jump]
        go_ret
        exact ⟨by rw [← HG.out, show 29 - 29 = 0 from rfl, show 3 + 29 = 32 from rfl, hgz.out]; exact ret_num (by omega), E2.out.bel⟩
      · have hk2 : ((3 + k : Nat) : Int) < 32 := by omega
        have hne : ¬ (3 + (k : Int) = 32) := by omega
        have hgz : Hid (cG (29 - (k + 1)) (3 + (k + 1)) (m / 256) = cN t) := by
          have h := cG_more (29 - (k + 1)) (3 + k) m hgt2.out
          rw [show 29 - (k + 1) + 1 = 29 - k by omega, HG.out] at h
          exact h.symm
        have z2 : Hid (u2.heap[g4]? = some (wo m)) := E2.out.box _ _ (by simp)
        clear HG
        go_wp2_with (first
          | ((with_reducible refine wpList_load_row (o := ⟨some 24, _, _, _, _, _⟩) ?_ 25 (.tmp 4) ?_ g4 ?_ 25 (wcs m) (0, 0) _ z2.out Try.underlying25 ?_ (wc_info _) ?_); (rfl); (rfl); (rfl); (rfl))
          | fail)
        refine (down_8 m u2 HM.out).mono ?_
        rintro e u3 ⟨rfl, hb⟩
        have E3 := Lib.hid (E2.out.below hb)
        have z3 : Hid (u3.heap[g4]? = some (.cells (wcs m) 25 (0, 0))) := E3.out.box _ _ (by simp)
        clear hb E2 z2
        have hsz := Lib.hid (wc_size (m / 256))
        have ho := Lib.hid (wc_one (m / 256))
        have hwo := Lib.hid (wc_size m)
        generalize hcs : wcs (m / 256) = cs at *
        have HCS := Lib.hid hcs
        clear hcs
        generalize hcm : wcs m = cm at *
        have HCM := Lib.hid hcm
        clear hcm
        go_wp2_with ((with_reducible refine wpList_store_row (o := ⟨none, .store 25 _ _, _, _, _, _⟩) ?_ 25 (.tmp 4) (.tmp 25) ?_ g4 cs ?_ ?_ 25 cm z3.out (infoW cs hsz.out) (by rw [hwo.out, hsz.out]) ho.out ?_); (rfl); (rfl); (rfl); (rfl))
        go_step3
        rw [show 3 + (k : Int) + 1 = ((3 + (k + 1) : Nat) : Int) by omega]
        refine ⟨rfl, ⟨k + 1, m / 256, g1, g4, _, _, _, _, _, _, _, _, _, _, _, _, _, _, _, _, _, _, _, _, _, rfl, ?_, by omega, hgz.out, Nat.lt_of_le_of_lt (Nat.div_le_self _ _) HM.out, hg4⟩, ?_⟩
        · refine E3.out.put (old := cm) hg4 (by rw [← HCM.out]; exact List.mem_singleton.2 rfl) (fun x hx => ?_)
          simp only [List.mem_singleton] at hx
          rw [hx, wo, HCS.out]
          exact .inl rfl
        · show (32 - ((3 + (k + 1) : Nat) : Int)).toNat < (32 - ((3 + k : Nat) : Int)).toNat
          omega
  · intro hrest
    have HR := Lib.hid hrest
    clear hrest
    go_wp2_with fail
    generalize hc : cmpI t 32768 = c at *
    have HC := Lib.hid hc
    clear hc
    by_cases hlt : c < 0
    · have hl := Lib.hid (cN_low (hS.out.1.1 hlt))
      refine wp_region_G (w0 := w) [0, 1, 2, 3] [(w.heap.size, wo t)] 0 (by kernel_rfl) (by kernel_rfl) rfl E1.out ?_
      have hone := @EnvC.one _ _ _ E1.out.drew
      (refine wpG_load rfl rfl (w.heap.size) rfl 25 _ _ (fun u hu => EnvC.box hu _ (wo (t)) (by simp)) Try.underlying25 rfl (wc_info _) ?_ E1.out.drew; intro K hK; go_big_quiet_op; go_big_quiet_on)
      (refine wpG_call (f := 19) (args := #[.int .u64 (32768 : Nat)]) (v := .agg (wcs 32768)) rfl rfl rfl Try.func19 rfl rfl (fun u _ => of_n 32768 u (by decide)) ?_ E1.out.drew; intro K hK; go_big_quiet_op; go_big_quiet_on)
      (refine wpG_call (f := 18) (args := #[.agg (wcs t), .agg (wcs 32768)]) (v := .int .i64 c) rfl rfl rfl Try.func18 rfl rfl (fun u _ => (by rw [← HC.out]; exact cmp_any t 32768 u ht hB.out.1)) ?_ E1.out.drew; intro K hK; go_big_quiet_op; go_big_quiet_on)
      (refine wpG_op rfl rfl rfl ?_; intro K hK; go_big_quiet_op; go_big_quiet_on)
      clear hone
      refine wpG_nil ?_
      refine anyG_done (by kernel_rfl) ?_
      rintro u2 ⟨hl2, E2'⟩
      have E2 := Lib.hid E2'
      clear hl2 E2' E1
      go_wp2_with fail
      simp only [Exit.jump]
      go_ret
      exact ⟨by rw [hl.out]; rfl, E2.out.bel⟩
    · have hge := Lib.hid (show ¬ t < 32768 from fun h => hlt (hS.out.1.2 h))
      have hnlt : ¬ c < 0 := hlt
      refine wp_region_G (w0 := w) [0, 1, 2, 3] [(w.heap.size, wo t)] 0 (by kernel_rfl) (by kernel_rfl) rfl E1.out ?_
      have hone := @EnvC.one _ _ _ E1.out.drew
      (refine wpG_load rfl rfl (w.heap.size) rfl 25 _ _ (fun u hu => EnvC.box hu _ (wo (t)) (by simp)) Try.underlying25 rfl (wc_info _) ?_ E1.out.drew; intro K hK; go_big_quiet_op; go_big_quiet_on)
      (refine wpG_call (f := 19) (args := #[.int .u64 (32768 : Nat)]) (v := .agg (wcs 32768)) rfl rfl rfl Try.func19 rfl rfl (fun u _ => of_n 32768 u (by decide)) ?_ E1.out.drew; intro K hK; go_big_quiet_op; go_big_quiet_on)
      (refine wpG_call (f := 18) (args := #[.agg (wcs t), .agg (wcs 32768)]) (v := .int .i64 c) rfl rfl rfl Try.func18 rfl rfl (fun u _ => (by rw [← HC.out]; exact cmp_any t 32768 u ht hB.out.1)) ?_ E1.out.drew; intro K hK; go_big_quiet_op; go_big_quiet_on)
      (refine wpG_op rfl rfl rfl ?_; intro K hK; go_big_quiet_op; go_big_quiet_on)
      clear hone
      refine wpG_nil ?_
      refine anyG_done (by kernel_rfl) ?_
      rintro u2 ⟨hl2, E2'⟩
      have E2 := Lib.hid E2'
      clear hl2 E2' E1
      go_wp2_with fail
      clear hS HC hlt hnlt
      refine wp_region_G (w0 := w) [0] [(w.heap.size, wo t)] 3 (by kernel_rfl) (by kernel_rfl) rfl E2.out ?_
      have hone := @EnvC.one _ _ _ E2.out.drew
      (refine wpG_load rfl rfl (w.heap.size) rfl 25 _ _ (fun u hu => EnvC.box hu _ (wo (t)) (by simp)) Try.underlying25 rfl (wc_info _) ?_ E2.out.drew; intro K hK; go_big_quiet_op; go_big_quiet_on)
      clear hone
      refine wpG_nil ?_
      refine anyG_one (i := 1) (by kernel_rfl) (gOp_new (wo 0) rfl (new_wide _) ?_); intro g4 hbg4 hfg4 K' hK'; go_big_quiet_op; go_big_quiet_on
      refine anyG_one (i := 2) (by kernel_rfl) (gOp_pure rfl rfl ?_); intro K' hK'; go_big_quiet_op; go_big_quiet_on
      refine anyG_one (i := 3) (by kernel_rfl) (gOp_store rfl g4 (wcs (t)) rfl rfl hbg4 25 (wcs (0)) (by simp) (wc_info _) (by rw [wc_size, wc_size]) (wc_one _) [(g4, wo t)] (by simp) ?_)
      refine anyG_done (by kernel_rfl) ?_
      rintro u2 ⟨hl2, E2'⟩
      have E3 := Lib.hid E2'
      clear hl2 E2' E2
      go_wp2_with fail
      go_step3
      rename_i hKK
      refine hKK _ _ (HR.out _ _ ⟨0, t, _, g4, _, _, _, _, _, _, _, _, _, _, _, _, _, _, _, _, _, _, _, _, _, rfl, E3.out, by omega, ?_, ht, hbg4⟩)
      unfold cN
      rw [if_neg hge.out]
end Go.Proofs.Ytdbkbaanppnabaa
