/-
  PROVED: the law stepladderlaw06.MmrWhole answers true for every input, and leaves its arguments as they were.
  Conditions: the two package-level tables of package sha hold at the call what their initialisers lay; the card ties that to the text of the program (a pruned copy of the project: the packages that the roots of this seat load).
-/
import Derived.Test.YtbmiecogjmbciaaDoorCq
namespace Go.Proofs.YtbmiecogjmbciaaDoor
set_option maxRecDepth 8000

/-- what blocks look like: their numbers are powers of two that fall, together all -/
theorem blocks_shape : ∀ (l : List Tot), l.length ≤ 100000 → Leaves l → (∀ y ∈ blocksT l, ∃ e, y.n = ((2 ^ e : Nat) : Int) ∧ 2 ^ e ≤ l.length) ∧ (blocksT l).Pairwise (fun a b => b.n < a.n) ∧ ((blocksT l).map (·.n)).sum = l.length := by
  intro l
  generalize hm : l.length = m
  revert l
  induction m using Nat.strongRecOn with
  | _ m ih =>
    intro l hl hM hL
    by_cases h0 : m = 0
    · subst h0
      rw [List.eq_nil_of_length_eq_zero hl, blocks_none]
      exact ⟨fun y hy => (by cases hy), List.Pairwise.nil, rfl⟩
    · obtain ⟨a, b, c, e, he⟩ := half_spec (n := m + 1) (by omega)
      have hll : (l.drop (halfT (m + 1))).length = m - halfT (m + 1) := by rw [List.length_drop, hl]
      have htl : (l.take (halfT (m + 1))).length = halfT (m + 1) := by rw [List.length_take]; omega
      obtain ⟨i1, i2, i3⟩ := ih _ (by omega) _ hll (by omega) (hL.drop _)
      have hAn : (allT (l.take (halfT (m + 1)))).n = halfT (m + 1) := by
        have := (hL.take (halfT (m + 1))).all_n (by omega) (by omega)
        rw [this, htl]
      rw [blocks_some (by omega), hl]
      refine ⟨fun y hy => ?_, List.Pairwise.cons (fun y hy => ?_) i2, ?_⟩
      · rcases List.mem_cons.1 hy with rfl | h
        · exact ⟨e, by rw [hAn, he], by omega⟩
        · obtain ⟨e', h1, h2⟩ := i1 y h
          exact ⟨e', h1, by omega⟩
      · obtain ⟨e', h1, h2⟩ := i1 y hy
        rw [h1, hAn]
        omega
      · rw [List.map_cons, List.sum_cons, i3, hAn]
        omega
end Go.Proofs.YtbmiecogjmbciaaDoor

namespace Go.Proofs.YtbmiecogjmbciaaDoor
set_option maxRecDepth 8000
open Go.RowKit

def pow7 (y : Nat) : Prop := y = 1 ∨ y = 2 ∨ y = 4 ∨ y = 8 ∨ y = 16 ∨ y = 32 ∨ y = 64
theorem pow7_of {e y : Nat} (h : y = 2 ^ e) (hy : y ≤ 64) : pow7 y := by
  subst h
  have he : e ≤ 6 := by
    rcases Nat.lt_or_ge e 7 with h | h
    · omega
    · have := Nat.pow_le_pow_right (n := 2) (by decide) h
      omega
  unfold pow7
  have : e = 0 ∨ e = 1 ∨ e = 2 ∨ e = 3 ∨ e = 4 ∨ e = 5 ∨ e = 6 := by omega
  rcases this with rfl | rfl | rfl | rfl | rfl | rfl | rfl <;> decide
/-- what the peaks of leaves look like -/
theorem peak_facts (l : List Tot) (h : l.length ≤ 64) (hL : Leaves l) : ∃ z S : Nat → Nat, S 0 = 0 ∧ S (peaksT l).length = l.length ∧
    ∀ k, k < (peaksT l).length → ((peaksT l).getD k noTot).n = ((z k : Nat) : Int) ∧ pow7 (z k) ∧ 1 ≤ z k ∧ S (k + 1) = S k + z k ∧ S (k + 1) ≤ 64 ∧ (0 < k → z k < z (k - 1)) := by
  obtain ⟨h1, h2, h3⟩ := blocks_shape l (by omega) hL
  rw [peaks_blocks l (by omega) hL]
  generalize blocksT l = b at *
  have hget : ∀ k, k < b.length → ∃ hk : k < b.length, b.getD k noTot = b[k] := fun k hk => ⟨hk, by rw [List.getD_eq_getElem?_getD, List.getElem?_eq_getElem hk]; rfl⟩
  have hz : ∀ k, k < b.length → (b.getD k noTot).n = (((b.getD k noTot).n.toNat : Nat) : Int) ∧ pow7 (b.getD k noTot).n.toNat ∧ 1 ≤ (b.getD k noTot).n.toNat := fun k hk => by
    obtain ⟨hk', e'⟩ := hget k hk
    obtain ⟨e, he, hle⟩ := h1 b[k] (List.getElem_mem hk)
    rw [e', he, Int.toNat_natCast]
    have hp := Nat.pos_of_ne_zero (n := 2 ^ e) (by have := Nat.two_pow_pos e; omega)
    exact ⟨rfl, pow7_of rfl (by omega), hp⟩
  have hsum : ∀ k, k ≤ b.length → ((b.take k).map (·.n)).sum = ((((List.range k).map fun j => (b.getD j noTot).n.toNat).sum : Nat) : Int) := by
    intro k
    induction k with
    | zero => intro _; rfl
    | succ k ih =>
      intro hk
      obtain ⟨hk', e'⟩ := hget k (by omega)
      rw [List.take_succ_eq_append_getElem hk', List.map_append, List.sum_append, ih (by omega), List.range_succ, List.map_append, List.sum_append]
      have := (hz k (by omega)).1
      rw [e'] at this
      simp only [List.map_cons, List.map_nil, List.sum_cons, List.sum_nil]
      rw [e']
      omega
  have hstep : ∀ k, ((List.range (k + 1)).map fun j => (b.getD j noTot).n.toNat).sum = ((List.range k).map fun j => (b.getD j noTot).n.toNat).sum + (b.getD k noTot).n.toNat := fun k => by
    rw [List.range_succ, List.map_append, List.sum_append]
    simp
  have hall : ((List.range b.length).map fun j => (b.getD j noTot).n.toNat).sum = l.length := by
    have := hsum b.length (Nat.le_refl _)
    rw [List.take_length, h3] at this
    omega
  have hmono : ∀ d k, ((List.range k).map fun j => (b.getD j noTot).n.toNat).sum ≤ ((List.range (k + d)).map fun j => (b.getD j noTot).n.toNat).sum := by
    intro d
    induction d with
    | zero => intro k; exact Nat.le_refl _
    | succ d ih =>
      intro k
      have h1 := ih k
      have h2 := hstep (k + d)
      rw [show k + (d + 1) = k + d + 1 from rfl, h2]
      omega
  refine ⟨fun k => (b.getD k noTot).n.toNat, fun k => ((List.range k).map fun j => (b.getD j noTot).n.toNat).sum, rfl, hall, fun k hk => ?_⟩
  obtain ⟨g1, g2, g3⟩ := hz k hk
  refine ⟨g1, g2, g3, hstep k, ?_, fun h0 => ?_⟩
  · have := hmono (b.length - (k + 1)) (k + 1)
    rw [show k + 1 + (b.length - (k + 1)) = b.length by omega, hall] at this
    exact Nat.le_trans this h
  · have hk1 : k - 1 < b.length := by omega
    have h5 := List.pairwise_iff_getElem.1 h2 (k - 1) k hk1 hk (by omega)
    obtain ⟨_, e1⟩ := hget k hk
    obtain ⟨_, e2⟩ := hget (k - 1) hk1
    have g4 := (hz (k - 1) hk1).1
    show (b.getD k noTot).n.toNat < (b.getD (k - 1) noTot).n.toNat
    rw [← e1, ← e2] at h5
    omega
set_option maxHeartbeats 1000000 in
theorem law_mwhole_a (T : MmrC) (ids : List (List Int)) (ws : List Nat) (A A2 : Option Addr) (n c m c2 : Nat) (w : World)
    (hl : ids.length = n) (hm : ws.length = m) (hnc : n ≤ c) (hcm : c ≤ maxLen) (hmc : m ≤ c2) (hc2 : c2 ≤ maxLen) (hI : isIds ids) (hA : IdsIn w w.heap.size A ids) (hb : ∀ x ∈ ws, x < 4294967296) (hA2 : CellsIn w w.heap.size A2 (ws.map u32V)) (ht : Tables w) (c0 : 64 < n) :
    Calls Tryd.prog 4 #[.slice A n c, .slice A2 m c2] w fun e w' => e = .returned (.bool true) ∧ Below w.heap.size w w' := by
  have c0' : (64 : Int) < (n : Int) := by omega
  have E0 : Hid (EnvX w w []) := EnvX.start w
  have HAW := Lib.hid (mawake_any T w (ht.below (EnvX.bel E0.out)))
  have HT := Lib.hid ht
  have HM := Lib.hid T
  clear ht T
  have HL := Lib.hid (And.intro hl (And.intro hI hA))
  have HW := Lib.hid (And.intro hm (And.intro hb hA2))
  have HCM := Lib.hid (And.intro hcm hc2)
  unfold maxLen at hcm hc2
  clear hl hI hA hm hb hA2
  go_enter Tryd.func4, Tryd.ntmps4
  go_upto_region 1 with (fail)
  go_wp2_with fail
  refine HAW.out.mono ?_
  rintro e w1 ⟨rfl, hb1⟩
  have HB1 := Lib.hid (EnvX.below E0.out hb1).bel
  have E1 : Hid (EnvX w1 w1 []) := ⟨Below.refl _ _, (EnvX.below E0.out hb1).box⟩
  have HT1 := Lib.hid (HT.out.below HB1.out)
  clear hb1 E0 HAW
  go_wp2
  go_ret
  exact ⟨rfl, HB1.out⟩
set_option maxRecDepth 20000 in
set_option maxHeartbeats 4000000 in
theorem law_mwhole_e (T : MmrC) (ids : List (List Int)) (ws : List Nat) (A A2 : Option Addr) (n c m c2 : Nat) (w : World)
    (hl : ids.length = n) (hm : ws.length = m) (hnc : n ≤ c) (hcm : c ≤ maxLen) (hmc : m ≤ c2) (hc2 : c2 ≤ maxLen) (hI : isIds ids) (hA : IdsIn w w.heap.size A ids) (hb : ∀ x ∈ ws, x < 4294967296) (hA2 : CellsIn w w.heap.size A2 (ws.map u32V)) (ht : Tables w) (c0 : n ≤ 64) :
    Calls Tryd.prog 4 #[.slice A n c, .slice A2 m c2] w fun e w' => e = .returned (.bool true) ∧ Below w.heap.size w w' := by
  have c0' : ¬ (64 : Int) < (n : Int) := by omega
  have E0 : Hid (EnvX w w []) := EnvX.start w
  have HAW := Lib.hid (mawake_any T w (ht.below (EnvX.bel E0.out)))
  have HT := Lib.hid ht
  have HM := Lib.hid T
  clear ht T
  have HL := Lib.hid (And.intro hl (And.intro hI hA))
  have HW := Lib.hid (And.intro hm (And.intro hb hA2))
  have HCM := Lib.hid (And.intro hcm hc2)
  unfold maxLen at hcm hc2
  clear hl hI hA hm hb hA2
  go_enter Tryd.func4, Tryd.ntmps4
  go_upto_region 1 with (fail)
  go_wp2_with fail
  refine HAW.out.mono ?_
  rintro e w1 ⟨rfl, hb1⟩
  have HB1 := Lib.hid (EnvX.below E0.out hb1).bel
  have E1 : Hid (EnvX w1 w1 []) := ⟨Below.refl _ _, (EnvX.below E0.out hb1).box⟩
  have HT1 := Lib.hid (HT.out.below HB1.out)
  clear hb1 E0 HAW
  have HLV : Hid (Calls Tryd.prog 24 #[.slice A n c, .slice A2 m c2] w1 fun e w' => (∃ v, e = .returned v ∧ OwnT w' w1.heap.size v (leavesT ids ws)) ∧ Below w1.heap.size w1 w') :=
    lleaves_any HM.out ids ws A A2 n c m c2 w1 HL.out.1 HW.out.1 (by omega) hnc HCM.out.1 hmc HCM.out.2 HL.out.2.1 (HL.out.2.2.up HB1.out) HW.out.2.1 (CellsIn.up HW.out.2.2 HB1.out) HT1.out
  go_upto_region 4 with (fail)
  go_wp2_with fail
  refine HLV.out.mono ?_
  rintro e w2 ⟨⟨v, rfl, hv⟩, hb2⟩
  have HB2 := Lib.hid (HB1.out.trans (hb2.mono HB1.out.size))
  have HT2 := Lib.hid (HT.out.below HB2.out)
  have hLV := leaves_leaves (ids := ids) HW.out.2.1
  have hOK := leaves_ok HL.out.2.1 HW.out.2.1
  have hln : (leavesT ids ws).length = n := by rw [leaves_len, HL.out.1]
  generalize leavesT ids ws = l at *
  obtain ⟨Al, cl, rfl, hl1, hl2⟩ := hv.form
  rw [hln] at hl1 hv ⊢
  have hTL := hv.tots hln
  -- the numbers
  obtain ⟨s, hs⟩ : ∃ s : Nat → Nat, ∀ k, sumW (l.take k) = s k := ⟨_, fun _ => rfl⟩
  have HS0 : Hid (s 0 = 0) := by show _ = _; rw [← hs, List.take_zero]; rfl
  have HSB : Hid (∀ k, k ≤ n → s k < Big) := fun k hk => by
    rw [← hs]
    have h := sumW_le (hLV.take k)
    have h2 : (l.take k).length ≤ 64 := by rw [List.length_take]; omega
    unfold Big
    omega
  have HSS : Hid (∀ k, k < n → s (k + 1) = s k + (l.getD k noTot).w ∧ (l.getD k noTot).w < Big) := fun k hk => by
    have hk' : k < l.length := by rw [hln]; exact hk
    refine ⟨?_, (hOK.get hk').2.1⟩
    rw [← hs, ← hs, List.take_succ_eq_append_getElem hk', sumW_append, List.getD_eq_getElem?_getD, List.getElem?_eq_getElem hk']
    rfl
  have hroot : rootP (peaksT l) = allT l := by rw [peaks_blocks l (by omega) hLV, root_blocks l (by omega)]
  obtain ⟨hpk1, hpk2⟩ := peaks_ok n l hOK (by omega)
  rw [List.take_of_length_le (by omega)] at hpk1 hpk2
  have hnw : (allT l).n = (n : Int) ∧ (allT l).w = s n := by
    rw [← hs, List.take_of_length_le (by omega)]
    by_cases h0 : n = 0
    · rw [List.eq_nil_of_length_eq_zero (hln.trans h0), h0]
      exact ⟨rfl, rfl⟩
    · rw [← hln]
      exact all_nw l (by omega) (by omega) hLV
  obtain ⟨z, S, hz0, hz1, hz2⟩ := peak_facts l (by omega) hLV
  rw [hln] at hz1
  have hrok := all_ok hOK
  have HLS := Lib.hid (And.intro hln (And.intro hOK hTL))
  have HLC := Lib.hid hl2
  have HROK := Lib.hid hrok
  have HPKK := Lib.hid (And.intro hpk1 hpk2)
  have HRT := Lib.hid hroot
  obtain ⟨pk, hpk⟩ : ∃ pk, (peaksT l).length = pk := ⟨_, rfl⟩
  have HPKN := Lib.hid hpk
  have hpk64 : pk ≤ 64 := by omega
  rw [hpk] at hz1 hz2
  have HZ0 := Lib.hid hz0
  have HZ1 := Lib.hid hz1
  have HZ2 := Lib.hid hz2
  have HPK : Hid (Calls Tryd.prog 25 #[.slice Al n cl] w2 fun e w' => (∃ v, e = .returned v ∧ OwnT w' w2.heap.size v (peaksT l)) ∧ Below w2.heap.size w2 w') :=
    lpeaks_any HM.out l Al n cl w2 hln (by omega) hl1 hl2 hOK hTL HT2.out
  obtain ⟨rt, hrt⟩ : ∃ rt, allT l = rt := ⟨_, rfl⟩
  rw [hrt] at HRT HROK hnw
  have HNW := Lib.hid hnw
  have HALL : Hid (allT l = rt) := hrt
  clear hb2 hv hTL hOK hLV hln HLV hroot hpk1 hpk2 hrok hs E1 hz0 hz1 hz2 hnw hrt hpk
  obtain ⟨q, hq⟩ : ∃ q, peaksT l = q := ⟨_, rfl⟩
  rw [hq] at HRT HPKK HPKN HZ2 HPK
  clear hq
  go_upto_region 5 with (fail)
  go_wp2_with fail
  refine HPK.out.mono ?_
  rintro e w6 ⟨⟨v, rfl, hv⟩, hb⟩
  have H26 := Lib.hid hb
  have HB6 := Lib.hid (HB2.out.trans (hb.mono HB2.out.size))
  have HT6 := Lib.hid (HT.out.below HB6.out)
  obtain ⟨Aq, cq, rfl, hq1, hq2⟩ := hv.form
  rw [HPKN.out] at hq1 hv ⊢
  have HQ := Lib.hid (And.intro hq1 hq2)
  have HTQ := Lib.hid (hv.tots HPKN.out)
  have HTL6 := Lib.hid (HLS.out.2.2.up H26.out)
  have E6 : Hid (EnvX w6 w6 []) := EnvX.start w6
  clear hb hv HPK hl2
  have HOF : Hid (∀ u, Calls Tryd.prog 26 #[.int .u64 0] u fun e w' => e = .returned (.agg (wcs (s 0))) ∧ Below u.heap.size u w') := fun u => by rw [HS0.out]; exact of_n 0 u (by omega)
  go_upto_region 6 with (fail)
  refine wp_region_Hx (w0 := w6) [0, 1, 2] [] rfl E6.out ?_
  refine lexH_phase [0] [1, 2] ?_
  have hw1 : EnvX w6 _ [] := E6.out
  have hone := @EnvC.one _ _ _ hw1
  (refine wpG_call (f := 26) (args := #[.int .u64 0]) (v := .agg (wcs (s 0))) rfl rfl rfl Tryd.func26 rfl rfl (fun u hu => HOF.out u) ?_ hw1; intro K hK; go_big_quiet_op; go_big_quiet_on)
  clear hone hw1
  refine wpG_nil ?_
  refine (hOp_fresh (R := fun x N => ∃ g, x = .pointer (some ⟨g, 0, none⟩) ∧ N = [(g, Obj.cells (wcs 0) 27 (0, 0))]) (M0 := []) rfl rfl (fun _ h => h) (fun u hu => FAt_new (new_wd _) u) ?_)
  rintro _ _ ⟨g8, rfl, rfl⟩ hf he2; intro K' hK'; go_big_quiet_op; go_big_quiet_on
  have HGg8 := Lib.hid (hf _ (List.mem_singleton.2 rfl))
  clear hf
  change lexH _ _ _ _ _ _ [(g8, Obj.cells (wcs 0) 27 (0, 0))]
  refine (hOp_store rfl (g8) (wcs (s 0)) rfl rfl HGg8.out.1 27 ((wcs 0)) (List.Mem.head _) (wc_info _) ((wc_size _).trans (wc_size _).symm) (wc_one _) [(g8, Obj.cells (wcs (s 0)) 27 (0, 0))] (List.forall_mem_cons.2 ⟨.inl rfl, fun y hy => .inr ⟨List.mem_cons_of_mem _ hy, HGg8.out.2 y hy⟩⟩) ?_)
  intro he3
  intro u5 E2'
  have EX4 := Lib.hid E2'
  clear E2'
  have EI : Hid (EnvX w6 u5 [(g8, Obj.cells (wcs (s 0)) 27 (0, 0))]) := EX4
  clear EX4 E6 HOF
  go_upto_region 8 with (fail)
  go_loopw [9, 10, 11] (fun j p b u => ∃ k : Nat, k ≤ n ∧ j = .int .i64 (k : Int) ∧ Hid (EnvX w6 u [(g8, Obj.cells (wcs (s k)) 27 (0, 0))])) (fun j _ _ _ => n - (intOf j).toNat)
  case atStart => exact ⟨0, by omega, rfl, EI⟩
  case round =>
    obtain ⟨k, hk, rfl, EK⟩ := hrel
    clear EI
    by_cases hlt : k < n
    · have hlt2 : (k : Int) < (n : Int) := by omega
      obtain ⟨a3, h3, hld⟩ := HTL6.out.loads HLS.out.2.1 (k := k) (by rw [HLS.out.1]; omega)
      subst h3
      have HLD := Lib.hid (fun u hu => (hld u hu).2.2.1)
      have HKM : Hid (k < n) := hlt
      have HADD : Hid (∀ u, Calls Tryd.prog 27 #[.agg (wcs (s k)), .agg (wcs (l.getD k noTot).w)] u fun e w' => e = .returned (.tuple #[.agg (wcs (s (k + 1))), .bool true]) ∧ Below u.heap.size u w') := fun u => by
        have h1 := HSS.out k HKM.out
        have h2 := HSB.out (k + 1) (by omega)
        have h := add_any (s k) (l.getD k noTot).w u (HSB.out k (by omega)) h1.2
        rw [← h1.1] at h
        rwa [Nat.mod_eq_of_lt h2, decide_eq_true h2] at h
      clear hld
      go_upto_region 10 with (fail)
      refine wp_region_H (w0 := w6) [(g8, Obj.cells (wcs (s k)) 27 (0, 0))] (by kernel_rfl) EK.out ?_
      refine anyH_phase [0, 1, 2, 3, 4, 5, 6, 7, 8, 9] 3 rfl ⟨_, (EnvX.drew EK.out)⟩ (by kernel_rfl) ?_
      have hw6 : EnvX w6 _ [(g8, Obj.cells (wcs (s k)) 27 (0, 0))] := (EnvX.drew EK.out)
      have hone := @EnvC.one _ _ _ hw6
      (refine wpG_val (v := .agg (wcs (s k))) rfl rfl (fun u hu => load_any_op u (box_wide hu (List.Mem.head _)) rfl) ?_ hw6; intro K hK; go_big_quiet_op; go_big_quiet_on)
      (refine wpG_op rfl rfl rfl ?_; intro K hK; go_big_quiet_op; go_big_quiet_on)
      (refine wpG_op rfl rfl rfl ?_; intro K hK; go_big_quiet_op; go_big_quiet_on)
      (refine wpG_val (v := .pointer (some (a3.add (k * 37)))) rfl rfl (fun u hu => idxSl_op Tryd.underlying22 aggTot.size HKM.out u rfl rfl) ?_ hw6; intro K hK; go_big_quiet_op; go_big_quiet_on)
      (refine wpG_val (v := .pointer (some ((a3.add (k * 37)).add 32))) rfl rfl (fun u hu => fieldT_op (k := 1) (off := 32) rfl u rfl) ?_ hw6; intro K hK; go_big_quiet_op; go_big_quiet_on)
      (refine wpG_val (v := .agg (wcs (l.getD k noTot).w)) rfl rfl (fun u hu => load_any_op u (HLD.out u (EnvX.sub hu (fun _ h => by cases h))) rfl) ?_ hw6; intro K hK; go_big_quiet_op; go_big_quiet_on)
      (refine wpG_call (f := 27) (args := #[.agg (wcs (s k)), .agg (wcs (l.getD k noTot).w)]) (v := .tuple #[.agg (wcs (s (k + 1))), .bool true]) rfl rfl rfl Tryd.func27 rfl rfl (fun u hu => HADD.out u) ?_ hw6; intro K hK; go_big_quiet_op; go_big_quiet_on)
      (refine wpG_op rfl rfl rfl ?_; intro K hK; go_big_quiet_op; go_big_quiet_on)
      (refine wpG_op rfl rfl rfl ?_; intro K hK; go_big_quiet_op; go_big_quiet_on)
      (refine wpG_op rfl rfl rfl ?_; intro K hK; go_big_quiet_op; go_big_quiet_on)
      clear hone hw6
      refine wpG_nil ?_
      refine anyH_one (i := 10) (by kernel_rfl) (hOp_fresh (R := fun x N => ∃ g, x = .pointer (some ⟨g, 0, none⟩) ∧ N = [(g, Obj.cells (wcs 0) 27 (0, 0))]) (M0 := [(g8, Obj.cells (wcs (s k)) 27 (0, 0))]) rfl rfl (fun _ h => h) (fun u hu => FAt_new (new_wd _) u) ?_)
      rintro _ _ ⟨g10, rfl, rfl⟩ hf he7; intro K' hK'; go_big_quiet_op; go_big_quiet_on
      have HGg10 := Lib.hid (hf _ (List.mem_singleton.2 rfl))
      clear hf
      change anyH _ _ _ _ _ _ _ _ [(g10, Obj.cells (wcs 0) 27 (0, 0)), (g8, Obj.cells (wcs (s k)) 27 (0, 0))]
      refine anyH_one (i := 11) (by kernel_rfl) (hOp_store rfl (g10) (wcs (s (k + 1))) rfl rfl HGg10.out.1 27 ((wcs 0)) (List.Mem.head _) (wc_info _) ((wc_size _).trans (wc_size _).symm) (wc_one _) [(g10, Obj.cells (wcs (s (k + 1))) 27 (0, 0)), (g8, Obj.cells (wcs (s k)) 27 (0, 0))] (List.forall_mem_cons.2 ⟨.inl rfl, fun y hy => .inr ⟨List.mem_cons_of_mem _ hy, HGg10.out.2 y hy⟩⟩) ?_)
      intro he8
      refine anyH_phase [12] 0 rfl ⟨_, he8.choose_spec⟩ (by kernel_rfl) ?_
      have hw9 : EnvX w6 _ [(g10, Obj.cells (wcs (s (k + 1))) 27 (0, 0)), (g8, Obj.cells (wcs (s k)) 27 (0, 0))] := he8.choose_spec
      have hone := @EnvC.one _ _ _ hw9
      (refine wpG_op rfl rfl rfl ?_; intro K hK; go_big_quiet_op; go_big_quiet_on)
      clear hone hw9
      refine wpG_nil ?_
      refine anyH_done (by kernel_rfl) ?_
      intro u11 E2'
      have EX10 := Lib.hid E2'
      clear E2'
      go_upto_region 11 with (fail)
      refine wp_region_Hx (w0 := w6) [0, 1] [(g10, Obj.cells (wcs (s (k + 1))) 27 (0, 0)), (g8, Obj.cells (wcs (s k)) 27 (0, 0))] rfl EX10.out ?_
      refine lexH_phase [0] [1] ?_
      have hw12 : EnvX w6 _ [(g10, Obj.cells (wcs (s (k + 1))) 27 (0, 0)), (g8, Obj.cells (wcs (s k)) 27 (0, 0))] := EX10.out
      have hone := @EnvC.one _ _ _ hw12
      (refine wpG_val (v := .agg (wcs (s (k + 1)))) rfl rfl (fun u hu => load_any_op u (box_wide hu (List.Mem.head _)) rfl) ?_ hw12; intro K hK; go_big_quiet_op; go_big_quiet_on)
      clear hone hw12
      refine wpG_nil ?_
      refine (hOp_store rfl (g8) (wcs (s (k + 1))) rfl rfl HGg8.out.1 27 ((wcs (s k))) (List.Mem.tail _ (List.Mem.head _)) (wc_info _) ((wc_size _).trans (wc_size _).symm) (wc_one _) [(g8, Obj.cells (wcs (s (k + 1))) 27 (0, 0))] (List.forall_mem_cons.2 ⟨.inl rfl, (fun _ h => by cases h)⟩) ?_)
      intro he13
      intro u15 E2'
      have EX14 := Lib.hid E2'
      clear E2'
      go_wp2
      go_roundw
      case rel => exact ⟨k + 1, by omega, by go_num, EX14⟩
      case measure => simp [intOf]; omega
    · obtain rfl : n = k := by omega
      have hge : ¬ (n : Int) < (n : Int) := by omega
      have H6U := Lib.hid (EnvX.bel EK.out)
      have HBU := Lib.hid (HB6.out.trans (H6U.out.mono HB6.out.size))
      have HTU := Lib.hid (HT.out.below HBU.out)
      have HTQU := Lib.hid (HTQ.out.up H6U.out)
      have HTLU := Lib.hid (HTL6.out.up H6U.out)
      have HLB : Hid (∀ u, EnvX wr u [] → (loadVar 27 ⟨g8, 0, none⟩).run Tryd.prog u = .ok (.agg (wcs (s n))) u) := fun u hu => box_wide (EnvX.comb EK.out hu) (List.mem_append_right _ (List.Mem.head _))
      have EU : Hid (EnvX wr wr []) := EnvX.start wr
      clear EK HTQ HTL6 HSS
      go_upto_region 14 with (fail)
      generalize wr = U at *
      go_loopw [12, 13, 14] (fun v j _ u => ∃ k : Nat, k ≤ pk ∧ v = .int .i64 ((S k : Nat) : Int) ∧ j = .int .i64 (k : Int) ∧ Hid (EnvX U u [])) (fun _ j _ _ => pk - (intOf j).toNat)
      case atStart => exact ⟨0, by omega, by rw [HZ0.out]; rfl, rfl, EU⟩
      case round =>
        obtain ⟨k, hk, rfl, rfl, EK⟩ := hrel
        clear EU
        by_cases hlt : k < pk
        · have hlt2 : (k : Int) < (pk : Int) := by omega
          have HKM : Hid (k < pk) := hlt
          have HKF := Lib.hid (HZ2.out k hlt)
          obtain ⟨aq, h3, hld⟩ := HTQU.out.loads HPKK.out.1 (k := k) (by rw [HPKN.out]; omega)
          subst h3
          have HLD : Hid (∀ u, EnvX U u [] → (loadVar 3 ((aq.add (k * 37)).add 36)).run Tryd.prog u = .ok (.int .i64 ((z k : Nat) : Int)) u) := fun u hu => by
            have h := (hld u hu).2.2.2
            rwa [HKF.out.1] at h
          have HZ11 : Hid (decide (((z k : Nat) : Int) < 1) = false) := decide_eq_false (by have := HKF.out.2.2.1; omega)
          have HADD : Hid (((S k : Nat) : Int) + ((z k : Nat) : Int) = ((S (k + 1) : Nat) : Int) ∧ InI ((S (k + 1) : Nat) : Int)) := by
            have h1 := HKF.out.2.2.2.1
            have h2 := HKF.out.2.2.2.2.1
            exact ⟨by omega, by unfold InI; omega⟩
          clear hld
          by_cases h0 : 0 < k
          · have h0' : (0 : Int) < (k : Int) := by omega
            obtain ⟨a4, h4, hld2⟩ := HTQU.out.loads HPKK.out.1 (k := k - 1) (by rw [HPKN.out]; omega)
            obtain rfl : aq = a4 := (by injection h4)
            have HLD1 : Hid (∀ u, EnvX U u [] → (loadVar 3 ((aq.add ((k - 1) * 37)).add 36)).run Tryd.prog u = .ok (.int .i64 ((z (k - 1) : Nat) : Int)) u) := fun u hu => by
              have h := (hld2 u hu).2.2.2
              rwa [(HZ2.out (k - 1) (by omega)).1] at h
            have HK1 : Hid (k - 1 < pk ∧ (k : Int) - 1 = ((k - 1 : Nat) : Int) ∧ InI ((k - 1 : Nat) : Int)) := ⟨by omega, by omega, by unfold InI; omega⟩
            have HLQ : Hid (decide (((z (k - 1) : Nat) : Int) ≤ ((z k : Nat) : Int)) = false) := decide_eq_false (by have := HKF.out.2.2.2.2.2 h0; omega)
            have HGT : Hid (decide ((0 : Int) < (k : Int)) = true) := decide_eq_true h0'
            clear hld2 h4
            go_upto_region 16 with (fail)
            refine wp_region_H (w0 := U) [] (by kernel_rfl) EK.out ?_
            refine anyH_phase [0, 1, 2, 3, 4, 5, 6, 7, 8, 9, 10, 11, 12, 13, 14, 15, 16, 17, 18, 19, 20, 21, 22, 23] 0 rfl ⟨_, (EnvX.drew EK.out)⟩ (by kernel_rfl) ?_
            have hw301 : EnvX U _ [] := (EnvX.drew EK.out)
            have hone := @EnvC.one _ _ _ hw301
            (refine wpG_op rfl rfl rfl ?_; intro K hK; go_big_quiet_op; go_big_quiet_on)
            (refine wpG_op rfl rfl rfl ?_; intro K hK; go_big_quiet_op; go_big_quiet_on)
            (refine wpG_val (v := .pointer (some (aq.add (k * 37)))) rfl rfl (fun u hu => idxSl_op Tryd.underlying22 aggTot.size HKM.out u rfl rfl) ?_ hw301; intro K hK; go_big_quiet_op; go_big_quiet_on)
            (refine wpG_val (v := .pointer (some ((aq.add (k * 37)).add 36))) rfl rfl (fun u hu => fieldT_op (k := 2) (off := 36) rfl u rfl) ?_ hw301; intro K hK; go_big_quiet_op; go_big_quiet_on)
            (refine wpG_val (v := .int .i64 ((z k : Nat) : Int)) rfl rfl (fun u hu => load_any_op u (HLD.out u (EnvX.sub hu (fun _ h => by cases h))) rfl) ?_ hw301; intro K hK; go_big_quiet_op; go_big_quiet_on)
            (refine wpG_val (v := .bool false) rfl rfl (fun u hu => lssI_op u HZ11.out rfl rfl) ?_ hw301; intro K hK; go_big_quiet_op; go_big_quiet_on)
            (refine wpG_op rfl rfl rfl ?_; intro K hK; go_big_quiet_op; go_big_quiet_on)
            (refine wpG_op rfl rfl rfl ?_; intro K hK; go_big_quiet_op; go_big_quiet_on)
            (refine wpG_val (v := .bool true) rfl rfl (fun u hu => gtrI_op u HGT.out rfl rfl) ?_ hw301; intro K hK; go_big_quiet_op; go_big_quiet_on)
            (refine wpG_op rfl rfl rfl ?_; intro K hK; go_big_quiet_op; go_big_quiet_on)
            (refine wpG_op rfl rfl rfl ?_; intro K hK; go_big_quiet_op; go_big_quiet_on)
            (refine wpG_op rfl rfl rfl ?_; intro K hK; go_big_quiet_op; go_big_quiet_on)
            (refine wpG_val (v := .int .i64 ((k - 1 : Nat) : Int)) rfl rfl (fun u hu => sub_op u HK1.out.2.1 HK1.out.2.2 rfl rfl) ?_ hw301; intro K hK; go_big_quiet_op; go_big_quiet_on)
            (refine wpG_val (v := .pointer (some (aq.add ((k - 1) * 37)))) rfl rfl (fun u hu => idxSl_op Tryd.underlying22 aggTot.size HK1.out.1 u rfl rfl) ?_ hw301; intro K hK; go_big_quiet_op; go_big_quiet_on)
            (refine wpG_val (v := .pointer (some ((aq.add ((k - 1) * 37)).add 36))) rfl rfl (fun u hu => fieldT_op (k := 2) (off := 36) rfl u rfl) ?_ hw301; intro K hK; go_big_quiet_op; go_big_quiet_on)
            (refine wpG_val (v := .int .i64 ((z (k - 1) : Nat) : Int)) rfl rfl (fun u hu => load_any_op u (HLD1.out u (EnvX.sub hu (fun _ h => by cases h))) rfl) ?_ hw301; intro K hK; go_big_quiet_op; go_big_quiet_on)
            (refine wpG_op rfl rfl rfl ?_; intro K hK; go_big_quiet_op; go_big_quiet_on)
            (refine wpG_op rfl rfl rfl ?_; intro K hK; go_big_quiet_op; go_big_quiet_on)
            (refine wpG_val (v := .pointer (some (aq.add (k * 37)))) rfl rfl (fun u hu => idxSl_op Tryd.underlying22 aggTot.size HKM.out u rfl rfl) ?_ hw301; intro K hK; go_big_quiet_op; go_big_quiet_on)
            (refine wpG_val (v := .pointer (some ((aq.add (k * 37)).add 36))) rfl rfl (fun u hu => fieldT_op (k := 2) (off := 36) rfl u rfl) ?_ hw301; intro K hK; go_big_quiet_op; go_big_quiet_on)
            (refine wpG_val (v := .int .i64 ((z k : Nat) : Int)) rfl rfl (fun u hu => load_any_op u (HLD.out u (EnvX.sub hu (fun _ h => by cases h))) rfl) ?_ hw301; intro K hK; go_big_quiet_op; go_big_quiet_on)
            (refine wpG_val (v := .bool false) rfl rfl (fun u hu => leqI_op u HLQ.out rfl rfl) ?_ hw301; intro K hK; go_big_quiet_op; go_big_quiet_on)
            (refine wpG_op rfl rfl rfl ?_; intro K hK; go_big_quiet_op; go_big_quiet_on)
            (refine wpG_op rfl rfl rfl ?_; intro K hK; go_big_quiet_op; go_big_quiet_on)
            clear hone hw301
            refine wpG_nil ?_
            refine anyH_done (by kernel_rfl) ?_
            intro u303 E2'
            have EX302 := Lib.hid E2'
            clear E2'
            go_upto_region 18 with (fail)
            refine wp_region_Hx (w0 := U) [0, 1, 2, 3, 4, 5] [] rfl EX302.out ?_
            refine lexH_phase [0, 1, 2, 3, 4, 5] [] ?_
            have hw304 : EnvX U _ [] := EX302.out
            have hone := @EnvC.one _ _ _ hw304
            (refine wpG_op rfl rfl rfl ?_; intro K hK; go_big_quiet_op; go_big_quiet_on)
            (refine wpG_op rfl rfl rfl ?_; intro K hK; go_big_quiet_op; go_big_quiet_on)
            (refine wpG_val (v := .pointer (some (aq.add (k * 37)))) rfl rfl (fun u hu => idxSl_op Tryd.underlying22 aggTot.size HKM.out u rfl rfl) ?_ hw304; intro K hK; go_big_quiet_op; go_big_quiet_on)
            (refine wpG_val (v := .pointer (some ((aq.add (k * 37)).add 36))) rfl rfl (fun u hu => fieldT_op (k := 2) (off := 36) rfl u rfl) ?_ hw304; intro K hK; go_big_quiet_op; go_big_quiet_on)
            (refine wpG_val (v := .int .i64 ((z k : Nat) : Int)) rfl rfl (fun u hu => load_any_op u (HLD.out u (EnvX.sub hu (fun _ h => by cases h))) rfl) ?_ hw304; intro K hK; go_big_quiet_op; go_big_quiet_on)
            (refine wpG_op rfl rfl rfl ?_; intro K hK; go_big_quiet_op; go_big_quiet_on)
            clear hone hw304
            refine wpG_nil ?_
            intro u306 E2'
            have EX305 := Lib.hid E2'
            clear E2'
            go_upto_region 19 with (fail)
            have EV := EX305
            clear EX305
            go_loopw [14] (fun v u => ∃ y : Nat, pow7 y ∧ v = .int .i64 (y : Int) ∧ Hid (EnvX U u [])) (fun v _ => (intOf v).toNat)
            case atStart => exact ⟨z k, HKF.out.2.1, rfl, EV⟩
            case round =>
              obtain ⟨y, hy, rfl, EY⟩ := hrel
              clear EV
              rcases hy with rfl | rfl | rfl | rfl | rfl | rfl | rfl
              · go_upto_region 23 with (fail)
                refine wp_region_Hx (w0 := U) [0, 1, 2, 3, 4, 5, 6, 7] [] rfl EY.out ?_
                refine lexH_phase [0, 1, 2, 3, 4, 5, 6, 7] [] ?_
                have hw307 : EnvX U _ [] := EY.out
                have hone := @EnvC.one _ _ _ hw307
                (refine wpG_op rfl rfl rfl ?_; intro K hK; go_big_quiet_op; go_big_quiet_on)
                (refine wpG_op rfl rfl rfl ?_; intro K hK; go_big_quiet_op; go_big_quiet_on)
                (refine wpG_op rfl rfl rfl ?_; intro K hK; go_big_quiet_op; go_big_quiet_on)
                (refine wpG_val (v := .pointer (some (aq.add (k * 37)))) rfl rfl (fun u hu => idxSl_op Tryd.underlying22 aggTot.size HKM.out u rfl rfl) ?_ hw307; intro K hK; go_big_quiet_op; go_big_quiet_on)
                (refine wpG_val (v := .pointer (some ((aq.add (k * 37)).add 36))) rfl rfl (fun u hu => fieldT_op (k := 2) (off := 36) rfl u rfl) ?_ hw307; intro K hK; go_big_quiet_op; go_big_quiet_on)
                (refine wpG_val (v := .int .i64 ((z k : Nat) : Int)) rfl rfl (fun u hu => load_any_op u (HLD.out u (EnvX.sub hu (fun _ h => by cases h))) rfl) ?_ hw307; intro K hK; go_big_quiet_op; go_big_quiet_on)
                (refine wpG_val (v := .int .i64 ((S (k + 1) : Nat) : Int)) rfl rfl (fun u hu => add_op u HADD.out.1 HADD.out.2 rfl rfl) ?_ hw307; intro K hK; go_big_quiet_op; go_big_quiet_on)
                (refine wpG_op rfl rfl rfl ?_; intro K hK; go_big_quiet_op; go_big_quiet_on)
                clear hone hw307
                refine wpG_nil ?_
                intro u309 E2'
                have EX308 := Lib.hid E2'
                clear E2'
                go_wp2
                go_roundw
                case rel => exact ⟨k + 1, by omega, rfl, by go_num, EX308⟩
                case measure => simp [intOf]; omega
              · go_wp2
                go_roundw
                case rel => exact ⟨1, by unfold pow7; omega, rfl, EY⟩
                case measure => simp [intOf]
              · go_wp2
                go_roundw
                case rel => exact ⟨2, by unfold pow7; omega, rfl, EY⟩
                case measure => simp [intOf]
              · go_wp2
                go_roundw
                case rel => exact ⟨4, by unfold pow7; omega, rfl, EY⟩
                case measure => simp [intOf]
              · go_wp2
                go_roundw
                case rel => exact ⟨8, by unfold pow7; omega, rfl, EY⟩
                case measure => simp [intOf]
              · go_wp2
                go_roundw
                case rel => exact ⟨16, by unfold pow7; omega, rfl, EY⟩
                case measure => simp [intOf]
              · go_wp2
                go_roundw
                case rel => exact ⟨32, by unfold pow7; omega, rfl, EY⟩
                case measure => simp [intOf]
          · have h0' : ¬ (0 : Int) < (k : Int) := by omega
            have HGT : Hid (decide ((0 : Int) < (k : Int)) = false) := decide_eq_false h0'
            go_upto_region 16 with (fail)
            refine wp_region_H (w0 := U) [] (by kernel_rfl) EK.out ?_
            refine anyH_phase [0, 1, 2, 3, 4, 5, 6, 7, 8, 9, 10, 11, 12, 13, 14, 15, 16, 17, 18, 19, 20, 21, 22, 23] 0 rfl ⟨_, (EnvX.drew EK.out)⟩ (by kernel_rfl) ?_
            have hw601 : EnvX U _ [] := (EnvX.drew EK.out)
            have hone := @EnvC.one _ _ _ hw601
            (refine wpG_op rfl rfl rfl ?_; intro K hK; go_big_quiet_op; go_big_quiet_on)
            (refine wpG_op rfl rfl rfl ?_; intro K hK; go_big_quiet_op; go_big_quiet_on)
            (refine wpG_val (v := .pointer (some (aq.add (k * 37)))) rfl rfl (fun u hu => idxSl_op Tryd.underlying22 aggTot.size HKM.out u rfl rfl) ?_ hw601; intro K hK; go_big_quiet_op; go_big_quiet_on)
            (refine wpG_val (v := .pointer (some ((aq.add (k * 37)).add 36))) rfl rfl (fun u hu => fieldT_op (k := 2) (off := 36) rfl u rfl) ?_ hw601; intro K hK; go_big_quiet_op; go_big_quiet_on)
            (refine wpG_val (v := .int .i64 ((z k : Nat) : Int)) rfl rfl (fun u hu => load_any_op u (HLD.out u (EnvX.sub hu (fun _ h => by cases h))) rfl) ?_ hw601; intro K hK; go_big_quiet_op; go_big_quiet_on)
            (refine wpG_val (v := .bool false) rfl rfl (fun u hu => lssI_op u HZ11.out rfl rfl) ?_ hw601; intro K hK; go_big_quiet_op; go_big_quiet_on)
            (refine wpG_op rfl rfl rfl ?_; intro K hK; go_big_quiet_op; go_big_quiet_on)
            (refine wpG_op rfl rfl rfl ?_; intro K hK; go_big_quiet_op; go_big_quiet_on)
            (refine wpG_val (v := .bool false) rfl rfl (fun u hu => gtrI_op u HGT.out rfl rfl) ?_ hw601; intro K hK; go_big_quiet_op; go_big_quiet_on)
            (refine wpG_op rfl rfl rfl ?_; intro K hK; go_big_quiet_op; go_big_quiet_on)
            (refine wpG_skip rfl rfl ?_ hw601; intro K hK; go_big_quiet_op; go_big_quiet_on)
            (refine wpG_skip rfl rfl ?_ hw601; intro K hK; go_big_quiet_op; go_big_quiet_on)
            (refine wpG_skip rfl rfl ?_ hw601; intro K hK; go_big_quiet_op; go_big_quiet_on)
            (refine wpG_skip rfl rfl ?_ hw601; intro K hK; go_big_quiet_op; go_big_quiet_on)
            (refine wpG_skip rfl rfl ?_ hw601; intro K hK; go_big_quiet_op; go_big_quiet_on)
            (refine wpG_skip rfl rfl ?_ hw601; intro K hK; go_big_quiet_op; go_big_quiet_on)
            (refine wpG_skip rfl rfl ?_ hw601; intro K hK; go_big_quiet_op; go_big_quiet_on)
            (refine wpG_skip rfl rfl ?_ hw601; intro K hK; go_big_quiet_op; go_big_quiet_on)
            (refine wpG_skip rfl rfl ?_ hw601; intro K hK; go_big_quiet_op; go_big_quiet_on)
            (refine wpG_skip rfl rfl ?_ hw601; intro K hK; go_big_quiet_op; go_big_quiet_on)
            (refine wpG_skip rfl rfl ?_ hw601; intro K hK; go_big_quiet_op; go_big_quiet_on)
            (refine wpG_skip rfl rfl ?_ hw601; intro K hK; go_big_quiet_op; go_big_quiet_on)
            (refine wpG_op rfl rfl rfl ?_; intro K hK; go_big_quiet_op; go_big_quiet_on)
            (refine wpG_op rfl rfl rfl ?_; intro K hK; go_big_quiet_op; go_big_quiet_on)
            clear hone hw601
            refine wpG_nil ?_
            refine anyH_done (by kernel_rfl) ?_
            intro u603 E2'
            have EX602 := Lib.hid E2'
            clear E2'
            go_upto_region 18 with (fail)
            refine wp_region_Hx (w0 := U) [0, 1, 2, 3, 4, 5] [] rfl EX602.out ?_
            refine lexH_phase [0, 1, 2, 3, 4, 5] [] ?_
            have hw604 : EnvX U _ [] := EX602.out
            have hone := @EnvC.one _ _ _ hw604
            (refine wpG_op rfl rfl rfl ?_; intro K hK; go_big_quiet_op; go_big_quiet_on)
            (refine wpG_op rfl rfl rfl ?_; intro K hK; go_big_quiet_op; go_big_quiet_on)
            (refine wpG_val (v := .pointer (some (aq.add (k * 37)))) rfl rfl (fun u hu => idxSl_op Tryd.underlying22 aggTot.size HKM.out u rfl rfl) ?_ hw604; intro K hK; go_big_quiet_op; go_big_quiet_on)
            (refine wpG_val (v := .pointer (some ((aq.add (k * 37)).add 36))) rfl rfl (fun u hu => fieldT_op (k := 2) (off := 36) rfl u rfl) ?_ hw604; intro K hK; go_big_quiet_op; go_big_quiet_on)
            (refine wpG_val (v := .int .i64 ((z k : Nat) : Int)) rfl rfl (fun u hu => load_any_op u (HLD.out u (EnvX.sub hu (fun _ h => by cases h))) rfl) ?_ hw604; intro K hK; go_big_quiet_op; go_big_quiet_on)
            (refine wpG_op rfl rfl rfl ?_; intro K hK; go_big_quiet_op; go_big_quiet_on)
            clear hone hw604
            refine wpG_nil ?_
            intro u606 E2'
            have EX605 := Lib.hid E2'
            clear E2'
            go_upto_region 19 with (fail)
            have EV := EX605
            clear EX605
            go_loopw [14] (fun v u => ∃ y : Nat, pow7 y ∧ v = .int .i64 (y : Int) ∧ Hid (EnvX U u [])) (fun v _ => (intOf v).toNat)
            case atStart => exact ⟨z k, HKF.out.2.1, rfl, EV⟩
            case round =>
              obtain ⟨y, hy, rfl, EY⟩ := hrel
              clear EV
              rcases hy with rfl | rfl | rfl | rfl | rfl | rfl | rfl
              · go_upto_region 23 with (fail)
                refine wp_region_Hx (w0 := U) [0, 1, 2, 3, 4, 5, 6, 7] [] rfl EY.out ?_
                refine lexH_phase [0, 1, 2, 3, 4, 5, 6, 7] [] ?_
                have hw607 : EnvX U _ [] := EY.out
                have hone := @EnvC.one _ _ _ hw607
                (refine wpG_op rfl rfl rfl ?_; intro K hK; go_big_quiet_op; go_big_quiet_on)
                (refine wpG_op rfl rfl rfl ?_; intro K hK; go_big_quiet_op; go_big_quiet_on)
                (refine wpG_op rfl rfl rfl ?_; intro K hK; go_big_quiet_op; go_big_quiet_on)
                (refine wpG_val (v := .pointer (some (aq.add (k * 37)))) rfl rfl (fun u hu => idxSl_op Tryd.underlying22 aggTot.size HKM.out u rfl rfl) ?_ hw607; intro K hK; go_big_quiet_op; go_big_quiet_on)
                (refine wpG_val (v := .pointer (some ((aq.add (k * 37)).add 36))) rfl rfl (fun u hu => fieldT_op (k := 2) (off := 36) rfl u rfl) ?_ hw607; intro K hK; go_big_quiet_op; go_big_quiet_on)
                (refine wpG_val (v := .int .i64 ((z k : Nat) : Int)) rfl rfl (fun u hu => load_any_op u (HLD.out u (EnvX.sub hu (fun _ h => by cases h))) rfl) ?_ hw607; intro K hK; go_big_quiet_op; go_big_quiet_on)
                (refine wpG_val (v := .int .i64 ((S (k + 1) : Nat) : Int)) rfl rfl (fun u hu => add_op u HADD.out.1 HADD.out.2 rfl rfl) ?_ hw607; intro K hK; go_big_quiet_op; go_big_quiet_on)
                (refine wpG_op rfl rfl rfl ?_; intro K hK; go_big_quiet_op; go_big_quiet_on)
                clear hone hw607
                refine wpG_nil ?_
                intro u609 E2'
                have EX608 := Lib.hid E2'
                clear E2'
                go_wp2
                go_roundw
                case rel => exact ⟨k + 1, by omega, rfl, by go_num, EX608⟩
                case measure => simp [intOf]; omega
              · go_wp2
                go_roundw
                case rel => exact ⟨1, by unfold pow7; omega, rfl, EY⟩
                case measure => simp [intOf]
              · go_wp2
                go_roundw
                case rel => exact ⟨2, by unfold pow7; omega, rfl, EY⟩
                case measure => simp [intOf]
              · go_wp2
                go_roundw
                case rel => exact ⟨4, by unfold pow7; omega, rfl, EY⟩
                case measure => simp [intOf]
              · go_wp2
                go_roundw
                case rel => exact ⟨8, by unfold pow7; omega, rfl, EY⟩
                case measure => simp [intOf]
              · go_wp2
                go_roundw
                case rel => exact ⟨16, by unfold pow7; omega, rfl, EY⟩
                case measure => simp [intOf]
              · go_wp2
                go_roundw
                case rel => exact ⟨32, by unfold pow7; omega, rfl, EY⟩
                case measure => simp [intOf]
        · obtain rfl : pk = k := by omega
          have hge2 : ¬ (pk : Int) < (pk : Int) := by omega
          have HRC : Hid (∀ u, EnvX U u [] → Calls Tryd.prog 18 #[.slice Aq pk cq] u fun e w' => e = .returned (.agg (totA rt)) ∧ Below u.heap.size u w') := fun u hu => by
            have h := HM.out.root q Aq pk cq u HPKN.out (by omega) HQ.out.1 HQ.out.2 HPKK.out.1 (HTQU.out.up (EnvX.bel hu)) (HTU.out.below (EnvX.bel hu))
            rwa [HRT.out] at h
          have HAC : Hid (∀ u, EnvX U u [] → Calls Tryd.prog 28 #[.slice Al n cl] u fun e w' => e = .returned (.agg (totA rt)) ∧ Below u.heap.size u w') := fun u hu => by
            have h := rmall_any n l Al cl u HLS.out.1 (by omega) hl1 HLC.out HLS.out.2.1 (HTLU.out.up (EnvX.bel hu))
            rwa [HALL.out] at h
          have HET : Hid (eqT rt rt = true) := decide_eq_true rfl
          have HEW : Hid (rt.w < Big ∧ s n < Big ∧ eqN rt.w (s n) = true) := ⟨HROK.out.2.1, HSB.out n (by omega), decide_eq_true HNW.out.2⟩
          have HNB : Hid (n < 9223372036854775808) := by show _ < _; omega
          rw [HZ1.out]
          go_upto_region 24 with (fail)
          refine wp_region_Hx (w0 := U) [0, 1, 2, 3] [] rfl EK.out ?_
          refine lexH_phase [0, 1] [2, 3] ?_
          have hw901 : EnvX U _ [] := EK.out
          have hone := @EnvC.one _ _ _ hw901
          (refine wpG_op rfl rfl rfl ?_; intro K hK; go_big_quiet_op; go_big_quiet_on)
          (refine wpG_call (f := 18) (args := #[.slice Aq pk cq]) (v := .agg (totA rt)) rfl rfl rfl Tryd.func18 rfl rfl (fun u hu => HRC.out u (EnvX.sub hu (fun _ h => by cases h))) ?_ hw901; intro K hK; go_big_quiet_op; go_big_quiet_on)
          clear hone hw901
          refine wpG_nil ?_
          refine (hOp_fresh (R := fun x N => ∃ g, x = .pointer (some ⟨g, 0, none⟩) ∧ N = [(g, Obj.cells (totA zTot) 29 (0, 0))]) (M0 := []) rfl rfl (fun _ h => h) (fun u hu => FAt_new (new_tot _) u) ?_)
          rintro _ _ ⟨g15, rfl, rfl⟩ hf he902; intro K' hK'; go_big_quiet_op; go_big_quiet_on
          have HGg15 := Lib.hid (hf _ (List.mem_singleton.2 rfl))
          clear hf
          change lexH _ _ _ _ _ _ [(g15, Obj.cells (totA zTot) 29 (0, 0))]
          refine (hOp_store rfl (g15) (totA (rt)) rfl rfl HGg15.out.1 29 ((totA zTot)) (List.Mem.head _) (infoTot _ (totA_size HROK.out.len)) (zTot_size.trans (totA_size HROK.out.len).symm) (totA_one _) [(g15, Obj.cells (totA (rt)) 29 (0, 0))] (List.forall_mem_cons.2 ⟨.inl rfl, (fun _ h => by cases h)⟩) ?_)
          intro he903
          intro u905 E2'
          have EX904 := Lib.hid E2'
          clear E2'
          go_upto_region 25 with (fail)
          refine wp_region_H (w0 := U) [(g15, Obj.cells (totA rt) 29 (0, 0))] (by kernel_rfl) EX904.out ?_
          refine anyH_phase [0, 1, 2, 3, 4, 5, 6, 7, 8, 9, 10, 11, 12, 13, 14, 15, 16, 17, 18, 19, 20, 21, 22, 23] 0 rfl ⟨_, (EnvX.drew EX904.out)⟩ (by kernel_rfl) ?_
          have hw906 : EnvX U _ [(g15, Obj.cells (totA rt) 29 (0, 0))] := (EnvX.drew EX904.out)
          have hone := @EnvC.one _ _ _ hw906
          (refine wpG_val (v := .agg (totA rt)) rfl rfl (fun u hu => load_any_op u (box_tot hu (List.Mem.head _) HROK.out.len) rfl) ?_ hw906; intro K hK; go_big_quiet_op; go_big_quiet_on)
          (refine wpG_op rfl rfl rfl ?_; intro K hK; go_big_quiet_op; go_big_quiet_on)
          (refine wpG_call (f := 28) (args := #[.slice Al n cl]) (v := .agg (totA rt)) rfl rfl rfl Tryd.func28 rfl rfl (fun u hu => HAC.out u (EnvX.sub hu (fun _ h => by cases h))) ?_ hw906; intro K hK; go_big_quiet_op; go_big_quiet_on)
          (refine wpG_val (v := .bool true) rfl rfl (fun u hu => eqlTb_op HROK.out HROK.out HET.out u rfl rfl) ?_ hw906; intro K hK; go_big_quiet_op; go_big_quiet_on)
          (refine wpG_op rfl rfl rfl ?_; intro K hK; go_big_quiet_op; go_big_quiet_on)
          (refine wpG_op rfl rfl rfl ?_; intro K hK; go_big_quiet_op; go_big_quiet_on)
          (refine wpG_val (v := .agg (wcs rt.w)) rfl rfl (fun u hu => load_any_op u (box_totW hu (List.Mem.head _) HROK.out.len) rfl) ?_ hw906; intro K hK; go_big_quiet_op; go_big_quiet_on)
          (refine wpG_val (v := .agg (wcs (s n))) rfl rfl (fun u hu => load_any_op u (HLB.out u (EnvX.sub hu (fun _ h => by cases h))) rfl) ?_ hw906; intro K hK; go_big_quiet_op; go_big_quiet_on)
          (refine wpG_val (v := .bool true) rfl rfl (fun u hu => eqlW_op HEW.out.1 HEW.out.2.1 HEW.out.2.2 u rfl rfl) ?_ hw906; intro K hK; go_big_quiet_op; go_big_quiet_on)
          (refine wpG_op rfl rfl rfl ?_; intro K hK; go_big_quiet_op; go_big_quiet_on)
          (refine wpG_op rfl rfl rfl ?_; intro K hK; go_big_quiet_op; go_big_quiet_on)
          (refine wpG_op rfl rfl rfl ?_; intro K hK; go_big_quiet_op; go_big_quiet_on)
          (refine wpG_val (v := .int .i64 (n : Int)) rfl rfl (fun u hu => load_any_op u (by have h := box_totN hu (List.Mem.head _) HROK.out.len; rw [HNW.out.1] at h; exact h) rfl) ?_ hw906; intro K hK; go_big_quiet_op; go_big_quiet_on)
          (refine wpG_op rfl rfl rfl ?_; intro K hK; go_big_quiet_op; go_big_quiet_on)
          (refine wpG_val (v := .int .i64 (n : Int)) rfl rfl (fun u hu => len_op Tryd.underlying22 HNB.out u rfl) ?_ hw906; intro K hK; go_big_quiet_op; go_big_quiet_on)
          (refine wpG_val (v := .bool true) rfl rfl (fun u hu => eqlI_op u (decide_eq_true rfl) rfl rfl) ?_ hw906; intro K hK; go_big_quiet_op; go_big_quiet_on)
          (refine wpG_op rfl rfl rfl ?_; intro K hK; go_big_quiet_op; go_big_quiet_on)
          (refine wpG_op rfl rfl rfl ?_; intro K hK; go_big_quiet_op; go_big_quiet_on)
          (refine wpG_op rfl rfl rfl ?_; intro K hK; go_big_quiet_op; go_big_quiet_on)
          (refine wpG_op rfl rfl rfl ?_; intro K hK; go_big_quiet_op; go_big_quiet_on)
          (refine wpG_val (v := .int .i64 (n : Int)) rfl rfl (fun u hu => len_op Tryd.underlying22 HNB.out u rfl) ?_ hw906; intro K hK; go_big_quiet_op; go_big_quiet_on)
          (refine wpG_val (v := .bool true) rfl rfl (fun u hu => eqlI_op u (decide_eq_true rfl) rfl rfl) ?_ hw906; intro K hK; go_big_quiet_op; go_big_quiet_on)
          (refine wpG_op rfl rfl rfl ?_; intro K hK; go_big_quiet_op; go_big_quiet_on)
          (refine wpG_op rfl rfl rfl ?_; intro K hK; go_big_quiet_op; go_big_quiet_on)
          clear hone hw906
          refine wpG_nil ?_
          refine anyH_done (by kernel_rfl) ?_
          intro u908 E2'
          have EX907 := Lib.hid E2'
          clear E2'
          go_wp2
          go_ret
          exact ⟨rfl, HBU.out.trans ((EnvX.bel EX907.out).mono HBU.out.size)⟩
theorem law_mwhole (T : MmrC) (ids : List (List Int)) (ws : List Nat) (A A2 : Option Addr) (n c m c2 : Nat) (w : World)
    (hl : ids.length = n) (hm : ws.length = m) (hnc : n ≤ c) (hcm : c ≤ maxLen) (hmc : m ≤ c2) (hc2 : c2 ≤ maxLen) (hI : isIds ids) (hA : IdsIn w w.heap.size A ids) (hb : ∀ x ∈ ws, x < 4294967296) (hA2 : CellsIn w w.heap.size A2 (ws.map u32V)) (ht : Tables w) :
    Calls Tryd.prog 4 #[.slice A n c, .slice A2 m c2] w fun e w' => e = .returned (.bool true) ∧ Below w.heap.size w w' := by
  by_cases c0 : 64 < n
  · exact law_mwhole_a T ids ws A A2 n c m c2 w hl hm hnc hcm hmc hc2 hI hA hb hA2 ht c0
  · exact law_mwhole_e T ids ws A A2 n c m c2 w hl hm hnc hcm hmc hc2 hI hA hb hA2 ht (by omega)
end Go.Proofs.YtbmiecogjmbciaaDoor

namespace Go.Proofs.YtbmiecogjmbciaaDoor.mmrWhole
set_option maxRecDepth 8000
open Go.ChangeShapes Go.WideShapes Go.ChangeAt Go.RowKit

theorem contract (H : Type) (enc : TypeId × Value → H) (W : World) (base : Nat) (args : Array Value) (ds gs : List (DataW H)) (before : List MemPlace)
    (hval : ∀ (j : Nat) t v, Tryd.f4.params[j]? = some t → args[j]? = some v → Value.okWide Tryd.prog W .any base t v)
    (hW : DataW.Whole enc Tryd.prog Tryd.f4.params.toList Rows.mmrWholeSpec.vars false W args.toList ds gs before) (hL : laidMetH Tryd.prog Rows.mmrWholeRow.laid W) :
    Calls Tryd.prog 4 args W fun e W' => ∃ v, e = .returned v ∧ Rows.mmrWholeSpec.post enc Tryd.prog Tryd.f4 false true false false W args v W' := by
  have hW' := hW
  obtain ⟨p, q, hA0, hV, rfl, hfz, hnd⟩ := hW
  have hA : DataW.TrodAll enc Tryd.prog W 0 (fun _ => true) true Tryd.f4.params.toList args.toList ds p := hA0
  rw [Tryd.params4] at hA hval
  obtain ⟨v0, vs0, d0, ds0, p0, q0, hargs, rfl, rfl, h0, r0⟩ := trodAll_cons hA
  obtain ⟨v1, vs1, d1, ds1, p1, q1, rfl, rfl, rfl, h1, r1⟩ := trodAll_cons r0
  obtain ⟨rfl, rfl, rfl⟩ := trodAll_nil r1
  obtain rfl : args = #[v0, v1] := by cases args; simp_all
  obtain ⟨rfl, rfl⟩ := trodVars_none hV
  have lt0 : ∀ x ∈ p0, x.block < W.heap.size := by obtain ⟨m, hm⟩ := h0; exact DataW.trod_lt m _ _ _ hm
  obtain ⟨a0, n0, c0, x0, rfl, lx0, nc0, cm0, ix0, px0⟩ := open_ids (hval 0 41 v0 rfl rfl) h0
  have lt1 : ∀ x ∈ p1, x.block < W.heap.size := by obtain ⟨m, hm⟩ := h1; exact DataW.trod_lt m _ _ _ hm
  obtain ⟨a1, n1, c1, x1, rfl, lx1, nc1, cm1, bx1, px1⟩ := open_u32s (hval 1 42 v1 rfl rfl) h1
  clear hA0
  refine (law_mwhole mmrC x0 x1 a0 a1 n0 c0 n1 c1 W lx0 lx1 nc0 cm0 nc1 cm1 ix0 px0 bx1 px1 (tables_of_laid hL)).mono fun e W' ⟨he, bel⟩ => ?_
  subst he
  exact ⟨_, rfl, _, _, _, [], _, [], hW', trodAll_mk1 (shut_bool Tryd.underlying4 _), (trodAll_cons_mk (Below.trod laidOut (by kernel_rfl) (of_decide_eq_true (by kernel_rfl)) h0 bel lt0) (trodAll_cons_mk (Below.trod laidOut (by kernel_rfl) (of_decide_eq_true (by kernel_rfl)) h1 bel lt1) trodAll_mk0)), rfl, bel.frame _, fun h => by cases h⟩

def start : Array Value := #[.slice none 0 0, .slice none 0 0]
theorem reads (os : Os) {H : Type} (enc : TypeId × Value → H) : ∃ places, DataW.whole enc Tryd.prog ((laidWorld os).forCall (fun _ _ => 0) ⟨#[], start, []⟩).memory Tryd.f4.params.toList Rows.mmrWholeSpec.vars false start.toList 8 = some ([.nil, .nil], [], places) :=
  ⟨[], by kernel_rfl⟩

set_option maxRecDepth 100000 in
theorem lifted (os : Os) (started : os.Started) (H : Type) (enc : TypeId × Value → H) (F : Stop.Interp) :
    ReturnsInHanded {} Tryd.checked os 4 .any ((OpenSpec.ofChange Rows.mmrWholeSpec).preRow enc Tryd.prog Tryd.f4 Rows.mmrWholeRow.domain false Rows.mmrWholeRow.laid) (((OpenSpec.ofChange Rows.mmrWholeSpec).at F).post enc Tryd.prog Tryd.f4 false true false false) := by
  obtain ⟨places, hx⟩ := reads os enc
  refine returnsInHanded_of_row (C := Tryd.checked) (s := OpenSpec.ofChange Rows.mmrWholeSpec) own started (by kernel_rfl) Tryd.func4
    (witness_row_at (enc := enc) (C := Tryd.checked) false (laidWorld os) start rfl (by kernel_rfl) (by kernel_rfl) (by kernel_rfl)
      (OpenSpec.preRow_of_cond 8 hx (by kernel_rfl) (fun k hk => by cases hk) (by kernel_rfl) (laidMet_of_run' 8 (by kernel_rfl) (by kernel_rfl)))) ?_
  intro W base args ds gs before hval hW _ _ _ hL _ _
  exact contract H enc W base args ds gs before hval hW hL

theorem said : Rows.MmrWholeSaid :=
  OpenClaim.holds_of_cond 4 Tryd.f4 rfl rfl rfl rfl rfl rfl rfl ⟨rfl, rfl, rfl, rfl, rfl⟩ rfl rfl rfl rfl rfl (by kernel_rfl) Tryd.func4 (by kernel_rfl)
    (of_decide_eq_true (by kernel_rfl)) (by unfold Func.isWrapper; first | (rw [if_pos (by decide +kernel)]; kernel_rfl) | (rw [if_neg (by decide +kernel)]; exact ⟨rfl, rfl⟩))
    (fun os started H enc _ F => by rw [OpenClaim.pre_eq_preRow]; exact lifted os started H enc F)

theorem plain (f : FuncId) (fn : Func) (hf : Tryd.pinned.checked.prog.funcNamed "stepladder/stepladderlaw06.MmrWhole" = some f) (hfn : Tryd.pinned.checked.prog.funcs[f]? = some fn) :
    false = Tryd.pinned.checked.prog.looks [] ∧ ∀ (j : Nat) t, fn.params[j]? = some t → Tryd.pinned.checked.prog.wantsStandIn t = false := by
  obtain rfl : f = 4 := Option.some.inj ((show Tryd.prog.funcNamed "stepladder/stepladderlaw06.MmrWhole" = some 4 by kernel_rfl).symm.trans hf) |>.symm
  obtain rfl : fn = Tryd.f4 := (Option.some.inj (Tryd.func4.symm.trans hfn)).symm
  refine ⟨by kernel_rfl, fun j t ht => ?_⟩
  rw [Tryd.params4] at ht
  have hm : t = 41 ∨ t = 42 := by simpa using Array.mem_of_getElem? ht
  rcases hm with rfl | rfl
  · exact (show Tryd.prog.wantsStandIn 41 = false by kernel_rfl)
  · exact (show Tryd.prog.wantsStandIn 42 = false by kernel_rfl)
theorem card : Rows.MmrWholeCardSaid :=
  Claim7.holds_tied_plain_at .later [] _ _ _ _ said (fun _ h => by cases h) (by kernel_rfl) (fun _ h => by cases h) mmrWhole_row_tie rfl ⟨rfl, rfl⟩ (by kernel_rfl) rfl plain (by kernel_rfl)

end Go.Proofs.YtbmiecogjmbciaaDoor.mmrWhole
