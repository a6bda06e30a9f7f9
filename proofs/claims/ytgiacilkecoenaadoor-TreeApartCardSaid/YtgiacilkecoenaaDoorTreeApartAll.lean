/-
  PROVED: the law stepladderlaw05.TreeApart answers true for every input, and leaves its arguments as they were.
  Conditions: the two package-level tables of package sha hold at the call what their initialisers lay; the card ties that to the text of the program (a pruned copy of the project: the packages that the roots of this seat load).
-/
import Derived.Test.YtgiacilkecoenaaDoorCq
namespace Go.Proofs.YtgiacilkecoenaaDoor
open Go.RowKit

/-- what Clash answers for a true path of another tree of the same root -/
theorem apart_texts {l q : List (List Int)} {i : Nat} (hI : isIds l) (hJ : isIds q) (h64 : l.length ≤ 64) (hlq : l.length = q.length) (hi : i < l.length) (hr : rootT l = rootT q) (hne : l.getD i [] ≠ q.getD i []) :
    ∃ a b, clashP q i (l.getD i []) (pathT l i) = (a, b, true) ∧ a ≠ b ∧ sumL a = sumL b ∧ a.length = 65 ∧ b.length = 65 ∧ (∀ x ∈ a, 0 ≤ x ∧ x ≤ 255) ∧ ∀ x ∈ b, 0 ≤ x ∧ x ≤ 255 := by
  have hc : checkT (rootT q) q.length i (l.getD i []) (pathT l i) = true := by
    rw [← hr, ← hlq]
    exact check_path h64 hi
  have hLI := hI.get hi
  have hQI := hJ.get (i := i) (by omega)
  have hp := path_ids l.length l i rfl hI
  have hp2 := path_ids q.length q i rfl hJ
  obtain ⟨a, b, h1, h2, h3⟩ := clash_some (l := q) (i := (i : Int)) (by omega) hc (by simpa using hne) hLI.1 (fun x hx => (hJ x hx).1) (fun x hx => (hp x hx).1) sumL_len
  obtain ⟨j, hj, h4, _, _⟩ := clash_meet (l := q) (i := i) (by omega) hc hne
  rw [h4] at h1
  have hlen := path_len q.length q i rfl
  have hlen2 := path_len l.length l i rfl
  rw [hlq] at hlen2
  have k1 := hp.get (i := j) (by omega)
  have k2 := hp2.get (i := j) (by omega)
  have g1 := climb_id (sidesT q.length i) (l.getD i []) (pathT l i) hLI j
  have g2 := climb_id (sidesT q.length i) (q.getD i []) (pathT q i) hQI j
  have hst : ∀ (s : Bool) (x y : List Int), isId x → isId y → (stepText s x y).length = 65 ∧ ∀ b ∈ stepText s x y, 0 ≤ b ∧ b ≤ 255 := fun s x y hx hy => ⟨stepText_len s hx.1 hy.1, by
    cases s
    · exact textT_byte hy.2 hx.2
    · exact textT_byte hx.2 hy.2⟩
  have e := Option.some.inj h1
  have ea := congrArg Prod.fst e
  have eb := congrArg Prod.snd e
  simp only at ea eb
  have m1 := hst ((sidesT q.length i).getD j true) _ _ g1 k1
  have m2 := hst ((sidesT q.length i).getD j true) _ _ g2 k2
  refine ⟨a, b, ?_, h2, h3, by rw [← ea]; exact m1.1, by rw [← eb]; exact m2.1, by rw [← ea]; exact m1.2, by rw [← eb]; exact m2.2⟩
  unfold clashP
  rw [h4, ← ea, ← eb]
set_option maxRecDepth 20000 in
set_option maxHeartbeats 1000000 in
theorem law_apart_a (T : TreeC) (l q : List (List Int)) (A A2 : Option Addr) (n c m c2 : Nat) (i : Int) (w : World)
    (hl : l.length = n) (hq : q.length = m) (hnc : n ≤ c) (hcm : c ≤ maxLen) (hmc : m ≤ c2) (hc2 : c2 ≤ maxLen) (hI : isIds l) (hA : IdsIn w w.heap.size A l) (hJ : isIds q) (hA2 : IdsIn w w.heap.size A2 q) (hi : I64 i) (ht : Tables w) (c0 : 32 < n) :
    Calls Tryd.prog 7 #[.slice A n c, .slice A2 m c2, .int .i64 i] w fun e w' => e = .returned (.bool true) ∧ Below w.heap.size w w' := by
  have c0' : (32 : Int) < (n : Int) := by omega
  unfold I64 at hi
  have HAW := Lib.hid (awake_any T w ht)
  have HT := Lib.hid ht
  have HTREE := Lib.hid T
  have HL := Lib.hid hl
  have HQ := Lib.hid hq
  have HI := Lib.hid (And.intro hI hA)
  have HJ := Lib.hid (And.intro hJ hA2)
  have HCM := Lib.hid (And.intro hcm hc2)
  unfold maxLen at hcm hc2
  clear ht T hl hq hI hA hJ hA2
  go_enter Tryd.func7, Tryd.ntmps7
  go_wp2_with fail
  refine HAW.out.mono ?_
  rintro e w1 ⟨rfl, hb1⟩
  have HB1 := Lib.hid hb1
  clear hb1 HAW
  go_wp2
  go_ret
  exact ⟨rfl, HB1.out⟩
set_option maxRecDepth 20000 in
set_option maxHeartbeats 1000000 in
theorem law_apart_b (T : TreeC) (l q : List (List Int)) (A A2 : Option Addr) (n c m c2 : Nat) (i : Int) (w : World)
    (hl : l.length = n) (hq : q.length = m) (hnc : n ≤ c) (hcm : c ≤ maxLen) (hmc : m ≤ c2) (hc2 : c2 ≤ maxLen) (hI : isIds l) (hA : IdsIn w w.heap.size A l) (hJ : isIds q) (hA2 : IdsIn w w.heap.size A2 q) (hi : I64 i) (ht : Tables w) (c0 : n ≤ 32 ∧ n ≠ m) :
    Calls Tryd.prog 7 #[.slice A n c, .slice A2 m c2, .int .i64 i] w fun e w' => e = .returned (.bool true) ∧ Below w.heap.size w w' := by
  obtain ⟨c0, c1⟩ := c0
  have c0' : ¬ (32 : Int) < (n : Int) := by omega
  have c1' : ¬ (n : Int) = (m : Int) := by omega
  unfold I64 at hi
  have HAW := Lib.hid (awake_any T w ht)
  have HT := Lib.hid ht
  have HTREE := Lib.hid T
  have HL := Lib.hid hl
  have HQ := Lib.hid hq
  have HI := Lib.hid (And.intro hI hA)
  have HJ := Lib.hid (And.intro hJ hA2)
  have HCM := Lib.hid (And.intro hcm hc2)
  unfold maxLen at hcm hc2
  clear ht T hl hq hI hA hJ hA2
  go_enter Tryd.func7, Tryd.ntmps7
  go_wp2_with fail
  refine HAW.out.mono ?_
  rintro e w1 ⟨rfl, hb1⟩
  have HB1 := Lib.hid hb1
  clear hb1 HAW
  go_wp2
  go_ret
  exact ⟨rfl, HB1.out⟩
set_option maxRecDepth 20000 in
set_option maxHeartbeats 1000000 in
theorem law_apart_c (T : TreeC) (l q : List (List Int)) (A A2 : Option Addr) (n c m c2 : Nat) (i : Int) (w : World)
    (hl : l.length = n) (hq : q.length = m) (hnc : n ≤ c) (hcm : c ≤ maxLen) (hmc : m ≤ c2) (hc2 : c2 ≤ maxLen) (hI : isIds l) (hA : IdsIn w w.heap.size A l) (hJ : isIds q) (hA2 : IdsIn w w.heap.size A2 q) (hi : I64 i) (ht : Tables w) (c0 : n ≤ 32 ∧ n = m ∧ i < 0) :
    Calls Tryd.prog 7 #[.slice A n c, .slice A2 m c2, .int .i64 i] w fun e w' => e = .returned (.bool true) ∧ Below w.heap.size w w' := by
  obtain ⟨c0, c1, c2⟩ := c0
  have c0' : ¬ (32 : Int) < (n : Int) := by omega
  subst c1
  unfold I64 at hi
  have HAW := Lib.hid (awake_any T w ht)
  have HT := Lib.hid ht
  have HTREE := Lib.hid T
  have HL := Lib.hid hl
  have HQ := Lib.hid hq
  have HI := Lib.hid (And.intro hI hA)
  have HJ := Lib.hid (And.intro hJ hA2)
  have HCM := Lib.hid (And.intro hcm hc2)
  unfold maxLen at hcm hc2
  clear ht T hl hq hI hA hJ hA2
  go_enter Tryd.func7, Tryd.ntmps7
  go_wp2_with fail
  refine HAW.out.mono ?_
  rintro e w1 ⟨rfl, hb1⟩
  have HB1 := Lib.hid hb1
  clear hb1 HAW
  go_wp2
  go_ret
  exact ⟨rfl, HB1.out⟩
set_option maxRecDepth 20000 in
set_option maxHeartbeats 1000000 in
theorem law_apart_d (T : TreeC) (l q : List (List Int)) (A A2 : Option Addr) (n c m c2 : Nat) (i : Int) (w : World)
    (hl : l.length = n) (hq : q.length = m) (hnc : n ≤ c) (hcm : c ≤ maxLen) (hmc : m ≤ c2) (hc2 : c2 ≤ maxLen) (hI : isIds l) (hA : IdsIn w w.heap.size A l) (hJ : isIds q) (hA2 : IdsIn w w.heap.size A2 q) (hi : I64 i) (ht : Tables w) (c0 : n ≤ 32 ∧ n = m ∧ ¬ i < 0 ∧ n ≤ i) :
    Calls Tryd.prog 7 #[.slice A n c, .slice A2 m c2, .int .i64 i] w fun e w' => e = .returned (.bool true) ∧ Below w.heap.size w w' := by
  obtain ⟨c0, c1, c2, c3⟩ := c0
  have c0' : ¬ (32 : Int) < (n : Int) := by omega
  subst c1
  unfold I64 at hi
  have HAW := Lib.hid (awake_any T w ht)
  have HT := Lib.hid ht
  have HTREE := Lib.hid T
  have HL := Lib.hid hl
  have HQ := Lib.hid hq
  have HI := Lib.hid (And.intro hI hA)
  have HJ := Lib.hid (And.intro hJ hA2)
  have HCM := Lib.hid (And.intro hcm hc2)
  unfold maxLen at hcm hc2
  clear ht T hl hq hI hA hJ hA2
  go_enter Tryd.func7, Tryd.ntmps7
  go_wp2_with fail
  refine HAW.out.mono ?_
  rintro e w1 ⟨rfl, hb1⟩
  have HB1 := Lib.hid hb1
  clear hb1 HAW
  go_wp2
  go_ret
  exact ⟨rfl, HB1.out⟩
set_option maxRecDepth 20000 in
set_option maxHeartbeats 4000000 in
theorem law_apart_e (T : TreeC) (l q : List (List Int)) (A A2 : Option Addr) (n c m c2 : Nat) (i : Nat) (w : World)
    (hl : l.length = n) (hq : q.length = m) (hnc : n ≤ c) (hcm : c ≤ maxLen) (hmc : m ≤ c2) (hc2 : c2 ≤ maxLen) (hI : isIds l) (hA : IdsIn w w.heap.size A l) (hJ : isIds q) (hA2 : IdsIn w w.heap.size A2 q) (ht : Tables w) (c0 : n ≤ 32) (c1 : n = m) (c3 : i < n) (d0 : rootT l ≠ rootT q) :
    Calls Tryd.prog 7 #[.slice A n c, .slice A2 m c2, .int .i64 i] w fun e w' => e = .returned (.bool true) ∧ Below w.heap.size w w' := by
  subst c1
  have HER : Hid ((!eqL (rootT l) (rootT q)) = true) := by show _ = _; simp [eqL, d0]
  have hi : I64 (i : Int) := ⟨by omega, by omega⟩
  have c0' : ¬ (32 : Int) < (n : Int) := by omega
  have c2' : ¬ (i : Int) < 0 := by omega
  have c3' : ¬ (n : Int) ≤ (i : Int) := by omega
  have c4' : (i : Int) < (n : Int) := by omega
  have HPR : Hid (pathR l i = (pathT l i, true)) := by
    show _ = _
    unfold pathR
    rw [if_pos ⟨by omega, by omega, by omega⟩]
    rfl
  clear d0
  unfold I64 at hi
  have HAW := Lib.hid (awake_any T w ht)
  have HT := Lib.hid ht
  have HTREE := Lib.hid T
  have HL := Lib.hid hl
  have HQ := Lib.hid hq
  have HI := Lib.hid (And.intro hI hA)
  have HJ := Lib.hid (And.intro hJ hA2)
  have HCM := Lib.hid (And.intro hcm hc2)
  unfold maxLen at hcm hc2
  clear ht T hl hq hI hA hJ hA2
  go_enter Tryd.func7, Tryd.ntmps7
  go_wp2_with fail
  refine HAW.out.mono ?_
  rintro e w1 ⟨rfl, hb1⟩
  have HB1 := Lib.hid hb1
  clear hb1 HAW
  have HT1 := Lib.hid (HT.out.below HB1.out)
  have HP1 : Hid (Calls Tryd.prog 10 #[.slice A n c, .int .i64 i] w1 fun e w' => (∃ v, e = .returned (.tuple #[v, .bool true]) ∧ OwnI w' w1.heap.size v (pathT l i)) ∧ Below w1.heap.size w1 w') := by
    have h := HTREE.out.path l i A n c w1 HL.out (by omega) hnc HCM.out.1 ⟨by omega, by omega⟩ HI.out.1 (HI.out.2.up HB1.out) HT1.out
    rw [HPR.out] at h
    exact h
  go_upto_region 4 with (fail)
  go_wp2_with fail
  refine HP1.out.mono ?_
  rintro e w2 ⟨⟨v, rfl, hv⟩, hb2⟩
  have HB2 := Lib.hid (HB1.out.trans (hb2.mono HB1.out.size))
  obtain ⟨Av, cv, rfl, hv1, hv2⟩ := hv.form
  have HV := Lib.hid hv.ids
  have HT2 := Lib.hid (HT.out.below HB2.out)
  have HPL := Lib.hid (path_ids l.length l i rfl HI.out.1)
  have HPS := Lib.hid (path_short i (by rw [HL.out]; omega : l.length ≤ 1000000))
  have hv3 := Lib.hid (And.intro hv1 hv2)
  obtain ⟨pn, hpn⟩ : ∃ pn, (pathT l i).length = pn := ⟨_, rfl⟩
  rw [hpn] at hv3 HPS ⊢
  have HPN := Lib.hid hpn
  clear hv hb2 hv1 hv2 HP1 hpn
  obtain ⟨a1, rfl, h1⟩ := (HI.out.2.up HB2.out).loads HI.out.1 (k := i) (by rw [HL.out]; exact c3)
  obtain ⟨a2, rfl, h2⟩ := (HJ.out.2.up HB2.out).loads HJ.out.1 (k := i) (by rw [HQ.out]; exact c3)
  have H1 := Lib.hid h1
  have H2 := Lib.hid h2
  have HX := Lib.hid (HI.out.1.get (i := i) (by rw [HL.out]; exact c3))
  have HY := Lib.hid (HJ.out.1.get (i := i) (by rw [HQ.out]; exact c3))
  have HRL := Lib.hid (root_id HI.out.1)
  have HRQ := Lib.hid (root_id HJ.out.1)
  have HR1 : Hid (∀ u, EnvX w2 u [] → Calls Tryd.prog 13 #[.slice (some a1) n c] u fun e w' => e = .returned (idv (rootT l)) ∧ Below u.heap.size u w') := fun u hu => HTREE.out.root l (some a1) n c u HL.out (by omega) hnc HCM.out.1 HI.out.1 ((HI.out.2.up HB2.out).up (EnvX.bel hu)) (HT2.out.below (EnvX.bel hu))
  have HR2 : Hid (∀ u, EnvX w2 u [] → Calls Tryd.prog 13 #[.slice (some a2) n c2] u fun e w' => e = .returned (idv (rootT q)) ∧ Below u.heap.size u w') := fun u hu => HTREE.out.root q (some a2) n c2 u HQ.out (by omega) hmc HCM.out.2 HJ.out.1 ((HJ.out.2.up HB2.out).up (EnvX.bel hu)) (HT2.out.below (EnvX.bel hu))
  have E1 : Hid (EnvX w2 w2 []) := EnvX.start w2
  clear h1 h2
  go_upto_region 5 with (fail)
  refine wp_region_H (w0 := w2) [] (by kernel_rfl) E1.out ?_
  refine anyH_phase [0, 1, 2, 3, 4, 5, 6, 7, 8, 9, 10, 11, 12, 13, 14, 15, 16, 17, 18, 19] 0 rfl ⟨_, (EnvX.drew E1.out)⟩ (by kernel_rfl) ?_
  have hw1 : EnvX w2 _ [] := (EnvX.drew E1.out)
  have hone := @EnvC.one _ _ _ hw1
  (refine wpG_op rfl rfl rfl ?_; intro K hK; go_big_quiet_op; go_big_quiet_on)
  (refine wpG_op rfl rfl rfl ?_; intro K hK; go_big_quiet_op; go_big_quiet_on)
  (refine wpG_op rfl rfl rfl ?_; intro K hK; go_big_quiet_op; go_big_quiet_on)
  (refine wpG_op rfl rfl rfl ?_; intro K hK; go_big_quiet_op; go_big_quiet_on)
  (refine wpG_call (f := 13) (args := #[.slice (some a1) n c]) (v := idv (rootT l)) rfl rfl rfl Tryd.func13 rfl rfl (fun u hu => HR1.out u hu) ?_ hw1; intro K hK; go_big_quiet_op; go_big_quiet_on)
  (refine wpG_op rfl rfl rfl ?_; intro K hK; go_big_quiet_op; go_big_quiet_on)
  (refine wpG_call (f := 13) (args := #[.slice (some a2) n c2]) (v := idv (rootT q)) rfl rfl rfl Tryd.func13 rfl rfl (fun u hu => HR2.out u hu) ?_ hw1; intro K hK; go_big_quiet_op; go_big_quiet_on)
  (refine wpG_val (v := .bool true) rfl rfl (fun u hu => neqb_op HRL.out.1 HRQ.out.1 HER.out u rfl rfl) ?_ hw1; intro K hK; go_big_quiet_op; go_big_quiet_on)
  (refine wpG_op rfl rfl rfl ?_; intro K hK; go_big_quiet_op; go_big_quiet_on)
  (refine wpG_op rfl rfl rfl ?_; intro K hK; go_big_quiet_op; go_big_quiet_on)
  (refine wpG_skip rfl rfl ?_ hw1; intro K hK; go_big_quiet_op; go_big_quiet_on)
  (refine wpG_skip rfl rfl ?_ hw1; intro K hK; go_big_quiet_op; go_big_quiet_on)
  (refine wpG_skip rfl rfl ?_ hw1; intro K hK; go_big_quiet_op; go_big_quiet_on)
  (refine wpG_skip rfl rfl ?_ hw1; intro K hK; go_big_quiet_op; go_big_quiet_on)
  (refine wpG_skip rfl rfl ?_ hw1; intro K hK; go_big_quiet_op; go_big_quiet_on)
  (refine wpG_skip rfl rfl ?_ hw1; intro K hK; go_big_quiet_op; go_big_quiet_on)
  (refine wpG_skip rfl rfl ?_ hw1; intro K hK; go_big_quiet_op; go_big_quiet_on)
  (refine wpG_skip rfl rfl ?_ hw1; intro K hK; go_big_quiet_op; go_big_quiet_on)
  (refine wpG_skip rfl rfl ?_ hw1; intro K hK; go_big_quiet_op; go_big_quiet_on)
  (refine wpG_op rfl rfl rfl ?_; intro K hK; go_big_quiet_op; go_big_quiet_on)
  clear hone hw1
  refine wpG_nil ?_
  refine anyH_done (by kernel_rfl) ?_
  intro u3 E2'
  have EX2 := Lib.hid E2'
  clear E2'
  go_wp2
  go_ret
  exact ⟨rfl, HB2.out.trans ((EnvX.bel EX2.out).mono HB2.out.size)⟩
set_option maxRecDepth 20000 in
set_option maxHeartbeats 4000000 in
theorem law_apart_f (T : TreeC) (l q : List (List Int)) (A A2 : Option Addr) (n c m c2 : Nat) (i : Nat) (w : World)
    (hl : l.length = n) (hq : q.length = m) (hnc : n ≤ c) (hcm : c ≤ maxLen) (hmc : m ≤ c2) (hc2 : c2 ≤ maxLen) (hI : isIds l) (hA : IdsIn w w.heap.size A l) (hJ : isIds q) (hA2 : IdsIn w w.heap.size A2 q) (ht : Tables w) (c0 : n ≤ 32) (c1 : n = m) (c3 : i < n) (d0 : rootT l = rootT q) (d1 : l.getD i [] = q.getD i []) :
    Calls Tryd.prog 7 #[.slice A n c, .slice A2 m c2, .int .i64 i] w fun e w' => e = .returned (.bool true) ∧ Below w.heap.size w w' := by
  subst c1
  have HER : Hid ((!eqL (rootT l) (rootT q)) = false) := by show _ = _; simp [eqL, d0]
  have HEI : Hid (eqL (l.getD i []) (q.getD i []) = true) := decide_eq_true d1
  have hi : I64 (i : Int) := ⟨by omega, by omega⟩
  have c0' : ¬ (32 : Int) < (n : Int) := by omega
  have c2' : ¬ (i : Int) < 0 := by omega
  have c3' : ¬ (n : Int) ≤ (i : Int) := by omega
  have c4' : (i : Int) < (n : Int) := by omega
  have HPR : Hid (pathR l i = (pathT l i, true)) := by
    show _ = _
    unfold pathR
    rw [if_pos ⟨by omega, by omega, by omega⟩]
    rfl
  clear d0 d1
  unfold I64 at hi
  have HAW := Lib.hid (awake_any T w ht)
  have HT := Lib.hid ht
  have HTREE := Lib.hid T
  have HL := Lib.hid hl
  have HQ := Lib.hid hq
  have HI := Lib.hid (And.intro hI hA)
  have HJ := Lib.hid (And.intro hJ hA2)
  have HCM := Lib.hid (And.intro hcm hc2)
  unfold maxLen at hcm hc2
  clear ht T hl hq hI hA hJ hA2
  go_enter Tryd.func7, Tryd.ntmps7
  go_wp2_with fail
  refine HAW.out.mono ?_
  rintro e w1 ⟨rfl, hb1⟩
  have HB1 := Lib.hid hb1
  clear hb1 HAW
  have HT1 := Lib.hid (HT.out.below HB1.out)
  have HP1 : Hid (Calls Tryd.prog 10 #[.slice A n c, .int .i64 i] w1 fun e w' => (∃ v, e = .returned (.tuple #[v, .bool true]) ∧ OwnI w' w1.heap.size v (pathT l i)) ∧ Below w1.heap.size w1 w') := by
    have h := HTREE.out.path l i A n c w1 HL.out (by omega) hnc HCM.out.1 ⟨by omega, by omega⟩ HI.out.1 (HI.out.2.up HB1.out) HT1.out
    rw [HPR.out] at h
    exact h
  go_upto_region 4 with (fail)
  go_wp2_with fail
  refine HP1.out.mono ?_
  rintro e w2 ⟨⟨v, rfl, hv⟩, hb2⟩
  have HB2 := Lib.hid (HB1.out.trans (hb2.mono HB1.out.size))
  obtain ⟨Av, cv, rfl, hv1, hv2⟩ := hv.form
  have HV := Lib.hid hv.ids
  have HT2 := Lib.hid (HT.out.below HB2.out)
  have HPL := Lib.hid (path_ids l.length l i rfl HI.out.1)
  have HPS := Lib.hid (path_short i (by rw [HL.out]; omega : l.length ≤ 1000000))
  have hv3 := Lib.hid (And.intro hv1 hv2)
  obtain ⟨pn, hpn⟩ : ∃ pn, (pathT l i).length = pn := ⟨_, rfl⟩
  rw [hpn] at hv3 HPS ⊢
  have HPN := Lib.hid hpn
  clear hv hb2 hv1 hv2 HP1 hpn
  obtain ⟨a1, rfl, h1⟩ := (HI.out.2.up HB2.out).loads HI.out.1 (k := i) (by rw [HL.out]; exact c3)
  obtain ⟨a2, rfl, h2⟩ := (HJ.out.2.up HB2.out).loads HJ.out.1 (k := i) (by rw [HQ.out]; exact c3)
  have H1 := Lib.hid h1
  have H2 := Lib.hid h2
  have HX := Lib.hid (HI.out.1.get (i := i) (by rw [HL.out]; exact c3))
  have HY := Lib.hid (HJ.out.1.get (i := i) (by rw [HQ.out]; exact c3))
  have HRL := Lib.hid (root_id HI.out.1)
  have HRQ := Lib.hid (root_id HJ.out.1)
  have HR1 : Hid (∀ u, EnvX w2 u [] → Calls Tryd.prog 13 #[.slice (some a1) n c] u fun e w' => e = .returned (idv (rootT l)) ∧ Below u.heap.size u w') := fun u hu => HTREE.out.root l (some a1) n c u HL.out (by omega) hnc HCM.out.1 HI.out.1 ((HI.out.2.up HB2.out).up (EnvX.bel hu)) (HT2.out.below (EnvX.bel hu))
  have HR2 : Hid (∀ u, EnvX w2 u [] → Calls Tryd.prog 13 #[.slice (some a2) n c2] u fun e w' => e = .returned (idv (rootT q)) ∧ Below u.heap.size u w') := fun u hu => HTREE.out.root q (some a2) n c2 u HQ.out (by omega) hmc HCM.out.2 HJ.out.1 ((HJ.out.2.up HB2.out).up (EnvX.bel hu)) (HT2.out.below (EnvX.bel hu))
  have E1 : Hid (EnvX w2 w2 []) := EnvX.start w2
  clear h1 h2
  go_upto_region 5 with (fail)
  refine wp_region_H (w0 := w2) [] (by kernel_rfl) E1.out ?_
  refine anyH_phase [0, 1, 2, 3, 4, 5, 6, 7, 8, 9, 10, 11, 12, 13, 14, 15, 16, 17, 18, 19] 0 rfl ⟨_, (EnvX.drew E1.out)⟩ (by kernel_rfl) ?_
  have hw1 : EnvX w2 _ [] := (EnvX.drew E1.out)
  have hone := @EnvC.one _ _ _ hw1
  (refine wpG_op rfl rfl rfl ?_; intro K hK; go_big_quiet_op; go_big_quiet_on)
  (refine wpG_op rfl rfl rfl ?_; intro K hK; go_big_quiet_op; go_big_quiet_on)
  (refine wpG_op rfl rfl rfl ?_; intro K hK; go_big_quiet_op; go_big_quiet_on)
  (refine wpG_op rfl rfl rfl ?_; intro K hK; go_big_quiet_op; go_big_quiet_on)
  (refine wpG_call (f := 13) (args := #[.slice (some a1) n c]) (v := idv (rootT l)) rfl rfl rfl Tryd.func13 rfl rfl (fun u hu => HR1.out u hu) ?_ hw1; intro K hK; go_big_quiet_op; go_big_quiet_on)
  (refine wpG_op rfl rfl rfl ?_; intro K hK; go_big_quiet_op; go_big_quiet_on)
  (refine wpG_call (f := 13) (args := #[.slice (some a2) n c2]) (v := idv (rootT q)) rfl rfl rfl Tryd.func13 rfl rfl (fun u hu => HR2.out u hu) ?_ hw1; intro K hK; go_big_quiet_op; go_big_quiet_on)
  (refine wpG_val (v := .bool false) rfl rfl (fun u hu => neqb_op HRL.out.1 HRQ.out.1 HER.out u rfl rfl) ?_ hw1; intro K hK; go_big_quiet_op; go_big_quiet_on)
  (refine wpG_op rfl rfl rfl ?_; intro K hK; go_big_quiet_op; go_big_quiet_on)
  (refine wpG_op rfl rfl rfl ?_; intro K hK; go_big_quiet_op; go_big_quiet_on)
  (refine wpG_op rfl rfl rfl ?_; intro K hK; go_big_quiet_op; go_big_quiet_on)
  (refine wpG_op rfl rfl rfl ?_; intro K hK; go_big_quiet_op; go_big_quiet_on)
  (refine wpG_op rfl rfl rfl ?_; intro K hK; go_big_quiet_op; go_big_quiet_on)
  (refine wpG_val (v := idv (l.getD i [])) rfl rfl (fun u hu => load_run_op u (H1.out u hu) rfl) ?_ hw1; intro K hK; go_big_quiet_op; go_big_quiet_on)
  (refine wpG_op rfl rfl rfl ?_; intro K hK; go_big_quiet_op; go_big_quiet_on)
  (refine wpG_op rfl rfl rfl ?_; intro K hK; go_big_quiet_op; go_big_quiet_on)
  (refine wpG_op rfl rfl rfl ?_; intro K hK; go_big_quiet_op; go_big_quiet_on)
  (refine wpG_val (v := idv (q.getD i [])) rfl rfl (fun u hu => load_run_op u (H2.out u hu) rfl) ?_ hw1; intro K hK; go_big_quiet_op; go_big_quiet_on)
  (refine wpG_val (v := .bool true) rfl rfl (fun u hu => eqlb_op HX.out.1 HY.out.1 HEI.out u rfl rfl) ?_ hw1; intro K hK; go_big_quiet_op; go_big_quiet_on)
  (refine wpG_op rfl rfl rfl ?_; intro K hK; go_big_quiet_op; go_big_quiet_on)
  clear hone hw1
  refine wpG_nil ?_
  refine anyH_done (by kernel_rfl) ?_
  intro u3 E2'
  have EX2 := Lib.hid E2'
  clear E2'
  go_wp2
  go_ret
  exact ⟨rfl, HB2.out.trans ((EnvX.bel EX2.out).mono HB2.out.size)⟩
set_option maxRecDepth 20000 in
set_option maxHeartbeats 4000000 in
theorem law_apart_g (T : TreeC) (l q : List (List Int)) (A A2 : Option Addr) (n c m c2 : Nat) (i : Nat) (w : World)
    (hl : l.length = n) (hq : q.length = m) (hnc : n ≤ c) (hcm : c ≤ maxLen) (hmc : m ≤ c2) (hc2 : c2 ≤ maxLen) (hI : isIds l) (hA : IdsIn w w.heap.size A l) (hJ : isIds q) (hA2 : IdsIn w w.heap.size A2 q) (ht : Tables w) (c0 : n ≤ 32) (c1 : n = m) (c3 : i < n) (d0 : rootT l = rootT q) (d1 : l.getD i [] ≠ q.getD i []) :
    Calls Tryd.prog 7 #[.slice A n c, .slice A2 m c2, .int .i64 i] w fun e w' => e = .returned (.bool true) ∧ Below w.heap.size w w' := by
  subst c1
  obtain ⟨ta, tb, htx, htn, hts, hta, htb, hba, hbb⟩ := apart_texts (i := i) hI hJ (by omega) (by omega) (by omega) d0 d1
  have HTX := Lib.hid htx
  have HTN := Lib.hid htn
  have HTS := Lib.hid hts
  have HTL := Lib.hid (And.intro hta htb)
  have HTB := Lib.hid (And.intro hba hbb)
  clear htx htn hts hta htb hba hbb
  have HER : Hid ((!eqL (rootT l) (rootT q)) = false) := by show _ = _; simp [eqL, d0]
  have HEI : Hid (eqL (l.getD i []) (q.getD i []) = false) := decide_eq_false d1
  have hi : I64 (i : Int) := ⟨by omega, by omega⟩
  have c0' : ¬ (32 : Int) < (n : Int) := by omega
  have c2' : ¬ (i : Int) < 0 := by omega
  have c3' : ¬ (n : Int) ≤ (i : Int) := by omega
  have c4' : (i : Int) < (n : Int) := by omega
  have HPR : Hid (pathR l i = (pathT l i, true)) := by
    show _ = _
    unfold pathR
    rw [if_pos ⟨by omega, by omega, by omega⟩]
    rfl
  clear d0 d1
  unfold I64 at hi
  have HAW := Lib.hid (awake_any T w ht)
  have HT := Lib.hid ht
  have HTREE := Lib.hid T
  have HL := Lib.hid hl
  have HQ := Lib.hid hq
  have HI := Lib.hid (And.intro hI hA)
  have HJ := Lib.hid (And.intro hJ hA2)
  have HCM := Lib.hid (And.intro hcm hc2)
  unfold maxLen at hcm hc2
  clear ht T hl hq hI hA hJ hA2
  go_enter Tryd.func7, Tryd.ntmps7
  go_wp2_with fail
  refine HAW.out.mono ?_
  rintro e w1 ⟨rfl, hb1⟩
  have HB1 := Lib.hid hb1
  clear hb1 HAW
  have HT1 := Lib.hid (HT.out.below HB1.out)
  have HP1 : Hid (Calls Tryd.prog 10 #[.slice A n c, .int .i64 i] w1 fun e w' => (∃ v, e = .returned (.tuple #[v, .bool true]) ∧ OwnI w' w1.heap.size v (pathT l i)) ∧ Below w1.heap.size w1 w') := by
    have h := HTREE.out.path l i A n c w1 HL.out (by omega) hnc HCM.out.1 ⟨by omega, by omega⟩ HI.out.1 (HI.out.2.up HB1.out) HT1.out
    rw [HPR.out] at h
    exact h
  go_upto_region 4 with (fail)
  go_wp2_with fail
  refine HP1.out.mono ?_
  rintro e w2 ⟨⟨v, rfl, hv⟩, hb2⟩
  have HB2 := Lib.hid (HB1.out.trans (hb2.mono HB1.out.size))
  obtain ⟨Av, cv, rfl, hv1, hv2⟩ := hv.form
  have HV := Lib.hid hv.ids
  have HT2 := Lib.hid (HT.out.below HB2.out)
  have HPL := Lib.hid (path_ids l.length l i rfl HI.out.1)
  have HPS := Lib.hid (path_short i (by rw [HL.out]; omega : l.length ≤ 1000000))
  have hv3 := Lib.hid (And.intro hv1 hv2)
  obtain ⟨pn, hpn⟩ : ∃ pn, (pathT l i).length = pn := ⟨_, rfl⟩
  rw [hpn] at hv3 HPS ⊢
  have HPN := Lib.hid hpn
  clear hv hb2 hv1 hv2 HP1 hpn
  obtain ⟨a1, rfl, h1⟩ := (HI.out.2.up HB2.out).loads HI.out.1 (k := i) (by rw [HL.out]; exact c3)
  obtain ⟨a2, rfl, h2⟩ := (HJ.out.2.up HB2.out).loads HJ.out.1 (k := i) (by rw [HQ.out]; exact c3)
  have H1 := Lib.hid h1
  have H2 := Lib.hid h2
  have HX := Lib.hid (HI.out.1.get (i := i) (by rw [HL.out]; exact c3))
  have HY := Lib.hid (HJ.out.1.get (i := i) (by rw [HQ.out]; exact c3))
  have HRL := Lib.hid (root_id HI.out.1)
  have HRQ := Lib.hid (root_id HJ.out.1)
  have HR1 : Hid (∀ u, EnvX w2 u [] → Calls Tryd.prog 13 #[.slice (some a1) n c] u fun e w' => e = .returned (idv (rootT l)) ∧ Below u.heap.size u w') := fun u hu => HTREE.out.root l (some a1) n c u HL.out (by omega) hnc HCM.out.1 HI.out.1 ((HI.out.2.up HB2.out).up (EnvX.bel hu)) (HT2.out.below (EnvX.bel hu))
  have HR2 : Hid (∀ u, EnvX w2 u [] → Calls Tryd.prog 13 #[.slice (some a2) n c2] u fun e w' => e = .returned (idv (rootT q)) ∧ Below u.heap.size u w') := fun u hu => HTREE.out.root q (some a2) n c2 u HQ.out (by omega) hmc HCM.out.2 HJ.out.1 ((HJ.out.2.up HB2.out).up (EnvX.bel hu)) (HT2.out.below (EnvX.bel hu))
  have E1 : Hid (EnvX w2 w2 []) := EnvX.start w2
  clear h1 h2
  go_upto_region 5 with (fail)
  refine wp_region_H (w0 := w2) [] (by kernel_rfl) E1.out ?_
  refine anyH_phase [0, 1, 2, 3, 4, 5, 6, 7, 8, 9, 10, 11, 12, 13, 14, 15, 16, 17, 18, 19] 0 rfl ⟨_, (EnvX.drew E1.out)⟩ (by kernel_rfl) ?_
  have hw1 : EnvX w2 _ [] := (EnvX.drew E1.out)
  have hone := @EnvC.one _ _ _ hw1
  (refine wpG_op rfl rfl rfl ?_; intro K hK; go_big_quiet_op; go_big_quiet_on)
  (refine wpG_op rfl rfl rfl ?_; intro K hK; go_big_quiet_op; go_big_quiet_on)
  (refine wpG_op rfl rfl rfl ?_; intro K hK; go_big_quiet_op; go_big_quiet_on)
  (refine wpG_op rfl rfl rfl ?_; intro K hK; go_big_quiet_op; go_big_quiet_on)
  (refine wpG_call (f := 13) (args := #[.slice (some a1) n c]) (v := idv (rootT l)) rfl rfl rfl Tryd.func13 rfl rfl (fun u hu => HR1.out u hu) ?_ hw1; intro K hK; go_big_quiet_op; go_big_quiet_on)
  (refine wpG_op rfl rfl rfl ?_; intro K hK; go_big_quiet_op; go_big_quiet_on)
  (refine wpG_call (f := 13) (args := #[.slice (some a2) n c2]) (v := idv (rootT q)) rfl rfl rfl Tryd.func13 rfl rfl (fun u hu => HR2.out u hu) ?_ hw1; intro K hK; go_big_quiet_op; go_big_quiet_on)
  (refine wpG_val (v := .bool false) rfl rfl (fun u hu => neqb_op HRL.out.1 HRQ.out.1 HER.out u rfl rfl) ?_ hw1; intro K hK; go_big_quiet_op; go_big_quiet_on)
  (refine wpG_op rfl rfl rfl ?_; intro K hK; go_big_quiet_op; go_big_quiet_on)
  (refine wpG_op rfl rfl rfl ?_; intro K hK; go_big_quiet_op; go_big_quiet_on)
  (refine wpG_op rfl rfl rfl ?_; intro K hK; go_big_quiet_op; go_big_quiet_on)
  (refine wpG_op rfl rfl rfl ?_; intro K hK; go_big_quiet_op; go_big_quiet_on)
  (refine wpG_op rfl rfl rfl ?_; intro K hK; go_big_quiet_op; go_big_quiet_on)
  (refine wpG_val (v := idv (l.getD i [])) rfl rfl (fun u hu => load_run_op u (H1.out u hu) rfl) ?_ hw1; intro K hK; go_big_quiet_op; go_big_quiet_on)
  (refine wpG_op rfl rfl rfl ?_; intro K hK; go_big_quiet_op; go_big_quiet_on)
  (refine wpG_op rfl rfl rfl ?_; intro K hK; go_big_quiet_op; go_big_quiet_on)
  (refine wpG_op rfl rfl rfl ?_; intro K hK; go_big_quiet_op; go_big_quiet_on)
  (refine wpG_val (v := idv (q.getD i [])) rfl rfl (fun u hu => load_run_op u (H2.out u hu) rfl) ?_ hw1; intro K hK; go_big_quiet_op; go_big_quiet_on)
  (refine wpG_val (v := .bool false) rfl rfl (fun u hu => eqlb_op HX.out.1 HY.out.1 HEI.out u rfl rfl) ?_ hw1; intro K hK; go_big_quiet_op; go_big_quiet_on)
  (refine wpG_op rfl rfl rfl ?_; intro K hK; go_big_quiet_op; go_big_quiet_on)
  clear hone hw1
  refine wpG_nil ?_
  refine anyH_done (by kernel_rfl) ?_
  intro u3 E2'
  have EX2 := Lib.hid E2'
  clear E2'
  have HCL : Hid (Calls Tryd.prog 21 #[.slice (some a2) n c2, .int .i64 i, idv (l.getD i []), .slice Av pn cv] u3 fun e w' => (∃ va vb, e = .returned (.tuple #[va, vb, .bool true]) ∧ OwnB w' (u3).heap.size va ta ∧ OwnB w' (u3).heap.size vb tb) ∧ Below (u3).heap.size u3 w') := by
    have h := HTREE.out.clash q i (l.getD i []) (pathT l i) (some a2) Av n c2 pn cv u3 HQ.out (by omega) hmc HCM.out.2 ⟨by omega, by omega⟩ HPN.out HPS.out hv3.out.1 hv3.out.2 HJ.out.1 ((HJ.out.2.up HB2.out).up (EnvX.bel EX2.out)) HPL.out (HV.out.up (EnvX.bel EX2.out)) HX.out (HT2.out.below (EnvX.bel EX2.out))
    rw [HTX.out] at h
    exact h
  have HLD : Hid ((loadVar 29 (a1.add (i * 32))).run Tryd.prog u3 = .ok (idv (l.getD i [])) u3) := H1.out u3 EX2.out
  go_wp2_with ((with_reducible refine wpList_load_run (o := ⟨some 72, _, _, _, _, _⟩) ?_ 29 (.tmp 71) ?_ (a1.add (i * 32)) ?_ HLD.out ?_); (rfl); (rfl); (rfl))
  refine HCL.out.mono ?_
  rintro e w5 ⟨⟨va, vb, rfl, hoa, hob⟩, hb5⟩
  have HB5 := Lib.hid ((HB2.out.trans ((EnvX.bel EX2.out).mono HB2.out.size)))
  have HB6 := Lib.hid (HB5.out.trans (hb5.mono HB5.out.size))
  obtain ⟨Aa, ca, rfl⟩ := hoa.form
  obtain ⟨Ab, cb, rfl⟩ := hob.form
  have HOA := Lib.hid hoa.up
  have HOB := Lib.hid hob.up
  rw [HTL.out.1, HTL.out.2]
  have HT5 := Lib.hid (HT.out.below HB6.out)
  have E5 : Hid (EnvX w5 w5 []) := EnvX.start w5
  clear hoa hob hb5 HCL HLD
  have HSA : Hid (∀ u, EnvX w5 u [] → Calls Tryd.prog 23 #[.slice Aa 65 ca] u fun e w' => e = .returned (idv (sumL ta)) ∧ Below u.heap.size u w') := fun u hu => sum_any Aa 65 ca ta u HTL.out.1 (by omega) (HOA.out.up (EnvX.bel hu)) HTB.out.1 (HT5.out.below (EnvX.bel hu))
  have HSB : Hid (∀ u, EnvX w5 u [] → Calls Tryd.prog 23 #[.slice Ab 65 cb] u fun e w' => e = .returned (idv (sumL tb)) ∧ Below u.heap.size u w') := fun u hu => sum_any Ab 65 cb tb u HTL.out.2 (by omega) (HOB.out.up (EnvX.bel hu)) HTB.out.2 (HT5.out.below (EnvX.bel hu))
  have HLA : Hid ((sumL ta).length = 32) := sumL_len _
  have HLB : Hid ((sumL tb).length = 32) := sumL_len _
  have HSE : Hid (eqL (sumL ta) (sumL tb) = true) := decide_eq_true HTS.out
  obtain ⟨s0, hs0⟩ : ∃ s, strOfNums ta = s := ⟨_, rfl⟩
  obtain ⟨s1, hs1⟩ : ∃ s, strOfNums tb = s := ⟨_, rfl⟩
  have HNS : Hid ((!(s0.toList == s1.toList)) = true) := by
    show _ = _
    rw [← hs0, ← hs1, strOf_beq HTB.out.1 HTB.out.2]
    simp [HTN.out]
  have HS0 := Lib.hid hs0
  have HS1 := Lib.hid hs1
  clear hs0 hs1
  go_upto_region 8 with (fail)
  refine wp_region_Hx (w0 := w5) [0, 1, 2, 3, 4, 5, 6, 7, 8, 9, 10, 11, 12, 13, 14, 15] [] rfl E5.out ?_
  refine lexH_phase [0, 1, 2, 3, 4, 5, 6, 7, 8, 9, 10, 11, 12, 13, 14, 15] [] ?_
  have hw4 : EnvX w5 _ [] := E5.out
  have hone := @EnvC.one _ _ _ hw4
  (refine wpG_op rfl rfl rfl ?_; intro K hK; go_big_quiet_op; go_big_quiet_on)
  (refine wpG_op rfl rfl rfl ?_; intro K hK; go_big_quiet_op; go_big_quiet_on)
  (refine wpG_op rfl rfl rfl ?_; intro K hK; go_big_quiet_op; go_big_quiet_on)
  (refine wpG_val (v := .string s0) rfl rfl (fun u hu => conv_op u HTL.out.1 (HOA.out.up (EnvX.bel hu)) HS0.out rfl) ?_ hw4; intro K hK; go_big_quiet_op; go_big_quiet_on)
  (refine wpG_op rfl rfl rfl ?_; intro K hK; go_big_quiet_op; go_big_quiet_on)
  (refine wpG_val (v := .string s1) rfl rfl (fun u hu => conv_op u HTL.out.2 (HOB.out.up (EnvX.bel hu)) HS1.out rfl) ?_ hw4; intro K hK; go_big_quiet_op; go_big_quiet_on)
  (refine wpG_val (v := .bool true) rfl rfl (fun u hu => nes_op u HNS.out rfl rfl) ?_ hw4; intro K hK; go_big_quiet_op; go_big_quiet_on)
  (refine wpG_op rfl rfl rfl ?_; intro K hK; go_big_quiet_op; go_big_quiet_on)
  (refine wpG_op rfl rfl rfl ?_; intro K hK; go_big_quiet_op; go_big_quiet_on)
  (refine wpG_op rfl rfl rfl ?_; intro K hK; go_big_quiet_op; go_big_quiet_on)
  (refine wpG_call (f := 23) (args := #[.slice Aa 65 ca]) (v := idv (sumL ta)) rfl rfl rfl Tryd.func23 rfl rfl (fun u hu => HSA.out u hu) ?_ hw4; intro K hK; go_big_quiet_op; go_big_quiet_on)
  (refine wpG_op rfl rfl rfl ?_; intro K hK; go_big_quiet_op; go_big_quiet_on)
  (refine wpG_call (f := 23) (args := #[.slice Ab 65 cb]) (v := idv (sumL tb)) rfl rfl rfl Tryd.func23 rfl rfl (fun u hu => HSB.out u hu) ?_ hw4; intro K hK; go_big_quiet_op; go_big_quiet_on)
  (refine wpG_val (v := .bool true) rfl rfl (fun u hu => eqlb_op HLA.out HLB.out HSE.out u rfl rfl) ?_ hw4; intro K hK; go_big_quiet_op; go_big_quiet_on)
  (refine wpG_op rfl rfl rfl ?_; intro K hK; go_big_quiet_op; go_big_quiet_on)
  (refine wpG_op rfl rfl rfl ?_; intro K hK; go_big_quiet_op; go_big_quiet_on)
  clear hone hw4
  refine wpG_nil ?_
  intro u6 E2'
  have EX5 := Lib.hid E2'
  clear E2'
  go_wp2
  go_ret
  exact ⟨rfl, HB6.out.trans ((EnvX.bel EX5.out).mono HB6.out.size)⟩
theorem law_apart (T : TreeC) (l q : List (List Int)) (A A2 : Option Addr) (n c m c2 : Nat) (i : Int) (w : World)
    (hl : l.length = n) (hq : q.length = m) (hnc : n ≤ c) (hcm : c ≤ maxLen) (hmc : m ≤ c2) (hc2 : c2 ≤ maxLen) (hI : isIds l) (hA : IdsIn w w.heap.size A l) (hJ : isIds q) (hA2 : IdsIn w w.heap.size A2 q) (hi : I64 i) (ht : Tables w) :
    Calls Tryd.prog 7 #[.slice A n c, .slice A2 m c2, .int .i64 i] w fun e w' => e = .returned (.bool true) ∧ Below w.heap.size w w' := by
  by_cases c0 : 32 < n
  · exact law_apart_a T l q A A2 n c m c2 i w hl hq hnc hcm hmc hc2 hI hA hJ hA2 hi ht c0
  · by_cases c1 : n = m
    · by_cases c2' : i < 0
      · exact law_apart_c T l q A A2 n c m c2 i w hl hq hnc hcm hmc hc2 hI hA hJ hA2 hi ht ⟨by omega, c1, c2'⟩
      · by_cases c3 : n ≤ i
        · exact law_apart_d T l q A A2 n c m c2 i w hl hq hnc hcm hmc hc2 hI hA hJ hA2 hi ht ⟨by omega, c1, c2', c3⟩
        · obtain ⟨j, rfl⟩ := Int.eq_ofNat_of_zero_le (by omega : 0 ≤ i)
          by_cases d0 : rootT l = rootT q
          · by_cases d1 : l.getD j [] = q.getD j []
            · exact law_apart_f T l q A A2 n c m c2 j w hl hq hnc hcm hmc hc2 hI hA hJ hA2 ht (by omega) c1 (by omega) d0 d1
            · exact law_apart_g T l q A A2 n c m c2 j w hl hq hnc hcm hmc hc2 hI hA hJ hA2 ht (by omega) c1 (by omega) d0 d1
          · exact law_apart_e T l q A A2 n c m c2 j w hl hq hnc hcm hmc hc2 hI hA hJ hA2 ht (by omega) c1 (by omega) d0
    · exact law_apart_b T l q A A2 n c m c2 i w hl hq hnc hcm hmc hc2 hI hA hJ hA2 hi ht ⟨by omega, c1⟩
end Go.Proofs.YtgiacilkecoenaaDoor

/-
  PROVED: the law stepladderlaw05.TreeApart answers true for every input, and leaves its arguments as they were.
  Conditions: the two package-level tables of package sha hold at the call what their initialisers lay; the card ties that to the text of the program (a pruned copy of the project: the packages that the roots of this seat load).
-/
namespace Go.Proofs.YtgiacilkecoenaaDoor.treeApart
open Go.ChangeShapes Go.WideShapes Go.ChangeAt Go.RowKit

theorem contract (H : Type) (enc : TypeId × Value → H) (W : World) (base : Nat) (args : Array Value) (ds gs : List (DataW H)) (before : List MemPlace)
    (hval : ∀ (j : Nat) t v, Tryd.f7.params[j]? = some t → args[j]? = some v → Value.okWide Tryd.prog W .any base t v)
    (hW : DataW.Whole enc Tryd.prog Tryd.f7.params.toList Rows.treeApartSpec.vars false W args.toList ds gs before) (hL : laidMetH Tryd.prog Rows.treeApartRow.laid W) :
    Calls Tryd.prog 7 args W fun e W' => ∃ v, e = .returned v ∧ Rows.treeApartSpec.post enc Tryd.prog Tryd.f7 false true false false W args v W' := by
  have hW' := hW
  obtain ⟨p, q, hA0, hV, rfl, hfz, hnd⟩ := hW
  have hA : DataW.TrodAll enc Tryd.prog W 0 (fun _ => true) true Tryd.f7.params.toList args.toList ds p := hA0
  rw [Tryd.params7] at hA hval
  obtain ⟨v0, vs0, d0, ds0, p0, q0, hargs, rfl, rfl, h0, r0⟩ := trodAll_cons hA
  obtain ⟨v1, vs1, d1, ds1, p1, q1, rfl, rfl, rfl, h1, r1⟩ := trodAll_cons r0
  obtain ⟨v2, vs2, d2, ds2, p2, q2, rfl, rfl, rfl, h2, r2⟩ := trodAll_cons r1
  obtain ⟨rfl, rfl, rfl⟩ := trodAll_nil r2
  obtain rfl : args = #[v0, v1, v2] := by cases args; simp_all
  obtain ⟨rfl, rfl⟩ := trodVars_none hV
  have lt0 : ∀ x ∈ p0, x.block < W.heap.size := by obtain ⟨m, hm⟩ := h0; exact DataW.trod_lt m _ _ _ hm
  obtain ⟨a0, n0, c0, x0, rfl, lx0, nc0, cm0, ix0, px0⟩ := open_ids (hval 0 22 v0 rfl rfl) h0
  have lt1 : ∀ x ∈ p1, x.block < W.heap.size := by obtain ⟨m, hm⟩ := h1; exact DataW.trod_lt m _ _ _ hm
  obtain ⟨a1, n1, c1, x1, rfl, lx1, nc1, cm1, ix1, px1⟩ := open_ids (hval 1 22 v1 rfl rfl) h1
  obtain ⟨x2, rfl, rfl, rfl, wx2⟩ := open_int Tryd.underlying3 (hval 2 3 v2 rfl rfl) h2
  clear hA0
  refine (law_apart treeC x0 x1 a0 a1 n0 c0 n1 c1 x2 W lx0 lx1 nc0 cm0 nc1 cm1 ix0 px0 ix1 px1 (bounds_i64 wx2) (tables_of_laid hL)).mono fun e W' ⟨he, bel⟩ => ?_
  subst he
  exact ⟨_, rfl, _, _, _, [], _, [], hW', trodAll_mk1 (shut_bool Tryd.underlying4 _), (trodAll_cons_mk (Below.trod laidOut (by kernel_rfl) (of_decide_eq_true (by kernel_rfl)) h0 bel lt0) (trodAll_cons_mk (Below.trod laidOut (by kernel_rfl) (of_decide_eq_true (by kernel_rfl)) h1 bel lt1) (trodAll_cons_mk (shut_int Tryd.underlying3 wx2) trodAll_mk0))), rfl, bel.frame _, fun h => by cases h⟩

def start : Array Value := #[.slice none 0 0, .slice none 0 0, .int .i64 0]
theorem reads (os : Os) {H : Type} (enc : TypeId × Value → H) : ∃ places, DataW.whole enc Tryd.prog ((laidWorld os).forCall (fun _ _ => 0) ⟨#[], start, []⟩).memory Tryd.f7.params.toList Rows.treeApartSpec.vars false start.toList 8 = some ([.nil, .nil, .lit (.int .i64 0)], [], places) :=
  ⟨[], by kernel_rfl⟩

set_option maxRecDepth 100000 in
theorem lifted (os : Os) (started : os.Started) (H : Type) (enc : TypeId × Value → H) (F : Stop.Interp) :
    ReturnsInHanded {} Tryd.checked os 7 .any ((OpenSpec.ofChange Rows.treeApartSpec).preRow enc Tryd.prog Tryd.f7 Rows.treeApartRow.domain false Rows.treeApartRow.laid) (((OpenSpec.ofChange Rows.treeApartSpec).at F).post enc Tryd.prog Tryd.f7 false true false false) := by
  obtain ⟨places, hx⟩ := reads os enc
  refine returnsInHanded_of_row (C := Tryd.checked) (s := OpenSpec.ofChange Rows.treeApartSpec) own started (by kernel_rfl) Tryd.func7
    (witness_row_at (enc := enc) (C := Tryd.checked) false (laidWorld os) start rfl (by kernel_rfl) (by kernel_rfl) (by kernel_rfl)
      (OpenSpec.preRow_of_cond 8 hx (by kernel_rfl) (fun k hk => by cases hk) (by kernel_rfl) (laidMet_of_run' 8 (by kernel_rfl) (by kernel_rfl)))) ?_
  intro W base args ds gs before hval hW _ _ _ hL _ _
  exact contract H enc W base args ds gs before hval hW hL

theorem said : Rows.TreeApartSaid :=
  OpenClaim.holds_of_cond 7 Tryd.f7 rfl rfl rfl rfl rfl rfl rfl ⟨rfl, rfl, rfl, rfl, rfl⟩ rfl rfl rfl rfl rfl (by kernel_rfl) Tryd.func7 (by kernel_rfl)
    (of_decide_eq_true (by kernel_rfl)) (by unfold Func.isWrapper; first | (rw [if_pos (by decide +kernel)]; kernel_rfl) | (rw [if_neg (by decide +kernel)]; exact ⟨rfl, rfl⟩))
    (fun os started H enc _ F => by rw [OpenClaim.pre_eq_preRow]; exact lifted os started H enc F)

theorem plain (f : FuncId) (fn : Func) (hf : Tryd.pinned.checked.prog.funcNamed "stepladder/stepladderlaw05.TreeApart" = some f) (hfn : Tryd.pinned.checked.prog.funcs[f]? = some fn) :
    false = Tryd.pinned.checked.prog.looks [] ∧ ∀ (j : Nat) t, fn.params[j]? = some t → Tryd.pinned.checked.prog.wantsStandIn t = false := by
  obtain rfl : f = 7 := Option.some.inj ((show Tryd.prog.funcNamed "stepladder/stepladderlaw05.TreeApart" = some 7 by kernel_rfl).symm.trans hf) |>.symm
  obtain rfl : fn = Tryd.f7 := (Option.some.inj (Tryd.func7.symm.trans hfn)).symm
  refine ⟨by kernel_rfl, fun j t ht => ?_⟩
  rw [Tryd.params7] at ht
  have hm : t = 22 ∨ t = 22 ∨ t = 3 := by simpa using Array.mem_of_getElem? ht
  rcases hm with rfl | rfl | rfl
  · exact (show Tryd.prog.wantsStandIn 22 = false by kernel_rfl)
  · exact (show Tryd.prog.wantsStandIn 22 = false by kernel_rfl)
  · exact (show Tryd.prog.wantsStandIn 3 = false by kernel_rfl)
theorem card : Rows.TreeApartCardSaid :=
  Claim7.holds_tied_plain_at .later [] _ _ _ _ said (fun _ h => by cases h) (by kernel_rfl) (fun _ h => by cases h) treeApart_row_tie rfl ⟨rfl, rfl⟩ (by kernel_rfl) rfl plain (by kernel_rfl)

end Go.Proofs.YtgiacilkecoenaaDoor.treeApart
