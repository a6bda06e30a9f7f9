/-
  PROVED: the law stepladderlaw05.TreePaths answers true for every input, and leaves its arguments as they were.
  Conditions: the two package-level tables of package sha hold at the call what their initialisers lay; the card ties that to the text of the program (a pruned copy of the project: the packages that the roots of this seat load).
-/
import Derived.Test.YtgiacilkecoenaaDoorCq
namespace Go.Proofs.YtgiacilkecoenaaDoor
open Go.RowKit

set_option maxHeartbeats 1000000 in
theorem law_paths_a (T : TreeC) (l : List (List Int)) (A : Option Addr) (n c : Nat) (i : Int) (more : List Int) (w : World)
    (hx : isId more) (hl : l.length = n) (hnc : n ≤ c) (hcm : c ≤ maxLen) (hI : isIds l) (hA : IdsIn w w.heap.size A l) (hi : I64 i) (ht : Tables w) (c0 : 64 < n) :
    Calls Tryd.prog 4 #[.slice A n c, .int .i64 i, idv more] w fun e w' => e = .returned (.bool true) ∧ Below w.heap.size w w' := by
  have c0' : (64 : Int) < (n : Int) := by omega
  unfold I64 at hi
  have HAW := Lib.hid (awake_any T (w.alloc (.cells (arrB 32 more) 29)) (ht.below ((Below.refl _ _).alloc (Nat.le_refl _) _)))
  have E0 : Hid (EnvX w (w.alloc (.cells (arrB 32 more) 29)) [(w.heap.size, Obj.cells (arrB 32 more) 29 (0, 0))]) := (EnvX.start w).new _
  have HT := Lib.hid ht
  have HTREE := Lib.hid T
  have HX := Lib.hid hx
  have HL := Lib.hid hl
  have HI := Lib.hid (And.intro hI hA)
  have HCM := Lib.hid hcm
  unfold maxLen at hcm
  clear ht T hx hl hI hA
  unfold idv
  go_enter Tryd.func4, Tryd.ntmps4
  go_upto_region 1 with (fail)
  generalize w.alloc (.cells (arrB 32 more) 29) = W at *
  go_wp2_with fail
  refine HAW.out.mono ?_
  rintro e w1 ⟨rfl, hb1⟩
  have HB1 := Lib.hid (EnvX.below E0.out hb1).bel
  have E1 : Hid (EnvX w1 w1 [(w.heap.size, Obj.cells (arrB 32 more) 29 (0, 0))]) := ⟨Below.refl _ _, (EnvX.below E0.out hb1).box⟩
  have HT1 := Lib.hid (HT.out.below HB1.out)
  clear hb1 E0 HAW
  go_wp2
  go_ret
  exact ⟨rfl, HB1.out⟩
set_option maxHeartbeats 1000000 in
theorem law_paths_b (T : TreeC) (l : List (List Int)) (A : Option Addr) (n c : Nat) (i : Int) (more : List Int) (w : World)
    (hx : isId more) (hl : l.length = n) (hnc : n ≤ c) (hcm : c ≤ maxLen) (hI : isIds l) (hA : IdsIn w w.heap.size A l) (hi : I64 i) (ht : Tables w) (c0 : n ≤ 64) (k2 : i < 0) :
    Calls Tryd.prog 4 #[.slice A n c, .int .i64 i, idv more] w fun e w' => e = .returned (.bool true) ∧ Below w.heap.size w w' := by
  have c0' : ¬ (64 : Int) < (n : Int) := by omega
  unfold I64 at hi
  have HAW := Lib.hid (awake_any T (w.alloc (.cells (arrB 32 more) 29)) (ht.below ((Below.refl _ _).alloc (Nat.le_refl _) _)))
  have E0 : Hid (EnvX w (w.alloc (.cells (arrB 32 more) 29)) [(w.heap.size, Obj.cells (arrB 32 more) 29 (0, 0))]) := (EnvX.start w).new _
  have HT := Lib.hid ht
  have HTREE := Lib.hid T
  have HX := Lib.hid hx
  have HL := Lib.hid hl
  have HI := Lib.hid (And.intro hI hA)
  have HCM := Lib.hid hcm
  unfold maxLen at hcm
  clear ht T hx hl hI hA
  unfold idv
  go_enter Tryd.func4, Tryd.ntmps4
  go_upto_region 1 with (fail)
  generalize w.alloc (.cells (arrB 32 more) 29) = W at *
  go_wp2_with fail
  refine HAW.out.mono ?_
  rintro e w1 ⟨rfl, hb1⟩
  have HB1 := Lib.hid (EnvX.below E0.out hb1).bel
  have E1 : Hid (EnvX w1 w1 [(w.heap.size, Obj.cells (arrB 32 more) 29 (0, 0))]) := ⟨Below.refl _ _, (EnvX.below E0.out hb1).box⟩
  have HT1 := Lib.hid (HT.out.below HB1.out)
  clear hb1 E0 HAW
  go_wp2
  go_ret
  exact ⟨rfl, HB1.out⟩
set_option maxHeartbeats 1000000 in
theorem law_paths_d (T : TreeC) (l : List (List Int)) (A : Option Addr) (n c : Nat) (i : Nat) (more : List Int) (w : World)
    (hx : isId more) (hl : l.length = n) (hnc : n ≤ c) (hcm : c ≤ maxLen) (hI : isIds l) (hA : IdsIn w w.heap.size A l) (hi : I64 (i : Int)) (ht : Tables w) (c0 : n ≤ 64) (c3 : n ≤ i) :
    Calls Tryd.prog 4 #[.slice A n c, .int .i64 i, idv more] w fun e w' => e = .returned (.bool true) ∧ Below w.heap.size w w' := by
  have c0' : ¬ (64 : Int) < (n : Int) := by omega
  have c2' : ¬ (i : Int) < 0 := by omega
  have c3' : (n : Int) ≤ (i : Int) := by omega
  unfold I64 at hi
  have HAW := Lib.hid (awake_any T (w.alloc (.cells (arrB 32 more) 29)) (ht.below ((Below.refl _ _).alloc (Nat.le_refl _) _)))
  have E0 : Hid (EnvX w (w.alloc (.cells (arrB 32 more) 29)) [(w.heap.size, Obj.cells (arrB 32 more) 29 (0, 0))]) := (EnvX.start w).new _
  have HT := Lib.hid ht
  have HTREE := Lib.hid T
  have HX := Lib.hid hx
  have HL := Lib.hid hl
  have HI := Lib.hid (And.intro hI hA)
  have HCM := Lib.hid hcm
  unfold maxLen at hcm
  clear ht T hx hl hI hA
  unfold idv
  go_enter Tryd.func4, Tryd.ntmps4
  go_upto_region 1 with (fail)
  generalize w.alloc (.cells (arrB 32 more) 29) = W at *
  go_wp2_with fail
  refine HAW.out.mono ?_
  rintro e w1 ⟨rfl, hb1⟩
  have HB1 := Lib.hid (EnvX.below E0.out hb1).bel
  have E1 : Hid (EnvX w1 w1 [(w.heap.size, Obj.cells (arrB 32 more) 29 (0, 0))]) := ⟨Below.refl _ _, (EnvX.below E0.out hb1).box⟩
  have HT1 := Lib.hid (HT.out.below HB1.out)
  clear hb1 E0 HAW
  go_wp2
  go_ret
  exact ⟨rfl, HB1.out⟩
set_option maxRecDepth 20000 in
set_option maxHeartbeats 4000000 in
theorem law_paths_e (T : TreeC) (l : List (List Int)) (A : Option Addr) (n c : Nat) (i : Nat) (more : List Int) (w : World)
    (hx : isId more) (hl : l.length = n) (hnc : n ≤ c) (hcm : c ≤ maxLen) (hI : isIds l) (hA : IdsIn w w.heap.size A l) (ht : Tables w) (c0 : n ≤ 64) (c3 : i < n) (hz : (sidesT n i).length = 0) :
    Calls Tryd.prog 4 #[.slice A n c, .int .i64 i, idv more] w fun e w' => e = .returned (.bool true) ∧ Below w.heap.size w w' := by
  have hi : I64 (i : Int) := ⟨by omega, by omega⟩
  have c0' : ¬ (64 : Int) < (n : Int) := by omega
  have c2' : ¬ (i : Int) < 0 := by omega
  have c3' : ¬ (n : Int) ≤ (i : Int) := by omega
  have c4' : (i : Int) < (n : Int) := by omega
  have c5' : ¬ n ≤ i := by omega
  have HPR : Hid (pathR l i = (pathT l i, true)) := by
    show _ = _
    unfold pathR
    rw [if_pos ⟨by omega, by omega, by omega⟩]
    rfl
  unfold I64 at hi
  have HAW := Lib.hid (awake_any T (w.alloc (.cells (arrB 32 more) 29)) (ht.below ((Below.refl _ _).alloc (Nat.le_refl _) _)))
  have E0 : Hid (EnvX w (w.alloc (.cells (arrB 32 more) 29)) [(w.heap.size, Obj.cells (arrB 32 more) 29 (0, 0))]) := (EnvX.start w).new _
  have HT := Lib.hid ht
  have HTREE := Lib.hid T
  have HX := Lib.hid hx
  have HL := Lib.hid hl
  have HI := Lib.hid (And.intro hI hA)
  have HCM := Lib.hid hcm
  unfold maxLen at hcm
  clear ht T hx hl hI hA
  unfold idv
  go_enter Tryd.func4, Tryd.ntmps4
  go_upto_region 1 with (fail)
  generalize w.alloc (.cells (arrB 32 more) 29) = W at *
  go_wp2_with fail
  refine HAW.out.mono ?_
  rintro e w1 ⟨rfl, hb1⟩
  have HB1 := Lib.hid (EnvX.below E0.out hb1).bel
  have E1 : Hid (EnvX w1 w1 [(w.heap.size, Obj.cells (arrB 32 more) 29 (0, 0))]) := ⟨Below.refl _ _, (EnvX.below E0.out hb1).box⟩
  have HT1 := Lib.hid (HT.out.below HB1.out)
  clear hb1 E0 HAW
  have HP1 : Hid (Calls Tryd.prog 10 #[.slice A n c, .int .i64 i] w1 fun e w' => (∃ v, e = .returned (.tuple #[v, .bool true]) ∧ OwnI w' w1.heap.size v (pathT l i)) ∧ Below w1.heap.size w1 w') := by
    have h := HTREE.out.path l i A n c w1 HL.out (by omega) hnc HCM.out ⟨by omega, by omega⟩ HI.out.1 (HI.out.2.up HB1.out) HT1.out
    rw [HPR.out] at h
    exact h
  go_upto_region 4 with (fail)
  go_wp2_with fail
  refine HP1.out.mono ?_
  rintro e w2 ⟨⟨v, rfl, hv⟩, hb2⟩
  have HB2 := Lib.hid (HB1.out.trans (hb2.mono HB1.out.size))
  obtain ⟨Av, cv, rfl, hv1, hv2⟩ := hv.form
  obtain ⟨N, hF, hN⟩ := hv.fresh
  have HV := Lib.hid hv.ids
  have HO := Lib.hid hv
  have HN := Lib.hid hN
  have E2 : Hid (EnvX w2 w2 ((w.heap.size, Obj.cells (arrB 32 more) 29 (0, 0)) :: N)) := ⟨Below.refl _ _, fun g o hm => by
    rcases List.mem_cons.1 hm with h | h
    · cases h; exact (EnvX.below E1.out hb2).box _ _ (List.Mem.head _)
    · exact (hN _ h).2.1⟩
  have HT2 := Lib.hid (HT.out.below HB2.out)
  have HPI := Lib.hid (path_ids l.length l i rfl HI.out.1)
  have HPL : Hid ((pathT l i).length = (sidesT n i).length) := path_len n l i HL.out
  have HCK : Hid (checkT (rootT l) n i (l.getD i []) (pathT l i) = true) := by
    have h := check_path (l := l) (i := i) (by rw [HL.out]; omega) (by rw [HL.out]; exact c3)
    rwa [HL.out] at h
  have HCM1 : Hid (checkT (rootT l) n i (l.getD i []) (pathT l i ++ [more]) = false) := check_len (by rw [List.length_append, HPL.out]; simp)
  have HCL : Hid (0 < (pathT l i).length → checkT (rootT l) n i (l.getD i []) ((pathT l i).take ((pathT l i).length - 1)) = false) := fun hp => check_len (by rw [List.length_take, HPL.out]; rw [HPL.out] at hp; omega)
  have HHI : Hid (∀ e, n ≤ 2 ^ e → (pathT l i).length ≤ e) := fun e he => by rw [HPL.out]; exact sides_le e n i he
  obtain ⟨a1, rfl, h1⟩ := (HI.out.2.up HB2.out).loads HI.out.1 (k := i) (by rw [HL.out]; exact c3)
  have H1 := Lib.hid h1
  have HY := Lib.hid (HI.out.1.get (i := i) (by rw [HL.out]; exact c3))
  have HRI := Lib.hid (root_id HI.out.1)
  have HRT : Hid (∀ u, EnvX w2 u [] → Calls Tryd.prog 13 #[.slice (some a1) n c] u fun e w' => e = .returned (idv (rootT l)) ∧ Below u.heap.size u w') := fun u hu => HTREE.out.root l (some a1) n c u HL.out (by omega) hnc HCM.out HI.out.1 ((HI.out.2.up HB2.out).up (EnvX.bel hu)) (HT2.out.below (EnvX.bel hu))
  have HSM := Lib.hid (sides_le 6 n i (by omega))
  generalize hpp : pathT l i = pp at *
  obtain ⟨pn, hpn⟩ : ∃ pn, pp.length = pn := ⟨_, rfl⟩
  have HPS : Hid (pn ≤ 6) := by show _ ≤ _; rw [← hpn, HPL.out]; exact HSM.out
  rw [hpn] at hv1 HHI HCL ⊢
  have HPN := Lib.hid hpn
  generalize l.getD i [] = y at *
  generalize hrr : rootT l = rr at *
  have HC1 : Hid (∀ u, EnvX w2 u [] → Calls Tryd.prog 17 #[idv rr, .int .i64 n, .int .i64 i, idv y, .slice Av pn cv] u fun e w' => e = .returned (.bool true) ∧ Below u.heap.size u w') := fun u hu => by
    rw [← HCK.out]
    exact HTREE.out.check rr y n i pp Av pn cv u HRI.out HY.out ⟨by omega, by omega⟩ ⟨by omega, by omega⟩ HPN.out (by have := HPS.out; omega) hv1 hv2 HPI.out (by have h := HV.out; rw [HPN.out] at *; exact h.up (EnvX.bel hu)) (HT2.out.below (EnvX.bel hu))
  have HC2 : Hid (∀ u g cap cur, EnvX w2 u [] → u.heap[g]? = some (.cells cur 29 (0, 0)) → pn + 1 ≤ cap ∧ cap ≤ maxLen ∧ cur.size = cap * 32 ∧ cur.toList.take ((pn + 1) * 32) = (pp ++ [more]).flatten.map u8v →
      Calls Tryd.prog 17 #[idv rr, .int .i64 n, .int .i64 i, idv y, .slice (some ⟨g, 0, none⟩) (pn + 1) cap] u fun e w' => e = .returned (.bool false) ∧ Below u.heap.size u w') := fun u g cap cur hu hg hc => by
    rw [← HCM1.out]
    have hlen : (pp ++ [more]).length = pn + 1 := by rw [List.length_append, HPN.out]; rfl
    have hids : isIds (pp ++ [more]) := fun z hz => by
      rcases List.mem_append.1 hz with h | h
      · exact HPI.out z h
      · cases List.mem_singleton.1 h; exact HX.out
    have hF9 : FreshI (pp ++ [more]) (.slice (some ⟨g, 0, none⟩) (pn + 1) cap) [(g, Obj.cells cur 29 (0, 0))] := .inl ⟨g, cap, cur, by rw [hlen], rfl, by rw [hlen]; exact hc.1, hc.2.1, hc.2.2.1, by rw [hlen]; exact hc.2.2.2⟩
    have hown : OwnI u 0 (.slice (some ⟨g, 0, none⟩) (pn + 1) cap) (pp ++ [more]) := hF9.own hids (fun z hz => by cases List.mem_singleton.1 hz; exact ⟨Nat.zero_le _, hg⟩)
    exact HTREE.out.check rr y n i (pp ++ [more]) _ (pn + 1) cap u HRI.out HY.out ⟨by omega, by omega⟩ ⟨by omega, by omega⟩ hlen (by have := HPS.out; omega) hc.1 hc.2.1 hids hown.ids (HT2.out.below (EnvX.bel hu))
  have HC3 : Hid (0 < pn → ∀ u, EnvX w2 u [] → Calls Tryd.prog 17 #[idv rr, .int .i64 n, .int .i64 i, idv y, .slice Av (pn - 1) cv] u fun e w' => e = .returned (.bool false) ∧ Below u.heap.size u w') := fun hp u hu => by
    rw [← HCL.out hp]
    have hlen : (pp.take (pn - 1)).length = pn - 1 := by rw [List.length_take, HPN.out]; omega
    exact HTREE.out.check rr y n i (pp.take (pn - 1)) Av (pn - 1) cv u HRI.out HY.out ⟨by omega, by omega⟩ ⟨by omega, by omega⟩ hlen (by have := HPS.out; omega) (by omega) hv2 (HPI.out.take _) ((by exact HV.out.take HPI.out _ : IdsIn w2 w2.heap.size Av _).up (EnvX.bel hu)) (HT2.out.below (EnvX.bel hu))
  have HO2 := Lib.hid (show OwnI w2 w1.heap.size (.slice Av pn cv) pp by have h := HO.out; rw [HPN.out] at h; exact h)
  have HPC : Hid (pn ≤ cv) := hv1
  have HPI6 : Hid (isIds pp ∧ pp.length ≤ 1000000) := ⟨HPI.out, by have := HPS.out; rw [HPN.out]; omega⟩
  have hps := HPS.out
  have HP0 : Hid (decide ((pn : Int) = 0) = true) := by show _ = _; rw [← hpn, HPL.out, hz]; rfl
  clear hz
  clear hb2 hv hF hN h1 HP1 E1 hpn hpp hrr HPR HCK HCM1 HCL HSM hv2
  go_upto_region 5 with (fail)
  refine wp_region_Hx (w0 := w2) [0, 1, 2, 3] ((w.heap.size, Obj.cells (arrB 32 more) 29 (0, 0)) :: N) rfl E2.out ?_
  refine lexH_phase [0, 1] [2, 3] ?_
  have hw1 : EnvX w2 _ ((w.heap.size, Obj.cells (arrB 32 more) 29 (0, 0)) :: N) := E2.out
  have hone := @EnvC.one _ _ _ hw1
  (refine wpG_op rfl rfl rfl ?_; intro K hK; go_big_quiet_op; go_big_quiet_on)
  (refine wpG_call (f := 13) (args := #[.slice (some a1) n c]) (v := idv rr) rfl rfl rfl Tryd.func13 rfl rfl (fun u hu => HRT.out u (EnvX.sub hu (fun _ h => by cases h))) ?_ hw1; intro K hK; go_big_quiet_op; go_big_quiet_on)
  clear hone hw1
  refine wpG_nil ?_
  refine (hOp_fresh (R := fun x N => ∃ g, x = .pointer (some ⟨g, 0, none⟩) ∧ N = [(g, Obj.cells (arrB 32 []) 29 (0, 0))]) (M0 := ((w.heap.size, Obj.cells (arrB 32 more) 29 (0, 0)) :: N)) rfl rfl (fun _ h => h) (fun u hu => FAt_new (new_id _) u) ?_)
  rintro _ _ ⟨gr, rfl, rfl⟩ hf he2; intro K' hK'; go_big_quiet_op; go_big_quiet_on
  have HGR := Lib.hid (hf _ (List.mem_singleton.2 rfl))
  clear hf
  change lexH _ _ _ _ _ _ ((gr, Obj.cells (arrB 32 []) 29 (0, 0)) :: ((w.heap.size, Obj.cells (arrB 32 more) 29 (0, 0)) :: N))
  refine (hOp_store rfl (gr) (arrB 32 rr) rfl rfl HGR.out.1 29 ((arrB 32 [])) (List.Mem.head _) (info26 _ (arrB_size _ _ (by rw [HRI.out.1]; omega))) ((arrB_size _ _ (by simp)).trans (arrB_size _ _ (by rw [HRI.out.1]; omega)).symm) (arrB_one _ _) ((gr, Obj.cells (arrB 32 rr) 29 (0, 0)) :: ((w.heap.size, Obj.cells (arrB 32 more) 29 (0, 0)) :: N)) (List.forall_mem_cons.2 ⟨.inl rfl, fun y hy => .inr ⟨List.mem_cons_of_mem _ hy, HGR.out.2 y hy⟩⟩) ?_)
  intro he3
  intro u5 E2'
  have EX4 := Lib.hid E2'
  clear E2'
  go_upto_region 8 with (fail)
  have H25 := Lib.hid (EnvX.bel EX4.out)
  have HBU := Lib.hid (HB2.out.trans (H25.out.mono HB2.out.size))
  have HOU := Lib.hid (HO2.out.below H25.out)
  have HLR : Hid (∀ u, EnvX u5 u [] → (loadVar 29 ⟨gr, 0, none⟩).run Tryd.prog u = .ok (idv rr) u) := fun u hu => box_load (EnvX.comb EX4.out hu) (List.mem_append_right _ (List.Mem.head _)) HRI.out.1
  have HLM : Hid (∀ u, EnvX u5 u [] → (loadVar 29 ⟨w.heap.size, 0, none⟩).run Tryd.prog u = .ok (idv more) u) := fun u hu => box_load (EnvX.comb EX4.out hu) (List.mem_append_right _ (List.Mem.tail _ (List.Mem.head _))) HX.out.1
  have HUP : Hid (∀ u, EnvX u5 u [] → EnvX w2 u []) := fun u hu => ⟨H25.out.trans ((EnvX.bel hu).mono H25.out.size), fun _ _ h => by cases h⟩
  clear EX4 HO HO2 E2
  generalize u5 = U at *
  have EU : Hid (EnvX U U []) := EnvX.start U
  go_loopw [11, 12] (fun h v u => ∃ e : Nat, e ≤ 6 ∧ h = .int .i64 e ∧ v = .int .i64 ((2 ^ e : Nat) : Int) ∧ u = U) (fun h _ _ => 6 - (intOf h).toNat)
  case atStart => exact ⟨0, by omega, rfl, rfl, rfl⟩
  case round =>
    obtain ⟨e, he, rfl, rfl, hU⟩ := hrel
    obtain rfl := hU.symm
    obtain ⟨P, hP0⟩ : ∃ P, 2 ^ e = P := ⟨_, rfl⟩
    have hP : Hid (P = 2 ^ e) := hP0.symm
    have h64 : P < 64 ↔ e < 6 := by
      rw [← hP0]
      exact Nat.pow_lt_pow_iff_right (a := 2) (n := e) (m := 6) (by decide)
    have hle : P ≤ 64 := by
      rw [← hP0]
      have := Nat.pow_le_pow_right (show 0 < 2 by decide) he
      omega
    have hps2 : Hid (2 ^ (e + 1) = 2 * P) := by show _ = _; rw [Nat.pow_succ, hP0, Nat.mul_comm]
    rw [hP0]
    clear hP0
    by_cases hPn : P < n
    · have hp2 : (P : Int) < (n : Int) := by omega
      have he5 : e < 6 := h64.1 (by omega)
      go_wp2
      go_roundw
      case rel => exact ⟨e + 1, by omega, by go_num, by rw [hps2.out]; go_num, trivial⟩
      case measure => simp [intOf]; omega
    · have hp2 : ¬ (P : Int) < (n : Int) := by omega
      have hee : pn ≤ e := HHI.out e (by rw [← hP.out]; omega)
      have hee1 : ¬ (e : Int) < (pn : Int) := by omega
      have hee2 : ¬ e < pn := by omega
      clear h64 hle
      go_upto_region 11 with (fail)
      refine wp_region_H (w0 := U) [] (by kernel_rfl) EU.out ?_
      refine anyH_phaseN [0, 1, 2, 3, 4, 5, 6, 7, 8, 9, 10, 11, 12, 13, 14, 15, 16, 17, 18, 19, 20, 21, 22, 23, 24, 25, 26, 27, 28, 29, 30, 32] 5 rfl (by kernel_rfl) ?_
      have hw6 : EnvX U _ [] := EnvX.sub (EnvX.drew EU.out) (fun _ h => by cases h)
      have hone := @EnvC.one _ _ _ hw6
      (refine wpG_op rfl rfl rfl ?_; intro K hK; go_big_quiet_op; go_big_quiet_on)
      (refine wpG_op rfl rfl rfl ?_; intro K hK; go_big_quiet_op; go_big_quiet_on)
      (refine wpG_op rfl rfl rfl ?_; intro K hK; go_big_quiet_op; go_big_quiet_on)
      (refine wpG_op rfl rfl rfl ?_; intro K hK; go_big_quiet_op; go_big_quiet_on)
      (refine wpG_val (v := .int .i64 pn) rfl rfl (fun u hu => lenI_op u rfl) ?_ hw6; intro K hK; go_big_quiet_op; go_big_quiet_on)
      (refine wpG_op rfl rfl rfl ?_; intro K hK; go_big_quiet_op; go_big_quiet_on)
      (refine wpG_op rfl rfl rfl ?_; intro K hK; go_big_quiet_op; go_big_quiet_on)
      (refine wpG_op rfl rfl rfl ?_; intro K hK; go_big_quiet_op; go_big_quiet_on)
      (refine wpG_op rfl rfl rfl ?_; intro K hK; go_big_quiet_op; go_big_quiet_on)
      (refine wpG_val (v := idv rr) rfl rfl (fun u hu => load_run_op u (HLR.out u (EnvX.sub hu (fun _ h => by cases h))) rfl) ?_ hw6; intro K hK; go_big_quiet_op; go_big_quiet_on)
      (refine wpG_op rfl rfl rfl ?_; intro K hK; go_big_quiet_op; go_big_quiet_on)
      (refine wpG_val (v := .int .i64 n) rfl rfl (fun u hu => lenI_op u rfl) ?_ hw6; intro K hK; go_big_quiet_op; go_big_quiet_on)
      (refine wpG_op rfl rfl rfl ?_; intro K hK; go_big_quiet_op; go_big_quiet_on)
      (refine wpG_op rfl rfl rfl ?_; intro K hK; go_big_quiet_op; go_big_quiet_on)
      (refine wpG_op rfl rfl rfl ?_; intro K hK; go_big_quiet_op; go_big_quiet_on)
      (refine wpG_op rfl rfl rfl ?_; intro K hK; go_big_quiet_op; go_big_quiet_on)
      (refine wpG_val (v := idv y) rfl rfl (fun u hu => load_run_op u (H1.out u (HUP.out u (EnvX.sub hu (fun _ h => by cases h)))) rfl) ?_ hw6; intro K hK; go_big_quiet_op; go_big_quiet_on)
      (refine wpG_op rfl rfl rfl ?_; intro K hK; go_big_quiet_op; go_big_quiet_on)
      (refine wpG_call (f := 17) (args := #[idv rr, .int .i64 n, .int .i64 i, idv y, .slice Av pn cv]) (v := .bool true) rfl rfl rfl Tryd.func17 rfl rfl (fun u hu => HC1.out u (HUP.out u (EnvX.sub hu (fun _ h => by cases h)))) ?_ hw6; intro K hK; go_big_quiet_op; go_big_quiet_on)
      (refine wpG_op rfl rfl rfl ?_; intro K hK; go_big_quiet_op; go_big_quiet_on)
      (refine wpG_op rfl rfl rfl ?_; intro K hK; go_big_quiet_op; go_big_quiet_on)
      (refine wpG_op rfl rfl rfl ?_; intro K hK; go_big_quiet_op; go_big_quiet_on)
      (refine wpG_val (v := idv rr) rfl rfl (fun u hu => load_run_op u (HLR.out u (EnvX.sub hu (fun _ h => by cases h))) rfl) ?_ hw6; intro K hK; go_big_quiet_op; go_big_quiet_on)
      (refine wpG_op rfl rfl rfl ?_; intro K hK; go_big_quiet_op; go_big_quiet_on)
      (refine wpG_val (v := .int .i64 n) rfl rfl (fun u hu => lenI_op u rfl) ?_ hw6; intro K hK; go_big_quiet_op; go_big_quiet_on)
      (refine wpG_op rfl rfl rfl ?_; intro K hK; go_big_quiet_op; go_big_quiet_on)
      (refine wpG_op rfl rfl rfl ?_; intro K hK; go_big_quiet_op; go_big_quiet_on)
      (refine wpG_op rfl rfl rfl ?_; intro K hK; go_big_quiet_op; go_big_quiet_on)
      (refine wpG_op rfl rfl rfl ?_; intro K hK; go_big_quiet_op; go_big_quiet_on)
      (refine wpG_val (v := idv y) rfl rfl (fun u hu => load_run_op u (H1.out u (HUP.out u (EnvX.sub hu (fun _ h => by cases h)))) rfl) ?_ hw6; intro K hK; go_big_quiet_op; go_big_quiet_on)
      (refine wpG_op rfl rfl rfl ?_; intro K hK; go_big_quiet_op; go_big_quiet_on)
      (refine wpG_val (v := idv more) rfl rfl (fun u hu => load_run_op u (HLM.out u (EnvX.sub hu (fun _ h => by cases h))) rfl) ?_ hw6; intro K hK; go_big_quiet_op; go_big_quiet_on)
      clear hone hw6
      refine wpG_nil ?_
      refine anyH_twoFreshG (i := 31) (j := 33) (fun _ _ _ hM hh => env_perm _ _ _ hM hh) (by kernel_rfl) (by kernel_rfl) (by kernel_rfl) rfl rfl (by decide) (by kernel_rfl) rfl rfl (FreshI pp) (BuiltI more) [] [] (fun _ h => h) (fun _ h => h) (fun u hu => FAt_appI HPI6.out.1 (HOU.out.below (EnvX.bel hu)) HPI6.out.2 rfl) (fun u hu => FAt_buildI HX.out.1 rfl u) ?_
      rintro x1 N1 x2 N2 hF1 ⟨gb, rfl, rfl⟩ hf1 hf2 he7 K1 hK1; go_big_quiet_op; go_big_quiet_on; intro K' hK'; go_big_quiet_op; go_big_quiet_on
      have HF1 := Lib.hid hF1
      have HN1 := Lib.hid hf1
      clear hF1
      clear hf1 hf2
      change anyH _ _ _ _ _ _ _ _ ((gb, Obj.cells (arrB 32 more) 29 (0, 0)) :: (N1 ++ []))
      refine anyH_one (i := 34) (by kernel_rfl) (hOp_own (gd := _) (R := GrownI U (pp ++ [more]) []) rfl rfl rfl rfl (fun u hu => appI_op [] hu HPI6.out.1 HX.out.1 HF1.out (fun y hy => ⟨List.mem_cons_of_mem _ (List.mem_append_left _ hy), (HN1.out y hy).1⟩) (List.Mem.head _) (fun _ h => by cases h) HPI6.out.2 rfl rfl) ?_)
      rintro x M' ⟨N9, rfl, hF9, hn9⟩ he8; intro K' hK'; go_big_quiet_op; go_big_quiet_on
      obtain ⟨g9, cap9, cur9, rfl, rfl, hc9⟩ := FreshI.full hF9 (by simp)
      rw [List.length_append, HPN.out, List.length_singleton] at hc9 ⊢
      have HC9 := Lib.hid hc9
      clear hF9 hn9 hc9
      change anyH _ _ _ _ _ _ _ _ [(g9, Obj.cells cur9 29 (0, 0))]
      refine anyH_phase [35, 36] 0 rfl ⟨_, he8.choose_spec⟩ (by kernel_rfl) ?_
      have hw9 : EnvX U _ [(g9, Obj.cells cur9 29 (0, 0))] := he8.choose_spec
      have hone := @EnvC.one _ _ _ hw9
      (refine wpG_call (f := 17) (args := #[idv rr, .int .i64 n, .int .i64 i, idv y, .slice (some ⟨g9, 0, none⟩) (pn + 1) cap9]) (v := .bool false) rfl rfl rfl Tryd.func17 rfl rfl (fun u hu => HC2.out u g9 cap9 cur9 (HUP.out u (EnvX.sub hu (fun _ h => by cases h))) (EnvX.box hu _ _ (List.Mem.head _)) HC9.out) ?_ hw9; intro K hK; go_big_quiet_op; go_big_quiet_on)
      (refine wpG_op rfl rfl rfl ?_; intro K hK; go_big_quiet_op; go_big_quiet_on)
      clear hone hw9
      refine wpG_nil ?_
      refine anyH_done (by kernel_rfl) ?_
      intro u11 E2'
      have EX10 := Lib.hid E2'
      clear E2'
      go_upto_region 13 with (fail)
      refine wp_region_H (w0 := U) [(g9, Obj.cells cur9 29 (0, 0))] (by kernel_rfl) EX10.out ?_
      refine anyH_phase [0, 1, 2, 3, 4, 5, 6, 7, 8, 9, 10, 11, 12, 13, 14, 15, 16, 17, 18, 19, 20] 0 rfl ⟨_, (EnvX.drew EX10.out)⟩ (by kernel_rfl) ?_
      have hw12 : EnvX U _ [(g9, Obj.cells cur9 29 (0, 0))] := (EnvX.drew EX10.out)
      have hone := @EnvC.one _ _ _ hw12
      (refine wpG_op rfl rfl rfl ?_; intro K hK; go_big_quiet_op; go_big_quiet_on)
      (refine wpG_val (v := .int .i64 pn) rfl rfl (fun u hu => lenI_op u rfl) ?_ hw12; intro K hK; go_big_quiet_op; go_big_quiet_on)
      (refine wpG_val (v := .bool true) rfl rfl (fun u hu => eqlI_op u HP0.out rfl rfl) ?_ hw12; intro K hK; go_big_quiet_op; go_big_quiet_on)
      (refine wpG_op rfl rfl rfl ?_; intro K hK; go_big_quiet_op; go_big_quiet_on)
      (refine wpG_skip rfl rfl ?_ hw12; intro K hK; go_big_quiet_op; go_big_quiet_on)
      (refine wpG_skip rfl rfl ?_ hw12; intro K hK; go_big_quiet_op; go_big_quiet_on)
      (refine wpG_skip rfl rfl ?_ hw12; intro K hK; go_big_quiet_op; go_big_quiet_on)
      (refine wpG_skip rfl rfl ?_ hw12; intro K hK; go_big_quiet_op; go_big_quiet_on)
      (refine wpG_skip rfl rfl ?_ hw12; intro K hK; go_big_quiet_op; go_big_quiet_on)
      (refine wpG_skip rfl rfl ?_ hw12; intro K hK; go_big_quiet_op; go_big_quiet_on)
      (refine wpG_skip rfl rfl ?_ hw12; intro K hK; go_big_quiet_op; go_big_quiet_on)
      (refine wpG_skip rfl rfl ?_ hw12; intro K hK; go_big_quiet_op; go_big_quiet_on)
      (refine wpG_skip rfl rfl ?_ hw12; intro K hK; go_big_quiet_op; go_big_quiet_on)
      (refine wpG_skip rfl rfl ?_ hw12; intro K hK; go_big_quiet_op; go_big_quiet_on)
      (refine wpG_skip rfl rfl ?_ hw12; intro K hK; go_big_quiet_op; go_big_quiet_on)
      (refine wpG_skip rfl rfl ?_ hw12; intro K hK; go_big_quiet_op; go_big_quiet_on)
      (refine wpG_skip rfl rfl ?_ hw12; intro K hK; go_big_quiet_op; go_big_quiet_on)
      (refine wpG_skip rfl rfl ?_ hw12; intro K hK; go_big_quiet_op; go_big_quiet_on)
      (refine wpG_skip rfl rfl ?_ hw12; intro K hK; go_big_quiet_op; go_big_quiet_on)
      (refine wpG_op rfl rfl rfl ?_; intro K hK; go_big_quiet_op; go_big_quiet_on)
      (refine wpG_op rfl rfl rfl ?_; intro K hK; go_big_quiet_op; go_big_quiet_on)
      clear hone hw12
      refine wpG_nil ?_
      refine anyH_done (by kernel_rfl) ?_
      intro u14 E2'
      have EX13 := Lib.hid E2'
      clear E2'
      go_wp2
      go_ret
      exact ⟨rfl, HBU.out.trans ((EnvX.bel EX13.out).mono HBU.out.size)⟩
set_option maxRecDepth 20000 in
set_option maxHeartbeats 4000000 in
theorem law_paths_f (T : TreeC) (l : List (List Int)) (A : Option Addr) (n c : Nat) (i : Nat) (more : List Int) (w : World)
    (hx : isId more) (hl : l.length = n) (hnc : n ≤ c) (hcm : c ≤ maxLen) (hI : isIds l) (hA : IdsIn w w.heap.size A l) (ht : Tables w) (c0 : n ≤ 64) (c3 : i < n) (hz : 0 < (sidesT n i).length) :
    Calls Tryd.prog 4 #[.slice A n c, .int .i64 i, idv more] w fun e w' => e = .returned (.bool true) ∧ Below w.heap.size w w' := by
  have hi : I64 (i : Int) := ⟨by omega, by omega⟩
  have c0' : ¬ (64 : Int) < (n : Int) := by omega
  have c2' : ¬ (i : Int) < 0 := by omega
  have c3' : ¬ (n : Int) ≤ (i : Int) := by omega
  have c4' : (i : Int) < (n : Int) := by omega
  have c5' : ¬ n ≤ i := by omega
  have HPR : Hid (pathR l i = (pathT l i, true)) := by
    show _ = _
    unfold pathR
    rw [if_pos ⟨by omega, by omega, by omega⟩]
    rfl
  unfold I64 at hi
  have HAW := Lib.hid (awake_any T (w.alloc (.cells (arrB 32 more) 29)) (ht.below ((Below.refl _ _).alloc (Nat.le_refl _) _)))
  have E0 : Hid (EnvX w (w.alloc (.cells (arrB 32 more) 29)) [(w.heap.size, Obj.cells (arrB 32 more) 29 (0, 0))]) := (EnvX.start w).new _
  have HT := Lib.hid ht
  have HTREE := Lib.hid T
  have HX := Lib.hid hx
  have HL := Lib.hid hl
  have HI := Lib.hid (And.intro hI hA)
  have HCM := Lib.hid hcm
  unfold maxLen at hcm
  clear ht T hx hl hI hA
  unfold idv
  go_enter Tryd.func4, Tryd.ntmps4
  go_upto_region 1 with (fail)
  generalize w.alloc (.cells (arrB 32 more) 29) = W at *
  go_wp2_with fail
  refine HAW.out.mono ?_
  rintro e w1 ⟨rfl, hb1⟩
  have HB1 := Lib.hid (EnvX.below E0.out hb1).bel
  have E1 : Hid (EnvX w1 w1 [(w.heap.size, Obj.cells (arrB 32 more) 29 (0, 0))]) := ⟨Below.refl _ _, (EnvX.below E0.out hb1).box⟩
  have HT1 := Lib.hid (HT.out.below HB1.out)
  clear hb1 E0 HAW
  have HP1 : Hid (Calls Tryd.prog 10 #[.slice A n c, .int .i64 i] w1 fun e w' => (∃ v, e = .returned (.tuple #[v, .bool true]) ∧ OwnI w' w1.heap.size v (pathT l i)) ∧ Below w1.heap.size w1 w') := by
    have h := HTREE.out.path l i A n c w1 HL.out (by omega) hnc HCM.out ⟨by omega, by omega⟩ HI.out.1 (HI.out.2.up HB1.out) HT1.out
    rw [HPR.out] at h
    exact h
  go_upto_region 4 with (fail)
  go_wp2_with fail
  refine HP1.out.mono ?_
  rintro e w2 ⟨⟨v, rfl, hv⟩, hb2⟩
  have HB2 := Lib.hid (HB1.out.trans (hb2.mono HB1.out.size))
  obtain ⟨Av, cv, rfl, hv1, hv2⟩ := hv.form
  obtain ⟨N, hF, hN⟩ := hv.fresh
  have HV := Lib.hid hv.ids
  have HO := Lib.hid hv
  have HN := Lib.hid hN
  have E2 : Hid (EnvX w2 w2 ((w.heap.size, Obj.cells (arrB 32 more) 29 (0, 0)) :: N)) := ⟨Below.refl _ _, fun g o hm => by
    rcases List.mem_cons.1 hm with h | h
    · cases h; exact (EnvX.below E1.out hb2).box _ _ (List.Mem.head _)
    · exact (hN _ h).2.1⟩
  have HT2 := Lib.hid (HT.out.below HB2.out)
  have HPI := Lib.hid (path_ids l.length l i rfl HI.out.1)
  have HPL : Hid ((pathT l i).length = (sidesT n i).length) := path_len n l i HL.out
  have HCK : Hid (checkT (rootT l) n i (l.getD i []) (pathT l i) = true) := by
    have h := check_path (l := l) (i := i) (by rw [HL.out]; omega) (by rw [HL.out]; exact c3)
    rwa [HL.out] at h
  have HCM1 : Hid (checkT (rootT l) n i (l.getD i []) (pathT l i ++ [more]) = false) := check_len (by rw [List.length_append, HPL.out]; simp)
  have HCL : Hid (0 < (pathT l i).length → checkT (rootT l) n i (l.getD i []) ((pathT l i).take ((pathT l i).length - 1)) = false) := fun hp => check_len (by rw [List.length_take, HPL.out]; rw [HPL.out] at hp; omega)
  have HHI : Hid (∀ e, n ≤ 2 ^ e → (pathT l i).length ≤ e) := fun e he => by rw [HPL.out]; exact sides_le e n i he
  obtain ⟨a1, rfl, h1⟩ := (HI.out.2.up HB2.out).loads HI.out.1 (k := i) (by rw [HL.out]; exact c3)
  have H1 := Lib.hid h1
  have HY := Lib.hid (HI.out.1.get (i := i) (by rw [HL.out]; exact c3))
  have HRI := Lib.hid (root_id HI.out.1)
  have HRT : Hid (∀ u, EnvX w2 u [] → Calls Tryd.prog 13 #[.slice (some a1) n c] u fun e w' => e = .returned (idv (rootT l)) ∧ Below u.heap.size u w') := fun u hu => HTREE.out.root l (some a1) n c u HL.out (by omega) hnc HCM.out HI.out.1 ((HI.out.2.up HB2.out).up (EnvX.bel hu)) (HT2.out.below (EnvX.bel hu))
  have HSM := Lib.hid (sides_le 6 n i (by omega))
  generalize hpp : pathT l i = pp at *
  obtain ⟨pn, hpn⟩ : ∃ pn, pp.length = pn := ⟨_, rfl⟩
  have HPS : Hid (pn ≤ 6) := by show _ ≤ _; rw [← hpn, HPL.out]; exact HSM.out
  rw [hpn] at hv1 HHI HCL ⊢
  have HPN := Lib.hid hpn
  generalize l.getD i [] = y at *
  generalize hrr : rootT l = rr at *
  have HC1 : Hid (∀ u, EnvX w2 u [] → Calls Tryd.prog 17 #[idv rr, .int .i64 n, .int .i64 i, idv y, .slice Av pn cv] u fun e w' => e = .returned (.bool true) ∧ Below u.heap.size u w') := fun u hu => by
    rw [← HCK.out]
    exact HTREE.out.check rr y n i pp Av pn cv u HRI.out HY.out ⟨by omega, by omega⟩ ⟨by omega, by omega⟩ HPN.out (by have := HPS.out; omega) hv1 hv2 HPI.out (by have h := HV.out; rw [HPN.out] at *; exact h.up (EnvX.bel hu)) (HT2.out.below (EnvX.bel hu))
  have HC2 : Hid (∀ u g cap cur, EnvX w2 u [] → u.heap[g]? = some (.cells cur 29 (0, 0)) → pn + 1 ≤ cap ∧ cap ≤ maxLen ∧ cur.size = cap * 32 ∧ cur.toList.take ((pn + 1) * 32) = (pp ++ [more]).flatten.map u8v →
      Calls Tryd.prog 17 #[idv rr, .int .i64 n, .int .i64 i, idv y, .slice (some ⟨g, 0, none⟩) (pn + 1) cap] u fun e w' => e = .returned (.bool false) ∧ Below u.heap.size u w') := fun u g cap cur hu hg hc => by
    rw [← HCM1.out]
    have hlen : (pp ++ [more]).length = pn + 1 := by rw [List.length_append, HPN.out]; rfl
    have hids : isIds (pp ++ [more]) := fun z hz => by
      rcases List.mem_append.1 hz with h | h
      · exact HPI.out z h
      · cases List.mem_singleton.1 h; exact HX.out
    have hF9 : FreshI (pp ++ [more]) (.slice (some ⟨g, 0, none⟩) (pn + 1) cap) [(g, Obj.cells cur 29 (0, 0))] := .inl ⟨g, cap, cur, by rw [hlen], rfl, by rw [hlen]; exact hc.1, hc.2.1, hc.2.2.1, by rw [hlen]; exact hc.2.2.2⟩
    have hown : OwnI u 0 (.slice (some ⟨g, 0, none⟩) (pn + 1) cap) (pp ++ [more]) := hF9.own hids (fun z hz => by cases List.mem_singleton.1 hz; exact ⟨Nat.zero_le _, hg⟩)
    exact HTREE.out.check rr y n i (pp ++ [more]) _ (pn + 1) cap u HRI.out HY.out ⟨by omega, by omega⟩ ⟨by omega, by omega⟩ hlen (by have := HPS.out; omega) hc.1 hc.2.1 hids hown.ids (HT2.out.below (EnvX.bel hu))
  have HC3 : Hid (0 < pn → ∀ u, EnvX w2 u [] → Calls Tryd.prog 17 #[idv rr, .int .i64 n, .int .i64 i, idv y, .slice Av (pn - 1) cv] u fun e w' => e = .returned (.bool false) ∧ Below u.heap.size u w') := fun hp u hu => by
    rw [← HCL.out hp]
    have hlen : (pp.take (pn - 1)).length = pn - 1 := by rw [List.length_take, HPN.out]; omega
    exact HTREE.out.check rr y n i (pp.take (pn - 1)) Av (pn - 1) cv u HRI.out HY.out ⟨by omega, by omega⟩ ⟨by omega, by omega⟩ hlen (by have := HPS.out; omega) (by omega) hv2 (HPI.out.take _) ((by exact HV.out.take HPI.out _ : IdsIn w2 w2.heap.size Av _).up (EnvX.bel hu)) (HT2.out.below (EnvX.bel hu))
  have HO2 := Lib.hid (show OwnI w2 w1.heap.size (.slice Av pn cv) pp by have h := HO.out; rw [HPN.out] at h; exact h)
  have HPC : Hid (pn ≤ cv) := hv1
  have HPI6 : Hid (isIds pp ∧ pp.length ≤ 1000000) := ⟨HPI.out, by have := HPS.out; rw [HPN.out]; omega⟩
  have hps := HPS.out
  have HPP : Hid (0 < pn) := by show _ < _; rw [← hpn, HPL.out]; exact hz
  have HP0 : Hid (decide ((pn : Int) = 0) = false) := by show _ = _; have := HPP.out; simp only [decide_eq_false_iff_not]; omega
  have HPP1 : Hid (pn - 1 ≤ cv) := by show _ ≤ _; have := HPC.out; omega
  have HS1 : Hid ((pn : Int) - 1 = ((pn - 1 : Nat) : Int) ∧ InI ((pn - 1 : Nat) : Int)) := ⟨by have := HPP.out; omega, by unfold InI; have := HPS.out; omega⟩
  clear hz
  clear hb2 hv hF hN h1 HP1 E1 hpn hpp hrr HPR HCK HCM1 HCL HSM hv2
  go_upto_region 5 with (fail)
  refine wp_region_Hx (w0 := w2) [0, 1, 2, 3] ((w.heap.size, Obj.cells (arrB 32 more) 29 (0, 0)) :: N) rfl E2.out ?_
  refine lexH_phase [0, 1] [2, 3] ?_
  have hw1 : EnvX w2 _ ((w.heap.size, Obj.cells (arrB 32 more) 29 (0, 0)) :: N) := E2.out
  have hone := @EnvC.one _ _ _ hw1
  (refine wpG_op rfl rfl rfl ?_; intro K hK; go_big_quiet_op; go_big_quiet_on)
  (refine wpG_call (f := 13) (args := #[.slice (some a1) n c]) (v := idv rr) rfl rfl rfl Tryd.func13 rfl rfl (fun u hu => HRT.out u (EnvX.sub hu (fun _ h => by cases h))) ?_ hw1; intro K hK; go_big_quiet_op; go_big_quiet_on)
  clear hone hw1
  refine wpG_nil ?_
  refine (hOp_fresh (R := fun x N => ∃ g, x = .pointer (some ⟨g, 0, none⟩) ∧ N = [(g, Obj.cells (arrB 32 []) 29 (0, 0))]) (M0 := ((w.heap.size, Obj.cells (arrB 32 more) 29 (0, 0)) :: N)) rfl rfl (fun _ h => h) (fun u hu => FAt_new (new_id _) u) ?_)
  rintro _ _ ⟨gr, rfl, rfl⟩ hf he2; intro K' hK'; go_big_quiet_op; go_big_quiet_on
  have HGR := Lib.hid (hf _ (List.mem_singleton.2 rfl))
  clear hf
  change lexH _ _ _ _ _ _ ((gr, Obj.cells (arrB 32 []) 29 (0, 0)) :: ((w.heap.size, Obj.cells (arrB 32 more) 29 (0, 0)) :: N))
  refine (hOp_store rfl (gr) (arrB 32 rr) rfl rfl HGR.out.1 29 ((arrB 32 [])) (List.Mem.head _) (info26 _ (arrB_size _ _ (by rw [HRI.out.1]; omega))) ((arrB_size _ _ (by simp)).trans (arrB_size _ _ (by rw [HRI.out.1]; omega)).symm) (arrB_one _ _) ((gr, Obj.cells (arrB 32 rr) 29 (0, 0)) :: ((w.heap.size, Obj.cells (arrB 32 more) 29 (0, 0)) :: N)) (List.forall_mem_cons.2 ⟨.inl rfl, fun y hy => .inr ⟨List.mem_cons_of_mem _ hy, HGR.out.2 y hy⟩⟩) ?_)
  intro he3
  intro u5 E2'
  have EX4 := Lib.hid E2'
  clear E2'
  go_upto_region 8 with (fail)
  have H25 := Lib.hid (EnvX.bel EX4.out)
  have HBU := Lib.hid (HB2.out.trans (H25.out.mono HB2.out.size))
  have HOU := Lib.hid (HO2.out.below H25.out)
  have HLR : Hid (∀ u, EnvX u5 u [] → (loadVar 29 ⟨gr, 0, none⟩).run Tryd.prog u = .ok (idv rr) u) := fun u hu => box_load (EnvX.comb EX4.out hu) (List.mem_append_right _ (List.Mem.head _)) HRI.out.1
  have HLM : Hid (∀ u, EnvX u5 u [] → (loadVar 29 ⟨w.heap.size, 0, none⟩).run Tryd.prog u = .ok (idv more) u) := fun u hu => box_load (EnvX.comb EX4.out hu) (List.mem_append_right _ (List.Mem.tail _ (List.Mem.head _))) HX.out.1
  have HUP : Hid (∀ u, EnvX u5 u [] → EnvX w2 u []) := fun u hu => ⟨H25.out.trans ((EnvX.bel hu).mono H25.out.size), fun _ _ h => by cases h⟩
  clear EX4 HO HO2 E2
  generalize u5 = U at *
  have EU : Hid (EnvX U U []) := EnvX.start U
  go_loopw [11, 12] (fun h v u => ∃ e : Nat, e ≤ 6 ∧ h = .int .i64 e ∧ v = .int .i64 ((2 ^ e : Nat) : Int) ∧ u = U) (fun h _ _ => 6 - (intOf h).toNat)
  case atStart => exact ⟨0, by omega, rfl, rfl, rfl⟩
  case round =>
    obtain ⟨e, he, rfl, rfl, hU⟩ := hrel
    obtain rfl := hU.symm
    obtain ⟨P, hP0⟩ : ∃ P, 2 ^ e = P := ⟨_, rfl⟩
    have hP : Hid (P = 2 ^ e) := hP0.symm
    have h64 : P < 64 ↔ e < 6 := by
      rw [← hP0]
      exact Nat.pow_lt_pow_iff_right (a := 2) (n := e) (m := 6) (by decide)
    have hle : P ≤ 64 := by
      rw [← hP0]
      have := Nat.pow_le_pow_right (show 0 < 2 by decide) he
      omega
    have hps2 : Hid (2 ^ (e + 1) = 2 * P) := by show _ = _; rw [Nat.pow_succ, hP0, Nat.mul_comm]
    rw [hP0]
    clear hP0
    by_cases hPn : P < n
    · have hp2 : (P : Int) < (n : Int) := by omega
      have he5 : e < 6 := h64.1 (by omega)
      go_wp2
      go_roundw
      case rel => exact ⟨e + 1, by omega, by go_num, by rw [hps2.out]; go_num, trivial⟩
      case measure => simp [intOf]; omega
    · have hp2 : ¬ (P : Int) < (n : Int) := by omega
      have hee : pn ≤ e := HHI.out e (by rw [← hP.out]; omega)
      have hee1 : ¬ (e : Int) < (pn : Int) := by omega
      have hee2 : ¬ e < pn := by omega
      clear h64 hle
      go_upto_region 11 with (fail)
      refine wp_region_H (w0 := U) [] (by kernel_rfl) EU.out ?_
      refine anyH_phaseN [0, 1, 2, 3, 4, 5, 6, 7, 8, 9, 10, 11, 12, 13, 14, 15, 16, 17, 18, 19, 20, 21, 22, 23, 24, 25, 26, 27, 28, 29, 30, 32] 5 rfl (by kernel_rfl) ?_
      have hw6 : EnvX U _ [] := EnvX.sub (EnvX.drew EU.out) (fun _ h => by cases h)
      have hone := @EnvC.one _ _ _ hw6
      (refine wpG_op rfl rfl rfl ?_; intro K hK; go_big_quiet_op; go_big_quiet_on)
      (refine wpG_op rfl rfl rfl ?_; intro K hK; go_big_quiet_op; go_big_quiet_on)
      (refine wpG_op rfl rfl rfl ?_; intro K hK; go_big_quiet_op; go_big_quiet_on)
      (refine wpG_op rfl rfl rfl ?_; intro K hK; go_big_quiet_op; go_big_quiet_on)
      (refine wpG_val (v := .int .i64 pn) rfl rfl (fun u hu => lenI_op u rfl) ?_ hw6; intro K hK; go_big_quiet_op; go_big_quiet_on)
      (refine wpG_op rfl rfl rfl ?_; intro K hK; go_big_quiet_op; go_big_quiet_on)
      (refine wpG_op rfl rfl rfl ?_; intro K hK; go_big_quiet_op; go_big_quiet_on)
      (refine wpG_op rfl rfl rfl ?_; intro K hK; go_big_quiet_op; go_big_quiet_on)
      (refine wpG_op rfl rfl rfl ?_; intro K hK; go_big_quiet_op; go_big_quiet_on)
      (refine wpG_val (v := idv rr) rfl rfl (fun u hu => load_run_op u (HLR.out u (EnvX.sub hu (fun _ h => by cases h))) rfl) ?_ hw6; intro K hK; go_big_quiet_op; go_big_quiet_on)
      (refine wpG_op rfl rfl rfl ?_; intro K hK; go_big_quiet_op; go_big_quiet_on)
      (refine wpG_val (v := .int .i64 n) rfl rfl (fun u hu => lenI_op u rfl) ?_ hw6; intro K hK; go_big_quiet_op; go_big_quiet_on)
      (refine wpG_op rfl rfl rfl ?_; intro K hK; go_big_quiet_op; go_big_quiet_on)
      (refine wpG_op rfl rfl rfl ?_; intro K hK; go_big_quiet_op; go_big_quiet_on)
      (refine wpG_op rfl rfl rfl ?_; intro K hK; go_big_quiet_op; go_big_quiet_on)
      (refine wpG_op rfl rfl rfl ?_; intro K hK; go_big_quiet_op; go_big_quiet_on)
      (refine wpG_val (v := idv y) rfl rfl (fun u hu => load_run_op u (H1.out u (HUP.out u (EnvX.sub hu (fun _ h => by cases h)))) rfl) ?_ hw6; intro K hK; go_big_quiet_op; go_big_quiet_on)
      (refine wpG_op rfl rfl rfl ?_; intro K hK; go_big_quiet_op; go_big_quiet_on)
      (refine wpG_call (f := 17) (args := #[idv rr, .int .i64 n, .int .i64 i, idv y, .slice Av pn cv]) (v := .bool true) rfl rfl rfl Tryd.func17 rfl rfl (fun u hu => HC1.out u (HUP.out u (EnvX.sub hu (fun _ h => by cases h)))) ?_ hw6; intro K hK; go_big_quiet_op; go_big_quiet_on)
      (refine wpG_op rfl rfl rfl ?_; intro K hK; go_big_quiet_op; go_big_quiet_on)
      (refine wpG_op rfl rfl rfl ?_; intro K hK; go_big_quiet_op; go_big_quiet_on)
      (refine wpG_op rfl rfl rfl ?_; intro K hK; go_big_quiet_op; go_big_quiet_on)
      (refine wpG_val (v := idv rr) rfl rfl (fun u hu => load_run_op u (HLR.out u (EnvX.sub hu (fun _ h => by cases h))) rfl) ?_ hw6; intro K hK; go_big_quiet_op; go_big_quiet_on)
      (refine wpG_op rfl rfl rfl ?_; intro K hK; go_big_quiet_op; go_big_quiet_on)
      (refine wpG_val (v := .int .i64 n) rfl rfl (fun u hu => lenI_op u rfl) ?_ hw6; intro K hK; go_big_quiet_op; go_big_quiet_on)
      (refine wpG_op rfl rfl rfl ?_; intro K hK; go_big_quiet_op; go_big_quiet_on)
      (refine wpG_op rfl rfl rfl ?_; intro K hK; go_big_quiet_op; go_big_quiet_on)
      (refine wpG_op rfl rfl rfl ?_; intro K hK; go_big_quiet_op; go_big_quiet_on)
      (refine wpG_op rfl rfl rfl ?_; intro K hK; go_big_quiet_op; go_big_quiet_on)
      (refine wpG_val (v := idv y) rfl rfl (fun u hu => load_run_op u (H1.out u (HUP.out u (EnvX.sub hu (fun _ h => by cases h)))) rfl) ?_ hw6; intro K hK; go_big_quiet_op; go_big_quiet_on)
      (refine wpG_op rfl rfl rfl ?_; intro K hK; go_big_quiet_op; go_big_quiet_on)
      (refine wpG_val (v := idv more) rfl rfl (fun u hu => load_run_op u (HLM.out u (EnvX.sub hu (fun _ h => by cases h))) rfl) ?_ hw6; intro K hK; go_big_quiet_op; go_big_quiet_on)
      clear hone hw6
      refine wpG_nil ?_
      refine anyH_twoFreshG (i := 31) (j := 33) (fun _ _ _ hM hh => env_perm _ _ _ hM hh) (by kernel_rfl) (by kernel_rfl) (by kernel_rfl) rfl rfl (by decide) (by kernel_rfl) rfl rfl (FreshI pp) (BuiltI more) [] [] (fun _ h => h) (fun _ h => h) (fun u hu => FAt_appI HPI6.out.1 (HOU.out.below (EnvX.bel hu)) HPI6.out.2 rfl) (fun u hu => FAt_buildI HX.out.1 rfl u) ?_
      rintro x1 N1 x2 N2 hF1 ⟨gb, rfl, rfl⟩ hf1 hf2 he7 K1 hK1; go_big_quiet_op; go_big_quiet_on; intro K' hK'; go_big_quiet_op; go_big_quiet_on
      have HF1 := Lib.hid hF1
      have HN1 := Lib.hid hf1
      clear hF1
      clear hf1 hf2
      change anyH _ _ _ _ _ _ _ _ ((gb, Obj.cells (arrB 32 more) 29 (0, 0)) :: (N1 ++ []))
      refine anyH_one (i := 34) (by kernel_rfl) (hOp_own (gd := _) (R := GrownI U (pp ++ [more]) []) rfl rfl rfl rfl (fun u hu => appI_op [] hu HPI6.out.1 HX.out.1 HF1.out (fun y hy => ⟨List.mem_cons_of_mem _ (List.mem_append_left _ hy), (HN1.out y hy).1⟩) (List.Mem.head _) (fun _ h => by cases h) HPI6.out.2 rfl rfl) ?_)
      rintro x M' ⟨N9, rfl, hF9, hn9⟩ he8; intro K' hK'; go_big_quiet_op; go_big_quiet_on
      obtain ⟨g9, cap9, cur9, rfl, rfl, hc9⟩ := FreshI.full hF9 (by simp)
      rw [List.length_append, HPN.out, List.length_singleton] at hc9 ⊢
      have HC9 := Lib.hid hc9
      clear hF9 hn9 hc9
      change anyH _ _ _ _ _ _ _ _ [(g9, Obj.cells cur9 29 (0, 0))]
      refine anyH_phase [35, 36] 0 rfl ⟨_, he8.choose_spec⟩ (by kernel_rfl) ?_
      have hw9 : EnvX U _ [(g9, Obj.cells cur9 29 (0, 0))] := he8.choose_spec
      have hone := @EnvC.one _ _ _ hw9
      (refine wpG_call (f := 17) (args := #[idv rr, .int .i64 n, .int .i64 i, idv y, .slice (some ⟨g9, 0, none⟩) (pn + 1) cap9]) (v := .bool false) rfl rfl rfl Tryd.func17 rfl rfl (fun u hu => HC2.out u g9 cap9 cur9 (HUP.out u (EnvX.sub hu (fun _ h => by cases h))) (EnvX.box hu _ _ (List.Mem.head _)) HC9.out) ?_ hw9; intro K hK; go_big_quiet_op; go_big_quiet_on)
      (refine wpG_op rfl rfl rfl ?_; intro K hK; go_big_quiet_op; go_big_quiet_on)
      clear hone hw9
      refine wpG_nil ?_
      refine anyH_done (by kernel_rfl) ?_
      intro u11 E2'
      have EX10 := Lib.hid E2'
      clear E2'
      go_upto_region 13 with (fail)
      refine wp_region_H (w0 := U) [(g9, Obj.cells cur9 29 (0, 0))] (by kernel_rfl) EX10.out ?_
      refine anyH_phase [0, 1, 2, 3, 4, 5, 6, 7, 8, 9, 10, 11, 12, 13, 14, 15, 16, 17, 18, 19, 20] 0 rfl ⟨_, (EnvX.drew EX10.out)⟩ (by kernel_rfl) ?_
      have hw12 : EnvX U _ [(g9, Obj.cells cur9 29 (0, 0))] := (EnvX.drew EX10.out)
      have hone := @EnvC.one _ _ _ hw12
      (refine wpG_op rfl rfl rfl ?_; intro K hK; go_big_quiet_op; go_big_quiet_on)
      (refine wpG_val (v := .int .i64 pn) rfl rfl (fun u hu => lenI_op u rfl) ?_ hw12; intro K hK; go_big_quiet_op; go_big_quiet_on)
      (refine wpG_val (v := .bool false) rfl rfl (fun u hu => eqlI_op u HP0.out rfl rfl) ?_ hw12; intro K hK; go_big_quiet_op; go_big_quiet_on)
      (refine wpG_op rfl rfl rfl ?_; intro K hK; go_big_quiet_op; go_big_quiet_on)
      (refine wpG_val (v := idv rr) rfl rfl (fun u hu => load_run_op u (HLR.out u (EnvX.sub hu (fun _ h => by cases h))) rfl) ?_ hw12; intro K hK; go_big_quiet_op; go_big_quiet_on)
      (refine wpG_op rfl rfl rfl ?_; intro K hK; go_big_quiet_op; go_big_quiet_on)
      (refine wpG_val (v := .int .i64 n) rfl rfl (fun u hu => lenI_op u rfl) ?_ hw12; intro K hK; go_big_quiet_op; go_big_quiet_on)
      (refine wpG_op rfl rfl rfl ?_; intro K hK; go_big_quiet_op; go_big_quiet_on)
      (refine wpG_op rfl rfl rfl ?_; intro K hK; go_big_quiet_op; go_big_quiet_on)
      (refine wpG_op rfl rfl rfl ?_; intro K hK; go_big_quiet_op; go_big_quiet_on)
      (refine wpG_op rfl rfl rfl ?_; intro K hK; go_big_quiet_op; go_big_quiet_on)
      (refine wpG_val (v := idv y) rfl rfl (fun u hu => load_run_op u (H1.out u (HUP.out u (EnvX.sub hu (fun _ h => by cases h)))) rfl) ?_ hw12; intro K hK; go_big_quiet_op; go_big_quiet_on)
      (refine wpG_op rfl rfl rfl ?_; intro K hK; go_big_quiet_op; go_big_quiet_on)
      (refine wpG_op rfl rfl rfl ?_; intro K hK; go_big_quiet_op; go_big_quiet_on)
      (refine wpG_val (v := .int .i64 pn) rfl rfl (fun u hu => lenI_op u rfl) ?_ hw12; intro K hK; go_big_quiet_op; go_big_quiet_on)
      (refine wpG_val (v := .int .i64 ((pn - 1 : Nat) : Int)) rfl rfl (fun u hu => sub_op u HS1.out.1 HS1.out.2 rfl rfl) ?_ hw12; intro K hK; go_big_quiet_op; go_big_quiet_on)
      (refine wpG_val (v := .slice Av (pn - 1) cv) rfl rfl (fun u hu => cutIh_op u HPP1.out rfl rfl) ?_ hw12; intro K hK; go_big_quiet_op; go_big_quiet_on)
      (refine wpG_call (f := 17) (args := #[idv rr, .int .i64 n, .int .i64 i, idv y, .slice Av (pn - 1) cv]) (v := .bool false) rfl rfl rfl Tryd.func17 rfl rfl (fun u hu => HC3.out HPP.out u (HUP.out u (EnvX.sub hu (fun _ h => by cases h)))) ?_ hw12; intro K hK; go_big_quiet_op; go_big_quiet_on)
      (refine wpG_op rfl rfl rfl ?_; intro K hK; go_big_quiet_op; go_big_quiet_on)
      (refine wpG_op rfl rfl rfl ?_; intro K hK; go_big_quiet_op; go_big_quiet_on)
      (refine wpG_op rfl rfl rfl ?_; intro K hK; go_big_quiet_op; go_big_quiet_on)
      clear hone hw12
      refine wpG_nil ?_
      refine anyH_done (by kernel_rfl) ?_
      intro u14 E2'
      have EX13 := Lib.hid E2'
      clear E2'
      go_wp2
      go_ret
      exact ⟨rfl, HBU.out.trans ((EnvX.bel EX13.out).mono HBU.out.size)⟩
theorem law_paths (T : TreeC) (l : List (List Int)) (A : Option Addr) (n c : Nat) (i : Int) (more : List Int) (w : World)
    (hx : isId more) (hl : l.length = n) (hnc : n ≤ c) (hcm : c ≤ maxLen) (hI : isIds l) (hA : IdsIn w w.heap.size A l) (hi : I64 i) (ht : Tables w) :
    Calls Tryd.prog 4 #[.slice A n c, .int .i64 i, idv more] w fun e w' => e = .returned (.bool true) ∧ Below w.heap.size w w' := by
  by_cases c0 : 64 < n
  · exact law_paths_a T l A n c i more w hx hl hnc hcm hI hA hi ht c0
  · by_cases c2' : i < 0
    · exact law_paths_b T l A n c i more w hx hl hnc hcm hI hA hi ht (by omega) c2'
    · obtain ⟨j, rfl⟩ := Int.eq_ofNat_of_zero_le (by omega : 0 ≤ i)
      by_cases c3 : n ≤ j
      · exact law_paths_d T l A n c j more w hx hl hnc hcm hI hA hi ht (by omega) c3
      · by_cases hz : (sidesT n j).length = 0
        · exact law_paths_e T l A n c j more w hx hl hnc hcm hI hA ht (by omega) (by omega) hz
        · exact law_paths_f T l A n c j more w hx hl hnc hcm hI hA ht (by omega) (by omega) (by omega)
end Go.Proofs.YtgiacilkecoenaaDoor

/-
  PROVED: the law stepladderlaw05.TreePaths answers true for every input, and leaves its arguments as they were.
  Conditions: the two package-level tables of package sha hold at the call what their initialisers lay; the card ties that to the text of the program (a pruned copy of the project: the packages that the roots of this seat load).
-/
namespace Go.Proofs.YtgiacilkecoenaaDoor.treePaths
open Go.ChangeShapes Go.WideShapes Go.ChangeAt Go.RowKit

theorem contract (H : Type) (enc : TypeId × Value → H) (W : World) (base : Nat) (args : Array Value) (ds gs : List (DataW H)) (before : List MemPlace)
    (hval : ∀ (j : Nat) t v, Tryd.f4.params[j]? = some t → args[j]? = some v → Value.okWide Tryd.prog W .any base t v)
    (hW : DataW.Whole enc Tryd.prog Tryd.f4.params.toList Rows.treePathsSpec.vars false W args.toList ds gs before) (hL : laidMetH Tryd.prog Rows.treePathsRow.laid W) :
    Calls Tryd.prog 4 args W fun e W' => ∃ v, e = .returned v ∧ Rows.treePathsSpec.post enc Tryd.prog Tryd.f4 false true false false W args v W' := by
  have hW' := hW
  obtain ⟨p, q, hA0, hV, rfl, hfz, hnd⟩ := hW
  have hA : DataW.TrodAll enc Tryd.prog W 0 (fun _ => true) true Tryd.f4.params.toList args.toList ds p := hA0
  rw [Tryd.params4] at hA hval
  obtain ⟨v0, vs0, d0, ds0, p0, q0, hargs, rfl, rfl, h0, r0⟩ := trodAll_cons hA
  obtain ⟨v1, vs1, d1, ds1, p1, q1, rfl, rfl, rfl, h1, r1⟩ := trodAll_cons r0
  obtain ⟨v2, vs2, d2, ds2, p2, q2, rfl, rfl, rfl, h2, r2⟩ := trodAll_cons r1
  obtain ⟨rfl, rfl, rfl⟩ := trodAll_nil r2
  obtain rfl : args = #[v0, v1, v2] := by cases args; simp_all
  obtain ⟨rfl, rfl⟩ := trodVars_none hV
  have lt0 : ∀ x ∈ p0, x.block < W.heap.size := by obtain ⟨m, hm⟩ := h0; exact DataW.trod_lt m _ _ _ hm
  obtain ⟨a0, n0, c0, x0, rfl, lx0, nc0, cm0, ix0, px0⟩ := open_ids (hval 0 22 v0 rfl rfl) h0
  obtain ⟨x1, rfl, rfl, rfl, wx1⟩ := open_int Tryd.underlying3 (hval 1 3 v1 rfl rfl) h1
  have lt2 : ∀ x ∈ p2, x.block < W.heap.size := by obtain ⟨m, hm⟩ := h2; exact DataW.trod_lt m _ _ _ hm
  obtain ⟨x2, rfl, lx2, rx2⟩ := open_id (hval 2 29 v2 rfl rfl) h2
  clear hA0
  refine (law_paths treeC x0 a0 n0 c0 x1 x2 W ⟨lx2, rx2⟩ lx0 nc0 cm0 ix0 px0 (bounds_i64 wx1) (tables_of_laid hL)).mono fun e W' ⟨he, bel⟩ => ?_
  subst he
  exact ⟨_, rfl, _, _, _, [], _, [], hW', trodAll_mk1 (shut_bool Tryd.underlying4 _), (trodAll_cons_mk (Below.trod laidOut (by kernel_rfl) (of_decide_eq_true (by kernel_rfl)) h0 bel lt0) (trodAll_cons_mk (shut_int Tryd.underlying3 wx1) (trodAll_cons_mk (Below.trod laidOut (by kernel_rfl) (of_decide_eq_true (by kernel_rfl)) h2 bel lt2) trodAll_mk0))), rfl, bel.frame _, fun h => by cases h⟩

def start : Array Value := #[.slice none 0 0, .int .i64 0, zeroId]
theorem reads (os : Os) {H : Type} (enc : TypeId × Value → H) : ∃ places, DataW.whole enc Tryd.prog ((laidWorld os).forCall (fun _ _ => 0) ⟨#[], start, []⟩).memory Tryd.f4.params.toList Rows.treePathsSpec.vars false start.toList 8 = some ([.nil, .lit (.int .i64 0), zeroD], [], places) :=
  ⟨[], by kernel_rfl⟩

set_option maxRecDepth 100000 in
theorem lifted (os : Os) (started : os.Started) (H : Type) (enc : TypeId × Value → H) (F : Stop.Interp) :
    ReturnsInHanded {} Tryd.checked os 4 .any ((OpenSpec.ofChange Rows.treePathsSpec).preRow enc Tryd.prog Tryd.f4 Rows.treePathsRow.domain false Rows.treePathsRow.laid) (((OpenSpec.ofChange Rows.treePathsSpec).at F).post enc Tryd.prog Tryd.f4 false true false false) := by
  obtain ⟨places, hx⟩ := reads os enc
  refine returnsInHanded_of_row (C := Tryd.checked) (s := OpenSpec.ofChange Rows.treePathsSpec) own started (by kernel_rfl) Tryd.func4
    (witness_row_at (enc := enc) (C := Tryd.checked) false (laidWorld os) start rfl (by kernel_rfl) (by kernel_rfl) (by kernel_rfl)
      (OpenSpec.preRow_of_cond 8 hx (by kernel_rfl) (fun k hk => by cases hk) (by kernel_rfl) (laidMet_of_run' 8 (by kernel_rfl) (by kernel_rfl)))) ?_
  intro W base args ds gs before hval hW _ _ _ hL _ _
  exact contract H enc W base args ds gs before hval hW hL

theorem said : Rows.TreePathsSaid :=
  OpenClaim.holds_of_cond 4 Tryd.f4 rfl rfl rfl rfl rfl rfl rfl ⟨rfl, rfl, rfl, rfl, rfl⟩ rfl rfl rfl rfl rfl (by kernel_rfl) Tryd.func4 (by kernel_rfl)
    (of_decide_eq_true (by kernel_rfl)) (by unfold Func.isWrapper; first | (rw [if_pos (by decide +kernel)]; kernel_rfl) | (rw [if_neg (by decide +kernel)]; exact ⟨rfl, rfl⟩))
    (fun os started H enc _ F => by rw [OpenClaim.pre_eq_preRow]; exact lifted os started H enc F)

theorem plain (f : FuncId) (fn : Func) (hf : Tryd.pinned.checked.prog.funcNamed "stepladder/stepladderlaw05.TreePaths" = some f) (hfn : Tryd.pinned.checked.prog.funcs[f]? = some fn) :
    false = Tryd.pinned.checked.prog.looks [] ∧ ∀ (j : Nat) t, fn.params[j]? = some t → Tryd.pinned.checked.prog.wantsStandIn t = false := by
  obtain rfl : f = 4 := Option.some.inj ((show Tryd.prog.funcNamed "stepladder/stepladderlaw05.TreePaths" = some 4 by kernel_rfl).symm.trans hf) |>.symm
  obtain rfl : fn = Tryd.f4 := (Option.some.inj (Tryd.func4.symm.trans hfn)).symm
  refine ⟨by kernel_rfl, fun j t ht => ?_⟩
  rw [Tryd.params4] at ht
  have hm : t = 22 ∨ t = 3 ∨ t = 29 := by simpa using Array.mem_of_getElem? ht
  rcases hm with rfl | rfl | rfl
  · exact (show Tryd.prog.wantsStandIn 22 = false by kernel_rfl)
  · exact (show Tryd.prog.wantsStandIn 3 = false by kernel_rfl)
  · exact (show Tryd.prog.wantsStandIn 29 = false by kernel_rfl)
theorem card : Rows.TreePathsCardSaid :=
  Claim7.holds_tied_plain_at .later [] _ _ _ _ said (fun _ h => by cases h) (by kernel_rfl) (fun _ h => by cases h) treePaths_row_tie rfl ⟨rfl, rfl⟩ (by kernel_rfl) rfl plain (by kernel_rfl)

end Go.Proofs.YtgiacilkecoenaaDoor.treePaths
