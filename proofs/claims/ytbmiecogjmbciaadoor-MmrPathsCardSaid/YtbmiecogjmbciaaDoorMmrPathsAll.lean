/-
  PROVED: the law stepladderlaw06.MmrPaths answers true for every input, and leaves its arguments as they were.
  Conditions: the two package-level tables of package sha hold at the call what their initialisers lay; the card ties that to the text of the program (a pruned copy of the project: the packages that the roots of this seat load).
-/
import Derived.Test.YtbmiecogjmbciaaDoorCq
import Derived.Laws.OwnMore
namespace Go.Proofs.YtbmiecogjmbciaaDoor
set_option maxRecDepth 8000
open Go.RowKit

section
variable {st e : TypeId} {z bytes : Nat} {zero : Value}
/-- .. also of a list that may be empty -/
theorem FAt_appE (T : ElemT st e z bytes zero) {u : World} {B m : Nat} {ys : List Value} {v2 : Value} {a : Act} {dst : Option Tmp} {x : Operand} {pos : String} {after : Array Edge} {gd : Option (Nat × Bool)}
    (hO : u.ownsRow B e z v2 m ys) (h1 : ∀ u ∈ ys, u.oneCell' = true) (hs : m ≤ 2000000) (hx : a.eval x = v2) :
    FAt Tryd.prog ⟨dst, .call { callee := .builtin .append, args := #[.const (.slice none 0 0), x], argTypes := #[st, st] }, st, pos, after, gd⟩ a (FreshR e z m ys) u := by
  rcases hO.2 with ⟨rfl, rfl⟩ | ⟨g, cap, cur, rfl, _, hg, k1, k2, k3, k4⟩
  · have he : a.eval (.const (.slice none 0 0)) = .slice none 0 0 := rfl
    have h0 : ys = [] := List.eq_nil_of_length_eq_zero (by rw [hO.1, Nat.zero_mul])
    subst h0
    cases hi : Tryd.prog.info? e with
    | none => have := T.info; rw [hi] at this; cases this
    | some i =>
      have hrun := run_append_owned_none (P := Tryd.prog) u u.heap.size st st e i z T.und hi _ 0 [] (World.ownsRow_nil u u.heap.size e z)
      unfold FAt execOp
      simp only [resolve, invoke, builtin, Sem.run_bind, Sem.run_pure, Result.andThen_ok, List.map_toArray, List.map_cons, List.map_nil, he, hx, hrun]
      exact ⟨Below.refl _ _, [], .inr ⟨rfl, rfl, rfl, rfl⟩, fun y hy => by cases hy⟩
  · refine FAt_appX T (ad := ⟨g, 0, none⟩) (c := cap) hO.1 h1 (fun j c hc => ?_) hs hx
    rw [Addr.add_mid, Nat.zero_add, cell_of_row u g j cur e (0, 0) hg]
    rw [← k4] at hc
    have hj : j < m * z := by
      rcases Nat.lt_or_ge j (m * z) with h' | h'
      · exact h'
      · rw [List.getElem?_eq_none (by rw [List.length_take]; omega)] at hc
        cases hc
    rw [List.getElem?_take_of_lt hj, Array.getElem?_toList] at hc
    exact hc
end
end Go.Proofs.YtbmiecogjmbciaaDoor

namespace Go.Proofs.YtbmiecogjmbciaaDoor
set_option maxRecDepth 8000
open Go.RowKit

section
variable {P : Program} {ops : Array Oper} {md : Region.Mode} {w0 : World} {Q : Act → Boxes → Prop} {f i : Nat} {listed : Array Bool} {a : Act} {M : Boxes}
theorem anyH_three {j k : Nat} (hr : Region.ready md ops listed = [i, j, k]) (h : hOp P ops w0 i (anyH P md ops w0 Q f (listed.setIfInBounds i true)) a M)
    (h' : hOp P ops w0 j (anyH P md ops w0 Q f (listed.setIfInBounds j true)) a M) (h'' : hOp P ops w0 k (anyH P md ops w0 Q f (listed.setIfInBounds k true)) a M) : anyH P md ops w0 Q (f + 1) listed a M :=
  ⟨(fun h0 => by rw [hr] at h0; cases h0), (fun m hm => by
    rw [hr] at hm
    rcases List.mem_cons.1 hm with e | e
    · cases e; exact h
    · rcases List.mem_cons.1 e with e | e
      · cases e; exact h'
      · cases List.mem_singleton.1 e; exact h'')⟩
end
end Go.Proofs.YtbmiecogjmbciaaDoor

namespace Go.Proofs.YtbmiecogjmbciaaDoor
set_option maxRecDepth 8000
open Go.RowKit

theorem OwnT.row {w : World} {B n : Nat} {v : Value} {l : List Tot} (h : OwnT w B v l) (hn : l.length = n) : w.ownsRow B 29 37 v n (l.map totC).flatten := by
  subst hn
  exact h
set_option maxHeartbeats 1000000 in
theorem law_mpaths_a (T : MmrC) (ids : List (List Int)) (ws : List Nat) (A A2 : Option Addr) (n c m c2 : Nat) (i : Int) (w : World)
    (hl : ids.length = n) (hm : ws.length = m) (hnc : n ≤ c) (hcm : c ≤ maxLen) (hmc : m ≤ c2) (hc2 : c2 ≤ maxLen) (hI : isIds ids) (hA : IdsIn w w.heap.size A ids) (hb : ∀ x ∈ ws, x < 4294967296) (hA2 : CellsIn w w.heap.size A2 (ws.map u32V)) (ht : Tables w) (c0 : 64 < n) :
    Calls Tryd.prog 5 #[.slice A n c, .slice A2 m c2, .int .i64 i] w fun e w' => e = .returned (.bool true) ∧ Below w.heap.size w w' := by
  have c0' : (64 : Int) < (n : Int) := by omega
  have E0 : Hid (EnvX w w []) := EnvX.start w
  have HAW := Lib.hid (mawake_any T w (ht.below (EnvX.bel E0.out)))
  have HT := Lib.hid ht
  have HM := Lib.hid T
  clear ht T
  have HL := Lib.hid (And.intro hl (And.intro hI hA))
  have HW := Lib.hid (And.intro hm (And.intro hb hA2))
  have HCM := Lib.hid (And.intro hcm hc2)
  unfold maxLen at hcm hc2
  clear hl hI hA hm hb hA2
  go_enter Tryd.func5, Tryd.ntmps5
  go_upto_region 1 with (fail)
  go_wp2_with fail
  refine HAW.out.mono ?_
  rintro e w1 ⟨rfl, hb1⟩
  have HB1 := Lib.hid (EnvX.below E0.out hb1).bel
  have E1 : Hid (EnvX w1 w1 []) := ⟨Below.refl _ _, (EnvX.below E0.out hb1).box⟩
  have HT1 := Lib.hid (HT.out.below HB1.out)
  clear hb1 E0 HAW
  go_wp2
  go_ret
  exact ⟨rfl, HB1.out⟩
set_option maxHeartbeats 1000000 in
theorem law_mpaths_b (T : MmrC) (ids : List (List Int)) (ws : List Nat) (A A2 : Option Addr) (n c m c2 : Nat) (i : Int) (w : World)
    (hl : ids.length = n) (hm : ws.length = m) (hnc : n ≤ c) (hcm : c ≤ maxLen) (hmc : m ≤ c2) (hc2 : c2 ≤ maxLen) (hI : isIds ids) (hA : IdsIn w w.heap.size A ids) (hb : ∀ x ∈ ws, x < 4294967296) (hA2 : CellsIn w w.heap.size A2 (ws.map u32V)) (ht : Tables w) (c0 : n ≤ 64) (k2 : i < 0) :
    Calls Tryd.prog 5 #[.slice A n c, .slice A2 m c2, .int .i64 i] w fun e w' => e = .returned (.bool true) ∧ Below w.heap.size w w' := by
  have c0' : ¬ (64 : Int) < (n : Int) := by omega
  have E0 : Hid (EnvX w w []) := EnvX.start w
  have HAW := Lib.hid (mawake_any T w (ht.below (EnvX.bel E0.out)))
  have HT := Lib.hid ht
  have HM := Lib.hid T
  clear ht T
  have HL := Lib.hid (And.intro hl (And.intro hI hA))
  have HW := Lib.hid (And.intro hm (And.intro hb hA2))
  have HCM := Lib.hid (And.intro hcm hc2)
  unfold maxLen at hcm hc2
  clear hl hI hA hm hb hA2
  go_enter Tryd.func5, Tryd.ntmps5
  go_upto_region 1 with (fail)
  go_wp2_with fail
  refine HAW.out.mono ?_
  rintro e w1 ⟨rfl, hb1⟩
  have HB1 := Lib.hid (EnvX.below E0.out hb1).bel
  have E1 : Hid (EnvX w1 w1 []) := ⟨Below.refl _ _, (EnvX.below E0.out hb1).box⟩
  have HT1 := Lib.hid (HT.out.below HB1.out)
  clear hb1 E0 HAW
  go_wp2
  go_ret
  exact ⟨rfl, HB1.out⟩
set_option maxHeartbeats 1000000 in
theorem law_mpaths_d (T : MmrC) (ids : List (List Int)) (ws : List Nat) (A A2 : Option Addr) (n c m c2 : Nat) (i : Nat) (w : World)
    (hl : ids.length = n) (hm : ws.length = m) (hnc : n ≤ c) (hcm : c ≤ maxLen) (hmc : m ≤ c2) (hc2 : c2 ≤ maxLen) (hI : isIds ids) (hA : IdsIn w w.heap.size A ids) (hb : ∀ x ∈ ws, x < 4294967296) (hA2 : CellsIn w w.heap.size A2 (ws.map u32V)) (ht : Tables w) (c0 : n ≤ 64) (c3 : n ≤ i) :
    Calls Tryd.prog 5 #[.slice A n c, .slice A2 m c2, .int .i64 i] w fun e w' => e = .returned (.bool true) ∧ Below w.heap.size w w' := by
  have c0' : ¬ (64 : Int) < (n : Int) := by omega
  have c2' : ¬ (i : Int) < 0 := by omega
  have c3' : (n : Int) ≤ (i : Int) := by omega
  have E0 : Hid (EnvX w w []) := EnvX.start w
  have HAW := Lib.hid (mawake_any T w (ht.below (EnvX.bel E0.out)))
  have HT := Lib.hid ht
  have HM := Lib.hid T
  clear ht T
  have HL := Lib.hid (And.intro hl (And.intro hI hA))
  have HW := Lib.hid (And.intro hm (And.intro hb hA2))
  have HCM := Lib.hid (And.intro hcm hc2)
  unfold maxLen at hcm hc2
  clear hl hI hA hm hb hA2
  go_enter Tryd.func5, Tryd.ntmps5
  go_upto_region 1 with (fail)
  go_wp2_with fail
  refine HAW.out.mono ?_
  rintro e w1 ⟨rfl, hb1⟩
  have HB1 := Lib.hid (EnvX.below E0.out hb1).bel
  have E1 : Hid (EnvX w1 w1 []) := ⟨Below.refl _ _, (EnvX.below E0.out hb1).box⟩
  have HT1 := Lib.hid (HT.out.below HB1.out)
  clear hb1 E0 HAW
  go_wp2
  go_ret
  exact ⟨rfl, HB1.out⟩
set_option maxRecDepth 20000 in
set_option maxHeartbeats 4000000 in
theorem law_mpaths_e (T : MmrC) (ids : List (List Int)) (ws : List Nat) (A A2 : Option Addr) (n c m c2 : Nat) (i : Nat) (w : World)
    (hl : ids.length = n) (hm : ws.length = m) (hnc : n ≤ c) (hcm : c ≤ maxLen) (hmc : m ≤ c2) (hc2 : c2 ≤ maxLen) (hI : isIds ids) (hA : IdsIn w w.heap.size A ids) (hb : ∀ x ∈ ws, x < 4294967296) (hA2 : CellsIn w w.heap.size A2 (ws.map u32V)) (ht : Tables w) (c0 : n ≤ 64) (c3 : i < n) :
    Calls Tryd.prog 5 #[.slice A n c, .slice A2 m c2, .int .i64 i] w fun e w' => e = .returned (.bool true) ∧ Below w.heap.size w w' := by
  have c0' : ¬ (64 : Int) < (n : Int) := by omega
  have c2' : ¬ (i : Int) < 0 := by omega
  have c3' : ¬ (n : Int) ≤ (i : Int) := by omega
  have c5' : ¬ n ≤ i := by omega
  have E0 : Hid (EnvX w w []) := EnvX.start w
  have HAW := Lib.hid (mawake_any T w (ht.below (EnvX.bel E0.out)))
  have HT := Lib.hid ht
  have HM := Lib.hid T
  clear ht T
  have HL := Lib.hid (And.intro hl (And.intro hI hA))
  have HW := Lib.hid (And.intro hm (And.intro hb hA2))
  have HCM := Lib.hid (And.intro hcm hc2)
  unfold maxLen at hcm hc2
  clear hl hI hA hm hb hA2
  go_enter Tryd.func5, Tryd.ntmps5
  go_upto_region 1 with (fail)
  go_wp2_with fail
  refine HAW.out.mono ?_
  rintro e w1 ⟨rfl, hb1⟩
  have HB1 := Lib.hid (EnvX.below E0.out hb1).bel
  have E1 : Hid (EnvX w1 w1 []) := ⟨Below.refl _ _, (EnvX.below E0.out hb1).box⟩
  have HT1 := Lib.hid (HT.out.below HB1.out)
  clear hb1 E0 HAW
  have HLV : Hid (Calls Tryd.prog 24 #[.slice A n c, .slice A2 m c2] w1 fun e w' => (∃ v, e = .returned v ∧ OwnT w' w1.heap.size v (leavesT ids ws)) ∧ Below w1.heap.size w1 w') :=
    lleaves_any HM.out ids ws A A2 n c m c2 w1 HL.out.1 HW.out.1 (by omega) hnc HCM.out.1 hmc HCM.out.2 HL.out.2.1 (HL.out.2.2.up HB1.out) HW.out.2.1 (CellsIn.up HW.out.2.2 HB1.out) HT1.out
  go_upto_region 4 with (fail)
  go_wp2_with fail
  refine HLV.out.mono ?_
  rintro e w2 ⟨⟨v, rfl, hv⟩, hb2⟩
  have HB2 := Lib.hid (HB1.out.trans (hb2.mono HB1.out.size))
  have HT2 := Lib.hid (HT.out.below HB2.out)
  have hLV := leaves_leaves (ids := ids) HW.out.2.1
  have hOK := leaves_ok HL.out.2.1 HW.out.2.1
  have hln : (leavesT ids ws).length = n := by rw [leaves_len, HL.out.1]
  generalize leavesT ids ws = l at *
  obtain ⟨Al, cl, rfl, hl1, hl2⟩ := hv.form
  rw [hln] at hl1 hv ⊢
  have hTL := hv.tots hln
  obtain ⟨al, rfl, hld⟩ := hTL.loads hOK (k := i) (by rw [hln]; exact c3)
  have HLS := Lib.hid (And.intro hln (And.intro hOK hTL))
  have HLI := Lib.hid hld
  have HLE := Lib.hid hLV
  have HLC := Lib.hid hl2
  have hmx : cl ≤ maxLen := hl2
  have HIN := Lib.hid c3
  have E2 : Hid (EnvX w2 w2 []) := EnvX.start w2
  -- the numbers
  obtain ⟨s, hs⟩ : ∃ s : Nat → Nat, ∀ k, sumW (l.take k) = s k := ⟨_, fun _ => rfl⟩
  have HS0 : Hid (s 0 = 0) := by show _ = _; rw [← hs, List.take_zero]; rfl
  have HSB : Hid (∀ k, k ≤ n → s k < Big) := fun k hk => by
    rw [← hs]
    have h := sumW_le (hLV.take k)
    have h2 : (l.take k).length ≤ 64 := by rw [List.length_take]; omega
    unfold Big
    omega
  have HSS : Hid (∀ k, k < n → s (k + 1) = s k + (l.getD k noTot).w ∧ (l.getD k noTot).w < Big) := fun k hk => by
    have hk' : k < l.length := by rw [hln]; exact hk
    refine ⟨?_, (hOK.get hk').2.1⟩
    rw [← hs, ← hs, List.take_succ_eq_append_getElem hk', sumW_append, List.getD_eq_getElem?_getD, List.getElem?_eq_getElem hk']
    rfl
  have hroot : rootP (peaksT l) = allT l := by rw [peaks_blocks l (by omega) hLV, root_blocks l (by omega)]
  have hck : mcheckT (allT l) i (l.getD i noTot) (mpathT l i) = (s i, true) := by
    rw [← hs]
    exact mcheck_path (by omega) (by rw [hln]; exact c3) hLV
  have hck2 : mcheckT (allT l) i (l.getD i noTot) (mpathT l i ++ [allT l]) = (0, false) := mcheck_len (by
    rw [List.length_append, mpath_len n l i hln, hLV.all_n (by omega) (by omega), hln, Int.toNat_natCast, Int.toNat_natCast]
    simp)
  have hpr : mpathR l i = (mpathT l i, true) := by
    unfold mpathR
    rw [if_pos ⟨by omega, by omega, by omega⟩]
    rfl
  have hpok := mpath_ok n i l hln hOK
  have hpl : (mpathT l i).length ≤ 64 := by
    rw [mpath_len n l i hln]
    exact Nat.le_trans (sides_le 6 n i (by omega)) (by omega)
  obtain ⟨hpk1, hpk2⟩ := peaks_ok n l hOK (by omega)
  rw [List.take_of_length_le (by omega)] at hpk1 hpk2
  have hrok := all_ok hOK
  have HROK := Lib.hid hrok
  have HPOK := Lib.hid (And.intro hpok hpl)
  have HPKK := Lib.hid (And.intro hpk1 hpk2)
  have HCK := Lib.hid hck
  have HCK2 := Lib.hid hck2
  have HPR := Lib.hid hpr
  have HRT := Lib.hid hroot
  have HIO := Lib.hid (hOK.get (i := i) (by rw [hln]; exact c3))
  clear hb2 hv hld hTL hOK hLV hln HLV hl2 hroot hck hck2 hpr hpok hpl hpk1 hpk2 hrok hs E1
  obtain ⟨pk, hpk⟩ : ∃ pk, (peaksT l).length = pk := ⟨_, rfl⟩
  have HPKN := Lib.hid hpk
  have hpk64 : pk ≤ 64 := by have := HPKK.out.2; omega
  have HPK : Hid (∀ u, EnvX w2 u [] → Calls Tryd.prog 25 #[.slice (some al) n cl] u fun e w' => (∃ v, e = .returned v ∧ w'.ownsRow u.heap.size 29 37 v pk ((peaksT l).map totC).flatten) ∧ Below u.heap.size u w') := fun u hu => by
    have h := lpeaks_any HM.out l (some al) n cl u HLS.out.1 (by omega) hl1 HLC.out HLS.out.2.1 (HLS.out.2.2.up (EnvX.bel hu)) (HT2.out.below (EnvX.bel hu))
    unfold OwnT at h
    rwa [hpk] at h
  obtain ⟨pp, hpp⟩ : ∃ pp, mpathT l i = pp := ⟨_, rfl⟩
  rw [hpp] at HCK HCK2 HPR HPOK
  obtain ⟨rt, hrt⟩ : ∃ rt, allT l = rt := ⟨_, rfl⟩
  rw [hrt] at HCK HCK2 HRT HROK
  obtain ⟨lf, hlf⟩ : ∃ lf, l.getD i noTot = lf := ⟨_, rfl⟩
  rw [hlf] at HCK HCK2 HLI HIO
  obtain ⟨pn, hpn⟩ : ∃ pn, pp.length = pn := ⟨_, rfl⟩
  have HPN := Lib.hid hpn
  have hpn64 : pn ≤ 64 := by have := HPOK.out.2; omega
  clear hpk hpp hrt hlf hpn hmx
  go_upto_region 5 with (fail)
  refine wp_region_Hx (w0 := w2) [0, 1, 2, 3, 4] [] rfl E2.out ?_
  refine lexH_phase [0] [1, 2, 3, 4] ?_
  have hw1 : EnvX w2 _ [] := E2.out
  have hone := @EnvC.one _ _ _ hw1
  (refine wpG_op rfl rfl rfl ?_; intro K hK; go_big_quiet_op; go_big_quiet_on)
  clear hone hw1
  refine wpG_nil ?_
  refine (hOp_fresh (R := FreshR 29 37 pk ((peaksT l).map totC).flatten) (M0 := []) rfl rfl (fun _ h => h) (fun u hu => FAt_call (fid := 25) (xs := #[.tmp 42]) (args := #[.slice (some al) n cl]) rfl Tryd.func25 rfl rfl u (callsR_fresh (HPK.out u (EnvX.sub hu (fun _ h => by cases h))))) ?_)
  rintro x N hF hf he2; intro K' hK'; go_big_quiet_op; go_big_quiet_on
  obtain ⟨B1, d1, rfl, hd1, he1⟩ := FreshR.full hF
  have HF1 := Lib.hid (And.intro hF (And.intro hd1 he1))
  clear hF hd1 he1
  clear hf
  change lexH _ _ _ _ _ _ (N ++ [])
  refine lexH_phase [2] [3, 4] ?_
  have hw3 : EnvX w2 _ (N ++ []) := he2.choose_spec
  have hone := @EnvC.one _ _ _ hw3
  (refine wpG_call (f := 18) (args := #[.slice B1 pk d1]) (v := .agg (totA rt)) rfl rfl rfl Tryd.func18 rfl rfl (fun u hu => (by have h := HM.out.root (peaksT l) B1 pk d1 u HPKN.out (by omega) HF1.out.2.1 HF1.out.2.2 HPKK.out.1 (fresh_tots HF1.out.1 HPKN.out HPKK.out.1 (fun y hy => EnvX.box hu _ _ (List.mem_append_left _ hy))) (HT2.out.below (EnvX.bel hu)); rwa [HRT.out] at h)) ?_ hw3; intro K hK; go_big_quiet_op; go_big_quiet_on)
  clear hone hw3
  refine wpG_nil ?_
  refine (hOp_fresh (R := fun x N => ∃ g, x = .pointer (some ⟨g, 0, none⟩) ∧ N = [(g, Obj.cells (totA zTot) 29 (0, 0))]) (M0 := (N ++ [])) rfl rfl (fun _ h => h) (fun u hu => FAt_new (new_tot _) u) ?_)
  rintro _ _ ⟨g9, rfl, rfl⟩ hf he4; intro K' hK'; go_big_quiet_op; go_big_quiet_on
  have HGg9 := Lib.hid (hf _ (List.mem_singleton.2 rfl))
  clear hf
  change lexH _ _ _ _ _ _ ((g9, Obj.cells (totA zTot) 29 (0, 0)) :: (N ++ []))
  refine (hOp_store rfl (g9) (totA (rt)) rfl rfl HGg9.out.1 29 ((totA zTot)) (List.Mem.head _) (infoTot _ (totA_size HROK.out.len)) (zTot_size.trans (totA_size HROK.out.len).symm) (totA_one _) [(g9, Obj.cells (totA (rt)) 29 (0, 0))] (List.forall_mem_cons.2 ⟨.inl rfl, (fun _ h => by cases h)⟩) ?_)
  intro he5
  intro u7 E2'
  have EX6 := Lib.hid E2'
  clear E2'
  have HPA : Hid (Calls Tryd.prog 13 #[.slice (some al) n cl, .int .i64 i] u7 fun e w' => (∃ v, e = .returned (.tuple #[v, .bool true]) ∧ OwnT w' (u7).heap.size v pp) ∧ Below (u7).heap.size u7 w') := by
    have h := HM.out.path l i (some al) n cl u7 HLS.out.1 (by omega) hl1 HLC.out ⟨by omega, by omega⟩ HLS.out.2.1 (HLS.out.2.2.up (EnvX.bel EX6.out)) (HT2.out.below (EnvX.bel EX6.out))
    rw [HPR.out] at h
    exact h
  go_upto_region 6 with (fail)
  go_wp2_with fail
  refine HPA.out.mono ?_
  rintro e w6 ⟨⟨v, rfl, hv⟩, hb⟩
  have H26 := Lib.hid ((EnvX.bel EX6.out).trans (hb.mono (EnvX.bel EX6.out).size))
  have HB6 := Lib.hid (HB2.out.trans (H26.out.mono HB2.out.size))
  have HT6 := Lib.hid (HT.out.below HB6.out)
  have E6 : Hid (EnvX w6 w6 [(g9, Obj.cells (totA rt) 29 (0, 0))]) := ⟨Below.refl _ _, (EnvX.below EX6.out hb).box⟩
  obtain ⟨P0, e0, rfl, hv1, hv2⟩ := hv.form
  rw [HPN.out] at hv1 hv ⊢
  have HP0 := Lib.hid (And.intro hv1 hv2)
  have HOW := Lib.hid hv
  have HTP := Lib.hid (hv.tots HPN.out)
  have HTL6 := Lib.hid (HLS.out.2.2.up H26.out)
  have HLD6 : Hid (∀ u, EnvX w6 u [] → (loadVar 29 (al.add (i * 37))).run Tryd.prog u = .ok (totV lf) u) := fun u hu => (HLI.out u ⟨H26.out.trans ((EnvX.bel hu).mono H26.out.size), fun _ _ h => (by cases h)⟩).1
  clear hb hv HPA EX6 HF1 HPK
  have HC1 : Hid (∀ u, EnvX w6 u [] → Calls Tryd.prog 15 #[.agg (totA rt), .int .i64 i, .agg (totA lf), .slice P0 pn e0] u fun e w' => e = .returned (.tuple #[.agg (wcs (s i)), .bool true]) ∧ Below u.heap.size u w') := fun u hu => by have h := HM.out.check rt lf i pp P0 pn e0 u HROK.out HIO.out ⟨by omega, by omega⟩ HPN.out (by omega) HP0.out.1 HP0.out.2 HPOK.out.1 (HTP.out.up (EnvX.bel hu)) (HT6.out.below (EnvX.bel hu)); rwa [HCK.out] at h
  go_upto_region 7 with (fail)
  refine wp_region_H (w0 := w6) [(g9, Obj.cells (totA rt) 29 (0, 0))] (by kernel_rfl) E6.out ?_
  refine anyH_phase [0, 1, 2, 3, 4, 5, 6, 7, 8, 9, 10] 3 rfl ⟨_, (EnvX.drew E6.out)⟩ (by kernel_rfl) ?_
  have hw101 : EnvX w6 _ [(g9, Obj.cells (totA rt) 29 (0, 0))] := (EnvX.drew E6.out)
  have hone := @EnvC.one _ _ _ hw101
  (refine wpG_val (v := .agg (totA rt)) rfl rfl (fun u hu => load_any_op u (box_tot hu (List.Mem.head _) HROK.out.len) rfl) ?_ hw101; intro K hK; go_big_quiet_op; go_big_quiet_on)
  (refine wpG_op rfl rfl rfl ?_; intro K hK; go_big_quiet_op; go_big_quiet_on)
  (refine wpG_op rfl rfl rfl ?_; intro K hK; go_big_quiet_op; go_big_quiet_on)
  (refine wpG_op rfl rfl rfl ?_; intro K hK; go_big_quiet_op; go_big_quiet_on)
  (refine wpG_val (v := .pointer (some (al.add (i * 37)))) rfl rfl (fun u hu => idxSl_op Tryd.underlying22 aggTot.size HIN.out u rfl rfl) ?_ hw101; intro K hK; go_big_quiet_op; go_big_quiet_on)
  (refine wpG_val (v := .agg (totA lf)) rfl rfl (fun u hu => load_any_op u (HLD6.out u (EnvX.sub hu (fun _ h => by cases h))) rfl) ?_ hw101; intro K hK; go_big_quiet_op; go_big_quiet_on)
  (refine wpG_op rfl rfl rfl ?_; intro K hK; go_big_quiet_op; go_big_quiet_on)
  (refine wpG_call (f := 15) (args := #[.agg (totA rt), .int .i64 i, .agg (totA lf), .slice P0 pn e0]) (v := .tuple #[.agg (wcs (s i)), .bool true]) rfl rfl rfl Tryd.func15 rfl rfl (fun u hu => HC1.out u (EnvX.sub hu (fun _ h => by cases h))) ?_ hw101; intro K hK; go_big_quiet_op; go_big_quiet_on)
  (refine wpG_op rfl rfl rfl ?_; intro K hK; go_big_quiet_op; go_big_quiet_on)
  (refine wpG_op rfl rfl rfl ?_; intro K hK; go_big_quiet_op; go_big_quiet_on)
  (refine wpG_op rfl rfl rfl ?_; intro K hK; go_big_quiet_op; go_big_quiet_on)
  clear hone hw101
  refine wpG_nil ?_
  refine anyH_one (i := 11) (by kernel_rfl) (hOp_fresh (R := fun x N => ∃ g, x = .pointer (some ⟨g, 0, none⟩) ∧ N = [(g, Obj.cells (wcs 0) 27 (0, 0))]) (M0 := [(g9, Obj.cells (totA rt) 29 (0, 0))]) rfl rfl (fun _ h => h) (fun u hu => FAt_new (new_wd _) u) ?_)
  rintro _ _ ⟨g12, rfl, rfl⟩ hf he102; intro K' hK'; go_big_quiet_op; go_big_quiet_on
  have HGg12 := Lib.hid (hf _ (List.mem_singleton.2 rfl))
  clear hf
  change anyH _ _ _ _ _ _ _ _ [(g12, Obj.cells (wcs 0) 27 (0, 0)), (g9, Obj.cells (totA rt) 29 (0, 0))]
  refine anyH_one (i := 12) (by kernel_rfl) (hOp_store rfl (g12) (wcs (s i)) rfl rfl HGg12.out.1 27 ((wcs 0)) (List.Mem.head _) (wc_info _) ((wc_size _).trans (wc_size _).symm) (wc_one _) [(g12, Obj.cells (wcs (s i)) 27 (0, 0)), (g9, Obj.cells (totA rt) 29 (0, 0))] (List.forall_mem_cons.2 ⟨.inl rfl, fun y hy => .inr ⟨List.mem_cons_of_mem _ hy, HGg12.out.2 y hy⟩⟩) ?_)
  intro he103
  refine anyH_phase [13] 0 rfl ⟨_, he103.choose_spec⟩ (by kernel_rfl) ?_
  have hw104 : EnvX w6 _ [(g12, Obj.cells (wcs (s i)) 27 (0, 0)), (g9, Obj.cells (totA rt) 29 (0, 0))] := he103.choose_spec
  have hone := @EnvC.one _ _ _ hw104
  (refine wpG_op rfl rfl rfl ?_; intro K hK; go_big_quiet_op; go_big_quiet_on)
  clear hone hw104
  refine wpG_nil ?_
  refine anyH_done (by kernel_rfl) ?_
  intro u106 E2'
  have EX105 := Lib.hid E2'
  clear E2'
  have HOF : Hid (∀ u, Calls Tryd.prog 26 #[.int .u64 0] u fun e w' => e = .returned (.agg (wcs (s 0))) ∧ Below u.heap.size u w') := fun u => by rw [HS0.out]; exact of_n 0 u (by omega)
  go_upto_region 8 with (fail)
  refine wp_region_Hx (w0 := w6) [0, 1, 2] [(g12, Obj.cells (wcs (s i)) 27 (0, 0)), (g9, Obj.cells (totA rt) 29 (0, 0))] rfl EX105.out ?_
  refine lexH_phase [0] [1, 2] ?_
  have hw107 : EnvX w6 _ [(g12, Obj.cells (wcs (s i)) 27 (0, 0)), (g9, Obj.cells (totA rt) 29 (0, 0))] := EX105.out
  have hone := @EnvC.one _ _ _ hw107
  (refine wpG_call (f := 26) (args := #[.int .u64 0]) (v := .agg (wcs (s 0))) rfl rfl rfl Tryd.func26 rfl rfl (fun u hu => HOF.out u) ?_ hw107; intro K hK; go_big_quiet_op; go_big_quiet_on)
  clear hone hw107
  refine wpG_nil ?_
  refine (hOp_fresh (R := fun x N => ∃ g, x = .pointer (some ⟨g, 0, none⟩) ∧ N = [(g, Obj.cells (wcs 0) 27 (0, 0))]) (M0 := [(g12, Obj.cells (wcs (s i)) 27 (0, 0)), (g9, Obj.cells (totA rt) 29 (0, 0))]) rfl rfl (fun _ h => h) (fun u hu => FAt_new (new_wd _) u) ?_)
  rintro _ _ ⟨g14, rfl, rfl⟩ hf he108; intro K' hK'; go_big_quiet_op; go_big_quiet_on
  have HGg14 := Lib.hid (hf _ (List.mem_singleton.2 rfl))
  clear hf
  change lexH _ _ _ _ _ _ [(g14, Obj.cells (wcs 0) 27 (0, 0)), (g12, Obj.cells (wcs (s i)) 27 (0, 0)), (g9, Obj.cells (totA rt) 29 (0, 0))]
  refine (hOp_store rfl (g14) (wcs (s 0)) rfl rfl HGg14.out.1 27 ((wcs 0)) (List.Mem.head _) (wc_info _) ((wc_size _).trans (wc_size _).symm) (wc_one _) [(g14, Obj.cells (wcs (s 0)) 27 (0, 0)), (g12, Obj.cells (wcs (s i)) 27 (0, 0)), (g9, Obj.cells (totA rt) 29 (0, 0))] (List.forall_mem_cons.2 ⟨.inl rfl, fun y hy => .inr ⟨List.mem_cons_of_mem _ hy, HGg14.out.2 y hy⟩⟩) ?_)
  intro he109
  intro u111 E2'
  have EX110 := Lib.hid E2'
  clear E2'
  have EI : Hid (EnvX w6 u111 [(g14, Obj.cells (wcs (s 0)) 27 (0, 0)), (g12, Obj.cells (wcs (s i)) 27 (0, 0)), (g9, Obj.cells (totA rt) 29 (0, 0))]) := EX110
  clear EX110 HC1 HOF
  go_upto_region 10 with (fail)
  go_loopw [15, 16, 17] (fun j p b u => ∃ k : Nat, k ≤ i ∧ j = .int .i64 (k : Int) ∧ Hid (EnvX w6 u [(g14, Obj.cells (wcs (s k)) 27 (0, 0)), (g12, Obj.cells (wcs (s i)) 27 (0, 0)), (g9, Obj.cells (totA rt) 29 (0, 0))])) (fun j _ _ _ => i - (intOf j).toNat)
  case atStart => exact ⟨0, by omega, rfl, EI⟩
  case round =>
    obtain ⟨k, hk, rfl, EK⟩ := hrel
    clear EI
    by_cases hlt : k < i
    · have hlt2 : (k : Int) < (i : Int) := by omega
      obtain ⟨a3, h3, hld⟩ := HTL6.out.loads HLS.out.2.1 (k := k) (by rw [HLS.out.1]; omega)
      obtain rfl : al = a3 := (by injection h3)
      have HLD := Lib.hid (fun u hu => (hld u hu).2.2.1)
      have HKM : Hid (k < n) := by show k < n; omega
      have HADD : Hid (∀ u, Calls Tryd.prog 27 #[.agg (wcs (s k)), .agg (wcs (l.getD k noTot).w)] u fun e w' => e = .returned (.tuple #[.agg (wcs (s (k + 1))), .bool true]) ∧ Below u.heap.size u w') := fun u => by
        have h1 := HSS.out k HKM.out
        have h2 := HSB.out (k + 1) (by omega)
        have h := add_any (s k) (l.getD k noTot).w u (HSB.out k (by omega)) h1.2
        rw [← h1.1] at h
        rwa [Nat.mod_eq_of_lt h2, decide_eq_true h2] at h
      clear hld h3
      go_upto_region 12 with (fail)
      refine wp_region_H (w0 := w6) [(g14, Obj.cells (wcs (s k)) 27 (0, 0)), (g12, Obj.cells (wcs (s i)) 27 (0, 0)), (g9, Obj.cells (totA rt) 29 (0, 0))] (by kernel_rfl) EK.out ?_
      refine anyH_phase [0, 1, 2, 3, 4, 5, 6, 7, 8, 9] 3 rfl ⟨_, (EnvX.drew EK.out)⟩ (by kernel_rfl) ?_
      have hw112 : EnvX w6 _ [(g14, Obj.cells (wcs (s k)) 27 (0, 0)), (g12, Obj.cells (wcs (s i)) 27 (0, 0)), (g9, Obj.cells (totA rt) 29 (0, 0))] := (EnvX.drew EK.out)
      have hone := @EnvC.one _ _ _ hw112
      (refine wpG_val (v := .agg (wcs (s k))) rfl rfl (fun u hu => load_any_op u (box_wide hu (List.Mem.head _)) rfl) ?_ hw112; intro K hK; go_big_quiet_op; go_big_quiet_on)
      (refine wpG_op rfl rfl rfl ?_; intro K hK; go_big_quiet_op; go_big_quiet_on)
      (refine wpG_op rfl rfl rfl ?_; intro K hK; go_big_quiet_op; go_big_quiet_on)
      (refine wpG_val (v := .pointer (some (al.add (k * 37)))) rfl rfl (fun u hu => idxSl_op Tryd.underlying22 aggTot.size HKM.out u rfl rfl) ?_ hw112; intro K hK; go_big_quiet_op; go_big_quiet_on)
      (refine wpG_val (v := .pointer (some ((al.add (k * 37)).add 32))) rfl rfl (fun u hu => fieldT_op (k := 1) (off := 32) rfl u rfl) ?_ hw112; intro K hK; go_big_quiet_op; go_big_quiet_on)
      (refine wpG_val (v := .agg (wcs (l.getD k noTot).w)) rfl rfl (fun u hu => load_any_op u (HLD.out u (EnvX.sub hu (fun _ h => by cases h))) rfl) ?_ hw112; intro K hK; go_big_quiet_op; go_big_quiet_on)
      (refine wpG_call (f := 27) (args := #[.agg (wcs (s k)), .agg (wcs (l.getD k noTot).w)]) (v := .tuple #[.agg (wcs (s (k + 1))), .bool true]) rfl rfl rfl Tryd.func27 rfl rfl (fun u hu => HADD.out u) ?_ hw112; intro K hK; go_big_quiet_op; go_big_quiet_on)
      (refine wpG_op rfl rfl rfl ?_; intro K hK; go_big_quiet_op; go_big_quiet_on)
      (refine wpG_op rfl rfl rfl ?_; intro K hK; go_big_quiet_op; go_big_quiet_on)
      (refine wpG_op rfl rfl rfl ?_; intro K hK; go_big_quiet_op; go_big_quiet_on)
      clear hone hw112
      refine wpG_nil ?_
      refine anyH_one (i := 10) (by kernel_rfl) (hOp_fresh (R := fun x N => ∃ g, x = .pointer (some ⟨g, 0, none⟩) ∧ N = [(g, Obj.cells (wcs 0) 27 (0, 0))]) (M0 := [(g14, Obj.cells (wcs (s k)) 27 (0, 0)), (g12, Obj.cells (wcs (s i)) 27 (0, 0)), (g9, Obj.cells (totA rt) 29 (0, 0))]) rfl rfl (fun _ h => h) (fun u hu => FAt_new (new_wd _) u) ?_)
      rintro _ _ ⟨g16, rfl, rfl⟩ hf he113; intro K' hK'; go_big_quiet_op; go_big_quiet_on
      have HGg16 := Lib.hid (hf _ (List.mem_singleton.2 rfl))
      clear hf
      change anyH _ _ _ _ _ _ _ _ [(g16, Obj.cells (wcs 0) 27 (0, 0)), (g14, Obj.cells (wcs (s k)) 27 (0, 0)), (g12, Obj.cells (wcs (s i)) 27 (0, 0)), (g9, Obj.cells (totA rt) 29 (0, 0))]
      refine anyH_one (i := 11) (by kernel_rfl) (hOp_store rfl (g16) (wcs (s (k + 1))) rfl rfl HGg16.out.1 27 ((wcs 0)) (List.Mem.head _) (wc_info _) ((wc_size _).trans (wc_size _).symm) (wc_one _) [(g16, Obj.cells (wcs (s (k + 1))) 27 (0, 0)), (g14, Obj.cells (wcs (s k)) 27 (0, 0)), (g12, Obj.cells (wcs (s i)) 27 (0, 0)), (g9, Obj.cells (totA rt) 29 (0, 0))] (List.forall_mem_cons.2 ⟨.inl rfl, fun y hy => .inr ⟨List.mem_cons_of_mem _ hy, HGg16.out.2 y hy⟩⟩) ?_)
      intro he114
      refine anyH_phase [12] 0 rfl ⟨_, he114.choose_spec⟩ (by kernel_rfl) ?_
      have hw115 : EnvX w6 _ [(g16, Obj.cells (wcs (s (k + 1))) 27 (0, 0)), (g14, Obj.cells (wcs (s k)) 27 (0, 0)), (g12, Obj.cells (wcs (s i)) 27 (0, 0)), (g9, Obj.cells (totA rt) 29 (0, 0))] := he114.choose_spec
      have hone := @EnvC.one _ _ _ hw115
      (refine wpG_op rfl rfl rfl ?_; intro K hK; go_big_quiet_op; go_big_quiet_on)
      clear hone hw115
      refine wpG_nil ?_
      refine anyH_done (by kernel_rfl) ?_
      intro u117 E2'
      have EX116 := Lib.hid E2'
      clear E2'
      go_upto_region 13 with (fail)
      refine wp_region_Hx (w0 := w6) [0, 1] [(g16, Obj.cells (wcs (s (k + 1))) 27 (0, 0)), (g14, Obj.cells (wcs (s k)) 27 (0, 0)), (g12, Obj.cells (wcs (s i)) 27 (0, 0)), (g9, Obj.cells (totA rt) 29 (0, 0))] rfl EX116.out ?_
      refine lexH_phase [0] [1] ?_
      have hw118 : EnvX w6 _ [(g16, Obj.cells (wcs (s (k + 1))) 27 (0, 0)), (g14, Obj.cells (wcs (s k)) 27 (0, 0)), (g12, Obj.cells (wcs (s i)) 27 (0, 0)), (g9, Obj.cells (totA rt) 29 (0, 0))] := EX116.out
      have hone := @EnvC.one _ _ _ hw118
      (refine wpG_val (v := .agg (wcs (s (k + 1)))) rfl rfl (fun u hu => load_any_op u (box_wide hu (List.Mem.head _)) rfl) ?_ hw118; intro K hK; go_big_quiet_op; go_big_quiet_on)
      clear hone hw118
      refine wpG_nil ?_
      refine (hOp_store rfl (g14) (wcs (s (k + 1))) rfl rfl HGg14.out.1 27 ((wcs (s k))) (List.Mem.tail _ (List.Mem.head _)) (wc_info _) ((wc_size _).trans (wc_size _).symm) (wc_one _) [(g14, Obj.cells (wcs (s (k + 1))) 27 (0, 0)), (g12, Obj.cells (wcs (s i)) 27 (0, 0)), (g9, Obj.cells (totA rt) 29 (0, 0))] (List.forall_mem_cons.2 ⟨.inl rfl, List.forall_mem_cons.2 ⟨.inr ⟨(List.Mem.tail _ (List.Mem.tail _ (List.Mem.head _))), HGg14.out.2 _ (List.Mem.head _)⟩, List.forall_mem_cons.2 ⟨.inr ⟨(List.Mem.tail _ (List.Mem.tail _ (List.Mem.tail _ (List.Mem.head _)))), HGg14.out.2 _ (List.Mem.tail _ (List.Mem.head _))⟩, (fun _ h => by cases h)⟩⟩⟩) ?_)
      intro he119
      intro u121 E2'
      have EX120 := Lib.hid E2'
      clear E2'
      go_wp2
      go_roundw
      case rel => exact ⟨k + 1, by omega, by go_num, EX120⟩
      case measure => simp [intOf]; omega
    · obtain rfl : i = k := by omega
      have hge : ¬ (i : Int) < (i : Int) := by omega
      have H6U := Lib.hid (EnvX.bel EK.out)
      have HBU := Lib.hid (HB6.out.trans (H6U.out.mono HB6.out.size))
      have HTU := Lib.hid (HT.out.below HBU.out)
      have HOU := Lib.hid (HOW.out.below H6U.out)
      have HUP : Hid (∀ u, EnvX wr u [] → EnvX w6 u []) := fun u hu => ⟨H6U.out.trans ((EnvX.bel hu).mono H6U.out.size), fun _ _ h => (by cases h)⟩
      have HLR : Hid (∀ u, EnvX wr u [] → (loadVar 29 ⟨g9, 0, none⟩).run Tryd.prog u = .ok (totV rt) u) := fun u hu => box_tot (EnvX.comb EK.out hu) (List.mem_append_right _ (List.Mem.tail _ (List.Mem.tail _ (List.Mem.head _)))) HROK.out.len
      have HLA : Hid (∀ u, EnvX wr u [] → (loadVar 27 ⟨g12, 0, none⟩).run Tryd.prog u = .ok (.agg (wcs (s i))) u) := fun u hu => box_wide (EnvX.comb EK.out hu) (List.mem_append_right _ (List.Mem.tail _ (List.Mem.head _)))
      have HLB : Hid (∀ u, EnvX wr u [] → (loadVar 27 ⟨g14, 0, none⟩).run Tryd.prog u = .ok (.agg (wcs (s i))) u) := fun u hu => box_wide (EnvX.comb EK.out hu) (List.mem_append_right _ (List.Mem.head _))
      have HLL : Hid (∀ u, EnvX wr u [] → (loadVar 29 (al.add (i * 37))).run Tryd.prog u = .ok (totV lf) u) := fun u hu => HLD6.out u (HUP.out u hu)
      have HFL : Hid ((pp.map totC).flatten.length = pn * 37) := by show _ = _; rw [flatT_len HPOK.out.1, HPN.out]
      have HC2 : Hid (∀ u A c N, EnvX wr u [] → FreshR 29 37 (pn + 1) ((pp.map totC).flatten ++ totC rt) (.slice A (pn + 1) c) N → (∀ y ∈ N, u.heap[y.1]? = some y.2) → pn + 1 ≤ c ∧ c ≤ maxLen →
          Calls Tryd.prog 15 #[.agg (totA rt), .int .i64 i, .agg (totA lf), .slice A (pn + 1) c] u fun e w' => e = .returned (.tuple #[.agg (wcs 0), .bool false]) ∧ Below u.heap.size u w') := fun u A c N hu hF hN hc => by
        have hok : okTs (pp ++ [rt]) := fun z hz => by
          rcases List.mem_append.1 hz with h | h
          · exact HPOK.out.1 z h
          · cases List.mem_singleton.1 h; exact HROK.out
        have hlen : (pp ++ [rt]).length = pn + 1 := by rw [List.length_append, HPN.out]; rfl
        have hF' : FreshR 29 37 (pn + 1) ((pp ++ [rt]).map totC).flatten (.slice A (pn + 1) c) N := by
          rw [List.map_append, List.flatten_append, List.map_singleton, List.flatten_singleton]
          exact hF
        have h := HM.out.check rt lf i (pp ++ [rt]) A (pn + 1) c u HROK.out HIO.out ⟨by omega, by omega⟩ hlen (by omega) hc.1 hc.2 hok (fresh_tots hF' hlen hok hN) (HTU.out.below (EnvX.bel hu))
        rwa [HCK2.out] at h
      have HEW : Hid (s i < Big ∧ eqN (s i) (s i) = true) := ⟨HSB.out i (by omega), decide_eq_true rfl⟩
      clear EK
      have EU : Hid (EnvX wr wr []) := EnvX.start wr
      go_upto_region 14 with (fail)
      refine wp_region_H (w0 := wr) [] (by kernel_rfl) EU.out ?_
      refine anyH_phaseN [0, 1, 2, 3, 4, 5, 6, 8] 10 rfl (by kernel_rfl) ?_
      have hw2001 : EnvX wr _ [] := EnvX.sub (EnvX.drew EU.out) (fun _ h => by cases h)
      have hone := @EnvC.one _ _ _ hw2001
      (refine wpG_val (v := .agg (totA rt)) rfl rfl (fun u hu => load_any_op u (HLR.out u hu) rfl) ?_ hw2001; intro K hK; go_big_quiet_op; go_big_quiet_on)
      (refine wpG_op rfl rfl rfl ?_; intro K hK; go_big_quiet_op; go_big_quiet_on)
      (refine wpG_op rfl rfl rfl ?_; intro K hK; go_big_quiet_op; go_big_quiet_on)
      (refine wpG_op rfl rfl rfl ?_; intro K hK; go_big_quiet_op; go_big_quiet_on)
      (refine wpG_val (v := .pointer (some (al.add (i * 37)))) rfl rfl (fun u hu => idxSl_op Tryd.underlying22 aggTot.size HIN.out u rfl rfl) ?_ hw2001; intro K hK; go_big_quiet_op; go_big_quiet_on)
      (refine wpG_val (v := .agg (totA lf)) rfl rfl (fun u hu => load_any_op u (HLL.out u hu) rfl) ?_ hw2001; intro K hK; go_big_quiet_op; go_big_quiet_on)
      (refine wpG_op rfl rfl rfl ?_; intro K hK; go_big_quiet_op; go_big_quiet_on)
      (refine wpG_val (v := .agg (totA rt)) rfl rfl (fun u hu => load_any_op u (HLR.out u hu) rfl) ?_ hw2001; intro K hK; go_big_quiet_op; go_big_quiet_on)
      clear hone hw2001
      refine wpG_nil ?_
      refine anyH_three (i := 7) (j := 9) (k := 15) (by kernel_rfl) ?_ ?_ ?_
      · skip
        refine (hOp_fresh (R := FreshR 29 37 pn (pp.map totC).flatten) (M0 := []) rfl rfl (fun _ h => h) (fun u hu => FAt_appE elTot (OwnT.row (HOU.out.below (EnvX.bel hu)) HPN.out) flatT_one (by omega) rfl) ?_)
        rintro x N7 hF hf he2002; intro K' hK'; go_big_quiet_op; go_big_quiet_on
        have HF7 := Lib.hid hF
        have HG7 := Lib.hid hf
        clear hF
        clear hf
        change anyH _ _ _ _ _ _ _ _ (N7 ++ [])
        refine anyH_two (i := 9) (j := 15) (by kernel_rfl) ?_ ?_
        · skip
          refine (hOp_fresh (R := BuiltR 29 (totC rt)) (M0 := (N7 ++ [])) rfl rfl (fun _ h => h) (fun u hu => FAt_buildR elTot (totC_len HROK.out.len) (totC_one _) rfl u) ?_)
          rintro _ _ ⟨gb, rfl, rfl⟩ hf he2003; intro K' hK'; go_big_quiet_op; go_big_quiet_on
          clear hf
          change anyH _ _ _ _ _ _ _ _ ((gb, Obj.cells (totC rt).toArray 29 (0, 0)) :: (N7 ++ []))
          refine anyH_two (i := 10) (j := 15) (by kernel_rfl) ?_ ?_
          · skip
            refine (hOp_own (gd := none) (R := GrownR wr 29 37 (pn + 1) ((pp.map totC).flatten ++ totC rt) []) rfl rfl rfl rfl (fun u hu => appX_op elTot (m := 1) [] hu HFL.out (by rw [Nat.one_mul]; exact totC_len HROK.out.len) (totC_one _) HF7.out (fun y hy => ⟨(List.Mem.tail _ (List.mem_append_left _ hy)), (HG7.out y hy).1⟩) (src_box (k := 0) hu (List.Mem.head _) (by rw [List.drop_zero, List.take_length])) (fun _ h => by cases h) (by omega) rfl rfl) ?_)
            rintro x M' ⟨N10, hM2, hF2, hn2⟩ he2004; intro K' hK'; go_big_quiet_op; go_big_quiet_on
            obtain rfl : N10 = M' := (by rw [hM2, List.append_nil])
            clear hM2
            obtain ⟨A10, c10, rfl, hc1, hc2⟩ := FreshR.full hF2
            have HF2 := Lib.hid (And.intro hF2 (And.intro hc1 hc2))
            have HN2 := Lib.hid hn2
            clear hF2 hn2 hc1 hc2
            change anyH _ _ _ _ _ _ _ _ N10
            refine anyH_phase [11, 12, 13, 14] 3 rfl ⟨_, he2004.choose_spec⟩ (by kernel_rfl) ?_
            have hw2005 : EnvX wr _ N10 := he2004.choose_spec
            have hone := @EnvC.one _ _ _ hw2005
            (refine wpG_call (f := 15) (args := #[.agg (totA rt), .int .i64 i, .agg (totA lf), .slice A10 (pn + 1) c10]) (v := .tuple #[.agg (wcs 0), .bool false]) rfl rfl rfl Tryd.func15 rfl rfl (fun u hu => HC2.out u _ _ _ (EnvX.sub hu (fun _ h => by cases h)) HF2.out.1 (fun y hy => EnvX.box hu _ _ hy) HF2.out.2) ?_ hw2005; intro K hK; go_big_quiet_op; go_big_quiet_on)
            (refine wpG_op rfl rfl rfl ?_; intro K hK; go_big_quiet_op; go_big_quiet_on)
            (refine wpG_op rfl rfl rfl ?_; intro K hK; go_big_quiet_op; go_big_quiet_on)
            (refine wpG_op rfl rfl rfl ?_; intro K hK; go_big_quiet_op; go_big_quiet_on)
            clear hone hw2005
            refine wpG_nil ?_
            refine anyH_one (i := 15) (by kernel_rfl) (hOp_fresh (R := fun x N => ∃ g, x = .pointer (some ⟨g, 0, none⟩) ∧ N = [(g, Obj.cells (wcs 0) 27 (0, 0))]) (M0 := N10) rfl rfl (fun _ h => h) (fun u hu => FAt_new (new_wd _) u) ?_)
            rintro _ _ ⟨g18, rfl, rfl⟩ hf he2006; intro K' hK'; go_big_quiet_op; go_big_quiet_on
            have HGg18 := Lib.hid (hf _ (List.mem_singleton.2 rfl))
            clear hf
            change anyH _ _ _ _ _ _ _ _ ((g18, Obj.cells (wcs 0) 27 (0, 0)) :: N10)
            refine anyH_one (i := 16) (by kernel_rfl) (hOp_store rfl (g18) (wcs (0)) rfl rfl HGg18.out.1 27 ((wcs 0)) (List.Mem.head _) (wc_info _) ((wc_size _).trans (wc_size _).symm) (wc_one _) [(g18, Obj.cells (wcs (0)) 27 (0, 0))] (List.forall_mem_cons.2 ⟨.inl rfl, (fun _ h => by cases h)⟩) ?_)
            intro he2007
            refine anyH_phaseN [17] 0 rfl (by kernel_rfl) ?_
            have hw2008 : EnvX wr _ [] := EnvX.sub he2007.choose_spec (fun _ h => by cases h)
            have hone := @EnvC.one _ _ _ hw2008
            (refine wpG_op rfl rfl rfl ?_; intro K hK; go_big_quiet_op; go_big_quiet_on)
            clear hone hw2008
            refine wpG_nil ?_
            refine anyH_done (by kernel_rfl) ?_
            intro u2010 E2'
            have EX2009 := Lib.hid E2'
            clear E2'
            go_upto_region 15 with (fail)
            have EZ : Hid (EnvX wr u2010 []) := EnvX.sub EX2009.out (fun _ h => by cases h)
            refine wp_region_Hx (w0 := wr) [0, 1, 2, 3, 4, 5, 6, 7, 8, 9, 10, 11, 12, 13] [] rfl EZ.out ?_
            refine lexH_phase [0, 1, 2, 3, 4, 5, 6, 7, 8, 9, 10, 11, 12, 13] [] ?_
            have hw3011 : EnvX wr _ [] := EZ.out
            have hone := @EnvC.one _ _ _ hw3011
            (refine wpG_op rfl rfl rfl ?_; intro K hK; go_big_quiet_op; go_big_quiet_on)
            (refine wpG_op rfl rfl rfl ?_; intro K hK; go_big_quiet_op; go_big_quiet_on)
            (refine wpG_op rfl rfl rfl ?_; intro K hK; go_big_quiet_op; go_big_quiet_on)
            (refine wpG_op rfl rfl rfl ?_; intro K hK; go_big_quiet_op; go_big_quiet_on)
            (refine wpG_op rfl rfl rfl ?_; intro K hK; go_big_quiet_op; go_big_quiet_on)
            (refine wpG_val (v := .agg (wcs (s i))) rfl rfl (fun u hu => load_any_op u (HLA.out u hu) rfl) ?_ hw3011; intro K hK; go_big_quiet_op; go_big_quiet_on)
            (refine wpG_val (v := .agg (wcs (s i))) rfl rfl (fun u hu => load_any_op u (HLB.out u hu) rfl) ?_ hw3011; intro K hK; go_big_quiet_op; go_big_quiet_on)
            (refine wpG_val (v := .bool true) rfl rfl (fun u hu => eqlW_op HEW.out.1 HEW.out.1 HEW.out.2 u rfl rfl) ?_ hw3011; intro K hK; go_big_quiet_op; go_big_quiet_on)
            (refine wpG_op rfl rfl rfl ?_; intro K hK; go_big_quiet_op; go_big_quiet_on)
            (refine wpG_op rfl rfl rfl ?_; intro K hK; go_big_quiet_op; go_big_quiet_on)
            (refine wpG_op rfl rfl rfl ?_; intro K hK; go_big_quiet_op; go_big_quiet_on)
            (refine wpG_op rfl rfl rfl ?_; intro K hK; go_big_quiet_op; go_big_quiet_on)
            (refine wpG_op rfl rfl rfl ?_; intro K hK; go_big_quiet_op; go_big_quiet_on)
            (refine wpG_op rfl rfl rfl ?_; intro K hK; go_big_quiet_op; go_big_quiet_on)
            clear hone hw3011
            refine wpG_nil ?_
            intro u3013 E2'
            have EX3012 := Lib.hid E2'
            clear E2'
            go_wp2
            go_ret
            exact ⟨rfl, HBU.out.trans ((EnvX.bel EX3012.out).mono HBU.out.size)⟩
          · skip
            refine (hOp_fresh (R := fun x N => ∃ g, x = .pointer (some ⟨g, 0, none⟩) ∧ N = [(g, Obj.cells (wcs 0) 27 (0, 0))]) (M0 := ((gb, Obj.cells (totC rt).toArray 29 (0, 0)) :: (N7 ++ []))) rfl rfl (fun _ h => h) (fun u hu => FAt_new (new_wd _) u) ?_)
            rintro _ _ ⟨g18, rfl, rfl⟩ hf he2011; intro K' hK'; go_big_quiet_op; go_big_quiet_on
            have HGg18 := Lib.hid (hf _ (List.mem_singleton.2 rfl))
            clear hf
            change anyH _ _ _ _ _ _ _ _ ((g18, Obj.cells (wcs 0) 27 (0, 0)) :: ((gb, Obj.cells (totC rt).toArray 29 (0, 0)) :: (N7 ++ [])))
            refine anyH_one (i := 10) (by kernel_rfl) (hOp_own (gd := none) (R := GrownR wr 29 37 (pn + 1) ((pp.map totC).flatten ++ totC rt) [(g18, Obj.cells (wcs 0) 27 (0, 0))]) rfl rfl rfl rfl (fun u hu => appX_op elTot (m := 1) [(g18, Obj.cells (wcs 0) 27 (0, 0))] hu HFL.out (by rw [Nat.one_mul]; exact totC_len HROK.out.len) (totC_one _) HF7.out (fun y hy => ⟨(List.Mem.tail _ (List.Mem.tail _ (List.mem_append_left _ hy))), (HG7.out y hy).1⟩) (src_box (k := 0) hu (List.Mem.tail _ (List.Mem.head _)) (by rw [List.drop_zero, List.take_length])) (fun z hz => by cases List.mem_singleton.1 hz; exact ⟨(List.Mem.head _), fun y hy => Ne.symm ((HGg18.out).2 y (List.Mem.tail _ (List.mem_append_left _ hy)))⟩) (by omega) rfl rfl) ?_)
            rintro x M' ⟨N10, hM2, hF2, hn2⟩ he2012; intro K' hK'; go_big_quiet_op; go_big_quiet_on
            subst hM2
            obtain ⟨A10, c10, rfl, hc1, hc2⟩ := FreshR.full hF2
            have HF2 := Lib.hid (And.intro hF2 (And.intro hc1 hc2))
            have HN2 := Lib.hid hn2
            clear hF2 hn2 hc1 hc2
            change anyH _ _ _ _ _ _ _ _ (N10 ++ ((g18, Obj.cells (wcs 0) 27 (0, 0)) :: []))
            refine anyH_phase [11, 12, 13, 14] 2 rfl ⟨_, he2012.choose_spec⟩ (by kernel_rfl) ?_
            have hw2013 : EnvX wr _ (N10 ++ ((g18, Obj.cells (wcs 0) 27 (0, 0)) :: [])) := he2012.choose_spec
            have hone := @EnvC.one _ _ _ hw2013
            (refine wpG_call (f := 15) (args := #[.agg (totA rt), .int .i64 i, .agg (totA lf), .slice A10 (pn + 1) c10]) (v := .tuple #[.agg (wcs 0), .bool false]) rfl rfl rfl Tryd.func15 rfl rfl (fun u hu => HC2.out u _ _ _ (EnvX.sub hu (fun _ h => by cases h)) HF2.out.1 (fun y hy => EnvX.box hu _ _ (List.mem_append_left _ hy)) HF2.out.2) ?_ hw2013; intro K hK; go_big_quiet_op; go_big_quiet_on)
            (refine wpG_op rfl rfl rfl ?_; intro K hK; go_big_quiet_op; go_big_quiet_on)
            (refine wpG_op rfl rfl rfl ?_; intro K hK; go_big_quiet_op; go_big_quiet_on)
            (refine wpG_op rfl rfl rfl ?_; intro K hK; go_big_quiet_op; go_big_quiet_on)
            clear hone hw2013
            refine wpG_nil ?_
            refine anyH_one (i := 16) (by kernel_rfl) (hOp_store rfl (g18) (wcs (0)) rfl rfl HGg18.out.1 27 ((wcs 0)) (List.mem_append_right _ (List.Mem.head _)) (wc_info _) ((wc_size _).trans (wc_size _).symm) (wc_one _) [(g18, Obj.cells (wcs (0)) 27 (0, 0))] (List.forall_mem_cons.2 ⟨.inl rfl, (fun _ h => by cases h)⟩) ?_)
            intro he2014
            refine anyH_phaseN [17] 0 rfl (by kernel_rfl) ?_
            have hw2015 : EnvX wr _ [] := EnvX.sub he2014.choose_spec (fun _ h => by cases h)
            have hone := @EnvC.one _ _ _ hw2015
            (refine wpG_op rfl rfl rfl ?_; intro K hK; go_big_quiet_op; go_big_quiet_on)
            clear hone hw2015
            refine wpG_nil ?_
            refine anyH_done (by kernel_rfl) ?_
            intro u2017 E2'
            have EX2016 := Lib.hid E2'
            clear E2'
            go_upto_region 15 with (fail)
            have EZ : Hid (EnvX wr u2017 []) := EnvX.sub EX2016.out (fun _ h => by cases h)
            refine wp_region_Hx (w0 := wr) [0, 1, 2, 3, 4, 5, 6, 7, 8, 9, 10, 11, 12, 13] [] rfl EZ.out ?_
            refine lexH_phase [0, 1, 2, 3, 4, 5, 6, 7, 8, 9, 10, 11, 12, 13] [] ?_
            have hw3018 : EnvX wr _ [] := EZ.out
            have hone := @EnvC.one _ _ _ hw3018
            (refine wpG_op rfl rfl rfl ?_; intro K hK; go_big_quiet_op; go_big_quiet_on)
            (refine wpG_op rfl rfl rfl ?_; intro K hK; go_big_quiet_op; go_big_quiet_on)
            (refine wpG_op rfl rfl rfl ?_; intro K hK; go_big_quiet_op; go_big_quiet_on)
            (refine wpG_op rfl rfl rfl ?_; intro K hK; go_big_quiet_op; go_big_quiet_on)
            (refine wpG_op rfl rfl rfl ?_; intro K hK; go_big_quiet_op; go_big_quiet_on)
            (refine wpG_val (v := .agg (wcs (s i))) rfl rfl (fun u hu => load_any_op u (HLA.out u hu) rfl) ?_ hw3018; intro K hK; go_big_quiet_op; go_big_quiet_on)
            (refine wpG_val (v := .agg (wcs (s i))) rfl rfl (fun u hu => load_any_op u (HLB.out u hu) rfl) ?_ hw3018; intro K hK; go_big_quiet_op; go_big_quiet_on)
            (refine wpG_val (v := .bool true) rfl rfl (fun u hu => eqlW_op HEW.out.1 HEW.out.1 HEW.out.2 u rfl rfl) ?_ hw3018; intro K hK; go_big_quiet_op; go_big_quiet_on)
            (refine wpG_op rfl rfl rfl ?_; intro K hK; go_big_quiet_op; go_big_quiet_on)
            (refine wpG_op rfl rfl rfl ?_; intro K hK; go_big_quiet_op; go_big_quiet_on)
            (refine wpG_op rfl rfl rfl ?_; intro K hK; go_big_quiet_op; go_big_quiet_on)
            (refine wpG_op rfl rfl rfl ?_; intro K hK; go_big_quiet_op; go_big_quiet_on)
            (refine wpG_op rfl rfl rfl ?_; intro K hK; go_big_quiet_op; go_big_quiet_on)
            (refine wpG_op rfl rfl rfl ?_; intro K hK; go_big_quiet_op; go_big_quiet_on)
            clear hone hw3018
            refine wpG_nil ?_
            intro u3020 E2'
            have EX3019 := Lib.hid E2'
            clear E2'
            go_wp2
            go_ret
            exact ⟨rfl, HBU.out.trans ((EnvX.bel EX3019.out).mono HBU.out.size)⟩
        · skip
          refine (hOp_fresh (R := fun x N => ∃ g, x = .pointer (some ⟨g, 0, none⟩) ∧ N = [(g, Obj.cells (wcs 0) 27 (0, 0))]) (M0 := (N7 ++ [])) rfl rfl (fun _ h => h) (fun u hu => FAt_new (new_wd _) u) ?_)
          rintro _ _ ⟨g18, rfl, rfl⟩ hf he2018; intro K' hK'; go_big_quiet_op; go_big_quiet_on
          have HGg18 := Lib.hid (hf _ (List.mem_singleton.2 rfl))
          clear hf
          change anyH _ _ _ _ _ _ _ _ ((g18, Obj.cells (wcs 0) 27 (0, 0)) :: (N7 ++ []))
          refine anyH_one (i := 9) (by kernel_rfl) (hOp_fresh (R := BuiltR 29 (totC rt)) (M0 := ((g18, Obj.cells (wcs 0) 27 (0, 0)) :: (N7 ++ []))) rfl rfl (fun _ h => h) (fun u hu => FAt_buildR elTot (totC_len HROK.out.len) (totC_one _) rfl u) ?_)
          rintro _ _ ⟨gb, rfl, rfl⟩ hf he2019; intro K' hK'; go_big_quiet_op; go_big_quiet_on
          clear hf
          change anyH _ _ _ _ _ _ _ _ ((gb, Obj.cells (totC rt).toArray 29 (0, 0)) :: ((g18, Obj.cells (wcs 0) 27 (0, 0)) :: (N7 ++ [])))
          refine anyH_one (i := 10) (by kernel_rfl) (hOp_own (gd := none) (R := GrownR wr 29 37 (pn + 1) ((pp.map totC).flatten ++ totC rt) [(g18, Obj.cells (wcs 0) 27 (0, 0))]) rfl rfl rfl rfl (fun u hu => appX_op elTot (m := 1) [(g18, Obj.cells (wcs 0) 27 (0, 0))] hu HFL.out (by rw [Nat.one_mul]; exact totC_len HROK.out.len) (totC_one _) HF7.out (fun y hy => ⟨(List.Mem.tail _ (List.Mem.tail _ (List.mem_append_left _ hy))), (HG7.out y hy).1⟩) (src_box (k := 0) hu (List.Mem.head _) (by rw [List.drop_zero, List.take_length])) (fun z hz => by cases List.mem_singleton.1 hz; exact ⟨(List.Mem.tail _ (List.Mem.head _)), fun y hy => Ne.symm ((HGg18.out).2 y (List.mem_append_left _ hy))⟩) (by omega) rfl rfl) ?_)
          rintro x M' ⟨N10, hM2, hF2, hn2⟩ he2020; intro K' hK'; go_big_quiet_op; go_big_quiet_on
          subst hM2
          obtain ⟨A10, c10, rfl, hc1, hc2⟩ := FreshR.full hF2
          have HF2 := Lib.hid (And.intro hF2 (And.intro hc1 hc2))
          have HN2 := Lib.hid hn2
          clear hF2 hn2 hc1 hc2
          change anyH _ _ _ _ _ _ _ _ (N10 ++ ((g18, Obj.cells (wcs 0) 27 (0, 0)) :: []))
          refine anyH_phase [11, 12, 13, 14] 2 rfl ⟨_, he2020.choose_spec⟩ (by kernel_rfl) ?_
          have hw2021 : EnvX wr _ (N10 ++ ((g18, Obj.cells (wcs 0) 27 (0, 0)) :: [])) := he2020.choose_spec
          have hone := @EnvC.one _ _ _ hw2021
          (refine wpG_call (f := 15) (args := #[.agg (totA rt), .int .i64 i, .agg (totA lf), .slice A10 (pn + 1) c10]) (v := .tuple #[.agg (wcs 0), .bool false]) rfl rfl rfl Tryd.func15 rfl rfl (fun u hu => HC2.out u _ _ _ (EnvX.sub hu (fun _ h => by cases h)) HF2.out.1 (fun y hy => EnvX.box hu _ _ (List.mem_append_left _ hy)) HF2.out.2) ?_ hw2021; intro K hK; go_big_quiet_op; go_big_quiet_on)
          (refine wpG_op rfl rfl rfl ?_; intro K hK; go_big_quiet_op; go_big_quiet_on)
          (refine wpG_op rfl rfl rfl ?_; intro K hK; go_big_quiet_op; go_big_quiet_on)
          (refine wpG_op rfl rfl rfl ?_; intro K hK; go_big_quiet_op; go_big_quiet_on)
          clear hone hw2021
          refine wpG_nil ?_
          refine anyH_one (i := 16) (by kernel_rfl) (hOp_store rfl (g18) (wcs (0)) rfl rfl HGg18.out.1 27 ((wcs 0)) (List.mem_append_right _ (List.Mem.head _)) (wc_info _) ((wc_size _).trans (wc_size _).symm) (wc_one _) [(g18, Obj.cells (wcs (0)) 27 (0, 0))] (List.forall_mem_cons.2 ⟨.inl rfl, (fun _ h => by cases h)⟩) ?_)
          intro he2022
          refine anyH_phaseN [17] 0 rfl (by kernel_rfl) ?_
          have hw2023 : EnvX wr _ [] := EnvX.sub he2022.choose_spec (fun _ h => by cases h)
          have hone := @EnvC.one _ _ _ hw2023
          (refine wpG_op rfl rfl rfl ?_; intro K hK; go_big_quiet_op; go_big_quiet_on)
          clear hone hw2023
          refine wpG_nil ?_
          refine anyH_done (by kernel_rfl) ?_
          intro u2025 E2'
          have EX2024 := Lib.hid E2'
          clear E2'
          go_upto_region 15 with (fail)
          have EZ : Hid (EnvX wr u2025 []) := EnvX.sub EX2024.out (fun _ h => by cases h)
          refine wp_region_Hx (w0 := wr) [0, 1, 2, 3, 4, 5, 6, 7, 8, 9, 10, 11, 12, 13] [] rfl EZ.out ?_
          refine lexH_phase [0, 1, 2, 3, 4, 5, 6, 7, 8, 9, 10, 11, 12, 13] [] ?_
          have hw3026 : EnvX wr _ [] := EZ.out
          have hone := @EnvC.one _ _ _ hw3026
          (refine wpG_op rfl rfl rfl ?_; intro K hK; go_big_quiet_op; go_big_quiet_on)
          (refine wpG_op rfl rfl rfl ?_; intro K hK; go_big_quiet_op; go_big_quiet_on)
          (refine wpG_op rfl rfl rfl ?_; intro K hK; go_big_quiet_op; go_big_quiet_on)
          (refine wpG_op rfl rfl rfl ?_; intro K hK; go_big_quiet_op; go_big_quiet_on)
          (refine wpG_op rfl rfl rfl ?_; intro K hK; go_big_quiet_op; go_big_quiet_on)
          (refine wpG_val (v := .agg (wcs (s i))) rfl rfl (fun u hu => load_any_op u (HLA.out u hu) rfl) ?_ hw3026; intro K hK; go_big_quiet_op; go_big_quiet_on)
          (refine wpG_val (v := .agg (wcs (s i))) rfl rfl (fun u hu => load_any_op u (HLB.out u hu) rfl) ?_ hw3026; intro K hK; go_big_quiet_op; go_big_quiet_on)
          (refine wpG_val (v := .bool true) rfl rfl (fun u hu => eqlW_op HEW.out.1 HEW.out.1 HEW.out.2 u rfl rfl) ?_ hw3026; intro K hK; go_big_quiet_op; go_big_quiet_on)
          (refine wpG_op rfl rfl rfl ?_; intro K hK; go_big_quiet_op; go_big_quiet_on)
          (refine wpG_op rfl rfl rfl ?_; intro K hK; go_big_quiet_op; go_big_quiet_on)
          (refine wpG_op rfl rfl rfl ?_; intro K hK; go_big_quiet_op; go_big_quiet_on)
          (refine wpG_op rfl rfl rfl ?_; intro K hK; go_big_quiet_op; go_big_quiet_on)
          (refine wpG_op rfl rfl rfl ?_; intro K hK; go_big_quiet_op; go_big_quiet_on)
          (refine wpG_op rfl rfl rfl ?_; intro K hK; go_big_quiet_op; go_big_quiet_on)
          clear hone hw3026
          refine wpG_nil ?_
          intro u3028 E2'
          have EX3027 := Lib.hid E2'
          clear E2'
          go_wp2
          go_ret
          exact ⟨rfl, HBU.out.trans ((EnvX.bel EX3027.out).mono HBU.out.size)⟩
      · skip
        refine (hOp_fresh (R := BuiltR 29 (totC rt)) (M0 := []) rfl rfl (fun _ h => h) (fun u hu => FAt_buildR elTot (totC_len HROK.out.len) (totC_one _) rfl u) ?_)
        rintro _ _ ⟨gb, rfl, rfl⟩ hf he2026; intro K' hK'; go_big_quiet_op; go_big_quiet_on
        clear hf
        change anyH _ _ _ _ _ _ _ _ [(gb, Obj.cells (totC rt).toArray 29 (0, 0))]
        refine anyH_two (i := 7) (j := 15) (by kernel_rfl) ?_ ?_
        · skip
          refine (hOp_fresh (R := FreshR 29 37 pn (pp.map totC).flatten) (M0 := [(gb, Obj.cells (totC rt).toArray 29 (0, 0))]) rfl rfl (fun _ h => h) (fun u hu => FAt_appE elTot (OwnT.row (HOU.out.below (EnvX.bel hu)) HPN.out) flatT_one (by omega) rfl) ?_)
          rintro x N7 hF hf he2027; intro K' hK'; go_big_quiet_op; go_big_quiet_on
          have HF7 := Lib.hid hF
          have HG7 := Lib.hid hf
          clear hF
          clear hf
          change anyH _ _ _ _ _ _ _ _ (N7 ++ ((gb, Obj.cells (totC rt).toArray 29 (0, 0)) :: []))
          refine anyH_two (i := 10) (j := 15) (by kernel_rfl) ?_ ?_
          · skip
            refine (hOp_own (gd := none) (R := GrownR wr 29 37 (pn + 1) ((pp.map totC).flatten ++ totC rt) []) rfl rfl rfl rfl (fun u hu => appX_op elTot (m := 1) [] hu HFL.out (by rw [Nat.one_mul]; exact totC_len HROK.out.len) (totC_one _) HF7.out (fun y hy => ⟨(List.mem_append_left _ hy), (HG7.out y hy).1⟩) (src_box (k := 0) hu (List.mem_append_right _ (List.Mem.head _)) (by rw [List.drop_zero, List.take_length])) (fun _ h => by cases h) (by omega) rfl rfl) ?_)
            rintro x M' ⟨N10, hM2, hF2, hn2⟩ he2028; intro K' hK'; go_big_quiet_op; go_big_quiet_on
            obtain rfl : N10 = M' := (by rw [hM2, List.append_nil])
            clear hM2
            obtain ⟨A10, c10, rfl, hc1, hc2⟩ := FreshR.full hF2
            have HF2 := Lib.hid (And.intro hF2 (And.intro hc1 hc2))
            have HN2 := Lib.hid hn2
            clear hF2 hn2 hc1 hc2
            change anyH _ _ _ _ _ _ _ _ N10
            refine anyH_phase [11, 12, 13, 14] 3 rfl ⟨_, he2028.choose_spec⟩ (by kernel_rfl) ?_
            have hw2029 : EnvX wr _ N10 := he2028.choose_spec
            have hone := @EnvC.one _ _ _ hw2029
            (refine wpG_call (f := 15) (args := #[.agg (totA rt), .int .i64 i, .agg (totA lf), .slice A10 (pn + 1) c10]) (v := .tuple #[.agg (wcs 0), .bool false]) rfl rfl rfl Tryd.func15 rfl rfl (fun u hu => HC2.out u _ _ _ (EnvX.sub hu (fun _ h => by cases h)) HF2.out.1 (fun y hy => EnvX.box hu _ _ hy) HF2.out.2) ?_ hw2029; intro K hK; go_big_quiet_op; go_big_quiet_on)
            (refine wpG_op rfl rfl rfl ?_; intro K hK; go_big_quiet_op; go_big_quiet_on)
            (refine wpG_op rfl rfl rfl ?_; intro K hK; go_big_quiet_op; go_big_quiet_on)
            (refine wpG_op rfl rfl rfl ?_; intro K hK; go_big_quiet_op; go_big_quiet_on)
            clear hone hw2029
            refine wpG_nil ?_
            refine anyH_one (i := 15) (by kernel_rfl) (hOp_fresh (R := fun x N => ∃ g, x = .pointer (some ⟨g, 0, none⟩) ∧ N = [(g, Obj.cells (wcs 0) 27 (0, 0))]) (M0 := N10) rfl rfl (fun _ h => h) (fun u hu => FAt_new (new_wd _) u) ?_)
            rintro _ _ ⟨g18, rfl, rfl⟩ hf he2030; intro K' hK'; go_big_quiet_op; go_big_quiet_on
            have HGg18 := Lib.hid (hf _ (List.mem_singleton.2 rfl))
            clear hf
            change anyH _ _ _ _ _ _ _ _ ((g18, Obj.cells (wcs 0) 27 (0, 0)) :: N10)
            refine anyH_one (i := 16) (by kernel_rfl) (hOp_store rfl (g18) (wcs (0)) rfl rfl HGg18.out.1 27 ((wcs 0)) (List.Mem.head _) (wc_info _) ((wc_size _).trans (wc_size _).symm) (wc_one _) [(g18, Obj.cells (wcs (0)) 27 (0, 0))] (List.forall_mem_cons.2 ⟨.inl rfl, (fun _ h => by cases h)⟩) ?_)
            intro he2031
            refine anyH_phaseN [17] 0 rfl (by kernel_rfl) ?_
            have hw2032 : EnvX wr _ [] := EnvX.sub he2031.choose_spec (fun _ h => by cases h)
            have hone := @EnvC.one _ _ _ hw2032
            (refine wpG_op rfl rfl rfl ?_; intro K hK; go_big_quiet_op; go_big_quiet_on)
            clear hone hw2032
            refine wpG_nil ?_
            refine anyH_done (by kernel_rfl) ?_
            intro u2034 E2'
            have EX2033 := Lib.hid E2'
            clear E2'
            go_upto_region 15 with (fail)
            have EZ : Hid (EnvX wr u2034 []) := EnvX.sub EX2033.out (fun _ h => by cases h)
            refine wp_region_Hx (w0 := wr) [0, 1, 2, 3, 4, 5, 6, 7, 8, 9, 10, 11, 12, 13] [] rfl EZ.out ?_
            refine lexH_phase [0, 1, 2, 3, 4, 5, 6, 7, 8, 9, 10, 11, 12, 13] [] ?_
            have hw3035 : EnvX wr _ [] := EZ.out
            have hone := @EnvC.one _ _ _ hw3035
            (refine wpG_op rfl rfl rfl ?_; intro K hK; go_big_quiet_op; go_big_quiet_on)
            (refine wpG_op rfl rfl rfl ?_; intro K hK; go_big_quiet_op; go_big_quiet_on)
            (refine wpG_op rfl rfl rfl ?_; intro K hK; go_big_quiet_op; go_big_quiet_on)
            (refine wpG_op rfl rfl rfl ?_; intro K hK; go_big_quiet_op; go_big_quiet_on)
            (refine wpG_op rfl rfl rfl ?_; intro K hK; go_big_quiet_op; go_big_quiet_on)
            (refine wpG_val (v := .agg (wcs (s i))) rfl rfl (fun u hu => load_any_op u (HLA.out u hu) rfl) ?_ hw3035; intro K hK; go_big_quiet_op; go_big_quiet_on)
            (refine wpG_val (v := .agg (wcs (s i))) rfl rfl (fun u hu => load_any_op u (HLB.out u hu) rfl) ?_ hw3035; intro K hK; go_big_quiet_op; go_big_quiet_on)
            (refine wpG_val (v := .bool true) rfl rfl (fun u hu => eqlW_op HEW.out.1 HEW.out.1 HEW.out.2 u rfl rfl) ?_ hw3035; intro K hK; go_big_quiet_op; go_big_quiet_on)
            (refine wpG_op rfl rfl rfl ?_; intro K hK; go_big_quiet_op; go_big_quiet_on)
            (refine wpG_op rfl rfl rfl ?_; intro K hK; go_big_quiet_op; go_big_quiet_on)
            (refine wpG_op rfl rfl rfl ?_; intro K hK; go_big_quiet_op; go_big_quiet_on)
            (refine wpG_op rfl rfl rfl ?_; intro K hK; go_big_quiet_op; go_big_quiet_on)
            (refine wpG_op rfl rfl rfl ?_; intro K hK; go_big_quiet_op; go_big_quiet_on)
            (refine wpG_op rfl rfl rfl ?_; intro K hK; go_big_quiet_op; go_big_quiet_on)
            clear hone hw3035
            refine wpG_nil ?_
            intro u3037 E2'
            have EX3036 := Lib.hid E2'
            clear E2'
            go_wp2
            go_ret
            exact ⟨rfl, HBU.out.trans ((EnvX.bel EX3036.out).mono HBU.out.size)⟩
          · skip
            refine (hOp_fresh (R := fun x N => ∃ g, x = .pointer (some ⟨g, 0, none⟩) ∧ N = [(g, Obj.cells (wcs 0) 27 (0, 0))]) (M0 := (N7 ++ ((gb, Obj.cells (totC rt).toArray 29 (0, 0)) :: []))) rfl rfl (fun _ h => h) (fun u hu => FAt_new (new_wd _) u) ?_)
            rintro _ _ ⟨g18, rfl, rfl⟩ hf he2035; intro K' hK'; go_big_quiet_op; go_big_quiet_on
            have HGg18 := Lib.hid (hf _ (List.mem_singleton.2 rfl))
            clear hf
            change anyH _ _ _ _ _ _ _ _ ((g18, Obj.cells (wcs 0) 27 (0, 0)) :: (N7 ++ ((gb, Obj.cells (totC rt).toArray 29 (0, 0)) :: [])))
            refine anyH_one (i := 10) (by kernel_rfl) (hOp_own (gd := none) (R := GrownR wr 29 37 (pn + 1) ((pp.map totC).flatten ++ totC rt) [(g18, Obj.cells (wcs 0) 27 (0, 0))]) rfl rfl rfl rfl (fun u hu => appX_op elTot (m := 1) [(g18, Obj.cells (wcs 0) 27 (0, 0))] hu HFL.out (by rw [Nat.one_mul]; exact totC_len HROK.out.len) (totC_one _) HF7.out (fun y hy => ⟨(List.Mem.tail _ (List.mem_append_left _ hy)), (HG7.out y hy).1⟩) (src_box (k := 0) hu (List.Mem.tail _ (List.mem_append_right _ (List.Mem.head _))) (by rw [List.drop_zero, List.take_length])) (fun z hz => by cases List.mem_singleton.1 hz; exact ⟨(List.Mem.head _), fun y hy => Ne.symm ((HGg18.out).2 y (List.mem_append_left _ hy))⟩) (by omega) rfl rfl) ?_)
            rintro x M' ⟨N10, hM2, hF2, hn2⟩ he2036; intro K' hK'; go_big_quiet_op; go_big_quiet_on
            subst hM2
            obtain ⟨A10, c10, rfl, hc1, hc2⟩ := FreshR.full hF2
            have HF2 := Lib.hid (And.intro hF2 (And.intro hc1 hc2))
            have HN2 := Lib.hid hn2
            clear hF2 hn2 hc1 hc2
            change anyH _ _ _ _ _ _ _ _ (N10 ++ ((g18, Obj.cells (wcs 0) 27 (0, 0)) :: []))
            refine anyH_phase [11, 12, 13, 14] 2 rfl ⟨_, he2036.choose_spec⟩ (by kernel_rfl) ?_
            have hw2037 : EnvX wr _ (N10 ++ ((g18, Obj.cells (wcs 0) 27 (0, 0)) :: [])) := he2036.choose_spec
            have hone := @EnvC.one _ _ _ hw2037
            (refine wpG_call (f := 15) (args := #[.agg (totA rt), .int .i64 i, .agg (totA lf), .slice A10 (pn + 1) c10]) (v := .tuple #[.agg (wcs 0), .bool false]) rfl rfl rfl Tryd.func15 rfl rfl (fun u hu => HC2.out u _ _ _ (EnvX.sub hu (fun _ h => by cases h)) HF2.out.1 (fun y hy => EnvX.box hu _ _ (List.mem_append_left _ hy)) HF2.out.2) ?_ hw2037; intro K hK; go_big_quiet_op; go_big_quiet_on)
            (refine wpG_op rfl rfl rfl ?_; intro K hK; go_big_quiet_op; go_big_quiet_on)
            (refine wpG_op rfl rfl rfl ?_; intro K hK; go_big_quiet_op; go_big_quiet_on)
            (refine wpG_op rfl rfl rfl ?_; intro K hK; go_big_quiet_op; go_big_quiet_on)
            clear hone hw2037
            refine wpG_nil ?_
            refine anyH_one (i := 16) (by kernel_rfl) (hOp_store rfl (g18) (wcs (0)) rfl rfl HGg18.out.1 27 ((wcs 0)) (List.mem_append_right _ (List.Mem.head _)) (wc_info _) ((wc_size _).trans (wc_size _).symm) (wc_one _) [(g18, Obj.cells (wcs (0)) 27 (0, 0))] (List.forall_mem_cons.2 ⟨.inl rfl, (fun _ h => by cases h)⟩) ?_)
            intro he2038
            refine anyH_phaseN [17] 0 rfl (by kernel_rfl) ?_
            have hw2039 : EnvX wr _ [] := EnvX.sub he2038.choose_spec (fun _ h => by cases h)
            have hone := @EnvC.one _ _ _ hw2039
            (refine wpG_op rfl rfl rfl ?_; intro K hK; go_big_quiet_op; go_big_quiet_on)
            clear hone hw2039
            refine wpG_nil ?_
            refine anyH_done (by kernel_rfl) ?_
            intro u2041 E2'
            have EX2040 := Lib.hid E2'
            clear E2'
            go_upto_region 15 with (fail)
            have EZ : Hid (EnvX wr u2041 []) := EnvX.sub EX2040.out (fun _ h => by cases h)
            refine wp_region_Hx (w0 := wr) [0, 1, 2, 3, 4, 5, 6, 7, 8, 9, 10, 11, 12, 13] [] rfl EZ.out ?_
            refine lexH_phase [0, 1, 2, 3, 4, 5, 6, 7, 8, 9, 10, 11, 12, 13] [] ?_
            have hw3042 : EnvX wr _ [] := EZ.out
            have hone := @EnvC.one _ _ _ hw3042
            (refine wpG_op rfl rfl rfl ?_; intro K hK; go_big_quiet_op; go_big_quiet_on)
            (refine wpG_op rfl rfl rfl ?_; intro K hK; go_big_quiet_op; go_big_quiet_on)
            (refine wpG_op rfl rfl rfl ?_; intro K hK; go_big_quiet_op; go_big_quiet_on)
            (refine wpG_op rfl rfl rfl ?_; intro K hK; go_big_quiet_op; go_big_quiet_on)
            (refine wpG_op rfl rfl rfl ?_; intro K hK; go_big_quiet_op; go_big_quiet_on)
            (refine wpG_val (v := .agg (wcs (s i))) rfl rfl (fun u hu => load_any_op u (HLA.out u hu) rfl) ?_ hw3042; intro K hK; go_big_quiet_op; go_big_quiet_on)
            (refine wpG_val (v := .agg (wcs (s i))) rfl rfl (fun u hu => load_any_op u (HLB.out u hu) rfl) ?_ hw3042; intro K hK; go_big_quiet_op; go_big_quiet_on)
            (refine wpG_val (v := .bool true) rfl rfl (fun u hu => eqlW_op HEW.out.1 HEW.out.1 HEW.out.2 u rfl rfl) ?_ hw3042; intro K hK; go_big_quiet_op; go_big_quiet_on)
            (refine wpG_op rfl rfl rfl ?_; intro K hK; go_big_quiet_op; go_big_quiet_on)
            (refine wpG_op rfl rfl rfl ?_; intro K hK; go_big_quiet_op; go_big_quiet_on)
            (refine wpG_op rfl rfl rfl ?_; intro K hK; go_big_quiet_op; go_big_quiet_on)
            (refine wpG_op rfl rfl rfl ?_; intro K hK; go_big_quiet_op; go_big_quiet_on)
            (refine wpG_op rfl rfl rfl ?_; intro K hK; go_big_quiet_op; go_big_quiet_on)
            (refine wpG_op rfl rfl rfl ?_; intro K hK; go_big_quiet_op; go_big_quiet_on)
            clear hone hw3042
            refine wpG_nil ?_
            intro u3044 E2'
            have EX3043 := Lib.hid E2'
            clear E2'
            go_wp2
            go_ret
            exact ⟨rfl, HBU.out.trans ((EnvX.bel EX3043.out).mono HBU.out.size)⟩
        · skip
          refine (hOp_fresh (R := fun x N => ∃ g, x = .pointer (some ⟨g, 0, none⟩) ∧ N = [(g, Obj.cells (wcs 0) 27 (0, 0))]) (M0 := [(gb, Obj.cells (totC rt).toArray 29 (0, 0))]) rfl rfl (fun _ h => h) (fun u hu => FAt_new (new_wd _) u) ?_)
          rintro _ _ ⟨g18, rfl, rfl⟩ hf he2042; intro K' hK'; go_big_quiet_op; go_big_quiet_on
          have HGg18 := Lib.hid (hf _ (List.mem_singleton.2 rfl))
          clear hf
          change anyH _ _ _ _ _ _ _ _ [(g18, Obj.cells (wcs 0) 27 (0, 0)), (gb, Obj.cells (totC rt).toArray 29 (0, 0))]
          refine anyH_one (i := 7) (by kernel_rfl) (hOp_fresh (R := FreshR 29 37 pn (pp.map totC).flatten) (M0 := [(g18, Obj.cells (wcs 0) 27 (0, 0)), (gb, Obj.cells (totC rt).toArray 29 (0, 0))]) rfl rfl (fun _ h => h) (fun u hu => FAt_appE elTot (OwnT.row (HOU.out.below (EnvX.bel hu)) HPN.out) flatT_one (by omega) rfl) ?_)
          rintro x N7 hF hf he2043; intro K' hK'; go_big_quiet_op; go_big_quiet_on
          have HF7 := Lib.hid hF
          have HG7 := Lib.hid hf
          clear hF
          clear hf
          change anyH _ _ _ _ _ _ _ _ (N7 ++ ((g18, Obj.cells (wcs 0) 27 (0, 0)) :: ((gb, Obj.cells (totC rt).toArray 29 (0, 0)) :: [])))
          refine anyH_one (i := 10) (by kernel_rfl) (hOp_own (gd := none) (R := GrownR wr 29 37 (pn + 1) ((pp.map totC).flatten ++ totC rt) [(g18, Obj.cells (wcs 0) 27 (0, 0))]) rfl rfl rfl rfl (fun u hu => appX_op elTot (m := 1) [(g18, Obj.cells (wcs 0) 27 (0, 0))] hu HFL.out (by rw [Nat.one_mul]; exact totC_len HROK.out.len) (totC_one _) HF7.out (fun y hy => ⟨(List.mem_append_left _ hy), (HG7.out y hy).1⟩) (src_box (k := 0) hu (List.mem_append_right _ (List.Mem.tail _ (List.Mem.head _))) (by rw [List.drop_zero, List.take_length])) (fun z hz => by cases List.mem_singleton.1 hz; exact ⟨(List.mem_append_right _ (List.Mem.head _)), fun y hy => (HG7.out y hy).2 _ (List.Mem.head _)⟩) (by omega) rfl rfl) ?_)
          rintro x M' ⟨N10, hM2, hF2, hn2⟩ he2044; intro K' hK'; go_big_quiet_op; go_big_quiet_on
          subst hM2
          obtain ⟨A10, c10, rfl, hc1, hc2⟩ := FreshR.full hF2
          have HF2 := Lib.hid (And.intro hF2 (And.intro hc1 hc2))
          have HN2 := Lib.hid hn2
          clear hF2 hn2 hc1 hc2
          change anyH _ _ _ _ _ _ _ _ (N10 ++ ((g18, Obj.cells (wcs 0) 27 (0, 0)) :: []))
          refine anyH_phase [11, 12, 13, 14] 2 rfl ⟨_, he2044.choose_spec⟩ (by kernel_rfl) ?_
          have hw2045 : EnvX wr _ (N10 ++ ((g18, Obj.cells (wcs 0) 27 (0, 0)) :: [])) := he2044.choose_spec
          have hone := @EnvC.one _ _ _ hw2045
          (refine wpG_call (f := 15) (args := #[.agg (totA rt), .int .i64 i, .agg (totA lf), .slice A10 (pn + 1) c10]) (v := .tuple #[.agg (wcs 0), .bool false]) rfl rfl rfl Tryd.func15 rfl rfl (fun u hu => HC2.out u _ _ _ (EnvX.sub hu (fun _ h => by cases h)) HF2.out.1 (fun y hy => EnvX.box hu _ _ (List.mem_append_left _ hy)) HF2.out.2) ?_ hw2045; intro K hK; go_big_quiet_op; go_big_quiet_on)
          (refine wpG_op rfl rfl rfl ?_; intro K hK; go_big_quiet_op; go_big_quiet_on)
          (refine wpG_op rfl rfl rfl ?_; intro K hK; go_big_quiet_op; go_big_quiet_on)
          (refine wpG_op rfl rfl rfl ?_; intro K hK; go_big_quiet_op; go_big_quiet_on)
          clear hone hw2045
          refine wpG_nil ?_
          refine anyH_one (i := 16) (by kernel_rfl) (hOp_store rfl (g18) (wcs (0)) rfl rfl HGg18.out.1 27 ((wcs 0)) (List.mem_append_right _ (List.Mem.head _)) (wc_info _) ((wc_size _).trans (wc_size _).symm) (wc_one _) [(g18, Obj.cells (wcs (0)) 27 (0, 0))] (List.forall_mem_cons.2 ⟨.inl rfl, (fun _ h => by cases h)⟩) ?_)
          intro he2046
          refine anyH_phaseN [17] 0 rfl (by kernel_rfl) ?_
          have hw2047 : EnvX wr _ [] := EnvX.sub he2046.choose_spec (fun _ h => by cases h)
          have hone := @EnvC.one _ _ _ hw2047
          (refine wpG_op rfl rfl rfl ?_; intro K hK; go_big_quiet_op; go_big_quiet_on)
          clear hone hw2047
          refine wpG_nil ?_
          refine anyH_done (by kernel_rfl) ?_
          intro u2049 E2'
          have EX2048 := Lib.hid E2'
          clear E2'
          go_upto_region 15 with (fail)
          have EZ : Hid (EnvX wr u2049 []) := EnvX.sub EX2048.out (fun _ h => by cases h)
          refine wp_region_Hx (w0 := wr) [0, 1, 2, 3, 4, 5, 6, 7, 8, 9, 10, 11, 12, 13] [] rfl EZ.out ?_
          refine lexH_phase [0, 1, 2, 3, 4, 5, 6, 7, 8, 9, 10, 11, 12, 13] [] ?_
          have hw3050 : EnvX wr _ [] := EZ.out
          have hone := @EnvC.one _ _ _ hw3050
          (refine wpG_op rfl rfl rfl ?_; intro K hK; go_big_quiet_op; go_big_quiet_on)
          (refine wpG_op rfl rfl rfl ?_; intro K hK; go_big_quiet_op; go_big_quiet_on)
          (refine wpG_op rfl rfl rfl ?_; intro K hK; go_big_quiet_op; go_big_quiet_on)
          (refine wpG_op rfl rfl rfl ?_; intro K hK; go_big_quiet_op; go_big_quiet_on)
          (refine wpG_op rfl rfl rfl ?_; intro K hK; go_big_quiet_op; go_big_quiet_on)
          (refine wpG_val (v := .agg (wcs (s i))) rfl rfl (fun u hu => load_any_op u (HLA.out u hu) rfl) ?_ hw3050; intro K hK; go_big_quiet_op; go_big_quiet_on)
          (refine wpG_val (v := .agg (wcs (s i))) rfl rfl (fun u hu => load_any_op u (HLB.out u hu) rfl) ?_ hw3050; intro K hK; go_big_quiet_op; go_big_quiet_on)
          (refine wpG_val (v := .bool true) rfl rfl (fun u hu => eqlW_op HEW.out.1 HEW.out.1 HEW.out.2 u rfl rfl) ?_ hw3050; intro K hK; go_big_quiet_op; go_big_quiet_on)
          (refine wpG_op rfl rfl rfl ?_; intro K hK; go_big_quiet_op; go_big_quiet_on)
          (refine wpG_op rfl rfl rfl ?_; intro K hK; go_big_quiet_op; go_big_quiet_on)
          (refine wpG_op rfl rfl rfl ?_; intro K hK; go_big_quiet_op; go_big_quiet_on)
          (refine wpG_op rfl rfl rfl ?_; intro K hK; go_big_quiet_op; go_big_quiet_on)
          (refine wpG_op rfl rfl rfl ?_; intro K hK; go_big_quiet_op; go_big_quiet_on)
          (refine wpG_op rfl rfl rfl ?_; intro K hK; go_big_quiet_op; go_big_quiet_on)
          clear hone hw3050
          refine wpG_nil ?_
          intro u3052 E2'
          have EX3051 := Lib.hid E2'
          clear E2'
          go_wp2
          go_ret
          exact ⟨rfl, HBU.out.trans ((EnvX.bel EX3051.out).mono HBU.out.size)⟩
      · skip
        refine (hOp_fresh (R := fun x N => ∃ g, x = .pointer (some ⟨g, 0, none⟩) ∧ N = [(g, Obj.cells (wcs 0) 27 (0, 0))]) (M0 := []) rfl rfl (fun _ h => h) (fun u hu => FAt_new (new_wd _) u) ?_)
        rintro _ _ ⟨g18, rfl, rfl⟩ hf he2050; intro K' hK'; go_big_quiet_op; go_big_quiet_on
        have HGg18 := Lib.hid (hf _ (List.mem_singleton.2 rfl))
        clear hf
        change anyH _ _ _ _ _ _ _ _ [(g18, Obj.cells (wcs 0) 27 (0, 0))]
        refine anyH_two (i := 7) (j := 9) (by kernel_rfl) ?_ ?_
        · skip
          refine (hOp_fresh (R := FreshR 29 37 pn (pp.map totC).flatten) (M0 := [(g18, Obj.cells (wcs 0) 27 (0, 0))]) rfl rfl (fun _ h => h) (fun u hu => FAt_appE elTot (OwnT.row (HOU.out.below (EnvX.bel hu)) HPN.out) flatT_one (by omega) rfl) ?_)
          rintro x N7 hF hf he2051; intro K' hK'; go_big_quiet_op; go_big_quiet_on
          have HF7 := Lib.hid hF
          have HG7 := Lib.hid hf
          clear hF
          clear hf
          change anyH _ _ _ _ _ _ _ _ (N7 ++ ((g18, Obj.cells (wcs 0) 27 (0, 0)) :: []))
          refine anyH_one (i := 9) (by kernel_rfl) (hOp_fresh (R := BuiltR 29 (totC rt)) (M0 := (N7 ++ ((g18, Obj.cells (wcs 0) 27 (0, 0)) :: []))) rfl rfl (fun _ h => h) (fun u hu => FAt_buildR elTot (totC_len HROK.out.len) (totC_one _) rfl u) ?_)
          rintro _ _ ⟨gb, rfl, rfl⟩ hf he2052; intro K' hK'; go_big_quiet_op; go_big_quiet_on
          clear hf
          change anyH _ _ _ _ _ _ _ _ ((gb, Obj.cells (totC rt).toArray 29 (0, 0)) :: (N7 ++ ((g18, Obj.cells (wcs 0) 27 (0, 0)) :: [])))
          refine anyH_one (i := 10) (by kernel_rfl) (hOp_own (gd := none) (R := GrownR wr 29 37 (pn + 1) ((pp.map totC).flatten ++ totC rt) [(g18, Obj.cells (wcs 0) 27 (0, 0))]) rfl rfl rfl rfl (fun u hu => appX_op elTot (m := 1) [(g18, Obj.cells (wcs 0) 27 (0, 0))] hu HFL.out (by rw [Nat.one_mul]; exact totC_len HROK.out.len) (totC_one _) HF7.out (fun y hy => ⟨(List.Mem.tail _ (List.mem_append_left _ hy)), (HG7.out y hy).1⟩) (src_box (k := 0) hu (List.Mem.head _) (by rw [List.drop_zero, List.take_length])) (fun z hz => by cases List.mem_singleton.1 hz; exact ⟨(List.Mem.tail _ (List.mem_append_right _ (List.Mem.head _))), fun y hy => (HG7.out y hy).2 _ (List.Mem.head _)⟩) (by omega) rfl rfl) ?_)
          rintro x M' ⟨N10, hM2, hF2, hn2⟩ he2053; intro K' hK'; go_big_quiet_op; go_big_quiet_on
          subst hM2
          obtain ⟨A10, c10, rfl, hc1, hc2⟩ := FreshR.full hF2
          have HF2 := Lib.hid (And.intro hF2 (And.intro hc1 hc2))
          have HN2 := Lib.hid hn2
          clear hF2 hn2 hc1 hc2
          change anyH _ _ _ _ _ _ _ _ (N10 ++ ((g18, Obj.cells (wcs 0) 27 (0, 0)) :: []))
          refine anyH_phase [11, 12, 13, 14] 2 rfl ⟨_, he2053.choose_spec⟩ (by kernel_rfl) ?_
          have hw2054 : EnvX wr _ (N10 ++ ((g18, Obj.cells (wcs 0) 27 (0, 0)) :: [])) := he2053.choose_spec
          have hone := @EnvC.one _ _ _ hw2054
          (refine wpG_call (f := 15) (args := #[.agg (totA rt), .int .i64 i, .agg (totA lf), .slice A10 (pn + 1) c10]) (v := .tuple #[.agg (wcs 0), .bool false]) rfl rfl rfl Tryd.func15 rfl rfl (fun u hu => HC2.out u _ _ _ (EnvX.sub hu (fun _ h => by cases h)) HF2.out.1 (fun y hy => EnvX.box hu _ _ (List.mem_append_left _ hy)) HF2.out.2) ?_ hw2054; intro K hK; go_big_quiet_op; go_big_quiet_on)
          (refine wpG_op rfl rfl rfl ?_; intro K hK; go_big_quiet_op; go_big_quiet_on)
          (refine wpG_op rfl rfl rfl ?_; intro K hK; go_big_quiet_op; go_big_quiet_on)
          (refine wpG_op rfl rfl rfl ?_; intro K hK; go_big_quiet_op; go_big_quiet_on)
          clear hone hw2054
          refine wpG_nil ?_
          refine anyH_one (i := 16) (by kernel_rfl) (hOp_store rfl (g18) (wcs (0)) rfl rfl HGg18.out.1 27 ((wcs 0)) (List.mem_append_right _ (List.Mem.head _)) (wc_info _) ((wc_size _).trans (wc_size _).symm) (wc_one _) [(g18, Obj.cells (wcs (0)) 27 (0, 0))] (List.forall_mem_cons.2 ⟨.inl rfl, (fun _ h => by cases h)⟩) ?_)
          intro he2055
          refine anyH_phaseN [17] 0 rfl (by kernel_rfl) ?_
          have hw2056 : EnvX wr _ [] := EnvX.sub he2055.choose_spec (fun _ h => by cases h)
          have hone := @EnvC.one _ _ _ hw2056
          (refine wpG_op rfl rfl rfl ?_; intro K hK; go_big_quiet_op; go_big_quiet_on)
          clear hone hw2056
          refine wpG_nil ?_
          refine anyH_done (by kernel_rfl) ?_
          intro u2058 E2'
          have EX2057 := Lib.hid E2'
          clear E2'
          go_upto_region 15 with (fail)
          have EZ : Hid (EnvX wr u2058 []) := EnvX.sub EX2057.out (fun _ h => by cases h)
          refine wp_region_Hx (w0 := wr) [0, 1, 2, 3, 4, 5, 6, 7, 8, 9, 10, 11, 12, 13] [] rfl EZ.out ?_
          refine lexH_phase [0, 1, 2, 3, 4, 5, 6, 7, 8, 9, 10, 11, 12, 13] [] ?_
          have hw3059 : EnvX wr _ [] := EZ.out
          have hone := @EnvC.one _ _ _ hw3059
          (refine wpG_op rfl rfl rfl ?_; intro K hK; go_big_quiet_op; go_big_quiet_on)
          (refine wpG_op rfl rfl rfl ?_; intro K hK; go_big_quiet_op; go_big_quiet_on)
          (refine wpG_op rfl rfl rfl ?_; intro K hK; go_big_quiet_op; go_big_quiet_on)
          (refine wpG_op rfl rfl rfl ?_; intro K hK; go_big_quiet_op; go_big_quiet_on)
          (refine wpG_op rfl rfl rfl ?_; intro K hK; go_big_quiet_op; go_big_quiet_on)
          (refine wpG_val (v := .agg (wcs (s i))) rfl rfl (fun u hu => load_any_op u (HLA.out u hu) rfl) ?_ hw3059; intro K hK; go_big_quiet_op; go_big_quiet_on)
          (refine wpG_val (v := .agg (wcs (s i))) rfl rfl (fun u hu => load_any_op u (HLB.out u hu) rfl) ?_ hw3059; intro K hK; go_big_quiet_op; go_big_quiet_on)
          (refine wpG_val (v := .bool true) rfl rfl (fun u hu => eqlW_op HEW.out.1 HEW.out.1 HEW.out.2 u rfl rfl) ?_ hw3059; intro K hK; go_big_quiet_op; go_big_quiet_on)
          (refine wpG_op rfl rfl rfl ?_; intro K hK; go_big_quiet_op; go_big_quiet_on)
          (refine wpG_op rfl rfl rfl ?_; intro K hK; go_big_quiet_op; go_big_quiet_on)
          (refine wpG_op rfl rfl rfl ?_; intro K hK; go_big_quiet_op; go_big_quiet_on)
          (refine wpG_op rfl rfl rfl ?_; intro K hK; go_big_quiet_op; go_big_quiet_on)
          (refine wpG_op rfl rfl rfl ?_; intro K hK; go_big_quiet_op; go_big_quiet_on)
          (refine wpG_op rfl rfl rfl ?_; intro K hK; go_big_quiet_op; go_big_quiet_on)
          clear hone hw3059
          refine wpG_nil ?_
          intro u3061 E2'
          have EX3060 := Lib.hid E2'
          clear E2'
          go_wp2
          go_ret
          exact ⟨rfl, HBU.out.trans ((EnvX.bel EX3060.out).mono HBU.out.size)⟩
        · skip
          refine (hOp_fresh (R := BuiltR 29 (totC rt)) (M0 := [(g18, Obj.cells (wcs 0) 27 (0, 0))]) rfl rfl (fun _ h => h) (fun u hu => FAt_buildR elTot (totC_len HROK.out.len) (totC_one _) rfl u) ?_)
          rintro _ _ ⟨gb, rfl, rfl⟩ hf he2059; intro K' hK'; go_big_quiet_op; go_big_quiet_on
          clear hf
          change anyH _ _ _ _ _ _ _ _ [(gb, Obj.cells (totC rt).toArray 29 (0, 0)), (g18, Obj.cells (wcs 0) 27 (0, 0))]
          refine anyH_one (i := 7) (by kernel_rfl) (hOp_fresh (R := FreshR 29 37 pn (pp.map totC).flatten) (M0 := [(gb, Obj.cells (totC rt).toArray 29 (0, 0)), (g18, Obj.cells (wcs 0) 27 (0, 0))]) rfl rfl (fun _ h => h) (fun u hu => FAt_appE elTot (OwnT.row (HOU.out.below (EnvX.bel hu)) HPN.out) flatT_one (by omega) rfl) ?_)
          rintro x N7 hF hf he2060; intro K' hK'; go_big_quiet_op; go_big_quiet_on
          have HF7 := Lib.hid hF
          have HG7 := Lib.hid hf
          clear hF
          clear hf
          change anyH _ _ _ _ _ _ _ _ (N7 ++ ((gb, Obj.cells (totC rt).toArray 29 (0, 0)) :: ((g18, Obj.cells (wcs 0) 27 (0, 0)) :: [])))
          refine anyH_one (i := 10) (by kernel_rfl) (hOp_own (gd := none) (R := GrownR wr 29 37 (pn + 1) ((pp.map totC).flatten ++ totC rt) [(g18, Obj.cells (wcs 0) 27 (0, 0))]) rfl rfl rfl rfl (fun u hu => appX_op elTot (m := 1) [(g18, Obj.cells (wcs 0) 27 (0, 0))] hu HFL.out (by rw [Nat.one_mul]; exact totC_len HROK.out.len) (totC_one _) HF7.out (fun y hy => ⟨(List.mem_append_left _ hy), (HG7.out y hy).1⟩) (src_box (k := 0) hu (List.mem_append_right _ (List.Mem.head _)) (by rw [List.drop_zero, List.take_length])) (fun z hz => by cases List.mem_singleton.1 hz; exact ⟨(List.mem_append_right _ (List.Mem.tail _ (List.Mem.head _))), fun y hy => (HG7.out y hy).2 _ (List.Mem.tail _ (List.Mem.head _))⟩) (by omega) rfl rfl) ?_)
          rintro x M' ⟨N10, hM2, hF2, hn2⟩ he2061; intro K' hK'; go_big_quiet_op; go_big_quiet_on
          subst hM2
          obtain ⟨A10, c10, rfl, hc1, hc2⟩ := FreshR.full hF2
          have HF2 := Lib.hid (And.intro hF2 (And.intro hc1 hc2))
          have HN2 := Lib.hid hn2
          clear hF2 hn2 hc1 hc2
          change anyH _ _ _ _ _ _ _ _ (N10 ++ ((g18, Obj.cells (wcs 0) 27 (0, 0)) :: []))
          refine anyH_phase [11, 12, 13, 14] 2 rfl ⟨_, he2061.choose_spec⟩ (by kernel_rfl) ?_
          have hw2062 : EnvX wr _ (N10 ++ ((g18, Obj.cells (wcs 0) 27 (0, 0)) :: [])) := he2061.choose_spec
          have hone := @EnvC.one _ _ _ hw2062
          (refine wpG_call (f := 15) (args := #[.agg (totA rt), .int .i64 i, .agg (totA lf), .slice A10 (pn + 1) c10]) (v := .tuple #[.agg (wcs 0), .bool false]) rfl rfl rfl Tryd.func15 rfl rfl (fun u hu => HC2.out u _ _ _ (EnvX.sub hu (fun _ h => by cases h)) HF2.out.1 (fun y hy => EnvX.box hu _ _ (List.mem_append_left _ hy)) HF2.out.2) ?_ hw2062; intro K hK; go_big_quiet_op; go_big_quiet_on)
          (refine wpG_op rfl rfl rfl ?_; intro K hK; go_big_quiet_op; go_big_quiet_on)
          (refine wpG_op rfl rfl rfl ?_; intro K hK; go_big_quiet_op; go_big_quiet_on)
          (refine wpG_op rfl rfl rfl ?_; intro K hK; go_big_quiet_op; go_big_quiet_on)
          clear hone hw2062
          refine wpG_nil ?_
          refine anyH_one (i := 16) (by kernel_rfl) (hOp_store rfl (g18) (wcs (0)) rfl rfl HGg18.out.1 27 ((wcs 0)) (List.mem_append_right _ (List.Mem.head _)) (wc_info _) ((wc_size _).trans (wc_size _).symm) (wc_one _) [(g18, Obj.cells (wcs (0)) 27 (0, 0))] (List.forall_mem_cons.2 ⟨.inl rfl, (fun _ h => by cases h)⟩) ?_)
          intro he2063
          refine anyH_phaseN [17] 0 rfl (by kernel_rfl) ?_
          have hw2064 : EnvX wr _ [] := EnvX.sub he2063.choose_spec (fun _ h => by cases h)
          have hone := @EnvC.one _ _ _ hw2064
          (refine wpG_op rfl rfl rfl ?_; intro K hK; go_big_quiet_op; go_big_quiet_on)
          clear hone hw2064
          refine wpG_nil ?_
          refine anyH_done (by kernel_rfl) ?_
          intro u2066 E2'
          have EX2065 := Lib.hid E2'
          clear E2'
          go_upto_region 15 with (fail)
          have EZ : Hid (EnvX wr u2066 []) := EnvX.sub EX2065.out (fun _ h => by cases h)
          refine wp_region_Hx (w0 := wr) [0, 1, 2, 3, 4, 5, 6, 7, 8, 9, 10, 11, 12, 13] [] rfl EZ.out ?_
          refine lexH_phase [0, 1, 2, 3, 4, 5, 6, 7, 8, 9, 10, 11, 12, 13] [] ?_
          have hw3067 : EnvX wr _ [] := EZ.out
          have hone := @EnvC.one _ _ _ hw3067
          (refine wpG_op rfl rfl rfl ?_; intro K hK; go_big_quiet_op; go_big_quiet_on)
          (refine wpG_op rfl rfl rfl ?_; intro K hK; go_big_quiet_op; go_big_quiet_on)
          (refine wpG_op rfl rfl rfl ?_; intro K hK; go_big_quiet_op; go_big_quiet_on)
          (refine wpG_op rfl rfl rfl ?_; intro K hK; go_big_quiet_op; go_big_quiet_on)
          (refine wpG_op rfl rfl rfl ?_; intro K hK; go_big_quiet_op; go_big_quiet_on)
          (refine wpG_val (v := .agg (wcs (s i))) rfl rfl (fun u hu => load_any_op u (HLA.out u hu) rfl) ?_ hw3067; intro K hK; go_big_quiet_op; go_big_quiet_on)
          (refine wpG_val (v := .agg (wcs (s i))) rfl rfl (fun u hu => load_any_op u (HLB.out u hu) rfl) ?_ hw3067; intro K hK; go_big_quiet_op; go_big_quiet_on)
          (refine wpG_val (v := .bool true) rfl rfl (fun u hu => eqlW_op HEW.out.1 HEW.out.1 HEW.out.2 u rfl rfl) ?_ hw3067; intro K hK; go_big_quiet_op; go_big_quiet_on)
          (refine wpG_op rfl rfl rfl ?_; intro K hK; go_big_quiet_op; go_big_quiet_on)
          (refine wpG_op rfl rfl rfl ?_; intro K hK; go_big_quiet_op; go_big_quiet_on)
          (refine wpG_op rfl rfl rfl ?_; intro K hK; go_big_quiet_op; go_big_quiet_on)
          (refine wpG_op rfl rfl rfl ?_; intro K hK; go_big_quiet_op; go_big_quiet_on)
          (refine wpG_op rfl rfl rfl ?_; intro K hK; go_big_quiet_op; go_big_quiet_on)
          (refine wpG_op rfl rfl rfl ?_; intro K hK; go_big_quiet_op; go_big_quiet_on)
          clear hone hw3067
          refine wpG_nil ?_
          intro u3069 E2'
          have EX3068 := Lib.hid E2'
          clear E2'
          go_wp2
          go_ret
          exact ⟨rfl, HBU.out.trans ((EnvX.bel EX3068.out).mono HBU.out.size)⟩
theorem law_mpaths (T : MmrC) (ids : List (List Int)) (ws : List Nat) (A A2 : Option Addr) (n c m c2 : Nat) (i : Int) (w : World)
    (hl : ids.length = n) (hm : ws.length = m) (hnc : n ≤ c) (hcm : c ≤ maxLen) (hmc : m ≤ c2) (hc2 : c2 ≤ maxLen) (hI : isIds ids) (hA : IdsIn w w.heap.size A ids) (hb : ∀ x ∈ ws, x < 4294967296) (hA2 : CellsIn w w.heap.size A2 (ws.map u32V)) (ht : Tables w) :
    Calls Tryd.prog 5 #[.slice A n c, .slice A2 m c2, .int .i64 i] w fun e w' => e = .returned (.bool true) ∧ Below w.heap.size w w' := by
  by_cases c0 : 64 < n
  · exact law_mpaths_a T ids ws A A2 n c m c2 i w hl hm hnc hcm hmc hc2 hI hA hb hA2 ht c0
  · by_cases k2 : i < 0
    · exact law_mpaths_b T ids ws A A2 n c m c2 i w hl hm hnc hcm hmc hc2 hI hA hb hA2 ht (by omega) k2
    · obtain ⟨j, rfl⟩ := Int.eq_ofNat_of_zero_le (Int.not_lt.1 k2)
      by_cases c3 : n ≤ j
      · exact law_mpaths_d T ids ws A A2 n c m c2 j w hl hm hnc hcm hmc hc2 hI hA hb hA2 ht (by omega) c3
      · exact law_mpaths_e T ids ws A A2 n c m c2 j w hl hm hnc hcm hmc hc2 hI hA hb hA2 ht (by omega) (by omega)
end Go.Proofs.YtbmiecogjmbciaaDoor

namespace Go.Proofs.YtbmiecogjmbciaaDoor.mmrPaths
set_option maxRecDepth 8000
open Go.ChangeShapes Go.WideShapes Go.ChangeAt Go.RowKit

theorem contract (H : Type) (enc : TypeId × Value → H) (W : World) (base : Nat) (args : Array Value) (ds gs : List (DataW H)) (before : List MemPlace)
    (hval : ∀ (j : Nat) t v, Tryd.f5.params[j]? = some t → args[j]? = some v → Value.okWide Tryd.prog W .any base t v)
    (hW : DataW.Whole enc Tryd.prog Tryd.f5.params.toList Rows.mmrPathsSpec.vars false W args.toList ds gs before) (hL : laidMetH Tryd.prog Rows.mmrPathsRow.laid W) :
    Calls Tryd.prog 5 args W fun e W' => ∃ v, e = .returned v ∧ Rows.mmrPathsSpec.post enc Tryd.prog Tryd.f5 false true false false W args v W' := by
  have hW' := hW
  obtain ⟨p, q, hA0, hV, rfl, hfz, hnd⟩ := hW
  have hA : DataW.TrodAll enc Tryd.prog W 0 (fun _ => true) true Tryd.f5.params.toList args.toList ds p := hA0
  rw [Tryd.params5] at hA hval
  obtain ⟨v0, vs0, d0, ds0, p0, q0, hargs, rfl, rfl, h0, r0⟩ := trodAll_cons hA
  obtain ⟨v1, vs1, d1, ds1, p1, q1, rfl, rfl, rfl, h1, r1⟩ := trodAll_cons r0
  obtain ⟨v2, vs2, d2, ds2, p2, q2, rfl, rfl, rfl, h2, r2⟩ := trodAll_cons r1
  obtain ⟨rfl, rfl, rfl⟩ := trodAll_nil r2
  obtain rfl : args = #[v0, v1, v2] := by cases args; simp_all
  obtain ⟨rfl, rfl⟩ := trodVars_none hV
  have lt0 : ∀ x ∈ p0, x.block < W.heap.size := by obtain ⟨m, hm⟩ := h0; exact DataW.trod_lt m _ _ _ hm
  obtain ⟨a0, n0, c0, x0, rfl, lx0, nc0, cm0, ix0, px0⟩ := open_ids (hval 0 41 v0 rfl rfl) h0
  have lt1 : ∀ x ∈ p1, x.block < W.heap.size := by obtain ⟨m, hm⟩ := h1; exact DataW.trod_lt m _ _ _ hm
  obtain ⟨a1, n1, c1, x1, rfl, lx1, nc1, cm1, bx1, px1⟩ := open_u32s (hval 1 42 v1 rfl rfl) h1
  obtain ⟨x2, rfl, rfl, rfl, wx2⟩ := open_int Tryd.underlying3 (hval 2 3 v2 rfl rfl) h2
  clear hA0
  refine (law_mpaths mmrC x0 x1 a0 a1 n0 c0 n1 c1 x2 W lx0 lx1 nc0 cm0 nc1 cm1 ix0 px0 bx1 px1 (tables_of_laid hL)).mono fun e W' ⟨he, bel⟩ => ?_
  subst he
  exact ⟨_, rfl, _, _, _, [], _, [], hW', trodAll_mk1 (shut_bool Tryd.underlying4 _), (trodAll_cons_mk (Below.trod laidOut (by kernel_rfl) (of_decide_eq_true (by kernel_rfl)) h0 bel lt0) (trodAll_cons_mk (Below.trod laidOut (by kernel_rfl) (of_decide_eq_true (by kernel_rfl)) h1 bel lt1) (trodAll_cons_mk (shut_int Tryd.underlying3 wx2) trodAll_mk0))), rfl, bel.frame _, fun h => by cases h⟩

def start : Array Value := #[.slice none 0 0, .slice none 0 0, .int .i64 0]
theorem reads (os : Os) {H : Type} (enc : TypeId × Value → H) : ∃ places, DataW.whole enc Tryd.prog ((laidWorld os).forCall (fun _ _ => 0) ⟨#[], start, []⟩).memory Tryd.f5.params.toList Rows.mmrPathsSpec.vars false start.toList 8 = some ([.nil, .nil, .lit (.int .i64 0)], [], places) :=
  ⟨[], by kernel_rfl⟩

set_option maxRecDepth 100000 in
theorem lifted (os : Os) (started : os.Started) (H : Type) (enc : TypeId × Value → H) (F : Stop.Interp) :
    ReturnsInHanded {} Tryd.checked os 5 .any ((OpenSpec.ofChange Rows.mmrPathsSpec).preRow enc Tryd.prog Tryd.f5 Rows.mmrPathsRow.domain false Rows.mmrPathsRow.laid) (((OpenSpec.ofChange Rows.mmrPathsSpec).at F).post enc Tryd.prog Tryd.f5 false true false false) := by
  obtain ⟨places, hx⟩ := reads os enc
  refine returnsInHanded_of_row (C := Tryd.checked) (s := OpenSpec.ofChange Rows.mmrPathsSpec) own started (by kernel_rfl) Tryd.func5
    (witness_row_at (enc := enc) (C := Tryd.checked) false (laidWorld os) start rfl (by kernel_rfl) (by kernel_rfl) (by kernel_rfl)
      (OpenSpec.preRow_of_cond 8 hx (by kernel_rfl) (fun k hk => by cases hk) (by kernel_rfl) (laidMet_of_run' 8 (by kernel_rfl) (by kernel_rfl)))) ?_
  intro W base args ds gs before hval hW _ _ _ hL _ _
  exact contract H enc W base args ds gs before hval hW hL

theorem said : Rows.MmrPathsSaid :=
  OpenClaim.holds_of_cond 5 Tryd.f5 rfl rfl rfl rfl rfl rfl rfl ⟨rfl, rfl, rfl, rfl, rfl⟩ rfl rfl rfl rfl rfl (by kernel_rfl) Tryd.func5 (by kernel_rfl)
    (of_decide_eq_true (by kernel_rfl)) (by unfold Func.isWrapper; first | (rw [if_pos (by decide +kernel)]; kernel_rfl) | (rw [if_neg (by decide +kernel)]; exact ⟨rfl, rfl⟩))
    (fun os started H enc _ F => by rw [OpenClaim.pre_eq_preRow]; exact lifted os started H enc F)

theorem plain (f : FuncId) (fn : Func) (hf : Tryd.pinned.checked.prog.funcNamed "stepladder/stepladderlaw06.MmrPaths" = some f) (hfn : Tryd.pinned.checked.prog.funcs[f]? = some fn) :
    false = Tryd.pinned.checked.prog.looks [] ∧ ∀ (j : Nat) t, fn.params[j]? = some t → Tryd.pinned.checked.prog.wantsStandIn t = false := by
  obtain rfl : f = 5 := Option.some.inj ((show Tryd.prog.funcNamed "stepladder/stepladderlaw06.MmrPaths" = some 5 by kernel_rfl).symm.trans hf) |>.symm
  obtain rfl : fn = Tryd.f5 := (Option.some.inj (Tryd.func5.symm.trans hfn)).symm
  refine ⟨by kernel_rfl, fun j t ht => ?_⟩
  rw [Tryd.params5] at ht
  have hm : t = 41 ∨ t = 42 ∨ t = 3 := by simpa using Array.mem_of_getElem? ht
  rcases hm with rfl | rfl | rfl
  · exact (show Tryd.prog.wantsStandIn 41 = false by kernel_rfl)
  · exact (show Tryd.prog.wantsStandIn 42 = false by kernel_rfl)
  · exact (show Tryd.prog.wantsStandIn 3 = false by kernel_rfl)
theorem card : Rows.MmrPathsCardSaid :=
  Claim7.holds_tied_plain_at .later [] _ _ _ _ said (fun _ h => by cases h) (by kernel_rfl) (fun _ h => by cases h) mmrPaths_row_tie rfl ⟨rfl, rfl⟩ (by kernel_rfl) rfl plain (by kernel_rfl)

end Go.Proofs.YtbmiecogjmbciaaDoor.mmrPaths
