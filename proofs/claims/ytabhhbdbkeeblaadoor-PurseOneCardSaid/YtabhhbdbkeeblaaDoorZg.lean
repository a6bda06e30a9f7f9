/- Part of a proof. -/
import Derived.Test.YtabhhbdbkeeblaaDoorZf
namespace Go.Proofs.YtabhhbdbkeeblaaDoor
set_option maxRecDepth 8000
open Go.RowKit
section
variable {a : Act} {dst : Option Tmp} {x y : Operand} {ty : TypeId} {pos : String} {after : Array Edge} {gd : Option (Nat × Bool)}
theorem eqErr_op {m k : Int} {b : Bool} (u : World) (hb : decide (m = k) = b) (hx : a.eval x = .int .i64 m) (hy : a.eval y = .int .i64 k) :
    (execOp a.eval ⟨dst, .binOp .eql 31 x y 31, ty, pos, after, gd⟩).run Tryd.prog u = .ok (.value (.bool b)) u := by
  have e : (m == k) = b := by rw [← hb]; by_cases h : m = k <;> simp [h]
  subst e
  unfold execOp
  simp only [hx, hy]
  go_simp
end
theorem co_loads {q : List CoinR} {ad : Addr} {N M : Boxes} {w0 u : World} (h : CoB q (some ad) N) (hok : okP q) (hu : EnvX w0 u M) (hN : ∀ y ∈ N, y ∈ M) {k : Nat} (hk : k < q.length) :
    (loadVar 50 (ad.add (k * 35))).run Tryd.prog u = .ok (coV (q.getD k noC0)) u ∧
    (loadVar 42 ((ad.add (k * 35)).add 0)).run Tryd.prog u = .ok (inV (keyC (q.getD k noC0))) u ∧
    (loadVar 48 ((ad.add (k * 35)).add 33)).run Tryd.prog u = .ok (outV (outK (q.getD k noC0))) u ∧
    (loadVar 3 (((ad.add (k * 35)).add 33).add 0)).run Tryd.prog u = .ok (.int .i64 (q.getD k noC0).v) u := by
  obtain ⟨ad2, e, _, hc⟩ := CoinsIn.loads (CoB.read h hu hN) hok hk
  cases e
  obtain ⟨h1, h2, _, _, h5, h6, _⟩ := hc u (EnvX.start u)
  have e0 : ∀ a : Addr, a.add 0 = a := fun a => by unfold Addr.add; rfl
  refine ⟨h1, ?_, h5, ?_⟩
  · rw [e0]; exact h2
  · rw [e0]; exact h6
theorem CoB.some {q : List CoinR} {A : Option Addr} {N : Boxes} (h : CoB q A N) (hok : okP q) (hk : 0 < q.length) : ∃ ad, A = some ad := by
  rcases h with ⟨h, _⟩ | ⟨ad, _, rfl, _⟩
  · have := flat35 hok.lens
    rw [h] at this
    simp at this
    omega
  · exact ⟨ad, rfl⟩
/-- a first transaction that makes so much -/
def tV (v : Int) : TxR := ⟨[], [⟨v, 1⟩]⟩
def tVM (v : Int) (g : Nat) : TxM := ⟨tV v, none, 0, 0, some ⟨g, 0, none⟩, 1, 1⟩
theorem tV_ok {w0 u : World} {M : Boxes} {g : Nat} {t : TypeId} {v : Int} (hv : I64 v) (hu : EnvC w0 M u) (hm : (g, Obj.cells (outA ⟨v, 1⟩) t (0, 0)) ∈ M) : TxOk u (tVM v g) :=
  ⟨rfl, ⟨Nat.le_refl _, Nat.zero_le _⟩, (fun x h => by cases h), (fun h => absurd h (Nat.lt_irrefl 0)), rfl, ⟨Nat.le_refl _, show 1 ≤ maxLen by decide⟩, (fun x h => by cases List.mem_singleton.1 h; exact ⟨hv, show I64 1 by unfold I64; decide⟩), cells_box hu hm rfl⟩
theorem tV_txs {w0 u : World} {M : Boxes} {g gl : Nat} {t t' : TypeId} {v : Int} (hv : I64 v) (hu : EnvC w0 M u) (hm : (g, Obj.cells (outA ⟨v, 1⟩) t (0, 0)) ∈ M) (hl : (gl, Obj.cells (txA (tVM v g)) t' (0, 0)) ∈ M) : TxsIn u (some ⟨gl, 0, none⟩) [tVM v g] :=
  ⟨cells_box hu hl rfl, fun t ht => by cases List.mem_singleton.1 ht; exact tV_ok hv hu hm⟩
theorem tV_few (v : Int) : fewX (tV v) = true := by unfold fewX tV; rfl
theorem tV_worth (v : Int) : worthX (tV v) = v := by unfold worthX tV; simp
/-- the coin that comes of it -/
def c50 : CoinR := ⟨idX (tV 50), 0, 50, 1⟩
theorem ap50 : applyP [] [tV 50] = ([c50], 0) := by
  rw [apply_first mayP_nil rfl, if_neg (by decide +kernel), if_neg (by simp [thereP]), if_neg (by rw [tV_worth]; decide), if_neg (by rw [made_len]; decide)]
  rfl
theorem ap51 : applyP [] [tV 51] = ([], 8) := by
  rw [apply_first mayP_nil rfl, if_neg (by decide +kernel), if_neg (by simp [thereP]), if_pos (by rw [tV_worth]; decide)]
theorem c50_ok : okP [c50] := fun c hc => by
  cases List.mem_singleton.1 hc
  exact ⟨show isId (idX (tV 50)) from idX_id _, by show I64 0; unfold I64; decide, by show I64 50; unfold I64; decide, by show I64 1; unfold I64; decide⟩
theorem c50_may : mayP [c50] = true := mayP_iff.2 ⟨by decide, fun c hc => by cases List.mem_singleton.1 hc; rfl, List.pairwise_singleton _ _⟩
theorem c50_sum : sumP [c50] = 50 := by rw [sumP_may c50_may]; rfl
theorem c50_find : findP [c50] (keyC c50) = 0 := findP_hit0 (k := 0) (by decide) rfl (fun j hj => absurd hj (by omega))
theorem c50_same : samePu [c50] [c50] = true := decide_eq_true rfl
set_option maxRecDepth 20000 in
set_option maxHeartbeats 8000000 in
theorem pawake_any (H : PurseC) (w : World) (ht : Tables w) : Calls Tryd.prog 9 #[] w fun e w' => e = .returned (.bool true) ∧ Below w.heap.size w w' := by
  have E1 : Hid (EnvX w w []) := EnvX.start w
  have HT := Lib.hid ht
  have HH := Lib.hid H
  clear ht H
  go_enter Tryd.func9, Tryd.ntmps9
  go_upto_region 1 with (fail)
  refine wp_region_Hx (w0 := w) [0, 1, 2, 3, 4, 5, 6, 7, 8, 9] [] rfl E1.out ?_
  refine lexH_phase [0] [1, 2, 3, 4, 5, 6, 7, 8, 9] ?_
  have hw1 : EnvX w _ [] := E1.out
  have hone := @EnvC.one _ _ _ hw1
  (refine wpG_val (v := .agg (outC ⟨50, 1⟩).toArray) rfl rfl (fun u hu => buildA_op u built_out) ?_ hw1; intro K hK; go_big_quiet_op; go_big_quiet_on)
  clear hone hw1
  refine wpG_nil ?_
  refine (hOp_fresh (R := BuiltR 48 (outC ⟨50, 1⟩)) (M0 := []) rfl rfl (fun _ h => h) (fun u hu => FAt_buildR elOut rfl (outC_one _) rfl u) ?_)
  rintro _ _ ⟨g1o, rfl, rfl⟩ hf he2; intro K' hK'; go_big_quiet_op; go_big_quiet_on
  clear hf
  change lexH _ _ _ _ _ _ [(g1o, Obj.cells (outC ⟨50, 1⟩).toArray 48 (0, 0))]
  refine lexH_phase [2] [3, 4, 5, 6, 7, 8, 9] ?_
  have hw3 : EnvX w _ [(g1o, Obj.cells (outC ⟨50, 1⟩).toArray 48 (0, 0))] := he2.choose_spec
  have hone := @EnvC.one _ _ _ hw3
  (refine wpG_val (v := .agg (txC (tVM 50 g1o)).toArray) rfl rfl (fun u hu => buildA_op u (built_txouts _ _ _)) ?_ hw3; intro K hK; go_big_quiet_op; go_big_quiet_on)
  clear hone hw3
  refine wpG_nil ?_
  refine (hOp_fresh (R := BuiltR 26 (txC (tVM 50 g1o))) (M0 := [(g1o, Obj.cells (outC ⟨50, 1⟩).toArray 48 (0, 0))]) rfl rfl (fun _ h => h) (fun u hu => FAt_buildR elTx rfl (txC_one _) rfl u) ?_)
  rintro _ _ ⟨g1t, rfl, rfl⟩ hf he4; intro K' hK'; go_big_quiet_op; go_big_quiet_on
  clear hf
  change lexH _ _ _ _ _ _ [(g1t, Obj.cells (txC (tVM 50 g1o)).toArray 26 (0, 0)), (g1o, Obj.cells (outC ⟨50, 1⟩).toArray 48 (0, 0))]
  refine (hOp_turn (gd := none) (R := fun x M' => ∃ A c N, x = .tuple #[.slice A ([c50]).length c, .int .i64 ((0 : Nat) : Int)] ∧ M' = N ++ [(g1t, Obj.cells (txC (tVM 50 g1o)).toArray 26 (0, 0)), (g1o, Obj.cells (outC ⟨50, 1⟩).toArray 48 (0, 0))] ∧ (([c50]).length ≤ c ∧ c ≤ maxLen) ∧ CoB ([c50]) A N) rfl rfl rfl rfl (fun u hu => OUpon_call (fid := 14) (xs := #[.const (.slice none 0 0), .tmp 9]) (args := #[.slice none 0 0, .slice (some ⟨g1t, 0, none⟩) 1 1]) rfl Tryd.func14 rfl rfl u (co_turn2 (by have h := HH.out.apply [] none 0 0 [tVM 50 g1o] (some ⟨g1t, 0, none⟩) 1 1 u rfl (by decide) (Nat.le_refl _) (Nat.zero_le _) (fun c hc => by cases hc) (fun hp => absurd hp (Nat.lt_irrefl 0)) rfl (by decide) (Nat.le_refl _) (by decide) (tV_txs (by unfold I64; decide) hu (List.Mem.tail _ (List.Mem.head _)) (List.Mem.head _)) (fun t ht => by cases List.mem_singleton.1 ht; exact tV_few _) (HT.out.below (EnvX.bel hu)); rwa [show rsT [tVM 50 g1o] = [tV 50] from rfl, ap50] at h) hu)) ?_)
  rintro _ _ ⟨A1, c1, N1, rfl, rfl, hc1, hb1⟩ he5; intro K' hK'; go_big_quiet_op; go_big_quiet_on
  have HC1 := Lib.hid hc1
  have HB1 := Lib.hid hb1
  clear hc1 hb1
  change lexH _ _ _ _ _ _ (N1 ++ ((g1t, Obj.cells (txC (tVM 50 g1o)).toArray 26 (0, 0)) :: ((g1o, Obj.cells (outC ⟨50, 1⟩).toArray 48 (0, 0)) :: [])))
  refine lexH_phase [5, 6, 7, 8, 9] [] ?_
  have hw6 : EnvX w _ (N1 ++ ((g1t, Obj.cells (txC (tVM 50 g1o)).toArray 26 (0, 0)) :: ((g1o, Obj.cells (outC ⟨50, 1⟩).toArray 48 (0, 0)) :: []))) := he5.choose_spec
  have hone := @EnvC.one _ _ _ hw6
  iterate 5 (refine wpG_op rfl rfl rfl ?_; intro K hK; go_big_quiet_op; go_big_quiet_on)
  clear hone hw6
  refine wpG_nil ?_
  intro u8 E2'
  have EX7 := Lib.hid E2'
  clear E2'
  go_upto_region 2 with (fail)
  refine wp_region_Hx (w0 := w) [0, 1, 2, 3, 4, 5, 6, 7, 8, 9] (N1 ++ ((g1t, Obj.cells (txC (tVM 50 g1o)).toArray 26 (0, 0)) :: ((g1o, Obj.cells (outC ⟨50, 1⟩).toArray 48 (0, 0)) :: []))) rfl EX7.out ?_
  refine lexH_phase [0] [1, 2, 3, 4, 5, 6, 7, 8, 9] ?_
  have hw9 : EnvX w _ (N1 ++ ((g1t, Obj.cells (txC (tVM 50 g1o)).toArray 26 (0, 0)) :: ((g1o, Obj.cells (outC ⟨50, 1⟩).toArray 48 (0, 0)) :: []))) := EX7.out
  have hone := @EnvC.one _ _ _ hw9
  (refine wpG_val (v := .agg (outC ⟨51, 1⟩).toArray) rfl rfl (fun u hu => buildA_op u built_out) ?_ hw9; intro K hK; go_big_quiet_op; go_big_quiet_on)
  clear hone hw9
  refine wpG_nil ?_
  refine (hOp_fresh (R := BuiltR 48 (outC ⟨51, 1⟩)) (M0 := (N1 ++ ((g1t, Obj.cells (txC (tVM 50 g1o)).toArray 26 (0, 0)) :: ((g1o, Obj.cells (outC ⟨50, 1⟩).toArray 48 (0, 0)) :: [])))) rfl rfl (fun _ h => h) (fun u hu => FAt_buildR elOut rfl (outC_one _) rfl u) ?_)
  rintro _ _ ⟨g2o, rfl, rfl⟩ hf he10; intro K' hK'; go_big_quiet_op; go_big_quiet_on
  clear hf
  change lexH _ _ _ _ _ _ ((g2o, Obj.cells (outC ⟨51, 1⟩).toArray 48 (0, 0)) :: (N1 ++ ((g1t, Obj.cells (txC (tVM 50 g1o)).toArray 26 (0, 0)) :: ((g1o, Obj.cells (outC ⟨50, 1⟩).toArray 48 (0, 0)) :: []))))
  refine lexH_phase [2] [3, 4, 5, 6, 7, 8, 9] ?_
  have hw11 : EnvX w _ ((g2o, Obj.cells (outC ⟨51, 1⟩).toArray 48 (0, 0)) :: (N1 ++ ((g1t, Obj.cells (txC (tVM 50 g1o)).toArray 26 (0, 0)) :: ((g1o, Obj.cells (outC ⟨50, 1⟩).toArray 48 (0, 0)) :: [])))) := he10.choose_spec
  have hone := @EnvC.one _ _ _ hw11
  (refine wpG_val (v := .agg (txC (tVM 51 g2o)).toArray) rfl rfl (fun u hu => buildA_op u (built_txouts _ _ _)) ?_ hw11; intro K hK; go_big_quiet_op; go_big_quiet_on)
  clear hone hw11
  refine wpG_nil ?_
  refine (hOp_fresh (R := BuiltR 26 (txC (tVM 51 g2o))) (M0 := ((g2o, Obj.cells (outC ⟨51, 1⟩).toArray 48 (0, 0)) :: (N1 ++ ((g1t, Obj.cells (txC (tVM 50 g1o)).toArray 26 (0, 0)) :: ((g1o, Obj.cells (outC ⟨50, 1⟩).toArray 48 (0, 0)) :: []))))) rfl rfl (fun _ h => h) (fun u hu => FAt_buildR elTx rfl (txC_one _) rfl u) ?_)
  rintro _ _ ⟨g2t, rfl, rfl⟩ hf he12; intro K' hK'; go_big_quiet_op; go_big_quiet_on
  clear hf
  change lexH _ _ _ _ _ _ ((g2t, Obj.cells (txC (tVM 51 g2o)).toArray 26 (0, 0)) :: ((g2o, Obj.cells (outC ⟨51, 1⟩).toArray 48 (0, 0)) :: (N1 ++ ((g1t, Obj.cells (txC (tVM 50 g1o)).toArray 26 (0, 0)) :: ((g1o, Obj.cells (outC ⟨50, 1⟩).toArray 48 (0, 0)) :: [])))))
  refine (hOp_turn (gd := none) (R := fun x M' => ∃ A c N, x = .tuple #[.slice A ([]).length c, .int .i64 ((8 : Nat) : Int)] ∧ M' = N ++ ((g2t, Obj.cells (txC (tVM 51 g2o)).toArray 26 (0, 0)) :: ((g2o, Obj.cells (outC ⟨51, 1⟩).toArray 48 (0, 0)) :: (N1 ++ ((g1t, Obj.cells (txC (tVM 50 g1o)).toArray 26 (0, 0)) :: ((g1o, Obj.cells (outC ⟨50, 1⟩).toArray 48 (0, 0)) :: []))))) ∧ (([]).length ≤ c ∧ c ≤ maxLen) ∧ CoB ([]) A N) rfl rfl rfl rfl (fun u hu => OUpon_call (fid := 14) (xs := #[.const (.slice none 0 0), .tmp 17]) (args := #[.slice none 0 0, .slice (some ⟨g2t, 0, none⟩) 1 1]) rfl Tryd.func14 rfl rfl u (co_turn2 (by have h := HH.out.apply [] none 0 0 [tVM 51 g2o] (some ⟨g2t, 0, none⟩) 1 1 u rfl (by decide) (Nat.le_refl _) (Nat.zero_le _) (fun c hc => by cases hc) (fun hp => absurd hp (Nat.lt_irrefl 0)) rfl (by decide) (Nat.le_refl _) (by decide) (tV_txs (by unfold I64; decide) hu (List.Mem.tail _ (List.Mem.head _)) (List.Mem.head _)) (fun t ht => by cases List.mem_singleton.1 ht; exact tV_few _) (HT.out.below (EnvX.bel hu)); rwa [show rsT [tVM 51 g2o] = [tV 51] from rfl, ap51] at h) hu)) ?_)
  rintro _ _ ⟨A2, c2, N2, rfl, rfl, hc2, hb2⟩ he13; intro K' hK'; go_big_quiet_op; go_big_quiet_on
  have HC2 := Lib.hid hc2
  have HB2 := Lib.hid hb2
  clear hc2 hb2
  change lexH _ _ _ _ _ _ (N2 ++ ((g2t, Obj.cells (txC (tVM 51 g2o)).toArray 26 (0, 0)) :: ((g2o, Obj.cells (outC ⟨51, 1⟩).toArray 48 (0, 0)) :: (N1 ++ ((g1t, Obj.cells (txC (tVM 50 g1o)).toArray 26 (0, 0)) :: ((g1o, Obj.cells (outC ⟨50, 1⟩).toArray 48 (0, 0)) :: []))))))
  refine lexH_phase [5, 6, 7, 8, 9] [] ?_
  have hw14 : EnvX w _ (N2 ++ ((g2t, Obj.cells (txC (tVM 51 g2o)).toArray 26 (0, 0)) :: ((g2o, Obj.cells (outC ⟨51, 1⟩).toArray 48 (0, 0)) :: (N1 ++ ((g1t, Obj.cells (txC (tVM 50 g1o)).toArray 26 (0, 0)) :: ((g1o, Obj.cells (outC ⟨50, 1⟩).toArray 48 (0, 0)) :: [])))))) := he13.choose_spec
  have hone := @EnvC.one _ _ _ hw14
  iterate 5 (refine wpG_op rfl rfl rfl ?_; intro K hK; go_big_quiet_op; go_big_quiet_on)
  clear hone hw14
  refine wpG_nil ?_
  intro u16 E2'
  have EX15 := Lib.hid E2'
  clear E2'
  obtain ⟨ad, rfl⟩ := CoB.some HB1.out c50_ok (by decide)
  have HLD : Hid (∀ u, EnvX w u (N2 ++ ((g2t, Obj.cells (txC (tVM 51 g2o)).toArray 26 (0, 0)) :: ((g2o, Obj.cells (outC ⟨51, 1⟩).toArray 48 (0, 0)) :: (N1 ++ ((g1t, Obj.cells (txC (tVM 50 g1o)).toArray 26 (0, 0)) :: ((g1o, Obj.cells (outC ⟨50, 1⟩).toArray 48 (0, 0)) :: [])))))) → _) := fun u hu => co_loads HB1.out c50_ok hu (fun y MEM => (List.mem_append_right _ (List.Mem.tail _ (List.Mem.tail _ (List.mem_append_left _ MEM))))) (k := 0) (by decide)
  have HCI : Hid (∀ u, EnvX w u (N2 ++ ((g2t, Obj.cells (txC (tVM 51 g2o)).toArray 26 (0, 0)) :: ((g2o, Obj.cells (outC ⟨51, 1⟩).toArray 48 (0, 0)) :: (N1 ++ ((g1t, Obj.cells (txC (tVM 50 g1o)).toArray 26 (0, 0)) :: ((g1o, Obj.cells (outC ⟨50, 1⟩).toArray 48 (0, 0)) :: [])))))) → CoinsIn u u.heap.size (some ad) [c50]) := fun u hu => CoB.read HB1.out hu (fun y MEM => (List.mem_append_right _ (List.Mem.tail _ (List.Mem.tail _ (List.mem_append_left _ MEM)))))
  have HI1 : Hid (0 < ([c50] : List CoinR).length) := by show _ < _; decide
  go_upto_region 3 with (fail)
  refine wp_region_Hx (w0 := w) [0, 1, 2, 3, 4, 5, 6, 7, 8, 9, 10, 11, 12, 13, 14, 15, 16, 17, 18, 19, 20, 21, 22, 23, 24, 25, 26, 27, 28, 29, 30, 31, 32, 33, 34, 35, 36, 37, 38, 39, 40, 41, 42, 43, 44, 45, 46, 47] (N2 ++ ((g2t, Obj.cells (txC (tVM 51 g2o)).toArray 26 (0, 0)) :: ((g2o, Obj.cells (outC ⟨51, 1⟩).toArray 48 (0, 0)) :: (N1 ++ ((g1t, Obj.cells (txC (tVM 50 g1o)).toArray 26 (0, 0)) :: ((g1o, Obj.cells (outC ⟨50, 1⟩).toArray 48 (0, 0)) :: [])))))) rfl EX15.out ?_
  refine lexH_phase [0, 1, 2, 3, 4, 5, 6, 7, 8, 9, 10, 11, 12, 13, 14, 15, 16, 17, 18, 19, 20, 21, 22, 23, 24, 25, 26, 27, 28, 29, 30, 31, 32, 33, 34, 35, 36, 37, 38, 39, 40, 41, 42, 43, 44, 45, 46, 47] [] ?_
  have hw17 : EnvX w _ (N2 ++ ((g2t, Obj.cells (txC (tVM 51 g2o)).toArray 26 (0, 0)) :: ((g2o, Obj.cells (outC ⟨51, 1⟩).toArray 48 (0, 0)) :: (N1 ++ ((g1t, Obj.cells (txC (tVM 50 g1o)).toArray 26 (0, 0)) :: ((g1o, Obj.cells (outC ⟨50, 1⟩).toArray 48 (0, 0)) :: [])))))) := EX15.out
  have hone := @EnvC.one _ _ _ hw17
  (refine wpG_op rfl rfl rfl ?_; intro K hK; go_big_quiet_op; go_big_quiet_on)
  (refine wpG_val (v := .bool true) rfl rfl (fun u hu => eqErr_op u (decide_eq_true rfl) rfl rfl) ?_ hw17; intro K hK; go_big_quiet_op; go_big_quiet_on)
  iterate 2 (refine wpG_op rfl rfl rfl ?_; intro K hK; go_big_quiet_op; go_big_quiet_on)
  (refine wpG_val (v := .int .i64 ((([c50] : List CoinR).length : Nat) : Int)) rfl rfl (fun u hu => len_op Tryd.underlying22 (by decide) u rfl) ?_ hw17; intro K hK; go_big_quiet_op; go_big_quiet_on)
  (refine wpG_val (v := .bool true) rfl rfl (fun u hu => eqlI_op u (by decide) rfl rfl) ?_ hw17; intro K hK; go_big_quiet_op; go_big_quiet_on)
  iterate 3 (refine wpG_op rfl rfl rfl ?_; intro K hK; go_big_quiet_op; go_big_quiet_on)
  (refine wpG_val (v := .pointer (some (ad.add (0 * 35)))) rfl rfl (fun u hu => idxSl_op (i := 0) Tryd.underlying22 aggCo.size HI1.out u rfl rfl) ?_ hw17; intro K hK; go_big_quiet_op; go_big_quiet_on)
  (refine wpG_val (v := .pointer (some ((ad.add (0 * 35)).add 33))) rfl rfl (fun u hu => fieldCo_op (k := 1) (off := 33) rfl u rfl) ?_ hw17; intro K hK; go_big_quiet_op; go_big_quiet_on)
  (refine wpG_val (v := .pointer (some (((ad.add (0 * 35)).add 33).add 0))) rfl rfl (fun u hu => fieldOut_op (k := 0) (off := 0) rfl u rfl) ?_ hw17; intro K hK; go_big_quiet_op; go_big_quiet_on)
  (refine wpG_val (v := .int .i64 50) rfl rfl (fun u hu => load_any_op u (HLD.out u hu).2.2.2 rfl) ?_ hw17; intro K hK; go_big_quiet_op; go_big_quiet_on)
  (refine wpG_val (v := .bool true) rfl rfl (fun u hu => eqlI_op u (decide_eq_true rfl) rfl rfl) ?_ hw17; intro K hK; go_big_quiet_op; go_big_quiet_on)
  iterate 3 (refine wpG_op rfl rfl rfl ?_; intro K hK; go_big_quiet_op; go_big_quiet_on)
  (refine wpG_val (v := .bool true) rfl rfl (fun u hu => eqErr_op u (decide_eq_true rfl) rfl rfl) ?_ hw17; intro K hK; go_big_quiet_op; go_big_quiet_on)
  iterate 3 (refine wpG_op rfl rfl rfl ?_; intro K hK; go_big_quiet_op; go_big_quiet_on)
  (refine wpG_val (v := .int .i64 ((0 : Nat) : Int)) rfl rfl (fun u hu => len_op Tryd.underlying22 (n := 0) (by decide) u rfl) ?_ hw17; intro K hK; go_big_quiet_op; go_big_quiet_on)
  (refine wpG_val (v := .bool true) rfl rfl (fun u hu => eqlI_op u (decide_eq_true rfl) rfl rfl) ?_ hw17; intro K hK; go_big_quiet_op; go_big_quiet_on)
  iterate 3 (refine wpG_op rfl rfl rfl ?_; intro K hK; go_big_quiet_op; go_big_quiet_on)
  (refine wpG_call (f := 20) (args := #[.slice (some ad) ([c50] : List CoinR).length c1]) (v := .bool true) rfl rfl rfl Tryd.func20 rfl rfl (fun u hu => by have h := HH.out.may [c50] (some ad) ([c50] : List CoinR).length c1 u rfl HC1.out.1 HC1.out.2 c50_ok (HCI.out u hu) (HT.out.below (EnvX.bel hu)); rwa [c50_may] at h) ?_ hw17; intro K hK; go_big_quiet_op; go_big_quiet_on)
  iterate 3 (refine wpG_op rfl rfl rfl ?_; intro K hK; go_big_quiet_op; go_big_quiet_on)
  (refine wpG_call (f := 22) (args := #[.slice (some ad) ([c50] : List CoinR).length c1]) (v := .int .i64 50) rfl rfl rfl Tryd.func22 rfl rfl (fun u hu => by have h := HH.out.sum [c50] (some ad) ([c50] : List CoinR).length c1 u rfl (by decide) HC1.out.1 HC1.out.2 c50_ok (HCI.out u hu) (HT.out.below (EnvX.bel hu)); rwa [c50_sum] at h) ?_ hw17; intro K hK; go_big_quiet_op; go_big_quiet_on)
  (refine wpG_val (v := .bool true) rfl rfl (fun u hu => eqlI_op u (decide_eq_true rfl) rfl rfl) ?_ hw17; intro K hK; go_big_quiet_op; go_big_quiet_on)
  iterate 4 (refine wpG_op rfl rfl rfl ?_; intro K hK; go_big_quiet_op; go_big_quiet_on)
  (refine wpG_val (v := .pointer (some (ad.add (0 * 35)))) rfl rfl (fun u hu => idxSl_op (i := 0) Tryd.underlying22 aggCo.size HI1.out u rfl rfl) ?_ hw17; intro K hK; go_big_quiet_op; go_big_quiet_on)
  (refine wpG_val (v := .pointer (some ((ad.add (0 * 35)).add 0))) rfl rfl (fun u hu => fieldCo_op (k := 0) (off := 0) rfl u rfl) ?_ hw17; intro K hK; go_big_quiet_op; go_big_quiet_on)
  (refine wpG_val (v := inV (keyC c50)) rfl rfl (fun u hu => load_any_op u (HLD.out u hu).2.1 rfl) ?_ hw17; intro K hK; go_big_quiet_op; go_big_quiet_on)
  (refine wpG_call (f := 18) (args := #[.slice (some ad) ([c50] : List CoinR).length c1, inV (keyC c50)]) (v := .int .i64 0) rfl rfl rfl Tryd.func18 rfl rfl (fun u hu => by have h := HH.out.find [c50] (some ad) ([c50] : List CoinR).length c1 (keyC c50) u rfl (by decide) HC1.out.1 HC1.out.2 c50_ok (HCI.out u hu) ⟨(c50_ok c50 (List.Mem.head _)).1, (c50_ok c50 (List.Mem.head _)).2.1⟩ (HT.out.below (EnvX.bel hu)); rwa [c50_find] at h) ?_ hw17; intro K hK; go_big_quiet_op; go_big_quiet_on)
  (refine wpG_val (v := .bool true) rfl rfl (fun u hu => eqlI_op u (decide_eq_true rfl) rfl rfl) ?_ hw17; intro K hK; go_big_quiet_op; go_big_quiet_on)
  iterate 4 (refine wpG_op rfl rfl rfl ?_; intro K hK; go_big_quiet_op; go_big_quiet_on)
  (refine wpG_call (f := 21) (args := #[.slice (some ad) ([c50] : List CoinR).length c1, .slice (some ad) ([c50] : List CoinR).length c1]) (v := .bool true) rfl rfl rfl Tryd.func21 rfl rfl (fun u hu => by have h := HH.out.same [c50] [c50] (some ad) (some ad) ([c50] : List CoinR).length c1 ([c50] : List CoinR).length c1 u rfl (by decide) HC1.out.1 HC1.out.2 c50_ok (HCI.out u hu) rfl (by decide) HC1.out.1 HC1.out.2 c50_ok (HCI.out u hu) (HT.out.below (EnvX.bel hu)); rwa [c50_same] at h) ?_ hw17; intro K hK; go_big_quiet_op; go_big_quiet_on)
  iterate 2 (refine wpG_op rfl rfl rfl ?_; intro K hK; go_big_quiet_op; go_big_quiet_on)
  clear hone hw17
  refine wpG_nil ?_
  intro u19 E2'
  have EX18 := Lib.hid E2'
  clear E2'
  have HBE := Lib.hid (EnvX.bel EX18.out)
  go_wp2
  go_ret
  exact ⟨rfl, HBE.out⟩
theorem may_partsP (p : List CoinR) : mayP p = (decide (p.length ≤ 48) && (decide (upP p) && !p.any (fun c => !boundC c))) := by
  unfold mayP
  rw [Bool.eq_iff_iff]
  simp only [decide_eq_true_eq, Bool.and_eq_true, Bool.not_eq_true', List.any_eq_false, Bool.not_eq_true', Bool.not_eq_false]
  constructor
  · rintro ⟨h1, h2, h3⟩
    exact ⟨h1, h3, fun c hc => by rw [h2 c hc]⟩
  · rintro ⟨h1, h2, h3⟩
    refine ⟨h1, fun c hc => ?_, h2⟩
    have := h3 c hc
    cases hb : boundC c with
    | true => rfl
    | false => rw [hb] at this; first | cases this | exact absurd rfl this
theorem up_getP {p : List CoinR} (hu : upP p) {i j : Nat} (hij : i < j) (hj : j < p.length) : beforeK (keyC (p.getD i noC0)) (keyC (p.getD j noC0)) = true := by
  have h := (List.pairwise_iff_getElem.1 hu) i j (by omega) hj hij
  rw [List.getD_eq_getElem?_getD, List.getElem?_eq_getElem (show i < p.length by omega), List.getD_eq_getElem?_getD, List.getElem?_eq_getElem hj]
  exact h
theorem idP.get {p : List CoinR} (h : idP p) {j : Nat} (hj : j < p.length) : isId (keyC (p.getD j noC0)).tx := by
  rw [List.getD_eq_getElem?_getD, List.getElem?_eq_getElem hj]
  exact h _ (List.getElem_mem hj)
/-- how many stand ahead -/
def placeP : List CoinR → InR → Nat
  | [], _ => 0
  | c :: r, x => if beforeK (keyC c) x then placeP r x + 1 else 0
theorem placeP_le : ∀ (p : List CoinR) (x : InR), placeP p x ≤ p.length
  | [], _ => Nat.le_refl _
  | c :: r, x => by
    unfold placeP
    split
    · have := placeP_le r x
      rw [List.length_cons]; omega
    · exact Nat.zero_le _
theorem placeP_lt : ∀ (p : List CoinR) (x : InR) (j : Nat), j < placeP p x → beforeK (keyC (p.getD j noC0)) x = true
  | [], _, j, h => by cases h
  | c :: r, x, j, h => by
    unfold placeP at h
    split at h
    · rename_i hb
      cases j with
      | zero => exact hb
      | succ j => exact placeP_lt r x j (by omega)
    · cases h
theorem placeP_at : ∀ (p : List CoinR) (x : InR), placeP p x < p.length → beforeK (keyC (p.getD (placeP p x) noC0)) x = false
  | [], _, h => by cases h
  | c :: r, x, h => by
    unfold placeP at h ⊢
    split
    · rename_i hb
      rw [if_pos hb, List.length_cons] at h
      exact placeP_at r x (by omega)
    · rename_i hb
      simpa using hb
theorem placeP_ge {p : List CoinR} {x : InR} (hp : idP p) (hx : isId x.tx) (hu : upP p) {j : Nat} (h1 : placeP p x ≤ j) (h2 : j < p.length) : beforeK (keyC (p.getD j noC0)) x = false := by
  rcases Nat.lt_or_ge (placeP p x) j with h | h
  · have ha := placeP_at p x (by omega)
    have hb := up_getP hu h h2
    cases hc : beforeK (keyC (p.getD j noC0)) x with
    | false => rfl
    | true =>
      have := bef_trans (hp.get (by omega)) (hp.get h2) hx hb hc
      rw [ha] at this
      cases this
  · have e : j = placeP p x := by omega
    subst e
    exact placeP_at p x h2
theorem placeP_of {p : List CoinR} {x : InR} {k : Nat} (h1 : k ≤ p.length) (h2 : ∀ j, j < k → beforeK (keyC (p.getD j noC0)) x = true) (h3 : ∀ j, k ≤ j → j < p.length → beforeK (keyC (p.getD j noC0)) x = false) : placeP p x = k := by
  rcases Nat.lt_trichotomy (placeP p x) k with h | h | h
  · have a := placeP_at p x (by omega)
    rw [h2 _ h] at a
    cases a
  · exact h
  · have a := placeP_lt p x k h
    rw [h3 k (Nat.le_refl _) (by have := placeP_le p x; omega)] at a
    cases a
/-- found by halves -/
theorem findP_place {p : List CoinR} {x : InR} (hp : idP p) (hx : isId x.tx) (hu : upP p) : findP p x = if placeP p x < p.length ∧ keyC (p.getD (placeP p x) noC0) = x then (placeP p x : Int) else -1 := by
  split
  · rename_i h
    refine findP_hit0 h.1 h.2 fun j hj => bef_ne (hp.get (by omega)) (placeP_lt p x j hj)
  · rename_i h
    refine findP_none0 fun j hj e => ?_
    rcases Nat.lt_trichotomy j (placeP p x) with g | g | g
    · have := placeP_lt p x j g
      rw [e, bef_irr hx] at this
      cases this
    · subst g
      exact h ⟨hj, e⟩
    · have a := placeP_at p x (by omega)
      have b := up_getP hu g hj
      rw [e, a] at b
      cases b
theorem key_tx {a b : List Int} (ha : isId a) (hb : isId b) (h1 : lessL a b = false) (h2 : lessL b a = false) : a = b := by
  rcases less_three 32 a b ha.1 hb.1 with ⟨x, _, _⟩ | ⟨_, y, _⟩ | ⟨_, _, z⟩
  · rw [x] at h1; cases h1
  · rw [y] at h2; cases h2
  · exact of_decide_eq_true z
/-- is there a coin of an id: by halves -/
theorem there_place {p : List CoinR} {id : List Int} (hp : idP p) (hid : isId id) (hu : upP p) (hi : ∀ c ∈ p, 0 ≤ c.i) : thereP p id = (decide (placeP p ⟨id, 0⟩ < p.length) && decide ((p.getD (placeP p ⟨id, 0⟩) noC0).tx = id)) := by
  rw [Bool.eq_iff_iff]
  simp only [Bool.and_eq_true, decide_eq_true_eq]
  constructor
  · intro h
    unfold thereP at h
    rw [List.any_eq_true] at h
    obtain ⟨c, hc, e⟩ := h
    have e : c.tx = id := of_decide_eq_true e
    obtain ⟨j, hj, rfl⟩ := List.getElem_of_mem hc
    have hge : p.getD j noC0 = p[j] := by rw [List.getD_eq_getElem?_getD, List.getElem?_eq_getElem hj]; rfl
    have hi0 := hi _ hc
    have hnb : beforeK (keyC (p.getD j noC0)) ⟨id, 0⟩ = false := by
      rw [hge]
      unfold beforeK keyC
      simp only
      rw [e, less_irr hid.1]
      simp
      omega
    have hle : placeP p ⟨id, 0⟩ ≤ j := by
      rcases Nat.lt_or_ge j (placeP p ⟨id, 0⟩) with g | g
      · rw [placeP_lt p _ j g] at hnb; cases hnb
      · exact g
    refine ⟨by omega, ?_⟩
    rcases Nat.lt_or_ge (placeP p ⟨id, 0⟩) j with g | g
    · have ha := placeP_at p ⟨id, 0⟩ (by omega)
      have hb := up_getP hu g hj
      rw [hge] at hb
      have hq := hp.get (show placeP p ⟨id, 0⟩ < p.length by omega)
      generalize p.getD (placeP p ⟨id, 0⟩) noC0 = d at *
      have h1 : lessL d.tx id = false := by
        unfold beforeK keyC at ha
        simp only [Bool.or_eq_false_iff] at ha
        exact ha.1
      have h2 : lessL id d.tx = false := by
        cases hl : lessL id d.tx with
        | false => rfl
        | true =>
          unfold beforeK keyC at hb
          simp only [Bool.or_eq_true, Bool.and_eq_true, decide_eq_true_eq] at hb
          rw [e] at hb
          rcases hb with hb | hb
          · rw [h1] at hb; cases hb
          · rw [hb.1, less_irr hid.1] at hl; cases hl
      exact key_tx hq hid h1 h2
    · have e2 : j = placeP p ⟨id, 0⟩ := by omega
      rw [← e2, hge]
      exact e
  · rintro ⟨h1, h2⟩
    exact thereP_hit h1 h2
theorem withP_mid : ∀ (a b : List CoinR) (c : CoinR), (∀ d ∈ a, beforeK (keyC c) (keyC d) = false) → (∀ d ∈ b, beforeK (keyC c) (keyC d) = true) → withP (a ++ b) c = a ++ c :: b
  | [], [], c, _, _ => rfl
  | [], d :: b, c, _, h2 => by
    show withP (d :: b) c = c :: d :: b
    unfold withP
    rw [if_pos (h2 d (List.mem_cons_self ..))]
  | d :: a, b, c, h1, h2 => by
    show withP (d :: (a ++ b)) c = d :: (a ++ c :: b)
    unfold withP
    rw [if_neg (by rw [h1 d (List.mem_cons_self ..)]; decide), withP_mid a b c (fun x hx => h1 x (List.mem_cons_of_mem _ hx)) h2]
theorem made_mid {id : List Int} (hid : isId id) : ∀ (os : List OutR) (i : Int) (a b : List CoinR), 0 ≤ i → (∀ d ∈ a, ∀ j, i ≤ j → beforeK ⟨id, j⟩ (keyC d) = false) → (∀ d ∈ b, ∀ j, beforeK ⟨id, j⟩ (keyC d) = true) → madeP (a ++ b) (newC id i os) = a ++ newC id i os ++ b
  | [], i, a, b, _, _, _ => by
    show a ++ b = a ++ [] ++ b
    simp
  | o :: os, i, a, b, h0, h1, h2 => by
    show madeP (withP (a ++ b) ⟨id, i, o.v, o.to⟩) (newC id (i + 1) os) = a ++ (⟨id, i, o.v, o.to⟩ :: newC id (i + 1) os) ++ b
    rw [withP_mid a b ⟨id, i, o.v, o.to⟩ (fun d hd => h1 d hd i (Int.le_refl _)) (fun d hd => h2 d hd i)]
    have := made_mid hid os (i + 1) (a ++ [⟨id, i, o.v, o.to⟩]) b (by omega) (fun d hd j hj => ?_) h2
    · simp only [List.append_assoc, List.cons_append, List.nil_append] at this ⊢
      exact this
    · rcases List.mem_append.1 hd with h | h
      · exact h1 d h j (by omega)
      · cases List.mem_singleton.1 h
        unfold beforeK keyC
        simp only
        rw [less_irr hid.1]
        simp
        omega
theorem made_place {p : List CoinR} {id : List Int} (hp : idP p) (hid : isId id) (hu : upP p) (ht : thereP p id = false) (os : List OutR) :
    madeP p (newC id 0 os) = p.take (placeP p ⟨id, 0⟩) ++ newC id 0 os ++ p.drop (placeP p ⟨id, 0⟩) := by
  have h := made_mid hid os 0 (p.take (placeP p ⟨id, 0⟩)) (p.drop (placeP p ⟨id, 0⟩)) (Int.le_refl _) (fun d hd j hj => ?_) (fun d hd j => ?_)
  · rwa [List.take_append_drop] at h
  · obtain ⟨k, hk, rfl⟩ := List.getElem_of_mem hd
    rw [List.length_take] at hk
    have hlt := placeP_lt p ⟨id, 0⟩ k (by omega)
    have hkp : k < p.length := by omega
    have hkey := hp.get hkp
    rw [List.getElem_take]
    have hge : p.getD k noC0 = p[k] := by rw [List.getD_eq_getElem?_getD, List.getElem?_eq_getElem hkp]; rfl
    rw [hge] at hlt hkey
    cases hb : beforeK ⟨id, j⟩ (keyC p[k]) with
    | false => rfl
    | true =>
      have := bef_trans (a := ⟨id, j⟩) (b := keyC p[k]) (c := ⟨id, 0⟩) hid hkey hid hb hlt
      unfold beforeK at this
      simp only at this
      rw [less_irr hid.1] at this
      simp at this
      omega
  · obtain ⟨k, hk, rfl⟩ := List.getElem_of_mem hd
    rw [List.length_drop] at hk
    rw [List.getElem_drop]
    have hkp : placeP p ⟨id, 0⟩ + k < p.length := by omega
    have hnb := placeP_ge hp (x := ⟨id, 0⟩) hid hu (j := placeP p ⟨id, 0⟩ + k) (by omega) hkp
    have hkey := hp.get hkp
    have hge : p.getD (placeP p ⟨id, 0⟩ + k) noC0 = p[placeP p ⟨id, 0⟩ + k] := by rw [List.getD_eq_getElem?_getD, List.getElem?_eq_getElem hkp]; rfl
    rw [hge] at hnb hkey
    have hne : p[placeP p ⟨id, 0⟩ + k].tx ≠ id := thereP_no ht _ (List.getElem_mem hkp)
    generalize p[placeP p ⟨id, 0⟩ + k] = d at *
    have hb := bef_tri (a := keyC d) (b := ⟨id, 0⟩) hkey hid hnb (fun e => hne (congrArg InR.tx e))
    unfold beforeK keyC at hb ⊢
    simp only [Bool.or_eq_true, Bool.and_eq_true, decide_eq_true_eq] at hb ⊢
    rcases hb with hb | hb
    · exact .inl hb
    · exact absurd hb.1.symm hne
theorem run_stepO {p : List CoinR} {xs : List TxR} {i : Nat} (d : TxR) (hi : i < xs.length) {q : List CoinR} {n : Int} (h : runP p 0 (xs.take i) = .ok (q, n)) {q2 : List CoinR} {m : Int} (hs : spendP q (xs.getD i d) = (q2, m, 0)) : runP p 0 (xs.take (i + 1)) = .ok (q2, n + m) := by
  rw [take_snocC d hi, runP_app, h]
  simp only
  unfold runP
  rw [hs]
  rfl
theorem run_stopO {p : List CoinR} {xs : List TxR} {i : Nat} (d : TxR) (hi : i < xs.length) {q : List CoinR} {n : Int} (h : runP p 0 (xs.take i) = .ok (q, n)) {q2 : List CoinR} {m : Int} {e : Nat} (hs : spendP q (xs.getD i d) = (q2, m, e + 1)) : runP p 0 xs = .error (e + 1) := by
  have e1 : xs = xs.take i ++ (xs.getD i d :: xs.drop (i + 1)) := by
    have h1 := List.take_append_drop (i + 1) xs
    rw [take_snocC d hi, List.append_assoc] at h1
    exact h1.symm
  rw [e1, runP_app, h]
  simp only
  unfold runP
  rw [hs]
end Go.Proofs.YtabhhbdbkeeblaaDoor
