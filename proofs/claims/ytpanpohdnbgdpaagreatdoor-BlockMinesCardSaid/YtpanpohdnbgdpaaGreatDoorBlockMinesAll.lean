/-
  PROVED: the law stepladderlaw11.BlockMines answers true for every input, and leaves its arguments as they were.
  Conditions: the two package-level tables of package sha hold at the call what their initialisers lay; the card ties that to the text of the program (a pruned copy of the project: the packages that the roots of this seat load).
-/
import Derived.Test.YtpanpohdnbgdpaaGreatDoorZj
import Derived.Lib.Slices
import Derived.Lib.SliceRun
open Go.Proofs.Tryz
namespace Go.Proofs.YtpanpohdnbgdpaaGreatDoor
set_option maxRecDepth 20000
set_option maxHeartbeats 8000000
set_option linter.unusedVariables false
set_option linter.unusedSimpArgs false
def sumP (p : List CoinR) : Int := if mayP p then sumV p else 0
open Go.RowKit
theorem coA_size {c : CoinR} (h : lenC c) : (coA c).size = 35 := by unfold coA; rw [List.size_toArray, coC_len h]
theorem coA_size' {c : CoinR} (h : c.tx.length ≤ 32) : (coA c).size = 35 := by
 unfold coA coC inC
 rw [List.size_toArray, lA, lA, Array.length_toList, arrB_size _ _ (show (keyC c).tx.length ≤ 32 from h)]
 rfl
theorem coA_one (c : CoinR) : (coA c).all (·.oneCell') = true := by
 rw [Array.all_eq_true]
 intro i hi
 exact coC_one c _ (show (coA c)[i] ∈ (coA c).toList from Array.mem_toList_iff.2 (Array.getElem_mem hi))
theorem infoCo (cs : Array Value) (h : cs.size = 35) : (Tryz.prog.info? 104).map (·.size) = some cs.size := by rw [h]; exact aggCo.size
section
variable {w0 u : World} {M : Boxes} {g : Nat} {ty : TypeId} {c : CoinR}
end
section
variable {a : Act} {dst : Option Tmp} {x y : Operand} {ty : TypeId} {pos : String} {after : Array Edge} {gd : Option (Nat × Bool)}
end
theorem sumP_may {p : List CoinR} (h : mayP p = true) : sumP p = sumV p := by unfold sumP; rw [if_pos h]
section
variable {dst : Option Tmp} {ty : TypeId} {pos : String} {after : Array Edge} {gd : Option (Nat × Bool)}
theorem new_co (a : Act) : NewAt Tryz.prog ⟨dst, .alloc 104, ty, pos, after, gd⟩ a (.cells (coA noC0) 104 (0, 0)) := by
 exact new_of (t := 104) (z := coV noC0) (n := 35) (by kernel_rfl) a
end
theorem sumV_step {p : List CoinR} {i : Nat} (d : CoinR) (hi : i < p.length) : sumV (p.take (i + 1)) = sumV (p.take i) + (p.getD i d).v := by
 rw [take_snocC d hi, sumV_app]
 unfold sumV
 simp
theorem nonceAt_zero {h : Hd} (hn : h.nonce < 18446744073709551616) : nonceAt h 0 = h := by
 unfold nonceAt
 rw [Nat.add_zero, Nat.mod_eq_of_lt hn]
theorem mine_err {t : TipR} {l : List TxR} {nonce : Nat} {tries : Int} {b : BlkR} {e : Nat} (h : mineK t l nonce tries = (b, e + 1)) : b = noBlk := by
 unfold mineK at h
 split at h
 · cases h; rfl
 · split at h
   · exact (congrArg Prod.fst h).symm
   · split at h
     · cases h; rfl
     · cases h
theorem mine_again {t : TipR} {l : List TxR} {nonce : Nat} {tries : Int} {b : BlkR} (h : mineK t l nonce tries = (b, 0)) : mineK t l b.h.nonce 1 = (b, 0) := by
 obtain ⟨h1, h2, h3, rfl, h5, h6, h7⟩ := mine_ok h
 have hm : mineH (nextK t b.t b.h.nonce) 1 = (b.h, true) := by
  rw [← h1]
  unfold mineH
  have e : (List.range (min (1 : Int) 200).toNat).find? (fun k => mayH (nonceAt b.h k)) = some 0 := by
   rw [show (min (1 : Int) 200).toNat = 1 from rfl, show List.range 1 = [0] from rfl, List.find?_cons]
   simp only [nonceAt_zero h7, h5]
  rw [e]
  simp only
  rw [nonceAt_zero h7]
 unfold mineK
 rw [if_neg (by rw [← h1]; omega), if_neg (fun k => k h6), hm]
 simp only [Bool.true_eq_false, if_false]
 rw [← h3]
structure PSumC : Prop where
  sum : ∀ (p : List CoinR) (A : Option Addr) (n c : Nat) (w : World), p.length = n → n ≤ 1000 → n ≤ c → c ≤ maxLen → okP p → CoinsIn w w.heap.size A p → Tables w → Calls Tryz.prog 25 #[.slice A n c] w fun e w' => e = .returned (.int .i64 (sumP p)) ∧ Below w.heap.size w w'
theorem psumP_any (p : List CoinR) (A : Option Addr) (n c : Nat) (w : World) (hl : p.length = n) (hnc : n ≤ c) (hcm : c ≤ maxLen) (hI : okP p) (hA : CoinsIn w w.heap.size A p) :
  Rz 25 #[.slice A n c] w (.int .i64 (sumP p)) := by
 unfold Rz
 have HL := hD hl
 have HPP := hD hI
 have HAA := hD hA
 have HN63 : Hid (n < 9223372036854775808) := by show _ < _; unfold maxLen at hcm; omega
 obtain ⟨bm, hbm⟩ : ∃ bm, mayP p = bm := ⟨_, rfl⟩
 have HBM := hD hbm
 have HMY : Hid (Rb w 63 #[.slice A n c] (.bool bm)) := fun u hu => by
  have h := pmayP_any p A n c u hl hnc hcm hI (CellsIn.up hA hu)
  rwa [hbm] at h
 have E1 : Hid (EnvX w w []) := EnvX.start w
 clear hl hnc hcm hI hA hbm
 cases bm with
 | false =>
  have HF : Hid (sumP p = 0) := by show _ = _; unfold sumP; rw [if_neg (by rw [HBM.out]; decide)]
  go_enter func25, ntmps25
  go_upto_region 1 with (fail)
  refine rgQ [0,1,2] [] E1 rfl fun hw => ?_
  refine qo rfl hw ?_
  refine qc rfl func63 (fun u hu => HMY.out u (EnvX.bel hu)) hw ?_
  refine qo rfl hw ?_
  refine enP fun u3 EX2 => ?_
  go_upto_region 2 with (fail)
  refine rgQ [0] [] EX2 rfl fun hw => ?_
  refine qo rfl hw ?_
  refine enP fun u6 EX5 => ?_
  have HBE := hD (EnvX.bel EX5.out)
  go_wp2
  go_ret
  exact ⟨by rw [HF.out]; first | done | rfl, HBE.out⟩
 | true =>
  have HF : Hid (sumP p = sumV p) := sumP_may HBM.out
  have HBD := hD (mayP_iff.1 HBM.out).2.1
  have HN48 : Hid (n ≤ 48) := by show _ ≤ _; rw [← HL.out]; exact (mayP_iff.1 HBM.out).1
  go_enter func25, ntmps25
  go_upto_region 1 with (fail)
  refine rgQ [0,1,2] [] E1 rfl fun hw => ?_
  refine qo rfl hw ?_
  refine qc rfl func63 (fun u hu => HMY.out u (EnvX.bel hu)) hw ?_
  refine qo rfl hw ?_
  refine enP fun u3 EX2 => ?_
  go_upto_region 3 with (fail)
  refine rgQ [0] [] EX2 rfl fun hw => ?_
  refine qo rfl hw ?_
  refine enP fun u6 EX5 => ?_
  go_upto_region 4 with (fail)
  refine rgQ [0,1,2] [] EX5 rfl fun hw => ?_
  refine qo rfl hw ?_
  refine qv rfl (fun u hu => len_op underlying35 HN63.out u rfl) hw ?_
  refine qo rfl hw ?_
  refine enP fun u9 EX8 => ?_
  have EJ := hD EX8.out
  clear EX8 E1
  go_upto_region 5 with (fail)
  go_loopw [3, 11] (fun sv iv u => ∃ i : Nat, i ≤ n ∧ iv = .int .i64 (i : Int) ∧ sv = .int .i64 (sumV (p.take i)) ∧ Hid (EnvX w u [])) (fun _ iv _ => n - (intOf iv).toNat)
  case atStart => exact ⟨0, by omega, rfl, rfl, EJ.out⟩
  case round =>
   obtain ⟨i, hi, rfl, rfl, hinv⟩ := hrel
   have EK := hD hinv.out
   clear hinv EJ
   by_cases hlt : i < n
   · have C4 : Hid (decide ((i : Int) < (n : Int)) = true) := decide_eq_true (by omega)
     have HI := hD hlt
     have hil : i < p.length := by rw [HL.out]; exact hlt
     have HIL := hD hil
     obtain ⟨ad, rfl, -, hld⟩ := HAA.out.loads HPP.out hil
     have HLD := hD hld
     have HY : Hid (lenC (p.getD i noC0)) := (getP HPP.out hil).len
     obtain ⟨y, hy⟩ : ∃ y, p.getD i noC0 = y := ⟨_, rfl⟩
     have HYE := hD hy
     rw [hy] at HLD HY
     have hst := sumV_step noC0 hil
     have hbs := sumV_bound (p := p.take i) (fun c hc => HBD.out c (List.mem_of_mem_take hc))
     rw [List.length_take, Nat.min_eq_left (by omega)] at hbs
     have hby := bound_v2 (HBD.out (p.getD i noC0) (by rw [gD, gE hil]; exact List.getElem_mem hil))
     rw [hy] at hst hby
     have hn48 := HN48.out
     have HADD : Hid (IntKind.i64.wrap (sumV (p.take i) + y.v) = sumV (p.take (i + 1))) := by show _ = _; rw [hst, wrapS (by omega)]
     clear hld hil hlt hy hst hbs hby hn48
     generalize sumV (p.take i) = s0 at *
     obtain ⟨s1, hs1⟩ : ∃ s1, sumV (p.take (i + 1)) = s1 := ⟨_, rfl⟩
     rw [hs1] at HADD
     have HS1 := hD hs1
     clear hs1
     go_upto_region 5 with (fail)
     refine rgQ [0] [] EK rfl fun hw => ?_
     refine qv rfl (fun u hu => ltZ_op u C4.out rfl rfl) hw ?_
     refine enP fun u103 EX102 => ?_
     go_upto_region 6 with (fail)
     refine rgQ [0,1] [2,3] EX102 rfl fun hw => ?_
     refine qv rfl (fun u hu => idxSl_op underlying35 aggCo.size HI.out u rfl rfl) hw ?_
     refine qv rfl (fun u hu => load_any_op u (HLD.out u (nl hu)).1 rfl) hw ?_
     refine wpG_nil <| qn rfl (new_co _) fun gc HG6 he105 => ?_
     change lexH _ _ _ _ _ _ [(gc, oc (coA noC0) 104)]
     refine (sh rfl HG6 (infoCo _ (coA_size HY.out)) ((coA_size' (Nat.zero_le _)).trans (coA_size HY.out).symm) (coA_one _) ?_)
     refine fun _ => enL fun u108 EX107 => ?_
     go_upto_region 7 with (fail)
     refine rgQ [0,1,2,3,4,5] [] EX107 rfl fun hw => ?_
     refine qw 2 hw ?_
     refine qf (o2 := 33) rfl hw ?_
     refine ql rfl mH HY.out hw ?_
     refine qv rfl (fun u hu => addZ_op u HADD.out rfl rfl) hw ?_
     refine qo rfl hw ?_
     refine enP fun u111 EX110 => ?_
     have hii := HI.out
     have hn := HN63.out
     go_wp2
     go_roundw
     case rel => exact ⟨i + 1, by omega, by go_num, by rw [HS1.out], EX110.out.sub (fun _ h => by cases h)⟩
     case measure => simp [intOf]; omega
   · obtain rfl : i = n := by omega
     have C4 : Hid (decide ((i : Int) < (i : Int)) = false) := decide_eq_false (by omega)
     have HT : Hid (p.take i = p) := tL (by rw [HL.out]; exact Nat.le_refl _)
     rw [HT.out]
     go_upto_region 5 with (fail)
     refine rgQ [0] [] EK rfl fun hw => ?_
     refine qv rfl (fun u hu => ltZ_op u C4.out rfl rfl) hw ?_
     refine enP fun u203 EX202 => ?_
     go_upto_region 9 with (fail)
     refine rgQ [0,1] [] EX202 rfl fun hw => ?_
     refine qw 2 hw ?_
     refine enP fun u206 EX205 => ?_
     have HBE := hD (EnvX.bel EX205.out)
     go_wp2
     go_ret
     exact ⟨by rw [HF.out]; first | done | rfl, HBE.out⟩
section
variable {a : Act} {dst : Option Tmp} {ty : TypeId} {pos : String} {after : Array Edge} {gd : Option (Nat × Bool)}
end
section
variable {a : Act} {dst : Option Tmp} {x : Operand} {ty : TypeId} {pos : String} {after : Array Edge} {gd : Option (Nat × Bool)}
end
theorem psumC : PSumC := ⟨fun p A n c w hl hn hnc hcm hI hA _ => psumP_any p A n c w hl hnc hcm hI hA⟩
theorem mid_blk {b : BlkM} {r : BlkR} (h : b.r = r) (h1 : r.l.length ≤ 1000) {l : List TxM} (h2 : r.t = rsT l) (k : midTxs l) : midBlk b := by
 have e1 : b.l = r.l := congrArg BlkR.l h
 have e2 : rsT b.t = r.t := congrArg BlkR.t h
 exact ⟨by rw [e1]; exact h1, midTxs_r (e2.trans h2) k⟩
theorem mine_sum {p : List CoinR} (hp : okP p) {l : List TxR} (h0 : (applyP p l).2 = 0) : sumP (applyP p l).1 ≤ sumP p + 50 ∧ 0 ≤ sumP p ∧ sumP p ≤ 52776558133248 := by
 cases hm : mayP p with
 | false =>
  have : (applyP p l).2 = 1 := by unfold applyP; rw [if_pos hm]
  omega
 | true =>
  obtain ⟨h1, -, h3, -⟩ := apply_all hp.id hm l
  rw [sumP_may hm, sumP_may h1]
  obtain ⟨k1, k2, _⟩ := mayP_iff.1 hm
  have b1 := sumV_bound k2
  exact ⟨h3, by omega, by omega⟩
theorem law_bmines_a (H : BlockC) (G : AwkC) (GS : PSumC) (t : TipM) (l : List TxM) (A : Option Addr) (n c : Nat) (nonce : Nat) (tries : Int) (w : World) (kt : TipOk w t) (hl : l.length = n) (hnc : n ≤ c) (hcm : c ≤ maxLen) (hA : TxsIn w A l) (hno : nonce < 18446744073709551616) (hti : I64 tries) (ht : Tables w) (k1 : fewP t = false) (k2 : fewAll l 6 = fewAll l 6) :
  Rz 4 #[tipV t, .slice A n c, .int .u64 (nonce : Int), .int .i64 tries] w (.bool true) := by
 unfold Rz
 have HT := hD ht
 have HH := hD H
 have KT := hD kt
 have HKt : Hid (lenH t.b.h) := kt.b.h.len
 have HM63 : Hid (n < 9223372036854775808) := by show _ < _; unfold maxLen at hcm; omega
 have HL := hD hl
 have HTI := hD hA
 have HNC := hD (And.intro hnc hcm)
 have HNO := hD hno
 have HTR := hD hti
 have HF1 : Hid (fewP t = false) := k1
 have HF2 : Hid (fewAll l 6 = fewAll l 6) := k2
 have HAW : Hid (Rt w 10 #[] (.bool true)) := fun u hu => bawake_any H G u (ht.below (EnvX.bel hu))
 have E1 : Hid (EnvX w (w.alloc (.cells (tipA t) 37)) [(w.heap.size, oc (tipA t) 37)]) := (EnvX.start w).new _
 clear ht H G GS kt hl hnc hcm hA hno hti k1 k2
 unfold tipV
 go_enter func4, ntmps4
 go_upto_region 1 with (fail)
 generalize w.alloc (.cells (tipA t) 37) = W at *
 refine rgQ [0,1] [] E1 rfl fun hw => ?_
 refine qc rfl func10 (fun u hu => HAW.out u (nl hu)) hw ?_
 refine qo rfl hw ?_
 refine enP fun u3 EX2 => ?_
 go_upto_region 2 with (fail)
 refine rgQ [0,1,2] [] EX2 rfl fun hw => ?_
 refine ql rfl mH HKt.out hw ?_
 refine qc (args := #[tipV t]) (v := .bool (false)) rfl func11 (fun u hu => by have h1 := fewtip_any t u (KT.out.up (EnvX.bel hu)); rwa [HF1.out] at h1) hw ?_
 refine qo rfl hw ?_
 refine enP fun u6 EX5 => ?_
 go_upto_region 3 with (fail)
 refine rgQ [0,1,2] [] EX5 rfl fun hw => ?_
 refine qo rfl hw ?_
 refine qc (args := #[.slice A n c, .int .i64 6]) (v := .bool (fewAll l 6)) rfl func24 (fun u hu => by have h1 := fewall_any l 6 A n c u HL.out HM63.out (HTI.out.up (EnvX.bel hu)); rwa [HF2.out] at h1) hw ?_
 refine qo rfl hw ?_
 refine enP fun u9 EX8 => ?_
 go_upto_region 4 with (fail)
 refine rgQ [0,1,2,3,4,5,6,7,8,9,10,11,12,13] [] EX8 rfl fun hw => ?_
 refine qw 14 hw ?_
 refine enP fun u12 EX11 => ?_
 go_upto_region 5 with (fail)
 refine rgQ [0,1] [] EX11 rfl fun hw => ?_
 refine qw 2 hw ?_
 refine enP fun u15 EX14 => ?_
 have HBE := hD (EnvX.bel EX14.out)
 go_wp2
 go_ret
 exact ⟨rfl, HBE.out⟩
theorem law_bmines_b (H : BlockC) (G : AwkC) (GS : PSumC) (t : TipM) (l : List TxM) (A : Option Addr) (n c : Nat) (nonce : Nat) (tries : Int) (w : World) (kt : TipOk w t) (hl : l.length = n) (hnc : n ≤ c) (hcm : c ≤ maxLen) (hA : TxsIn w A l) (hno : nonce < 18446744073709551616) (hti : I64 tries) (ht : Tables w) (k1 : fewP t = true) (k2 : fewAll l 6 = false) :
  Rz 4 #[tipV t, .slice A n c, .int .u64 (nonce : Int), .int .i64 tries] w (.bool true) := by
 unfold Rz
 have HT := hD ht
 have HH := hD H
 have KT := hD kt
 have HKt : Hid (lenH t.b.h) := kt.b.h.len
 have HM63 : Hid (n < 9223372036854775808) := by show _ < _; unfold maxLen at hcm; omega
 have HL := hD hl
 have HTI := hD hA
 have HNC := hD (And.intro hnc hcm)
 have HNO := hD hno
 have HTR := hD hti
 have HF1 : Hid (fewP t = true) := k1
 have HF2 : Hid (fewAll l 6 = false) := k2
 have HAW : Hid (Rt w 10 #[] (.bool true)) := fun u hu => bawake_any H G u (ht.below (EnvX.bel hu))
 have E1 : Hid (EnvX w (w.alloc (.cells (tipA t) 37)) [(w.heap.size, oc (tipA t) 37)]) := (EnvX.start w).new _
 clear ht H G GS kt hl hnc hcm hA hno hti k1 k2
 unfold tipV
 go_enter func4, ntmps4
 go_upto_region 1 with (fail)
 generalize w.alloc (.cells (tipA t) 37) = W at *
 refine rgQ [0,1] [] E1 rfl fun hw => ?_
 refine qc rfl func10 (fun u hu => HAW.out u (nl hu)) hw ?_
 refine qo rfl hw ?_
 refine enP fun u3 EX2 => ?_
 go_upto_region 2 with (fail)
 refine rgQ [0,1,2] [] EX2 rfl fun hw => ?_
 refine ql rfl mH HKt.out hw ?_
 refine qc (args := #[tipV t]) (v := .bool (true)) rfl func11 (fun u hu => by have h1 := fewtip_any t u (KT.out.up (EnvX.bel hu)); rwa [HF1.out] at h1) hw ?_
 refine qo rfl hw ?_
 refine enP fun u6 EX5 => ?_
 go_upto_region 3 with (fail)
 refine rgQ [0,1,2] [] EX5 rfl fun hw => ?_
 refine qo rfl hw ?_
 refine qc (args := #[.slice A n c, .int .i64 6]) (v := .bool (false)) rfl func24 (fun u hu => by have h1 := fewall_any l 6 A n c u HL.out HM63.out (HTI.out.up (EnvX.bel hu)); rwa [HF2.out] at h1) hw ?_
 refine qo rfl hw ?_
 refine enP fun u9 EX8 => ?_
 go_upto_region 4 with (fail)
 refine rgQ [0,1,2,3,4,5,6,7,8,9,10,11,12,13] [] EX8 rfl fun hw => ?_
 refine qw 14 hw ?_
 refine enP fun u12 EX11 => ?_
 go_upto_region 5 with (fail)
 refine rgQ [0,1] [] EX11 rfl fun hw => ?_
 refine qw 2 hw ?_
 refine enP fun u15 EX14 => ?_
 have HBE := hD (EnvX.bel EX14.out)
 go_wp2
 go_ret
 exact ⟨rfl, HBE.out⟩
theorem law_bmines_c (H : BlockC) (G : AwkC) (GS : PSumC) (t : TipM) (l : List TxM) (A : Option Addr) (n c : Nat) (nonce : Nat) (tries : Int) (w : World) (kt : TipOk w t) (hl : l.length = n) (hnc : n ≤ c) (hcm : c ≤ maxLen) (hA : TxsIn w A l) (hno : nonce < 18446744073709551616) (hti : I64 tries) (ht : Tables w) (k1 : fewP t = true) (k2 : fewAll l 6 = true) (k3 : 20 < tries) :
  Rz 4 #[tipV t, .slice A n c, .int .u64 (nonce : Int), .int .i64 tries] w (.bool true) := by
 unfold Rz
 have HT := hD ht
 have HH := hD H
 have KT := hD kt
 have HKt : Hid (lenH t.b.h) := kt.b.h.len
 have HM63 : Hid (n < 9223372036854775808) := by show _ < _; unfold maxLen at hcm; omega
 have HL := hD hl
 have HTI := hD hA
 have HNC := hD (And.intro hnc hcm)
 have HNO := hD hno
 have HTR := hD hti
 have HF1 : Hid (fewP t = true) := k1
 have HF2 : Hid (fewAll l 6 = true) := k2
 have HAW : Hid (Rt w 10 #[] (.bool true)) := fun u hu => bawake_any H G u (ht.below (EnvX.bel hu))
 have E1 : Hid (EnvX w (w.alloc (.cells (tipA t) 37)) [(w.heap.size, oc (tipA t) 37)]) := (EnvX.start w).new _
 have C12 : Hid (decide ((20 : Int) < tries) = true) := decide_eq_true k3
 clear ht H G GS kt hl hnc hcm hA hno hti k1 k2 k3
 unfold tipV
 go_enter func4, ntmps4
 go_upto_region 1 with (fail)
 generalize w.alloc (.cells (tipA t) 37) = W at *
 refine rgQ [0,1] [] E1 rfl fun hw => ?_
 refine qc rfl func10 (fun u hu => HAW.out u (nl hu)) hw ?_
 refine qo rfl hw ?_
 refine enP fun u3 EX2 => ?_
 go_upto_region 2 with (fail)
 refine rgQ [0,1,2] [] EX2 rfl fun hw => ?_
 refine ql rfl mH HKt.out hw ?_
 refine qc (args := #[tipV t]) (v := .bool (true)) rfl func11 (fun u hu => by have h1 := fewtip_any t u (KT.out.up (EnvX.bel hu)); rwa [HF1.out] at h1) hw ?_
 refine qo rfl hw ?_
 refine enP fun u6 EX5 => ?_
 go_upto_region 3 with (fail)
 refine rgQ [0,1,2] [] EX5 rfl fun hw => ?_
 refine qo rfl hw ?_
 refine qc (args := #[.slice A n c, .int .i64 6]) (v := .bool (true)) rfl func24 (fun u hu => by have h1 := fewall_any l 6 A n c u HL.out HM63.out (HTI.out.up (EnvX.bel hu)); rwa [HF2.out] at h1) hw ?_
 refine qo rfl hw ?_
 refine enP fun u9 EX8 => ?_
 go_upto_region 4 with (fail)
 refine rgQ [0,1,2,3,4,5,6,7,8,9,10,11,12,13] [] EX8 rfl fun hw => ?_
 refine qw 12 hw ?_
 refine qv rfl (fun u hu => gtZ_op u C12.out rfl rfl) hw ?_
 refine qo rfl hw ?_
 refine enP fun u12 EX11 => ?_
 go_upto_region 5 with (fail)
 refine rgQ [0,1] [] EX11 rfl fun hw => ?_
 refine qw 2 hw ?_
 refine enP fun u15 EX14 => ?_
 have HBE := hD (EnvX.bel EX14.out)
 go_wp2
 go_ret
 exact ⟨rfl, HBE.out⟩
theorem law_bmines_err (H : BlockC) (G : AwkC) (GS : PSumC) (t : TipM) (l : List TxM) (A : Option Addr) (n c : Nat) (nonce : Nat) (tries : Int) (w : World) (kt : TipOk w t) (hl : l.length = n) (hnc : n ≤ c) (hcm : c ≤ maxLen) (hA : TxsIn w A l) (hno : nonce < 18446744073709551616) (hti : I64 tries) (ht : Tables w) (k1 : fewP t = true) (k2 : fewAll l 6 = true) (k3 : ¬ 20 < tries) {r1 : BlkR} {e1 : Nat} (hp : mineK t.r (rsT l) nonce tries = (r1, e1 + 1)) :
  Rz 4 #[tipV t, .slice A n c, .int .u64 (nonce : Int), .int .i64 tries] w (.bool true) := by
 unfold Rz
 have HT := hD ht
 have HH := hD H
 have KT := hD kt
 have HKt : Hid (lenH t.b.h) := kt.b.h.len
 have HM63 : Hid (n < 9223372036854775808) := by show _ < _; unfold maxLen at hcm; omega
 have HL := hD hl
 have HTI := hD hA
 have HNC := hD (And.intro hnc hcm)
 have HNO := hD hno
 have HTR := hD hti
 have HF1 : Hid (fewP t = true) := k1
 have HF2 : Hid (fewAll l 6 = true) := k2
 have HAW : Hid (Rt w 10 #[] (.bool true)) := fun u hu => bawake_any H G u (ht.below (EnvX.bel hu))
 have E1 : Hid (EnvX w (w.alloc (.cells (tipA t) 37)) [(w.heap.size, oc (tipA t) 37)]) := (EnvX.start w).new _
 have C12 : Hid (decide ((20 : Int) < tries) = false) := decide_eq_false k3
 have HP1 := hD hp
 have HR1 : Hid (r1 = noBlk) := mine_err hp
 clear ht H G GS kt hl hnc hcm hA hno hti k1 k2 k3 hp
 unfold tipV
 go_enter func4, ntmps4
 go_upto_region 1 with (fail)
 generalize w.alloc (.cells (tipA t) 37) = W at *
 have HMT := hD (fewP.mid HF1.out).1
 have HMX := hD (fewAll_mid HF2.out)
 refine rgQ [0,1] [] E1 rfl fun hw => ?_
 refine qc rfl func10 (fun u hu => HAW.out u (nl hu)) hw ?_
 refine qo rfl hw ?_
 refine enP fun u3 EX2 => ?_
 go_upto_region 2 with (fail)
 refine rgQ [0,1,2] [] EX2 rfl fun hw => ?_
 refine ql rfl mH HKt.out hw ?_
 refine qc (args := #[tipV t]) (v := .bool (true)) rfl func11 (fun u hu => by have h1 := fewtip_any t u (KT.out.up (EnvX.bel hu)); rwa [HF1.out] at h1) hw ?_
 refine qo rfl hw ?_
 refine enP fun u6 EX5 => ?_
 go_upto_region 3 with (fail)
 refine rgQ [0,1,2] [] EX5 rfl fun hw => ?_
 refine qo rfl hw ?_
 refine qc (args := #[.slice A n c, .int .i64 6]) (v := .bool (true)) rfl func24 (fun u hu => by have h1 := fewall_any l 6 A n c u HL.out HM63.out (HTI.out.up (EnvX.bel hu)); rwa [HF2.out] at h1) hw ?_
 refine qo rfl hw ?_
 refine enP fun u9 EX8 => ?_
 go_upto_region 4 with (fail)
 refine rgQ [0,1,2,3,4,5,6,7,8,9,10,11,12,13] [] EX8 rfl fun hw => ?_
 refine qw 12 hw ?_
 refine qv rfl (fun u hu => gtZ_op u C12.out rfl rfl) hw ?_
 refine qo rfl hw ?_
 refine enP fun u12 EX11 => ?_
 go_upto_region 6 with (fail)
 refine rgQ [0,1,2,3] [4,5,6,7,8,9,10] EX11 rfl fun hw => ?_
 refine ql rfl mH HKt.out hw ?_
 refine qw 3 hw ?_
 refine wpG_nil <| (hOp_turn (gd := none) (R := fun x M' => ∃ tq N, x = .tuple #[.agg (blkA tq), .int .i64 ((e1 + 1 : Nat) : Int)] ∧ M' = N ++ [(w.heap.size, oc (tipA t) 37)] ∧ KeptB w N (IsBlk (r1) tq) ∧ ∃ vq, IsBlk (r1) tq vq) rfl rfl rfl rfl (fun u hu => OUpon_call (fid := 15) (xs := #[.tmp 39, .tmp 40, .tmp 41, .tmp 42]) (args := #[tipV t, .slice A n c, .int .u64 (nonce : Int), .int .i64 tries]) rfl func15 rfl rfl u (blk_turn (by have h := HH.out.mine t l A n c nonce tries u (KT.out.up (EnvX.bel hu)) HMT.out HL.out HNC.out.1 HNC.out.2 (HTI.out.up (EnvX.bel hu)) HMX.out HNO.out HTR.out (HT.out.below (EnvX.bel hu)); rw [HP1.out] at h; simp only at h; exact h) hu)) ?_)
 rintro _ _ ⟨b6, N6, rfl, rfl, hk6, hv6⟩ he14; intro K' hK'; go_big_quiet_op; go_big_quiet_on
 have HT6 := hD hk6
 have HV6 := hD hv6
 have HK6 : Hid (lenH b6.h) := by obtain ⟨v, hv⟩ := HV6.out; exact hv.2.h.len
 clear hk6 hv6
 refine phE [5,6,7] [8,9,10] he14 fun hw => ?_
 refine qw 3 hw ?_
 refine wpG_nil <| qn rfl (new_blk _) fun g6 HGg6 he16 => ?_
 change lexH _ _ _ _ _ _ ((g6, oc (blkA noBlkM) 33) :: (N6 ++ ((w.heap.size, oc (tipA t) 37) :: [])))
 refine (sh rfl HGg6 (infoBlk _ (blkA_size HK6.out)) (blk_sizes HK6.out) (blkA_one _) ?_)
 intro he17
 refine phE [10] [] he17 fun hw => ?_
 refine qo rfl hw ?_
 refine enP fun u20 EX19 => ?_
 go_upto_region 7 with (fail)
 refine rgQ [0,1] [] EX19 rfl fun hw => ?_
 refine qo rfl hw ?_
 refine qv (v := .bool true) rfl (fun u hu => neErr_op u (decide_eq_true (by omega)) rfl rfl) hw ?_
 refine enP fun u23 EX22 => ?_
 have HR6 : Hid (b6.r = noBlkM.r) := by obtain ⟨v, hv⟩ := HV6.out; exact hv.1.trans HR1.out
 have HM6 : Hid (midBlk b6) := mid_blk HR6.out (by decide) (l := []) rfl ⟨by decide, fun x h => by cases h⟩
 have HMN : Hid (midBlk noBlkM) := mid_blk rfl (by decide) (l := []) rfl ⟨by decide, fun x h => by cases h⟩
 go_upto_region 8 with (fail)
 refine rgQ [0,1,2,3] [] EX22 rfl fun hw => ?_
 refine ql rfl mH HK6.out hw ?_
 refine qv (v := blkV noBlkM) rfl (fun u hu => buildA_op u built_blk0) hw ?_
 refine qc (args := #[blkV b6, blkV noBlkM]) (v := .bool true) rfl func21 (fun u hu => by have h := HH.out.same b6 noBlkM u (HT6.out u _ hu (fun y MEM => (mT (mL MEM)))).2 HM6.out (BlkOk.no u) HMN.out (HT.out.below (EnvX.bel hu)); rw [HR6.out, decide_eq_true rfl] at h; exact h) hw ?_
 refine qo rfl hw ?_
 refine enP fun u26 EX25 => ?_
 have HBE := hD (EnvX.bel EX25.out)
 go_wp2
 go_ret
 exact ⟨rfl, HBE.out⟩
theorem law_bmines_main (H : BlockC) (G : AwkC) (GS : PSumC) (t : TipM) (l : List TxM) (A : Option Addr) (n c : Nat) (nonce : Nat) (tries : Int) (w : World) (kt : TipOk w t) (hl : l.length = n) (hnc : n ≤ c) (hcm : c ≤ maxLen) (hA : TxsIn w A l) (hno : nonce < 18446744073709551616) (hti : I64 tries) (ht : Tables w) (k1 : fewP t = true) (k2 : fewAll l 6 = true) (k3 : ¬ 20 < tries) {r1 : BlkR} (hp : mineK t.r (rsT l) nonce tries = (r1, 0)) :
  Rz 4 #[tipV t, .slice A n c, .int .u64 (nonce : Int), .int .i64 tries] w (.bool true) := by
 unfold Rz
 have HT := hD ht
 have HH := hD H
 have KT := hD kt
 have HKt : Hid (lenH t.b.h) := kt.b.h.len
 have HM63 : Hid (n < 9223372036854775808) := by show _ < _; unfold maxLen at hcm; omega
 have HL := hD hl
 have HTI := hD hA
 have HNC := hD (And.intro hnc hcm)
 have HNO := hD hno
 have HTR := hD hti
 have HF1 : Hid (fewP t = true) := k1
 have HF2 : Hid (fewAll l 6 = true) := k2
 have HAW : Hid (Rt w 10 #[] (.bool true)) := fun u hu => bawake_any H G u (ht.below (EnvX.bel hu))
 have E1 : Hid (EnvX w (w.alloc (.cells (tipA t) 37)) [(w.heap.size, oc (tipA t) 37)]) := (EnvX.start w).new _
 have C12 : Hid (decide ((20 : Int) < tries) = false) := decide_eq_false k3
 have HP1 := hD hp
 have hok := mine_ok hp
 have HOK := hD hok
 have HGS := hD GS
 obtain ⟨r2, hr2⟩ : ∃ r2, (⟨r1, appT t.r.p (leafH r1.h), (applyP t.r.c (rsT l)).1⟩ : TipR) = r2 := ⟨_, rfl⟩
 have HR2 := hD hr2
 have HPU : Hid (pushK t.r r1 = (r2, 0)) := by show _ = _; rw [mine_push hp, hr2]
 have HAG : Hid (mineK t.r (rsT l) r1.h.nonce 1 = (r1, 0)) := mine_again hp
 have HL32 : Hid (r1.l.length ≤ 1000) := by show _ ≤ _; rw [hok.2.2.1]; have := linksK_len t.r; omega
 have HTL : Hid (r1.t = rsT l) := hok.2.2.2.1
 obtain ⟨hg, hhg⟩ : ∃ hg, IntKind.i64.wrap (t.b.h.height + 1) = hg := ⟨_, rfl⟩
 have HHG := hD hhg
 have HGT : Hid (r1.h.height = hg) := by show _ = _; rw [← hhg]; exact congrArg Hd.height hok.1
 have hms := mine_sum kt.o4 hok.2.2.2.2.2.1
 obtain ⟨s2, hs2⟩ : ∃ s2, sumP (applyP t.r.c (rsT l)).1 = s2 := ⟨_, rfl⟩
 obtain ⟨s1, hs1⟩ : ∃ s1, sumP t.c = s1 := ⟨_, rfl⟩
 have HS2 := hD hs2
 have HS1 := hD hs1
 have HS : Hid (s2 ≤ s1 + 50 ∧ 0 ≤ s1 ∧ s1 ≤ 52776558133248) := by rw [← hs1, ← hs2]; exact hms
 have HN6 : Hid (r1.h.nonce < 18446744073709551616) := hok.2.2.2.2.2.2
 have HOA : Hid (okP (applyP t.r.c (rsT l)).1 ∧ (applyP t.r.c (rsT l)).1.length ≤ 1000) := apply_len kt.o4 (fewP.mid k1).2.2.2.2 (rsT l) (d := (applyP t.r.c (rsT l)).1) (e := (applyP t.r.c (rsT l)).2) rfl
 clear ht H G GS kt hl hnc hcm hA hno hti k1 k2 k3 hp hok hr2 hhg hms hs2 hs1
 unfold tipV
 go_enter func4, ntmps4
 go_upto_region 1 with (fail)
 generalize w.alloc (.cells (tipA t) 37) = W at *
 have HMT := hD (fewP.mid HF1.out).1
 have HMX := hD (fewAll_mid HF2.out)
 refine rgQ [0,1] [] E1 rfl fun hw => ?_
 refine qc rfl func10 (fun u hu => HAW.out u (nl hu)) hw ?_
 refine qo rfl hw ?_
 refine enP fun u3 EX2 => ?_
 go_upto_region 2 with (fail)
 refine rgQ [0,1,2] [] EX2 rfl fun hw => ?_
 refine ql rfl mH HKt.out hw ?_
 refine qc (args := #[tipV t]) (v := .bool (true)) rfl func11 (fun u hu => by have h1 := fewtip_any t u (KT.out.up (EnvX.bel hu)); rwa [HF1.out] at h1) hw ?_
 refine qo rfl hw ?_
 refine enP fun u6 EX5 => ?_
 go_upto_region 3 with (fail)
 refine rgQ [0,1,2] [] EX5 rfl fun hw => ?_
 refine qo rfl hw ?_
 refine qc (args := #[.slice A n c, .int .i64 6]) (v := .bool (true)) rfl func24 (fun u hu => by have h1 := fewall_any l 6 A n c u HL.out HM63.out (HTI.out.up (EnvX.bel hu)); rwa [HF2.out] at h1) hw ?_
 refine qo rfl hw ?_
 refine enP fun u9 EX8 => ?_
 go_upto_region 4 with (fail)
 refine rgQ [0,1,2,3,4,5,6,7,8,9,10,11,12,13] [] EX8 rfl fun hw => ?_
 refine qw 12 hw ?_
 refine qv rfl (fun u hu => gtZ_op u C12.out rfl rfl) hw ?_
 refine qo rfl hw ?_
 refine enP fun u12 EX11 => ?_
 go_upto_region 6 with (fail)
 refine rgQ [0,1,2,3] [4,5,6,7,8,9,10] EX11 rfl fun hw => ?_
 refine ql rfl mH HKt.out hw ?_
 refine qw 3 hw ?_
 refine wpG_nil <| (hOp_turn (gd := none) (R := fun x M' => ∃ tq N, x = .tuple #[.agg (blkA tq), .int .i64 ((0 : Nat) : Int)] ∧ M' = N ++ [(w.heap.size, oc (tipA t) 37)] ∧ KeptB w N (IsBlk (r1) tq) ∧ ∃ vq, IsBlk (r1) tq vq) rfl rfl rfl rfl (fun u hu => OUpon_call (fid := 15) (xs := #[.tmp 39, .tmp 40, .tmp 41, .tmp 42]) (args := #[tipV t, .slice A n c, .int .u64 (nonce : Int), .int .i64 tries]) rfl func15 rfl rfl u (blk_turn (by have h := HH.out.mine t l A n c nonce tries u (KT.out.up (EnvX.bel hu)) HMT.out HL.out HNC.out.1 HNC.out.2 (HTI.out.up (EnvX.bel hu)) HMX.out HNO.out HTR.out (HT.out.below (EnvX.bel hu)); rw [HP1.out] at h; simp only at h; exact h) hu)) ?_)
 rintro _ _ ⟨b6, N6, rfl, rfl, hk6, hv6⟩ he14; intro K' hK'; go_big_quiet_op; go_big_quiet_on
 have HT6 := hD hk6
 have HV6 := hD hv6
 have HK6 : Hid (lenH b6.h) := by obtain ⟨v, hv⟩ := HV6.out; exact hv.2.h.len
 clear hk6 hv6
 refine phE [5,6,7] [8,9,10] he14 fun hw => ?_
 refine qw 3 hw ?_
 refine wpG_nil <| qn rfl (new_blk _) fun g6 HGg6 he16 => ?_
 change lexH _ _ _ _ _ _ ((g6, oc (blkA noBlkM) 33) :: (N6 ++ ((w.heap.size, oc (tipA t) 37) :: [])))
 refine (sh rfl HGg6 (infoBlk _ (blkA_size HK6.out)) (blk_sizes HK6.out) (blkA_one _) ?_)
 intro he17
 refine phE [10] [] he17 fun hw => ?_
 refine qo rfl hw ?_
 refine enP fun u20 EX19 => ?_
 go_upto_region 7 with (fail)
 refine rgQ [0,1] [] EX19 rfl fun hw => ?_
 refine qo rfl hw ?_
 refine qv (v := .bool false) rfl (fun u hu => neErr_op u (decide_eq_false (by omega)) rfl rfl) hw ?_
 refine enP fun u23 EX22 => ?_
 have HR6 : Hid (b6.r = r1) := by obtain ⟨v, hv⟩ := HV6.out; exact hv.1
 have HM6 : Hid (midBlk b6) := mid_blk HR6.out HL32.out HTL.out HMX.out
 have HH6 : Hid (b6.h = r1.h) := congrArg BlkR.h HR6.out
 go_upto_region 9 with (fail)
 refine rgQ [0,1] [2,3,4,5,6,7,8] EX22 rfl fun hw => ?_
 refine ql rfl (mT (mR mH)) HKt.out hw ?_
 refine ql rfl mH HK6.out hw ?_
 refine wpG_nil <| (hOp_turn (gd := none) (R := fun x M' => ∃ tq N, x = .tuple #[.agg (tipA tq), .int .i64 ((0 : Nat) : Int)] ∧ M' = N ++ ((g6, oc (blkA b6) 33) :: (N6 ++ ((w.heap.size, oc (tipA t) 37) :: []))) ∧ KeptB w N (IsTip (r2) tq) ∧ ∃ vq, IsTip (r2) tq vq) rfl rfl rfl rfl (fun u hu => OUpon_call (fid := 17) (xs := #[.tmp 52, .tmp 53]) (args := #[tipV t, blkV b6]) rfl func17 rfl rfl u (tip_turn (by have h := HH.out.push t b6 u (KT.out.up (EnvX.bel hu)) HMT.out (HT6.out u _ hu (fun y MEM => (mT (mL MEM)))).2 HM6.out (HT.out.below (EnvX.bel hu)); rw [HR6.out, HPU.out] at h; simp only at h; exact h) hu)) ?_)
 rintro _ _ ⟨u9, N9, rfl, rfl, hk9, hv9⟩ he25; intro K' hK'; go_big_quiet_op; go_big_quiet_on
 have HT9 := hD hk9
 have HV9 := hD hv9
 have HK9 : Hid (lenH u9.b.h) := by obtain ⟨v, hv⟩ := HV9.out; exact hv.2.b.h.len
 clear hk9 hv9
 refine phE [3,4,5] [6,7,8] he25 fun hw => ?_
 refine qw 3 hw ?_
 refine wpG_nil <| qn rfl (new_tip _) fun g9 HGg9 he27 => ?_
 change lexH _ _ _ _ _ _ ((g9, oc (tipA noTipM) 37) :: (N9 ++ ((g6, oc (blkA b6) 33) :: (N6 ++ ((w.heap.size, oc (tipA t) 37) :: [])))))
 refine (sh rfl HGg9 (infoTip _ (tipA_size HK9.out)) (tip_sizes HK9.out) (tipA_one _) ?_)
 intro he28
 refine phE [8] [] he28 fun hw => ?_
 refine qo rfl hw ?_
 refine enP fun u31 EX30 => ?_
 have HR9 : Hid (u9.r = r2) := by obtain ⟨v, hv⟩ := HV9.out; exact hv.1
 have HB9 : Hid (u9.b.r = b6.r) := by show _ = _; rw [HR6.out]; exact congrArg TipR.b (HR9.out.trans HR2.out.symm)
 have HM9 : Hid (midBlk u9.b) := mid_blk (HB9.out.trans HR6.out) HL32.out HTL.out HMX.out
 have HC9 : Hid (u9.c = (applyP t.r.c (rsT l)).1) := congrArg TipR.c (HR9.out.trans HR2.out.symm)
 have HQ9 : Hid (u9.b.h.height = hg) := by show _ = _; rw [show u9.b.h = r1.h from congrArg BlkR.h (HB9.out.trans HR6.out)]; exact HGT.out
 go_upto_region 10 with (fail)
 refine rgQ [0,1,2,3,4] [5,6,7,8,9,10,11] EX30 rfl fun hw => ?_
 refine ql rfl (mT (mR (mT (mR mH)))) HKt.out hw ?_
 refine qw 3 hw ?_
 refine qv (v := .int .u64 (r1.h.nonce : Int)) rfl (fun u hu => by rw [← HH6.out]; exact load_any_op u (loads_hd HK6.out (box_blk_hd hu (mT (mR mH)) HK6.out)).2.2.2.2.2.2.2.2 rfl) hw ?_
 refine wpG_nil <| (hOp_turn (gd := none) (R := fun x M' => ∃ tq N, x = .tuple #[.agg (blkA tq), .int .i64 ((0 : Nat) : Int)] ∧ M' = N ++ ((g9, oc (tipA u9) 37) :: (N9 ++ ((g6, oc (blkA b6) 33) :: (N6 ++ ((w.heap.size, oc (tipA t) 37) :: []))))) ∧ KeptB w N (IsBlk (r1) tq) ∧ ∃ vq, IsBlk (r1) tq vq) rfl rfl rfl rfl (fun u hu => OUpon_call (fid := 15) (xs := #[.tmp 58, .tmp 59, .tmp 62, .const (.int .i64 1)]) (args := #[tipV t, .slice A n c, .int .u64 (r1.h.nonce : Int), .int .i64 1]) rfl func15 rfl rfl u (blk_turn (by have h := HH.out.mine t l A n c r1.h.nonce 1 u (KT.out.up (EnvX.bel hu)) HMT.out HL.out HNC.out.1 HNC.out.2 (HTI.out.up (EnvX.bel hu)) HMX.out HN6.out (by unfold I64; omega) (HT.out.below (EnvX.bel hu)); rw [HAG.out] at h; simp only at h; exact h) hu)) ?_)
 rintro _ _ ⟨b16, N16, rfl, rfl, hk16, hv16⟩ he33; intro K' hK'; go_big_quiet_op; go_big_quiet_on
 have HT16 := hD hk16
 have HV16 := hD hv16
 have HK16 : Hid (lenH b16.h) := by obtain ⟨v, hv⟩ := HV16.out; exact hv.2.h.len
 clear hk16 hv16
 refine phE [6,7,8] [9,10,11] he33 fun hw => ?_
 refine qw 3 hw ?_
 refine wpG_nil <| qn rfl (new_blk _) fun g16 HGg16 he35 => ?_
 change lexH _ _ _ _ _ _ ((g16, oc (blkA noBlkM) 33) :: (N16 ++ ((g9, oc (tipA u9) 37) :: (N9 ++ ((g6, oc (blkA b6) 33) :: (N6 ++ ((w.heap.size, oc (tipA t) 37) :: [])))))))
 refine (sh rfl HGg16 (infoBlk _ (blkA_size HK16.out)) (blk_sizes HK16.out) (blkA_one _) ?_)
 intro he36
 refine phE [11] [] he36 fun hw => ?_
 refine qo rfl hw ?_
 refine enP fun u39 EX38 => ?_
 have HR16 : Hid (b16.r = b6.r) := by obtain ⟨v, hv⟩ := HV16.out; exact hv.1.trans HR6.out.symm
 have HM16 : Hid (midBlk b16) := mid_blk (HR16.out.trans HR6.out) HL32.out HTL.out HMX.out
 go_upto_region 11 with (fail)
 refine rgK [0,1,2,3,4,5,6,7,8,9,10,11,12,13,14,15,16,17,18,19,20,21,22,23,24,25,26,27,28,29,30,31,32,33,34,35,36,37,38,39] 0 EX38 rfl fun hw => ?_
 refine qo rfl hw ?_
 refine qv rfl (fun u hu => eqErr_op u (decide_eq_true rfl) rfl rfl) hw ?_
 refine qw 4 hw ?_
 refine qv rfl (fun u hu => load_any_op u (loads_hd HK9.out (box_tip_hd hu (mT (mR mH)) HK9.out)).2.1 rfl) hw ?_
 refine qw 3 hw ?_
 refine qv rfl (fun u hu => load_any_op u (loads_hd HKt.out (box_tip_hd hu (mT (mR (mT (mR (mT (mR mH)))))) HKt.out)).2.1 rfl) hw ?_
 refine qv rfl (fun u hu => addZ_op u HHG.out rfl rfl) hw ?_
 refine qv rfl (fun u hu => eqlI_op u (decide_eq_true HQ9.out) rfl rfl) hw ?_
 refine qw 3 hw ?_
 refine ql rfl (mT (mR mH)) HK9.out hw ?_
 refine ql rfl (mT (mR (mT (mR mH)))) HK6.out hw ?_
 refine qc (args := #[blkV u9.b, blkV b6]) (v := .bool true) rfl func21 (fun u hu => by have h := HH.out.same u9.b b6 u (HT9.out u _ hu (fun y MEM => (mT (mR (mT (mL MEM)))))).2.b HM9.out (HT6.out u _ hu (fun y MEM => (mT (mR (mT (mR (mT (mL MEM)))))))).2 HM6.out (HT.out.below (EnvX.bel hu)); rw [HB9.out, decide_eq_true rfl] at h; exact h) hw ?_
 refine qw 3 hw ?_
 refine qv rfl (fun u hu => eqErr_op u (decide_eq_true rfl) rfl rfl) hw ?_
 refine qw 2 hw ?_
 refine ql rfl mH HK16.out hw ?_
 refine ql rfl (mT (mR (mT (mR mH)))) HK6.out hw ?_
 refine qc (args := #[blkV b16, blkV b6]) (v := .bool true) rfl func21 (fun u hu => by have h := HH.out.same b16 b6 u (HT16.out u _ hu (fun y MEM => (mT (mL MEM)))).2 HM16.out (HT6.out u _ hu (fun y MEM => (mT (mR (mT (mR (mT (mL MEM)))))))).2 HM6.out (HT.out.below (EnvX.bel hu)); rw [HR16.out, decide_eq_true rfl] at h; exact h) hw ?_
 refine qw 3 hw ?_
 refine ql rfl (mT (mR mH)) HK9.out hw ?_
 refine qc (args := #[.slice u9.A4 u9.n4 u9.c4]) (v := .int .i64 s2) rfl func25 (fun u hu => by have k := (HT9.out u _ hu (fun y MEM => (mT (mR (mT (mL MEM)))))).2; have h := HGS.out.sum u9.c u9.A4 u9.n4 u9.c4 u k.l4 (by have h1 := HOA.out.2; have h2 := k.l4; rw [HC9.out] at h2; omega) k.b4.1 k.b4.2 k.o4 k.m4 (HT.out.below (EnvX.bel hu)); rw [HC9.out, HS2.out] at h; exact h) hw ?_
 refine qf rfl hw ?_
 refine ql rfl (mT (mR (mT (mR (mT (mR mH)))))) HKt.out hw ?_
 refine qc (args := #[.slice t.A4 t.n4 t.c4]) (v := .int .i64 s1) rfl func25 (fun u hu => by have k := KT.out.up (EnvX.bel hu); have h := HGS.out.sum t.c t.A4 t.n4 t.c4 u k.l4 (by have h1 := HMT.out.2.2; have h2 := k.l4; omega) k.b4.1 k.b4.2 k.o4 k.m4 (HT.out.below (EnvX.bel hu)); rw [HS1.out] at h; exact h) hw ?_
 refine qv (v := .int .i64 (s1 + 50)) rfl (fun u hu => addZ_op u (wrapS (by have := HS.out; omega)) rfl rfl) hw ?_
 refine qv rfl (fun u hu => leZ_op u (decide_eq_true HS.out.1) rfl rfl) hw ?_
 refine qw 2 hw ?_
 refine eH fun u42 EX41 => ?_
 have HBE := hD (EnvX.bel EX41.out)
 go_wp2
 go_ret
 exact ⟨rfl, HBE.out⟩
theorem law_bmines (H : BlockC) (G : AwkC) (GS : PSumC) (t : TipM) (l : List TxM) (A : Option Addr) (n c : Nat) (nonce : Nat) (tries : Int) (w : World) (kt : TipOk w t) (hl : l.length = n) (hnc : n ≤ c) (hcm : c ≤ maxLen) (hA : TxsIn w A l) (hno : nonce < 18446744073709551616) (hti : I64 tries) (ht : Tables w) :
  Rz 4 #[tipV t, .slice A n c, .int .u64 (nonce : Int), .int .i64 tries] w (.bool true) := by
 unfold Rz
 cases k1 : fewP t with
 | false => exact law_bmines_a H G GS t l A n c nonce tries w kt hl hnc hcm hA hno hti ht k1 rfl
 | true =>
  cases k2 : fewAll l 6 with
  | false => exact law_bmines_b H G GS t l A n c nonce tries w kt hl hnc hcm hA hno hti ht k1 k2
  | true =>
   by_cases k3 : 20 < tries
   · exact law_bmines_c H G GS t l A n c nonce tries w kt hl hnc hcm hA hno hti ht k1 k2 k3
   · rcases hp : mineK t.r (rsT l) nonce tries with ⟨r1, e1⟩
     cases e1 with
     | succ e1 => exact law_bmines_err H G GS t l A n c nonce tries w kt hl hnc hcm hA hno hti ht k1 k2 k3 hp
     | zero => exact law_bmines_main H G GS t l A n c nonce tries w kt hl hnc hcm hA hno hti ht k1 k2 k3 hp
end Go.Proofs.YtpanpohdnbgdpaaGreatDoor
namespace Go.Proofs.YtpanpohdnbgdpaaGreatDoor.blockMines
set_option maxRecDepth 8000
open Go.ChangeShapes Go.WideShapes Go.ChangeAt Go.RowKit
theorem contract (H : Type) (enc : TypeId × Value → H) (W : World) (base : Nat) (args : Array Value) (ds gs : List (DataW H)) (before : List MemPlace)
  (hval : ∀ (j : Nat) t v, Tryz.f4.params[j]? = some t → args[j]? = some v → Value.okWide Tryz.prog W .any base t v)
  (hW : DataW.Whole enc Tryz.prog Tryz.f4.params.toList Rows.blockMinesSpec.vars false W args.toList ds gs before) (hL : laidMetH Tryz.prog Rows.blockMinesRow.laid W) :
  Calls Tryz.prog 4 args W fun e W' => ∃ v, e = .returned v ∧ Rows.blockMinesSpec.post enc Tryz.prog Tryz.f4 false true false false W args v W' := by
 have hW' := hW
 obtain ⟨p, q, hA0, hV, rfl, hfz, hnd⟩ := hW
 have hA : DataW.TrodAll enc Tryz.prog W 0 (fun _ => true) true Tryz.f4.params.toList args.toList ds p := hA0
 rw [Tryz.params4] at hA hval
 obtain ⟨v0, vs0, d0, ds0, p0, q0, hargs, rfl, rfl, h0, r0⟩ := trodAll_cons hA
 obtain ⟨v1, vs1, d1, ds1, p1, q1, rfl, rfl, rfl, h1, r1⟩ := trodAll_cons r0
 obtain ⟨v2, vs2, d2, ds2, p2, q2, rfl, rfl, rfl, h2, r2⟩ := trodAll_cons r1
 obtain ⟨v3, vs3, d3, ds3, p3, q3, rfl, rfl, rfl, h3, r3⟩ := trodAll_cons r2
 obtain ⟨rfl, rfl, rfl⟩ := trodAll_nil r3
 obtain rfl : args = #[v0, v1, v2, v3] := by cases args; simp_all
 obtain ⟨rfl, rfl⟩ := trodVars_none hV
 have lt0 : ∀ x ∈ p0, x.block < W.heap.size := by obtain ⟨m, hm⟩ := h0; exact DataW.trod_lt m _ _ _ hm
 obtain ⟨x0, rfl, kx0⟩ := open_tip (hval 0 37 v0 rfl rfl) h0
 have lt1 : ∀ x ∈ p1, x.block < W.heap.size := by obtain ⟨m, hm⟩ := h1; exact DataW.trod_lt m _ _ _ hm
 obtain ⟨a1, n1, c1, x1, rfl, lx1, nc1, cm1, px1⟩ := open_txs (hval 1 31 v1 rfl rfl) h1
 obtain ⟨x2, rfl, rfl, rfl, wx2⟩ := open_int underlying24 (hval 2 24 v2 rfl rfl) h2
 obtain ⟨y2, rfl⟩ : ∃ n : Nat, x2 = (n : Int) := Int.eq_ofNat_of_zero_le (bounds_u64 wx2).1
 have b2 : y2 < 18446744073709551616 := by have := (bounds_u64 wx2).2; omega
 obtain ⟨x3, rfl, rfl, rfl, wx3⟩ := open_int underlying3 (hval 3 3 v3 rfl rfl) h3
 clear hA0
 refine (law_bmines blockC awkC psumC x0 x1 a1 n1 c1 y2 x3 W kx0 lx1 nc1 cm1 px1 b2 (bounds_i64 wx3) (tables_of_laid hL)).mono fun e W' ⟨he, bel⟩ => ?_
 subst he
 exact ⟨_, rfl, _, _, _, [], _, [], hW', trodAll_mk1 (shut_bool underlying4 _), (trodAll_cons_mk (Below.trod laidOut (by kernel_rfl) (of_decide_eq_true (by kernel_rfl)) h0 bel lt0) (trodAll_cons_mk (Below.trod laidOut (by kernel_rfl) (of_decide_eq_true (by kernel_rfl)) h1 bel lt1) (trodAll_cons_mk (shut_int underlying24 wx2) (trodAll_cons_mk (shut_int underlying3 wx3) trodAll_mk0)))), rfl, bel.frame _, fun h => by cases h⟩
def start : Array Value := #[zeroP, .slice none 0 0, .int .u64 0, .int .i64 0]
theorem reads (os : Os) {H : Type} (enc : TypeId × Value → H) : ∃ places, DataW.whole enc Tryz.prog ((laidWorld os).forCall (fun _ _ => 0) ⟨#[], start, []⟩).memory Tryz.f4.params.toList Rows.blockMinesSpec.vars false start.toList 8 = some ([zeroPD, .nil, .lit (.int .u64 0), .lit (.int .i64 0)], [], places) :=
 ⟨[], by kernel_rfl⟩
theorem lifted (os : Os) (started : os.Started) (H : Type) (enc : TypeId × Value → H) (F : Stop.Interp) :
  ReturnsInHanded {} Tryz.checked os 4 .any ((OpenSpec.ofChange Rows.blockMinesSpec).preRow enc Tryz.prog Tryz.f4 Rows.blockMinesRow.domain false Rows.blockMinesRow.laid) (((OpenSpec.ofChange Rows.blockMinesSpec).at F).post enc Tryz.prog Tryz.f4 false true false false) := by
 obtain ⟨places, hx⟩ := reads os enc
 refine returnsInHanded_of_row (C := Tryz.checked) (s := OpenSpec.ofChange Rows.blockMinesSpec) own started (by kernel_rfl) func4
  (witness_row_at (enc := enc) (C := Tryz.checked) false (laidWorld os) start rfl (by kernel_rfl) (by kernel_rfl) (by kernel_rfl)
   (OpenSpec.preRow_of_cond 8 hx (by kernel_rfl) (fun k hk => by cases hk) (by kernel_rfl) (laidMet_of_run' 8 (by kernel_rfl) (by kernel_rfl)))) ?_
 intro W base args ds gs before hval hW _ _ _ hL _ _
 exact contract H enc W base args ds gs before hval hW hL
theorem said : Rows.BlockMinesSaid :=
 OpenClaim.holds_of_cond 4 Tryz.f4 rfl rfl rfl rfl rfl rfl rfl ⟨rfl, rfl, rfl, rfl, rfl⟩ rfl rfl rfl rfl rfl (by kernel_rfl) func4 (by kernel_rfl)
  (of_decide_eq_true (by kernel_rfl)) (by unfold Func.isWrapper; first | (rw [if_pos (by decide +kernel)]; kernel_rfl) | (rw [if_neg (by decide +kernel)]; exact ⟨rfl, rfl⟩))
  (fun os started H enc _ F => by rw [OpenClaim.pre_eq_preRow]; exact lifted os started H enc F)
theorem plain (f : FuncId) (fn : Func) (hf : Tryz.pinned.checked.prog.funcNamed "stepladder/stepladderlaw11.BlockMines" = some f) (hfn : Tryz.pinned.checked.prog.funcs[f]? = some fn) :
   false = Tryz.pinned.checked.prog.looks [] ∧ ∀ (j : Nat) t, fn.params[j]? = some t → Tryz.pinned.checked.prog.wantsStandIn t = false := by
 obtain rfl : f = 4 := Option.some.inj ((show Tryz.prog.funcNamed "stepladder/stepladderlaw11.BlockMines" = some 4 by kernel_rfl).symm.trans hf) |>.symm
 obtain rfl : fn = Tryz.f4 := (Option.some.inj (func4.symm.trans hfn)).symm
 refine ⟨by kernel_rfl, fun j t ht => ?_⟩
 rw [Tryz.params4] at ht
 have hm : t = 37 ∨ t = 31 ∨ t = 24 ∨ t = 3 := by simpa using Array.mem_of_getElem? ht
 rcases hm with rfl | rfl | rfl | rfl
 · exact (show Tryz.prog.wantsStandIn 37 = false by kernel_rfl)
 · exact (show Tryz.prog.wantsStandIn 31 = false by kernel_rfl)
 · exact (show Tryz.prog.wantsStandIn 24 = false by kernel_rfl)
 · exact (show Tryz.prog.wantsStandIn 3 = false by kernel_rfl)
theorem card : Rows.BlockMinesCardSaid :=
 Claim7.holds_tied_plain_at .later [] _ _ _ _ said (fun _ h => by cases h) (by kernel_rfl) (fun _ h => by cases h) blockMines_row_tie rfl ⟨rfl, rfl⟩ (by kernel_rfl) rfl plain (by kernel_rfl)
end Go.Proofs.YtpanpohdnbgdpaaGreatDoor.blockMines
