/-
PROVED: the law stepladderlaw11.BlockPushes answers true for every input, and leaves its arguments as they were.
Conditions: the two package-level tables of package sha hold at the call what their initialisers lay; the card ties that to the text of the program.
-/
import Derived.Test.YtpanpohdnbgdpaaGreatDoorZj
import Derived.Laws.StructEq
open Go.Proofs.Tryz
namespace Go.Proofs.YtpanpohdnbgdpaaGreatDoor
set_option maxRecDepth 20000
set_option maxHeartbeats 8000000
set_option linter.unusedVariables false
set_option linter.unusedSimpArgs false
set_option linter.unusedSectionVars false
open Go.RowKit
theorem rids_any (l q : List (List Int)) (A A' : Option Addr) (n c m c' : Nat) (w : World) (hl : l.length = n) (hq : q.length = m) (hn : n ≤ 1000000) (hm : m ≤ 1000000) (hnc : n ≤ c) (hc : c ≤ maxLen) (hmc : m ≤ c') (hc' : c' ≤ maxLen) (hI : isIds l) (hJ : isIds q) (hA : IdsIn w w.heap.size A l) (hB : IdsIn w w.heap.size A' q) :
   Rz 53 #[.slice A n c, .slice A' m c'] w (.bool (decide (l = q))) := by
 unfold Rz
 unfold maxLen at hc hc'
 have HL := hD hl
 have HQ := hD hq
 have HI := hD (And.intro hI hA)
 have HJ := hD (And.intro hJ hB)
 clear hI hA hJ hB hl hq
 by_cases hnm : n = m
 · subst hnm
   go_enter func53, ntmps53
   go_upto_region 4 with (fail)
   go_loopw [5] (fun i u => ∃ k : Nat, k ≤ n ∧ i = .int .i64 k ∧ Below w.heap.size w u ∧ Hid (l.take k = q.take k)) (fun i _ => n - (intOf i).toNat)
   case atStart => exact ⟨0, by omega, rfl, Below.refl _ _, rfl⟩
   case round =>
    obtain ⟨k, hk, rfl, hbl, hsame⟩ := hrel
    by_cases hlt : k < n
    · have hk2 : (k : Int) < (n : Int) := by omega
      obtain ⟨a1, rfl, h1⟩ := HI.out.2.loads HI.out.1 (k := k) (by rw [HL.out]; exact hlt)
      obtain ⟨a2, rfl, h2⟩ := HJ.out.2.loads HJ.out.1 (k := k) (by rw [HQ.out]; exact hlt)
      have H1 := hD h1
      have H2 := hD h2
      have E1 : Hid (EnvX w wr []) := ⟨hbl, fun _ _ h => by cases h⟩
      have HX := hD (HI.out.1.get (i := k) (by rw [HL.out]; exact hlt))
      have HY := hD (HJ.out.1.get (i := k) (by rw [HQ.out]; exact hlt))
      have HST := hD (ids_step hsame.out (by rw [HL.out]; exact hlt) (by rw [HQ.out]; exact hlt))
      have HNE : Hid (l.getD k [] ≠ q.getD k [] → l ≠ q) := fun h e => h (by rw [e])
      clear h1 h2 hsame hbl
      generalize l.getD k [] = x at *
      generalize q.getD k [] = y at *
      go_upto_region 6 with (fail)
      refine rgK [0,1,2,3,4,5,6,7,8] 0 E1 rfl fun hw => ?_
      refine qw 3 hw ?_
      refine qv rfl (fun u hu => load_run_op u (H1.out u hu) rfl) hw ?_
      refine qw 3 hw ?_
      refine qv rfl (fun u hu => load_run_op u (H2.out u hu) rfl) hw ?_
      refine qv rfl (fun u hu => neq_id_op HX.out.1 HY.out.1 u rfl rfl) hw ?_
      refine eH fun u3 EX2 => ?_
      by_cases hxy : x = y
      · have hb : eqL x y = true := by simp [eqL, hxy]
        rw [hb]
        go_wp2
        go_roundw
        case rel => exact ⟨k + 1, by omega, by go_num, EX2.out.bel, HST.out hxy⟩
        case measure => simp [intOf]; omega
      · have hb : eqL x y = false := by simp [eqL, hxy]
        have HR : Hid (decide (l = q) = false) := by
         show _ = _
         simp [HNE.out hxy]
        rw [hb]
        go_wp2
        go_ret
        exact ⟨by rw [HR.out]; rfl, EX2.out.bel⟩
    · obtain rfl : k = n := by omega
      have HR : Hid (decide (l = q) = true) := by
        have h := hsame.out
        rw [tL (by rw [HL.out]; exact Nat.le_refl _), tL (by rw [HQ.out]; exact Nat.le_refl _)] at h
        show _ = _
        simp [h]
      clear hsame
      go_wp2
      go_ret
      exact ⟨by rw [HR.out]; rfl, hbl⟩
 · have hne : ¬ (n : Int) = (m : Int) := by omega
   have HR : Hid (decide (l = q) = false) := by
    show _ = _
    have : l ≠ q := fun e => hnm (by rw [← HL.out, ← HQ.out, e])
    simp [this]
   go_enter func53, ntmps53
   go_wp2
   go_ret
   exact ⟨by rw [HR.out]; rfl, Below.refl _ _⟩
theorem fieldsTot : (prog.fieldsOf 56).toList.map (fun f => (f.name == "_", f.type, f.offset)) = [(false, 23, 0), (false, 26, 32), (false, 3, 36)] := by kernel_rfl
def eqT (a b : Tot) : Bool := decide (a = b)
theorem run_equal_tot (a b : Tot) (ha : okT a) (hb : okT b) (w : World) : (Op.equal 56 (totV a) (totV b)).run prog w = .ok (eqT a b) w := by
 unfold Op.equal totV
 have h := run_equalIn_struct (P := prog) w 9999 56 (totA a) (totA b) (by kernel_rfl) (by kernel_rfl)
 refine Eq.trans h ?_
 have hf := fieldsTot
 generalize (prog.fieldsOf 56).toList = fs at hf ⊢
 have hl : fs.length = 3 := by simpa using congrArg List.length hf
 obtain ⟨f1, f2, f3, rfl⟩ : ∃ f1 f2 f3, fs = [f1, f2, f3] := by
  match fs, hl with
  | [a, b, c], _ => exact ⟨a, b, c, rfl⟩
 simp only [List.map_cons, List.map_nil, List.cons.injEq, Prod.mk.injEq, beq_eq_false_iff_ne, and_true] at hf
 obtain ⟨⟨n1, t1, o1⟩, ⟨n2, t2, o2⟩, n3, t3, o3⟩ := hf
 have pH : ∀ t : Tot, len32 t → (part 23 (totA t) 0).run prog w = .ok (.agg (arrB 32 t.h)) w := fun t ht => run_part_agg aggIdT (by have := ext_list (totC_H ht); rwa [Array.toArray_toList] at this) w
 have pW : ∀ t : Tot, len32 t → (part 26 (totA t) 32).run prog w = .ok (.agg (wcs t.w)) w := fun t ht => run_part_agg aggWd (by have := ext_list (totC_W ht); rwa [Array.toArray_toList] at this) w
 have pN : ∀ t : Tot, len32 t → (part 3 (totA t) 36).run prog w = .ok (.int .i64 t.n) w := fun t ht => run_part_plain (P := prog) w (by kernel_rfl) (totC_N ht)
 have e1 := run_equalIn_id 9997 a.h b.h ha.1.1 hb.1.1 w
 have e2 := run_equalIn_wide 9997 a.w b.w ha.2.1 hb.2.1 w
 have e3 := run_equalIn_int (P := prog) w 9998 3 .i64 .i64 a.n b.n underlying3
 have hd : eqT a b = (eqL a.h b.h && (eqN a.w b.w && (a.n == b.n))) := by
  unfold eqT eqL eqN
  rw [Bool.eq_iff_iff]
  simp only [decide_eq_true_eq, Bool.and_eq_true, beq_iff_eq]
  exact ⟨fun h => by subst h; exact ⟨rfl, rfl, rfl⟩, fun h => Tot.ext' h.1 h.2.1 h.2.2⟩
 rw [hd]
 rw [eqFields_step (a := .agg (arrB 32 a.h)) (b := .agg (arrB 32 b.h)) n1 (by rw [t1, o1]; exact pH a ha.len) (by rw [t1, o1]; exact pH b hb.len) (by rw [t1]; exact e1)]
 cases eqL a.h b.h with
 | false => rfl
 | true =>
  rw [if_pos rfl, eqFields_step (a := .agg (wcs a.w)) (b := .agg (wcs b.w)) n2 (by rw [t2, o2]; exact pW a ha.len) (by rw [t2, o2]; exact pW b hb.len) (by rw [t2]; exact e2)]
  cases eqN a.w b.w with
  | false => rfl
  | true =>
   rw [if_pos rfl, eqFields_step (a := .int .i64 a.n) (b := .int .i64 b.n) n3 (by rw [t3, o3]; exact pN a ha.len) (by rw [t3, o3]; exact pN b hb.len) (by rw [t3]; exact e3)]
   cases hab : (a.n == b.n) with
   | false => rfl
   | true => rfl
theorem same_no {r s : TxR} (h : r ≠ s) : sameX r s = false := decide_eq_false h
theorem getD_ext {α : Type} {a b : List α} {d : α} (hl : a.length = b.length) (h : ∀ i, i < a.length → a.getD i d = b.getD i d) : a = b := by
 refine List.ext_getElem hl fun i h1 h2 => ?_
 have := h i h1
 rwa [gD, gE h1, gD, gE h2] at this
theorem same_yes {r s : TxR} (h1 : r.ins.length = s.ins.length) (h2 : r.outs.length = s.outs.length) (h3 : ∀ i, i < r.ins.length → r.ins.getD i noIn = s.ins.getD i noIn) (h4 : ∀ i, i < r.outs.length → r.outs.getD i noOut = s.outs.getD i noOut) : sameX r s = true := by
 refine decide_eq_true ?_
 cases r
 cases s
 rw [TxR.mk.injEq]
 exact ⟨getD_ext h1 h3, getD_ext h2 h4⟩
theorem rsameX_any (r : TxR) (A1 : Option Addr) (n1 c1 : Nat) (A2 : Option Addr) (n2 c2 : Nat) (s : TxR) (B1 : Option Addr) (m1 d1 : Nat) (B2 : Option Addr) (m2 d2 : Nat) (w : World) (ht : TxOk w ⟨r, A1, n1, c1, A2, n2, c2⟩) (hs : TxOk w ⟨s, B1, m1, d1, B2, m2, d2⟩) :
  Rz 109 #[txV ⟨r, A1, n1, c1, A2, n2, c2⟩, txV ⟨s, B1, m1, d1, B2, m2, d2⟩] w (.bool (sameX r s)) := by
 unfold Rz
 have HT := hD ht
 have HS := hD hs
 have HN := hD ht.n63
 have HM := hD hs.n63
 obtain ⟨hn1, hn2⟩ := ht.n63
 have HL : Hid (r.ins.length = n1 ∧ r.outs.length = n2) := ⟨ht.l1, ht.l2⟩
 have HK : Hid (s.ins.length = m1 ∧ s.outs.length = m2) := ⟨hs.l1, hs.l2⟩
 have E1 : Hid (EnvX w ((w.alloc (.cells (txA ⟨r, A1, n1, c1, A2, n2, c2⟩) 95)).alloc (.cells (txA ⟨s, B1, m1, d1, B2, m2, d2⟩) 95)) [(w.heap.size + 1, oc (txA ⟨s, B1, m1, d1, B2, m2, d2⟩) 95), (w.heap.size, oc (txA ⟨r, A1, n1, c1, A2, n2, c2⟩) 95)]) := (EnvX.start w).two _ _
 clear ht hs
 unfold txV
 go_enter func109, ntmps109
 go_upto_region 1 with (fail)
 generalize (w.alloc (.cells (txA ⟨r, A1, n1, c1, A2, n2, c2⟩) 95)).alloc (.cells (txA ⟨s, B1, m1, d1, B2, m2, d2⟩) 95) = W at *
 by_cases d6 : n1 = m1
 case neg =>
  have D6 : Hid (decide ((n1 : Int) ≠ (m1 : Int)) = true) := decide_eq_true (by omega)
  have HF : Hid (sameX r s = false) := same_no fun e => d6 (by rw [← HL.out.1, ← HK.out.1, e])
  clear d6
  go_upto_region 1 with (fail)
  refine rgQ [0,1,2,3,4,5,6,7,8,9,10,11,12,13,14,15] [] E1 rfl fun hw => ?_
  refine qo rfl hw ?_
  refine ql rfl (mT mH) trivial hw ?_
  refine qv rfl (fun u hu => len_op underlying92 HN.out.1 u rfl) hw ?_
  refine qo rfl hw ?_
  refine ql rfl mH trivial hw ?_
  refine qv rfl (fun u hu => len_op underlying92 HM.out.1 u rfl) hw ?_
  refine qv rfl (fun u hu => neZ_op u D6.out rfl rfl) hw ?_
  refine qw 9 hw ?_
  refine enP fun u3 EX2 => ?_
  have HBE := hD (EX2.out.bel)
  go_wp2
  go_ret
  exact ⟨by rw [HF.out]; try rfl, HBE.out⟩
 have D6 : Hid (decide ((n1 : Int) ≠ (m1 : Int)) = false) := decide_eq_false (by omega)
 by_cases d14 : n2 = m2
 case neg =>
  have D14 : Hid (decide ((n2 : Int) ≠ (m2 : Int)) = true) := decide_eq_true (by omega)
  have HF : Hid (sameX r s = false) := same_no fun e => d14 (by rw [← HL.out.2, ← HK.out.2, e])
  clear d6 d14
  go_upto_region 1 with (fail)
  refine rgQ [0,1,2,3,4,5,6,7,8,9,10,11,12,13,14,15] [] E1 rfl fun hw => ?_
  refine qo rfl hw ?_
  refine ql rfl (mT mH) trivial hw ?_
  refine qv rfl (fun u hu => len_op underlying92 HN.out.1 u rfl) hw ?_
  refine qo rfl hw ?_
  refine ql rfl mH trivial hw ?_
  refine qv rfl (fun u hu => len_op underlying92 HM.out.1 u rfl) hw ?_
  refine qv rfl (fun u hu => neZ_op u D6.out rfl rfl) hw ?_
  refine qw 2 hw ?_
  refine ql rfl (mT mH) trivial hw ?_
  refine qv rfl (fun u hu => len_op underlying93 HN.out.2 u rfl) hw ?_
  refine qo rfl hw ?_
  refine ql rfl mH trivial hw ?_
  refine qv rfl (fun u hu => len_op underlying93 HM.out.2 u rfl) hw ?_
  refine qv rfl (fun u hu => neZ_op u D14.out rfl rfl) hw ?_
  refine qo rfl hw ?_
  refine enP fun u3 EX2 => ?_
  have HBE := hD (EX2.out.bel)
  go_wp2
  go_ret
  exact ⟨by rw [HF.out]; try rfl, HBE.out⟩
 have D14 : Hid (decide ((n2 : Int) ≠ (m2 : Int)) = false) := decide_eq_false (by omega)
 subst d6
 subst d14
 refine rgQ [0,1,2,3,4,5,6,7,8,9,10,11,12,13,14,15] [] E1 rfl fun hw => ?_
 refine qo rfl hw ?_
 refine ql rfl (mT mH) trivial hw ?_
 refine qv rfl (fun u hu => len_op underlying92 HN.out.1 u rfl) hw ?_
 refine qo rfl hw ?_
 refine ql rfl mH trivial hw ?_
 refine qv rfl (fun u hu => len_op underlying92 HM.out.1 u rfl) hw ?_
 refine qv rfl (fun u hu => neZ_op u D6.out rfl rfl) hw ?_
 refine qw 2 hw ?_
 refine ql rfl (mT mH) trivial hw ?_
 refine qv rfl (fun u hu => len_op underlying93 HN.out.2 u rfl) hw ?_
 refine qo rfl hw ?_
 refine ql rfl mH trivial hw ?_
 refine qv rfl (fun u hu => len_op underlying93 HM.out.2 u rfl) hw ?_
 refine qv rfl (fun u hu => neZ_op u D14.out rfl rfl) hw ?_
 refine qo rfl hw ?_
 refine enP fun u3 EX2 => ?_
 have EJ := hD EX2.out
 clear EX2 E1
 go_upto_region 4 with (fail)
 go_loopw [5] (fun iv u => ∃ i : Nat, i ≤ n1 ∧ iv = .int .i64 (i : Int) ∧ Hid ((∀ j, j < i → r.ins.getD j noIn = s.ins.getD j noIn) ∧ EnvX w u [(w.heap.size + 1, oc (txA ⟨s, B1, n1, d1, B2, n2, d2⟩) 95), (w.heap.size, oc (txA ⟨r, A1, n1, c1, A2, n2, c2⟩) 95)])) (fun iv _ => n1 - (intOf iv).toNat)
 case atStart => exact ⟨0, by omega, rfl, (fun j hj => by omega), EJ.out⟩
 case round =>
  obtain ⟨i, hi, rfl, hinv⟩ := hrel
  have H1 := hD hinv.out.1
  have EK := hD hinv.out.2
  clear hinv EJ
  by_cases hlt : i < n1
  · have C4 : Hid (decide ((i : Int) < (n1 : Int)) = true) := decide_eq_true (by omega)
    have HI := hD hlt
    have hil : i < r.ins.length := by rw [HL.out.1]; exact hlt
    have hjl : i < s.ins.length := by rw [HK.out.1]; exact hlt
    obtain ⟨ad, rfl, -, hld⟩ := HT.out.m1.loads HT.out.o1 hil
    obtain ⟨ad2, rfl, -, hld2⟩ := HS.out.m1.loads HS.out.o1 hjl
    have HLD := hD hld
    have HLD2 := hD hld2
    have HX : Hid (lenI (r.ins.getD i noIn)) := (HT.out.o1.get hil).len
    have HY : Hid (lenI (s.ins.getD i noIn)) := (HS.out.o1.get hjl).len
    clear hld hld2 hil hjl
    go_upto_region 4 with (fail)
    refine rgQ [0,1,2,3,4] [] EK rfl fun hw => ?_
    refine qw 2 hw ?_
    refine ql rfl (mT mH) trivial hw ?_
    refine qv rfl (fun u hu => len_op underlying92 HN.out.1 u rfl) hw ?_
    refine qv rfl (fun u hu => ltZ_op u C4.out rfl rfl) hw ?_
    refine enP fun u23 EX22 => ?_
    by_cases he : r.ins.getD i noIn = s.ins.getD i noIn
    case neg =>
     have HEQ : Hid ((!eqI (r.ins.getD i noIn) (s.ins.getD i noIn)) = true) := by show _ = _; unfold eqI; rw [decide_eq_false he]; rfl
     have HF : Hid (sameX r s = false) := same_no fun e => he (by rw [e])
     clear he
     go_upto_region 6 with (fail)
     refine rgK [0,1,2,3,4,5,6,7,8,9,10] 0 EX22 rfl fun hw => ?_
     refine qo rfl hw ?_
     refine ql rfl (mT mH) trivial hw ?_
     refine qo rfl hw ?_
     refine qv rfl (fun u hu => idxSl_op underlying92 aggIn.size HI.out u rfl rfl) hw ?_
     refine qv rfl (fun u hu => load_any_op u (HLD.out u (nl hu)).1 rfl) hw ?_
     refine qo rfl hw ?_
     refine ql rfl mH trivial hw ?_
     refine qo rfl hw ?_
     refine qv rfl (fun u hu => idxSl_op underlying92 aggIn.size HI.out u rfl rfl) hw ?_
     refine qv rfl (fun u hu => load_any_op u (HLD2.out u (nl hu)).1 rfl) hw ?_
     refine qv rfl (fun u hu => neqIn_op HX.out HY.out HEQ.out u rfl rfl) hw ?_
     refine eH fun u26 EX25 => ?_
     have HBE := hD (EX25.out.bel)
     go_wp2
     go_ret
     exact ⟨by rw [HF.out]; try rfl, HBE.out⟩
    case pos =>
     have HEQ : Hid ((!eqI (r.ins.getD i noIn) (s.ins.getD i noIn)) = false) := by show _ = _; unfold eqI; rw [decide_eq_true he]; rfl
     have H2 : Hid (∀ j, j < i + 1 → r.ins.getD j noIn = s.ins.getD j noIn) := fun j hj => by
       rcases Nat.lt_or_ge j i with h | h
       · exact H1.out j h
       · rw [show j = i by omega]; exact he
     clear he
     go_upto_region 6 with (fail)
     refine rgK [0,1,2,3,4,5,6,7,8,9,10] 0 EX22 rfl fun hw => ?_
     refine qo rfl hw ?_
     refine ql rfl (mT mH) trivial hw ?_
     refine qo rfl hw ?_
     refine qv rfl (fun u hu => idxSl_op underlying92 aggIn.size HI.out u rfl rfl) hw ?_
     refine qv rfl (fun u hu => load_any_op u (HLD.out u (nl hu)).1 rfl) hw ?_
     refine qo rfl hw ?_
     refine ql rfl mH trivial hw ?_
     refine qo rfl hw ?_
     refine qv rfl (fun u hu => idxSl_op underlying92 aggIn.size HI.out u rfl rfl) hw ?_
     refine qv rfl (fun u hu => load_any_op u (HLD2.out u (nl hu)).1 rfl) hw ?_
     refine qv rfl (fun u hu => neqIn_op HX.out HY.out HEQ.out u rfl rfl) hw ?_
     refine eH fun u26 EX25 => ?_
     go_wp2
     go_roundw
     case rel => exact ⟨i + 1, by omega, by go_num, H2.out, EX25.out⟩
     case measure => simp [intOf]; omega
  · obtain rfl : i = n1 := by omega
    have C4 : Hid (decide ((i : Int) < (i : Int)) = false) := decide_eq_false (by omega)
    go_upto_region 4 with (fail)
    refine rgQ [0,1,2,3,4] [] EK rfl fun hw => ?_
    refine qw 2 hw ?_
    refine ql rfl (mT mH) trivial hw ?_
    refine qv rfl (fun u hu => len_op underlying92 HN.out.1 u rfl) hw ?_
    refine qv rfl (fun u hu => ltZ_op u C4.out rfl rfl) hw ?_
    refine enP fun u123 EX122 => ?_
    have EM := hD EX122.out
    clear EX122 EK
    go_upto_region 9 with (fail)
    go_loopw [6] (fun iv u => ∃ k : Nat, k ≤ n2 ∧ iv = .int .i64 (k : Int) ∧ Hid ((∀ j, j < k → r.outs.getD j noOut = s.outs.getD j noOut) ∧ EnvX w u [(w.heap.size + 1, oc (txA ⟨s, B1, i, d1, B2, n2, d2⟩) 95), (w.heap.size, oc (txA ⟨r, A1, i, c1, A2, n2, c2⟩) 95)])) (fun iv _ => n2 - (intOf iv).toNat)
    case atStart => exact ⟨0, by omega, rfl, (fun j hj => by omega), EM.out⟩
    case round =>
     obtain ⟨k, hk, rfl, hinv2⟩ := hrel
     have H3 := hD hinv2.out.1
     have EN := hD hinv2.out.2
     clear hinv2 EM
     by_cases hlk : k < n2
     · have C9 : Hid (decide ((k : Int) < (n2 : Int)) = true) := decide_eq_true (by omega)
       have HKK := hD hlk
       have hil : k < r.outs.length := by rw [HL.out.2]; exact hlk
       have hjl : k < s.outs.length := by rw [HK.out.2]; exact hlk
       obtain ⟨ad, rfl, -, hld⟩ := HT.out.m2.loads hil
       obtain ⟨ad2, rfl, -, hld2⟩ := HS.out.m2.loads hjl
       have HLD := hD hld
       have HLD2 := hD hld2
       clear hld hld2 hil hjl
       go_upto_region 9 with (fail)
       refine rgQ [0,1,2,3,4] [] EN rfl fun hw => ?_
       refine qw 2 hw ?_
       refine ql rfl (mT mH) trivial hw ?_
       refine qv rfl (fun u hu => len_op underlying93 HN.out.2 u rfl) hw ?_
       refine qv rfl (fun u hu => ltZ_op u C9.out rfl rfl) hw ?_
       refine enP fun u223 EX222 => ?_
       by_cases he : r.outs.getD k noOut = s.outs.getD k noOut
       case neg =>
         have HEQ : Hid ((!eqO (r.outs.getD k noOut) (s.outs.getD k noOut)) = true) := by show _ = _; unfold eqO; rw [decide_eq_false he]; rfl
         have HF : Hid (sameX r s = false) := same_no fun e => he (by rw [e])
         clear he
         go_upto_region 11 with (fail)
         refine rgK [0,1,2,3,4,5,6,7,8,9,10] 0 EX222 rfl fun hw => ?_
         refine qo rfl hw ?_
         refine ql rfl (mT mH) trivial hw ?_
         refine qo rfl hw ?_
         refine qv rfl (fun u hu => idxSl_op underlying93 aggOut.size HKK.out u rfl rfl) hw ?_
         refine qv rfl (fun u hu => load_any_op u (HLD.out u (nl hu)).1 rfl) hw ?_
         refine qo rfl hw ?_
         refine ql rfl mH trivial hw ?_
         refine qo rfl hw ?_
         refine qv rfl (fun u hu => idxSl_op underlying93 aggOut.size HKK.out u rfl rfl) hw ?_
         refine qv rfl (fun u hu => load_any_op u (HLD2.out u (nl hu)).1 rfl) hw ?_
         refine qv rfl (fun u hu => neqOut_op HEQ.out u rfl rfl) hw ?_
         refine eH fun u226 EX225 => ?_
         have HBE := hD (EX225.out.bel)
         go_wp2
         go_ret
         exact ⟨by rw [HF.out]; try rfl, HBE.out⟩
       case pos =>
         have HEQ : Hid ((!eqO (r.outs.getD k noOut) (s.outs.getD k noOut)) = false) := by show _ = _; unfold eqO; rw [decide_eq_true he]; rfl
         have H2 : Hid (∀ j, j < k + 1 → r.outs.getD j noOut = s.outs.getD j noOut) := fun j hj => by
          rcases Nat.lt_or_ge j k with h | h
          · exact H3.out j h
          · rw [show j = k by omega]; exact he
         clear he
         go_upto_region 11 with (fail)
         refine rgK [0,1,2,3,4,5,6,7,8,9,10] 0 EX222 rfl fun hw => ?_
         refine qo rfl hw ?_
         refine ql rfl (mT mH) trivial hw ?_
         refine qo rfl hw ?_
         refine qv rfl (fun u hu => idxSl_op underlying93 aggOut.size HKK.out u rfl rfl) hw ?_
         refine qv rfl (fun u hu => load_any_op u (HLD.out u (nl hu)).1 rfl) hw ?_
         refine qo rfl hw ?_
         refine ql rfl mH trivial hw ?_
         refine qo rfl hw ?_
         refine qv rfl (fun u hu => idxSl_op underlying93 aggOut.size HKK.out u rfl rfl) hw ?_
         refine qv rfl (fun u hu => load_any_op u (HLD2.out u (nl hu)).1 rfl) hw ?_
         refine qv rfl (fun u hu => neqOut_op HEQ.out u rfl rfl) hw ?_
         refine eH fun u226 EX225 => ?_
         go_wp2
         go_roundw
         case rel => exact ⟨k + 1, by omega, by go_num, H2.out, EX225.out⟩
         case measure => simp [intOf]; omega
     · obtain rfl : k = n2 := by omega
       have C9 : Hid (decide ((k : Int) < (k : Int)) = false) := decide_eq_false (by omega)
       have HF : Hid (sameX r s = true) := same_yes (by rw [HL.out.1, HK.out.1]) (by rw [HL.out.2, HK.out.2]) (fun q hq => H1.out q (by rw [← HL.out.1]; exact hq)) (fun q hq => H3.out q (by rw [← HL.out.2]; exact hq))
       go_upto_region 9 with (fail)
       refine rgQ [0,1,2,3,4] [] EN rfl fun hw => ?_
       refine qw 2 hw ?_
       refine ql rfl (mT mH) trivial hw ?_
       refine qv rfl (fun u hu => len_op underlying93 HN.out.2 u rfl) hw ?_
       refine qv rfl (fun u hu => ltZ_op u C9.out rfl rfl) hw ?_
       refine enP fun u323 EX322 => ?_
       have HBE := hD (EX322.out.bel)
       go_wp2
       go_ret
       exact ⟨by rw [HF.out]; try rfl, HBE.out⟩
def leadsT (l : List (List Int)) (prev id : List Int) : Bool := decide (prev = id ∨ id ∈ l)
def samePu (a b : List CoinR) : Bool := decide (a = b)
theorem fieldsCo : (prog.fieldsOf 104).toList.map (fun f => (f.name == "_", f.type, f.offset)) = [(false, 100, 0), (false, 102, 33)] := by kernel_rfl
def eqC (a b : CoinR) : Bool := decide (a = b)
theorem run_equalIn_in (d : Nat) (a b : InR) (ha : lenI a) (hb : lenI b) (w : World) : (Op.equalIn (d + 4) 100 (inV a) (inV b)).run prog w = .ok (eqI a b) w := by
 unfold inV
 have h := run_equalIn_struct (P := prog) w (d + 3) 100 (inA a) (inA b) (by kernel_rfl) (by kernel_rfl)
 refine Eq.trans h ?_
 have hf := fieldsIn
 generalize (prog.fieldsOf 100).toList = fs at hf ⊢
 have hl : fs.length = 2 := by simpa using congrArg List.length hf
 obtain ⟨f1, f2, rfl⟩ : ∃ f1 f2, fs = [f1, f2] := by
  match fs, hl with
  | [a, b], _ => exact ⟨a, b, rfl⟩
 simp only [List.map_cons, List.map_nil, List.cons.injEq, Prod.mk.injEq, beq_eq_false_iff_ne, and_true] at hf
 obtain ⟨⟨n1, t1, o1⟩, n2, t2, o2⟩ := hf
 have pT : ∀ t : InR, lenI t → (part 23 (inA t) 0).run prog w = .ok (.agg (arrB 32 t.tx)) w := fun t ht => run_part_agg aggIdT (by have := ext_list (inC_tx ht); rwa [Array.toArray_toList] at this) w
 have pI : ∀ t : InR, lenI t → (part 3 (inA t) 32).run prog w = .ok (.int .i64 t.i) w := fun t ht => run_part_plain (P := prog) w (by kernel_rfl) (by unfold inA; rw [List.getElem?_toArray]; exact inC_i ht)
 have e1 := run_equalIn_id (d + 1) a.tx b.tx ha hb w
 have e2 := run_equalIn_int (P := prog) w (d + 2) 3 .i64 .i64 a.i b.i underlying3
 have hd : eqI a b = (eqL a.tx b.tx && (a.i == b.i)) := by
  unfold eqI eqL
  rw [Bool.eq_iff_iff]
  simp only [decide_eq_true_eq, Bool.and_eq_true, beq_iff_eq]
  exact ⟨fun h => by subst h; exact ⟨rfl, rfl⟩, fun h => by cases a; cases b; simp only at h; rw [h.1, h.2]⟩
 rw [hd]
 rw [eqFields_step (a := .agg (arrB 32 a.tx)) (b := .agg (arrB 32 b.tx)) n1 (by rw [t1, o1]; exact pT a ha) (by rw [t1, o1]; exact pT b hb) (by rw [t1]; exact e1)]
 cases eqL a.tx b.tx with
 | false => rfl
 | true =>
  rw [if_pos rfl, eqFields_step (a := .int .i64 a.i) (b := .int .i64 b.i) n2 (by rw [t2, o2]; exact pI a ha) (by rw [t2, o2]; exact pI b hb) (by rw [t2]; exact e2)]
  cases hab : (a.i == b.i) with
  | false => rfl
  | true => rfl
theorem run_equalIn_out (d : Nat) (a b : OutR) (w : World) : (Op.equalIn (d + 4) 102 (outV a) (outV b)).run prog w = .ok (eqO a b) w := by
 unfold outV
 have h := run_equalIn_struct (P := prog) w (d + 3) 102 (outA a) (outA b) (by kernel_rfl) (by kernel_rfl)
 refine Eq.trans h ?_
 have hf := fieldsOut
 generalize (prog.fieldsOf 102).toList = fs at hf ⊢
 have hl : fs.length = 2 := by simpa using congrArg List.length hf
 obtain ⟨f1, f2, rfl⟩ : ∃ f1 f2, fs = [f1, f2] := by
  match fs, hl with
  | [a, b], _ => exact ⟨a, b, rfl⟩
 simp only [List.map_cons, List.map_nil, List.cons.injEq, Prod.mk.injEq, beq_eq_false_iff_ne, and_true] at hf
 obtain ⟨⟨n1, t1, o1⟩, n2, t2, o2⟩ := hf
 have pV : ∀ t : OutR, (part 3 (outA t) 0).run prog w = .ok (.int .i64 t.v) w := fun t => run_part_plain (P := prog) w (by kernel_rfl) rfl
 have pT : ∀ t : OutR, (part 3 (outA t) 1).run prog w = .ok (.int .i64 t.tw) w := fun t => run_part_plain (P := prog) w (by kernel_rfl) rfl
 have e1 := run_equalIn_int (P := prog) w (d + 2) 3 .i64 .i64 a.v b.v underlying3
 have e2 := run_equalIn_int (P := prog) w (d + 2) 3 .i64 .i64 a.tw b.tw underlying3
 have hd : eqO a b = ((a.v == b.v) && (a.tw == b.tw)) := by
  unfold eqO
  rw [Bool.eq_iff_iff]
  simp only [decide_eq_true_eq, Bool.and_eq_true, beq_iff_eq]
  exact ⟨fun h => by subst h; exact ⟨rfl, rfl⟩, fun h => by cases a; cases b; simp only at h; rw [h.1, h.2]⟩
 rw [hd]
 rw [eqFields_step (a := .int .i64 a.v) (b := .int .i64 b.v) n1 (by rw [t1, o1]; exact pV a) (by rw [t1, o1]; exact pV b) (by rw [t1]; exact e1)]
 cases (a.v == b.v) with
 | false => rfl
 | true =>
  rw [if_pos rfl, eqFields_step (a := .int .i64 a.tw) (b := .int .i64 b.tw) n2 (by rw [t2, o2]; exact pT a) (by rw [t2, o2]; exact pT b) (by rw [t2]; exact e2)]
  cases hab : (a.tw == b.tw) with
  | false => rfl
  | true => rfl
theorem run_equal_co (a b : CoinR) (ha : lenC a) (hb : lenC b) (w : World) : (Op.equal 104 (coV a) (coV b)).run prog w = .ok (eqC a b) w := by
 unfold Op.equal coV
 have h := run_equalIn_struct (P := prog) w 9999 104 (coA a) (coA b) (by kernel_rfl) (by kernel_rfl)
 refine Eq.trans h ?_
 have hf := fieldsCo
 generalize (prog.fieldsOf 104).toList = fs at hf ⊢
 have hl : fs.length = 2 := by simpa using congrArg List.length hf
 obtain ⟨f1, f2, rfl⟩ : ∃ f1 f2, fs = [f1, f2] := by
  match fs, hl with
  | [a, b], _ => exact ⟨a, b, rfl⟩
 simp only [List.map_cons, List.map_nil, List.cons.injEq, Prod.mk.injEq, beq_eq_false_iff_ne, and_true] at hf
 obtain ⟨⟨n1, t1, o1⟩, n2, t2, o2⟩ := hf
 have pI : ∀ t : CoinR, lenC t → (part 100 (coA t) 0).run prog w = .ok (inV (keyC t)) w := fun t ht => run_part_agg aggIn (ext_list (a := coA t) (l := inC (keyC t)) (by unfold coA; rw [List.drop_zero]; exact coC_in ht)) w
 have pO : ∀ t : CoinR, lenC t → (part 102 (coA t) 33).run prog w = .ok (outV (outK t)) w := fun t ht => run_part_agg aggOut (ext_list (a := coA t) (l := outC (outK t)) (by unfold coA; exact coC_out ht)) w
 have e1 := run_equalIn_in 9995 (keyC a) (keyC b) ha hb w
 have e2 := run_equalIn_out 9995 (outK a) (outK b) w
 have hd : eqC a b = (eqI (keyC a) (keyC b) && eqO (outK a) (outK b)) := by
  unfold eqC eqI eqO keyC outK
  rw [Bool.eq_iff_iff]
  simp only [decide_eq_true_eq, Bool.and_eq_true, InR.mk.injEq, OutR.mk.injEq]
  exact ⟨fun h => by subst h; exact ⟨⟨rfl, rfl⟩, rfl, rfl⟩, fun h => by cases a; cases b; simp only at h; rw [h.1.1, h.1.2, h.2.1, h.2.2]⟩
 rw [hd]
 rw [eqFields_step (a := inV (keyC a)) (b := inV (keyC b)) n1 (by rw [t1, o1]; exact pI a ha) (by rw [t1, o1]; exact pI b hb) (by rw [t1]; exact e1)]
 cases eqI (keyC a) (keyC b) with
 | false => rfl
 | true =>
  rw [if_pos rfl, eqFields_step (a := outV (outK a)) (b := outV (outK b)) n2 (by rw [t2, o2]; exact pO a ha) (by rw [t2, o2]; exact pO b hb) (by rw [t2]; exact e2)]
  cases hab : eqO (outK a) (outK b) with
  | false => rfl
  | true => rfl
theorem guardCo : prog.eqGuardType prog.depth 104 = false := by kernel_rfl
section
variable {a : Act} {dst : Option Tmp} {x y : Operand} {ty : TypeId} {pos : String} {after : Array Edge} {gd : Option (Nat × Bool)}
theorem neqCo_op {s t : CoinR} {b : Bool} (hs : lenC s) (ht : lenC t) (hb : (!eqC s t) = b) (u : World) (hx : a.eval x = coV s) (hy : a.eval y = coV t) :
  (execOp a.eval ⟨dst, .binOp .neq 104 x y 104, ty, pos, after, gd⟩).run prog u = .ok (.value (.bool b)) u := by
 have h0 := run_equal_co s t hs ht u
 have h : (binOp .neq 104 (coV s) (coV t)).run prog u = .ok (.bool (!eqC s t)) u := by
  unfold coV at *
  simp only [binOp]
  simp [h0]
 have hg := run_eqGuard_agg (P := prog) u .neq 104 x y (coA s) (coA t) guardCo
 rw [← hb]
 unfold coV at *
 unfold execOp
 simp only [hx, hy, Sem.run_bind, hg, Result.andThen_ok, h, Sem.run_pure]
end
theorem rsameP_any (p q : List CoinR) (A A' : Option Addr) (n c m c' : Nat) (w : World) (hl : p.length = n) (hnc : n ≤ c) (hcm : c ≤ maxLen) (hI : okP p) (hA : CoinsIn w w.heap.size A p) (hl' : q.length = m) (hnc' : m ≤ c') (hcm' : c' ≤ maxLen) (hI' : okP q) (hA' : CoinsIn w w.heap.size A' q) :
  Rz 56 #[.slice A n c, .slice A' m c'] w (.bool (samePu p q)) := by
 unfold Rz
 have HL := hD hl
 have HPP := hD hI
 have HAA := hD hA
 have HN63 : Hid (n < 9223372036854775808) := by show _ < _; unfold maxLen at hcm; omega
 have HL' := hD hl'
 have HPP' := hD hI'
 have HAA' := hD hA'
 have HM63 : Hid (m < 9223372036854775808) := by show _ < _; unfold maxLen at hcm'; omega
 have E1 : Hid (EnvX w w []) := EnvX.start w
 clear hl hnc hcm hI hA hl' hnc' hcm' hI' hA'
 by_cases d4 : n = m
 case neg =>
  have D4 : Hid (decide ((n : Int) ≠ (m : Int)) = true) := decide_eq_true (by omega)
  have HF : Hid (samePu p q = false) := decide_eq_false fun e => d4 (by rw [← HL.out, ← HL'.out, e])
  clear d4
  go_enter func56, ntmps56
  go_upto_region 1 with (fail)
  refine rgQ [0,1,2,3,4] [] E1 rfl fun hw => ?_
  refine qo rfl hw ?_
  refine qv rfl (fun u hu => len_op underlying35 HN63.out u rfl) hw ?_
  refine qo rfl hw ?_
  refine qv rfl (fun u hu => len_op underlying35 HM63.out u rfl) hw ?_
  refine qv rfl (fun u hu => neZ_op u D4.out rfl rfl) hw ?_
  refine enP fun u3 EX2 => ?_
  have HBE := hD (EX2.out.bel)
  go_wp2
  go_ret
  exact ⟨by rw [HF.out]; try rfl, HBE.out⟩
 have D4 : Hid (decide ((n : Int) ≠ (m : Int)) = false) := decide_eq_false (by omega)
 subst d4
 go_enter func56, ntmps56
 go_upto_region 1 with (fail)
 refine rgQ [0,1,2,3,4] [] E1 rfl fun hw => ?_
 refine qo rfl hw ?_
 refine qv rfl (fun u hu => len_op underlying35 HN63.out u rfl) hw ?_
 refine qo rfl hw ?_
 refine qv rfl (fun u hu => len_op underlying35 HM63.out u rfl) hw ?_
 refine qv rfl (fun u hu => neZ_op u D4.out rfl rfl) hw ?_
 refine enP fun u3 EX2 => ?_
 have EJ := hD EX2.out
 clear EX2 E1
 go_upto_region 4 with (fail)
 go_loopw [5] (fun iv u => ∃ i : Nat, i ≤ n ∧ iv = .int .i64 (i : Int) ∧ Hid ((∀ j, j < i → p.getD j noC0 = q.getD j noC0) ∧ EnvX w u [])) (fun iv _ => n - (intOf iv).toNat)
 case atStart => exact ⟨0, by omega, rfl, (fun j hj => by omega), EJ.out⟩
 case round =>
  obtain ⟨i, hi, rfl, hinv⟩ := hrel
  have H1 := hD hinv.out.1
  have EK := hD hinv.out.2
  clear hinv EJ
  by_cases hlt : i < n
  · have C4 : Hid (decide ((i : Int) < (n : Int)) = true) := decide_eq_true (by omega)
    have HI := hD hlt
    have hil : i < p.length := by rw [HL.out]; exact hlt
    have HIL := hD hil
    obtain ⟨ad, rfl, -, hld⟩ := HAA.out.loads HPP.out hil
    have HLD := hD hld
    have HY : Hid (lenC (p.getD i noC0)) := (getP HPP.out hil).len
    obtain ⟨y, hy⟩ : ∃ y, p.getD i noC0 = y := ⟨_, rfl⟩
    have HYE := hD hy
    rw [hy] at HLD HY
    have hil2 : i < q.length := by rw [HL'.out]; exact hlt
    obtain ⟨ad2, rfl, -, hld2⟩ := HAA'.out.loads HPP'.out hil2
    have HLD2 := hD hld2
    have HZ : Hid (lenC (q.getD i noC0)) := (getP HPP'.out hil2).len
    obtain ⟨z, hz⟩ : ∃ z, q.getD i noC0 = z := ⟨_, rfl⟩
    have HZE := hD hz
    rw [hz] at HLD2 HZ
    obtain ⟨b, hb⟩ : ∃ b, (!eqC y z) = b := ⟨_, rfl⟩
    have HEQ := hD hb
    clear hld hil hlt hy hb hil2 hld2 hz
    go_upto_region 4 with (fail)
    refine rgQ [0,1,2,3] [] EK rfl fun hw => ?_
    refine qw 2 hw ?_
    refine qv rfl (fun u hu => len_op underlying35 HN63.out u rfl) hw ?_
    refine qv rfl (fun u hu => ltZ_op u C4.out rfl rfl) hw ?_
    refine enP fun u43 EX42 => ?_
    cases b with
    | true =>
     have HF : Hid (samePu p q = false) := decide_eq_false fun e => by
      have h1 := HEQ.out
      rw [← HYE.out, ← HZE.out, e] at h1
      unfold eqC at h1
      simp at h1
     go_upto_region 6 with (fail)
     refine rgK [0,1,2,3,4,5,6,7,8] 0 EX42 rfl fun hw => ?_
     refine qw 2 hw ?_
     refine qv rfl (fun u hu => idxSl_op underlying35 aggCo.size HI.out u rfl rfl) hw ?_
     refine qv rfl (fun u hu => load_any_op u (HLD.out u (nl hu)).1 rfl) hw ?_
     refine qw 2 hw ?_
     refine qv rfl (fun u hu => idxSl_op underlying35 aggCo.size HI.out u rfl rfl) hw ?_
     refine qv rfl (fun u hu => load_any_op u (HLD2.out u (nl hu)).1 rfl) hw ?_
     refine qv rfl (fun u hu => neqCo_op HY.out HZ.out HEQ.out u rfl rfl) hw ?_
     refine eH fun u46 EX45 => ?_
     have HBE := hD (EX45.out.bel)
     go_wp2
     go_ret
     exact ⟨by rw [HF.out]; try rfl, HBE.out⟩
    | false =>
     have H3 : Hid (∀ j, j < i + 1 → p.getD j noC0 = q.getD j noC0) := fun j hj => by
      rcases Nat.lt_or_ge j i with h | h
      · exact H1.out j h
      · rw [show j = i by omega, HYE.out, HZE.out]
        have h1 := HEQ.out
        unfold eqC at h1
        simpa using h1
     go_upto_region 6 with (fail)
     refine rgK [0,1,2,3,4,5,6,7,8] 0 EX42 rfl fun hw => ?_
     refine qw 2 hw ?_
     refine qv rfl (fun u hu => idxSl_op underlying35 aggCo.size HI.out u rfl rfl) hw ?_
     refine qv rfl (fun u hu => load_any_op u (HLD.out u (nl hu)).1 rfl) hw ?_
     refine qw 2 hw ?_
     refine qv rfl (fun u hu => idxSl_op underlying35 aggCo.size HI.out u rfl rfl) hw ?_
     refine qv rfl (fun u hu => load_any_op u (HLD2.out u (nl hu)).1 rfl) hw ?_
     refine qv rfl (fun u hu => neqCo_op HY.out HZ.out HEQ.out u rfl rfl) hw ?_
     refine eH fun u46 EX45 => ?_
     have hii := HI.out
     have hn := HN63.out
     go_wp2
     go_roundw
     case rel => exact ⟨i + 1, by omega, by go_num, H3.out, EX45.out⟩
     case measure => simp [intOf]; omega
  · obtain rfl : i = n := by omega
    have C4 : Hid (decide ((i : Int) < (i : Int)) = false) := decide_eq_false (by omega)
    have HF : Hid (samePu p q = true) := decide_eq_true (getD_ext (by rw [HL.out, HL'.out]) (by rw [HL.out]; exact H1.out))
    go_upto_region 4 with (fail)
    refine rgQ [0,1,2,3] [] EK rfl fun hw => ?_
    refine qw 2 hw ?_
    refine qv rfl (fun u hu => len_op underlying35 HN63.out u rfl) hw ?_
    refine qv rfl (fun u hu => ltZ_op u C4.out rfl rfl) hw ?_
    refine enP fun u203 EX202 => ?_
    have HBE := hD (EX202.out.bel)
    go_wp2
    go_ret
    exact ⟨by rw [HF.out]; try rfl, HBE.out⟩
theorem run_neq_tot (s t : Tot) (hs : okT s) (ht : okT t) (w : World) : (binOp .neq 56 (totV s) (totV t)).run prog w = .ok (.bool (!eqT s t)) w := by
 have h := run_equal_tot s t hs ht w
 unfold totV at *
 simp only [binOp]
 simp [h]
theorem guardTot : prog.eqGuardType prog.depth 56 = false := by kernel_rfl
section
variable {a : Act} {dst : Option Tmp} {x y : Operand} {ty : TypeId} {pos : String} {after : Array Edge} {gd : Option (Nat × Bool)}
theorem neqT_op {s t : Tot} (hs : okT s) (ht : okT t) (u : World) (hx : a.eval x = totV s) (hy : a.eval y = totV t) :
  (execOp a.eval ⟨dst, .binOp .neq 56 x y 56, ty, pos, after, gd⟩).run prog u = .ok (.value (.bool (!eqT s t))) u := by
 have h := run_neq_tot s t hs ht u
 have hg := run_eqGuard_agg (P := prog) u .neq 56 x y (totA s) (totA t) guardTot
 unfold totV at *
 unfold execOp
 simp only [hx, hy, Sem.run_bind, hg, Result.andThen_ok, h, Sem.run_pure]
end
theorem tots_step {l q : List Tot} {k : Nat} (h : l.take k = q.take k) (h1 : k < l.length) (h2 : k < q.length) (e : l.getD k noTot = q.getD k noTot) : l.take (k + 1) = q.take (k + 1) := by
 rw [List.take_add_one, List.take_add_one, h, gE h1, gE h2]
 rw [gD, gD, gE h1, gE h2] at e
 simp only [Option.getD_some] at e
 rw [e]
theorem rmsame_any (l q : List Tot) (A A' : Option Addr) (n c m c' : Nat) (w : World) (hl : l.length = n) (hq : q.length = m) (hn : n ≤ 1000000) (hm : m ≤ 1000000) (hnc : n ≤ c) (hc : c ≤ maxLen) (hmc : m ≤ c') (hc' : c' ≤ maxLen) (hI : okTs l) (hJ : okTs q) (hA : TotsIn w w.heap.size A l) (hB : TotsIn w w.heap.size A' q) :
   Rz 55 #[.slice A n c, .slice A' m c'] w (.bool (decide (l = q))) := by
 unfold Rz
 unfold maxLen at hc hc'
 have HL := hD hl
 have HQ := hD hq
 have HI := hD (And.intro hI hA)
 have HJ := hD (And.intro hJ hB)
 clear hI hA hJ hB hl hq
 by_cases hnm : n = m
 · subst hnm
   go_enter func55, ntmps55
   go_upto_region 4 with (fail)
   go_loopw [5] (fun i u => ∃ k : Nat, k ≤ n ∧ i = .int .i64 k ∧ Below w.heap.size w u ∧ Hid (l.take k = q.take k)) (fun i _ => n - (intOf i).toNat)
   case atStart => exact ⟨0, by omega, rfl, Below.refl _ _, rfl⟩
   case round =>
    obtain ⟨k, hk, rfl, hbl, hsame⟩ := hrel
    by_cases hlt : k < n
    · have hk2 : (k : Int) < (n : Int) := by omega
      obtain ⟨a1, rfl, h1⟩ := HI.out.2.loads HI.out.1 (k := k) (by rw [HL.out]; exact hlt)
      obtain ⟨a2, rfl, h2⟩ := HJ.out.2.loads HJ.out.1 (k := k) (by rw [HQ.out]; exact hlt)
      have H1 := hD h1
      have H2 := hD h2
      have E1 : Hid (EnvX w wr []) := ⟨hbl, fun _ _ h => by cases h⟩
      have HX := hD (HI.out.1.get (i := k) (by rw [HL.out]; exact hlt))
      have HY := hD (HJ.out.1.get (i := k) (by rw [HQ.out]; exact hlt))
      have HST := hD (tots_step hsame.out (by rw [HL.out]; exact hlt) (by rw [HQ.out]; exact hlt))
      have HNE : Hid (l.getD k noTot ≠ q.getD k noTot → l ≠ q) := fun h e => h (by rw [e])
      clear h1 h2 hsame hbl
      generalize l.getD k noTot = x at *
      generalize q.getD k noTot = y at *
      go_upto_region 6 with (fail)
      refine rgK [0,1,2,3,4,5,6,7,8] 0 E1 rfl fun hw => ?_
      refine qw 3 hw ?_
      refine qv rfl (fun u hu => load_any_op u (H1.out u (nl hu)).1 rfl) hw ?_
      refine qw 3 hw ?_
      refine qv rfl (fun u hu => load_any_op u (H2.out u (nl hu)).1 rfl) hw ?_
      refine qv (v := .bool (!eqT x y)) rfl (fun u hu => neqT_op HX.out HY.out u rfl rfl) hw ?_
      refine eH fun u3 EX2 => ?_
      by_cases hxy : x = y
      · have hb : eqT x y = true := by simp [eqT, hxy]
        rw [hb]
        go_wp2
        go_roundw
        case rel => exact ⟨k + 1, by omega, by go_num, EX2.out.bel, HST.out hxy⟩
        case measure => simp [intOf]; omega
      · have hb : eqT x y = false := by simp [eqT, hxy]
        have HR : Hid (decide (l = q) = false) := by
         show _ = _
         simp [HNE.out hxy]
        rw [hb]
        go_wp2
        go_ret
        exact ⟨by rw [HR.out]; rfl, EX2.out.bel⟩
    · obtain rfl : k = n := by omega
      have HR : Hid (decide (l = q) = true) := by
        have h := hsame.out
        rw [tL (by rw [HL.out]; exact Nat.le_refl _), tL (by rw [HQ.out]; exact Nat.le_refl _)] at h
        show _ = _
        simp [h]
      clear hsame
      go_wp2
      go_ret
      exact ⟨by rw [HR.out]; rfl, hbl⟩
 · have hne : ¬ (n : Int) = (m : Int) := by omega
   have HR : Hid (decide (l = q) = false) := by
    show _ = _
    have : l ≠ q := fun e => hnm (by rw [← HL.out, ← HQ.out, e])
    simp [this]
   go_enter func55, ntmps55
   go_wp2
   go_ret
   exact ⟨by rw [HR.out]; rfl, Below.refl _ _⟩
theorem push_err {t u : TipR} {b : BlkR} {e : Nat} (h : pushK t b = (u, e + 1)) : u = t := by
 unfold pushK at h
 split at h
 · cases h; rfl
 · split at h
   · cases h; rfl
   · split at h
     · cases h; rfl
     · split at h
       · cases h; rfl
       · split at h
         · cases h; rfl
         · split at h
           · exact (congrArg Prod.fst h).symm
           · cases h
theorem push_nonce {t u : TipR} {b : BlkR} (h : pushK t b = (u, 0)) (k : Nat) : (pushK t { b with h := { b.h with nonce := k } }).2 = 0 ↔ mayH { b.h with nonce := k } = true := by
 obtain ⟨h1, h2, h3, h4, h5, -⟩ := push_ok h
 rw [push_iff]
 refine ⟨fun hh => hh.2.2.2.1, fun hm => ⟨?_, h2, h3, hm, h5⟩⟩
 show ({ b.h with nonce := k } : Hd) = nextK t b.t k
 rw [h1]
 rfl
def sumN : List Tot → Nat
  | [] => 0
  | x :: r => x.w + sumN r
def sumI : List Tot → Int
  | [] => 0
  | x :: r => x.n + sumI r
theorem up_w : ∀ (r : List Tot) (x : Tot), x.w < Big → (upT x r).w = (x.w + sumN r) % Big
 | [], x, h => by simp [upT, sumN, Nat.mod_eq_of_lt h]
 | y :: r, x, h => by
  have hb : (0 : Nat) < Big := by decide
  have e := up_w r (joinT y x) (Nat.mod_lt _ hb)
  show (upT (joinT y x) r).w = _
  rw [e]
  show ((y.w + x.w) % Big + sumN r) % Big = (x.w + (y.w + sumN r)) % Big
  rw [Nat.mod_add_mod, show y.w + x.w + sumN r = x.w + (y.w + sumN r) by omega]
theorem up_n : ∀ (r : List Tot) (x : Tot), I64 x.n → (upT x r).n = IntKind.i64.wrap (x.n + sumI r)
 | [], x, h => by
  show x.n = _
  rw [show x.n + sumI [] = x.n by simp [sumI], IntKind.wrap_i64]
  unfold I64 at h
  omega
 | y :: r, x, h => by
  have e := up_n r (joinT y x) (by show I64 (IntKind.i64.wrap (y.n + x.n)); unfold I64; rw [IntKind.wrap_i64]; omega)
  show (upT (joinT y x) r).n = _
  rw [e]
  show IntKind.i64.wrap (IntKind.i64.wrap (y.n + x.n) + sumI r) = IntKind.i64.wrap (x.n + (y.n + sumI r))
  simp only [IntKind.wrap_i64]
  omega
theorem carry_w : ∀ (r : List Tot) (x : Tot), sumN (carryT x r) % Big = (x.w + sumN r) % Big
 | [], x => rfl
 | y :: r, x => by
  unfold carryT
  split
  · have e := carry_w r (joinT y x)
    rw [e]
    show ((y.w + x.w) % Big + sumN r) % Big = (x.w + (y.w + sumN r)) % Big
    rw [Nat.mod_add_mod, show y.w + x.w + sumN r = x.w + (y.w + sumN r) by omega]
  · rfl
theorem carry_n : ∀ (r : List Tot) (x : Tot), IntKind.i64.wrap (sumI (carryT x r)) = IntKind.i64.wrap (x.n + sumI r)
 | [], x => rfl
 | y :: r, x => by
  unfold carryT
  split
  · have e := carry_n r (joinT y x)
    rw [e]
    show IntKind.i64.wrap (IntKind.i64.wrap (y.n + x.n) + sumI r) = IntKind.i64.wrap (x.n + (y.n + sumI r))
    simp only [IntKind.wrap_i64]
    omega
  · rfl
theorem root_w {p : List Tot} (hp : ∀ x ∈ p, x.w < Big) : (rootP p).w = sumN p.reverse % Big := by
 unfold rootP
 cases h : p.reverse with
 | nil => rfl
 | cons x r =>
  simp only
  rw [up_w r x (hp x (List.mem_reverse.1 (by rw [h]; exact List.mem_cons_self ..)))]
  rfl
theorem root_n {p : List Tot} (hp : ∀ x ∈ p, I64 x.n) : (rootP p).n = IntKind.i64.wrap (sumI p.reverse) := by
 unfold rootP
 cases h : p.reverse with
 | nil => rw [IntKind.wrap_i64]; rfl
 | cons x r =>
  simp only
  rw [up_n r x (hp x (List.mem_reverse.1 (by rw [h]; exact List.mem_cons_self ..)))]
  rfl
theorem app_w {p : List Tot} {x : Tot} (hp : ∀ y ∈ p, y.w < Big) (ha : ∀ y ∈ appT p x, y.w < Big) : (rootP (appT p x)).w = ((rootP p).w + x.w) % Big := by
 rw [root_w hp, root_w ha]
 unfold appT
 rw [List.reverse_reverse, carry_w, Nat.mod_add_mod, Nat.add_comm]
theorem app_n {p : List Tot} {x : Tot} (hp : ∀ y ∈ p, I64 y.n) (ha : ∀ y ∈ appT p x, I64 y.n) (hx : x.n = 1) : (rootP (appT p x)).n = IntKind.i64.wrap ((rootP p).n + 1) := by
 rw [root_n hp, root_n ha]
 unfold appT
 rw [List.reverse_reverse, carry_n, hx]
 simp only [IntKind.wrap_i64]
 omega
theorem rsameX_allB (t s : TxM) (w : World) (ht : TxOk w t) (hs : TxOk w s) : Rz 109 #[txV t, txV s] w (.bool (sameX t.r s.r)) := by
 unfold Rz
 obtain ⟨r, A1, n1, c1, A2, n2, c2⟩ := t
 obtain ⟨q, B1, m1, d1, B2, m2, d2⟩ := s
 exact rsameX_any r A1 n1 c1 A2 n2 c2 q B1 m1 d1 B2 m2 d2 w ht hs
theorem blk_same (b d : BlkM) : decide (b.r = d.r) = (decide (b.l = d.l) && (decide (rsT b.t = rsT d.t) && eqH b.h d.h)) := by
 unfold eqH
 rw [Bool.eq_iff_iff]
 simp only [decide_eq_true_eq, Bool.and_eq_true, BlkM.r, BlkR.mk.injEq]
 exact ⟨fun h => ⟨h.2.1, h.2.2, h.1⟩, fun h => ⟨h.2.2, h.1, h.2.1⟩⟩
theorem tip_same (t s : TipM) : decide (t.r = s.r) = (decide (t.b.r = s.b.r) && (decide (t.p = s.p) && samePu t.c s.c)) := by
 unfold samePu
 rw [Bool.eq_iff_iff]
 simp only [decide_eq_true_eq, Bool.and_eq_true, TipM.r, TipR.mk.injEq]
theorem rblists_any (l q : List TxM) (A A' : Option Addr) (n c m c' : Nat) (w : World) (hl : l.length = n) (hn : n ≤ 1000000) (hA : TxsIn w A l) (hl' : q.length = m) (hm : m ≤ 1000000) (hA' : TxsIn w A' q) :
  Rz 57 #[.slice A n c, .slice A' m c'] w (.bool (decide (rsT l = rsT q))) := by
 unfold Rz
 have HL := hD hl
 have HL' := hD hl'
 have HAA := hD hA
 have HAA' := hD hA'
 have HN63 : Hid (n < 9223372036854775808) := by show _ < _; omega
 have HM63 : Hid (m < 9223372036854775808) := by show _ < _; omega
 have HXS : Hid (∀ (t s : TxM) (u : World), EnvX w u [] → TxOk w t → TxOk w s → Calls prog 109 #[txV t, txV s] u fun e w' => e = .returned (.bool (sameX t.r s.r)) ∧ Below u.heap.size u w') := fun t s u hu k1 k2 => rsameX_allB t s u (k1.up hu.bel) (k2.up hu.bel)
 have E1 : Hid (EnvX w w []) := EnvX.start w
 clear hl hn hA hl' hm hA'
 by_cases d4 : n = m
 case neg =>
  have D4 : Hid (decide ((n : Int) ≠ (m : Int)) = true) := decide_eq_true (by omega)
  have HF : Hid (decide (rsT l = rsT q) = false) := decide_eq_false fun e => d4 (by have h := congrArg List.length e; unfold rsT at h; rw [lM, lM, HL.out, HL'.out] at h; exact h)
  clear d4
  go_enter func57, ntmps57
  go_upto_region 1 with (fail)
  refine rgQ [0,1,2,3,4] [] E1 rfl fun hw => ?_
  refine qo rfl hw ?_
  refine qv rfl (fun u hu => len_op underlying31 HN63.out u rfl) hw ?_
  refine qo rfl hw ?_
  refine qv rfl (fun u hu => len_op underlying31 HM63.out u rfl) hw ?_
  refine qv rfl (fun u hu => neZ_op u D4.out rfl rfl) hw ?_
  refine enP fun u3 EX2 => ?_
  go_upto_region 2 with (fail)
  refine rgQ [0] [] EX2 rfl fun hw => ?_
  refine qo rfl hw ?_
  refine enP fun u6 EX5 => ?_
  have HBE := hD (EX5.out.bel)
  go_wp2
  go_ret
  exact ⟨by rw [HF.out]; try rfl, HBE.out⟩
 have D4 : Hid (decide ((n : Int) ≠ (n : Int)) = false) := decide_eq_false (by omega)
 subst d4
 go_enter func57, ntmps57
 go_upto_region 1 with (fail)
 refine rgQ [0,1,2,3,4] [] E1 rfl fun hw => ?_
 refine qo rfl hw ?_
 refine qv rfl (fun u hu => len_op underlying31 HN63.out u rfl) hw ?_
 refine qo rfl hw ?_
 refine qv rfl (fun u hu => len_op underlying31 HM63.out u rfl) hw ?_
 refine qv rfl (fun u hu => neZ_op u D4.out rfl rfl) hw ?_
 refine enP fun u3 EX2 => ?_
 go_upto_region 3 with (fail)
 refine rgQ [0] [] EX2 rfl fun hw => ?_
 refine qo rfl hw ?_
 refine enP fun u6 EX5 => ?_
 have EJ := hD EX5.out
 clear EX5 E1
 go_upto_region 4 with (fail)
 go_loopw [5] (fun iv u => ∃ i : Nat, i ≤ n ∧ iv = .int .i64 (i : Int) ∧ Hid ((∀ j, j < i → (l.getD j noTxM).r = (q.getD j noTxM).r) ∧ EnvX w u [])) (fun iv _ => n - (intOf iv).toNat)
 case atStart => exact ⟨0, by omega, rfl, (fun j hj => by omega), EJ.out⟩
 case round =>
  obtain ⟨i, hi, rfl, hinv⟩ := hrel
  have H1 := hD hinv.out.1
  have EK := hD hinv.out.2
  clear hinv EJ
  by_cases hlt : i < n
  · have C2 : Hid (decide ((i : Int) < (n : Int)) = true) := decide_eq_true (by omega)
    have HI := hD hlt
    have hil : i < l.length := by rw [HL.out]; exact hlt
    have hil' : i < q.length := by rw [HL'.out]; exact hlt
    obtain ⟨ad, rfl, -, hld⟩ := HAA.out.loads hil
    obtain ⟨ad', rfl, -, hld'⟩ := HAA'.out.loads hil'
    have HLD := hD (And.intro hld hld')
    have HTX : Hid (TxOk w (l.getD i noTxM) ∧ TxOk w (q.getD i noTxM)) := ⟨HAA.out.get hil, HAA'.out.get hil'⟩
    obtain ⟨x, hx⟩ : ∃ x, l.getD i noTxM = x := ⟨_, rfl⟩
    obtain ⟨y, hy⟩ : ∃ y, q.getD i noTxM = y := ⟨_, rfl⟩
    have HXY := hD (And.intro hx hy)
    rw [hx, hy] at HLD HTX
    obtain ⟨b, hb⟩ : ∃ b, sameX x.r y.r = b := ⟨_, rfl⟩
    have HEQ := hD hb
    clear hld hld' hil hil' hlt hx hy hb
    go_upto_region 4 with (fail)
    refine rgQ [0,1,2,3] [] EK rfl fun hw => ?_
    refine qw 2 hw ?_
    refine qv rfl (fun u hu => len_op underlying31 HN63.out u rfl) hw ?_
    refine qv rfl (fun u hu => ltZ_op u C2.out rfl rfl) hw ?_
    refine enP fun u23 EX22 => ?_
    go_upto_region 6 with (fail)
    refine rgK [0,1,2,3,4,5,6,7,8,9] 0 EX22 rfl fun hw => ?_
    refine qw 2 hw ?_
    refine qv rfl (fun u hu => idxSl_op underlying31 aggTx.size HI.out u rfl rfl) hw ?_
    refine qv rfl (fun u hu => load_any_op u (HLD.out.1 u (nl hu)).1 rfl) hw ?_
    refine qw 2 hw ?_
    refine qv rfl (fun u hu => idxSl_op underlying31 aggTx.size HI.out u rfl rfl) hw ?_
    refine qv rfl (fun u hu => load_any_op u (HLD.out.2 u (nl hu)).1 rfl) hw ?_
    refine qc (args := #[txV x, txV y]) (v := .bool b) rfl func109 (fun u hu => by have h := HXS.out x y u (nl hu) HTX.out.1 HTX.out.2; rw [HEQ.out] at h; exact h) hw ?_
    refine qo rfl hw ?_
    refine eH fun u26 EX25 => ?_
    cases b with
    | false =>
     have HF : Hid (decide (rsT l = rsT q) = false) := decide_eq_false fun e => by
      have h : (rsT l).getD i noTx = (rsT q).getD i noTx := congrArg (fun z : List TxR => z.getD i noTx) e
      have e1 := rsT_get (l := l) (i := i) (by rw [HL.out]; exact HI.out)
      have e2 := rsT_get (l := q) (i := i) (by rw [HL'.out]; exact HI.out)
      rw [e1, e2, HXY.out.1, HXY.out.2] at h
      exact of_decide_eq_false HEQ.out h
     go_upto_region 7 with (fail)
     refine rgQ [0,1] [] EX25 rfl fun hw => ?_
     refine qw 2 hw ?_
     refine enP fun u29 EX28 => ?_
     go_upto_region 8 with (fail)
     refine rgQ [0] [] EX28 rfl fun hw => ?_
     refine qo rfl hw ?_
     refine enP fun u32 EX31 => ?_
     have HBE := hD (EX31.out.bel)
     go_wp2
     go_ret
     exact ⟨by rw [HF.out]; try rfl, HBE.out⟩
    | true =>
     have H3 : Hid (∀ j, j < i + 1 → (l.getD j noTxM).r = (q.getD j noTxM).r) := fun j hj => by
      rcases Nat.lt_or_ge j i with h | h
      · exact H1.out j h
      · rw [show j = i by omega, HXY.out.1, HXY.out.2]; exact of_decide_eq_true HEQ.out
     go_upto_region 7 with (fail)
     refine rgQ [0,1] [] EX25 rfl fun hw => ?_
     refine qw 2 hw ?_
     refine enP fun u29 EX28 => ?_
     have hii := HI.out
     have hn := HN63.out
     go_wp2
     go_roundw
     case rel => exact ⟨i + 1, by omega, by go_num, H3.out, EX28.out⟩
     case measure => simp [intOf]; omega
  · obtain rfl : i = n := by omega
    have C2 : Hid (decide ((i : Int) < (i : Int)) = false) := decide_eq_false (by omega)
    have HF : Hid (decide (rsT l = rsT q) = true) := decide_eq_true (rsT_ext (by rw [HL.out, HL'.out]) (by rw [HL.out]; exact H1.out))
    go_upto_region 4 with (fail)
    refine rgQ [0,1,2,3] [] EK rfl fun hw => ?_
    refine qw 2 hw ?_
    refine qv rfl (fun u hu => len_op underlying31 HN63.out u rfl) hw ?_
    refine qv rfl (fun u hu => ltZ_op u C2.out rfl rfl) hw ?_
    refine enP fun u203 EX202 => ?_
    go_upto_region 9 with (fail)
    refine rgQ [0] [] EX202 rfl fun hw => ?_
    refine qo rfl hw ?_
    refine enP fun u206 EX205 => ?_
    have HBE := hD (EX205.out.bel)
    go_wp2
    go_ret
    exact ⟨by rw [HF.out]; try rfl, HBE.out⟩
theorem rbsame_any (b d : BlkM) (w : World) (kb : BlkOk w b) (mb : midBlk b) (kd : BlkOk w d) (md : midBlk d) :
  Rz 20 #[blkV b, blkV d] w (.bool (decide (b.r = d.r))) := by
 unfold Rz
 have HKB : Hid (okHd b.h) := kb.h
 have HKD : Hid (okHd d.h) := kd.h
 have HS := hD (blk_same b d)
 have m1 := mb.1
 have m2 := md.1
 have m3 := mb.2.1
 have m4 := md.2.1
 have l1 := kb.l1
 have l2 := kd.l1
 have l3 := kb.l2
 have l4 := kd.l2
 have HIDS : Hid (Rt w 53 #[.slice b.A1 b.n1 b.c1, .slice d.A1 d.n1 d.c1] (.bool (decide (b.l = d.l)))) := fun u hu => rids_any b.l d.l b.A1 d.A1 b.n1 b.c1 d.n1 d.c1 u kb.l1 kd.l1 (by omega) (by omega) kb.b1.1 kb.b1.2 kd.b1.1 kd.b1.2 kb.o1 kd.o1 (kb.m1.up hu.bel) (kd.m1.up hu.bel)
 have HLST : Hid (Rt w 57 #[.slice b.A2 b.n2 b.c2, .slice d.A2 d.n2 d.c2] (.bool (decide (rsT b.t = rsT d.t)))) := fun u hu => rblists_any b.t d.t b.A2 d.A2 b.n2 b.c2 d.n2 d.c2 u kb.l2 (by omega) (kb.m2.up hu.bel) kd.l2 (by omega) (kd.m2.up hu.bel)
 obtain ⟨b1, hb1⟩ : ∃ b1, decide (b.l = d.l) = b1 := ⟨_, rfl⟩
 obtain ⟨b2, hb2⟩ : ∃ b2, decide (rsT b.t = rsT d.t) = b2 := ⟨_, rfl⟩
 obtain ⟨b3, hb3⟩ : ∃ b3, eqH b.h d.h = b3 := ⟨_, rfl⟩
 rw [hb1] at HIDS HS
 rw [hb2] at HLST HS
 rw [hb3] at HS
 have HB3 := hD hb3
 have E1 : Hid (EnvX w ((w.alloc (.cells (blkA b) 33)).alloc (.cells (blkA d) 33)) [(w.heap.size + 1, oc (blkA d) 33), (w.heap.size, oc (blkA b) 33)]) := (EnvX.start w).two _ _
 clear kb mb kd md m1 m2 m3 m4 l1 l2 l3 l4 hb1 hb2 hb3
 unfold blkV
 go_enter func20, ntmps20
 go_upto_region 1 with (fail)
 generalize (w.alloc (.cells (blkA b) 33)).alloc (.cells (blkA d) 33) = W at *
 refine rgQ [0,1,2,3,4,5] [] E1 rfl fun hw => ?_
 refine qf rfl hw ?_
 refine ql rfl (mT mH) HKB.out.len hw ?_
 refine qf rfl hw ?_
 refine ql rfl mH HKD.out.len hw ?_
 refine qc rfl func53 (fun u hu => HIDS.out u (nl hu)) hw ?_
 refine qo rfl hw ?_
 refine enP fun u3 EX2 => ?_
 go_upto_region 2 with (fail)
 refine rgQ [0,1,2,3,4,5] [] EX2 rfl fun hw => ?_
 refine qf rfl hw ?_
 refine ql rfl (mT mH) HKB.out.len hw ?_
 refine qf rfl hw ?_
 refine ql rfl mH HKD.out.len hw ?_
 refine qc rfl func57 (fun u hu => HLST.out u (nl hu)) hw ?_
 refine qo rfl hw ?_
 refine enP fun u6 EX5 => ?_
 cases b1 with
 | false =>
  have HF : Hid (decide (b.r = d.r) = false) := HS.out
  go_upto_region 3 with (fail)
  refine rgQ [0,1,2,3,4,5,6,7,8,9,10,11] [] EX5 rfl fun hw => ?_
  refine qw 12 hw ?_
  refine enP fun u9 EX8 => ?_
  have HBE := hD (EX8.out.bel)
  go_wp2
  go_ret
  exact ⟨by rw [HF.out]; try rfl, HBE.out⟩
 | true =>
  cases b2 with
  | false =>
   have HF : Hid (decide (b.r = d.r) = false) := HS.out
   go_upto_region 3 with (fail)
   refine rgQ [0,1,2,3,4,5,6,7,8,9,10,11] [] EX5 rfl fun hw => ?_
   refine qw 12 hw ?_
   refine enP fun u9 EX8 => ?_
   have HBE := hD (EX8.out.bel)
   go_wp2
   go_ret
   exact ⟨by rw [HF.out]; try rfl, HBE.out⟩
  | true =>
   have HF : Hid (decide (b.r = d.r) = b3) := HS.out
   go_upto_region 3 with (fail)
   refine rgQ [0,1,2,3,4,5,6,7,8,9,10,11] [] EX5 rfl fun hw => ?_
   refine qw 6 hw ?_
   refine qv rfl (fun u hu => load_any_op u (loads_hd HKB.out.len (box_blk_hd hu (mT mH) HKB.out.len)).1 rfl) hw ?_
   refine qf rfl hw ?_
   refine qv rfl (fun u hu => load_any_op u (loads_hd HKD.out.len (box_blk_hd hu mH HKD.out.len)).1 rfl) hw ?_
   refine qv rfl (fun u hu => eqlHd_op HKB.out HKD.out HB3.out u rfl rfl) hw ?_
   refine qw 2 hw ?_
   refine enP fun u9 EX8 => ?_
   have HBE := hD (EX8.out.bel)
   go_wp2
   go_ret
   exact ⟨by rw [HF.out]; try rfl, HBE.out⟩
theorem rbtips_any (t s : TipM) (w : World) (kt : TipOk w t) (mt : midTip t ∧ midTxs t.b.t) (ks : TipOk w s) (ms : midTip s ∧ midTxs s.b.t) :
  Rz 19 #[tipV t, tipV s] w (.bool (decide (t.r = s.r))) := by
 unfold Rz
 have HKT : Hid (lenH t.b.h) := kt.b.h.len
 have HKS : Hid (lenH s.b.h) := ks.b.h.len
 have HS := hD (tip_same t s)
 have m1 := mt.1.2.1
 have m2 := ms.1.2.1
 have l1 := kt.l3
 have l2 := ks.l3
 have HBS : Hid (Rt w 20 #[blkV t.b, blkV s.b] (.bool (decide (t.b.r = s.b.r)))) := fun u hu => rbsame_any t.b s.b u (kt.b.up hu.bel) ⟨mt.1.1, mt.2⟩ (ks.b.up hu.bel) ⟨ms.1.1, ms.2⟩
 have HMS : Hid (Rt w 55 #[.slice t.A3 t.n3 t.c3, .slice s.A3 s.n3 s.c3] (.bool (decide (t.p = s.p)))) := fun u hu => rmsame_any t.p s.p t.A3 s.A3 t.n3 t.c3 s.n3 s.c3 u kt.l3 ks.l3 (by omega) (by omega) kt.b3.1 kt.b3.2 ks.b3.1 ks.b3.2 kt.o3 ks.o3 (CellsIn.up kt.m3 hu.bel) (CellsIn.up ks.m3 hu.bel)
 have HCS : Hid (Rt w 56 #[.slice t.A4 t.n4 t.c4, .slice s.A4 s.n4 s.c4] (.bool (samePu t.c s.c))) := fun u hu => rsameP_any t.c s.c t.A4 s.A4 t.n4 t.c4 s.n4 s.c4 u kt.l4 kt.b4.1 kt.b4.2 kt.o4 (CellsIn.up kt.m4 hu.bel) ks.l4 ks.b4.1 ks.b4.2 ks.o4 (CellsIn.up ks.m4 hu.bel)
 obtain ⟨b1, hb1⟩ : ∃ b1, decide (t.b.r = s.b.r) = b1 := ⟨_, rfl⟩
 obtain ⟨b2, hb2⟩ : ∃ b2, decide (t.p = s.p) = b2 := ⟨_, rfl⟩
 obtain ⟨b3, hb3⟩ : ∃ b3, samePu t.c s.c = b3 := ⟨_, rfl⟩
 rw [hb1] at HBS HS
 rw [hb2] at HMS HS
 rw [hb3] at HCS HS
 have E1 : Hid (EnvX w ((w.alloc (.cells (tipA t) 37)).alloc (.cells (tipA s) 37)) [(w.heap.size + 1, oc (tipA s) 37), (w.heap.size, oc (tipA t) 37)]) := (EnvX.start w).two _ _
 clear kt mt ks ms m1 m2 l1 l2 hb1 hb2 hb3
 unfold tipV
 go_enter func19, ntmps19
 go_upto_region 1 with (fail)
 generalize (w.alloc (.cells (tipA t) 37)).alloc (.cells (tipA s) 37) = W at *
 refine rgQ [0,1,2,3,4,5] [] E1 rfl fun hw => ?_
 refine qf rfl hw ?_
 refine ql rfl (mT mH) HKT.out hw ?_
 refine qf rfl hw ?_
 refine ql rfl mH HKS.out hw ?_
 refine qc rfl func20 (fun u hu => HBS.out u (nl hu)) hw ?_
 refine qo rfl hw ?_
 refine enP fun u3 EX2 => ?_
 go_upto_region 2 with (fail)
 refine rgQ [0,1,2,3,4,5] [] EX2 rfl fun hw => ?_
 refine qf rfl hw ?_
 refine ql rfl (mT mH) HKT.out hw ?_
 refine qf rfl hw ?_
 refine ql rfl mH HKS.out hw ?_
 refine qc rfl func55 (fun u hu => HMS.out u (nl hu)) hw ?_
 refine qo rfl hw ?_
 refine enP fun u6 EX5 => ?_
 go_upto_region 3 with (fail)
 refine rgQ [0,1,2,3,4,5] [] EX5 rfl fun hw => ?_
 refine qf rfl hw ?_
 refine ql rfl (mT mH) HKT.out hw ?_
 refine qf rfl hw ?_
 refine ql rfl mH HKS.out hw ?_
 refine qc rfl func56 (fun u hu => HCS.out u (nl hu)) hw ?_
 refine qo rfl hw ?_
 refine enP fun u9 EX8 => ?_
 cases b1 with
 | false =>
  have HF : Hid (decide (t.r = s.r) = false) := HS.out
  go_upto_region 4 with (fail)
  refine rgQ [0,1,2,3,4,5,6,7] [] EX8 rfl fun hw => ?_
  refine qw 8 hw ?_
  refine enP fun u12 EX11 => ?_
  have HBE := hD (EX11.out.bel)
  go_wp2
  go_ret
  exact ⟨by rw [HF.out]; try rfl, HBE.out⟩
 | true =>
  cases b2 with
  | false =>
   have HF : Hid (decide (t.r = s.r) = false) := HS.out
   go_upto_region 4 with (fail)
   refine rgQ [0,1,2,3,4,5,6,7] [] EX8 rfl fun hw => ?_
   refine qw 8 hw ?_
   refine enP fun u12 EX11 => ?_
   have HBE := hD (EX11.out.bel)
   go_wp2
   go_ret
   exact ⟨by rw [HF.out]; try rfl, HBE.out⟩
  | true =>
   have HF : Hid (decide (t.r = s.r) = b3) := HS.out
   go_upto_region 4 with (fail)
   refine rgQ [0,1,2,3,4,5,6,7] [] EX8 rfl fun hw => ?_
   refine qw 8 hw ?_
   refine enP fun u12 EX11 => ?_
   have HBE := hD (EX11.out.bel)
   go_wp2
   go_ret
   exact ⟨by rw [HF.out]; try rfl, HBE.out⟩
structure AddC : Prop where
  add : ∀ (a b : Nat) (w : World), a < Big → b < Big → Calls prog 29 #[.agg (wcs a), .agg (wcs b)] w fun e w' => e = .returned (.tuple #[.agg (wcs ((a + b) % Big)), .bool (decide (a + b < Big))]) ∧ Below w.heap.size w w'
structure LeadsC : Prop where
  leads : ∀ (l : List (List Int)) (prev id : List Int) (A : Option Addr) (n c : Nat) (w : World), l.length = n → n ≤ 1000000 → n ≤ c → c ≤ maxLen → isIds l → isId prev → isId id → IdsIn w w.heap.size A l → Tables w → Calls prog 27 #[.slice A n c, idv prev, idv id] w fun e w' => e = .returned (.bool (leadsT l prev id)) ∧ Below w.heap.size w w'
def idxT : List (List Int) → List Int → Int
  | [], _ => -1
  | x :: r, id => if x = id then 0 else if 0 ≤ idxT r id then idxT r id + 1 else -1
theorem idxT_hit : ∀ (l : List (List Int)) (id : List Int) (k : Nat), k < l.length → (∀ j, j < k → l.getD j [] ≠ id) → l.getD k [] = id → idxT l id = (k : Int)
 | [], id, k, hk, _, _ => by cases hk
 | x :: r, id, 0, _, _, h => by
  unfold idxT
  rw [if_pos (show x = id from h)]
  rfl
 | x :: r, id, k + 1, hk, hn, h => by
  unfold idxT
  have hr := idxT_hit r id k (by simpa using hk) (fun j hj => hn (j + 1) (by omega)) h
  rw [if_neg (show ¬ x = id from hn 0 (by omega)), hr, if_pos (by omega)]
  rfl
theorem idxT_none : ∀ (l : List (List Int)) (id : List Int), (∀ j, j < l.length → l.getD j [] ≠ id) → idxT l id = -1
 | [], id, _ => rfl
 | x :: r, id, hn => by
  unfold idxT
  have hr := idxT_none r id (fun j hj => hn (j + 1) (by simpa using hj))
  rw [if_neg (show ¬ x = id from hn 0 (by simp)), hr, if_neg (by decide)]
theorem idxT_mem : ∀ (l : List (List Int)) (id : List Int), 0 ≤ idxT l id ↔ id ∈ l
 | [], id => ⟨fun h => absurd (show (0 : Int) ≤ -1 from h) (by decide), fun h => by cases h⟩
 | x :: r, id => by
  unfold idxT
  by_cases hx : x = id
  · rw [if_pos hx]
    exact ⟨fun _ => by rw [hx]; exact List.mem_cons_self .., fun _ => Int.le_refl _⟩
  · rw [if_neg hx]
    have hr := idxT_mem r id
    by_cases h0 : 0 ≤ idxT r id
    · rw [if_pos h0]
      exact ⟨fun _ => mT (hr.1 h0), fun _ => by omega⟩
    · rw [if_neg h0]
      exact ⟨fun h => absurd h (by decide), fun h => by
       rcases List.mem_cons.1 h with e | e
       · exact absurd e.symm hx
       · exact absurd (hr.2 e) h0⟩
theorem index_any (l : List (List Int)) (id : List Int) (A : Option Addr) (n c : Nat) (w : World) (hl : l.length = n) (hn : n ≤ 1000000) (hI : isIds l) (hA : IdsIn w w.heap.size A l) (hid : isId id) :
  Rz 119 #[.slice A n c, idv id] w (.int .i64 (idxT l id)) := by
 unfold Rz
 have HL := hD hl
 have HIA := hD (And.intro hI hA)
 have HD := hD hid
 have E1 : Hid (EnvX w (w.alloc (.cells (arrB 32 id) 23)) [(w.heap.size, oc (arrB 32 id) 23)]) := (EnvX.start w).new _
 clear hl hI hA hid
 unfold idv
 go_enter func119, ntmps119
 go_upto_region 2 with (fail)
 generalize w.alloc (.cells (arrB 32 id) 23) = W at *
 go_loopw [8] (fun iv u => ∃ k : Nat, k ≤ n ∧ iv = .int .i64 (k : Int) ∧ Hid ((∀ j, j < k → l.getD j [] ≠ id) ∧ EnvX w u [(w.heap.size, oc (arrB 32 id) 23)])) (fun iv _ => n - (intOf iv).toNat)
 case atStart => exact ⟨0, by omega, rfl, (fun j hj => by omega), E1.out⟩
 case round =>
  obtain ⟨k, hk, rfl, hinv⟩ := hrel
  have HNO := hD hinv.out.1
  have EK := hD hinv.out.2
  clear hinv E1
  by_cases hlt : k < n
  · have hlt2 : (k : Int) < (n : Int) := by omega
    have hkl : k < l.length := by rw [HL.out]; exact hlt
    obtain ⟨ad, rfl, -⟩ := HIA.out.2.load HIA.out.1 hkl
    have HLD : Hid (∀ u, Below w.heap.size w u → (loadVar 23 (ad.add (k * 32))).run prog u = .ok (idv (l.getD k [])) u) := fun u hu => by
      obtain ⟨ad2, e, h⟩ := (HIA.out.2.up hu).load HIA.out.1 hkl
      cases e
      exact h
    have HX : Hid ((l.getD k []).length = 32) := (HIA.out.1.get hkl).1
    have HKN := hD hlt
    by_cases hx : l.getD k [] = id
    · have HEQ : Hid (eqL id (l.getD k []) = true) := decide_eq_true hx.symm
      have HR : Hid (idxT l id = (k : Int)) := idxT_hit l id k hkl HNO.out hx
      clear hx hkl hlt
      generalize l.getD k [] = x at *
      go_upto_region 4 with (fail)
      refine rgK [0,1,2,3,4,5] 0 EK rfl fun hw => ?_
      refine qv rfl (fun u hu => load_run_op u (box_load hu mH HD.out.1) rfl) hw ?_
      refine qw 2 hw ?_
      refine qv rfl (fun u hu => idxSl_op underlying30 aggIdT.size HKN.out u rfl rfl) hw ?_
      refine qv rfl (fun u hu => load_any_op u (HLD.out u hu.bel) rfl) hw ?_
      refine qv rfl (fun u hu => eqlb_op HD.out.1 HX.out HEQ.out u rfl rfl) hw ?_
      refine eH fun u53 EX52 => ?_
      go_wp2
      go_ret
      exact ⟨by rw [HR.out]; try rfl, EX52.out.bel⟩
    · have HEQ : Hid (eqL id (l.getD k []) = false) := decide_eq_false (fun e => hx e.symm)
      have HN2 : Hid (∀ j, j < k + 1 → l.getD j [] ≠ id) := fun j hj => by
       rcases Nat.lt_or_ge j k with h | h
       · exact HNO.out j h
       · rw [show j = k by omega]; exact hx
      clear hx hkl hlt
      generalize l.getD k [] = x at *
      go_upto_region 4 with (fail)
      refine rgK [0,1,2,3,4,5] 0 EK rfl fun hw => ?_
      refine qv rfl (fun u hu => load_run_op u (box_load hu mH HD.out.1) rfl) hw ?_
      refine qw 2 hw ?_
      refine qv rfl (fun u hu => idxSl_op underlying30 aggIdT.size HKN.out u rfl rfl) hw ?_
      refine qv rfl (fun u hu => load_any_op u (HLD.out u hu.bel) rfl) hw ?_
      refine qv rfl (fun u hu => eqlb_op HD.out.1 HX.out HEQ.out u rfl rfl) hw ?_
      refine eH fun u53 EX52 => ?_
      go_wp2
      go_roundw
      case rel => exact ⟨k + 1, by omega, by go_num, HN2.out, EX52.out⟩
      case measure => simp [intOf]; omega
  · obtain rfl : k = n := by omega
    have hge : ¬ (k : Int) < (k : Int) := by omega
    have HR : Hid (idxT l id = -1) := idxT_none l id (fun j hj => HNO.out j (by rw [← HL.out]; exact hj))
    have HB := hD (EK.out.bel)
    clear EK
    go_wp2
    go_ret
    exact ⟨by rw [HR.out]; try rfl, HB.out⟩
theorem contains_any (l : List (List Int)) (id : List Int) (A : Option Addr) (n c : Nat) (w : World) (hl : l.length = n) (hn : n ≤ 1000000) (hI : isIds l) (hA : IdsIn w w.heap.size A l) (hid : isId id) :
  Rz 68 #[.slice A n c, idv id] w (.bool (decide (id ∈ l))) := by
 unfold Rz
 have HIX : Hid (Rb w 119 #[.slice A n c, idv id] (.int .i64 (idxT l id))) := fun u hu => index_any l id A n c u hl hn hI (hA.up hu) hid
 have HD := hD hid
 have HB : Hid (decide (0 ≤ idxT l id) = decide (id ∈ l)) := decide_eq_decide.2 (idxT_mem l id)
 have E1 : Hid (EnvX w (w.alloc (.cells (arrB 32 id) 23)) [(w.heap.size, oc (arrB 32 id) 23)]) := (EnvX.start w).new _
 generalize idxT l id = q at *
 clear hl hI hA hid
 unfold idv
 go_enter func68, ntmps68
 go_upto_region 1 with (fail)
 generalize w.alloc (.cells (arrB 32 id) 23) = W at *
 refine rgQ [0,1,2,3,4] [] E1 rfl fun hw => ?_
 refine qo rfl hw ?_
 refine qv rfl (fun u hu => load_run_op u (box_load hu mH HD.out.1) rfl) hw ?_
 refine qc rfl func119 (fun u hu => HIX.out u hu.bel) hw ?_
 refine qv rfl (fun u hu => geZ_op u HB.out rfl rfl) hw ?_
 refine qo rfl hw ?_
 refine enP fun u3 EX2 => ?_
 go_wp2
 go_ret
 exact ⟨rfl, EX2.out.bel⟩
theorem link_leads (l : List (List Int)) (prev id : List Int) (A : Option Addr) (n c : Nat) (w : World) (hl : l.length = n) (hn : n ≤ 1000000) (hI : isIds l) (hA : IdsIn w w.heap.size A l) (hp : isId prev) (hid : isId id) :
   Rz 27 #[.slice A n c, idv prev, idv id] w (.bool (leadsT l prev id)) := by
 unfold Rz
 have HCN : Hid (Rb w 68 #[.slice A n c, idv id] (.bool (decide (id ∈ l)))) := fun u hu => contains_any l id A n c u hl hn hI (hA.up hu) hid
 have HP := hD hp
 have HD := hD hid
 have E1 : Hid (EnvX w ((w.alloc (.cells (arrB 32 prev) 23)).alloc (.cells (arrB 32 id) 23)) [(w.heap.size + 1, oc (arrB 32 id) 23), (w.heap.size, oc (arrB 32 prev) 23)]) := (EnvX.start w).two _ _
 clear hl hI hA hp hid
 by_cases hx : prev = id
 · have HEQ : Hid (eqL id prev = true) := decide_eq_true hx.symm
   have HR : Hid (leadsT l prev id = true) := decide_eq_true (.inl hx)
   clear hx
   unfold idv
   go_enter func27, ntmps27
   go_upto_region 1 with (fail)
   generalize (w.alloc (.cells (arrB 32 prev) 23)).alloc (.cells (arrB 32 id) 23) = W at *
   refine rgQ [0,1,2,3,4,5,6,7,8] [] E1 rfl fun hw => ?_
   refine qv rfl (fun u hu => load_run_op u (box_load hu mH HD.out.1) rfl) hw ?_
   refine qv rfl (fun u hu => load_run_op u (box_load hu (mT mH) HP.out.1) rfl) hw ?_
   refine qv rfl (fun u hu => eqlb_op HD.out.1 HP.out.1 HEQ.out u rfl rfl) hw ?_
   refine qw 6 hw ?_
   refine enP fun u3 EX2 => ?_
   go_wp2
   go_ret
   exact ⟨by rw [HR.out]; try rfl, EX2.out.bel⟩
 · have HEQ : Hid (eqL id prev = false) := decide_eq_false (fun e => hx e.symm)
   have HR : Hid (leadsT l prev id = decide (id ∈ l)) := decide_eq_decide.2 ⟨fun h => h.resolve_left hx, fun h => .inr h⟩
   clear hx
   generalize decide (id ∈ l) = b at *
   unfold idv
   go_enter func27, ntmps27
   go_upto_region 1 with (fail)
   generalize (w.alloc (.cells (arrB 32 prev) 23)).alloc (.cells (arrB 32 id) 23) = W at *
   refine rgQ [0,1,2,3,4,5,6,7,8] [] E1 rfl fun hw => ?_
   refine qv rfl (fun u hu => load_run_op u (box_load hu mH HD.out.1) rfl) hw ?_
   refine qv rfl (fun u hu => load_run_op u (box_load hu (mT mH) HP.out.1) rfl) hw ?_
   refine qv rfl (fun u hu => eqlb_op HD.out.1 HP.out.1 HEQ.out u rfl rfl) hw ?_
   refine qw 2 hw ?_
   refine qv rfl (fun u hu => load_run_op u (box_load hu mH HD.out.1) rfl) hw ?_
   refine qc rfl func68 (fun u hu => HCN.out u hu.bel) hw ?_
   refine qw 2 hw ?_
   refine enP fun u3 EX2 => ?_
   go_wp2
   go_ret
   exact ⟨by rw [HR.out]; try rfl, EX2.out.bel⟩
theorem addCb : AddC := ⟨fun a b w ha hb => add_any a b w ha hb⟩
theorem leadsC : LeadsC := ⟨fun l prev id A n c w hl hn _ _ hI hp hid hA _ => link_leads l prev id A n c w hl hn hI hA hp hid⟩
theorem midTip_r {t s : TipM} (h : t.r = s.r) (k : midTip s) (k2 : midTxs s.b.t) : midTip t ∧ midTxs t.b.t := by
 have h1 : t.b.l = s.b.l := congrArg (fun t : TipR => t.b.l) h
 have h2 : t.p = s.p := congrArg (fun t : TipR => t.p) h
 have h3 : t.c = s.c := congrArg (fun t : TipR => t.c) h
 have h4 : rsT t.b.t = rsT s.b.t := congrArg (fun t : TipR => t.b.t) h
 exact ⟨⟨by rw [h1]; exact k.1, by rw [h2]; exact k.2.1, by rw [h3]; exact k.2.2.1, midTxs_r h4 k2⟩, midTxs_r h4 k2⟩
theorem nonce_blk {w : World} {b : BlkM} (k : BlkOk w b) {n : Nat} (hn : n < 18446744073709551616) : BlkOk w { b with h := { b.h with nonce := n } } :=
 ⟨⟨k.h.1, k.h.2.1, k.h.2.2.1, k.h.2.2.2.1, k.h.2.2.2.2.1, k.h.2.2.2.2.2.1, k.h.2.2.2.2.2.2.1, hn⟩, k.l1, k.b1, k.o1, k.m1, k.l2, k.b2, k.m2⟩
section
variable (H : BlockC) (G : AwkC) (GM : MayC) (GW : WorkC) (GR : MRootC) (GA : AddC) (GL : LeadsC) (t : TipM) (b : BlkM) (nonce : Nat) (w : World) (kt : TipOk w t) (kb : BlkOk w b) (hno : nonce < 18446744073709551616) (ht : Tables w)
include H G GM GW GR GA GL kt kb hno ht
theorem law_bpushes_fewt (k1 : fewP t = false) :
  Rz 5 #[tipV t, blkV b, .int .u64 (nonce : Int)] w (.bool true) := by
 unfold Rz
 have HT := hD ht
 have HH := hD H
 have GG := hD G
 have KT := hD kt
 have KB := hD kb
 have HKt : Hid (lenH t.b.h) := kt.b.h.len
 have HKb : Hid (lenH b.h) := kb.h.len
 have HFP : Hid (fewP t = false) := k1
 have HFK : Hid (fewK b = fewK b) := rfl
 have HAW : Hid (Rt w 10 #[] (.bool true)) := fun u hu => bawake_any H G u (ht.below hu.bel)
 have E1 : Hid (EnvX w ((w.alloc (.cells (tipA t) 37)).alloc (.cells (blkA b) 33)) [(w.heap.size + 1, oc (blkA b) 33), (w.heap.size, oc (tipA t) 37)]) := (EnvX.start w).two _ _
 clear ht H G kt kb k1 GM GW GR GA GL hno
 unfold tipV blkV
 go_enter func5, ntmps5
 go_upto_region 1 with (fail)
 generalize (w.alloc (.cells (tipA t) 37)).alloc (.cells (blkA b) 33) = W at *
 refine rgQ [0,1] [] E1 rfl fun hw => ?_
 refine qc rfl func10 (fun u hu => HAW.out u (nl hu)) hw ?_
 refine qo rfl hw ?_
 refine enP fun u3 EX2 => ?_
 go_upto_region 2 with (fail)
 refine rgQ [0,1,2] [] EX2 rfl fun hw => ?_
 refine ql rfl (mT mH) HKt.out hw ?_
 refine qc (args := #[tipV t]) (v := .bool false) rfl func11 (fun u hu => by have h1 := fewtip_any t u (KT.out.up hu.bel); rwa [HFP.out] at h1) hw ?_
 refine qo rfl hw ?_
 refine enP fun u6 EX5 => ?_
 go_upto_region 3 with (fail)
 refine rgQ [0,1,2] [] EX5 rfl fun hw => ?_
 refine ql rfl mH HKb.out hw ?_
 refine qc (args := #[blkV b]) (v := .bool (fewK b)) rfl func12 (fun u hu => by have h1 := fewblk_any b u (KB.out.up hu.bel); rwa [HFK.out] at h1) hw ?_
 refine qo rfl hw ?_
 refine enP fun u9 EX8 => ?_
 go_upto_region 4 with (fail)
 refine rgQ [0,1,2,3,4,5,6,7,8,9] [] EX8 rfl fun hw => ?_
 refine qw 10 hw ?_
 refine enP fun u12 EX11 => ?_
 go_upto_region 5 with (fail)
 refine rgQ [0,1] [] EX11 rfl fun hw => ?_
 refine qw 2 hw ?_
 refine enP fun u15 EX14 => ?_
 have HBE := hD (EX14.out.bel)
 go_wp2
 go_ret
 exact ⟨rfl, HBE.out⟩
theorem law_bpushes_fewb (k1 : fewP t = true) (k2 : fewK b = false) :
  Rz 5 #[tipV t, blkV b, .int .u64 (nonce : Int)] w (.bool true) := by
 unfold Rz
 have HT := hD ht
 have HH := hD H
 have GG := hD G
 have KT := hD kt
 have KB := hD kb
 have HKt : Hid (lenH t.b.h) := kt.b.h.len
 have HKb : Hid (lenH b.h) := kb.h.len
 have HFP : Hid (fewP t = true) := k1
 have HFK : Hid (fewK b = false) := k2
 have HAW : Hid (Rt w 10 #[] (.bool true)) := fun u hu => bawake_any H G u (ht.below hu.bel)
 have E1 : Hid (EnvX w ((w.alloc (.cells (tipA t) 37)).alloc (.cells (blkA b) 33)) [(w.heap.size + 1, oc (blkA b) 33), (w.heap.size, oc (tipA t) 37)]) := (EnvX.start w).two _ _
 clear ht H G kt kb k1 k2 GM GW GR GA GL hno
 unfold tipV blkV
 go_enter func5, ntmps5
 go_upto_region 1 with (fail)
 generalize (w.alloc (.cells (tipA t) 37)).alloc (.cells (blkA b) 33) = W at *
 refine rgQ [0,1] [] E1 rfl fun hw => ?_
 refine qc rfl func10 (fun u hu => HAW.out u (nl hu)) hw ?_
 refine qo rfl hw ?_
 refine enP fun u3 EX2 => ?_
 go_upto_region 2 with (fail)
 refine rgQ [0,1,2] [] EX2 rfl fun hw => ?_
 refine ql rfl (mT mH) HKt.out hw ?_
 refine qc (args := #[tipV t]) (v := .bool true) rfl func11 (fun u hu => by have h1 := fewtip_any t u (KT.out.up hu.bel); rwa [HFP.out] at h1) hw ?_
 refine qo rfl hw ?_
 refine enP fun u6 EX5 => ?_
 go_upto_region 3 with (fail)
 refine rgQ [0,1,2] [] EX5 rfl fun hw => ?_
 refine ql rfl mH HKb.out hw ?_
 refine qc (args := #[blkV b]) (v := .bool false) rfl func12 (fun u hu => by have h1 := fewblk_any b u (KB.out.up hu.bel); rwa [HFK.out] at h1) hw ?_
 refine qo rfl hw ?_
 refine enP fun u9 EX8 => ?_
 go_upto_region 4 with (fail)
 refine rgQ [0,1,2,3,4,5,6,7,8,9] [] EX8 rfl fun hw => ?_
 refine qw 10 hw ?_
 refine enP fun u12 EX11 => ?_
 go_upto_region 5 with (fail)
 refine rgQ [0,1] [] EX11 rfl fun hw => ?_
 refine qw 2 hw ?_
 refine enP fun u15 EX14 => ?_
 have HBE := hD (EX14.out.bel)
 go_wp2
 go_ret
 exact ⟨rfl, HBE.out⟩
theorem law_bpushes_err (k1 : fewP t = true) (k2 : fewK b = true) {r1 : TipR} {e1 : Nat} (hp : pushK t.r b.r = (r1, e1 + 1)) :
  Rz 5 #[tipV t, blkV b, .int .u64 (nonce : Int)] w (.bool true) := by
 unfold Rz
 have HT := hD ht
 have HH := hD H
 have GG := hD G
 have KT := hD kt
 have KB := hD kb
 have HKt : Hid (lenH t.b.h) := kt.b.h.len
 have HKb : Hid (lenH b.h) := kb.h.len
 have HFP : Hid (fewP t = true) := k1
 have HFK : Hid (fewK b = true) := k2
 have HAW : Hid (Rt w 10 #[] (.bool true)) := fun u hu => bawake_any H G u (ht.below hu.bel)
 have E1 : Hid (EnvX w ((w.alloc (.cells (tipA t) 37)).alloc (.cells (blkA b) 33)) [(w.heap.size + 1, oc (blkA b) 33), (w.heap.size, oc (tipA t) 37)]) := (EnvX.start w).two _ _
 clear ht H G kt kb k1 k2 GM GW GR GA GL hno
 have HM1 := hD (fewP.mid HFP.out)
 have HM2 := hD (fewK.mid HFK.out)
 have HP1 := hD hp
 have HR1 : Hid (r1 = t.r) := push_err hp
 clear hp
 unfold tipV blkV
 go_enter func5, ntmps5
 go_upto_region 1 with (fail)
 generalize (w.alloc (.cells (tipA t) 37)).alloc (.cells (blkA b) 33) = W at *
 refine rgQ [0,1] [] E1 rfl fun hw => ?_
 refine qc rfl func10 (fun u hu => HAW.out u (nl hu)) hw ?_
 refine qo rfl hw ?_
 refine enP fun u3 EX2 => ?_
 go_upto_region 2 with (fail)
 refine rgQ [0,1,2] [] EX2 rfl fun hw => ?_
 refine ql rfl (mT mH) HKt.out hw ?_
 refine qc (args := #[tipV t]) (v := .bool true) rfl func11 (fun u hu => by have h1 := fewtip_any t u (KT.out.up hu.bel); rwa [HFP.out] at h1) hw ?_
 refine qo rfl hw ?_
 refine enP fun u6 EX5 => ?_
 go_upto_region 3 with (fail)
 refine rgQ [0,1,2] [] EX5 rfl fun hw => ?_
 refine ql rfl mH HKb.out hw ?_
 refine qc (args := #[blkV b]) (v := .bool true) rfl func12 (fun u hu => by have h1 := fewblk_any b u (KB.out.up hu.bel); rwa [HFK.out] at h1) hw ?_
 refine qo rfl hw ?_
 refine enP fun u9 EX8 => ?_
 go_upto_region 4 with (fail)
 refine rgQ [0,1,2,3,4,5,6,7,8,9] [] EX8 rfl fun hw => ?_
 refine qw 10 hw ?_
 refine enP fun u12 EX11 => ?_
 go_upto_region 6 with (fail)
 refine rgQ [0,1] [2,3,4,5,6,7,8] EX11 rfl fun hw => ?_
 refine ql rfl (mT mH) HKt.out hw ?_
 refine ql rfl mH HKb.out hw ?_
 refine wpG_nil <| (hOp_turn (gd := none) (R := fun x M' => ∃ tq N, x = .tuple #[.agg (tipA tq), .int .i64 ((e1 + 1 : Nat) : Int)] ∧ M' = N ++ [(w.heap.size + 1, oc (blkA b) 33), (w.heap.size, oc (tipA t) 37)] ∧ KeptB w N (IsTip (r1) tq) ∧ ∃ vq, IsTip (r1) tq vq) rfl rfl rfl rfl (fun u hu => OUpon_call (fid := 17) (xs := #[.tmp 38, .tmp 39]) (args := #[tipV t, blkV b]) rfl func17 rfl rfl u (tip_turn (by have h := HH.out.push t b u (KT.out.up hu.bel) HM1.out.1 (KB.out.up hu.bel) HM2.out.1 (HT.out.below hu.bel); rw [HP1.out] at h; simp only at h; exact h) hu)) ?_)
 rintro _ _ ⟨u6, N6, rfl, rfl, hk6, hv6⟩ he14; intro K' hK'; go_big_quiet_op; go_big_quiet_on
 have HT6 := hD hk6
 have HV6 := hD hv6
 have HK6 : Hid (lenH u6.b.h) := by obtain ⟨v, hv⟩ := HV6.out; exact hv.2.b.h.len
 clear hk6 hv6
 refine phE [3,4,5] [6,7,8] he14 fun hw => ?_
 refine qw 3 hw ?_
 refine wpG_nil <| qn rfl (new_tip _) fun g6 HGg6 he16 => ?_
 change lexH _ _ _ _ _ _ ((g6, oc (tipA noTipM) 37) :: (N6 ++ ((w.heap.size + 1, oc (blkA b) 33) :: ((w.heap.size, oc (tipA t) 37) :: []))))
 refine (sh rfl HGg6 (infoTip _ (tipA_size HK6.out)) (tip_sizes HK6.out) (tipA_one _) ?_)
 intro he17
 refine phE [8] [] he17 fun hw => ?_
 refine qo rfl hw ?_
 refine enP fun u20 EX19 => ?_
 go_upto_region 7 with (fail)
 refine rgQ [0,1] [] EX19 rfl fun hw => ?_
 refine qo rfl hw ?_
 refine qv (v := .bool true) rfl (fun u hu => neErr_op u (decide_eq_true (by omega)) rfl rfl) hw ?_
 refine enP fun u23 EX22 => ?_
 have HR6 : Hid (u6.r = t.r) := by obtain ⟨v, hv⟩ := HV6.out; exact hv.1.trans HR1.out
 have HM6 := hD (midTip_r HR6.out HM1.out.1 HM1.out.2.1)
 go_upto_region 8 with (fail)
 refine rgQ [0,1,2,3] [] EX22 rfl fun hw => ?_
 refine ql rfl mH HK6.out hw ?_
 refine ql rfl (mT (mR (mT mH))) HKt.out hw ?_
 refine qc (args := #[tipV u6, tipV t]) (v := .bool true) rfl func19 (fun u hu => by have h := rbtips_any u6 t u (HT6.out u _ hu (fun y MEM => (mT (mL MEM)))).2 HM6.out (KT.out.up hu.bel) ⟨HM1.out.1, HM1.out.2.1⟩; rw [HR6.out, decide_eq_true rfl] at h; exact h) hw ?_
 refine qo rfl hw ?_
 refine enP fun u26 EX25 => ?_
 go_upto_region 9 with (fail)
 refine rgQ [0,1] [] EX25 rfl fun hw => ?_
 refine qw 2 hw ?_
 refine enP fun u29 EX28 => ?_
 have HBE := hD (EX28.out.bel)
 go_wp2
 go_ret
 exact ⟨rfl, HBE.out⟩
theorem law_bpushes_main (k1 : fewP t = true) (k2 : fewK b = true) {r1 : TipR} (hp : pushK t.r b.r = (r1, 0)) {r2 : TipR} {e2 : Nat} (hp2 : pushK t.r { b.r with h := { b.h with nonce := nonce } } = (r2, e2)) :
  Rz 5 #[tipV t, blkV b, .int .u64 (nonce : Int)] w (.bool true) := by
 unfold Rz
 have HT := hD ht
 have HH := hD H
 have GG := hD G
 have KT := hD kt
 have KB := hD kb
 have HKt : Hid (lenH t.b.h) := kt.b.h.len
 have HKb : Hid (lenH b.h) := kb.h.len
 have HFP : Hid (fewP t = true) := k1
 have HFK : Hid (fewK b = true) := k2
 have HAW : Hid (Rt w 10 #[] (.bool true)) := fun u hu => bawake_any H G u (ht.below hu.bel)
 have E1 : Hid (EnvX w ((w.alloc (.cells (tipA t) 37)).alloc (.cells (blkA b) 33)) [(w.heap.size + 1, oc (blkA b) 33), (w.heap.size, oc (tipA t) 37)]) := (EnvX.start w).two _ _
 have HGM := hD GM
 have HGW := hD GW
 have HGR := hD GR
 have HGA := hD GA
 have HGL := hD GL
 have hok := push_ok hp
 have hr1 := hok.2.2.2.2.2
 have hP : okT (rootP t.p) := root_ok kt.o3
 have hap : okTs (appT t.p (leafH b.h)) := app_ok kt.o3 (leafH_ok _)
 have hQ : okT (rootP (appT t.p (leafH b.h))) := root_ok hap
 have haw : (rootP (appT t.p (leafH b.h))).w = ((rootP t.p).w + workH b.h) % Big := app_w (fun y hy => (kt.o3 y hy).2.1) (fun y hy => (hap y hy).2.1)
 have han : (rootP (appT t.p (leafH b.h))).n = IntKind.i64.wrap ((rootP t.p).n + 1) := app_n (fun y hy => (kt.o3 y hy).2.2) (fun y hy => (hap y hy).2.2) rfl
 have hprev : b.h.prev = idH t.b.h := congrArg Hd.prev hok.1
 have hwork : b.h.work = (rootP t.p).w := congrArg Hd.work hok.1
 have hpast : b.h.past = (rootP t.p).h := congrArg Hd.past hok.1
 have hnon := push_nonce hp nonce
 have hnon2 : (pushK t.r { b.r with h := { b.r.h with nonce := nonce } }) = (r2, e2) := hp2
 rw [hnon2] at hnon
 have HNM : Hid (decide (((e2 : Nat) : Int) = 0) = mayH { b.h with nonce := nonce }) := by
  show _ = _
  rw [Bool.eq_iff_iff, decide_eq_true_eq]
  exact ⟨fun h => hnon.1 (by show e2 = 0; omega), fun h => by have : e2 = 0 := hnon.2 h; omega⟩
 obtain ⟨P, hPe⟩ : ∃ P, rootP t.p = P := ⟨_, rfl⟩
 obtain ⟨Q, hQe⟩ : ∃ Q, rootP (appT t.p (leafH b.h)) = Q := ⟨_, rfl⟩
 obtain ⟨wk, hwk⟩ : ∃ wk, workH b.h = wk := ⟨_, rfl⟩
 obtain ⟨id0, hid0⟩ : ∃ id0, idH t.b.h = id0 := ⟨_, rfl⟩
 rw [hPe] at hP haw han hwork hpast
 rw [hQe] at hQ haw han
 rw [hwk] at haw
 rw [hid0] at hprev
 have HP0 := hD hP
 have HQ0 := hD hQ
 have HPE := hD hPe
 have HQE := hD hQe
 have HWKE := hD hwk
 have HIDE := hD hid0
 have HWL : Hid (wk < Big) := by show _ < _; rw [← hwk]; exact workH_lt _
 have HI0 : Hid (isId id0) := by rw [← hid0]; exact idH_id _
 have HAWE := hD haw
 have HANE := hD han
 have HBE1 := hD (And.intro hprev (And.intro hwork hpast))
 have HLE0 : Hid (leadsT b.l b.h.prev id0 = true) := by show _ = _; unfold leadsT; exact decide_eq_true (.inl hprev)
 have HOBH : Hid (okHd b.h) := kb.h
 have HAPP := hD hap
 have HR1 := hD hr1
 obtain ⟨mw, hmw⟩ : ∃ mw, (P.w + wk) % Big = mw := ⟨_, rfl⟩
 obtain ⟨mb, hmb⟩ : ∃ mb, decide (P.w + wk < Big) = mb := ⟨_, rfl⟩
 have HMW : Hid (Q.w = mw ∧ mw < Big) := ⟨by rw [haw, hmw], by rw [← hmw]; exact Nat.mod_lt _ (by unfold Big; decide)⟩
 have HADD : Hid (Rt w 29 #[.agg (wcs P.w), .agg (wcs wk)] (.tuple #[.agg (wcs mw), .bool mb])) := fun u hu => by
  have h := GA.add P.w wk u hP.2.1 (by rw [← hwk]; exact workH_lt _)
  rw [hmw, hmb] at h
  exact h
 obtain ⟨b1, hb1⟩ : ∃ b1 : BlkM, b1 = { b with h := { b.h with nonce := nonce } } := ⟨_, rfl⟩
 have HP3 : Hid (pushK t.r b1.r = (r2, e2)) := by rw [hb1]; exact hp2
 have HB1 : Hid (∀ u, BlkOk u b → BlkOk u b1) := fun u k => by rw [hb1]; exact nonce_blk k hno
 have HKb1 : Hid (lenH b1.h) := by rw [hb1]; exact kb.h.len
 have HMB : Hid (midBlk b1) := by rw [hb1]; exact (fewK.mid k2).1
 have HO1 : Hid (okHd b1.h) := (HB1.out w kb).h
 obtain ⟨bm, hbm⟩ : ∃ bm, mayH b1.h = bm := ⟨_, rfl⟩
 have HBM := hD hbm
 have HNB : Hid (decide (((e2 : Nat) : Int) = 0) = bm) := by show _ = _; rw [HNM.out, ← hbm, hb1]
 have HPUT : Hid ((blkA b).toList.take 134 ++ [.int .u64 (nonce : Int)] ++ (blkA b).toList.drop (134 + 1) = (blkA b1).toList) := by rw [hb1]; exact putHd_nonce kb.h.len nonce _
 clear ht H G kt kb k1 k2 GM GW GR GA GL hno hok hr1 hP hap hQ haw han hprev hwork hpast hnon hnon2 hPe hQe hwk hid0 HNM hmw hmb hb1 hbm hp2
 have HM1 := hD (fewP.mid HFP.out)
 have HM2 := hD (fewK.mid HFK.out)
 have HP1 := hD hp
 clear hp
 unfold tipV blkV
 go_enter func5, ntmps5
 go_upto_region 1 with (fail)
 generalize (w.alloc (.cells (tipA t) 37)).alloc (.cells (blkA b) 33) = W at *
 refine rgQ [0,1] [] E1 rfl fun hw => ?_
 refine qc rfl func10 (fun u hu => HAW.out u (nl hu)) hw ?_
 refine qo rfl hw ?_
 refine enP fun u3 EX2 => ?_
 go_upto_region 2 with (fail)
 refine rgQ [0,1,2] [] EX2 rfl fun hw => ?_
 refine ql rfl (mT mH) HKt.out hw ?_
 refine qc (args := #[tipV t]) (v := .bool true) rfl func11 (fun u hu => by have h1 := fewtip_any t u (KT.out.up hu.bel); rwa [HFP.out] at h1) hw ?_
 refine qo rfl hw ?_
 refine enP fun u6 EX5 => ?_
 go_upto_region 3 with (fail)
 refine rgQ [0,1,2] [] EX5 rfl fun hw => ?_
 refine ql rfl mH HKb.out hw ?_
 refine qc (args := #[blkV b]) (v := .bool true) rfl func12 (fun u hu => by have h1 := fewblk_any b u (KB.out.up hu.bel); rwa [HFK.out] at h1) hw ?_
 refine qo rfl hw ?_
 refine enP fun u9 EX8 => ?_
 go_upto_region 4 with (fail)
 refine rgQ [0,1,2,3,4,5,6,7,8,9] [] EX8 rfl fun hw => ?_
 refine qw 10 hw ?_
 refine enP fun u12 EX11 => ?_
 go_upto_region 6 with (fail)
 refine rgQ [0,1] [2,3,4,5,6,7,8] EX11 rfl fun hw => ?_
 refine ql rfl (mT mH) HKt.out hw ?_
 refine ql rfl mH HKb.out hw ?_
 refine wpG_nil <| (hOp_turn (gd := none) (R := fun x M' => ∃ tq N, x = .tuple #[.agg (tipA tq), .int .i64 ((0 : Nat) : Int)] ∧ M' = N ++ [(w.heap.size + 1, oc (blkA b) 33), (w.heap.size, oc (tipA t) 37)] ∧ KeptB w N (IsTip (r1) tq) ∧ ∃ vq, IsTip (r1) tq vq) rfl rfl rfl rfl (fun u hu => OUpon_call (fid := 17) (xs := #[.tmp 38, .tmp 39]) (args := #[tipV t, blkV b]) rfl func17 rfl rfl u (tip_turn (by have h := HH.out.push t b u (KT.out.up hu.bel) HM1.out.1 (KB.out.up hu.bel) HM2.out.1 (HT.out.below hu.bel); rw [HP1.out] at h; simp only at h; exact h) hu)) ?_)
 rintro _ _ ⟨u6, N6, rfl, rfl, hk6, hv6⟩ he14; intro K' hK'; go_big_quiet_op; go_big_quiet_on
 have HT6 := hD hk6
 have HV6 := hD hv6
 have HK6 : Hid (lenH u6.b.h) := by obtain ⟨v, hv⟩ := HV6.out; exact hv.2.b.h.len
 clear hk6 hv6
 refine phE [3,4,5] [6,7,8] he14 fun hw => ?_
 refine qw 3 hw ?_
 refine wpG_nil <| qn rfl (new_tip _) fun g6 HGg6 he16 => ?_
 change lexH _ _ _ _ _ _ ((g6, oc (tipA noTipM) 37) :: (N6 ++ ((w.heap.size + 1, oc (blkA b) 33) :: ((w.heap.size, oc (tipA t) 37) :: []))))
 refine (sh rfl HGg6 (infoTip _ (tipA_size HK6.out)) (tip_sizes HK6.out) (tipA_one _) ?_)
 intro he17
 refine phE [8] [] he17 fun hw => ?_
 refine qo rfl hw ?_
 refine enP fun u20 EX19 => ?_
 go_upto_region 7 with (fail)
 refine rgQ [0,1] [] EX19 rfl fun hw => ?_
 refine qo rfl hw ?_
 refine qv (v := .bool false) rfl (fun u hu => neErr_op u (decide_eq_false (by omega)) rfl rfl) hw ?_
 refine enP fun u23 EX22 => ?_
 have HR6 : Hid (u6.r = r1) := by obtain ⟨v, hv⟩ := HV6.out; exact hv.1
 have HM6 : Hid (midTip u6) := push_mid KT.out HFP.out HFK.out HP1.out HR6.out
 have HU6 : Hid (u6.p = appT t.p (leafH b.h)) := (congrArg (fun t : TipR => t.p) HR6.out).trans (congrArg (fun t : TipR => t.p) HR1.out)
 go_upto_region 10 with (fail)
 refine rgQ [0] [1,2] EX22 rfl fun hw => ?_
 refine ql rfl (mT (mR mH)) HKb.out hw ?_
 refine wpG_nil <| qn rfl (new_blk _) fun g10 HGg10 he25 => ?_
 change lexH _ _ _ _ _ _ ((g10, oc (blkA noBlkM) 33) :: ((g6, oc (tipA u6) 37) :: (N6 ++ ((w.heap.size + 1, oc (blkA b) 33) :: ((w.heap.size, oc (tipA t) 37) :: [])))))
 refine (sh rfl HGg10 (infoBlk _ (blkA_size HKb.out)) (blk_sizes HKb.out) (blkA_one _) ?_)
 refine fun _ => enL fun u28 EX27 => ?_
 go_upto_region 11 with (fail)
 refine rgQ [0,1,2] [3] EX27 rfl fun hw => ?_
 refine qw 3 hw ?_
 refine wpG_nil <| (hOp_putAt rfl (g10) (134) (.int .u64 (nonce : Int)) rfl rfl HGg10.out.1 33 ((blkA b)) (blkA b1) mH infoU64k (by rw [blkA_size HKb.out]; show 134 + 1 ≤ 137; decide) (by simp [Value.cells]; rfl) HPUT.out ((g10, oc (blkA b1) 33) :: ((g6, oc (tipA u6) 37) :: (N6 ++ ((w.heap.size + 1, oc (blkA b) 33) :: ((w.heap.size, oc (tipA t) 37) :: []))))) (mA ⟨.inl rfl, fun y hy => .inr ⟨mT hy, HGg10.out.2 y hy⟩⟩) ?_)
 refine fun _ => enL fun u32 EX31 => ?_
 go_upto_region 12 with (fail)
 refine rgQ [0,1] [2,3,4,5,6,7,8] EX31 rfl fun hw => ?_
 refine ql rfl (mT (mT (mR (mT mH)))) HKt.out hw ?_
 refine ql rfl mH HKb1.out hw ?_
 refine wpG_nil <| (hOp_turn (gd := none) (R := fun x M' => ∃ tq N, x = .tuple #[.agg (tipA tq), .int .i64 ((e2 : Nat) : Int)] ∧ M' = N ++ ((g10, oc (blkA b1) 33) :: ((g6, oc (tipA u6) 37) :: (N6 ++ ((w.heap.size + 1, oc (blkA b) 33) :: ((w.heap.size, oc (tipA t) 37) :: []))))) ∧ KeptB w N (IsTip (r2) tq) ∧ ∃ vq, IsTip (r2) tq vq) rfl rfl rfl rfl (fun u hu => OUpon_call (fid := 17) (xs := #[.tmp 54, .tmp 55]) (args := #[tipV t, blkV b1]) rfl func17 rfl rfl u (tip_turn (by have h := HH.out.push t b1 u (KT.out.up hu.bel) HM1.out.1 (HB1.out u (KB.out.up hu.bel)) HMB.out (HT.out.below hu.bel); rw [HP3.out] at h; simp only at h; exact h) hu)) ?_)
 rintro _ _ ⟨u12, N12, rfl, rfl, hk12, hv12⟩ he34; intro K' hK'; go_big_quiet_op; go_big_quiet_on
 have HT12 := hD hk12
 have HV12 := hD hv12
 have HK12 : Hid (lenH u12.b.h) := by obtain ⟨v, hv⟩ := HV12.out; exact hv.2.b.h.len
 clear hk12 hv12
 refine phE [3,4,5] [6,7,8] he34 fun hw => ?_
 refine qw 3 hw ?_
 refine wpG_nil <| qn rfl (new_tip _) fun g12 HGg12 he36 => ?_
 change lexH _ _ _ _ _ _ ((g12, oc (tipA noTipM) 37) :: (N12 ++ ((g10, oc (blkA b1) 33) :: ((g6, oc (tipA u6) 37) :: (N6 ++ ((w.heap.size + 1, oc (blkA b) 33) :: ((w.heap.size, oc (tipA t) 37) :: [])))))))
 refine (sh rfl HGg12 (infoTip _ (tipA_size HK12.out)) (tip_sizes HK12.out) (tipA_one _) ?_)
 intro he37
 refine phE [8] [] he37 fun hw => ?_
 refine qo rfl hw ?_
 refine enP fun u40 EX39 => ?_
 go_upto_region 13 with (fail)
 refine rgQ [0,1,2] [3,4] EX39 rfl fun hw => ?_
 refine qf rfl hw ?_
 refine ql rfl (mT (mR (mT (mT (mR (mT mH)))))) HKt.out hw ?_
 refine qc (args := #[.slice t.A3 t.n3 t.c3]) (v := totV P) rfl func26 (fun u hu => by have k := KT.out.up hu.bel; have h := HGR.out.root t.p t.A3 t.n3 t.c3 u k.l3 (by have h1 := HM1.out.1.2.1; have h2 := k.l3; omega) k.b3.1 k.b3.2 k.o3 k.m3 (HT.out.below hu.bel); rw [HPE.out] at h; exact h) hw ?_
 refine wpG_nil <| qn rfl (new_tot _) fun gp HGgp he42 => ?_
 change lexH _ _ _ _ _ _ ((gp, oc (totA zTot) 56) :: ((g12, oc (tipA u12) 37) :: (N12 ++ ((g10, oc (blkA b1) 33) :: ((g6, oc (tipA u6) 37) :: (N6 ++ ((w.heap.size + 1, oc (blkA b) 33) :: ((w.heap.size, oc (tipA t) 37) :: []))))))))
 refine (sh rfl HGgp (infoTot _ (totA_size HP0.out.len)) (zTot_size.trans (totA_size HP0.out.len).symm) (totA_one _) ?_)
 refine fun _ => enL fun u45 EX44 => ?_
 go_upto_region 14 with (fail)
 refine rgQ [0,1,2] [3,4] EX44 rfl fun hw => ?_
 refine qf rfl hw ?_
 refine ql rfl (mT (mT (mR (mT mH)))) HK6.out hw ?_
 refine qc (args := #[.slice u6.A3 u6.n3 u6.c3]) (v := totV Q) rfl func26 (fun u hu => by have k := (HT6.out u _ hu (fun y MEM => (mT (mT (mR (mT (mT (mL MEM)))))))).2; have h := HGR.out.root u6.p u6.A3 u6.n3 u6.c3 u k.l3 (by have h1 := HM6.out.2.1; have h2 := k.l3; omega) k.b3.1 k.b3.2 k.o3 k.m3 (HT.out.below hu.bel); rw [HU6.out, HQE.out] at h; exact h) hw ?_
 refine wpG_nil <| qn rfl (new_tot _) fun gq HGgq he47 => ?_
 change lexH _ _ _ _ _ _ ((gq, oc (totA zTot) 56) :: ((gp, oc (totA P) 56) :: ((g12, oc (tipA u12) 37) :: (N12 ++ ((g10, oc (blkA b1) 33) :: ((g6, oc (tipA u6) 37) :: (N6 ++ ((w.heap.size + 1, oc (blkA b) 33) :: ((w.heap.size, oc (tipA t) 37) :: [])))))))))
 refine (sh rfl HGgq (infoTot _ (totA_size HQ0.out.len)) (zTot_size.trans (totA_size HQ0.out.len).symm) (totA_one _) ?_)
 refine fun _ => enL fun u50 EX49 => ?_
 go_upto_region 15 with (fail)
 refine rgK [0,1,2,3,4,5,6,7,8,9,10] 0 EX49 rfl fun hw => ?_
 refine qf rfl hw ?_
 refine ql rfl (mT (mT (mT (mR (mT (mT (mR mH))))))) HKb.out hw ?_
 refine qw 2 hw ?_
 refine qv rfl (fun u hu => load_any_op u (loads_hd HKb.out (box_blk_hd hu (mT (mT (mT (mR (mT (mT (mR mH))))))) HKb.out)).2.2.1 rfl) hw ?_
 refine qw 2 hw ?_
 refine qv rfl (fun u hu => load_any_op u (loads_hd HKt.out (box_tip_hd hu (mT (mT (mT (mR (mT (mT (mR (mT mH)))))))) HKt.out)).1 rfl) hw ?_
 refine qc (args := #[hdV t.b.h]) (v := idv id0) rfl func28 (fun u hu => by have h := GG.out.id t.b.h u KT.out.b.h (HT.out.below hu.bel); rw [HIDE.out] at h; exact h) hw ?_
 refine qc (args := #[.slice b.A1 b.n1 b.c1, idv b.h.prev, idv id0]) (v := .bool true) rfl func27 (fun u hu => by have k := KB.out.up hu.bel; have h := HGL.out.leads b.l b.h.prev id0 b.A1 b.n1 b.c1 u k.l1 (by have h1 := HM2.out.2; have h2 := k.l1; omega) k.b1.1 k.b1.2 k.o1 k.h.2.1 HI0.out k.m1 (HT.out.below hu.bel); rw [HLE0.out] at h; exact h) hw ?_
 refine qo rfl hw ?_
 refine eH fun u53 EX52 => ?_
 go_upto_region 16 with (fail)
 refine rgK [0,1,2,3,4,5,6,7,8] 3 EX52 rfl fun hw => ?_
 refine qf rfl hw ?_
 refine ql rfl (mT mH) HP0.out.len hw ?_
 refine qf rfl hw ?_
 refine qv rfl (fun u hu => load_any_op u (loads_hd HKb.out (box_blk_hd hu (mT (mT (mT (mR (mT (mT (mR mH))))))) HKb.out)).1 rfl) hw ?_
 refine qc (args := #[hdV b.h]) (v := .agg (wcs wk)) rfl func30 (fun u hu => by have h := HGW.out.work b.h u HOBH.out (HT.out.below hu.bel); rw [HWKE.out] at h; exact h) hw ?_
 refine qc rfl func29 (fun u hu => HADD.out u (nl hu)) hw ?_
 refine qw 3 hw ?_
 refine wpG_nil <| aO 9 (qn rfl (new_wide _) fun gs HGgs he55 => ?_)
 change anyH _ _ _ _ _ _ _ _ ((gs, oc (wcs 0) 26) :: ((gq, oc (totA Q) 56) :: ((gp, oc (totA P) 56) :: ((g12, oc (tipA u12) 37) :: (N12 ++ ((g10, oc (blkA b1) 33) :: ((g6, oc (tipA u6) 37) :: (N6 ++ ((w.heap.size + 1, oc (blkA b) 33) :: ((w.heap.size, oc (tipA t) 37) :: []))))))))))
 refine aO 10 (sh rfl HGgs (wc_info _) ((wc_size _).trans (wc_size _).symm) (wc_one _) ?_)
 intro he56
 refine phF [11] 0 rfl he56 fun hw => ?_
 refine qo rfl hw ?_
 refine eH fun u59 EX58 => ?_
 go_upto_region 17 with (fail)
 refine rgK [0,1,2,3,4,5,6,7,8,9,10,11,12,13,14,15,16,17,18,19,20,21,22,23,24,25,26,27,28,29,30,31,32,33,34,35,36,37,38,39,40,41,42,43,44,45,46,47,48,49] 0 EX58 rfl fun hw => ?_
 refine qw 4 hw ?_
 refine qv rfl (fun u hu => load_any_op u (loads_hd HKb.out (box_blk_hd hu (mT (mT (mT (mT (mR (mT (mT (mR mH)))))))) HKb.out)).2.2.1 rfl) hw ?_
 refine qw 2 hw ?_
 refine qv rfl (fun u hu => load_any_op u (loads_hd HKt.out (box_tip_hd hu (mT (mT (mT (mT (mR (mT (mT (mR (mT mH))))))))) HKt.out)).1 rfl) hw ?_
 refine qc (args := #[hdV t.b.h]) (v := idv id0) rfl func28 (fun u hu => by have h := GG.out.id t.b.h u KT.out.b.h (HT.out.below hu.bel); rw [HIDE.out] at h; exact h) hw ?_
 refine qv (v := .bool true) rfl (fun u hu => eqlb_op HKb.out.1 HI0.out.1 (by unfold eqL; simp [HBE1.out.1]) u rfl rfl) hw ?_
 refine qw 4 hw ?_
 refine qv rfl (fun u hu => load_any_op u (loads_hd HKb.out (box_blk_hd hu (mT (mT (mT (mT (mR (mT (mT (mR mH)))))))) HKb.out)).2.2.2.2.2.2.1 rfl) hw ?_
 refine qf rfl hw ?_
 refine ql rfl (mT (mT mH)) HP0.out.len hw ?_
 refine qv (v := .bool true) rfl (fun u hu => eqlW_op HOBH.out.2.2.2.2.2.1 HP0.out.2.1 (by unfold eqN; simp [HBE1.out.2.1]) u rfl rfl) hw ?_
 refine qw 4 hw ?_
 refine qv rfl (fun u hu => load_any_op u (loads_hd HKb.out (box_blk_hd hu (mT (mT (mT (mT (mR (mT (mT (mR mH)))))))) HKb.out)).2.2.2.2.2.1 rfl) hw ?_
 refine qf rfl hw ?_
 refine ql rfl (mT (mT mH)) HP0.out.len hw ?_
 refine qv (v := .bool true) rfl (fun u hu => eqlb_op HKb.out.2.2.2 HP0.out.1.1 (by unfold eqL; simp [HBE1.out.2.2]) u rfl rfl) hw ?_
 refine qw 3 hw ?_
 refine ql rfl (mT mH) HQ0.out.len hw ?_
 refine qv rfl (fun u hu => load_any_op u (box_wide hu mH) rfl) hw ?_
 refine qv (v := .bool true) rfl (fun u hu => eqlW_op HQ0.out.2.1 HMW.out.2 (by unfold eqN; simp [HMW.out.1]) u rfl rfl) hw ?_
 refine qw 3 hw ?_
 refine ql rfl (mT mH) HQ0.out.len hw ?_
 refine qf rfl hw ?_
 refine ql rfl (mT (mT mH)) HP0.out.len hw ?_
 refine qv (v := .int .i64 Q.n) rfl (fun u hu => addZ_op u HANE.out.symm rfl rfl) hw ?_
 refine qv rfl (fun u hu => eqlI_op u (decide_eq_true rfl) rfl rfl) hw ?_
 refine qw 3 hw ?_
 refine qv rfl (fun u hu => eqErr_op u HNB.out rfl rfl) hw ?_
 refine qf rfl hw ?_
 refine qv rfl (fun u hu => load_any_op u (loads_hd HKb1.out (box_blk_hd hu (mT (mT (mT (mT (mR mH))))) HKb1.out)).1 rfl) hw ?_
 refine qc (args := #[hdV b1.h]) (v := .bool bm) rfl func31 (fun u hu => by have h := HGM.out.may b1.h u HO1.out (HT.out.below hu.bel); rw [HBM.out] at h; exact h) hw ?_
 refine qv (v := .bool true) rfl (fun u hu => eqlBp_op u (by simp) rfl rfl) hw ?_
 refine qw 2 hw ?_
 refine eH fun u62 EX61 => ?_
 have HBE := hD (EX61.out.bel)
 go_wp2
 go_ret
 exact ⟨rfl, HBE.out⟩
theorem law_bpushes :
  Rz 5 #[tipV t, blkV b, .int .u64 (nonce : Int)] w (.bool true) := by
 unfold Rz
 cases k1 : fewP t with
 | false => exact law_bpushes_fewt H G GM GW GR GA GL t b nonce w kt kb hno ht k1
 | true =>
  cases k2 : fewK b with
  | false => exact law_bpushes_fewb H G GM GW GR GA GL t b nonce w kt kb hno ht k1 k2
  | true =>
   rcases hp : pushK t.r b.r with ⟨r1, e1⟩
   cases e1 with
   | succ e1 => exact law_bpushes_err H G GM GW GR GA GL t b nonce w kt kb hno ht k1 k2 hp
   | zero => exact law_bpushes_main H G GM GW GR GA GL t b nonce w kt kb hno ht k1 k2 hp (r2 := (pushK t.r { b.r with h := { b.h with nonce := nonce } }).1) (e2 := (pushK t.r { b.r with h := { b.h with nonce := nonce } }).2) rfl
end
end Go.Proofs.YtpanpohdnbgdpaaGreatDoor
namespace Go.Proofs.YtpanpohdnbgdpaaGreatDoor.blockPushes
set_option maxRecDepth 8000
open Go.ChangeShapes Go.WideShapes Go.ChangeAt Go.RowKit
theorem contract (H : Type) (enc : TypeId × Value → H) (W : World) (base : Nat) (args : Array Value) (ds gs : List (DataW H)) (before : List MemPlace)
  (hval : ∀ (j : Nat) t v, f5.params[j]? = some t → args[j]? = some v → Value.okWide prog W .any base t v)
  (hW : DataW.Whole enc prog f5.params.toList Rows.blockPushesSpec.vars false W args.toList ds gs before) (hL : laidMetH prog Rows.blockPushesRow.laid W) :
  Calls prog 5 args W fun e W' => ∃ v, e = .returned v ∧ Rows.blockPushesSpec.post enc prog f5 false true false false W args v W' := by
 have hW' := hW
 obtain ⟨p, q, hA0, hV, rfl, hfz, hnd⟩ := hW
 have hA : DataW.TrodAll enc prog W 0 (fun _ => true) true f5.params.toList args.toList ds p := hA0
 rw [Tryz.params5] at hA hval
 obtain ⟨v0, vs0, d0, ds0, p0, q0, hargs, rfl, rfl, h0, r0⟩ := trodAll_cons hA
 obtain ⟨v1, vs1, d1, ds1, p1, q1, rfl, rfl, rfl, h1, r1⟩ := trodAll_cons r0
 obtain ⟨v2, vs2, d2, ds2, p2, q2, rfl, rfl, rfl, h2, r2⟩ := trodAll_cons r1
 obtain ⟨rfl, rfl, rfl⟩ := trodAll_nil r2
 obtain rfl : args = #[v0, v1, v2] := by cases args; simp_all
 obtain ⟨rfl, rfl⟩ := trodVars_none hV
 have lt0 : ∀ x ∈ p0, x.block < W.heap.size := by obtain ⟨m, hm⟩ := h0; exact DataW.trod_lt m _ _ _ hm
 obtain ⟨x0, rfl, kx0⟩ := open_tip (hval 0 37 v0 rfl rfl) h0
 have lt1 : ∀ x ∈ p1, x.block < W.heap.size := by obtain ⟨m, hm⟩ := h1; exact DataW.trod_lt m _ _ _ hm
 obtain ⟨x1, rfl, kx1⟩ := open_blk (hval 1 33 v1 rfl rfl) h1
 obtain ⟨x2, rfl, rfl, rfl, wx2⟩ := open_int underlying24 (hval 2 24 v2 rfl rfl) h2
 obtain ⟨y2, rfl⟩ : ∃ n : Nat, x2 = (n : Int) := Int.eq_ofNat_of_zero_le (bounds_u64 wx2).1
 have b2 : y2 < 18446744073709551616 := by have := (bounds_u64 wx2).2; omega
 clear hA0
 refine (law_bpushes blockC awkC mayC workC mrootC addCb leadsC x0 x1 y2 W kx0 kx1 b2 (tables_of_laid hL)).mono fun e W' ⟨he, bel⟩ => ?_
 subst he
 exact ⟨_, rfl, _, _, _, [], _, [], hW', trodAll_mk1 (shut_bool underlying4 _), (trodAll_cons_mk (Below.trod laidOut (by kernel_rfl) (of_decide_eq_true (by kernel_rfl)) h0 bel lt0) (trodAll_cons_mk (Below.trod laidOut (by kernel_rfl) (of_decide_eq_true (by kernel_rfl)) h1 bel lt1) (trodAll_cons_mk (shut_int underlying24 wx2) trodAll_mk0))), rfl, bel.frame _, fun h => by cases h⟩
def start : Array Value := #[zeroP, zeroB, .int .u64 0]
theorem reads (os : Os) {H : Type} (enc : TypeId × Value → H) : ∃ places, DataW.whole enc prog ((laidWorld os).forCall (fun _ _ => 0) ⟨#[], start, []⟩).memory f5.params.toList Rows.blockPushesSpec.vars false start.toList 8 = some ([zeroPD, zeroBD, .lit (.int .u64 0)], [], places) :=
 ⟨[], by kernel_rfl⟩
theorem lifted (os : Os) (started : os.Started) (H : Type) (enc : TypeId × Value → H) (F : Stop.Interp) :
  ReturnsInHanded {} Tryz.checked os 5 .any ((OpenSpec.ofChange Rows.blockPushesSpec).preRow enc prog f5 Rows.blockPushesRow.domain false Rows.blockPushesRow.laid) (((OpenSpec.ofChange Rows.blockPushesSpec).at F).post enc prog f5 false true false false) := by
 obtain ⟨places, hx⟩ := reads os enc
 refine returnsInHanded_of_row (C := Tryz.checked) (s := OpenSpec.ofChange Rows.blockPushesSpec) own started (by kernel_rfl) func5
  (witness_row_at (enc := enc) (C := Tryz.checked) false (laidWorld os) start rfl (by kernel_rfl) (by kernel_rfl) (by kernel_rfl)
   (OpenSpec.preRow_of_cond 8 hx (by kernel_rfl) (fun k hk => by cases hk) (by kernel_rfl) (laidMet_of_run' 8 (by kernel_rfl) (by kernel_rfl)))) ?_
 intro W base args ds gs before hval hW _ _ _ hL _ _
 exact contract H enc W base args ds gs before hval hW hL
theorem said : Rows.BlockPushesSaid :=
 OpenClaim.holds_of_cond 5 f5 rfl rfl rfl rfl rfl rfl rfl ⟨rfl, rfl, rfl, rfl, rfl⟩ rfl rfl rfl rfl rfl (by kernel_rfl) func5 (by kernel_rfl)
  (of_decide_eq_true (by kernel_rfl)) (by unfold Func.isWrapper; first | (rw [if_pos (by decide +kernel)]; kernel_rfl) | (rw [if_neg (by decide +kernel)]; exact ⟨rfl, rfl⟩))
  (fun os started H enc _ F => by rw [OpenClaim.pre_eq_preRow]; exact lifted os started H enc F)
theorem plain (f : FuncId) (fn : Func) (hf : Tryz.pinned.checked.prog.funcNamed "stepladder/stepladderlaw11.BlockPushes" = some f) (hfn : Tryz.pinned.checked.prog.funcs[f]? = some fn) :
   false = Tryz.pinned.checked.prog.looks [] ∧ ∀ (j : Nat) t, fn.params[j]? = some t → Tryz.pinned.checked.prog.wantsStandIn t = false := by
 obtain rfl : f = 5 := Option.some.inj ((show prog.funcNamed "stepladder/stepladderlaw11.BlockPushes" = some 5 by kernel_rfl).symm.trans hf) |>.symm
 obtain rfl : fn = f5 := (Option.some.inj (func5.symm.trans hfn)).symm
 refine ⟨by kernel_rfl, fun j t ht => ?_⟩
 rw [Tryz.params5] at ht
 have hm : t = 37 ∨ t = 33 ∨ t = 24 := by simpa using Array.mem_of_getElem? ht
 rcases hm with rfl | rfl | rfl
 · exact (show prog.wantsStandIn 37 = false by kernel_rfl)
 · exact (show prog.wantsStandIn 33 = false by kernel_rfl)
 · exact (show prog.wantsStandIn 24 = false by kernel_rfl)
theorem card : Rows.BlockPushesCardSaid :=
 Claim7.holds_tied_plain_at .later [] _ _ _ _ said (fun _ h => by cases h) (by kernel_rfl) (fun _ h => by cases h) blockPushes_row_tie rfl ⟨rfl, rfl⟩ (by kernel_rfl) rfl plain (by kernel_rfl)
end Go.Proofs.YtpanpohdnbgdpaaGreatDoor.blockPushes
