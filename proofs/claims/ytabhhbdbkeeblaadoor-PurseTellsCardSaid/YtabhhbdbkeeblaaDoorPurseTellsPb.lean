/- Part of a proof. -/
import Derived.Test.YtabhhbdbkeeblaaDoorPurseTellsPa
import Derived.WalkKit
import Derived.ProofKit
import Derived.Handy
import Derived.Lib.SlBytesConst
import Derived.Deep.MidRow
import Derived.Laws.CopyOwn
import Derived.Laws.MakeOwn
import Derived.Deep.WholeRow
import Derived.Deep.Cut
import Derived.Deep.QuietTactic
import Derived.BigQuiet
import Derived.StillTailTactics
import Derived.Lib.Hide
namespace Go.Proofs.YtabhhbdbkeeblaaDoor
set_option maxRecDepth 8000
open Go.RowKit
theorem may_badIn {r : TxR} {i : Nat} (hi : i < r.ins.length) (h : mayIn (r.ins.getD i noIn) = false) : mayX r = false := by
  unfold mayX
  rw [decide_eq_false_iff_not]
  intro hh
  have hm : r.ins.getD i noIn ∈ r.ins := by rw [List.getD_eq_getElem?_getD, List.getElem?_eq_getElem hi]; exact List.getElem_mem hi
  have := hh.2.2.2.1 _ hm
  rw [h] at this
  cases this
theorem may_twice {r : TxR} {i k : Nat} (hi : i < r.ins.length) (hk : k < i) (h : r.ins.getD k noIn = r.ins.getD i noIn) : mayX r = false := by
  unfold mayX
  rw [decide_eq_false_iff_not]
  intro hh
  have hn := (List.pairwise_iff_getElem.1 hh.2.2.2.2.1) k i (by omega) hi hk
  rw [List.getD_eq_getElem?_getD, List.getElem?_eq_getElem (show k < r.ins.length by omega), List.getD_eq_getElem?_getD, List.getElem?_eq_getElem hi] at h
  exact hn h
theorem may_rest {r : TxR} (h1 : ∀ j, j < r.ins.length → mayIn (r.ins.getD j noIn) = true) (h2 : ∀ j, j < r.ins.length → ∀ k, k < j → r.ins.getD k noIn ≠ r.ins.getD j noIn) (h3 : ∀ j, j < r.outs.length → mayOut (r.outs.getD j noOut) = true) :
    mayX r = decide (r.ins.length ≤ 3 ∧ 1 ≤ r.outs.length ∧ r.outs.length ≤ 3) := by
  unfold mayX
  have g1 : ∀ x ∈ r.ins, mayIn x = true := fun x hx => by
    obtain ⟨j, hj, rfl⟩ := List.getElem_of_mem hx
    have := h1 j hj
    rwa [List.getD_eq_getElem?_getD, List.getElem?_eq_getElem hj] at this
  have g3 : ∀ x ∈ r.outs, mayOut x = true := fun x hx => by
    obtain ⟨j, hj, rfl⟩ := List.getElem_of_mem hx
    have := h3 j hj
    rwa [List.getD_eq_getElem?_getD, List.getElem?_eq_getElem hj] at this
  have g2 : r.ins.Nodup := List.pairwise_iff_getElem.2 fun i j hi hj hij => by
    have := h2 j hj i hij
    rw [List.getD_eq_getElem?_getD, List.getElem?_eq_getElem hi, List.getD_eq_getElem?_getD, List.getElem?_eq_getElem hj] at this
    exact this
  exact decide_eq_decide.2 ⟨fun h => ⟨h.1, h.2.1, h.2.2.1⟩, fun h => ⟨h.1, h.2.1, h.2.2, g1, g2, g3⟩⟩
set_option maxRecDepth 20000 in
set_option maxHeartbeats 8000000 in
theorem rmayX_any (r : TxR) (A1 : Option Addr) (n1 c1 : Nat) (A2 : Option Addr) (n2 c2 : Nat) (w : World) (ht : TxOk w ⟨r, A1, n1, c1, A2, n2, c2⟩) :
    Calls Tryd.prog 27 #[txV ⟨r, A1, n1, c1, A2, n2, c2⟩] w fun e w' => e = .returned (.bool (mayX r)) ∧ Below w.heap.size w w' := by
  have HT := Lib.hid ht
  have HN63 := Lib.hid ht.n63
  obtain ⟨hn1, hn2⟩ := ht.n63
  have HL : Hid (r.ins.length = n1 ∧ r.outs.length = n2) := ⟨ht.l1, ht.l2⟩
  have E1 : Hid (EnvX w (w.alloc (.cells (txA ⟨r, A1, n1, c1, A2, n2, c2⟩) 26)) [(w.heap.size, Obj.cells (txA ⟨r, A1, n1, c1, A2, n2, c2⟩) 26 (0, 0))]) := (EnvX.start w).new _
  clear ht
  unfold txV
  go_enter Tryd.func27, Tryd.ntmps27
  go_upto_region 2 with (fail)
  generalize w.alloc (.cells (txA ⟨r, A1, n1, c1, A2, n2, c2⟩) 26) = W at *
  go_loopw [3] (fun iv u => ∃ i : Nat, i ≤ n1 ∧ iv = .int .i64 (i : Int) ∧ Hid ((∀ j, j < i → mayIn (r.ins.getD j noIn) = true) ∧ (∀ j, j < i → ∀ k, k < j → r.ins.getD k noIn ≠ r.ins.getD j noIn) ∧ EnvX w u [(w.heap.size, Obj.cells (txA ⟨r, A1, n1, c1, A2, n2, c2⟩) 26 (0, 0))])) (fun iv _ => n1 - (intOf iv).toNat)
  case atStart => exact ⟨0, by omega, rfl, (fun j hj => by omega), (fun j hj => by omega), E1.out⟩
  case round =>
    obtain ⟨i, hi, rfl, hinv⟩ := hrel
    have H1 := Lib.hid hinv.out.1
    have H2 := Lib.hid hinv.out.2.1
    have EK := Lib.hid hinv.out.2.2
    clear hinv E1
    by_cases hlt : i < n1
    · have C4 : Hid (decide ((i : Int) < (n1 : Int)) = true) := decide_eq_true (by omega)
      have HI := Lib.hid hlt
      have hil : i < r.ins.length := by rw [HL.out.1]; exact hlt
      have HIL := Lib.hid hil
      obtain ⟨ad, rfl, -, hld⟩ := HT.out.m1.loads HT.out.o1 hil
      have HLD := Lib.hid hld
      have HX : Hid (lenI (r.ins.getD i noIn)) := (HT.out.o1.get hil).len
      clear hld hil hlt
      go_upto_region 2 with (fail)
      refine wp_region_Hx (w0 := w) [0, 1, 2, 3, 4] [(w.heap.size, Obj.cells (txA ⟨r, some ad, n1, c1, A2, n2, c2⟩) 26 (0, 0))] rfl EK.out ?_
      refine lexH_phase [0, 1, 2, 3, 4] [] ?_
      have hw11 : EnvX w _ [(w.heap.size, Obj.cells (txA ⟨r, some ad, n1, c1, A2, n2, c2⟩) 26 (0, 0))] := EK.out
      have hone := @EnvC.one _ _ _ hw11
      iterate 2 (refine wpG_op rfl rfl rfl ?_; intro K hK; go_big_quiet_op; go_big_quiet_on)
      (refine wpG_val (v := .slice (some ad) n1 c1) rfl rfl (fun u hu => load_any_op u (box_tx_ins hu (List.Mem.head _)) rfl) ?_ hw11; intro K hK; go_big_quiet_op; go_big_quiet_on)
      (refine wpG_val (v := .int .i64 (n1 : Int)) rfl rfl (fun u hu => len_op Tryd.underlying23 HN63.out.1 u rfl) ?_ hw11; intro K hK; go_big_quiet_op; go_big_quiet_on)
      (refine wpG_val (v := .bool true) rfl rfl (fun u hu => ltZ_op u C4.out rfl rfl) ?_ hw11; intro K hK; go_big_quiet_op; go_big_quiet_on)
      clear hone hw11
      refine wpG_nil ?_
      intro u13 E2'
      have EX12 := Lib.hid E2'
      clear E2'
      by_cases c6 : (r.ins.getD i noIn).i < 0
      · have C6 : Hid (decide ((r.ins.getD i noIn).i < 0) = true) := decide_eq_true c6
        have HF : Hid (mayX r = false) := may_badIn HIL.out (decide_eq_false (by omega))
        clear c6
        go_upto_region 4 with (fail)
        refine wp_region_Hx (w0 := w) [0, 1, 2, 3, 4, 5, 6, 7, 8, 9, 10, 11, 12, 13, 14, 15] [(w.heap.size, Obj.cells (txA ⟨r, some ad, n1, c1, A2, n2, c2⟩) 26 (0, 0))] rfl EX12.out ?_
        refine lexH_phase [0, 1, 2, 3, 4, 5, 6, 7, 8, 9, 10, 11, 12, 13, 14, 15] [] ?_
        have hw31 : EnvX w _ [(w.heap.size, Obj.cells (txA ⟨r, some ad, n1, c1, A2, n2, c2⟩) 26 (0, 0))] := EX12.out
        have hone := @EnvC.one _ _ _ hw31
        (refine wpG_op rfl rfl rfl ?_; intro K hK; go_big_quiet_op; go_big_quiet_on)
        (refine wpG_val (v := .slice (some ad) n1 c1) rfl rfl (fun u hu => load_any_op u (box_tx_ins hu (List.Mem.head _)) rfl) ?_ hw31; intro K hK; go_big_quiet_op; go_big_quiet_on)
        (refine wpG_op rfl rfl rfl ?_; intro K hK; go_big_quiet_op; go_big_quiet_on)
        (refine wpG_val (v := .pointer (some (ad.add (i * 33)))) rfl rfl (fun u hu => idxSl_op (i := i) Tryd.underlying23 aggIn.size HI.out u rfl rfl) ?_ hw31; intro K hK; go_big_quiet_op; go_big_quiet_on)
        (refine wpG_op rfl rfl rfl ?_; intro K hK; go_big_quiet_op; go_big_quiet_on)
        (refine wpG_val (v := .int .i64 (r.ins.getD i noIn).i) rfl rfl (fun u hu => load_any_op u (HLD.out u (EnvX.sub hu (fun _ h => by cases h))).2.2.1 rfl) ?_ hw31; intro K hK; go_big_quiet_op; go_big_quiet_on)
        (refine wpG_val (v := .bool true) rfl rfl (fun u hu => ltZ_op u C6.out rfl rfl) ?_ hw31; intro K hK; go_big_quiet_op; go_big_quiet_on)
        (refine wpG_op rfl rfl rfl ?_; intro K hK; go_big_quiet_op; go_big_quiet_on)
        iterate 7 (refine wpG_skip rfl rfl ?_ hw31; intro K hK; go_big_quiet_op; go_big_quiet_on)
        (refine wpG_op rfl rfl rfl ?_; intro K hK; go_big_quiet_op; go_big_quiet_on)
        clear hone hw31
        refine wpG_nil ?_
        intro u33 E2'
        have EX32 := Lib.hid E2'
        clear E2'
        have HBE := Lib.hid (EnvX.bel EX32.out)
        go_wp2
        go_ret
        exact ⟨by rw [HF.out]; first | done | rfl, HBE.out⟩
      have C6 : Hid (decide ((r.ins.getD i noIn).i < 0) = false) := decide_eq_false c6
      by_cases c14 : 3 ≤ (r.ins.getD i noIn).i
      · have C14 : Hid (decide (3 ≤ (r.ins.getD i noIn).i) = true) := decide_eq_true c14
        have HF : Hid (mayX r = false) := may_badIn HIL.out (decide_eq_false (by omega))
        clear c6 c14
        go_upto_region 4 with (fail)
        refine wp_region_Hx (w0 := w) [0, 1, 2, 3, 4, 5, 6, 7, 8, 9, 10, 11, 12, 13, 14, 15] [(w.heap.size, Obj.cells (txA ⟨r, some ad, n1, c1, A2, n2, c2⟩) 26 (0, 0))] rfl EX12.out ?_
        refine lexH_phase [0, 1, 2, 3, 4, 5, 6, 7, 8, 9, 10, 11, 12, 13, 14, 15] [] ?_
        have hw31 : EnvX w _ [(w.heap.size, Obj.cells (txA ⟨r, some ad, n1, c1, A2, n2, c2⟩) 26 (0, 0))] := EX12.out
        have hone := @EnvC.one _ _ _ hw31
        (refine wpG_op rfl rfl rfl ?_; intro K hK; go_big_quiet_op; go_big_quiet_on)
        (refine wpG_val (v := .slice (some ad) n1 c1) rfl rfl (fun u hu => load_any_op u (box_tx_ins hu (List.Mem.head _)) rfl) ?_ hw31; intro K hK; go_big_quiet_op; go_big_quiet_on)
        (refine wpG_op rfl rfl rfl ?_; intro K hK; go_big_quiet_op; go_big_quiet_on)
        (refine wpG_val (v := .pointer (some (ad.add (i * 33)))) rfl rfl (fun u hu => idxSl_op (i := i) Tryd.underlying23 aggIn.size HI.out u rfl rfl) ?_ hw31; intro K hK; go_big_quiet_op; go_big_quiet_on)
        (refine wpG_op rfl rfl rfl ?_; intro K hK; go_big_quiet_op; go_big_quiet_on)
        (refine wpG_val (v := .int .i64 (r.ins.getD i noIn).i) rfl rfl (fun u hu => load_any_op u (HLD.out u (EnvX.sub hu (fun _ h => by cases h))).2.2.1 rfl) ?_ hw31; intro K hK; go_big_quiet_op; go_big_quiet_on)
        (refine wpG_val (v := .bool false) rfl rfl (fun u hu => ltZ_op u C6.out rfl rfl) ?_ hw31; intro K hK; go_big_quiet_op; go_big_quiet_on)
        iterate 2 (refine wpG_op rfl rfl rfl ?_; intro K hK; go_big_quiet_op; go_big_quiet_on)
        (refine wpG_val (v := .slice (some ad) n1 c1) rfl rfl (fun u hu => load_any_op u (box_tx_ins hu (List.Mem.head _)) rfl) ?_ hw31; intro K hK; go_big_quiet_op; go_big_quiet_on)
        (refine wpG_op rfl rfl rfl ?_; intro K hK; go_big_quiet_op; go_big_quiet_on)
        (refine wpG_val (v := .pointer (some (ad.add (i * 33)))) rfl rfl (fun u hu => idxSl_op (i := i) Tryd.underlying23 aggIn.size HI.out u rfl rfl) ?_ hw31; intro K hK; go_big_quiet_op; go_big_quiet_on)
        (refine wpG_op rfl rfl rfl ?_; intro K hK; go_big_quiet_op; go_big_quiet_on)
        (refine wpG_val (v := .int .i64 (r.ins.getD i noIn).i) rfl rfl (fun u hu => load_any_op u (HLD.out u (EnvX.sub hu (fun _ h => by cases h))).2.2.1 rfl) ?_ hw31; intro K hK; go_big_quiet_op; go_big_quiet_on)
        (refine wpG_val (v := .bool true) rfl rfl (fun u hu => geZ_op u C14.out rfl rfl) ?_ hw31; intro K hK; go_big_quiet_op; go_big_quiet_on)
        (refine wpG_op rfl rfl rfl ?_; intro K hK; go_big_quiet_op; go_big_quiet_on)
        clear hone hw31
        refine wpG_nil ?_
        intro u33 E2'
        have EX32 := Lib.hid E2'
        clear E2'
        have HBE := Lib.hid (EnvX.bel EX32.out)
        go_wp2
        go_ret
        exact ⟨by rw [HF.out]; first | done | rfl, HBE.out⟩
      have C14 : Hid (decide (3 ≤ (r.ins.getD i noIn).i) = false) := decide_eq_false c14
      have HMI : Hid (mayIn (r.ins.getD i noIn) = true) := decide_eq_true (by omega)
      clear c6 c14
      go_upto_region 4 with (fail)
      refine wp_region_Hx (w0 := w) [0, 1, 2, 3, 4, 5, 6, 7, 8, 9, 10, 11, 12, 13, 14, 15] [(w.heap.size, Obj.cells (txA ⟨r, some ad, n1, c1, A2, n2, c2⟩) 26 (0, 0))] rfl EX12.out ?_
      refine lexH_phase [0, 1, 2, 3, 4, 5, 6, 7, 8, 9, 10, 11, 12, 13, 14, 15] [] ?_
      have hw31 : EnvX w _ [(w.heap.size, Obj.cells (txA ⟨r, some ad, n1, c1, A2, n2, c2⟩) 26 (0, 0))] := EX12.out
      have hone := @EnvC.one _ _ _ hw31
      (refine wpG_op rfl rfl rfl ?_; intro K hK; go_big_quiet_op; go_big_quiet_on)
      (refine wpG_val (v := .slice (some ad) n1 c1) rfl rfl (fun u hu => load_any_op u (box_tx_ins hu (List.Mem.head _)) rfl) ?_ hw31; intro K hK; go_big_quiet_op; go_big_quiet_on)
      (refine wpG_op rfl rfl rfl ?_; intro K hK; go_big_quiet_op; go_big_quiet_on)
      (refine wpG_val (v := .pointer (some (ad.add (i * 33)))) rfl rfl (fun u hu => idxSl_op (i := i) Tryd.underlying23 aggIn.size HI.out u rfl rfl) ?_ hw31; intro K hK; go_big_quiet_op; go_big_quiet_on)
      (refine wpG_op rfl rfl rfl ?_; intro K hK; go_big_quiet_op; go_big_quiet_on)
      (refine wpG_val (v := .int .i64 (r.ins.getD i noIn).i) rfl rfl (fun u hu => load_any_op u (HLD.out u (EnvX.sub hu (fun _ h => by cases h))).2.2.1 rfl) ?_ hw31; intro K hK; go_big_quiet_op; go_big_quiet_on)
      (refine wpG_val (v := .bool false) rfl rfl (fun u hu => ltZ_op u C6.out rfl rfl) ?_ hw31; intro K hK; go_big_quiet_op; go_big_quiet_on)
      iterate 2 (refine wpG_op rfl rfl rfl ?_; intro K hK; go_big_quiet_op; go_big_quiet_on)
      (refine wpG_val (v := .slice (some ad) n1 c1) rfl rfl (fun u hu => load_any_op u (box_tx_ins hu (List.Mem.head _)) rfl) ?_ hw31; intro K hK; go_big_quiet_op; go_big_quiet_on)
      (refine wpG_op rfl rfl rfl ?_; intro K hK; go_big_quiet_op; go_big_quiet_on)
      (refine wpG_val (v := .pointer (some (ad.add (i * 33)))) rfl rfl (fun u hu => idxSl_op (i := i) Tryd.underlying23 aggIn.size HI.out u rfl rfl) ?_ hw31; intro K hK; go_big_quiet_op; go_big_quiet_on)
      (refine wpG_op rfl rfl rfl ?_; intro K hK; go_big_quiet_op; go_big_quiet_on)
      (refine wpG_val (v := .int .i64 (r.ins.getD i noIn).i) rfl rfl (fun u hu => load_any_op u (HLD.out u (EnvX.sub hu (fun _ h => by cases h))).2.2.1 rfl) ?_ hw31; intro K hK; go_big_quiet_op; go_big_quiet_on)
      (refine wpG_val (v := .bool false) rfl rfl (fun u hu => geZ_op u C14.out rfl rfl) ?_ hw31; intro K hK; go_big_quiet_op; go_big_quiet_on)
      (refine wpG_op rfl rfl rfl ?_; intro K hK; go_big_quiet_op; go_big_quiet_on)
      clear hone hw31
      refine wpG_nil ?_
      intro u33 E2'
      have EX32 := Lib.hid E2'
      clear E2'
      have EJ := Lib.hid EX32.out
      clear EX32 EK
      go_upto_region 7 with (fail)
      go_loopw [4] (fun iv u => ∃ k : Nat, k ≤ i ∧ iv = .int .i64 (k : Int) ∧ Hid ((∀ j, j < k → r.ins.getD j noIn ≠ r.ins.getD i noIn) ∧ EnvX w u [(w.heap.size, Obj.cells (txA ⟨r, some ad, n1, c1, A2, n2, c2⟩) 26 (0, 0))])) (fun iv _ => i - (intOf iv).toNat)
      case atStart => exact ⟨0, by omega, rfl, (fun j hj => by omega), EJ.out⟩
      case round =>
        obtain ⟨k, hk, rfl, hinv2⟩ := hrel
        have H3 := Lib.hid hinv2.out.1
        have EL := Lib.hid hinv2.out.2
        clear hinv2 EJ
        by_cases hlk : k < i
        · have D2 : (k : Int) < (i : Int) := by omega
          have HK : Hid (k < n1) := by have := HI.out; show _ < _; omega
          have hkl : k < r.ins.length := by rw [HL.out.1]; exact HK.out
          obtain ⟨ad2, e2, -, hld2⟩ := HT.out.m1.loads HT.out.o1 hkl
          cases e2
          have HLK := Lib.hid hld2
          have HY : Hid (lenI (r.ins.getD k noIn)) := (HT.out.o1.get hkl).len
          have HKI := Lib.hid hlk
          clear hld2 hkl hlk
          by_cases he : r.ins.getD k noIn = r.ins.getD i noIn
          · have HEQ : Hid (eqI (r.ins.getD k noIn) (r.ins.getD i noIn) = true) := decide_eq_true he
            have HF : Hid (mayX r = false) := may_twice HIL.out HKI.out he
            clear he
            go_upto_region 9 with (fail)
            refine wp_region_H (w0 := w) [(w.heap.size, Obj.cells (txA ⟨r, some ad, n1, c1, A2, n2, c2⟩) 26 (0, 0))] (by kernel_rfl) EL.out ?_
            refine anyH_phase [0, 1, 2, 3, 4, 5, 6, 7, 8, 9, 10] 0 rfl ⟨_, (EnvX.drew EL.out)⟩ (by kernel_rfl) ?_
            have hw51 : EnvX w _ [(w.heap.size, Obj.cells (txA ⟨r, some ad, n1, c1, A2, n2, c2⟩) 26 (0, 0))] := (EnvX.drew EL.out)
            have hone := @EnvC.one _ _ _ hw51
            (refine wpG_op rfl rfl rfl ?_; intro K hK; go_big_quiet_op; go_big_quiet_on)
            (refine wpG_val (v := .slice (some ad) n1 c1) rfl rfl (fun u hu => load_any_op u (box_tx_ins hu (List.Mem.head _)) rfl) ?_ hw51; intro K hK; go_big_quiet_op; go_big_quiet_on)
            (refine wpG_op rfl rfl rfl ?_; intro K hK; go_big_quiet_op; go_big_quiet_on)
            (refine wpG_val (v := .pointer (some (ad.add (k * 33)))) rfl rfl (fun u hu => idxSl_op (i := k) Tryd.underlying23 aggIn.size HK.out u rfl rfl) ?_ hw51; intro K hK; go_big_quiet_op; go_big_quiet_on)
            (refine wpG_val (v := inV (r.ins.getD k noIn)) rfl rfl (fun u hu => load_any_op u (HLK.out u (EnvX.sub hu (fun _ h => by cases h))).1 rfl) ?_ hw51; intro K hK; go_big_quiet_op; go_big_quiet_on)
            (refine wpG_op rfl rfl rfl ?_; intro K hK; go_big_quiet_op; go_big_quiet_on)
            (refine wpG_val (v := .slice (some ad) n1 c1) rfl rfl (fun u hu => load_any_op u (box_tx_ins hu (List.Mem.head _)) rfl) ?_ hw51; intro K hK; go_big_quiet_op; go_big_quiet_on)
            (refine wpG_op rfl rfl rfl ?_; intro K hK; go_big_quiet_op; go_big_quiet_on)
            (refine wpG_val (v := .pointer (some (ad.add (i * 33)))) rfl rfl (fun u hu => idxSl_op (i := i) Tryd.underlying23 aggIn.size HI.out u rfl rfl) ?_ hw51; intro K hK; go_big_quiet_op; go_big_quiet_on)
            (refine wpG_val (v := inV (r.ins.getD i noIn)) rfl rfl (fun u hu => load_any_op u (HLD.out u (EnvX.sub hu (fun _ h => by cases h))).1 rfl) ?_ hw51; intro K hK; go_big_quiet_op; go_big_quiet_on)
            (refine wpG_val (v := .bool true) rfl rfl (fun u hu => eqlIn_op HY.out HX.out HEQ.out u rfl rfl) ?_ hw51; intro K hK; go_big_quiet_op; go_big_quiet_on)
            clear hone hw51
            refine wpG_nil ?_
            refine anyH_done (by kernel_rfl) ?_
            intro u53 E2'
            have EX52 := Lib.hid E2'
            clear E2'
            have HBE := Lib.hid (EnvX.bel EX52.out)
            go_wp2
            go_ret
            exact ⟨by rw [HF.out]; first | done | rfl, HBE.out⟩
          · have HEQ : Hid (eqI (r.ins.getD k noIn) (r.ins.getD i noIn) = false) := decide_eq_false he
            have H4 : Hid (∀ j, j < k + 1 → r.ins.getD j noIn ≠ r.ins.getD i noIn) := fun j hj => by
              rcases Nat.lt_or_ge j k with h | h
              · exact H3.out j h
              · rw [show j = k by omega]; exact he
            have hki := HKI.out
            clear he
            go_upto_region 9 with (fail)
            refine wp_region_H (w0 := w) [(w.heap.size, Obj.cells (txA ⟨r, some ad, n1, c1, A2, n2, c2⟩) 26 (0, 0))] (by kernel_rfl) EL.out ?_
            refine anyH_phase [0, 1, 2, 3, 4, 5, 6, 7, 8, 9, 10] 0 rfl ⟨_, (EnvX.drew EL.out)⟩ (by kernel_rfl) ?_
            have hw51 : EnvX w _ [(w.heap.size, Obj.cells (txA ⟨r, some ad, n1, c1, A2, n2, c2⟩) 26 (0, 0))] := (EnvX.drew EL.out)
            have hone := @EnvC.one _ _ _ hw51
            (refine wpG_op rfl rfl rfl ?_; intro K hK; go_big_quiet_op; go_big_quiet_on)
            (refine wpG_val (v := .slice (some ad) n1 c1) rfl rfl (fun u hu => load_any_op u (box_tx_ins hu (List.Mem.head _)) rfl) ?_ hw51; intro K hK; go_big_quiet_op; go_big_quiet_on)
            (refine wpG_op rfl rfl rfl ?_; intro K hK; go_big_quiet_op; go_big_quiet_on)
            (refine wpG_val (v := .pointer (some (ad.add (k * 33)))) rfl rfl (fun u hu => idxSl_op (i := k) Tryd.underlying23 aggIn.size HK.out u rfl rfl) ?_ hw51; intro K hK; go_big_quiet_op; go_big_quiet_on)
            (refine wpG_val (v := inV (r.ins.getD k noIn)) rfl rfl (fun u hu => load_any_op u (HLK.out u (EnvX.sub hu (fun _ h => by cases h))).1 rfl) ?_ hw51; intro K hK; go_big_quiet_op; go_big_quiet_on)
            (refine wpG_op rfl rfl rfl ?_; intro K hK; go_big_quiet_op; go_big_quiet_on)
            (refine wpG_val (v := .slice (some ad) n1 c1) rfl rfl (fun u hu => load_any_op u (box_tx_ins hu (List.Mem.head _)) rfl) ?_ hw51; intro K hK; go_big_quiet_op; go_big_quiet_on)
            (refine wpG_op rfl rfl rfl ?_; intro K hK; go_big_quiet_op; go_big_quiet_on)
            (refine wpG_val (v := .pointer (some (ad.add (i * 33)))) rfl rfl (fun u hu => idxSl_op (i := i) Tryd.underlying23 aggIn.size HI.out u rfl rfl) ?_ hw51; intro K hK; go_big_quiet_op; go_big_quiet_on)
            (refine wpG_val (v := inV (r.ins.getD i noIn)) rfl rfl (fun u hu => load_any_op u (HLD.out u (EnvX.sub hu (fun _ h => by cases h))).1 rfl) ?_ hw51; intro K hK; go_big_quiet_op; go_big_quiet_on)
            (refine wpG_val (v := .bool false) rfl rfl (fun u hu => eqlIn_op HY.out HX.out HEQ.out u rfl rfl) ?_ hw51; intro K hK; go_big_quiet_op; go_big_quiet_on)
            clear hone hw51
            refine wpG_nil ?_
            refine anyH_done (by kernel_rfl) ?_
            intro u53 E2'
            have EX52 := Lib.hid E2'
            clear E2'
            go_wp2
            go_roundw
            case rel => exact ⟨k + 1, by omega, by go_num, H4.out, EX52.out⟩
            case measure => simp [intOf]; omega
        · obtain rfl : k = i := by omega
          have D2 : ¬ (k : Int) < (k : Int) := by omega
          have H5 : Hid (∀ j, j < k + 1 → mayIn (r.ins.getD j noIn) = true) := fun j hj => by
            rcases Nat.lt_or_ge j k with h | h
            · exact H1.out j h
            · rw [show j = k by omega]; exact HMI.out
          have H6 : Hid (∀ j, j < k + 1 → ∀ q, q < j → r.ins.getD q noIn ≠ r.ins.getD j noIn) := fun j hj => by
            rcases Nat.lt_or_ge j k with h | h
            · exact H2.out j h
            · rw [show j = k by omega]; exact H3.out
          have hin := HI.out
          go_wp2
          go_roundw
          case rel => exact ⟨k + 1, by omega, by go_num, H5.out, H6.out, EL.out⟩
          case measure => simp [intOf]; omega
    · obtain rfl : i = n1 := by omega
      have C4 : Hid (decide ((i : Int) < (i : Int)) = false) := decide_eq_false (by omega)
      go_upto_region 2 with (fail)
      refine wp_region_Hx (w0 := w) [0, 1, 2, 3, 4] [(w.heap.size, Obj.cells (txA ⟨r, A1, i, c1, A2, n2, c2⟩) 26 (0, 0))] rfl EK.out ?_
      refine lexH_phase [0, 1, 2, 3, 4] [] ?_
      have hw211 : EnvX w _ [(w.heap.size, Obj.cells (txA ⟨r, A1, i, c1, A2, n2, c2⟩) 26 (0, 0))] := EK.out
      have hone := @EnvC.one _ _ _ hw211
      iterate 2 (refine wpG_op rfl rfl rfl ?_; intro K hK; go_big_quiet_op; go_big_quiet_on)
      (refine wpG_val (v := .slice A1 i c1) rfl rfl (fun u hu => load_any_op u (box_tx_ins hu (List.Mem.head _)) rfl) ?_ hw211; intro K hK; go_big_quiet_op; go_big_quiet_on)
      (refine wpG_val (v := .int .i64 (i : Int)) rfl rfl (fun u hu => len_op Tryd.underlying23 HN63.out.1 u rfl) ?_ hw211; intro K hK; go_big_quiet_op; go_big_quiet_on)
      (refine wpG_val (v := .bool false) rfl rfl (fun u hu => ltZ_op u C4.out rfl rfl) ?_ hw211; intro K hK; go_big_quiet_op; go_big_quiet_on)
      clear hone hw211
      refine wpG_nil ?_
      intro u213 E2'
      have EX212 := Lib.hid E2'
      clear E2'
      have EM := Lib.hid EX212.out
      clear EX212 EK
      go_upto_region 12 with (fail)
      go_loopw [5] (fun iv u => ∃ j : Nat, j ≤ n2 ∧ iv = .int .i64 (j : Int) ∧ Hid ((∀ q, q < j → mayOut (r.outs.getD q noOut) = true) ∧ EnvX w u [(w.heap.size, Obj.cells (txA ⟨r, A1, i, c1, A2, n2, c2⟩) 26 (0, 0))])) (fun iv _ => n2 - (intOf iv).toNat)
      case atStart => exact ⟨0, by omega, rfl, (fun j hj => by omega), EM.out⟩
      case round =>
        obtain ⟨j, hj, rfl, hinv3⟩ := hrel
        have H7 := Lib.hid hinv3.out.1
        have EN := Lib.hid hinv3.out.2
        clear hinv3 EM
        by_cases hlj : j < n2
        · have C12 : Hid (decide ((j : Int) < (n2 : Int)) = true) := decide_eq_true (by omega)
          have HJ := Lib.hid hlj
          have hjl : j < r.outs.length := by rw [HL.out.2]; exact hlj
          have HJL := Lib.hid hjl
          obtain ⟨ad, rfl, -, hld⟩ := HT.out.m2.loads hjl
          have HLO := Lib.hid hld
          have HBAD : Hid (mayOut (r.outs.getD j noOut) = false → mayX r = false) := may_badOut hjl
          have HGO : Hid (mayOut (r.outs.getD j noOut) = true → ∀ q, q < j + 1 → mayOut (r.outs.getD q noOut) = true) := fun hm q hq => by
            rcases Nat.lt_or_ge q j with h | h
            · exact H7.out q h
            · rw [show q = j by omega]; exact hm
          clear hld hjl hlj
          generalize r.outs.getD j noOut = ox at *
          go_upto_region 12 with (fail)
          refine wp_region_Hx (w0 := w) [0, 1, 2, 3, 4] [(w.heap.size, Obj.cells (txA ⟨r, A1, i, c1, some ad, n2, c2⟩) 26 (0, 0))] rfl EN.out ?_
          refine lexH_phase [0, 1, 2, 3, 4] [] ?_
          have hw231 : EnvX w _ [(w.heap.size, Obj.cells (txA ⟨r, A1, i, c1, some ad, n2, c2⟩) 26 (0, 0))] := EN.out
          have hone := @EnvC.one _ _ _ hw231
          iterate 2 (refine wpG_op rfl rfl rfl ?_; intro K hK; go_big_quiet_op; go_big_quiet_on)
          (refine wpG_val (v := .slice (some ad) n2 c2) rfl rfl (fun u hu => load_any_op u (box_tx_outs hu (List.Mem.head _)) rfl) ?_ hw231; intro K hK; go_big_quiet_op; go_big_quiet_on)
          (refine wpG_val (v := .int .i64 (n2 : Int)) rfl rfl (fun u hu => len_op Tryd.underlying24 HN63.out.2 u rfl) ?_ hw231; intro K hK; go_big_quiet_op; go_big_quiet_on)
          (refine wpG_val (v := .bool true) rfl rfl (fun u hu => ltZ_op u C12.out rfl rfl) ?_ hw231; intro K hK; go_big_quiet_op; go_big_quiet_on)
          clear hone hw231
          refine wpG_nil ?_
          intro u233 E2'
          have EX232 := Lib.hid E2'
          clear E2'
          go_upto_region 14 with (fail)
          refine wp_region_Hx (w0 := w) [0, 1, 2, 3, 4, 5, 6] [(w.heap.size, Obj.cells (txA ⟨r, A1, i, c1, some ad, n2, c2⟩) 26 (0, 0))] rfl EX232.out ?_
          refine lexH_phase [0, 1, 2, 3, 4] [5, 6] ?_
          have hw234 : EnvX w _ [(w.heap.size, Obj.cells (txA ⟨r, A1, i, c1, some ad, n2, c2⟩) 26 (0, 0))] := EX232.out
          have hone := @EnvC.one _ _ _ hw234
          (refine wpG_op rfl rfl rfl ?_; intro K hK; go_big_quiet_op; go_big_quiet_on)
          (refine wpG_val (v := .slice (some ad) n2 c2) rfl rfl (fun u hu => load_any_op u (box_tx_outs hu (List.Mem.head _)) rfl) ?_ hw234; intro K hK; go_big_quiet_op; go_big_quiet_on)
          (refine wpG_op rfl rfl rfl ?_; intro K hK; go_big_quiet_op; go_big_quiet_on)
          (refine wpG_val (v := .pointer (some (ad.add (j * 2)))) rfl rfl (fun u hu => idxSl_op (i := j) Tryd.underlying24 aggOut.size HJ.out u rfl rfl) ?_ hw234; intro K hK; go_big_quiet_op; go_big_quiet_on)
          (refine wpG_val (v := outV ox) rfl rfl (fun u hu => load_any_op u (HLO.out u (EnvX.sub hu (fun _ h => by cases h))).1 rfl) ?_ hw234; intro K hK; go_big_quiet_op; go_big_quiet_on)
          clear hone hw234
          refine wpG_nil ?_
          refine (hOp_fresh (R := fun x N => ∃ g, x = .pointer (some ⟨g, 0, none⟩) ∧ N = [(g, Obj.cells (outA noOut) 48 (0, 0))]) (M0 := [(w.heap.size, Obj.cells (txA ⟨r, A1, i, c1, some ad, n2, c2⟩) 26 (0, 0))]) rfl rfl (fun _ h => h) (fun u hu => FAt_new (new_out _) u) ?_)
          rintro _ _ ⟨g6, rfl, rfl⟩ hf he235; intro K' hK'; go_big_quiet_op; go_big_quiet_on
          have HG6 := Lib.hid (hf _ (List.mem_singleton.2 rfl))
          clear hf
          change lexH _ _ _ _ _ _ [(g6, Obj.cells (outA noOut) 48 (0, 0)), (w.heap.size, Obj.cells (txA ⟨r, A1, i, c1, some ad, n2, c2⟩) 26 (0, 0))]
          refine (hOp_store rfl (g6) (outA ox) rfl rfl HG6.out.1 48 ((outA noOut)) (List.Mem.head _) (infoOut _ (outA_size _)) ((outA_size _).trans (outA_size _).symm) (outA_one _) [(g6, Obj.cells (outA ox) 48 (0, 0)), (w.heap.size, Obj.cells (txA ⟨r, A1, i, c1, some ad, n2, c2⟩) 26 (0, 0))] (List.forall_mem_cons.2 ⟨.inl rfl, fun y hy => .inr ⟨List.mem_cons_of_mem _ hy, HG6.out.2 y hy⟩⟩) ?_)
          intro he236
          intro u238 E2'
          have EX237 := Lib.hid E2'
          clear E2'
          by_cases d0 : ox.v < 1
          · have D2 : Hid (decide (ox.v < 1) = true) := decide_eq_true d0
            have HF : Hid (mayX r = false) := HBAD.out (decide_eq_false (by omega))
            clear d0
            go_upto_region 15 with (fail)
            refine wp_region_Hx (w0 := w) [0, 1, 2, 3, 4, 5, 6, 7, 8, 9, 10, 11, 12, 13, 14, 15, 16, 17] [(g6, Obj.cells (outA ox) 48 (0, 0)), (w.heap.size, Obj.cells (txA ⟨r, A1, i, c1, some ad, n2, c2⟩) 26 (0, 0))] rfl EX237.out ?_
            refine lexH_phase [0, 1, 2, 3, 4, 5, 6, 7, 8, 9, 10, 11, 12, 13, 14, 15, 16, 17] [] ?_
            have hw239 : EnvX w _ [(g6, Obj.cells (outA ox) 48 (0, 0)), (w.heap.size, Obj.cells (txA ⟨r, A1, i, c1, some ad, n2, c2⟩) 26 (0, 0))] := EX237.out
            have hone := @EnvC.one _ _ _ hw239
            (refine wpG_val (v := .pointer (some ((⟨g6, 0, none⟩ : Addr).add 0))) rfl rfl (fun u hu => fieldOut_op rfl u rfl) ?_ hw239; intro K hK; go_big_quiet_op; go_big_quiet_on)
            (refine wpG_val (v := .int .i64 ox.v) rfl rfl (fun u hu => load_any_op u (box_out_v hu (List.Mem.head _)) rfl) ?_ hw239; intro K hK; go_big_quiet_op; go_big_quiet_on)
            (refine wpG_val (v := .bool true) rfl rfl (fun u hu => ltZ_op u D2.out rfl rfl) ?_ hw239; intro K hK; go_big_quiet_op; go_big_quiet_on)
            (refine wpG_op rfl rfl rfl ?_; intro K hK; go_big_quiet_op; go_big_quiet_on)
            iterate 3 (refine wpG_skip rfl rfl ?_ hw239; intro K hK; go_big_quiet_op; go_big_quiet_on)
            iterate 2 (refine wpG_op rfl rfl rfl ?_; intro K hK; go_big_quiet_op; go_big_quiet_on)
            iterate 3 (refine wpG_skip rfl rfl ?_ hw239; intro K hK; go_big_quiet_op; go_big_quiet_on)
            iterate 2 (refine wpG_op rfl rfl rfl ?_; intro K hK; go_big_quiet_op; go_big_quiet_on)
            iterate 3 (refine wpG_skip rfl rfl ?_ hw239; intro K hK; go_big_quiet_op; go_big_quiet_on)
            (refine wpG_op rfl rfl rfl ?_; intro K hK; go_big_quiet_op; go_big_quiet_on)
            clear hone hw239
            refine wpG_nil ?_
            intro u241 E2'
            have EX240 := Lib.hid E2'
            clear E2'
            have HBE := Lib.hid (EnvX.bel EX240.out)
            go_wp2
            go_ret
            exact ⟨by rw [HF.out]; first | done | rfl, HBE.out⟩
          have D2 : Hid (decide (ox.v < 1) = false) := decide_eq_false d0
          by_cases d1 : 1099511627776 < ox.v
          · have D6 : Hid (decide (1099511627776 < ox.v) = true) := decide_eq_true d1
            have HF : Hid (mayX r = false) := HBAD.out (decide_eq_false (by omega))
            clear d0 d1
            go_upto_region 15 with (fail)
            refine wp_region_Hx (w0 := w) [0, 1, 2, 3, 4, 5, 6, 7, 8, 9, 10, 11, 12, 13, 14, 15, 16, 17] [(g6, Obj.cells (outA ox) 48 (0, 0)), (w.heap.size, Obj.cells (txA ⟨r, A1, i, c1, some ad, n2, c2⟩) 26 (0, 0))] rfl EX237.out ?_
            refine lexH_phase [0, 1, 2, 3, 4, 5, 6, 7, 8, 9, 10, 11, 12, 13, 14, 15, 16, 17] [] ?_
            have hw239 : EnvX w _ [(g6, Obj.cells (outA ox) 48 (0, 0)), (w.heap.size, Obj.cells (txA ⟨r, A1, i, c1, some ad, n2, c2⟩) 26 (0, 0))] := EX237.out
            have hone := @EnvC.one _ _ _ hw239
            (refine wpG_val (v := .pointer (some ((⟨g6, 0, none⟩ : Addr).add 0))) rfl rfl (fun u hu => fieldOut_op rfl u rfl) ?_ hw239; intro K hK; go_big_quiet_op; go_big_quiet_on)
            (refine wpG_val (v := .int .i64 ox.v) rfl rfl (fun u hu => load_any_op u (box_out_v hu (List.Mem.head _)) rfl) ?_ hw239; intro K hK; go_big_quiet_op; go_big_quiet_on)
            (refine wpG_val (v := .bool false) rfl rfl (fun u hu => ltZ_op u D2.out rfl rfl) ?_ hw239; intro K hK; go_big_quiet_op; go_big_quiet_on)
            (refine wpG_op rfl rfl rfl ?_; intro K hK; go_big_quiet_op; go_big_quiet_on)
            (refine wpG_val (v := .pointer (some ((⟨g6, 0, none⟩ : Addr).add 0))) rfl rfl (fun u hu => fieldOut_op rfl u rfl) ?_ hw239; intro K hK; go_big_quiet_op; go_big_quiet_on)
            (refine wpG_val (v := .int .i64 ox.v) rfl rfl (fun u hu => load_any_op u (box_out_v hu (List.Mem.head _)) rfl) ?_ hw239; intro K hK; go_big_quiet_op; go_big_quiet_on)
            (refine wpG_val (v := .bool true) rfl rfl (fun u hu => gtZ_op u D6.out rfl rfl) ?_ hw239; intro K hK; go_big_quiet_op; go_big_quiet_on)
            iterate 2 (refine wpG_op rfl rfl rfl ?_; intro K hK; go_big_quiet_op; go_big_quiet_on)
            iterate 3 (refine wpG_skip rfl rfl ?_ hw239; intro K hK; go_big_quiet_op; go_big_quiet_on)
            iterate 2 (refine wpG_op rfl rfl rfl ?_; intro K hK; go_big_quiet_op; go_big_quiet_on)
            iterate 3 (refine wpG_skip rfl rfl ?_ hw239; intro K hK; go_big_quiet_op; go_big_quiet_on)
            (refine wpG_op rfl rfl rfl ?_; intro K hK; go_big_quiet_op; go_big_quiet_on)
            clear hone hw239
            refine wpG_nil ?_
            intro u241 E2'
            have EX240 := Lib.hid E2'
            clear E2'
            have HBE := Lib.hid (EnvX.bel EX240.out)
            go_wp2
            go_ret
            exact ⟨by rw [HF.out]; first | done | rfl, HBE.out⟩
          have D6 : Hid (decide (1099511627776 < ox.v) = false) := decide_eq_false d1
          by_cases d2 : ox.to < 0
          · have D11 : Hid (decide (ox.to < 0) = true) := decide_eq_true d2
            have HF : Hid (mayX r = false) := HBAD.out (decide_eq_false (by omega))
            clear d0 d1 d2
            go_upto_region 15 with (fail)
            refine wp_region_Hx (w0 := w) [0, 1, 2, 3, 4, 5, 6, 7, 8, 9, 10, 11, 12, 13, 14, 15, 16, 17] [(g6, Obj.cells (outA ox) 48 (0, 0)), (w.heap.size, Obj.cells (txA ⟨r, A1, i, c1, some ad, n2, c2⟩) 26 (0, 0))] rfl EX237.out ?_
            refine lexH_phase [0, 1, 2, 3, 4, 5, 6, 7, 8, 9, 10, 11, 12, 13, 14, 15, 16, 17] [] ?_
            have hw239 : EnvX w _ [(g6, Obj.cells (outA ox) 48 (0, 0)), (w.heap.size, Obj.cells (txA ⟨r, A1, i, c1, some ad, n2, c2⟩) 26 (0, 0))] := EX237.out
            have hone := @EnvC.one _ _ _ hw239
            (refine wpG_val (v := .pointer (some ((⟨g6, 0, none⟩ : Addr).add 0))) rfl rfl (fun u hu => fieldOut_op rfl u rfl) ?_ hw239; intro K hK; go_big_quiet_op; go_big_quiet_on)
            (refine wpG_val (v := .int .i64 ox.v) rfl rfl (fun u hu => load_any_op u (box_out_v hu (List.Mem.head _)) rfl) ?_ hw239; intro K hK; go_big_quiet_op; go_big_quiet_on)
            (refine wpG_val (v := .bool false) rfl rfl (fun u hu => ltZ_op u D2.out rfl rfl) ?_ hw239; intro K hK; go_big_quiet_op; go_big_quiet_on)
            (refine wpG_op rfl rfl rfl ?_; intro K hK; go_big_quiet_op; go_big_quiet_on)
            (refine wpG_val (v := .pointer (some ((⟨g6, 0, none⟩ : Addr).add 0))) rfl rfl (fun u hu => fieldOut_op rfl u rfl) ?_ hw239; intro K hK; go_big_quiet_op; go_big_quiet_on)
            (refine wpG_val (v := .int .i64 ox.v) rfl rfl (fun u hu => load_any_op u (box_out_v hu (List.Mem.head _)) rfl) ?_ hw239; intro K hK; go_big_quiet_op; go_big_quiet_on)
            (refine wpG_val (v := .bool false) rfl rfl (fun u hu => gtZ_op u D6.out rfl rfl) ?_ hw239; intro K hK; go_big_quiet_op; go_big_quiet_on)
            iterate 2 (refine wpG_op rfl rfl rfl ?_; intro K hK; go_big_quiet_op; go_big_quiet_on)
            (refine wpG_val (v := .pointer (some ((⟨g6, 0, none⟩ : Addr).add 1))) rfl rfl (fun u hu => fieldOut_op rfl u rfl) ?_ hw239; intro K hK; go_big_quiet_op; go_big_quiet_on)
            (refine wpG_val (v := .int .i64 ox.to) rfl rfl (fun u hu => load_any_op u (box_out_to hu (List.Mem.head _)) rfl) ?_ hw239; intro K hK; go_big_quiet_op; go_big_quiet_on)
            (refine wpG_val (v := .bool true) rfl rfl (fun u hu => ltZ_op u D11.out rfl rfl) ?_ hw239; intro K hK; go_big_quiet_op; go_big_quiet_on)
            iterate 2 (refine wpG_op rfl rfl rfl ?_; intro K hK; go_big_quiet_op; go_big_quiet_on)
            iterate 3 (refine wpG_skip rfl rfl ?_ hw239; intro K hK; go_big_quiet_op; go_big_quiet_on)
            (refine wpG_op rfl rfl rfl ?_; intro K hK; go_big_quiet_op; go_big_quiet_on)
            clear hone hw239
            refine wpG_nil ?_
            intro u241 E2'
            have EX240 := Lib.hid E2'
            clear E2'
            have HBE := Lib.hid (EnvX.bel EX240.out)
            go_wp2
            go_ret
            exact ⟨by rw [HF.out]; first | done | rfl, HBE.out⟩
          have D11 : Hid (decide (ox.to < 0) = false) := decide_eq_false d2
          by_cases d3 : 255 < ox.to
          · have D16 : Hid (decide (255 < ox.to) = true) := decide_eq_true d3
            have HF : Hid (mayX r = false) := HBAD.out (decide_eq_false (by omega))
            clear d0 d1 d2 d3
            go_upto_region 15 with (fail)
            refine wp_region_Hx (w0 := w) [0, 1, 2, 3, 4, 5, 6, 7, 8, 9, 10, 11, 12, 13, 14, 15, 16, 17] [(g6, Obj.cells (outA ox) 48 (0, 0)), (w.heap.size, Obj.cells (txA ⟨r, A1, i, c1, some ad, n2, c2⟩) 26 (0, 0))] rfl EX237.out ?_
            refine lexH_phase [0, 1, 2, 3, 4, 5, 6, 7, 8, 9, 10, 11, 12, 13, 14, 15, 16, 17] [] ?_
            have hw239 : EnvX w _ [(g6, Obj.cells (outA ox) 48 (0, 0)), (w.heap.size, Obj.cells (txA ⟨r, A1, i, c1, some ad, n2, c2⟩) 26 (0, 0))] := EX237.out
            have hone := @EnvC.one _ _ _ hw239
            (refine wpG_val (v := .pointer (some ((⟨g6, 0, none⟩ : Addr).add 0))) rfl rfl (fun u hu => fieldOut_op rfl u rfl) ?_ hw239; intro K hK; go_big_quiet_op; go_big_quiet_on)
            (refine wpG_val (v := .int .i64 ox.v) rfl rfl (fun u hu => load_any_op u (box_out_v hu (List.Mem.head _)) rfl) ?_ hw239; intro K hK; go_big_quiet_op; go_big_quiet_on)
            (refine wpG_val (v := .bool false) rfl rfl (fun u hu => ltZ_op u D2.out rfl rfl) ?_ hw239; intro K hK; go_big_quiet_op; go_big_quiet_on)
            (refine wpG_op rfl rfl rfl ?_; intro K hK; go_big_quiet_op; go_big_quiet_on)
            (refine wpG_val (v := .pointer (some ((⟨g6, 0, none⟩ : Addr).add 0))) rfl rfl (fun u hu => fieldOut_op rfl u rfl) ?_ hw239; intro K hK; go_big_quiet_op; go_big_quiet_on)
            (refine wpG_val (v := .int .i64 ox.v) rfl rfl (fun u hu => load_any_op u (box_out_v hu (List.Mem.head _)) rfl) ?_ hw239; intro K hK; go_big_quiet_op; go_big_quiet_on)
            (refine wpG_val (v := .bool false) rfl rfl (fun u hu => gtZ_op u D6.out rfl rfl) ?_ hw239; intro K hK; go_big_quiet_op; go_big_quiet_on)
            iterate 2 (refine wpG_op rfl rfl rfl ?_; intro K hK; go_big_quiet_op; go_big_quiet_on)
            (refine wpG_val (v := .pointer (some ((⟨g6, 0, none⟩ : Addr).add 1))) rfl rfl (fun u hu => fieldOut_op rfl u rfl) ?_ hw239; intro K hK; go_big_quiet_op; go_big_quiet_on)
            (refine wpG_val (v := .int .i64 ox.to) rfl rfl (fun u hu => load_any_op u (box_out_to hu (List.Mem.head _)) rfl) ?_ hw239; intro K hK; go_big_quiet_op; go_big_quiet_on)
            (refine wpG_val (v := .bool false) rfl rfl (fun u hu => ltZ_op u D11.out rfl rfl) ?_ hw239; intro K hK; go_big_quiet_op; go_big_quiet_on)
            iterate 2 (refine wpG_op rfl rfl rfl ?_; intro K hK; go_big_quiet_op; go_big_quiet_on)
            (refine wpG_val (v := .pointer (some ((⟨g6, 0, none⟩ : Addr).add 1))) rfl rfl (fun u hu => fieldOut_op rfl u rfl) ?_ hw239; intro K hK; go_big_quiet_op; go_big_quiet_on)
            (refine wpG_val (v := .int .i64 ox.to) rfl rfl (fun u hu => load_any_op u (box_out_to hu (List.Mem.head _)) rfl) ?_ hw239; intro K hK; go_big_quiet_op; go_big_quiet_on)
            (refine wpG_val (v := .bool true) rfl rfl (fun u hu => gtZ_op u D16.out rfl rfl) ?_ hw239; intro K hK; go_big_quiet_op; go_big_quiet_on)
            (refine wpG_op rfl rfl rfl ?_; intro K hK; go_big_quiet_op; go_big_quiet_on)
            clear hone hw239
            refine wpG_nil ?_
            intro u241 E2'
            have EX240 := Lib.hid E2'
            clear E2'
            have HBE := Lib.hid (EnvX.bel EX240.out)
            go_wp2
            go_ret
            exact ⟨by rw [HF.out]; first | done | rfl, HBE.out⟩
          have D16 : Hid (decide (255 < ox.to) = false) := decide_eq_false d3
          have HMO : Hid (mayOut ox = true) := decide_eq_true (by omega)
          clear d0 d1 d2 d3
          go_upto_region 15 with (fail)
          refine wp_region_Hx (w0 := w) [0, 1, 2, 3, 4, 5, 6, 7, 8, 9, 10, 11, 12, 13, 14, 15, 16, 17] [(g6, Obj.cells (outA ox) 48 (0, 0)), (w.heap.size, Obj.cells (txA ⟨r, A1, i, c1, some ad, n2, c2⟩) 26 (0, 0))] rfl EX237.out ?_
          refine lexH_phase [0, 1, 2, 3, 4, 5, 6, 7, 8, 9, 10, 11, 12, 13, 14, 15, 16, 17] [] ?_
          have hw239 : EnvX w _ [(g6, Obj.cells (outA ox) 48 (0, 0)), (w.heap.size, Obj.cells (txA ⟨r, A1, i, c1, some ad, n2, c2⟩) 26 (0, 0))] := EX237.out
          have hone := @EnvC.one _ _ _ hw239
          (refine wpG_val (v := .pointer (some ((⟨g6, 0, none⟩ : Addr).add 0))) rfl rfl (fun u hu => fieldOut_op rfl u rfl) ?_ hw239; intro K hK; go_big_quiet_op; go_big_quiet_on)
          (refine wpG_val (v := .int .i64 ox.v) rfl rfl (fun u hu => load_any_op u (box_out_v hu (List.Mem.head _)) rfl) ?_ hw239; intro K hK; go_big_quiet_op; go_big_quiet_on)
          (refine wpG_val (v := .bool false) rfl rfl (fun u hu => ltZ_op u D2.out rfl rfl) ?_ hw239; intro K hK; go_big_quiet_op; go_big_quiet_on)
          (refine wpG_op rfl rfl rfl ?_; intro K hK; go_big_quiet_op; go_big_quiet_on)
          (refine wpG_val (v := .pointer (some ((⟨g6, 0, none⟩ : Addr).add 0))) rfl rfl (fun u hu => fieldOut_op rfl u rfl) ?_ hw239; intro K hK; go_big_quiet_op; go_big_quiet_on)
          (refine wpG_val (v := .int .i64 ox.v) rfl rfl (fun u hu => load_any_op u (box_out_v hu (List.Mem.head _)) rfl) ?_ hw239; intro K hK; go_big_quiet_op; go_big_quiet_on)
          (refine wpG_val (v := .bool false) rfl rfl (fun u hu => gtZ_op u D6.out rfl rfl) ?_ hw239; intro K hK; go_big_quiet_op; go_big_quiet_on)
          iterate 2 (refine wpG_op rfl rfl rfl ?_; intro K hK; go_big_quiet_op; go_big_quiet_on)
          (refine wpG_val (v := .pointer (some ((⟨g6, 0, none⟩ : Addr).add 1))) rfl rfl (fun u hu => fieldOut_op rfl u rfl) ?_ hw239; intro K hK; go_big_quiet_op; go_big_quiet_on)
          (refine wpG_val (v := .int .i64 ox.to) rfl rfl (fun u hu => load_any_op u (box_out_to hu (List.Mem.head _)) rfl) ?_ hw239; intro K hK; go_big_quiet_op; go_big_quiet_on)
          (refine wpG_val (v := .bool false) rfl rfl (fun u hu => ltZ_op u D11.out rfl rfl) ?_ hw239; intro K hK; go_big_quiet_op; go_big_quiet_on)
          iterate 2 (refine wpG_op rfl rfl rfl ?_; intro K hK; go_big_quiet_op; go_big_quiet_on)
          (refine wpG_val (v := .pointer (some ((⟨g6, 0, none⟩ : Addr).add 1))) rfl rfl (fun u hu => fieldOut_op rfl u rfl) ?_ hw239; intro K hK; go_big_quiet_op; go_big_quiet_on)
          (refine wpG_val (v := .int .i64 ox.to) rfl rfl (fun u hu => load_any_op u (box_out_to hu (List.Mem.head _)) rfl) ?_ hw239; intro K hK; go_big_quiet_op; go_big_quiet_on)
          (refine wpG_val (v := .bool false) rfl rfl (fun u hu => gtZ_op u D16.out rfl rfl) ?_ hw239; intro K hK; go_big_quiet_op; go_big_quiet_on)
          (refine wpG_op rfl rfl rfl ?_; intro K hK; go_big_quiet_op; go_big_quiet_on)
          clear hone hw239
          refine wpG_nil ?_
          intro u241 E2'
          have EX240 := Lib.hid E2'
          clear E2'
          have H8 : Hid (∀ q, q < j + 1 → mayOut (r.outs.getD q noOut) = true) := HGO.out HMO.out
          have hjn := HJ.out
          go_wp2
          go_roundw
          case rel => exact ⟨j + 1, by omega, by go_num, H8.out, EnvX.sub EX240.out (fun y hy => List.mem_cons_of_mem _ hy)⟩
          case measure => simp [intOf]; omega
        · obtain rfl : j = n2 := by omega
          have C12 : Hid (decide ((j : Int) < (j : Int)) = false) := decide_eq_false (by omega)
          have hmr := may_rest (r := r) (fun q hq => H1.out q (by rw [← HL.out.1]; exact hq)) (fun q hq => H2.out q (by rw [← HL.out.1]; exact hq)) (fun q hq => H7.out q (by rw [← HL.out.2]; exact hq))
          rw [HL.out.1, HL.out.2] at hmr
          have HMR := Lib.hid hmr
          clear hmr
          go_upto_region 12 with (fail)
          refine wp_region_Hx (w0 := w) [0, 1, 2, 3, 4] [(w.heap.size, Obj.cells (txA ⟨r, A1, i, c1, A2, j, c2⟩) 26 (0, 0))] rfl EN.out ?_
          refine lexH_phase [0, 1, 2, 3, 4] [] ?_
          have hw331 : EnvX w _ [(w.heap.size, Obj.cells (txA ⟨r, A1, i, c1, A2, j, c2⟩) 26 (0, 0))] := EN.out
          have hone := @EnvC.one _ _ _ hw331
          iterate 2 (refine wpG_op rfl rfl rfl ?_; intro K hK; go_big_quiet_op; go_big_quiet_on)
          (refine wpG_val (v := .slice A2 j c2) rfl rfl (fun u hu => load_any_op u (box_tx_outs hu (List.Mem.head _)) rfl) ?_ hw331; intro K hK; go_big_quiet_op; go_big_quiet_on)
          (refine wpG_val (v := .int .i64 (j : Int)) rfl rfl (fun u hu => len_op Tryd.underlying24 HN63.out.2 u rfl) ?_ hw331; intro K hK; go_big_quiet_op; go_big_quiet_on)
          (refine wpG_val (v := .bool false) rfl rfl (fun u hu => ltZ_op u C12.out rfl rfl) ?_ hw331; intro K hK; go_big_quiet_op; go_big_quiet_on)
          clear hone hw331
          refine wpG_nil ?_
          intro u333 E2'
          have EX332 := Lib.hid E2'
          clear E2'
          by_cases d0 : (i : Int) ≤ 3
          case neg =>
            have D3 : Hid (decide ((i : Int) ≤ 3) = false) := decide_eq_false d0
            go_upto_region 17 with (fail)
            refine wp_region_Hx (w0 := w) [0, 1, 2, 3, 4, 5, 6, 7, 8, 9, 10, 11, 12, 13, 14, 15, 16] [(w.heap.size, Obj.cells (txA ⟨r, A1, i, c1, A2, j, c2⟩) 26 (0, 0))] rfl EX332.out ?_
            refine lexH_phase [0, 1, 2, 3, 4, 5, 6, 7, 8, 9, 10, 11, 12, 13, 14, 15, 16] [] ?_
            have hw334 : EnvX w _ [(w.heap.size, Obj.cells (txA ⟨r, A1, i, c1, A2, j, c2⟩) 26 (0, 0))] := EX332.out
            have hone := @EnvC.one _ _ _ hw334
            (refine wpG_op rfl rfl rfl ?_; intro K hK; go_big_quiet_op; go_big_quiet_on)
            (refine wpG_val (v := .slice A1 i c1) rfl rfl (fun u hu => load_any_op u (box_tx_ins hu (List.Mem.head _)) rfl) ?_ hw334; intro K hK; go_big_quiet_op; go_big_quiet_on)
            (refine wpG_val (v := .int .i64 (i : Int)) rfl rfl (fun u hu => len_op Tryd.underlying23 HN63.out.1 u rfl) ?_ hw334; intro K hK; go_big_quiet_op; go_big_quiet_on)
            (refine wpG_val (v := .bool false) rfl rfl (fun u hu => leZ_op u D3.out rfl rfl) ?_ hw334; intro K hK; go_big_quiet_op; go_big_quiet_on)
            (refine wpG_op rfl rfl rfl ?_; intro K hK; go_big_quiet_op; go_big_quiet_on)
            iterate 4 (refine wpG_skip rfl rfl ?_ hw334; intro K hK; go_big_quiet_op; go_big_quiet_on)
            iterate 2 (refine wpG_op rfl rfl rfl ?_; intro K hK; go_big_quiet_op; go_big_quiet_on)
            iterate 4 (refine wpG_skip rfl rfl ?_ hw334; intro K hK; go_big_quiet_op; go_big_quiet_on)
            iterate 2 (refine wpG_op rfl rfl rfl ?_; intro K hK; go_big_quiet_op; go_big_quiet_on)
            clear hone hw334
            refine wpG_nil ?_
            intro u336 E2'
            have EX335 := Lib.hid E2'
            clear E2'
            have HF : Hid (mayX r = false) := by show _ = _; rw [HMR.out]; exact decide_eq_false (by omega)
            have HBE := Lib.hid (EnvX.bel EX335.out)
            go_wp2
            go_ret
            exact ⟨by rw [HF.out]; first | done | rfl, HBE.out⟩
          have D3 : Hid (decide ((i : Int) ≤ 3) = true) := decide_eq_true d0
          by_cases d1 : 1 ≤ (j : Int)
          case neg =>
            have D8 : Hid (decide (1 ≤ (j : Int)) = false) := decide_eq_false d1
            go_upto_region 17 with (fail)
            refine wp_region_Hx (w0 := w) [0, 1, 2, 3, 4, 5, 6, 7, 8, 9, 10, 11, 12, 13, 14, 15, 16] [(w.heap.size, Obj.cells (txA ⟨r, A1, i, c1, A2, j, c2⟩) 26 (0, 0))] rfl EX332.out ?_
            refine lexH_phase [0, 1, 2, 3, 4, 5, 6, 7, 8, 9, 10, 11, 12, 13, 14, 15, 16] [] ?_
            have hw334 : EnvX w _ [(w.heap.size, Obj.cells (txA ⟨r, A1, i, c1, A2, j, c2⟩) 26 (0, 0))] := EX332.out
            have hone := @EnvC.one _ _ _ hw334
            (refine wpG_op rfl rfl rfl ?_; intro K hK; go_big_quiet_op; go_big_quiet_on)
            (refine wpG_val (v := .slice A1 i c1) rfl rfl (fun u hu => load_any_op u (box_tx_ins hu (List.Mem.head _)) rfl) ?_ hw334; intro K hK; go_big_quiet_op; go_big_quiet_on)
            (refine wpG_val (v := .int .i64 (i : Int)) rfl rfl (fun u hu => len_op Tryd.underlying23 HN63.out.1 u rfl) ?_ hw334; intro K hK; go_big_quiet_op; go_big_quiet_on)
            (refine wpG_val (v := .bool true) rfl rfl (fun u hu => leZ_op u D3.out rfl rfl) ?_ hw334; intro K hK; go_big_quiet_op; go_big_quiet_on)
            iterate 2 (refine wpG_op rfl rfl rfl ?_; intro K hK; go_big_quiet_op; go_big_quiet_on)
            (refine wpG_val (v := .slice A2 j c2) rfl rfl (fun u hu => load_any_op u (box_tx_outs hu (List.Mem.head _)) rfl) ?_ hw334; intro K hK; go_big_quiet_op; go_big_quiet_on)
            (refine wpG_val (v := .int .i64 (j : Int)) rfl rfl (fun u hu => len_op Tryd.underlying24 HN63.out.2 u rfl) ?_ hw334; intro K hK; go_big_quiet_op; go_big_quiet_on)
            (refine wpG_val (v := .bool false) rfl rfl (fun u hu => geZ_op u D8.out rfl rfl) ?_ hw334; intro K hK; go_big_quiet_op; go_big_quiet_on)
            iterate 2 (refine wpG_op rfl rfl rfl ?_; intro K hK; go_big_quiet_op; go_big_quiet_on)
            iterate 4 (refine wpG_skip rfl rfl ?_ hw334; intro K hK; go_big_quiet_op; go_big_quiet_on)
            iterate 2 (refine wpG_op rfl rfl rfl ?_; intro K hK; go_big_quiet_op; go_big_quiet_on)
            clear hone hw334
            refine wpG_nil ?_
            intro u336 E2'
            have EX335 := Lib.hid E2'
            clear E2'
            have HF : Hid (mayX r = false) := by show _ = _; rw [HMR.out]; exact decide_eq_false (by omega)
            have HBE := Lib.hid (EnvX.bel EX335.out)
            go_wp2
            go_ret
            exact ⟨by rw [HF.out]; first | done | rfl, HBE.out⟩
          have D8 : Hid (decide (1 ≤ (j : Int)) = true) := decide_eq_true d1
          by_cases d2 : (j : Int) ≤ 3
          case neg =>
            have D14 : Hid (decide ((j : Int) ≤ 3) = false) := decide_eq_false d2
            go_upto_region 17 with (fail)
            refine wp_region_Hx (w0 := w) [0, 1, 2, 3, 4, 5, 6, 7, 8, 9, 10, 11, 12, 13, 14, 15, 16] [(w.heap.size, Obj.cells (txA ⟨r, A1, i, c1, A2, j, c2⟩) 26 (0, 0))] rfl EX332.out ?_
            refine lexH_phase [0, 1, 2, 3, 4, 5, 6, 7, 8, 9, 10, 11, 12, 13, 14, 15, 16] [] ?_
            have hw334 : EnvX w _ [(w.heap.size, Obj.cells (txA ⟨r, A1, i, c1, A2, j, c2⟩) 26 (0, 0))] := EX332.out
            have hone := @EnvC.one _ _ _ hw334
            (refine wpG_op rfl rfl rfl ?_; intro K hK; go_big_quiet_op; go_big_quiet_on)
            (refine wpG_val (v := .slice A1 i c1) rfl rfl (fun u hu => load_any_op u (box_tx_ins hu (List.Mem.head _)) rfl) ?_ hw334; intro K hK; go_big_quiet_op; go_big_quiet_on)
            (refine wpG_val (v := .int .i64 (i : Int)) rfl rfl (fun u hu => len_op Tryd.underlying23 HN63.out.1 u rfl) ?_ hw334; intro K hK; go_big_quiet_op; go_big_quiet_on)
            (refine wpG_val (v := .bool true) rfl rfl (fun u hu => leZ_op u D3.out rfl rfl) ?_ hw334; intro K hK; go_big_quiet_op; go_big_quiet_on)
            iterate 2 (refine wpG_op rfl rfl rfl ?_; intro K hK; go_big_quiet_op; go_big_quiet_on)
            (refine wpG_val (v := .slice A2 j c2) rfl rfl (fun u hu => load_any_op u (box_tx_outs hu (List.Mem.head _)) rfl) ?_ hw334; intro K hK; go_big_quiet_op; go_big_quiet_on)
            (refine wpG_val (v := .int .i64 (j : Int)) rfl rfl (fun u hu => len_op Tryd.underlying24 HN63.out.2 u rfl) ?_ hw334; intro K hK; go_big_quiet_op; go_big_quiet_on)
            (refine wpG_val (v := .bool true) rfl rfl (fun u hu => geZ_op u D8.out rfl rfl) ?_ hw334; intro K hK; go_big_quiet_op; go_big_quiet_on)
            iterate 3 (refine wpG_op rfl rfl rfl ?_; intro K hK; go_big_quiet_op; go_big_quiet_on)
            (refine wpG_val (v := .slice A2 j c2) rfl rfl (fun u hu => load_any_op u (box_tx_outs hu (List.Mem.head _)) rfl) ?_ hw334; intro K hK; go_big_quiet_op; go_big_quiet_on)
            (refine wpG_val (v := .int .i64 (j : Int)) rfl rfl (fun u hu => len_op Tryd.underlying24 HN63.out.2 u rfl) ?_ hw334; intro K hK; go_big_quiet_op; go_big_quiet_on)
            (refine wpG_val (v := .bool false) rfl rfl (fun u hu => leZ_op u D14.out rfl rfl) ?_ hw334; intro K hK; go_big_quiet_op; go_big_quiet_on)
            iterate 2 (refine wpG_op rfl rfl rfl ?_; intro K hK; go_big_quiet_op; go_big_quiet_on)
            clear hone hw334
            refine wpG_nil ?_
            intro u336 E2'
            have EX335 := Lib.hid E2'
            clear E2'
            have HF : Hid (mayX r = false) := by show _ = _; rw [HMR.out]; exact decide_eq_false (by omega)
            have HBE := Lib.hid (EnvX.bel EX335.out)
            go_wp2
            go_ret
            exact ⟨by rw [HF.out]; first | done | rfl, HBE.out⟩
          have D14 : Hid (decide ((j : Int) ≤ 3) = true) := decide_eq_true d2
          go_upto_region 17 with (fail)
          refine wp_region_Hx (w0 := w) [0, 1, 2, 3, 4, 5, 6, 7, 8, 9, 10, 11, 12, 13, 14, 15, 16] [(w.heap.size, Obj.cells (txA ⟨r, A1, i, c1, A2, j, c2⟩) 26 (0, 0))] rfl EX332.out ?_
          refine lexH_phase [0, 1, 2, 3, 4, 5, 6, 7, 8, 9, 10, 11, 12, 13, 14, 15, 16] [] ?_
          have hw334 : EnvX w _ [(w.heap.size, Obj.cells (txA ⟨r, A1, i, c1, A2, j, c2⟩) 26 (0, 0))] := EX332.out
          have hone := @EnvC.one _ _ _ hw334
          (refine wpG_op rfl rfl rfl ?_; intro K hK; go_big_quiet_op; go_big_quiet_on)
          (refine wpG_val (v := .slice A1 i c1) rfl rfl (fun u hu => load_any_op u (box_tx_ins hu (List.Mem.head _)) rfl) ?_ hw334; intro K hK; go_big_quiet_op; go_big_quiet_on)
          (refine wpG_val (v := .int .i64 (i : Int)) rfl rfl (fun u hu => len_op Tryd.underlying23 HN63.out.1 u rfl) ?_ hw334; intro K hK; go_big_quiet_op; go_big_quiet_on)
          (refine wpG_val (v := .bool true) rfl rfl (fun u hu => leZ_op u D3.out rfl rfl) ?_ hw334; intro K hK; go_big_quiet_op; go_big_quiet_on)
          iterate 2 (refine wpG_op rfl rfl rfl ?_; intro K hK; go_big_quiet_op; go_big_quiet_on)
          (refine wpG_val (v := .slice A2 j c2) rfl rfl (fun u hu => load_any_op u (box_tx_outs hu (List.Mem.head _)) rfl) ?_ hw334; intro K hK; go_big_quiet_op; go_big_quiet_on)
          (refine wpG_val (v := .int .i64 (j : Int)) rfl rfl (fun u hu => len_op Tryd.underlying24 HN63.out.2 u rfl) ?_ hw334; intro K hK; go_big_quiet_op; go_big_quiet_on)
          (refine wpG_val (v := .bool true) rfl rfl (fun u hu => geZ_op u D8.out rfl rfl) ?_ hw334; intro K hK; go_big_quiet_op; go_big_quiet_on)
          iterate 3 (refine wpG_op rfl rfl rfl ?_; intro K hK; go_big_quiet_op; go_big_quiet_on)
          (refine wpG_val (v := .slice A2 j c2) rfl rfl (fun u hu => load_any_op u (box_tx_outs hu (List.Mem.head _)) rfl) ?_ hw334; intro K hK; go_big_quiet_op; go_big_quiet_on)
          (refine wpG_val (v := .int .i64 (j : Int)) rfl rfl (fun u hu => len_op Tryd.underlying24 HN63.out.2 u rfl) ?_ hw334; intro K hK; go_big_quiet_op; go_big_quiet_on)
          (refine wpG_val (v := .bool true) rfl rfl (fun u hu => leZ_op u D14.out rfl rfl) ?_ hw334; intro K hK; go_big_quiet_op; go_big_quiet_on)
          iterate 2 (refine wpG_op rfl rfl rfl ?_; intro K hK; go_big_quiet_op; go_big_quiet_on)
          clear hone hw334
          refine wpG_nil ?_
          intro u336 E2'
          have EX335 := Lib.hid E2'
          clear E2'
          have HF : Hid (mayX r = true) := by show _ = _; rw [HMR.out]; exact decide_eq_true (by omega)
          have HBE := Lib.hid (EnvX.bel EX335.out)
          go_wp2
          go_ret
          exact ⟨by rw [HF.out]; first | done | rfl, HBE.out⟩
theorem getD_ext {α : Type} {a b : List α} {d : α} (hl : a.length = b.length) (h : ∀ i, i < a.length → a.getD i d = b.getD i d) : a = b := by
  refine List.ext_getElem hl fun i h1 h2 => ?_
  have := h i h1
  rwa [List.getD_eq_getElem?_getD, List.getElem?_eq_getElem h1, List.getD_eq_getElem?_getD, List.getElem?_eq_getElem h2] at this
set_option maxHeartbeats 1000000 in
theorem rput_any (n k : Nat) (w : World) (hn : n < 18446744073709551616) (hk : k ≤ 8) :
    Calls Tryd.prog 61 #[.int .u64 n, .int .i64 k] w fun e w' => (∃ v, e = .returned v ∧ OwnB w' w.heap.size v (putL n k)) ∧ Below w.heap.size w w' := by
  have k8 : ¬ (8 : Int) < (k : Int) := by omega
  have k0 : ¬ (k : Int) < 0 := by omega
  go_enter Tryd.func61, Tryd.ntmps61
  go_wp2_with fail
  rw [make_bytes k (by omega)]
  go_wp2_with fail
  go_loopw [6, 0] (fun i x u => ∃ j : Nat, j ≤ k ∧ i = .int .i64 ((k : Int) - 1 - j) ∧ x = .int .u64 ((n / 256 ^ j : Nat) : Int) ∧ Below w.heap.size w u ∧ Hid (Row u w.heap.size 5 (arrB k (List.replicate (k - j) 0 ++ putL n j)))) (fun i _ _ => (intOf i + 1).toNat)
  case atStart =>
    refine ⟨0, by omega, by go_num, by simp, by go_grown, ?_⟩
    have e : arrB k (List.replicate (k - 0) 0 ++ putL n 0) = arrB k [] := by simp [putL, arrB]
    rw [e]
    exact Row.new w 5 _
  case round =>
    obtain ⟨j, hj, rfl, rfl, hbl, hrows⟩ := hrel
    have r0 := hrows.out
    obtain ⟨q, hq⟩ : ∃ q, n / 256 ^ j = q := ⟨_, rfl⟩
    have hq64 : q < 18446744073709551616 := by rw [← hq]; exact Nat.lt_of_le_of_lt (Nat.div_le_self _ _) hn
    have hq2 : Hid (n / 256 ^ (j + 1) = q / 256) := by show _ = _; rw [← hq, Nat.pow_succ, Nat.div_div_eq_div_mul]
    have HQ := Lib.hid hq
    rw [hq]
    clear hq
    by_cases hlt : j < k
    · obtain ⟨t, ht⟩ : ∃ t : Nat, k - 1 - j = t := ⟨_, rfl⟩
      have ht2 : (k : Int) - 1 - (j : Int) = (t : Int) := by omega
      rw [ht2]
      have htk : t < k := by omega
      have htk2 : (t : Int) < (k : Int) := by omega
      have hset := put_set n k j hlt
      rw [HQ.out, ht] at hset
      have e0 := (r0.cell t).trans (arrB_get k _ t (by rw [List.length_append, List.length_replicate, putL_len]; omega) (by omega))
      have f0 := r0.frozen t
      have hv : Hid ((q : Int) % 256 = ((q % 256 : Nat) : Int)) := by show _ = _; omega
      have HS := Lib.hid hset
      have R0 := Lib.hid r0
      have HT := Lib.hid ht
      clear hset r0 hrows ht
      generalize (List.replicate (k - j) 0 ++ putL n j).getD t 0 = z at *
      generalize arrB k (List.replicate (k - j) 0 ++ putL n j) = cs at *
      go_wp2_with fail
      go_roundw
      case rel =>
        refine ⟨j + 1, by omega, by (have e : (t : Int) - 1 = (k : Int) - 1 - ((j + 1 : Nat) : Int) := by have := HT.out; omega); rw [← e], by rw [hq2.out]; go_num, hbl.setCell (by simp) _, ?_⟩
        rw [← HS.out, ← hv.out]
        exact R0.out.put _ _
      case measure => simp [intOf]
    · obtain rfl : j = k := by omega
      have hneg : ¬ (0 : Int) ≤ (j : Int) - 1 - (j : Int) := by omega
      have r1 : Row wr w.heap.size 5 (arrB j (putL n j)) := by simpa using r0
      go_wp2
      go_ret
      exact ⟨⟨_, rfl, own_of_row r1 (putL_len _ _) (Nat.le_refl _) (by unfold maxLen; omega)⟩, hbl⟩
section
variable {a : Act} {dst : Option Tmp} {x y : Operand} {ty : TypeId} {pos : String} {after : Array Edge} {gd : Option (Nat × Bool)}
theorem convU8_op {n r : Int} (u : World) (h : IntKind.u8.wrap n = r) (hx : a.eval x = .int .i64 n) :
    (execOp a.eval ⟨dst, .convert 3 5 x, ty, pos, after, gd⟩).run Tryd.prog u = .ok (.value (.int .u8 r)) u := by
  rw [← h]
  unfold execOp
  simp only [hx]
  go_simp
/-- one new byte, told by an operand -/
theorem FAt_byteV {k : Int} (hx : a.eval x = .int .u8 k) (u : World) : FAt Tryd.prog ⟨dst, .buildSlice 63 1 #[(0, x)], ty, pos, after, gd⟩ a (fun v N => ∃ g, v = .slice (some ⟨g, 0, none⟩) 1 1 ∧ N = [(g, Obj.cells #[.int .u8 k] 5 (0, 0))]) u := by
  have h : (execOp a.eval ⟨dst, .buildSlice 63 1 #[(0, x)], ty, pos, after, gd⟩).run Tryd.prog u = .ok (.value (.slice (some ⟨u.heap.size, 0, none⟩) 1 1)) (u.alloc (.cells #[.int .u8 k] 5)) := by
    unfold execOp
    simp only [List.map_toArray, List.map_cons, List.map_nil, hx]
    go_simp
  unfold FAt
  rw [h]
  refine ⟨(Below.refl _ _).alloc (Nat.le_refl _) _, _, ⟨_, rfl, rfl⟩, fun y hy => ?_⟩
  cases List.mem_singleton.1 hy
  exact ⟨Nat.le_refl _, heap_alloc_new u _⟩
end
/-- a row of bytes is the bytes that it stands for -/
theorem src_byte {w0 u : World} {M : Boxes} {g : Nat} {k : Int} (hu : EnvC w0 M u) (hm : (g, Obj.cells #[.int .u8 k] 5 (0, 0)) ∈ M) : SrcAt u ⟨g, 0, none⟩ ([k].map u8v) := src_box hu hm rfl
section
variable {a : Act} {dst : Option Tmp} {x y z : Operand} {ty : TypeId} {pos : String} {after : Array Edge} {gd : Option (Nat × Bool)}
end
set_option maxRecDepth 20000 in
set_option maxHeartbeats 8000000 in
theorem rputX_no (r : TxR) (A1 : Option Addr) (n1 c1 : Nat) (A2 : Option Addr) (n2 c2 : Nat) (w : World) (ht : TxOk w ⟨r, A1, n1, c1, A2, n2, c2⟩) (k1 : mayX r = false) :
    Calls Tryd.prog 45 #[txV ⟨r, A1, n1, c1, A2, n2, c2⟩] w fun e w' => (∃ v, e = .returned (.tuple #[v, .bool (putX r).2]) ∧ OwnB w' w.heap.size v (putX r).1) ∧ Below w.heap.size w w' := by
  have hp : putX r = ([], false) := by unfold putX; rw [k1]; rfl
  rw [hp]
  clear hp
  have HT := Lib.hid ht
  have HN63 := Lib.hid ht.n63
  obtain ⟨hn1, hn2⟩ := ht.n63
  have HL : Hid (r.ins.length = n1 ∧ r.outs.length = n2) := ⟨ht.l1, ht.l2⟩
  have HMY : Hid (∀ u, Below w.heap.size w u → Calls Tryd.prog 27 #[txV ⟨r, A1, n1, c1, A2, n2, c2⟩] u fun e w' => e = .returned (.bool false) ∧ Below u.heap.size u w') := fun u hu => by
    have h := rmayX_any r A1 n1 c1 A2 n2 c2 u (ht.up hu)
    rwa [k1] at h
  have E1 : Hid (EnvX w (w.alloc (.cells (txA ⟨r, A1, n1, c1, A2, n2, c2⟩) 26)) [(w.heap.size, Obj.cells (txA ⟨r, A1, n1, c1, A2, n2, c2⟩) 26 (0, 0))]) := (EnvX.start w).new _
  clear ht k1
  unfold txV at *
  go_enter Tryd.func45, Tryd.ntmps45
  go_upto_region 1 with (fail)
  generalize w.alloc (.cells (txA ⟨r, A1, n1, c1, A2, n2, c2⟩) 26) = W at *
  refine wp_region_Hx (w0 := w) [0, 1, 2] [(w.heap.size, Obj.cells (txA ⟨r, A1, n1, c1, A2, n2, c2⟩) 26 (0, 0))] rfl E1.out ?_
  refine lexH_phase [0, 1, 2] [] ?_
  have hw1 : EnvX w _ [(w.heap.size, Obj.cells (txA ⟨r, A1, n1, c1, A2, n2, c2⟩) 26 (0, 0))] := E1.out
  have hone := @EnvC.one _ _ _ hw1
  (refine wpG_val (v := .agg (txA ⟨r, A1, n1, c1, A2, n2, c2⟩)) rfl rfl (fun u hu => load_any_op u (box_tx hu (List.Mem.head _)) rfl) ?_ hw1; intro K hK; go_big_quiet_op; go_big_quiet_on)
  (refine wpG_call (f := 27) (args := #[.agg (txA ⟨r, A1, n1, c1, A2, n2, c2⟩)]) (v := .bool false) rfl rfl rfl Tryd.func27 rfl rfl (fun u hu => HMY.out u (EnvX.bel hu)) ?_ hw1; intro K hK; go_big_quiet_op; go_big_quiet_on)
  (refine wpG_op rfl rfl rfl ?_; intro K hK; go_big_quiet_op; go_big_quiet_on)
  clear hone hw1
  refine wpG_nil ?_
  intro u3 E2'
  have EX2 := Lib.hid E2'
  clear E2'
  have HBE := Lib.hid (EnvX.bel EX2.out)
  go_wp2
  go_returns
  exact ⟨⟨_, rfl, OwnB.nil _ _⟩, HBE.out⟩
set_option maxRecDepth 20000 in
set_option maxHeartbeats 8000000 in
theorem rputX_yes (r : TxR) (A1 : Option Addr) (n1 c1 : Nat) (A2 : Option Addr) (n2 c2 : Nat) (w : World) (ht : TxOk w ⟨r, A1, n1, c1, A2, n2, c2⟩) (k1 : mayX r = true) :
    Calls Tryd.prog 45 #[txV ⟨r, A1, n1, c1, A2, n2, c2⟩] w fun e w' => (∃ v, e = .returned (.tuple #[v, .bool (putX r).2]) ∧ OwnB w' w.heap.size v (putX r).1) ∧ Below w.heap.size w w' := by
  have hp : putX r = (bodyX r, true) := by unfold putX; rw [k1]; rfl
  rw [hp]
  clear hp
  have HT := Lib.hid ht
  have HN63 := Lib.hid ht.n63
  obtain ⟨hn1, hn2⟩ := ht.n63
  have HL : Hid (r.ins.length = n1 ∧ r.outs.length = n2) := ⟨ht.l1, ht.l2⟩
  have HMY : Hid (∀ u, Below w.heap.size w u → Calls Tryd.prog 27 #[txV ⟨r, A1, n1, c1, A2, n2, c2⟩] u fun e w' => e = .returned (.bool true) ∧ Below u.heap.size u w') := fun u hu => by
    have h := rmayX_any r A1 n1 c1 A2 n2 c2 u (ht.up hu)
    rwa [k1] at h
  have E1 : Hid (EnvX w (w.alloc (.cells (txA ⟨r, A1, n1, c1, A2, n2, c2⟩) 26)) [(w.heap.size, Obj.cells (txA ⟨r, A1, n1, c1, A2, n2, c2⟩) 26 (0, 0))]) := (EnvX.start w).new _
  have hmx := mayX_iff.1 k1
  have hl1 : r.ins.length = n1 := ht.l1
  have hl2 : r.outs.length = n2 := ht.l2
  rw [hl1, hl2] at hmx
  obtain ⟨hm1, hm2, hm3, hm4, -, hm5⟩ := hmx
  clear hl1 hl2
  have HM4 := Lib.hid hm4
  have HM5 := Lib.hid hm5
  have HOK : Hid (okX r) := ht.ok
  clear hm4 hm5
  clear ht k1
  unfold txV at *
  go_enter Tryd.func45, Tryd.ntmps45
  go_upto_region 1 with (fail)
  generalize w.alloc (.cells (txA ⟨r, A1, n1, c1, A2, n2, c2⟩) 26) = W at *
  refine wp_region_Hx (w0 := w) [0, 1, 2] [(w.heap.size, Obj.cells (txA ⟨r, A1, n1, c1, A2, n2, c2⟩) 26 (0, 0))] rfl E1.out ?_
  refine lexH_phase [0, 1, 2] [] ?_
  have hw1 : EnvX w _ [(w.heap.size, Obj.cells (txA ⟨r, A1, n1, c1, A2, n2, c2⟩) 26 (0, 0))] := E1.out
  have hone := @EnvC.one _ _ _ hw1
  (refine wpG_val (v := .agg (txA ⟨r, A1, n1, c1, A2, n2, c2⟩)) rfl rfl (fun u hu => load_any_op u (box_tx hu (List.Mem.head _)) rfl) ?_ hw1; intro K hK; go_big_quiet_op; go_big_quiet_on)
  (refine wpG_call (f := 27) (args := #[.agg (txA ⟨r, A1, n1, c1, A2, n2, c2⟩)]) (v := .bool true) rfl rfl rfl Tryd.func27 rfl rfl (fun u hu => HMY.out u (EnvX.bel hu)) ?_ hw1; intro K hK; go_big_quiet_op; go_big_quiet_on)
  (refine wpG_op rfl rfl rfl ?_; intro K hK; go_big_quiet_op; go_big_quiet_on)
  clear hone hw1
  refine wpG_nil ?_
  intro u3 E2'
  have EX2 := Lib.hid E2'
  clear E2'
  have CN1 : Hid (IntKind.u8.wrap (n1 : Int) = (n1 : Int)) := by show _ = _; rw [IntKind.wrap_u8]; omega
  have CN2 : Hid (IntKind.u8.wrap (n2 : Int) = (n2 : Int)) := by show _ = _; rw [IntKind.wrap_u8]; omega
  go_upto_region 4 with (fail)
  refine wp_region_Hx (w0 := w) [0, 1, 2, 3, 4, 5] [(w.heap.size, Obj.cells (txA ⟨r, A1, n1, c1, A2, n2, c2⟩) 26 (0, 0))] rfl EX2.out ?_
  refine lexH_phase [0, 1, 2, 3] [4, 5] ?_
  have hw4 : EnvX w _ [(w.heap.size, Obj.cells (txA ⟨r, A1, n1, c1, A2, n2, c2⟩) 26 (0, 0))] := EX2.out
  have hone := @EnvC.one _ _ _ hw4
  (refine wpG_op rfl rfl rfl ?_; intro K hK; go_big_quiet_op; go_big_quiet_on)
  (refine wpG_val (v := .slice A1 n1 c1) rfl rfl (fun u hu => load_any_op u (box_tx_ins hu (List.Mem.head _)) rfl) ?_ hw4; intro K hK; go_big_quiet_op; go_big_quiet_on)
  (refine wpG_val (v := .int .i64 (n1 : Int)) rfl rfl (fun u hu => len_op Tryd.underlying23 HN63.out.1 u rfl) ?_ hw4; intro K hK; go_big_quiet_op; go_big_quiet_on)
  (refine wpG_val (v := .int .u8 (n1 : Int)) rfl rfl (fun u hu => convU8_op u CN1.out rfl) ?_ hw4; intro K hK; go_big_quiet_op; go_big_quiet_on)
  clear hone hw4
  refine wpG_nil ?_
  refine (hOp_fresh (R := fun v N => ∃ g, v = .slice (some ⟨g, 0, none⟩) 1 1 ∧ N = [(g, Obj.cells #[.int .u8 (n1 : Int)] 5 (0, 0))]) (M0 := [(w.heap.size, Obj.cells (txA ⟨r, A1, n1, c1, A2, n2, c2⟩) 26 (0, 0))]) rfl rfl (fun _ h => h) (fun u hu => FAt_byteV rfl u) ?_)
  rintro _ _ ⟨g5, rfl, rfl⟩ hf he5; intro K' hK'; go_big_quiet_op; go_big_quiet_on
  have HG5 := Lib.hid (hf _ (List.mem_singleton.2 rfl))
  clear hf
  change lexH _ _ _ _ _ _ [(g5, Obj.cells #[.int .u8 (n1 : Int)] 5 (0, 0)), (w.heap.size, Obj.cells (txA ⟨r, A1, n1, c1, A2, n2, c2⟩) 26 (0, 0))]
  refine lexH_phase [5] [] ?_
  have hw6 : EnvX w _ [(g5, Obj.cells #[.int .u8 (n1 : Int)] 5 (0, 0)), (w.heap.size, Obj.cells (txA ⟨r, A1, n1, c1, A2, n2, c2⟩) 26 (0, 0))] := he5.choose_spec
  have hone := @EnvC.one _ _ _ hw6
  (refine wpG_op rfl rfl rfl ?_; intro K hK; go_big_quiet_op; go_big_quiet_on)
  clear hone hw6
  refine wpG_nil ?_
  intro u8 E2'
  have EX7 := Lib.hid E2'
  clear E2'
  have HIN : Hid (BInv w [(w.heap.size, Obj.cells (txA ⟨r, A1, n1, c1, A2, n2, c2⟩) 26 (0, 0))] (insB r.ins 0) (.slice (some ⟨g5, 0, none⟩) 1 1) u8) := ⟨[(g5, Obj.cells #[.int .u8 (n1 : Int)] 5 (0, 0))], by
    have e : insB r.ins 0 = [(n1 : Int)] := by unfold insB; rw [HL.out.1]; rfl
    rw [e]
    exact FreshY.one, fun y hy => by cases List.mem_singleton.1 hy; exact HG5.out, EX7.out⟩
  clear EX7 E1 HG5
  go_upto_region 6 with (fail)
  go_loopw [5, 6] (fun v iv u => ∃ i : Nat, i ≤ n1 ∧ iv = .int .i64 (i : Int) ∧ Hid (BInv w [(w.heap.size, Obj.cells (txA ⟨r, A1, n1, c1, A2, n2, c2⟩) 26 (0, 0))] (insB r.ins i) v u)) (fun _ iv _ => n1 - (intOf iv).toNat)
  case atStart => exact ⟨0, by omega, rfl, HIN⟩
  case round =>
    obtain ⟨i, hi, rfl, hinv⟩ := hrel
    obtain ⟨N, hF, hN, hE⟩ := hinv.out
    have HF := Lib.hid hF
    have HN := Lib.hid hN
    have EK := Lib.hid hE
    clear hinv HIN hF hN hE
    by_cases hlt : i < n1
    · have C4 : Hid (decide ((i : Int) < (n1 : Int)) = true) := decide_eq_true (by omega)
      have HI := Lib.hid hlt
      have hil : i < r.ins.length := by rw [HL.out.1]; exact hlt
      obtain ⟨ad, rfl, -, hld⟩ := HT.out.m1.loads HT.out.o1 hil
      have HLD := Lib.hid hld
      have hok := HT.out.o1.get hil
      have hmem : r.ins.getD i noIn ∈ r.ins := getD_mem r.ins noIn hil
      have hb := HM4.out _ hmem
      have HST := Lib.hid (insB_step hil)
      have HSL : Hid ((insB r.ins i).length ≤ 1000) := by have h1 : (insB r.ins i).length ≤ 1 + 33 * r.ins.length := insB_le HT.out.o1 i; rw [HL.out.1] at h1; show _ ≤ _; omega
      have HIX : Hid ((r.ins.getD i noIn).tx.length = 32) := hok.1.1
      have CI : Hid (IntKind.u8.wrap (r.ins.getD i noIn).i = (r.ins.getD i noIn).i) := by show _ = _; rw [IntKind.wrap_u8]; omega
      clear hld hil hok hmem hb
      generalize r.ins.getD i noIn = x at *
      generalize insB r.ins i = xs at *
      go_upto_region 6 with (fail)
      refine wp_region_Hx (w0 := w) [0, 1, 2, 3, 4] (N ++ ((w.heap.size, Obj.cells (txA ⟨r, some ad, n1, c1, A2, n2, c2⟩) 26 (0, 0)) :: [])) rfl EK.out ?_
      refine lexH_phase [0, 1, 2, 3, 4] [] ?_
      have hw41 : EnvX w _ (N ++ ((w.heap.size, Obj.cells (txA ⟨r, some ad, n1, c1, A2, n2, c2⟩) 26 (0, 0)) :: [])) := EK.out
      have hone := @EnvC.one _ _ _ hw41
      iterate 2 (refine wpG_op rfl rfl rfl ?_; intro K hK; go_big_quiet_op; go_big_quiet_on)
      (refine wpG_val (v := .slice (some ad) n1 c1) rfl rfl (fun u hu => load_any_op u (box_tx_ins hu (List.mem_append_right _ (List.Mem.head _))) rfl) ?_ hw41; intro K hK; go_big_quiet_op; go_big_quiet_on)
      (refine wpG_val (v := .int .i64 (n1 : Int)) rfl rfl (fun u hu => len_op Tryd.underlying23 HN63.out.1 u rfl) ?_ hw41; intro K hK; go_big_quiet_op; go_big_quiet_on)
      (refine wpG_val (v := .bool true) rfl rfl (fun u hu => ltZ_op u C4.out rfl rfl) ?_ hw41; intro K hK; go_big_quiet_op; go_big_quiet_on)
      clear hone hw41
      refine wpG_nil ?_
      intro u43 E2'
      have EX42 := Lib.hid E2'
      clear E2'
      go_upto_region 8 with (fail)
      refine wp_region_Hx (w0 := w) [0, 1, 2, 3, 4, 5, 6, 7, 8] (N ++ ((w.heap.size, Obj.cells (txA ⟨r, some ad, n1, c1, A2, n2, c2⟩) 26 (0, 0)) :: [])) rfl EX42.out ?_
      refine lexH_phase [0, 1, 2, 3, 4, 5, 6] [7, 8] ?_
      have hw44 : EnvX w _ (N ++ ((w.heap.size, Obj.cells (txA ⟨r, some ad, n1, c1, A2, n2, c2⟩) 26 (0, 0)) :: [])) := EX42.out
      have hone := @EnvC.one _ _ _ hw44
      iterate 2 (refine wpG_op rfl rfl rfl ?_; intro K hK; go_big_quiet_op; go_big_quiet_on)
      (refine wpG_val (v := .slice (some ad) n1 c1) rfl rfl (fun u hu => load_any_op u (box_tx_ins hu (List.mem_append_right _ (List.Mem.head _))) rfl) ?_ hw44; intro K hK; go_big_quiet_op; go_big_quiet_on)
      (refine wpG_op rfl rfl rfl ?_; intro K hK; go_big_quiet_op; go_big_quiet_on)
      (refine wpG_val (v := .pointer (some (ad.add (i * 33)))) rfl rfl (fun u hu => idxSl_op (i := i) Tryd.underlying23 aggIn.size HI.out u rfl rfl) ?_ hw44; intro K hK; go_big_quiet_op; go_big_quiet_on)
      (refine wpG_val (v := .pointer (some ((ad.add (i * 33)).add 0))) rfl rfl (fun u hu => fieldIn_op rfl u rfl) ?_ hw44; intro K hK; go_big_quiet_op; go_big_quiet_on)
      (refine wpG_val (v := .slice (some ((ad.add (i * 33)).add 0)) 32 32) rfl rfl (fun u hu => sliceArr_op u rfl) ?_ hw44; intro K hK; go_big_quiet_op; go_big_quiet_on)
      clear hone hw44
      refine wpG_nil ?_
      refine (hOp_own (gd := none) (R := GrownB w (xs ++ x.tx) [(w.heap.size, Obj.cells (txA ⟨r, some ad, n1, c1, A2, n2, c2⟩) 26 (0, 0))]) rfl rfl rfl rfl (fun u hu => appB_op (m := 32) [(w.heap.size, Obj.cells (txA ⟨r, some ad, n1, c1, A2, n2, c2⟩) 26 (0, 0))] hu HIX.out HF.out (fun y hy => ⟨List.mem_append_left _ hy, (HN.out y hy).1⟩) (by have h := (HLD.out u (EnvX.sub hu (fun _ h => by cases h))).2.2.2; rwa [show ((ad.add (i * 33)).add 0) = (ad.add (i * 33)) by unfold Addr.add; rfl]) (fun z hz => ⟨List.mem_append_right _ hz, fun y hy => (HN.out y hy).2 z hz⟩) (by have := HSL.out; omega) rfl rfl) ?_)
      rintro x8 M' ⟨N8, rfl, hF9, hn9⟩ he45; intro K' hK'; go_big_quiet_op; go_big_quiet_on
      have HN8F := Lib.hid hF9
      have HN8N := Lib.hid hn9
      clear hF9 hn9
      change lexH _ _ _ _ _ _ (N8 ++ ((w.heap.size, Obj.cells (txA ⟨r, some ad, n1, c1, A2, n2, c2⟩) 26 (0, 0)) :: []))
      refine lexH_phase [8] [] ?_
      have hw46 : EnvX w _ (N8 ++ ((w.heap.size, Obj.cells (txA ⟨r, some ad, n1, c1, A2, n2, c2⟩) 26 (0, 0)) :: [])) := he45.choose_spec
      have hone := @EnvC.one _ _ _ hw46
      (refine wpG_op rfl rfl rfl ?_; intro K hK; go_big_quiet_op; go_big_quiet_on)
      clear hone hw46
      refine wpG_nil ?_
      intro u48 E2'
      have EX47 := Lib.hid E2'
      clear E2'
      have HS2 : Hid ((xs ++ x.tx).length ≤ 1100) := by show _ ≤ _; rw [List.length_append, HIX.out]; have := HSL.out; omega
      go_upto_region 9 with (fail)
      refine wp_region_Hx (w0 := w) [0, 1, 2, 3, 4, 5, 6, 7, 8, 9, 10] (N8 ++ ((w.heap.size, Obj.cells (txA ⟨r, some ad, n1, c1, A2, n2, c2⟩) 26 (0, 0)) :: [])) rfl EX47.out ?_
      refine lexH_phase [0, 1, 2, 3, 4, 5, 6, 7] [8, 9, 10] ?_
      have hw49 : EnvX w _ (N8 ++ ((w.heap.size, Obj.cells (txA ⟨r, some ad, n1, c1, A2, n2, c2⟩) 26 (0, 0)) :: [])) := EX47.out
      have hone := @EnvC.one _ _ _ hw49
      iterate 2 (refine wpG_op rfl rfl rfl ?_; intro K hK; go_big_quiet_op; go_big_quiet_on)
      (refine wpG_val (v := .slice (some ad) n1 c1) rfl rfl (fun u hu => load_any_op u (box_tx_ins hu (List.mem_append_right _ (List.Mem.head _))) rfl) ?_ hw49; intro K hK; go_big_quiet_op; go_big_quiet_on)
      (refine wpG_op rfl rfl rfl ?_; intro K hK; go_big_quiet_op; go_big_quiet_on)
      (refine wpG_val (v := .pointer (some (ad.add (i * 33)))) rfl rfl (fun u hu => idxSl_op (i := i) Tryd.underlying23 aggIn.size HI.out u rfl rfl) ?_ hw49; intro K hK; go_big_quiet_op; go_big_quiet_on)
      (refine wpG_val (v := .pointer (some ((ad.add (i * 33)).add 32))) rfl rfl (fun u hu => fieldIn_op rfl u rfl) ?_ hw49; intro K hK; go_big_quiet_op; go_big_quiet_on)
      (refine wpG_val (v := .int .i64 x.i) rfl rfl (fun u hu => load_any_op u (HLD.out u (EnvX.sub hu (fun _ h => by cases h))).2.2.1 rfl) ?_ hw49; intro K hK; go_big_quiet_op; go_big_quiet_on)
      (refine wpG_val (v := .int .u8 x.i) rfl rfl (fun u hu => convU8_op u CI.out rfl) ?_ hw49; intro K hK; go_big_quiet_op; go_big_quiet_on)
      clear hone hw49
      refine wpG_nil ?_
      refine (hOp_fresh (R := fun v N => ∃ g, v = .slice (some ⟨g, 0, none⟩) 1 1 ∧ N = [(g, Obj.cells #[.int .u8 x.i] 5 (0, 0))]) (M0 := (N8 ++ ((w.heap.size, Obj.cells (txA ⟨r, some ad, n1, c1, A2, n2, c2⟩) 26 (0, 0)) :: []))) rfl rfl (fun _ h => h) (fun u hu => FAt_byteV rfl u) ?_)
      rintro _ _ ⟨g9, rfl, rfl⟩ hf he50; intro K' hK'; go_big_quiet_op; go_big_quiet_on
      have HG9 := Lib.hid (hf _ (List.mem_singleton.2 rfl))
      clear hf
      change lexH _ _ _ _ _ _ ((g9, Obj.cells #[.int .u8 x.i] 5 (0, 0)) :: (N8 ++ ((w.heap.size, Obj.cells (txA ⟨r, some ad, n1, c1, A2, n2, c2⟩) 26 (0, 0)) :: [])))
      refine (hOp_own (gd := none) (R := GrownB w ((xs ++ x.tx) ++ [x.i]) [(w.heap.size, Obj.cells (txA ⟨r, some ad, n1, c1, A2, n2, c2⟩) 26 (0, 0))]) rfl rfl rfl rfl (fun u hu => appB_op (m := 1) [(w.heap.size, Obj.cells (txA ⟨r, some ad, n1, c1, A2, n2, c2⟩) 26 (0, 0))] hu rfl HN8F.out (fun y hy => ⟨List.mem_cons_of_mem _ (List.mem_append_left _ hy), (HN8N.out y hy).1⟩) (src_byte hu (List.Mem.head _)) (fun z hz => ⟨List.mem_cons_of_mem _ (List.mem_append_right _ hz), fun y hy => (HN8N.out y hy).2 z hz⟩) (by have := HS2.out; omega) rfl rfl) ?_)
      rintro x9 M' ⟨N9, rfl, hF9, hn9⟩ he51; intro K' hK'; go_big_quiet_op; go_big_quiet_on
      have HN9F := Lib.hid hF9
      have HN9N := Lib.hid hn9
      clear hF9 hn9
      change lexH _ _ _ _ _ _ (N9 ++ ((w.heap.size, Obj.cells (txA ⟨r, some ad, n1, c1, A2, n2, c2⟩) 26 (0, 0)) :: []))
      refine lexH_phase [10] [] ?_
      have hw52 : EnvX w _ (N9 ++ ((w.heap.size, Obj.cells (txA ⟨r, some ad, n1, c1, A2, n2, c2⟩) 26 (0, 0)) :: [])) := he51.choose_spec
      have hone := @EnvC.one _ _ _ hw52
      (refine wpG_op rfl rfl rfl ?_; intro K hK; go_big_quiet_op; go_big_quiet_on)
      clear hone hw52
      refine wpG_nil ?_
      intro u54 E2'
      have EX53 := Lib.hid E2'
      clear E2'
      have HNX : Hid (BInv w [(w.heap.size, Obj.cells (txA ⟨r, some ad, n1, c1, A2, n2, c2⟩) 26 (0, 0))] (insB r.ins (i + 1)) x9 u54) := ⟨N9, by rw [HST.out]; exact HN9F.out, HN9N.out, EX53.out⟩
      have hin := HI.out
      go_wp2
      go_roundw
      case rel => exact ⟨i + 1, by omega, by go_num, HNX⟩
      case measure => simp [intOf]; omega
    · obtain rfl : i = n1 := by omega
      have C4 : Hid (decide ((i : Int) < (i : Int)) = false) := decide_eq_false (by omega)
      have HS0 : Hid ((insB r.ins i).length ≤ 1000) := by have h1 : (insB r.ins i).length ≤ 1 + 33 * r.ins.length := insB_le HT.out.o1 i; rw [HL.out.1] at h1; show _ ≤ _; omega
      have HO0 : Hid (insB r.ins i ++ [(n2 : Int)] = outsB r 0) := by
        show _ = _
        have h1 := HL.out.1
        have h2 := HL.out.2
        unfold outsB
        rw [h1, h2, List.take_zero, List.map_nil, List.flatten_nil, List.append_nil]
      generalize insB r.ins i = xs at *
      go_upto_region 6 with (fail)
      refine wp_region_Hx (w0 := w) [0, 1, 2, 3, 4] (N ++ ((w.heap.size, Obj.cells (txA ⟨r, A1, i, c1, A2, n2, c2⟩) 26 (0, 0)) :: [])) rfl EK.out ?_
      refine lexH_phase [0, 1, 2, 3, 4] [] ?_
      have hw141 : EnvX w _ (N ++ ((w.heap.size, Obj.cells (txA ⟨r, A1, i, c1, A2, n2, c2⟩) 26 (0, 0)) :: [])) := EK.out
      have hone := @EnvC.one _ _ _ hw141
      iterate 2 (refine wpG_op rfl rfl rfl ?_; intro K hK; go_big_quiet_op; go_big_quiet_on)
      (refine wpG_val (v := .slice A1 i c1) rfl rfl (fun u hu => load_any_op u (box_tx_ins hu (List.mem_append_right _ (List.Mem.head _))) rfl) ?_ hw141; intro K hK; go_big_quiet_op; go_big_quiet_on)
      (refine wpG_val (v := .int .i64 (i : Int)) rfl rfl (fun u hu => len_op Tryd.underlying23 HN63.out.1 u rfl) ?_ hw141; intro K hK; go_big_quiet_op; go_big_quiet_on)
      (refine wpG_val (v := .bool false) rfl rfl (fun u hu => ltZ_op u C4.out rfl rfl) ?_ hw141; intro K hK; go_big_quiet_op; go_big_quiet_on)
      clear hone hw141
      refine wpG_nil ?_
      intro u143 E2'
      have EX142 := Lib.hid E2'
      clear E2'
      go_upto_region 10 with (fail)
      refine wp_region_Hx (w0 := w) [0, 1, 2, 3, 4, 5, 6, 7] (N ++ ((w.heap.size, Obj.cells (txA ⟨r, A1, i, c1, A2, n2, c2⟩) 26 (0, 0)) :: [])) rfl EX142.out ?_
      refine lexH_phase [0, 1, 2, 3, 4] [5, 6, 7] ?_
      have hw144 : EnvX w _ (N ++ ((w.heap.size, Obj.cells (txA ⟨r, A1, i, c1, A2, n2, c2⟩) 26 (0, 0)) :: [])) := EX142.out
      have hone := @EnvC.one _ _ _ hw144
      iterate 2 (refine wpG_op rfl rfl rfl ?_; intro K hK; go_big_quiet_op; go_big_quiet_on)
      (refine wpG_val (v := .slice A2 n2 c2) rfl rfl (fun u hu => load_any_op u (box_tx_outs hu (List.mem_append_right _ (List.Mem.head _))) rfl) ?_ hw144; intro K hK; go_big_quiet_op; go_big_quiet_on)
      (refine wpG_val (v := .int .i64 (n2 : Int)) rfl rfl (fun u hu => len_op Tryd.underlying24 HN63.out.2 u rfl) ?_ hw144; intro K hK; go_big_quiet_op; go_big_quiet_on)
      (refine wpG_val (v := .int .u8 (n2 : Int)) rfl rfl (fun u hu => convU8_op u CN2.out rfl) ?_ hw144; intro K hK; go_big_quiet_op; go_big_quiet_on)
      clear hone hw144
      refine wpG_nil ?_
      refine (hOp_fresh (R := fun v N => ∃ g, v = .slice (some ⟨g, 0, none⟩) 1 1 ∧ N = [(g, Obj.cells #[.int .u8 (n2 : Int)] 5 (0, 0))]) (M0 := (N ++ ((w.heap.size, Obj.cells (txA ⟨r, A1, i, c1, A2, n2, c2⟩) 26 (0, 0)) :: []))) rfl rfl (fun _ h => h) (fun u hu => FAt_byteV rfl u) ?_)
      rintro _ _ ⟨g10, rfl, rfl⟩ hf he145; intro K' hK'; go_big_quiet_op; go_big_quiet_on
      have HG10 := Lib.hid (hf _ (List.mem_singleton.2 rfl))
      clear hf
      change lexH _ _ _ _ _ _ ((g10, Obj.cells #[.int .u8 (n2 : Int)] 5 (0, 0)) :: (N ++ ((w.heap.size, Obj.cells (txA ⟨r, A1, i, c1, A2, n2, c2⟩) 26 (0, 0)) :: [])))
      refine (hOp_own (gd := none) (R := GrownB w (xs ++ [(n2 : Int)]) [(w.heap.size, Obj.cells (txA ⟨r, A1, i, c1, A2, n2, c2⟩) 26 (0, 0))]) rfl rfl rfl rfl (fun u hu => appB_op (m := 1) [(w.heap.size, Obj.cells (txA ⟨r, A1, i, c1, A2, n2, c2⟩) 26 (0, 0))] hu rfl HF.out (fun y hy => ⟨List.mem_cons_of_mem _ (List.mem_append_left _ hy), (HN.out y hy).1⟩) (src_byte hu (List.Mem.head _)) (fun z hz => ⟨List.mem_cons_of_mem _ (List.mem_append_right _ hz), fun y hy => (HN.out y hy).2 z hz⟩) (by have := HS0.out; omega) rfl rfl) ?_)
      rintro x10 M' ⟨N10, rfl, hF9, hn9⟩ he146; intro K' hK'; go_big_quiet_op; go_big_quiet_on
      have HN10F := Lib.hid hF9
      have HN10N := Lib.hid hn9
      clear hF9 hn9
      change lexH _ _ _ _ _ _ (N10 ++ ((w.heap.size, Obj.cells (txA ⟨r, A1, i, c1, A2, n2, c2⟩) 26 (0, 0)) :: []))
      refine lexH_phase [7] [] ?_
      have hw147 : EnvX w _ (N10 ++ ((w.heap.size, Obj.cells (txA ⟨r, A1, i, c1, A2, n2, c2⟩) 26 (0, 0)) :: [])) := he146.choose_spec
      have hone := @EnvC.one _ _ _ hw147
      (refine wpG_op rfl rfl rfl ?_; intro K hK; go_big_quiet_op; go_big_quiet_on)
      clear hone hw147
      refine wpG_nil ?_
      intro u149 E2'
      have EX148 := Lib.hid E2'
      clear E2'
      have HIN : Hid (BInv w [(w.heap.size, Obj.cells (txA ⟨r, A1, i, c1, A2, n2, c2⟩) 26 (0, 0))] (outsB r 0) x10 u149) := ⟨N10, by rw [← HO0.out]; exact HN10F.out, HN10N.out, EX148.out⟩
      clear EX148 EK HN10F HN10N HF HN
      go_upto_region 12 with (fail)
      go_loopw [5, 7] (fun v iv u => ∃ j : Nat, j ≤ n2 ∧ iv = .int .i64 (j : Int) ∧ Hid (BInv w [(w.heap.size, Obj.cells (txA ⟨r, A1, i, c1, A2, n2, c2⟩) 26 (0, 0))] (outsB r j) v u)) (fun _ iv _ => n2 - (intOf iv).toNat)
      case atStart => exact ⟨0, by omega, rfl, HIN⟩
      case round =>
        obtain ⟨j, hj, rfl, hinv⟩ := hrel
        obtain ⟨N, hF, hN, hE⟩ := hinv.out
        have HF := Lib.hid hF
        have HN := Lib.hid hN
        have EK := Lib.hid hE
        clear hinv HIN hF hN hE
        by_cases hlt : j < n2
        · have C12 : Hid (decide ((j : Int) < (n2 : Int)) = true) := decide_eq_true (by omega)
          have HJ := Lib.hid hlt
          have hjl : j < r.outs.length := by rw [HL.out.2]; exact hlt
          obtain ⟨ad, rfl, -, hld⟩ := HT.out.m2.loads hjl
          have HLD := Lib.hid hld
          have hmem : r.outs.getD j noOut ∈ r.outs := getD_mem r.outs noOut hjl
          have hb := HM5.out _ hmem
          have HST := Lib.hid (outsB_step hjl)
          have HSL : Hid ((outsB r j).length ≤ 1000) := by have h1 : (outsB r j).length ≤ 2 + 33 * r.ins.length + 7 * r.outs.length := outsB_le HOK.out j; rw [HL.out.1, HL.out.2] at h1; show _ ≤ _; omega
          have CT : Hid (IntKind.u8.wrap (r.outs.getD j noOut).to = (r.outs.getD j noOut).to) := by show _ = _; rw [IntKind.wrap_u8]; omega
          have CV : Hid (IntKind.u64.wrap (r.outs.getD j noOut).v = (((r.outs.getD j noOut).v.toNat : Nat) : Int)) := by show _ = _; rw [IntKind.wrap_u64]; omega
          have HPT : Hid (∀ u, Calls Tryd.prog 61 #[.int .u64 (((r.outs.getD j noOut).v.toNat : Nat) : Int), .int .i64 6] u fun e w' => (∃ v, e = .returned v ∧ OwnB w' u.heap.size v (putL (r.outs.getD j noOut).v.toNat 6)) ∧ Below u.heap.size u w') := fun u => rput_any _ 6 u (by omega) (by omega)
          clear hld hjl hmem hb
          generalize r.outs.getD j noOut = x at *
          generalize outsB r j = xs at *
          go_upto_region 12 with (fail)
          refine wp_region_Hx (w0 := w) [0, 1, 2, 3, 4] (N ++ ((w.heap.size, Obj.cells (txA ⟨r, A1, i, c1, some ad, n2, c2⟩) 26 (0, 0)) :: [])) rfl EK.out ?_
          refine lexH_phase [0, 1, 2, 3, 4] [] ?_
          have hw241 : EnvX w _ (N ++ ((w.heap.size, Obj.cells (txA ⟨r, A1, i, c1, some ad, n2, c2⟩) 26 (0, 0)) :: [])) := EK.out
          have hone := @EnvC.one _ _ _ hw241
          iterate 2 (refine wpG_op rfl rfl rfl ?_; intro K hK; go_big_quiet_op; go_big_quiet_on)
          (refine wpG_val (v := .slice (some ad) n2 c2) rfl rfl (fun u hu => load_any_op u (box_tx_outs hu (List.mem_append_right _ (List.Mem.head _))) rfl) ?_ hw241; intro K hK; go_big_quiet_op; go_big_quiet_on)
          (refine wpG_val (v := .int .i64 (n2 : Int)) rfl rfl (fun u hu => len_op Tryd.underlying24 HN63.out.2 u rfl) ?_ hw241; intro K hK; go_big_quiet_op; go_big_quiet_on)
          (refine wpG_val (v := .bool true) rfl rfl (fun u hu => ltZ_op u C12.out rfl rfl) ?_ hw241; intro K hK; go_big_quiet_op; go_big_quiet_on)
          clear hone hw241
          refine wpG_nil ?_
          intro u243 E2'
          have EX242 := Lib.hid E2'
          clear E2'
          go_upto_region 14 with (fail)
          refine wp_region_Hx (w0 := w) [0, 1, 2, 3, 4, 5, 6, 7, 8, 9, 10] (N ++ ((w.heap.size, Obj.cells (txA ⟨r, A1, i, c1, some ad, n2, c2⟩) 26 (0, 0)) :: [])) rfl EX242.out ?_
          refine lexH_phase [0, 1, 2, 3, 4, 5, 6, 7] [8, 9, 10] ?_
          have hw244 : EnvX w _ (N ++ ((w.heap.size, Obj.cells (txA ⟨r, A1, i, c1, some ad, n2, c2⟩) 26 (0, 0)) :: [])) := EX242.out
          have hone := @EnvC.one _ _ _ hw244
          iterate 2 (refine wpG_op rfl rfl rfl ?_; intro K hK; go_big_quiet_op; go_big_quiet_on)
          (refine wpG_val (v := .slice (some ad) n2 c2) rfl rfl (fun u hu => load_any_op u (box_tx_outs hu (List.mem_append_right _ (List.Mem.head _))) rfl) ?_ hw244; intro K hK; go_big_quiet_op; go_big_quiet_on)
          (refine wpG_op rfl rfl rfl ?_; intro K hK; go_big_quiet_op; go_big_quiet_on)
          (refine wpG_val (v := .pointer (some (ad.add (j * 2)))) rfl rfl (fun u hu => idxSl_op (i := j) Tryd.underlying24 aggOut.size HJ.out u rfl rfl) ?_ hw244; intro K hK; go_big_quiet_op; go_big_quiet_on)
          (refine wpG_val (v := .pointer (some ((ad.add (j * 2)).add 0))) rfl rfl (fun u hu => fieldOut_op rfl u rfl) ?_ hw244; intro K hK; go_big_quiet_op; go_big_quiet_on)
          (refine wpG_val (v := .int .i64 x.v) rfl rfl (fun u hu => load_any_op u (by have h := (HLD.out u (EnvX.sub hu (fun _ h => by cases h))).2.1; rwa [show ((ad.add (j * 2)).add 0) = (ad.add (j * 2)) by unfold Addr.add; rfl]) rfl) ?_ hw244; intro K hK; go_big_quiet_op; go_big_quiet_on)
          (refine wpG_val (v := .int .u64 ((x.v.toNat : Nat) : Int)) rfl rfl (fun u hu => conv_u64_op u CV.out rfl) ?_ hw244; intro K hK; go_big_quiet_op; go_big_quiet_on)
          clear hone hw244
          refine wpG_nil ?_
          refine (hOp_fresh (R := FreshR 5 1 6 ((putL x.v.toNat 6).map u8v)) (M0 := (N ++ ((w.heap.size, Obj.cells (txA ⟨r, A1, i, c1, some ad, n2, c2⟩) 26 (0, 0)) :: []))) rfl rfl (fun _ h => h) (fun u hu => FAt_call (fid := 61) (xs := #[.tmp 63, .const (Value.int IntKind.i64 6)]) (args := #[.int .u64 ((x.v.toNat : Nat) : Int), .int .i64 6]) rfl Tryd.func61 rfl rfl u (by have h := callsR_fresh (HPT.out u); rw [putL_len] at h; exact h)) ?_)
          rintro x N hF hf he245; intro K' hK'; go_big_quiet_op; go_big_quiet_on
          obtain ⟨gp, capp, curp, rfl, rfl, hcp⟩ | ⟨_, _, h0, _⟩ := hF
          case inr => cases h0
          have HCP := Lib.hid hcp
          clear hcp
          clear hf
          change lexH _ _ _ _ _ _ ((gp, Obj.cells curp 5 (0, 0)) :: (N ++ ((w.heap.size, Obj.cells (txA ⟨r, A1, i, c1, some ad, n2, c2⟩) 26 (0, 0)) :: [])))
          refine (hOp_own (gd := none) (R := GrownB w (xs ++ putL x.v.toNat 6) [(w.heap.size, Obj.cells (txA ⟨r, A1, i, c1, some ad, n2, c2⟩) 26 (0, 0))]) rfl rfl rfl rfl (fun u hu => appB_op (m := 6) [(w.heap.size, Obj.cells (txA ⟨r, A1, i, c1, some ad, n2, c2⟩) 26 (0, 0))] hu (putL_len _ _) HF.out (fun y hy => ⟨List.mem_cons_of_mem _ (List.mem_append_left _ hy), (HN.out y hy).1⟩) (src_fresh hu (List.Mem.head _) (putL_len _ _) HCP.out.2.2.2) (fun z hz => ⟨List.mem_cons_of_mem _ (List.mem_append_right _ hz), fun y hy => (HN.out y hy).2 z hz⟩) (by have := HSL.out; omega) rfl rfl) ?_)
          rintro x14 M' ⟨N14, rfl, hF9, hn9⟩ he246; intro K' hK'; go_big_quiet_op; go_big_quiet_on
          have HN14F := Lib.hid hF9
          have HN14N := Lib.hid hn9
          clear hF9 hn9
          change lexH _ _ _ _ _ _ (N14 ++ ((w.heap.size, Obj.cells (txA ⟨r, A1, i, c1, some ad, n2, c2⟩) 26 (0, 0)) :: []))
          refine lexH_phase [10] [] ?_
          have hw247 : EnvX w _ (N14 ++ ((w.heap.size, Obj.cells (txA ⟨r, A1, i, c1, some ad, n2, c2⟩) 26 (0, 0)) :: [])) := he246.choose_spec
          have hone := @EnvC.one _ _ _ hw247
          (refine wpG_op rfl rfl rfl ?_; intro K hK; go_big_quiet_op; go_big_quiet_on)
          clear hone hw247
          refine wpG_nil ?_
          intro u249 E2'
          have EX248 := Lib.hid E2'
          clear E2'
          have HS2 : Hid ((xs ++ putL x.v.toNat 6).length ≤ 1100) := by show _ ≤ _; rw [List.length_append, putL_len]; have := HSL.out; omega
          go_upto_region 15 with (fail)
          refine wp_region_Hx (w0 := w) [0, 1, 2, 3, 4, 5, 6, 7, 8, 9, 10] (N14 ++ ((w.heap.size, Obj.cells (txA ⟨r, A1, i, c1, some ad, n2, c2⟩) 26 (0, 0)) :: [])) rfl EX248.out ?_
          refine lexH_phase [0, 1, 2, 3, 4, 5, 6, 7] [8, 9, 10] ?_
          have hw250 : EnvX w _ (N14 ++ ((w.heap.size, Obj.cells (txA ⟨r, A1, i, c1, some ad, n2, c2⟩) 26 (0, 0)) :: [])) := EX248.out
          have hone := @EnvC.one _ _ _ hw250
          iterate 2 (refine wpG_op rfl rfl rfl ?_; intro K hK; go_big_quiet_op; go_big_quiet_on)
          (refine wpG_val (v := .slice (some ad) n2 c2) rfl rfl (fun u hu => load_any_op u (box_tx_outs hu (List.mem_append_right _ (List.Mem.head _))) rfl) ?_ hw250; intro K hK; go_big_quiet_op; go_big_quiet_on)
          (refine wpG_op rfl rfl rfl ?_; intro K hK; go_big_quiet_op; go_big_quiet_on)
          (refine wpG_val (v := .pointer (some (ad.add (j * 2)))) rfl rfl (fun u hu => idxSl_op (i := j) Tryd.underlying24 aggOut.size HJ.out u rfl rfl) ?_ hw250; intro K hK; go_big_quiet_op; go_big_quiet_on)
          (refine wpG_val (v := .pointer (some ((ad.add (j * 2)).add 1))) rfl rfl (fun u hu => fieldOut_op rfl u rfl) ?_ hw250; intro K hK; go_big_quiet_op; go_big_quiet_on)
          (refine wpG_val (v := .int .i64 x.to) rfl rfl (fun u hu => load_any_op u (HLD.out u (EnvX.sub hu (fun _ h => by cases h))).2.2 rfl) ?_ hw250; intro K hK; go_big_quiet_op; go_big_quiet_on)
          (refine wpG_val (v := .int .u8 x.to) rfl rfl (fun u hu => convU8_op u CT.out rfl) ?_ hw250; intro K hK; go_big_quiet_op; go_big_quiet_on)
          clear hone hw250
          refine wpG_nil ?_
          refine (hOp_fresh (R := fun v N => ∃ g, v = .slice (some ⟨g, 0, none⟩) 1 1 ∧ N = [(g, Obj.cells #[.int .u8 x.to] 5 (0, 0))]) (M0 := (N14 ++ ((w.heap.size, Obj.cells (txA ⟨r, A1, i, c1, some ad, n2, c2⟩) 26 (0, 0)) :: []))) rfl rfl (fun _ h => h) (fun u hu => FAt_byteV rfl u) ?_)
          rintro _ _ ⟨g15, rfl, rfl⟩ hf he251; intro K' hK'; go_big_quiet_op; go_big_quiet_on
          have HG15 := Lib.hid (hf _ (List.mem_singleton.2 rfl))
          clear hf
          change lexH _ _ _ _ _ _ ((g15, Obj.cells #[.int .u8 x.to] 5 (0, 0)) :: (N14 ++ ((w.heap.size, Obj.cells (txA ⟨r, A1, i, c1, some ad, n2, c2⟩) 26 (0, 0)) :: [])))
          refine (hOp_own (gd := none) (R := GrownB w ((xs ++ putL x.v.toNat 6) ++ [x.to]) [(w.heap.size, Obj.cells (txA ⟨r, A1, i, c1, some ad, n2, c2⟩) 26 (0, 0))]) rfl rfl rfl rfl (fun u hu => appB_op (m := 1) [(w.heap.size, Obj.cells (txA ⟨r, A1, i, c1, some ad, n2, c2⟩) 26 (0, 0))] hu rfl HN14F.out (fun y hy => ⟨List.mem_cons_of_mem _ (List.mem_append_left _ hy), (HN14N.out y hy).1⟩) (src_byte hu (List.Mem.head _)) (fun z hz => ⟨List.mem_cons_of_mem _ (List.mem_append_right _ hz), fun y hy => (HN14N.out y hy).2 z hz⟩) (by have := HS2.out; omega) rfl rfl) ?_)
          rintro x15 M' ⟨N15, rfl, hF9, hn9⟩ he252; intro K' hK'; go_big_quiet_op; go_big_quiet_on
          have HN15F := Lib.hid hF9
          have HN15N := Lib.hid hn9
          clear hF9 hn9
          change lexH _ _ _ _ _ _ (N15 ++ ((w.heap.size, Obj.cells (txA ⟨r, A1, i, c1, some ad, n2, c2⟩) 26 (0, 0)) :: []))
          refine lexH_phase [10] [] ?_
          have hw253 : EnvX w _ (N15 ++ ((w.heap.size, Obj.cells (txA ⟨r, A1, i, c1, some ad, n2, c2⟩) 26 (0, 0)) :: [])) := he252.choose_spec
          have hone := @EnvC.one _ _ _ hw253
          (refine wpG_op rfl rfl rfl ?_; intro K hK; go_big_quiet_op; go_big_quiet_on)
          clear hone hw253
          refine wpG_nil ?_
          intro u255 E2'
          have EX254 := Lib.hid E2'
          clear E2'
          have HNX : Hid (BInv w [(w.heap.size, Obj.cells (txA ⟨r, A1, i, c1, some ad, n2, c2⟩) 26 (0, 0))] (outsB r (j + 1)) x15 u255) := ⟨N15, by rw [HST.out]; exact HN15F.out, HN15N.out, EX254.out⟩
          have hjn := HJ.out
          go_wp2
          go_roundw
          case rel => exact ⟨j + 1, by omega, by go_num, HNX⟩
          case measure => simp [intOf]; omega
        · obtain rfl : j = n2 := by omega
          have C12 : Hid (decide ((j : Int) < (j : Int)) = false) := decide_eq_false (by omega)
          have hall : outsB r j = bodyX r := by rw [← HL.out.2]; exact outsB_all r
          rw [hall] at HF
          clear hall
          go_upto_region 12 with (fail)
          refine wp_region_Hx (w0 := w) [0, 1, 2, 3, 4] (N ++ ((w.heap.size, Obj.cells (txA ⟨r, A1, i, c1, A2, j, c2⟩) 26 (0, 0)) :: [])) rfl EK.out ?_
          refine lexH_phase [0, 1, 2, 3, 4] [] ?_
          have hw441 : EnvX w _ (N ++ ((w.heap.size, Obj.cells (txA ⟨r, A1, i, c1, A2, j, c2⟩) 26 (0, 0)) :: [])) := EK.out
          have hone := @EnvC.one _ _ _ hw441
          iterate 2 (refine wpG_op rfl rfl rfl ?_; intro K hK; go_big_quiet_op; go_big_quiet_on)
          (refine wpG_val (v := .slice A2 j c2) rfl rfl (fun u hu => load_any_op u (box_tx_outs hu (List.mem_append_right _ (List.Mem.head _))) rfl) ?_ hw441; intro K hK; go_big_quiet_op; go_big_quiet_on)
          (refine wpG_val (v := .int .i64 (j : Int)) rfl rfl (fun u hu => len_op Tryd.underlying24 HN63.out.2 u rfl) ?_ hw441; intro K hK; go_big_quiet_op; go_big_quiet_on)
          (refine wpG_val (v := .bool false) rfl rfl (fun u hu => ltZ_op u C12.out rfl rfl) ?_ hw441; intro K hK; go_big_quiet_op; go_big_quiet_on)
          clear hone hw441
          refine wpG_nil ?_
          intro u443 E2'
          have EX442 := Lib.hid E2'
          clear E2'
          have HO := Lib.hid (FreshY.own (w := u443) (B := w.heap.size) HF.out (fun y hy => ⟨(HN.out y hy).1, EnvX.box EX442.out _ _ (List.mem_append_left _ hy)⟩))
          have HBE := Lib.hid (EnvX.bel EX442.out)
          go_wp2
          go_returns
          exact ⟨⟨_, rfl, HO.out⟩, HBE.out⟩
theorem rputX_any (t : TxM) (w : World) (ht : TxOk w t) :
    Calls Tryd.prog 45 #[txV t] w fun e w' => (∃ v, e = .returned (.tuple #[v, .bool (putX t.r).2]) ∧ OwnB w' w.heap.size v (putX t.r).1) ∧ Below w.heap.size w w' := by
  obtain ⟨r, A1, n1, c1, A2, n2, c2⟩ := t
  cases k1 : mayX r with
  | false => exact rputX_no r A1 n1 c1 A2 n2 c2 w ht k1
  | true => exact rputX_yes r A1 n1 c1 A2 n2 c2 w ht k1
set_option maxRecDepth 20000 in
set_option maxHeartbeats 8000000 in
theorem ridX_no (t : TxM) (w : World) (ht : TxOk w t) (k : mayX t.r = false) :
    Calls Tryd.prog 30 #[txV t] w fun e w' => e = .returned (idv (idX t.r)) ∧ Below w.heap.size w w' := by
  have hp : putX t.r = ([], false) := by unfold putX; rw [k]; rfl
  have hi : idX t.r = z32 := by unfold idX; rw [k]; rfl
  rw [hi]
  have HZ : Hid ((arrB 32 z32).size = 32) := arrB_size _ _ (by decide)
  clear k hi
  have HLE : Hid (w.heap.size ≤ w.heap.size + 1) := by show _ ≤ _; omega
  have E1 : Hid (EnvX w ((w.alloc (.cells (txA t) 26)).alloc (.cells (arrB 32 []) 40)) [(w.heap.size + 1, Obj.cells (arrB 32 []) 40 (0, 0)), (w.heap.size, Obj.cells (txA t) 26 (0, 0))]) := (EnvX.start w).two _ _
  have HPT : Hid (∀ u, Below w.heap.size w u → Calls Tryd.prog 45 #[txV t] u fun e w' => (∃ v, e = .returned (.tuple #[v, .bool (putX t.r).2]) ∧ OwnB w' u.heap.size v (putX t.r).1) ∧ Below u.heap.size u w') := fun u hu => rputX_any t u (ht.up hu)
  rw [hp] at HPT
  clear hp ht
  unfold txV at *
  go_enter Tryd.func30, Tryd.ntmps30
  go_upto_region 1 with (fail)
  rw [zero_cells]
  generalize (w.alloc (.cells (txA t) 26)).alloc (.cells (arrB 32 []) 40) = W at *
  have HLD : Hid ((loadVar 26 ⟨w.heap.size, 0, none⟩).run Tryd.prog W = .ok (.agg (txA t)) W) := box_tx E1.out (List.Mem.tail _ (List.Mem.head _))
  go_wp2_with ((with_reducible refine wpList_load_run (o := ⟨some 6, _, _, _, _, _⟩) ?_ 26 (.tmp 1) ?_ ⟨w.heap.size, 0, none⟩ ?_ HLD.out ?_); (rfl); (rfl); (rfl))
  refine (HPT.out W (EnvX.bel E1.out)).mono ?_
  rintro e w1 ⟨⟨v, rfl, hv⟩, hb⟩
  have E2 : Hid (EnvX w w1 [(w.heap.size + 1, Obj.cells (arrB 32 []) 40 (0, 0)), (w.heap.size, Obj.cells (txA t) 26 (0, 0))]) := EnvX.below E1.out hb
  clear hv hb E1 HLD
  go_upto_region 3 with (fail)
  refine wp_region_Hx (w0 := w) [0, 1] [(w.heap.size + 1, Obj.cells (arrB 32 []) 40 (0, 0)), (w.heap.size, Obj.cells (txA t) 26 (0, 0))] rfl E2.out ?_
  refine lexH_phase [0] [1] ?_
  have hw1 : EnvX w _ [(w.heap.size + 1, Obj.cells (arrB 32 []) 40 (0, 0)), (w.heap.size, Obj.cells (txA t) 26 (0, 0))] := E2.out
  have hone := @EnvC.one _ _ _ hw1
  (refine wpG_val (v := .agg (arrB 32 z32)) rfl rfl (fun u hu => buildA_op u hbuilt0) ?_ hw1; intro K hK; go_big_quiet_op; go_big_quiet_on)
  clear hone hw1
  refine wpG_nil ?_
  refine (hOp_store rfl (w.heap.size + 1) (arrB 32 z32) rfl rfl HLE.out 40 ((arrB 32 [])) (List.Mem.head _) (info26 _ HZ.out) ((arrB_size _ _ (by simp)).trans HZ.out.symm) (arrB_one _ _) [(w.heap.size + 1, Obj.cells (arrB 32 z32) 40 (0, 0))] (List.forall_mem_cons.2 ⟨.inl rfl, (fun _ h => by cases h)⟩) ?_)
  intro he2
  intro u4 E2'
  have EX3 := Lib.hid E2'
  clear E2'
  have Q0 := Lib.hid (EnvX.box EX3.out _ _ (List.Mem.head _))
  have HBEL := Lib.hid EX3.out.bel
  clear EX3
  go_wp2_with ((with_reducible refine bodyPost_ret (v := .agg (arrB 32 z32)) ?_ ?_ ?_); (exact results_cell_row (p := 2) (ty := 40) Tryd.results30 _ _ (w.heap.size + 1) 40 (arrB 32 z32) (0, 0) _ rfl Q0.out Tryd.underlying40 rfl (info26 _ HZ.out)); (rfl))
  exact ⟨rfl, HBEL.out⟩
set_option maxRecDepth 20000 in
set_option maxHeartbeats 8000000 in
theorem ridX_yes (t : TxM) (w : World) (ht : TxOk w t) (k : mayX t.r = true) :
    Calls Tryd.prog 30 #[txV t] w fun e w' => e = .returned (idv (idX t.r)) ∧ Below w.heap.size w w' := by
  have hp : putX t.r = (bodyX t.r, true) := by unfold putX; rw [k]; rfl
  have hi : idX t.r = sumL (6 :: bodyX t.r) := by unfold idX; rw [k]; rfl
  rw [hi]
  obtain ⟨su, hsu⟩ : ∃ su, sumL (6 :: bodyX t.r) = su := ⟨_, rfl⟩
  have HZ : Hid ((arrB 32 su).size = 32) := arrB_size _ _ (by rw [← hsu, sumL_len]; omega)
  have HSU := Lib.hid hsu
  rw [hsu]
  clear hsu
  obtain ⟨m, hm⟩ : ∃ m, (bodyX t.r).length = m := ⟨_, rfl⟩
  have hml : 2 ≤ m ∧ m ≤ 200 := by
    have h1 := bodyX_len ht.ok
    have h2 := mayX_iff.1 k
    omega
  have HBO : Hid ((bodyX t.r).length = m ∧ isB (bodyX t.r)) := ⟨hm, bodyX_byte ht.ok k⟩
  have HML := Lib.hid hml
  clear k hi hm hml
  have HLE : Hid (w.heap.size ≤ w.heap.size + 1) := by show _ ≤ _; omega
  have E1 : Hid (EnvX w ((w.alloc (.cells (txA t) 26)).alloc (.cells (arrB 32 []) 40)) [(w.heap.size + 1, Obj.cells (arrB 32 []) 40 (0, 0)), (w.heap.size, Obj.cells (txA t) 26 (0, 0))]) := (EnvX.start w).two _ _
  have HPT : Hid (∀ u, Below w.heap.size w u → Calls Tryd.prog 45 #[txV t] u fun e w' => (∃ v, e = .returned (.tuple #[v, .bool (putX t.r).2]) ∧ OwnB w' u.heap.size v (putX t.r).1) ∧ Below u.heap.size u w') := fun u hu => rputX_any t u (ht.up hu)
  rw [hp] at HPT
  clear hp ht
  unfold txV at *
  go_enter Tryd.func30, Tryd.ntmps30
  go_upto_region 1 with (fail)
  rw [zero_cells]
  generalize (w.alloc (.cells (txA t) 26)).alloc (.cells (arrB 32 []) 40) = W at *
  have HLD : Hid ((loadVar 26 ⟨w.heap.size, 0, none⟩).run Tryd.prog W = .ok (.agg (txA t)) W) := box_tx E1.out (List.Mem.tail _ (List.Mem.head _))
  go_wp2_with ((with_reducible refine wpList_load_run (o := ⟨some 6, _, _, _, _, _⟩) ?_ 26 (.tmp 1) ?_ ⟨w.heap.size, 0, none⟩ ?_ HLD.out ?_); (rfl); (rfl); (rfl))
  refine (HPT.out W (EnvX.bel E1.out)).mono ?_
  rintro e w1 ⟨⟨v, rfl, hv⟩, hb⟩
  obtain ⟨hv1, ⟨_, h0⟩ | ⟨gv, capv, curv, rfl, hg1, hg2, hg3⟩⟩ := hv
  · have := HBO.out.1
    have := HML.out
    have h1 : (bodyX t.r).length = 0 := h0
    omega
  have E2 : Hid (EnvX w w1 [(gv, Obj.cells curv 5 (0, 0)), (w.heap.size + 1, Obj.cells (arrB 32 []) 40 (0, 0)), (w.heap.size, Obj.cells (txA t) 26 (0, 0))]) := ⟨(EnvX.below E1.out hb).bel, fun g o hm => by
    rcases List.mem_cons.1 hm with e | e
    · cases e
      exact hg2
    · exact (EnvX.below E1.out hb).box g o e⟩
  rw [HBO.out.1] at hg3 ⊢
  have HGV := Lib.hid hg3
  have HOF : Hid (∀ (u : World) (gr : Nat), Parts u u.heap.size (some ⟨gr, 0, none⟩) [[6], bodyX t.r] → Calls Tryd.prog 46 #[.slice (some ⟨gr, 0, none⟩) 2 2] u fun e w' => e = .returned (.agg (arrB 32 su)) ∧ Below u.heap.size u w') := fun u gr hp => by
    have e : [[6], bodyX t.r].flatten = 6 :: bodyX t.r := by simp
    have h1 := rsof_any (some ⟨gr, 0, none⟩) 2 2 [[6], bodyX t.r] u rfl hp (by omega) (by rw [e, List.length_cons, HBO.out.1]; have := HML.out; omega)
    rwa [e, HSU.out] at h1
  clear hv1 hb E1 HLD hg1 hg2 hg3
  go_upto_region 4 with (fail)
  refine wp_region_Hx (w0 := w) [0, 1, 2, 3, 4] [(gv, Obj.cells curv 5 (0, 0)), (w.heap.size + 1, Obj.cells (arrB 32 []) 40 (0, 0)), (w.heap.size, Obj.cells (txA t) 26 (0, 0))] rfl E2.out ?_
  refine (hOp_fresh (R := fun v N => ∃ g, v = .slice (some ⟨g, 0, none⟩) 1 1 ∧ N = [(g, Obj.cells #[.int .u8 6] 5 (0, 0))]) (M0 := [(gv, Obj.cells curv 5 (0, 0)), (w.heap.size + 1, Obj.cells (arrB 32 []) 40 (0, 0)), (w.heap.size, Obj.cells (txA t) 26 (0, 0))]) rfl rfl (fun _ h => h) (fun u hu => FAt_byte1 6 u) ?_)
  rintro _ _ ⟨g5, rfl, rfl⟩ hf he1; intro K' hK'; go_big_quiet_op; go_big_quiet_on
  clear hf
  change lexH _ _ _ _ _ _ [(g5, Obj.cells #[.int .u8 6] 5 (0, 0)), (gv, Obj.cells curv 5 (0, 0)), (w.heap.size + 1, Obj.cells (arrB 32 []) 40 (0, 0)), (w.heap.size, Obj.cells (txA t) 26 (0, 0))]
  refine lexH_phase [1] [2, 3, 4] ?_
  have hw2 : EnvX w _ [(g5, Obj.cells #[.int .u8 6] 5 (0, 0)), (gv, Obj.cells curv 5 (0, 0)), (w.heap.size + 1, Obj.cells (arrB 32 []) 40 (0, 0)), (w.heap.size, Obj.cells (txA t) 26 (0, 0))] := he1.choose_spec
  have hone := @EnvC.one _ _ _ hw2
  (refine wpG_op rfl rfl rfl ?_; intro K hK; go_big_quiet_op; go_big_quiet_on)
  clear hone hw2
  refine wpG_nil ?_
  refine (hOp_fresh (R := fun v N => ∃ g, v = .slice (some ⟨g, 0, none⟩) 2 2 ∧ N = [(g, Obj.cells #[.slice (some ⟨g5, 0, none⟩) 1 1, .slice (some ⟨gv, 0, none⟩) m capv] 63 (0, 0))]) (M0 := [(g5, Obj.cells #[.int .u8 6] 5 (0, 0)), (gv, Obj.cells curv 5 (0, 0)), (w.heap.size + 1, Obj.cells (arrB 32 []) 40 (0, 0)), (w.heap.size, Obj.cells (txA t) 26 (0, 0))]) rfl rfl (fun _ h => h) (fun u hu => FAt_rows2 rfl rfl u) ?_)
  rintro _ _ ⟨gr, rfl, rfl⟩ hf he3; intro K' hK'; go_big_quiet_op; go_big_quiet_on
  clear hf
  change lexH _ _ _ _ _ _ [(gr, Obj.cells #[.slice (some ⟨g5, 0, none⟩) 1 1, .slice (some ⟨gv, 0, none⟩) m capv] 63 (0, 0)), (g5, Obj.cells #[.int .u8 6] 5 (0, 0)), (gv, Obj.cells curv 5 (0, 0)), (w.heap.size + 1, Obj.cells (arrB 32 []) 40 (0, 0)), (w.heap.size, Obj.cells (txA t) 26 (0, 0))]
  refine lexH_phase [3] [4] ?_
  have hw4 : EnvX w _ [(gr, Obj.cells #[.slice (some ⟨g5, 0, none⟩) 1 1, .slice (some ⟨gv, 0, none⟩) m capv] 63 (0, 0)), (g5, Obj.cells #[.int .u8 6] 5 (0, 0)), (gv, Obj.cells curv 5 (0, 0)), (w.heap.size + 1, Obj.cells (arrB 32 []) 40 (0, 0)), (w.heap.size, Obj.cells (txA t) 26 (0, 0))] := he3.choose_spec
  have hone := @EnvC.one _ _ _ hw4
  (refine wpG_call (f := 46) (args := #[.slice (some ⟨gr, 0, none⟩) 2 2]) (v := .agg (arrB 32 su)) rfl rfl rfl Tryd.func46 rfl rfl (fun u hu => HOF.out u gr (parts_two (EnvX.lt hu (List.Mem.head _)) (by have h := box_cell (k := 0) hu (List.Mem.head _) rfl; exact h) (boxR_bytes (cap := 1) hu (List.Mem.tail _ (List.Mem.head _)) rfl ⟨by decide, by decide, rfl, rfl⟩) (by intro x hx; cases List.mem_singleton.1 hx; omega) (by have h := box_cell (k := 1) hu (List.Mem.head _) rfl; rw [HBO.out.1]; exact h) (boxR_bytes hu (List.Mem.tail _ (List.Mem.tail _ (List.Mem.head _))) HBO.out.1 HGV.out) HBO.out.2)) ?_ hw4; intro K hK; go_big_quiet_op; go_big_quiet_on)
  clear hone hw4
  refine wpG_nil ?_
  refine (hOp_store rfl (w.heap.size + 1) (arrB 32 su) rfl rfl HLE.out 40 ((arrB 32 [])) (List.Mem.tail _ (List.Mem.tail _ (List.Mem.tail _ (List.Mem.head _)))) (info26 _ HZ.out) ((arrB_size _ _ (by simp)).trans HZ.out.symm) (arrB_one _ _) [(w.heap.size + 1, Obj.cells (arrB 32 su) 40 (0, 0))] (List.forall_mem_cons.2 ⟨.inl rfl, (fun _ h => by cases h)⟩) ?_)
  intro he5
  intro u7 E2'
  have EX6 := Lib.hid E2'
  clear E2'
  have Q0 := Lib.hid (EnvX.box EX6.out _ _ (List.Mem.head _))
  have HBEL := Lib.hid EX6.out.bel
  clear EX6
  go_wp2_with ((with_reducible refine bodyPost_ret (v := .agg (arrB 32 su)) ?_ ?_ ?_); (exact results_cell_row (p := 2) (ty := 40) Tryd.results30 _ _ (w.heap.size + 1) 40 (arrB 32 su) (0, 0) _ rfl Q0.out Tryd.underlying40 rfl (info26 _ HZ.out)); (rfl))
  exact ⟨rfl, HBEL.out⟩
theorem ridX_any (t : TxM) (w : World) (ht : TxOk w t) :
    Calls Tryd.prog 30 #[txV t] w fun e w' => e = .returned (idv (idX t.r)) ∧ Below w.heap.size w w' := by
  cases k : mayX t.r with
  | true => exact ridX_yes t w ht k
  | false => exact ridX_no t w ht k
set_option maxRecDepth 20000 in
set_option maxHeartbeats 4000000 in
theorem rless_any (xs ys : List Int) (w : World) (hx : xs.length = 32) (hy : ys.length = 32) :
    Calls Tryd.prog 49 #[.agg (arrB 32 xs), .agg (arrB 32 ys)] w fun e w' => e = .returned (.bool (lessL xs ys)) ∧ Below w.heap.size w w' := by
  have HX := Lib.hid hx
  have HY := Lib.hid hy
  clear hx hy
  go_enter Tryd.func49, Tryd.ntmps49
  go_wp2_with fail
  go_loopw [5] (fun i u => ∃ k : Nat, k ≤ 32 ∧ i = .int .i64 k ∧ Below w.heap.size w u ∧ Hid (Row u w.heap.size 40 (arrB 32 xs) ∧ Row u (w.heap.size + 1) 40 (arrB 32 ys) ∧ lessL xs ys = lessL (xs.drop k) (ys.drop k))) (fun i _ => 32 - (intOf i).toNat)
  case atStart => exact ⟨0, by omega, rfl, by go_grown, (Row.new w 40 _).alloc _, Row.newAt (by simp) 40 _, rfl⟩
  case round =>
    obtain ⟨k, hk, rfl, hbl, hrows⟩ := hrel
    obtain ⟨r0, r1, hq⟩ := hrows.out
    by_cases hlt : k < 32
    · have e0 : wr.cell? ⟨w.heap.size, k, none⟩ = some (.int .u8 (xs.getD k 0)) := (r0.cell k).trans (arrB_get 32 _ k (by rw [HX.out]; omega) hlt)
      have e1 : wr.cell? ⟨w.heap.size + 1, k, none⟩ = some (.int .u8 (ys.getD k 0)) := (r1.cell k).trans (arrB_get 32 _ k (by rw [HY.out]; omega) hlt)
      have hs := Lib.hid (lessL_at xs ys k (by rw [HX.out]; exact hlt) (by rw [HY.out]; exact hlt))
      have R0 := Lib.hid r0
      have R1 := Lib.hid r1
      have HQ := Lib.hid hq
      clear r0 r1 hq hrows
      generalize xs.getD k 0 = x at *
      generalize ys.getD k 0 = y at *
      have hl2 : (k : Int) < 32 := by omega
      by_cases hxy : x = y
      · subst hxy
        have hne : (x != x) = false := by simp
        have hs1 := Lib.hid (HQ.out.trans (hs.out.1 rfl))
        clear hs HQ
        go_wp2_with fail
        go_quiet (fail)
        go_wp2
        go_roundw
        case rel => exact ⟨k + 1, by omega, by go_num, below_drewN hbl _, R0.out.drewN _, R1.out.drewN _, hs1.out⟩
        case measure => simp [intOf]; omega
      · have hne : (x != y) = true := by simpa using hxy
        have hfin := Lib.hid (HQ.out.trans (hs.out.2 hxy))
        clear hxy
        go_wp2_with fail
        go_quiet (fail)
        go_wp2_with fail
        go_quiet (fail)
        go_wp2
        go_ret
        exact ⟨by rw [hfin.out]; rfl, below_drewN (below_drewN hbl _) _⟩
    · obtain rfl : k = 32 := by omega
      have hfin : Hid (lessL xs ys = false) := by
        show _ = _
        rw [hq, List.drop_eq_nil_of_le (by rw [HX.out]; exact Nat.le_refl _)]
        rfl
      clear r0 r1 hq hrows
      go_wp2
      go_ret
      exact ⟨by rw [hfin.out]; rfl, hbl⟩
section
variable {w0 u : World} {M : Boxes} {g : Nat} {ty : TypeId} {c : CoinR}
theorem box_co (hu : EnvC w0 M u) (hm : (g, Obj.cells (coA c) ty (0, 0)) ∈ M) (h : lenC c) : (loadVar 50 ⟨g, 0, none⟩).run Tryd.prog u = .ok (coV c) u := by
  have := box_agg aggCo (k := 0) hu hm (coC c) (coC_len h) (by unfold coA; rw [List.drop_zero, List.take_of_length_le (by rw [coC_len h]; omega)])
  exact this
theorem box_co_tx (hu : EnvC w0 M u) (hm : (g, Obj.cells (coA c) ty (0, 0)) ∈ M) (h : lenC c) : (loadVar 40 ⟨g, 0, none⟩).run Tryd.prog u = .ok (idv c.tx) u := by
  have := box_agg aggIdT (k := 0) hu hm _ (idA_list (show c.tx.length = 32 from h)) (by unfold coA; rw [List.drop_zero]; exact coC_tx h)
  rwa [agg_list] at this
end
section
variable {a : Act} {dst : Option Tmp} {x y : Operand} {ty : TypeId} {pos : String} {after : Array Edge} {gd : Option (Nat × Bool)}
end
end Go.Proofs.YtabhhbdbkeeblaaDoor
