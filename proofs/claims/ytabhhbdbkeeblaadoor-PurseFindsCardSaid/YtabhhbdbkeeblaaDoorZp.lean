/- Part of a proof. -/
import Derived.Test.YtabhhbdbkeeblaaDoorZo
namespace Go.Proofs.YtabhhbdbkeeblaaDoor
set_option maxRecDepth 8000
open Go.RowKit
def fewAll (l : List TxM) (m : Int) : Bool := l.all (fun t => fewX t.r) && decide ((l.length : Int) ≤ m)
theorem fewAll_no {l : List TxM} {m : Int} {k : Nat} (hk : k < l.length) (h : fewX (l.getD k noTxM).r = false) : fewAll l m = false := by
  unfold fewAll
  have e : l.all (fun t => fewX t.r) = false := by
    rw [List.all_eq_false]
    refine ⟨l.getD k noTxM, ?_, by rw [h]; decide⟩
    rw [List.getD_eq_getElem?_getD, List.getElem?_eq_getElem hk]
    exact List.getElem_mem hk
  rw [e]
  rfl
theorem fewAll_all {l : List TxM} {m : Int} (h : ∀ k, k < l.length → fewX (l.getD k noTxM).r = true) : fewAll l m = decide ((l.length : Int) ≤ m) := by
  unfold fewAll
  have e : l.all (fun t => fewX t.r) = true := by
    rw [List.all_eq_true]
    intro t ht
    obtain ⟨k, hk, rfl⟩ := List.getElem_of_mem ht
    have := h k hk
    rwa [List.getD_eq_getElem?_getD, List.getElem?_eq_getElem hk] at this
  rw [e]
  rfl
theorem fewAll_len {l : List TxM} {m : Int} (h : fewAll l m = true) : (l.length : Int) ≤ m := by
  unfold fewAll at h
  rw [Bool.and_eq_true, decide_eq_true_eq] at h
  exact h.2
set_option maxRecDepth 20000 in
set_option maxHeartbeats 8000000 in
theorem fewall_any (l : List TxM) (m : Int) (A : Option Addr) (n c : Nat) (w : World) (hl : l.length = n) (hn : n < 9223372036854775808) (hA : TxsIn w A l) :
    Calls Tryd.prog 11 #[.slice A n c, .int .i64 m] w fun e w' => e = .returned (.bool (fewAll l m)) ∧ Below w.heap.size w w' := by
  have HL := Lib.hid hl
  have HIA := Lib.hid hA
  have HN63 := Lib.hid hn
  clear hl hA
  go_enter Tryd.func11, Tryd.ntmps11
  go_upto_region 2 with (fail)
  go_loopw [5] (fun iv u => ∃ k : Nat, k ≤ n ∧ iv = .int .i64 (k : Int) ∧ Hid ((∀ j, j < k → fewX (l.getD j noTxM).r = true) ∧ Below w.heap.size w u)) (fun iv _ => n - (intOf iv).toNat)
  case atStart => exact ⟨0, by omega, rfl, fun j hj => by omega, Below.refl _ _⟩
  case round =>
    obtain ⟨k, hk, rfl, hinv⟩ := hrel
    obtain ⟨hA, hB⟩ := hinv.out
    clear hinv
    have HF := Lib.hid hA
    have EK : Hid (EnvX w wr []) := ⟨hB, fun _ _ h => by cases h⟩
    clear hA hB
    by_cases hlt : k < n
    · have hkl : k < l.length := by rw [HL.out]; exact hlt
      obtain ⟨ad, rfl, -, hld⟩ := HIA.out.loads hkl
      have HLD : Hid (∀ u, EnvX w u [] → (loadVar 26 (ad.add (k * 2))).run Tryd.prog u = .ok (txV (l.getD k noTxM)) u) := fun u hu => (hld u hu).1
      have HFW : Hid (∀ u, Below w.heap.size w u → Calls Tryd.prog 10 #[txV (l.getD k noTxM)] u fun e w' => e = .returned (.bool (fewX (l.getD k noTxM).r)) ∧ Below u.heap.size u w') := fun u hu => few_any _ u ((HIA.out.get hkl).up hu)
      have HKN := Lib.hid hlt
      have HKL := Lib.hid hkl
      have C2 : Hid (decide ((k : Int) < (n : Int)) = true) := decide_eq_true (by omega)
      clear hld
      have hno : fewX (l.getD k noTxM).r = false → fewAll l m = false := fun e => fewAll_no hkl e
      have HNO := Lib.hid hno
      clear hno hkl
      cases hf : fewX (l.getD k noTxM).r with
      | false =>
        rw [hf] at HFW
        go_upto_region 2 with (fail)
        refine wp_region_Hx (w0 := w) [0, 1, 2, 3] [] rfl EK.out ?_
        refine lexH_phase [0, 1, 2, 3] [] ?_
        have hw1 : EnvX w _ [] := EK.out
        have hone := @EnvC.one _ _ _ hw1
        iterate 2 (refine wpG_op rfl rfl rfl ?_; intro K hK; go_big_quiet_op; go_big_quiet_on)
        (refine wpG_val (v := .int .i64 (n : Int)) rfl rfl (fun u hu => len_op Tryd.underlying27 HN63.out u rfl) ?_ hw1; intro K hK; go_big_quiet_op; go_big_quiet_on)
        (refine wpG_val (v := .bool true) rfl rfl (fun u hu => ltZ_op u C2.out rfl rfl) ?_ hw1; intro K hK; go_big_quiet_op; go_big_quiet_on)
        clear hone hw1
        refine wpG_nil ?_
        intro u3 E2'
        have EX2 := Lib.hid E2'
        clear E2'
        go_upto_region 4 with (fail)
        refine wp_region_Hx (w0 := w) [0, 1, 2, 3, 4, 5] [] rfl EX2.out ?_
        refine lexH_phase [0, 1, 2, 3, 4, 5] [] ?_
        have hw4 : EnvX w _ [] := EX2.out
        have hone := @EnvC.one _ _ _ hw4
        iterate 2 (refine wpG_op rfl rfl rfl ?_; intro K hK; go_big_quiet_op; go_big_quiet_on)
        (refine wpG_val (v := .pointer (some (ad.add (k * 2)))) rfl rfl (fun u hu => idxSl_op (i := k) Tryd.underlying27 aggTx.size HKN.out u rfl rfl) ?_ hw4; intro K hK; go_big_quiet_op; go_big_quiet_on)
        (refine wpG_val (v := txV (l.getD k noTxM)) rfl rfl (fun u hu => load_any_op u (HLD.out u hu) rfl) ?_ hw4; intro K hK; go_big_quiet_op; go_big_quiet_on)
        (refine wpG_call (f := 10) (args := #[txV (l.getD k noTxM)]) (v := .bool false) rfl rfl rfl Tryd.func10 rfl rfl (fun u hu => HFW.out u (EnvX.bel hu)) ?_ hw4; intro K hK; go_big_quiet_op; go_big_quiet_on)
        (refine wpG_op rfl rfl rfl ?_; intro K hK; go_big_quiet_op; go_big_quiet_on)
        clear hone hw4
        refine wpG_nil ?_
        intro u6 E2'
        have EX5 := Lib.hid E2'
        clear E2'
        have HBE := Lib.hid (EnvX.bel EX5.out)
        have HRS : Hid (fewAll l m = false) := HNO.out hf
        clear hf
        go_wp2
        go_ret
        exact ⟨by rw [HRS.out]; rfl, HBE.out⟩
      | true =>
        rw [hf] at HFW
        go_upto_region 2 with (fail)
        refine wp_region_Hx (w0 := w) [0, 1, 2, 3] [] rfl EK.out ?_
        refine lexH_phase [0, 1, 2, 3] [] ?_
        have hw1 : EnvX w _ [] := EK.out
        have hone := @EnvC.one _ _ _ hw1
        iterate 2 (refine wpG_op rfl rfl rfl ?_; intro K hK; go_big_quiet_op; go_big_quiet_on)
        (refine wpG_val (v := .int .i64 (n : Int)) rfl rfl (fun u hu => len_op Tryd.underlying27 HN63.out u rfl) ?_ hw1; intro K hK; go_big_quiet_op; go_big_quiet_on)
        (refine wpG_val (v := .bool true) rfl rfl (fun u hu => ltZ_op u C2.out rfl rfl) ?_ hw1; intro K hK; go_big_quiet_op; go_big_quiet_on)
        clear hone hw1
        refine wpG_nil ?_
        intro u3 E2'
        have EX2 := Lib.hid E2'
        clear E2'
        go_upto_region 4 with (fail)
        refine wp_region_Hx (w0 := w) [0, 1, 2, 3, 4, 5] [] rfl EX2.out ?_
        refine lexH_phase [0, 1, 2, 3, 4, 5] [] ?_
        have hw4 : EnvX w _ [] := EX2.out
        have hone := @EnvC.one _ _ _ hw4
        iterate 2 (refine wpG_op rfl rfl rfl ?_; intro K hK; go_big_quiet_op; go_big_quiet_on)
        (refine wpG_val (v := .pointer (some (ad.add (k * 2)))) rfl rfl (fun u hu => idxSl_op (i := k) Tryd.underlying27 aggTx.size HKN.out u rfl rfl) ?_ hw4; intro K hK; go_big_quiet_op; go_big_quiet_on)
        (refine wpG_val (v := txV (l.getD k noTxM)) rfl rfl (fun u hu => load_any_op u (HLD.out u hu) rfl) ?_ hw4; intro K hK; go_big_quiet_op; go_big_quiet_on)
        (refine wpG_call (f := 10) (args := #[txV (l.getD k noTxM)]) (v := .bool true) rfl rfl rfl Tryd.func10 rfl rfl (fun u hu => HFW.out u (EnvX.bel hu)) ?_ hw4; intro K hK; go_big_quiet_op; go_big_quiet_on)
        (refine wpG_op rfl rfl rfl ?_; intro K hK; go_big_quiet_op; go_big_quiet_on)
        clear hone hw4
        refine wpG_nil ?_
        intro u6 E2'
        have EX5 := Lib.hid E2'
        clear E2'
        have HBE := Lib.hid (EnvX.bel EX5.out)
        have HF2 : Hid (∀ j, j < k + 1 → fewX (l.getD j noTxM).r = true) := fun j hj => by
          by_cases e : j = k
          · rw [e]; exact hf
          · exact HF.out j (by omega)
        clear hf
        go_wp2
        go_roundw
        case rel => exact ⟨k + 1, by omega, by go_num, HF2.out, HBE.out⟩
        case measure => simp [intOf]; omega
    · obtain rfl : k = n := by omega
      have HRS : Hid (fewAll l m = decide ((k : Int) ≤ m)) := by rw [fewAll_all (by rw [HL.out]; exact HF.out), HL.out]; rfl
      have C2 : Hid (decide ((k : Int) < (k : Int)) = false) := decide_eq_false (by omega)
      go_upto_region 2 with (fail)
      refine wp_region_Hx (w0 := w) [0, 1, 2, 3] [] rfl EK.out ?_
      refine lexH_phase [0, 1, 2, 3] [] ?_
      have hw1 : EnvX w _ [] := EK.out
      have hone := @EnvC.one _ _ _ hw1
      iterate 2 (refine wpG_op rfl rfl rfl ?_; intro K hK; go_big_quiet_op; go_big_quiet_on)
      (refine wpG_val (v := .int .i64 (k : Int)) rfl rfl (fun u hu => len_op Tryd.underlying27 HN63.out u rfl) ?_ hw1; intro K hK; go_big_quiet_op; go_big_quiet_on)
      (refine wpG_val (v := .bool false) rfl rfl (fun u hu => ltZ_op u C2.out rfl rfl) ?_ hw1; intro K hK; go_big_quiet_op; go_big_quiet_on)
      clear hone hw1
      refine wpG_nil ?_
      intro u3 E2'
      have EX2 := Lib.hid E2'
      clear E2'
      go_upto_region 7 with (fail)
      refine wp_region_Hx (w0 := w) [0, 1, 2, 3, 4] [] rfl EX2.out ?_
      refine lexH_phase [0, 1, 2, 3, 4] [] ?_
      have hw4 : EnvX w _ [] := EX2.out
      have hone := @EnvC.one _ _ _ hw4
      (refine wpG_op rfl rfl rfl ?_; intro K hK; go_big_quiet_op; go_big_quiet_on)
      (refine wpG_val (v := .int .i64 (k : Int)) rfl rfl (fun u hu => len_op Tryd.underlying27 HN63.out u rfl) ?_ hw4; intro K hK; go_big_quiet_op; go_big_quiet_on)
      (refine wpG_op rfl rfl rfl ?_; intro K hK; go_big_quiet_op; go_big_quiet_on)
      (refine wpG_val (v := .bool (fewAll l m)) rfl rfl (fun u hu => leZ_op u HRS.out.symm rfl rfl) ?_ hw4; intro K hK; go_big_quiet_op; go_big_quiet_on)
      (refine wpG_op rfl rfl rfl ?_; intro K hK; go_big_quiet_op; go_big_quiet_on)
      clear hone hw4
      refine wpG_nil ?_
      intro u6 E2'
      have EX5 := Lib.hid E2'
      clear E2'
      have HBE := Lib.hid (EnvX.bel EX5.out)
      go_wp2
      go_ret
      exact ⟨rfl, HBE.out⟩
end Go.Proofs.YtabhhbdbkeeblaaDoor
