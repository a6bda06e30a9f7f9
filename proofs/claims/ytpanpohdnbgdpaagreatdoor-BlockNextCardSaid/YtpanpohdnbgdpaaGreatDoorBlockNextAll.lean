/-
  PROVED: the law stepladderlaw11.BlockNext answers true for every input, and leaves its arguments as they were.
  Conditions: the two package-level tables of package sha hold at the call what their initialisers lay; the card ties that to the text of the program (a pruned copy of the project: the packages that the roots of this seat load).
-/
import Derived.Test.YtpanpohdnbgdpaaGreatDoorZj
open Go.Proofs.Tryz
namespace Go.Proofs.YtpanpohdnbgdpaaGreatDoor
set_option maxRecDepth 20000
set_option maxHeartbeats 8000000
set_option linter.unusedVariables false
set_option linter.unusedSimpArgs false
open Go.RowKit
section
variable {a : Act} {dst : Option Tmp} {x y : Operand} {ty : TypeId} {pos : String} {after : Array Edge} {gd : Option (Nat × Bool)}
theorem neqI_op {m k : Int} {b : Bool} (u : World) (hb : decide (m ≠ k) = b) (hx : a.eval x = .int .i64 m) (hy : a.eval y = .int .i64 k) :
  (execOp a.eval ⟨dst, .binOp .neq 3 x y 3, ty, pos, after, gd⟩).run Tryz.prog u = .ok (.value (.bool b)) u := by
 have e : (m != k) = b := by rw [← hb]; by_cases h : m = k <;> simp [h]
 subst e
 unfold execOp
 simp only [hx, hy]
 go_simp
end
section
variable {t : TipR} {b : BlkR} {K : Hd}
end
section
variable {a : Act} {dst : Option Tmp} {x y : Operand} {ty : TypeId} {pos : String} {after : Array Edge} {gd : Option (Nat × Bool)}
theorem neqU32k_op {m k : Int} {b : Bool} (u : World) (hb : decide (m ≠ k) = b) (hx : a.eval x = .int .u32 m) (hy : a.eval y = .int .u32 k) :
  (execOp a.eval ⟨dst, .binOp .neq 27 x y 27, ty, pos, after, gd⟩).run Tryz.prog u = .ok (.value (.bool b)) u := by
 have e : (m != k) = b := by rw [← hb]; by_cases h : m = k <;> simp [h]
 subst e
 unfold execOp
 simp only [hx, hy]
 go_simp
end
section
variable {a : Act} {dst : Option Tmp} {x y : Operand} {ty : TypeId} {pos : String} {after : Array Edge} {gd : Option (Nat × Bool)}
theorem neqU64k_op {m k : Int} {b : Bool} (u : World) (hb : decide (m ≠ k) = b) (hx : a.eval x = .int .u64 m) (hy : a.eval y = .int .u64 k) :
  (execOp a.eval ⟨dst, .binOp .neq 24 x y 24, ty, pos, after, gd⟩).run Tryz.prog u = .ok (.value (.bool b)) u := by
 have e : (m != k) = b := by rw [← hb]; by_cases h : m = k <;> simp [h]
 subst e
 unfold execOp
 simp only [hx, hy]
 go_simp
end
theorem putA_txs {h : Hd} (k : lenH h) (v : List Int) (hv : v.length = 32) : (hdA h).toList.take 65 ++ (idv v).cells.toList ++ (hdA h).toList.drop (65 + (idv v).cells.size) = (hdA { h with txs := v }).toList := by
 have hz : (idv v).cells.size = 32 := arrB_size _ _ (by rw [hv]; omega)
 have := putHd_txs k v []
 simp only [List.append_nil] at this
 rw [hz]
 exact this
theorem putA_nonce {h : Hd} (k : lenH h) (v : Nat) : (hdA h).toList.take 134 ++ (Value.int .u64 (v : Int)).cells.toList ++ (hdA h).toList.drop (134 + (Value.int .u64 (v : Int)).cells.size) = (hdA { h with nonce := v }).toList := by
 have := putHd_nonce k v []
 simp only [List.append_nil] at this
 exact this
theorem law_bnext_a (H : BlockC) (G : AwkC) (t : TipM) (l : List TxM) (A : Option Addr) (n c : Nat) (l' : List TxM) (A' : Option Addr) (n' c' : Nat) (na nb : Nat) (w : World) (kt : TipOk w t) (hl : l.length = n) (hnc : n ≤ c) (hcm : c ≤ maxLen) (hA : TxsIn w A l) (hl' : l'.length = n') (hnc' : n' ≤ c') (hcm' : c' ≤ maxLen) (hA' : TxsIn w A' l') (hna : na < 18446744073709551616) (hnb : nb < 18446744073709551616) (ht : Tables w) (k1 : fewP t = false) (k2 : fewAll l 6 = fewAll l 6) (k3 : fewAll l' 6 = fewAll l' 6) :
  Rz 8 #[tipV t, .slice A n c, .slice A' n' c', .int .u64 (na : Int), .int .u64 (nb : Int)] w (.bool true) := by
 unfold Rz
 have HT := hD ht
 have HH := hD H
 have KT := hD kt
 have HKt : Hid (lenH t.b.h) := kt.b.h.len
 have HM63 : Hid (n < 9223372036854775808) := by show _ < _; unfold maxLen at hcm; omega
 have HM63' : Hid (n' < 9223372036854775808) := by show _ < _; unfold maxLen at hcm'; omega
 have HL := hD hl
 have HL' := hD hl'
 have HTI := hD hA
 have HTI' := hD hA'
 have HNC := hD (And.intro hnc hcm)
 have HNC' := hD (And.intro hnc' hcm')
 have HNA := hD hna
 have HNB := hD hnb
 have HF1 : Hid (fewP t = false) := k1
 have HF2 : Hid (fewAll l 6 = fewAll l 6) := k2
 have HF3 : Hid (fewAll l' 6 = fewAll l' 6) := k3
 have HG := hD G
 have HAW : Hid (Rt w 10 #[] (.bool true)) := fun u hu => bawake_any H G u (ht.below (EnvX.bel hu))
 have E1 : Hid (EnvX w (w.alloc (.cells (tipA t) 37)) [(w.heap.size, oc (tipA t) 37)]) := (EnvX.start w).new _
 clear ht H G kt hl hnc hcm hA hl' hnc' hcm' hA' hna hnb k1 k2 k3
 unfold tipV
 go_enter func8, ntmps8
 go_upto_region 1 with (fail)
 generalize w.alloc (.cells (tipA t) 37) = W at *
 refine rgQ [0,1] [] E1 rfl fun hw => ?_
 refine qc rfl func10 (fun u hu => HAW.out u (nl hu)) hw ?_
 refine qo rfl hw ?_
 refine enP fun u3 EX2 => ?_
 go_upto_region 2 with (fail)
 refine rgQ [0,1,2] [] EX2 rfl fun hw => ?_
 refine ql rfl mH HKt.out hw ?_
 refine qc (args := #[tipV t]) (v := .bool (false)) rfl func11 (fun u hu => by have h1 := fewtip_any t u (KT.out.up (EnvX.bel hu)); rwa [HF1.out] at h1) hw ?_
 refine qo rfl hw ?_
 refine enP fun u6 EX5 => ?_
 go_upto_region 3 with (fail)
 refine rgQ [0,1,2] [] EX5 rfl fun hw => ?_
 refine qo rfl hw ?_
 refine qc (args := #[.slice A n c, .int .i64 6]) (v := .bool (fewAll l 6)) rfl func24 (fun u hu => by have h1 := fewall_any l 6 A n c u HL.out HM63.out (HTI.out.up (EnvX.bel hu)); rwa [HF2.out] at h1) hw ?_
 refine qo rfl hw ?_
 refine enP fun u9 EX8 => ?_
 go_upto_region 4 with (fail)
 refine rgQ [0,1,2] [] EX8 rfl fun hw => ?_
 refine qo rfl hw ?_
 refine qc (args := #[.slice A' n' c', .int .i64 6]) (v := .bool (fewAll l' 6)) rfl func24 (fun u hu => by have h1 := fewall_any l' 6 A' n' c' u HL'.out HM63'.out (HTI'.out.up (EnvX.bel hu)); rwa [HF3.out] at h1) hw ?_
 refine qo rfl hw ?_
 refine enP fun u12 EX11 => ?_
 go_upto_region 5 with (fail)
 refine rgQ [0,1,2,3,4,5,6,7,8,9,10,11,12,13] [] EX11 rfl fun hw => ?_
 refine qw 14 hw ?_
 refine enP fun u15 EX14 => ?_
 go_upto_region 6 with (fail)
 refine rgQ [0,1] [] EX14 rfl fun hw => ?_
 refine qw 2 hw ?_
 refine enP fun u18 EX17 => ?_
 have HBE := hD (EnvX.bel EX17.out)
 go_wp2
 go_ret
 exact ⟨rfl, HBE.out⟩
theorem law_bnext_b (H : BlockC) (G : AwkC) (t : TipM) (l : List TxM) (A : Option Addr) (n c : Nat) (l' : List TxM) (A' : Option Addr) (n' c' : Nat) (na nb : Nat) (w : World) (kt : TipOk w t) (hl : l.length = n) (hnc : n ≤ c) (hcm : c ≤ maxLen) (hA : TxsIn w A l) (hl' : l'.length = n') (hnc' : n' ≤ c') (hcm' : c' ≤ maxLen) (hA' : TxsIn w A' l') (hna : na < 18446744073709551616) (hnb : nb < 18446744073709551616) (ht : Tables w) (k1 : fewP t = true) (k2 : fewAll l 6 = false) (k3 : fewAll l' 6 = fewAll l' 6) :
  Rz 8 #[tipV t, .slice A n c, .slice A' n' c', .int .u64 (na : Int), .int .u64 (nb : Int)] w (.bool true) := by
 unfold Rz
 have HT := hD ht
 have HH := hD H
 have KT := hD kt
 have HKt : Hid (lenH t.b.h) := kt.b.h.len
 have HM63 : Hid (n < 9223372036854775808) := by show _ < _; unfold maxLen at hcm; omega
 have HM63' : Hid (n' < 9223372036854775808) := by show _ < _; unfold maxLen at hcm'; omega
 have HL := hD hl
 have HL' := hD hl'
 have HTI := hD hA
 have HTI' := hD hA'
 have HNC := hD (And.intro hnc hcm)
 have HNC' := hD (And.intro hnc' hcm')
 have HNA := hD hna
 have HNB := hD hnb
 have HF1 : Hid (fewP t = true) := k1
 have HF2 : Hid (fewAll l 6 = false) := k2
 have HF3 : Hid (fewAll l' 6 = fewAll l' 6) := k3
 have HG := hD G
 have HAW : Hid (Rt w 10 #[] (.bool true)) := fun u hu => bawake_any H G u (ht.below (EnvX.bel hu))
 have E1 : Hid (EnvX w (w.alloc (.cells (tipA t) 37)) [(w.heap.size, oc (tipA t) 37)]) := (EnvX.start w).new _
 clear ht H G kt hl hnc hcm hA hl' hnc' hcm' hA' hna hnb k1 k2 k3
 unfold tipV
 go_enter func8, ntmps8
 go_upto_region 1 with (fail)
 generalize w.alloc (.cells (tipA t) 37) = W at *
 refine rgQ [0,1] [] E1 rfl fun hw => ?_
 refine qc rfl func10 (fun u hu => HAW.out u (nl hu)) hw ?_
 refine qo rfl hw ?_
 refine enP fun u3 EX2 => ?_
 go_upto_region 2 with (fail)
 refine rgQ [0,1,2] [] EX2 rfl fun hw => ?_
 refine ql rfl mH HKt.out hw ?_
 refine qc (args := #[tipV t]) (v := .bool (true)) rfl func11 (fun u hu => by have h1 := fewtip_any t u (KT.out.up (EnvX.bel hu)); rwa [HF1.out] at h1) hw ?_
 refine qo rfl hw ?_
 refine enP fun u6 EX5 => ?_
 go_upto_region 3 with (fail)
 refine rgQ [0,1,2] [] EX5 rfl fun hw => ?_
 refine qo rfl hw ?_
 refine qc (args := #[.slice A n c, .int .i64 6]) (v := .bool (false)) rfl func24 (fun u hu => by have h1 := fewall_any l 6 A n c u HL.out HM63.out (HTI.out.up (EnvX.bel hu)); rwa [HF2.out] at h1) hw ?_
 refine qo rfl hw ?_
 refine enP fun u9 EX8 => ?_
 go_upto_region 4 with (fail)
 refine rgQ [0,1,2] [] EX8 rfl fun hw => ?_
 refine qo rfl hw ?_
 refine qc (args := #[.slice A' n' c', .int .i64 6]) (v := .bool (fewAll l' 6)) rfl func24 (fun u hu => by have h1 := fewall_any l' 6 A' n' c' u HL'.out HM63'.out (HTI'.out.up (EnvX.bel hu)); rwa [HF3.out] at h1) hw ?_
 refine qo rfl hw ?_
 refine enP fun u12 EX11 => ?_
 go_upto_region 5 with (fail)
 refine rgQ [0,1,2,3,4,5,6,7,8,9,10,11,12,13] [] EX11 rfl fun hw => ?_
 refine qw 14 hw ?_
 refine enP fun u15 EX14 => ?_
 go_upto_region 6 with (fail)
 refine rgQ [0,1] [] EX14 rfl fun hw => ?_
 refine qw 2 hw ?_
 refine enP fun u18 EX17 => ?_
 have HBE := hD (EnvX.bel EX17.out)
 go_wp2
 go_ret
 exact ⟨rfl, HBE.out⟩
theorem law_bnext_c (H : BlockC) (G : AwkC) (t : TipM) (l : List TxM) (A : Option Addr) (n c : Nat) (l' : List TxM) (A' : Option Addr) (n' c' : Nat) (na nb : Nat) (w : World) (kt : TipOk w t) (hl : l.length = n) (hnc : n ≤ c) (hcm : c ≤ maxLen) (hA : TxsIn w A l) (hl' : l'.length = n') (hnc' : n' ≤ c') (hcm' : c' ≤ maxLen) (hA' : TxsIn w A' l') (hna : na < 18446744073709551616) (hnb : nb < 18446744073709551616) (ht : Tables w) (k1 : fewP t = true) (k2 : fewAll l 6 = true) (k3 : fewAll l' 6 = false) :
  Rz 8 #[tipV t, .slice A n c, .slice A' n' c', .int .u64 (na : Int), .int .u64 (nb : Int)] w (.bool true) := by
 unfold Rz
 have HT := hD ht
 have HH := hD H
 have KT := hD kt
 have HKt : Hid (lenH t.b.h) := kt.b.h.len
 have HM63 : Hid (n < 9223372036854775808) := by show _ < _; unfold maxLen at hcm; omega
 have HM63' : Hid (n' < 9223372036854775808) := by show _ < _; unfold maxLen at hcm'; omega
 have HL := hD hl
 have HL' := hD hl'
 have HTI := hD hA
 have HTI' := hD hA'
 have HNC := hD (And.intro hnc hcm)
 have HNC' := hD (And.intro hnc' hcm')
 have HNA := hD hna
 have HNB := hD hnb
 have HF1 : Hid (fewP t = true) := k1
 have HF2 : Hid (fewAll l 6 = true) := k2
 have HF3 : Hid (fewAll l' 6 = false) := k3
 have HG := hD G
 have HAW : Hid (Rt w 10 #[] (.bool true)) := fun u hu => bawake_any H G u (ht.below (EnvX.bel hu))
 have E1 : Hid (EnvX w (w.alloc (.cells (tipA t) 37)) [(w.heap.size, oc (tipA t) 37)]) := (EnvX.start w).new _
 clear ht H G kt hl hnc hcm hA hl' hnc' hcm' hA' hna hnb k1 k2 k3
 unfold tipV
 go_enter func8, ntmps8
 go_upto_region 1 with (fail)
 generalize w.alloc (.cells (tipA t) 37) = W at *
 refine rgQ [0,1] [] E1 rfl fun hw => ?_
 refine qc rfl func10 (fun u hu => HAW.out u (nl hu)) hw ?_
 refine qo rfl hw ?_
 refine enP fun u3 EX2 => ?_
 go_upto_region 2 with (fail)
 refine rgQ [0,1,2] [] EX2 rfl fun hw => ?_
 refine ql rfl mH HKt.out hw ?_
 refine qc (args := #[tipV t]) (v := .bool (true)) rfl func11 (fun u hu => by have h1 := fewtip_any t u (KT.out.up (EnvX.bel hu)); rwa [HF1.out] at h1) hw ?_
 refine qo rfl hw ?_
 refine enP fun u6 EX5 => ?_
 go_upto_region 3 with (fail)
 refine rgQ [0,1,2] [] EX5 rfl fun hw => ?_
 refine qo rfl hw ?_
 refine qc (args := #[.slice A n c, .int .i64 6]) (v := .bool (true)) rfl func24 (fun u hu => by have h1 := fewall_any l 6 A n c u HL.out HM63.out (HTI.out.up (EnvX.bel hu)); rwa [HF2.out] at h1) hw ?_
 refine qo rfl hw ?_
 refine enP fun u9 EX8 => ?_
 go_upto_region 4 with (fail)
 refine rgQ [0,1,2] [] EX8 rfl fun hw => ?_
 refine qo rfl hw ?_
 refine qc (args := #[.slice A' n' c', .int .i64 6]) (v := .bool (false)) rfl func24 (fun u hu => by have h1 := fewall_any l' 6 A' n' c' u HL'.out HM63'.out (HTI'.out.up (EnvX.bel hu)); rwa [HF3.out] at h1) hw ?_
 refine qo rfl hw ?_
 refine enP fun u12 EX11 => ?_
 go_upto_region 5 with (fail)
 refine rgQ [0,1,2,3,4,5,6,7,8,9,10,11,12,13] [] EX11 rfl fun hw => ?_
 refine qw 14 hw ?_
 refine enP fun u15 EX14 => ?_
 go_upto_region 6 with (fail)
 refine rgQ [0,1] [] EX14 rfl fun hw => ?_
 refine qw 2 hw ?_
 refine enP fun u18 EX17 => ?_
 have HBE := hD (EnvX.bel EX17.out)
 go_wp2
 go_ret
 exact ⟨rfl, HBE.out⟩
theorem law_bnext_main (H : BlockC) (G : AwkC) (t : TipM) (l : List TxM) (A : Option Addr) (n c : Nat) (l' : List TxM) (A' : Option Addr) (n' c' : Nat) (na nb : Nat) (w : World) (kt : TipOk w t) (hl : l.length = n) (hnc : n ≤ c) (hcm : c ≤ maxLen) (hA : TxsIn w A l) (hl' : l'.length = n') (hnc' : n' ≤ c') (hcm' : c' ≤ maxLen) (hA' : TxsIn w A' l') (hna : na < 18446744073709551616) (hnb : nb < 18446744073709551616) (ht : Tables w) (k1 : fewP t = true) (k2 : fewAll l 6 = true) (k3 : fewAll l' 6 = true) :
  Rz 8 #[tipV t, .slice A n c, .slice A' n' c', .int .u64 (na : Int), .int .u64 (nb : Int)] w (.bool true) := by
 unfold Rz
 have HT := hD ht
 have HH := hD H
 have KT := hD kt
 have HKt : Hid (lenH t.b.h) := kt.b.h.len
 have HM63 : Hid (n < 9223372036854775808) := by show _ < _; unfold maxLen at hcm; omega
 have HM63' : Hid (n' < 9223372036854775808) := by show _ < _; unfold maxLen at hcm'; omega
 have HL := hD hl
 have HL' := hD hl'
 have HTI := hD hA
 have HTI' := hD hA'
 have HNC := hD (And.intro hnc hcm)
 have HNC' := hD (And.intro hnc' hcm')
 have HNA := hD hna
 have HNB := hD hnb
 have HF1 : Hid (fewP t = true) := k1
 have HF2 : Hid (fewAll l 6 = true) := k2
 have HF3 : Hid (fewAll l' 6 = true) := k3
 have HG := hD G
 have HAW : Hid (Rt w 10 #[] (.bool true)) := fun u hu => bawake_any H G u (ht.below (EnvX.bel hu))
 have E1 : Hid (EnvX w (w.alloc (.cells (tipA t) 37)) [(w.heap.size, oc (tipA t) 37)]) := (EnvX.start w).new _
 obtain ⟨h1, hh1⟩ : ∃ h1, nextK t.r (rsT l) na = h1 := ⟨_, rfl⟩
 obtain ⟨h2, hh2⟩ : ∃ h2, nextK t.r (rsT l') nb = h2 := ⟨_, rfl⟩
 have HO1 : Hid (okHd h1) := by rw [← hh1]; exact nextK_ok (rsT l) (t := t.r) kt.o3 kt.b.h.2.2.2.2.2.2.1 hna
 have HO2 : Hid (okHd h2) := by rw [← hh2]; exact nextK_ok (rsT l') (t := t.r) kt.o3 kt.b.h.2.2.2.2.2.2.1 hnb
 have HN1 : Hid (Rt w 22 #[tipV t, .slice A n c, .int .u64 (na : Int)] (hdV h1)) := fun u hu => by rw [← hh1]; exact H.next t l A n c na u (kt.up (EnvX.bel hu)) (fewP.mid k1).1 hl hnc hcm (hA.up (EnvX.bel hu)) (fewAll_mid k2) hna (ht.below (EnvX.bel hu))
 have HN2 : Hid (Rt w 22 #[tipV t, .slice A' n' c', .int .u64 (nb : Int)] (hdV h2)) := fun u hu => by rw [← hh2]; exact H.next t l' A' n' c' nb u (kt.up (EnvX.bel hu)) (fewP.mid k1).1 hl' hnc' hcm' (hA'.up (EnvX.bel hu)) (fewAll_mid k3) hnb (ht.below (EnvX.bel hu))
 have HID : Hid (Rt w 28 #[hdV t.b.h] (idv (idH t.b.h))) := fun u hu => G.id t.b.h u kt.b.h (ht.below (EnvX.bel hu))
 have HV1 : Hid (h1.height = IntKind.i64.wrap (t.b.h.height + 1) ∧ h1.prev = idH t.b.h ∧ h1.bits = t.b.h.bits ∧ h1.nonce = na) := by rw [← hh1]; exact ⟨rfl, rfl, rfl, rfl⟩
 have HE3 : Hid (({ { h2 with txs := h1.txs } with nonce := na } : Hd) = h1) := by rw [← hh1, ← hh2]; rfl
 obtain ⟨i0, hi0⟩ : ∃ i0, idH t.b.h = i0 := ⟨_, rfl⟩
 have HI0 : Hid (i0.length = 32) := by rw [← hi0]; exact (idH_id _).1
 rw [hi0] at HID HV1
 obtain ⟨hg, hhg⟩ : ∃ hg, IntKind.i64.wrap (t.b.h.height + 1) = hg := ⟨_, rfl⟩
 have HHG := hD hhg
 rw [hhg] at HV1
 clear hh1 hh2 hi0 hhg
 clear ht H G kt hl hnc hcm hA hl' hnc' hcm' hA' hna hnb k1 k2 k3
 unfold tipV
 go_enter func8, ntmps8
 go_upto_region 1 with (fail)
 generalize w.alloc (.cells (tipA t) 37) = W at *
 refine rgQ [0,1] [] E1 rfl fun hw => ?_
 refine qc rfl func10 (fun u hu => HAW.out u (nl hu)) hw ?_
 refine qo rfl hw ?_
 refine enP fun u3 EX2 => ?_
 go_upto_region 2 with (fail)
 refine rgQ [0,1,2] [] EX2 rfl fun hw => ?_
 refine ql rfl mH HKt.out hw ?_
 refine qc (args := #[tipV t]) (v := .bool (true)) rfl func11 (fun u hu => by have h1 := fewtip_any t u (KT.out.up (EnvX.bel hu)); rwa [HF1.out] at h1) hw ?_
 refine qo rfl hw ?_
 refine enP fun u6 EX5 => ?_
 go_upto_region 3 with (fail)
 refine rgQ [0,1,2] [] EX5 rfl fun hw => ?_
 refine qo rfl hw ?_
 refine qc (args := #[.slice A n c, .int .i64 6]) (v := .bool (true)) rfl func24 (fun u hu => by have h1 := fewall_any l 6 A n c u HL.out HM63.out (HTI.out.up (EnvX.bel hu)); rwa [HF2.out] at h1) hw ?_
 refine qo rfl hw ?_
 refine enP fun u9 EX8 => ?_
 go_upto_region 4 with (fail)
 refine rgQ [0,1,2] [] EX8 rfl fun hw => ?_
 refine qo rfl hw ?_
 refine qc (args := #[.slice A' n' c', .int .i64 6]) (v := .bool (true)) rfl func24 (fun u hu => by have h1 := fewall_any l' 6 A' n' c' u HL'.out HM63'.out (HTI'.out.up (EnvX.bel hu)); rwa [HF3.out] at h1) hw ?_
 refine qo rfl hw ?_
 refine enP fun u12 EX11 => ?_
 go_upto_region 5 with (fail)
 refine rgQ [0,1,2,3,4,5,6,7,8,9,10,11,12,13] [] EX11 rfl fun hw => ?_
 refine qw 14 hw ?_
 refine enP fun u15 EX14 => ?_
 go_upto_region 7 with (fail)
 refine rgQ [0,1,2,3] [4,5] EX14 rfl fun hw => ?_
 refine ql rfl mH HKt.out hw ?_
 refine qw 2 hw ?_
 refine qc rfl func22 (fun u hu => HN1.out u (nl hu)) hw ?_
 refine wpG_nil <| qn rfl (new_hd _) fun g7 HGg7 he17 => ?_
 change lexH _ _ _ _ _ _ [(g7, oc (hdA noHd) 29), (w.heap.size, oc (tipA t) 37)]
 refine (sh rfl HGg7 (infoHd _ (hdA_size HO1.out.len)) ((hdA_size (h := noHd) len_no).trans (hdA_size HO1.out.len).symm) (hdA_one _) ?_)
 refine fun _ => enL fun u20 EX19 => ?_
 go_upto_region 8 with (fail)
 refine rgQ [0,1,2,3] [4,5] EX19 rfl fun hw => ?_
 refine ql rfl (mT mH) HKt.out hw ?_
 refine qw 2 hw ?_
 refine qc rfl func22 (fun u hu => HN2.out u (nl hu)) hw ?_
 refine wpG_nil <| qn rfl (new_hd _) fun g8 HGg8 he22 => ?_
 change lexH _ _ _ _ _ _ [(g8, oc (hdA noHd) 29), (g7, oc (hdA h1) 29), (w.heap.size, oc (tipA t) 37)]
 refine (sh rfl HGg8 (infoHd _ (hdA_size HO2.out.len)) ((hdA_size (h := noHd) len_no).trans (hdA_size HO2.out.len).symm) (hdA_one _) ?_)
 refine fun _ => enL fun u25 EX24 => ?_
 go_upto_region 9 with (fail)
 refine rgK [0,1,2,3,4,5,6,7,8,9,10,11,12,13,14,15,16,17,18,19,20,21,22,23,24,25,26,27,28,29,30,31] 0 EX24 rfl fun hw => ?_
 refine qf rfl hw ?_
 refine qv rfl (fun u hu => load_any_op u (loads_hd HO1.out.len (box_list hu (mT mH))).2.1 rfl) hw ?_
 refine qw 3 hw ?_
 refine qv rfl (fun u hu => load_any_op u (loads_hd HKt.out (box_tip_hd hu (mT (mT mH)) HKt.out)).2.1 rfl) hw ?_
 refine qv rfl (fun u hu => addZ_op u HHG.out rfl rfl) hw ?_
 refine qv (v := .bool false) rfl (fun u hu => neqI_op u (decide_eq_false (by simpa using HV1.out.1)) rfl rfl) hw ?_
 refine qw 2 hw ?_
 refine qv rfl (fun u hu => load_any_op u (loads_hd HO1.out.len (box_list hu (mT mH))).2.2.1 rfl) hw ?_
 refine qw 2 hw ?_
 refine qv rfl (fun u hu => load_any_op u (loads_hd HKt.out (box_tip_hd hu (mT (mT mH)) HKt.out)).1 rfl) hw ?_
 refine qc rfl func28 (fun u hu => HID.out u (nl hu)) hw ?_
 refine qv rfl (fun u hu => neqb_op HO1.out.len.1 HI0.out (neL_f HV1.out.2.1) u rfl rfl) hw ?_
 refine qw 3 hw ?_
 refine qv rfl (fun u hu => load_any_op u (loads_hd HO1.out.len (box_list hu (mT mH))).2.2.2.2.2.2.2.1 rfl) hw ?_
 refine qw 3 hw ?_
 refine qv rfl (fun u hu => load_any_op u (loads_hd HKt.out (box_tip_hd hu (mT (mT mH)) HKt.out)).2.2.2.2.2.2.2.1 rfl) hw ?_
 refine qv (v := .bool false) rfl (fun u hu => neqU32k_op u (decide_eq_false (by have := HV1.out.2.2.1; omega)) rfl rfl) hw ?_
 refine qw 3 hw ?_
 refine qv rfl (fun u hu => load_any_op u (loads_hd HO1.out.len (box_list hu (mT mH))).2.2.2.2.2.2.2.2 rfl) hw ?_
 refine qo rfl hw ?_
 refine qv (v := .bool false) rfl (fun u hu => neqU64k_op u (decide_eq_false (by have := HV1.out.2.2.2; omega)) rfl rfl) hw ?_
 refine qo rfl hw ?_
 refine eH fun u28 EX27 => ?_
 have HX2 : Hid (lenH { h2 with txs := h1.txs }) := ⟨HO2.out.len.1, HO2.out.len.2.1, HO1.out.len.2.2.1, HO2.out.len.2.2.2⟩
 go_upto_region 11 with (fail)
 refine rgQ [0,1,2] [3] EX27 rfl fun hw => ?_
 refine qf rfl hw ?_
 refine qv rfl (fun u hu => load_any_op u (loads_hd HO1.out.len (box_list hu (mT mH))).2.2.2.2.1 rfl) hw ?_
 refine qf rfl hw ?_
 refine wpG_nil <| (hOp_putAt rfl (g8) (65) (idv h1.txs) rfl rfl HGg8.out.1 29 ((hdA h2)) (hdA { h2 with txs := h1.txs }) mH (infoIdk _ HO1.out.len.2.2.1) (by rw [hdA_size HO2.out.len, show (idv h1.txs).cells.size = 32 from arrB_size _ _ (by rw [HO1.out.len.2.2.1]; omega)]; decide) (arrB_one 32 _) (putA_txs HO2.out.len _ HO1.out.len.2.2.1) [(g8, oc (hdA { h2 with txs := h1.txs }) 29), (g7, oc (hdA h1) 29), (w.heap.size, oc (tipA t) 37)] (mA ⟨.inl rfl, fun y hy => .inr ⟨mT hy, HGg8.out.2 y hy⟩⟩) ?_)
 refine fun _ => enL fun u32 EX31 => ?_
 go_upto_region 12 with (fail)
 refine rgQ [0,1] [2] EX31 rfl fun hw => ?_
 refine qw 2 hw ?_
 refine wpG_nil <| (hOp_putAt rfl (g8) (134) (.int .u64 (na : Int)) rfl rfl HGg8.out.1 29 ((hdA { h2 with txs := h1.txs })) (hdA { { h2 with txs := h1.txs } with nonce := na }) mH infoU64k (by rw [hdA_size HX2.out]; exact Nat.le_refl _) (by simp [Value.cells]; rfl) (putA_nonce HX2.out na) [(g8, oc (hdA { { h2 with txs := h1.txs } with nonce := na }) 29), (g7, oc (hdA h1) 29), (w.heap.size, oc (tipA t) 37)] (mA ⟨.inl rfl, fun y hy => .inr ⟨mT hy, HGg8.out.2 y hy⟩⟩) ?_)
 refine fun _ => enL fun u36 EX35 => ?_
 rw [HE3.out] at EX35
 go_upto_region 13 with (fail)
 refine rgQ [0,1,2,3] [] EX35 rfl fun hw => ?_
 refine qv rfl (fun u hu => load_any_op u (loads_hd HO1.out.len (box_list hu mH)).1 rfl) hw ?_
 refine qv rfl (fun u hu => load_any_op u (loads_hd HO1.out.len (box_list hu (mT mH))).1 rfl) hw ?_
 refine qv (v := .bool true) rfl (fun u hu => eqlHd_op HO1.out HO1.out (by unfold eqH; simp) u rfl rfl) hw ?_
 refine qo rfl hw ?_
 refine enP fun u39 EX38 => ?_
 have HBE := hD (EnvX.bel EX38.out)
 go_wp2
 go_ret
 exact ⟨rfl, HBE.out⟩
theorem law_bnext (H : BlockC) (G : AwkC) (t : TipM) (l : List TxM) (A : Option Addr) (n c : Nat) (l' : List TxM) (A' : Option Addr) (n' c' : Nat) (na nb : Nat) (w : World) (kt : TipOk w t) (hl : l.length = n) (hnc : n ≤ c) (hcm : c ≤ maxLen) (hA : TxsIn w A l) (hl' : l'.length = n') (hnc' : n' ≤ c') (hcm' : c' ≤ maxLen) (hA' : TxsIn w A' l') (hna : na < 18446744073709551616) (hnb : nb < 18446744073709551616) (ht : Tables w) :
  Rz 8 #[tipV t, .slice A n c, .slice A' n' c', .int .u64 (na : Int), .int .u64 (nb : Int)] w (.bool true) := by
 unfold Rz
 cases k1 : fewP t with
 | false => exact law_bnext_a H G t l A n c l' A' n' c' na nb w kt hl hnc hcm hA hl' hnc' hcm' hA' hna hnb ht k1 rfl rfl
 | true =>
  cases k2 : fewAll l 6 with
  | false => exact law_bnext_b H G t l A n c l' A' n' c' na nb w kt hl hnc hcm hA hl' hnc' hcm' hA' hna hnb ht k1 k2 rfl
  | true =>
   cases k3 : fewAll l' 6 with
   | false => exact law_bnext_c H G t l A n c l' A' n' c' na nb w kt hl hnc hcm hA hl' hnc' hcm' hA' hna hnb ht k1 k2 k3
   | true => exact law_bnext_main H G t l A n c l' A' n' c' na nb w kt hl hnc hcm hA hl' hnc' hcm' hA' hna hnb ht k1 k2 k3
end Go.Proofs.YtpanpohdnbgdpaaGreatDoor
namespace Go.Proofs.YtpanpohdnbgdpaaGreatDoor.blockNext
set_option maxRecDepth 8000
open Go.ChangeShapes Go.WideShapes Go.ChangeAt Go.RowKit
theorem contract (H : Type) (enc : TypeId × Value → H) (W : World) (base : Nat) (args : Array Value) (ds gs : List (DataW H)) (before : List MemPlace)
  (hval : ∀ (j : Nat) t v, Tryz.f8.params[j]? = some t → args[j]? = some v → Value.okWide Tryz.prog W .any base t v)
  (hW : DataW.Whole enc Tryz.prog Tryz.f8.params.toList Rows.blockNextSpec.vars false W args.toList ds gs before) (hL : laidMetH Tryz.prog Rows.blockNextRow.laid W) :
  Calls Tryz.prog 8 args W fun e W' => ∃ v, e = .returned v ∧ Rows.blockNextSpec.post enc Tryz.prog Tryz.f8 false true false false W args v W' := by
 have hW' := hW
 obtain ⟨p, q, hA0, hV, rfl, hfz, hnd⟩ := hW
 have hA : DataW.TrodAll enc Tryz.prog W 0 (fun _ => true) true Tryz.f8.params.toList args.toList ds p := hA0
 rw [Tryz.params8] at hA hval
 obtain ⟨v0, vs0, d0, ds0, p0, q0, hargs, rfl, rfl, h0, r0⟩ := trodAll_cons hA
 obtain ⟨v1, vs1, d1, ds1, p1, q1, rfl, rfl, rfl, h1, r1⟩ := trodAll_cons r0
 obtain ⟨v2, vs2, d2, ds2, p2, q2, rfl, rfl, rfl, h2, r2⟩ := trodAll_cons r1
 obtain ⟨v3, vs3, d3, ds3, p3, q3, rfl, rfl, rfl, h3, r3⟩ := trodAll_cons r2
 obtain ⟨v4, vs4, d4, ds4, p4, q4, rfl, rfl, rfl, h4, r4⟩ := trodAll_cons r3
 obtain ⟨rfl, rfl, rfl⟩ := trodAll_nil r4
 obtain rfl : args = #[v0, v1, v2, v3, v4] := by cases args; simp_all
 obtain ⟨rfl, rfl⟩ := trodVars_none hV
 have lt0 : ∀ x ∈ p0, x.block < W.heap.size := by obtain ⟨m, hm⟩ := h0; exact DataW.trod_lt m _ _ _ hm
 obtain ⟨x0, rfl, kx0⟩ := open_tip (hval 0 37 v0 rfl rfl) h0
 have lt1 : ∀ x ∈ p1, x.block < W.heap.size := by obtain ⟨m, hm⟩ := h1; exact DataW.trod_lt m _ _ _ hm
 obtain ⟨a1, n1, c1, x1, rfl, lx1, nc1, cm1, px1⟩ := open_txs (hval 1 31 v1 rfl rfl) h1
 have lt2 : ∀ x ∈ p2, x.block < W.heap.size := by obtain ⟨m, hm⟩ := h2; exact DataW.trod_lt m _ _ _ hm
 obtain ⟨a2, n2, c2, x2, rfl, lx2, nc2, cm2, px2⟩ := open_txs (hval 2 31 v2 rfl rfl) h2
 obtain ⟨x3, rfl, rfl, rfl, wx3⟩ := open_int underlying24 (hval 3 24 v3 rfl rfl) h3
 obtain ⟨y3, rfl⟩ : ∃ n : Nat, x3 = (n : Int) := Int.eq_ofNat_of_zero_le (bounds_u64 wx3).1
 have b3 : y3 < 18446744073709551616 := by have := (bounds_u64 wx3).2; omega
 obtain ⟨x4, rfl, rfl, rfl, wx4⟩ := open_int underlying24 (hval 4 24 v4 rfl rfl) h4
 obtain ⟨y4, rfl⟩ : ∃ n : Nat, x4 = (n : Int) := Int.eq_ofNat_of_zero_le (bounds_u64 wx4).1
 have b4 : y4 < 18446744073709551616 := by have := (bounds_u64 wx4).2; omega
 clear hA0
 refine (law_bnext blockC awkC x0 x1 a1 n1 c1 x2 a2 n2 c2 y3 y4 W kx0 lx1 nc1 cm1 px1 lx2 nc2 cm2 px2 b3 b4 (tables_of_laid hL)).mono fun e W' ⟨he, bel⟩ => ?_
 subst he
 exact ⟨_, rfl, _, _, _, [], _, [], hW', trodAll_mk1 (shut_bool underlying4 _), (trodAll_cons_mk (Below.trod laidOut (by kernel_rfl) (of_decide_eq_true (by kernel_rfl)) h0 bel lt0) (trodAll_cons_mk (Below.trod laidOut (by kernel_rfl) (of_decide_eq_true (by kernel_rfl)) h1 bel lt1) (trodAll_cons_mk (Below.trod laidOut (by kernel_rfl) (of_decide_eq_true (by kernel_rfl)) h2 bel lt2) (trodAll_cons_mk (shut_int underlying24 wx3) (trodAll_cons_mk (shut_int underlying24 wx4) trodAll_mk0))))), rfl, bel.frame _, fun h => by cases h⟩
def start : Array Value := #[zeroP, .slice none 0 0, .slice none 0 0, .int .u64 0, .int .u64 0]
theorem reads (os : Os) {H : Type} (enc : TypeId × Value → H) : ∃ places, DataW.whole enc Tryz.prog ((laidWorld os).forCall (fun _ _ => 0) ⟨#[], start, []⟩).memory Tryz.f8.params.toList Rows.blockNextSpec.vars false start.toList 8 = some ([zeroPD, .nil, .nil, .lit (.int .u64 0), .lit (.int .u64 0)], [], places) :=
 ⟨[], by kernel_rfl⟩
theorem lifted (os : Os) (started : os.Started) (H : Type) (enc : TypeId × Value → H) (F : Stop.Interp) :
  ReturnsInHanded {} Tryz.checked os 8 .any ((OpenSpec.ofChange Rows.blockNextSpec).preRow enc Tryz.prog Tryz.f8 Rows.blockNextRow.domain false Rows.blockNextRow.laid) (((OpenSpec.ofChange Rows.blockNextSpec).at F).post enc Tryz.prog Tryz.f8 false true false false) := by
 obtain ⟨places, hx⟩ := reads os enc
 refine returnsInHanded_of_row (C := Tryz.checked) (s := OpenSpec.ofChange Rows.blockNextSpec) own started (by kernel_rfl) func8
  (witness_row_at (enc := enc) (C := Tryz.checked) false (laidWorld os) start rfl (by kernel_rfl) (by kernel_rfl) (by kernel_rfl)
   (OpenSpec.preRow_of_cond 8 hx (by kernel_rfl) (fun k hk => by cases hk) (by kernel_rfl) (laidMet_of_run' 8 (by kernel_rfl) (by kernel_rfl)))) ?_
 intro W base args ds gs before hval hW _ _ _ hL _ _
 exact contract H enc W base args ds gs before hval hW hL
theorem said : Rows.BlockNextSaid :=
 OpenClaim.holds_of_cond 8 Tryz.f8 rfl rfl rfl rfl rfl rfl rfl ⟨rfl, rfl, rfl, rfl, rfl⟩ rfl rfl rfl rfl rfl (by kernel_rfl) func8 (by kernel_rfl)
  (of_decide_eq_true (by kernel_rfl)) (by unfold Func.isWrapper; first | (rw [if_pos (by decide +kernel)]; kernel_rfl) | (rw [if_neg (by decide +kernel)]; exact ⟨rfl, rfl⟩))
  (fun os started H enc _ F => by rw [OpenClaim.pre_eq_preRow]; exact lifted os started H enc F)
theorem plain (f : FuncId) (fn : Func) (hf : Tryz.pinned.checked.prog.funcNamed "stepladder/stepladderlaw11.BlockNext" = some f) (hfn : Tryz.pinned.checked.prog.funcs[f]? = some fn) :
   false = Tryz.pinned.checked.prog.looks [] ∧ ∀ (j : Nat) t, fn.params[j]? = some t → Tryz.pinned.checked.prog.wantsStandIn t = false := by
 obtain rfl : f = 8 := Option.some.inj ((show Tryz.prog.funcNamed "stepladder/stepladderlaw11.BlockNext" = some 8 by kernel_rfl).symm.trans hf) |>.symm
 obtain rfl : fn = Tryz.f8 := (Option.some.inj (func8.symm.trans hfn)).symm
 refine ⟨by kernel_rfl, fun j t ht => ?_⟩
 rw [Tryz.params8] at ht
 have hm : t = 37 ∨ t = 31 ∨ t = 31 ∨ t = 24 ∨ t = 24 := by simpa using Array.mem_of_getElem? ht
 rcases hm with rfl | rfl | rfl | rfl | rfl
 · exact (show Tryz.prog.wantsStandIn 37 = false by kernel_rfl)
 · exact (show Tryz.prog.wantsStandIn 31 = false by kernel_rfl)
 · exact (show Tryz.prog.wantsStandIn 31 = false by kernel_rfl)
 · exact (show Tryz.prog.wantsStandIn 24 = false by kernel_rfl)
 · exact (show Tryz.prog.wantsStandIn 24 = false by kernel_rfl)
theorem card : Rows.BlockNextCardSaid :=
 Claim7.holds_tied_plain_at .later [] _ _ _ _ said (fun _ h => by cases h) (by kernel_rfl) (fun _ h => by cases h) blockNext_row_tie rfl ⟨rfl, rfl⟩ (by kernel_rfl) rfl plain (by kernel_rfl)
end Go.Proofs.YtpanpohdnbgdpaaGreatDoor.blockNext
