/-
  PROVED: the law stepladderlaw11.BlockOther answers true for every input, and leaves its arguments as they were.
  Conditions: the two package-level tables of package sha hold at the call what their initialisers lay; the card ties that to the text of the program (a pruned copy of the project: the packages that the roots of this seat load).
-/
import Derived.Test.YtpanpohdnbgdpaaGreatDoorZj
import Derived.Deep.Strs
import Derived.Deep.CutBlock
open Go.Proofs.Tryz
namespace Go.Proofs.YtpanpohdnbgdpaaGreatDoor
set_option maxRecDepth 20000
set_option maxHeartbeats 8000000
set_option linter.unusedVariables false
set_option linter.unusedSimpArgs false
open Go.ChangeShapes Go.WideShapes Go.ChangeAt Go.RowKit Go.Deep
section
variable {H : Type} {enc : TypeId × Value → H} {W : World} {base : Nat} {spare : Nat → Bool} {held : Bool} {fuel : Nat} {cs : List Value} {x : DataW H × List MemPlace}
end
section
variable {H : Type} {enc : TypeId × Value → H} {W : World} {base : Nat} {v : Value} {d : DataW H} {p : List MemPlace}
theorem open_head (hok : Value.okWide Tryz.prog W .any base 29 v) (h : DataW.Trod enc Tryz.prog W 0 (fun _ => true) true 29 v d p) : ∃ t : Hd, v = hdV t ∧ okHd t := by
 obtain ⟨cs, rfl, hsz, _⟩ : ∃ cs, v = .agg cs ∧ cs.size = Tryz.prog.cellsOf 29 ∧ Row.okWide Tryz.prog W .any base 29 cs := by
  simpa [Value.okWide, underlying29] using hok
 obtain ⟨fuel, hf⟩ := h
 obtain ⟨t, ht, hc⟩ := hd_cells hf
 refine ⟨t, ?_, ht⟩
 have : cs.toList = hdC t := hc
 unfold hdV hdA
 rw [← this]
end
def zeroH : Value := .agg (([Value.int .i64 0] ++ (List.replicate 128 (Value.int .u8 0) ++ (List.replicate 4 (Value.int .u64 0) ++ [Value.int .u32 0, Value.int .u64 0]))).toArray)
theorem push_same {t u : TipR} {b : BlkR} (h : pushK t b = (u, 0)) {x : Hd} (hx : x.nonce = b.h.nonce) (h' : (pushK t { b with h := x }).2 = 0) : x = b.h := by
 obtain ⟨h1, -⟩ := push_ok h
 have h2 := (push_iff.1 h').1
 have e : x = nextK t b.t x.nonce := h2
 rw [e, hx, ← h1]
open Go.RowKit
theorem putHd_height {h : Hd} (k : lenH h) (v : Int) (r : List Value) : (hdC h ++ r).take 0 ++ [.int .i64 v] ++ (hdC h ++ r).drop (0 + 1) = hdC { h with height := v } ++ r := by
 have := putHd_mid (a := ([] : List Value)) (b := [.int .i64 h.height]) (c := (arrB 32 h.prev).toList ++ (arrB 32 h.links).toList ++ (arrB 32 h.txs).toList ++ (arrB 32 h.past).toList ++ (wcs h.work).toList ++ [.int .u32 h.bits] ++ [.int .u64 h.nonce] ++ r) (d := [.int .i64 v]) (k := 0) (n := 1) rfl rfl
 unfold hdC
 simp only [aA, List.nil_append] at this ⊢
 exact this
theorem putHd_prev {h : Hd} (k : lenH h) (v : List Int) (r : List Value) : (hdC h ++ r).take 1 ++ (arrB 32 v).toList ++ (hdC h ++ r).drop (1 + 32) = hdC { h with prev := v } ++ r := by
 have := putHd_mid (a := [.int .i64 h.height]) (b := (arrB 32 h.prev).toList) (c := (arrB 32 h.links).toList ++ (arrB 32 h.txs).toList ++ (arrB 32 h.past).toList ++ (wcs h.work).toList ++ [.int .u32 h.bits] ++ [.int .u64 h.nonce] ++ r) (d := (arrB 32 v).toList) (k := 1) (n := 32) (by simp only [lA, List.length_cons, List.length_nil, idA_list k.1, idA_list k.2.1, idA_list k.2.2.1, idA_list k.2.2.2, wcs_list]) (idA_list k.1)
 unfold hdC
 simp only [aA, List.nil_append] at this ⊢
 exact this
theorem putHd_work {h : Hd} (k : lenH h) (v : Nat) (r : List Value) : (hdC h ++ r).take 129 ++ (wcs v).toList ++ (hdC h ++ r).drop (129 + 4) = hdC { h with work := v } ++ r := by
 have := putHd_mid (a := [.int .i64 h.height] ++ (arrB 32 h.prev).toList ++ (arrB 32 h.links).toList ++ (arrB 32 h.txs).toList ++ (arrB 32 h.past).toList) (b := (wcs h.work).toList) (c := [.int .u32 h.bits] ++ [.int .u64 h.nonce] ++ r) (d := (wcs v).toList) (k := 129) (n := 4) (by simp only [lA, List.length_cons, List.length_nil, idA_list k.1, idA_list k.2.1, idA_list k.2.2.1, idA_list k.2.2.2, wcs_list]) (wcs_list _)
 unfold hdC
 simp only [aA, List.nil_append] at this ⊢
 exact this
theorem hd_blk {w : World} {b : BlkM} (k : BlkOk w b) {x : Hd} (hx : okHd x) : BlkOk w { b with h := x } := ⟨hx, k.l1, k.b1, k.o1, k.m1, k.l2, k.b2, k.m2⟩
theorem infoIntk : (Tryz.prog.info? 3).map (·.size) = some 1 := by kernel_rfl
theorem infoWdk (n : Nat) : (Tryz.prog.info? 26).map (·.size) = some (Value.agg (wcs n)).cells.size := by
 have hz : (Value.agg (wcs n)).cells.size = 4 := wc_size n
 have h : (Tryz.prog.info? 26).map (·.size) = some 4 := by kernel_rfl
 rw [hz, h]
theorem putB_height {b : BlkM} (k : lenH b.h) (v : Int) : (blkA b).toList.take 0 ++ (Value.int .i64 v).cells.toList ++ (blkA b).toList.drop (0 + (Value.int .i64 v).cells.size) = (blkA { b with h := { b.h with height := v } }).toList := putHd_height k v _
theorem putB_prev {b : BlkM} (k : lenH b.h) (v : List Int) (hv : v.length = 32) : (blkA b).toList.take 1 ++ (idv v).cells.toList ++ (blkA b).toList.drop (1 + (idv v).cells.size) = (blkA { b with h := { b.h with prev := v } }).toList := by
 have hz : (idv v).cells.size = 32 := arrB_size _ _ (by rw [hv]; omega)
 rw [hz]
 exact putHd_prev k v _
theorem putB_links {b : BlkM} (k : lenH b.h) (v : List Int) (hv : v.length = 32) : (blkA b).toList.take 33 ++ (idv v).cells.toList ++ (blkA b).toList.drop (33 + (idv v).cells.size) = (blkA { b with h := { b.h with links := v } }).toList := by
 have hz : (idv v).cells.size = 32 := arrB_size _ _ (by rw [hv]; omega)
 rw [hz]
 exact putHd_links k v _
theorem putB_txs {b : BlkM} (k : lenH b.h) (v : List Int) (hv : v.length = 32) : (blkA b).toList.take 65 ++ (idv v).cells.toList ++ (blkA b).toList.drop (65 + (idv v).cells.size) = (blkA { b with h := { b.h with txs := v } }).toList := by
 have hz : (idv v).cells.size = 32 := arrB_size _ _ (by rw [hv]; omega)
 rw [hz]
 exact putHd_txs k v _
theorem putB_past {b : BlkM} (k : lenH b.h) (v : List Int) (hv : v.length = 32) : (blkA b).toList.take 97 ++ (idv v).cells.toList ++ (blkA b).toList.drop (97 + (idv v).cells.size) = (blkA { b with h := { b.h with past := v } }).toList := by
 have hz : (idv v).cells.size = 32 := arrB_size _ _ (by rw [hv]; omega)
 rw [hz]
 exact putHd_past k v _
theorem putB_work {b : BlkM} (k : lenH b.h) (v : Nat) : (blkA b).toList.take 129 ++ (Value.agg (wcs v)).cells.toList ++ (blkA b).toList.drop (129 + (Value.agg (wcs v)).cells.size) = (blkA { b with h := { b.h with work := v } }).toList := by
 have hz : (Value.agg (wcs v)).cells.size = 4 := wc_size v
 rw [hz]
 exact putHd_work k v _
theorem putB_bits {b : BlkM} (k : lenH b.h) (v : Nat) : (blkA b).toList.take 133 ++ (Value.int .u32 (v : Int)).cells.toList ++ (blkA b).toList.drop (133 + (Value.int .u32 (v : Int)).cells.size) = (blkA { b with h := { b.h with bits := v } }).toList := putHd_bits k v _
theorem law_bother_fewt (H : BlockC) (G : AwkC) (t : TipM) (b : BlkM) (h : Hd) (part : Int) (w : World) (kt : TipOk w t) (kb : BlkOk w b) (hh : okHd h) (ht : Tables w) (k1 : fewP t = false) (k2 : fewK b = fewK b) :
  Rz 6 #[tipV t, blkV b, hdV h, .int .i64 part] w (.bool true) := by
 unfold Rz
 have HT := hD ht
 have HH := hD H
 have GG := hD G
 have KT := hD kt
 have KB := hD kb
 have HKt : Hid (lenH t.b.h) := kt.b.h.len
 have HKb : Hid (lenH b.h) := kb.h.len
 have HFP : Hid (fewP t = false) := k1
 have HFK : Hid (fewK b = fewK b) := k2
 have HAW : Hid (Rt w 10 #[] (.bool true)) := fun u hu => bawake_any H G u (ht.below (EnvX.bel hu))
 have E1 : Hid (EnvX w (((w.alloc (.cells (tipA t) 37)).alloc (.cells (blkA b) 33)).alloc (.cells (hdA h) 29)) [(w.heap.size + 1 + 1, oc (hdA h) 29), (w.heap.size + 1, oc (blkA b) 33), (w.heap.size, oc (tipA t) 37)]) := EnvX.three _ _ _
 clear ht H G kt kb k1 k2 hh
 unfold tipV blkV hdV
 go_enter func6, ntmps6
 go_upto_region 1 with (fail)
 generalize ((w.alloc (.cells (tipA t) 37)).alloc (.cells (blkA b) 33)).alloc (.cells (hdA h) 29) = W at *
 refine rgQ [0,1] [] E1 rfl fun hw => ?_
 refine qc rfl func10 (fun u hu => HAW.out u (nl hu)) hw ?_
 refine qo rfl hw ?_
 refine enP fun u3 EX2 => ?_
 go_upto_region 2 with (fail)
 refine rgQ [0,1,2] [] EX2 rfl fun hw => ?_
 refine ql rfl (mT (mT mH)) HKt.out hw ?_
 refine qc (args := #[tipV t]) (v := .bool false) rfl func11 (fun u hu => by have h1 := fewtip_any t u (KT.out.up (EnvX.bel hu)); rwa [HFP.out] at h1) hw ?_
 refine qo rfl hw ?_
 refine enP fun u6 EX5 => ?_
 go_upto_region 3 with (fail)
 refine rgQ [0,1,2] [] EX5 rfl fun hw => ?_
 refine ql rfl (mT mH) HKb.out hw ?_
 refine qc (args := #[blkV b]) (v := .bool (fewK b)) rfl func12 (fun u hu => by have h1 := fewblk_any b u (KB.out.up (EnvX.bel hu)); rwa [HFK.out] at h1) hw ?_
 refine qo rfl hw ?_
 refine enP fun u9 EX8 => ?_
 go_upto_region 4 with (fail)
 refine rgQ [0,1,2,3,4,5,6,7,8,9] [] EX8 rfl fun hw => ?_
 refine qw 10 hw ?_
 refine enP fun u12 EX11 => ?_
 go_upto_region 5 with (fail)
 refine rgQ [0,1] [] EX11 rfl fun hw => ?_
 refine qw 2 hw ?_
 refine enP fun u15 EX14 => ?_
 have HBE := hD (EnvX.bel EX14.out)
 go_wp2
 go_ret
 exact ⟨rfl, HBE.out⟩
theorem law_bother_fewb (H : BlockC) (G : AwkC) (t : TipM) (b : BlkM) (h : Hd) (part : Int) (w : World) (kt : TipOk w t) (kb : BlkOk w b) (hh : okHd h) (ht : Tables w) (k1 : fewP t = true) (k2 : fewK b = false) :
  Rz 6 #[tipV t, blkV b, hdV h, .int .i64 part] w (.bool true) := by
 unfold Rz
 have HT := hD ht
 have HH := hD H
 have GG := hD G
 have KT := hD kt
 have KB := hD kb
 have HKt : Hid (lenH t.b.h) := kt.b.h.len
 have HKb : Hid (lenH b.h) := kb.h.len
 have HFP : Hid (fewP t = true) := k1
 have HFK : Hid (fewK b = false) := k2
 have HAW : Hid (Rt w 10 #[] (.bool true)) := fun u hu => bawake_any H G u (ht.below (EnvX.bel hu))
 have E1 : Hid (EnvX w (((w.alloc (.cells (tipA t) 37)).alloc (.cells (blkA b) 33)).alloc (.cells (hdA h) 29)) [(w.heap.size + 1 + 1, oc (hdA h) 29), (w.heap.size + 1, oc (blkA b) 33), (w.heap.size, oc (tipA t) 37)]) := EnvX.three _ _ _
 clear ht H G kt kb k1 k2 hh
 unfold tipV blkV hdV
 go_enter func6, ntmps6
 go_upto_region 1 with (fail)
 generalize ((w.alloc (.cells (tipA t) 37)).alloc (.cells (blkA b) 33)).alloc (.cells (hdA h) 29) = W at *
 refine rgQ [0,1] [] E1 rfl fun hw => ?_
 refine qc rfl func10 (fun u hu => HAW.out u (nl hu)) hw ?_
 refine qo rfl hw ?_
 refine enP fun u3 EX2 => ?_
 go_upto_region 2 with (fail)
 refine rgQ [0,1,2] [] EX2 rfl fun hw => ?_
 refine ql rfl (mT (mT mH)) HKt.out hw ?_
 refine qc (args := #[tipV t]) (v := .bool true) rfl func11 (fun u hu => by have h1 := fewtip_any t u (KT.out.up (EnvX.bel hu)); rwa [HFP.out] at h1) hw ?_
 refine qo rfl hw ?_
 refine enP fun u6 EX5 => ?_
 go_upto_region 3 with (fail)
 refine rgQ [0,1,2] [] EX5 rfl fun hw => ?_
 refine ql rfl (mT mH) HKb.out hw ?_
 refine qc (args := #[blkV b]) (v := .bool false) rfl func12 (fun u hu => by have h1 := fewblk_any b u (KB.out.up (EnvX.bel hu)); rwa [HFK.out] at h1) hw ?_
 refine qo rfl hw ?_
 refine enP fun u9 EX8 => ?_
 go_upto_region 4 with (fail)
 refine rgQ [0,1,2,3,4,5,6,7,8,9] [] EX8 rfl fun hw => ?_
 refine qw 10 hw ?_
 refine enP fun u12 EX11 => ?_
 go_upto_region 5 with (fail)
 refine rgQ [0,1] [] EX11 rfl fun hw => ?_
 refine qw 2 hw ?_
 refine enP fun u15 EX14 => ?_
 have HBE := hD (EnvX.bel EX14.out)
 go_wp2
 go_ret
 exact ⟨rfl, HBE.out⟩
theorem law_bother_main (H : BlockC) (G : AwkC) (t : TipM) (b : BlkM) (h : Hd) (part : Int) (w : World) (kt : TipOk w t) (kb : BlkOk w b) (hh : okHd h) (ht : Tables w) (k1 : fewP t = true) (k2 : fewK b = true) {r1 : TipR} {e1 : Nat} (hp : pushK t.r b.r = (r1, e1)) :
  Rz 6 #[tipV t, blkV b, hdV h, .int .i64 part] w (.bool true) := by
 unfold Rz
 have HT := hD ht
 have HH := hD H
 have GG := hD G
 have KT := hD kt
 have KB := hD kb
 have HKt : Hid (lenH t.b.h) := kt.b.h.len
 have HKb : Hid (lenH b.h) := kb.h.len
 have HFP : Hid (fewP t = true) := k1
 have HFK : Hid (fewK b = true) := k2
 have HAW : Hid (Rt w 10 #[] (.bool true)) := fun u hu => bawake_any H G u (ht.below (EnvX.bel hu))
 have E1 : Hid (EnvX w (((w.alloc (.cells (tipA t) 37)).alloc (.cells (blkA b) 33)).alloc (.cells (hdA h) 29)) [(w.heap.size + 1 + 1, oc (hdA h) 29), (w.heap.size + 1, oc (blkA b) 33), (w.heap.size, oc (tipA t) 37)]) := EnvX.three _ _ _
 have HOh := hD hh
 have HOb : Hid (okHd b.h) := kb.h
 clear ht H G kt kb k1 k2 hh
 have HM1 := hD (fewP.mid HFP.out)
 have HM2 := hD (fewK.mid HFK.out)
 have HP1 := hD hp
 clear hp
 unfold tipV blkV hdV
 go_enter func6, ntmps6
 go_upto_region 1 with (fail)
 generalize ((w.alloc (.cells (tipA t) 37)).alloc (.cells (blkA b) 33)).alloc (.cells (hdA h) 29) = W at *
 refine rgQ [0,1] [] E1 rfl fun hw => ?_
 refine qc rfl func10 (fun u hu => HAW.out u (nl hu)) hw ?_
 refine qo rfl hw ?_
 refine enP fun u3 EX2 => ?_
 go_upto_region 2 with (fail)
 refine rgQ [0,1,2] [] EX2 rfl fun hw => ?_
 refine ql rfl (mT (mT mH)) HKt.out hw ?_
 refine qc (args := #[tipV t]) (v := .bool true) rfl func11 (fun u hu => by have h1 := fewtip_any t u (KT.out.up (EnvX.bel hu)); rwa [HFP.out] at h1) hw ?_
 refine qo rfl hw ?_
 refine enP fun u6 EX5 => ?_
 go_upto_region 3 with (fail)
 refine rgQ [0,1,2] [] EX5 rfl fun hw => ?_
 refine ql rfl (mT mH) HKb.out hw ?_
 refine qc (args := #[blkV b]) (v := .bool true) rfl func12 (fun u hu => by have h1 := fewblk_any b u (KB.out.up (EnvX.bel hu)); rwa [HFK.out] at h1) hw ?_
 refine qo rfl hw ?_
 refine enP fun u9 EX8 => ?_
 go_upto_region 4 with (fail)
 refine rgQ [0,1,2,3,4,5,6,7,8,9] [] EX8 rfl fun hw => ?_
 refine qw 10 hw ?_
 refine enP fun u12 EX11 => ?_
 go_upto_region 6 with (fail)
 refine rgQ [0,1] [2,3,4,5,6,7,8] EX11 rfl fun hw => ?_
 refine ql rfl (mT (mT mH)) HKt.out hw ?_
 refine ql rfl (mT mH) HKb.out hw ?_
 refine wpG_nil <| (hOp_turn (gd := none) (R := fun x M' => ∃ tq N, x = .tuple #[.agg (tipA tq), .int .i64 ((e1 : Nat) : Int)] ∧ M' = N ++ [(w.heap.size + 1 + 1, oc (hdA h) 29), (w.heap.size + 1, oc (blkA b) 33), (w.heap.size, oc (tipA t) 37)] ∧ KeptB w N (IsTip (r1) tq) ∧ ∃ vq, IsTip (r1) tq vq) rfl rfl rfl rfl (fun u hu => OUpon_call (fid := 17) (xs := #[.tmp 34, .tmp 35]) (args := #[tipV t, blkV b]) rfl func17 rfl rfl u (tip_turn (by have h := HH.out.push t b u (KT.out.up (EnvX.bel hu)) HM1.out.1 (KB.out.up (EnvX.bel hu)) HM2.out.1 (HT.out.below (EnvX.bel hu)); rw [HP1.out] at h; simp only at h; exact h) hu)) ?_)
 rintro _ _ ⟨u6, N6, rfl, rfl, hk6, hv6⟩ he14; intro K' hK'; go_big_quiet_op; go_big_quiet_on
 have HT6 := hD hk6
 have HV6 := hD hv6
 have HK6 : Hid (lenH u6.b.h) := by obtain ⟨v, hv⟩ := HV6.out; exact hv.2.b.h.len
 clear hk6 hv6
 refine phE [3,4,5] [6,7,8] he14 fun hw => ?_
 refine qw 3 hw ?_
 refine wpG_nil <| qn rfl (new_tip _) fun g6 HGg6 he16 => ?_
 change lexH _ _ _ _ _ _ ((g6, oc (tipA noTipM) 37) :: (N6 ++ ((w.heap.size + 1 + 1, oc (hdA h) 29) :: ((w.heap.size + 1, oc (blkA b) 33) :: ((w.heap.size, oc (tipA t) 37) :: [])))))
 refine (sh rfl HGg6 (infoTip _ (tipA_size HK6.out)) (tip_sizes HK6.out) (tipA_one _) ?_)
 intro he17
 refine phE [8] [] he17 fun hw => ?_
 refine qo rfl hw ?_
 refine enP fun u20 EX19 => ?_
 go_upto_region 7 with (fail)
 refine rgQ [0] [1,2] EX19 rfl fun hw => ?_
 refine ql rfl (mT (mR (mT mH))) HKb.out hw ?_
 refine wpG_nil <| qn rfl (new_blk _) fun g14 HGg14 he22 => ?_
 change lexH _ _ _ _ _ _ ((g14, oc (blkA noBlkM) 33) :: ((g6, oc (tipA u6) 37) :: (N6 ++ ((w.heap.size + 1 + 1, oc (hdA h) 29) :: ((w.heap.size + 1, oc (blkA b) 33) :: ((w.heap.size, oc (tipA t) 37) :: []))))))
 refine (sh rfl HGg14 (infoBlk _ (blkA_size HKb.out)) (blk_sizes HKb.out) (blkA_one _) ?_)
 refine fun _ => enL fun u25 EX24 => ?_
 go_upto_region 8 with (fail)
 refine rgQ [0] [] EX24 rfl fun hw => ?_
 refine qo rfl hw ?_
 refine enP fun u28 EX27 => ?_
 go_upto_block 0 with (fail)
 go_cut [] (fun wx => Hid (∃ x : Hd, okHd x ∧ x.nonce = b.h.nonce ∧ EnvX w wx ((g14, oc (blkA ({ b with h := x } : BlkM)) 33) :: ((g6, oc (tipA u6) 37) :: (N6 ++ ((w.heap.size + 1 + 1, oc (hdA h) 29) :: ((w.heap.size + 1, oc (blkA b) 33) :: ((w.heap.size, oc (tipA t) 37) :: []))))))))
 case first =>
  by_cases p0 : part = 0
  case pos =>
   have C10 : Hid (decide (part = 0) = true) := decide_eq_true p0
   clear p0
   go_upto_region 10 with (fail)
   refine rgQ [0,1] [] EX27 rfl fun hw => ?_
   refine qv rfl (fun u hu => eqlI_op u C10.out rfl rfl) hw ?_
   refine qo rfl hw ?_
   refine enP fun u31 EX30 => ?_
   go_upto_region 11 with (fail)
   refine rgQ [0,1,2,3] [4] EX30 rfl fun hw => ?_
   refine qf rfl hw ?_
   refine qv rfl (fun u hu => load_any_op u (loads_hd HOh.out.len (box_list hu (mT (mT (mR mH))))).2.1 rfl) hw ?_
   refine qw 2 hw ?_
   refine wpG_nil <| (hOp_putAt rfl (g14) (0) (.int .i64 h.height) rfl rfl HGg14.out.1 33 ((blkA b)) (blkA ({ b with h := { b.h with height := h.height } } : BlkM)) mH infoIntk (by rw [blkA_size HKb.out]; show 0 + 1 ≤ 137; decide) (by simp [Value.cells]; rfl) (putB_height HKb.out _) ((g14, oc (blkA ({ b with h := { b.h with height := h.height } } : BlkM)) 33) :: ((g6, oc (tipA u6) 37) :: (N6 ++ ((w.heap.size + 1 + 1, oc (hdA h) 29) :: ((w.heap.size + 1, oc (blkA b) 33) :: ((w.heap.size, oc (tipA t) 37) :: [])))))) (mA ⟨.inl rfl, fun y hy => .inr ⟨mT hy, HGg14.out.2 y hy⟩⟩) ?_)
   refine fun _ => enL fun u35 EX34 => ?_
   go_wp2_with fail
   go_meet
   exact ⟨{ b.h with height := h.height }, ⟨HOh.out.1, HOb.out.2⟩, rfl, EX34.out⟩
  have C10 : Hid (decide (part = 0) = false) := decide_eq_false p0
  clear p0
  go_upto_region 10 with (fail)
  refine rgQ [0,1] [] EX27 rfl fun hw => ?_
  refine qv rfl (fun u hu => eqlI_op u C10.out rfl rfl) hw ?_
  refine qo rfl hw ?_
  refine enP fun u31 EX30 => ?_
  by_cases p1 : part = 1
  case pos =>
   have C12 : Hid (decide (part = 1) = true) := decide_eq_true p1
   clear p1
   go_upto_region 12 with (fail)
   refine rgQ [0,1] [] EX30 rfl fun hw => ?_
   refine qv rfl (fun u hu => eqlI_op u C12.out rfl rfl) hw ?_
   refine qo rfl hw ?_
   refine enP fun u34 EX33 => ?_
   go_upto_region 13 with (fail)
   refine rgQ [0,1,2,3] [4] EX33 rfl fun hw => ?_
   refine qf rfl hw ?_
   refine qv rfl (fun u hu => load_any_op u (loads_hd HOh.out.len (box_list hu (mT (mT (mR mH))))).2.2.1 rfl) hw ?_
   refine qw 2 hw ?_
   refine wpG_nil <| (hOp_putAt rfl (g14) (1) (idv h.prev) rfl rfl HGg14.out.1 33 ((blkA b)) (blkA ({ b with h := { b.h with prev := h.prev } } : BlkM)) mH (infoIdk _ HOh.out.len.1) (by rw [blkA_size HKb.out, show (idv h.prev).cells.size = 32 from arrB_size _ _ (by rw [HOh.out.len.1]; omega)]; decide) (arrB_one 32 _) (putB_prev HKb.out _ HOh.out.len.1) ((g14, oc (blkA ({ b with h := { b.h with prev := h.prev } } : BlkM)) 33) :: ((g6, oc (tipA u6) 37) :: (N6 ++ ((w.heap.size + 1 + 1, oc (hdA h) 29) :: ((w.heap.size + 1, oc (blkA b) 33) :: ((w.heap.size, oc (tipA t) 37) :: [])))))) (mA ⟨.inl rfl, fun y hy => .inr ⟨mT hy, HGg14.out.2 y hy⟩⟩) ?_)
   refine fun _ => enL fun u38 EX37 => ?_
   go_wp2_with fail
   go_meet
   exact ⟨{ b.h with prev := h.prev }, ⟨HOb.out.1, HOh.out.2.1, HOb.out.2.2⟩, rfl, EX37.out⟩
  have C12 : Hid (decide (part = 1) = false) := decide_eq_false p1
  clear p1
  go_upto_region 12 with (fail)
  refine rgQ [0,1] [] EX30 rfl fun hw => ?_
  refine qv rfl (fun u hu => eqlI_op u C12.out rfl rfl) hw ?_
  refine qo rfl hw ?_
  refine enP fun u34 EX33 => ?_
  by_cases p2 : part = 2
  case pos =>
   have C14 : Hid (decide (part = 2) = true) := decide_eq_true p2
   clear p2
   go_upto_region 14 with (fail)
   refine rgQ [0,1] [] EX33 rfl fun hw => ?_
   refine qv rfl (fun u hu => eqlI_op u C14.out rfl rfl) hw ?_
   refine qo rfl hw ?_
   refine enP fun u37 EX36 => ?_
   go_upto_region 15 with (fail)
   refine rgQ [0,1,2,3] [4] EX36 rfl fun hw => ?_
   refine qf rfl hw ?_
   refine qv rfl (fun u hu => load_any_op u (loads_hd HOh.out.len (box_list hu (mT (mT (mR mH))))).2.2.2.1 rfl) hw ?_
   refine qw 2 hw ?_
   refine wpG_nil <| (hOp_putAt rfl (g14) (33) (idv h.links) rfl rfl HGg14.out.1 33 ((blkA b)) (blkA ({ b with h := { b.h with links := h.links } } : BlkM)) mH (infoIdk _ HOh.out.len.2.1) (by rw [blkA_size HKb.out, show (idv h.links).cells.size = 32 from arrB_size _ _ (by rw [HOh.out.len.2.1]; omega)]; decide) (arrB_one 32 _) (putB_links HKb.out _ HOh.out.len.2.1) ((g14, oc (blkA ({ b with h := { b.h with links := h.links } } : BlkM)) 33) :: ((g6, oc (tipA u6) 37) :: (N6 ++ ((w.heap.size + 1 + 1, oc (hdA h) 29) :: ((w.heap.size + 1, oc (blkA b) 33) :: ((w.heap.size, oc (tipA t) 37) :: [])))))) (mA ⟨.inl rfl, fun y hy => .inr ⟨mT hy, HGg14.out.2 y hy⟩⟩) ?_)
   refine fun _ => enL fun u41 EX40 => ?_
   go_wp2_with fail
   go_meet
   exact ⟨{ b.h with links := h.links }, ⟨HOb.out.1, HOb.out.2.1, HOh.out.2.2.1, HOb.out.2.2.2⟩, rfl, EX40.out⟩
  have C14 : Hid (decide (part = 2) = false) := decide_eq_false p2
  clear p2
  go_upto_region 14 with (fail)
  refine rgQ [0,1] [] EX33 rfl fun hw => ?_
  refine qv rfl (fun u hu => eqlI_op u C14.out rfl rfl) hw ?_
  refine qo rfl hw ?_
  refine enP fun u37 EX36 => ?_
  by_cases p3 : part = 3
  case pos =>
   have C16 : Hid (decide (part = 3) = true) := decide_eq_true p3
   clear p3
   go_upto_region 16 with (fail)
   refine rgQ [0,1] [] EX36 rfl fun hw => ?_
   refine qv rfl (fun u hu => eqlI_op u C16.out rfl rfl) hw ?_
   refine qo rfl hw ?_
   refine enP fun u40 EX39 => ?_
   go_upto_region 17 with (fail)
   refine rgQ [0,1,2,3] [4] EX39 rfl fun hw => ?_
   refine qf rfl hw ?_
   refine qv rfl (fun u hu => load_any_op u (loads_hd HOh.out.len (box_list hu (mT (mT (mR mH))))).2.2.2.2.1 rfl) hw ?_
   refine qw 2 hw ?_
   refine wpG_nil <| (hOp_putAt rfl (g14) (65) (idv h.txs) rfl rfl HGg14.out.1 33 ((blkA b)) (blkA ({ b with h := { b.h with txs := h.txs } } : BlkM)) mH (infoIdk _ HOh.out.len.2.2.1) (by rw [blkA_size HKb.out, show (idv h.txs).cells.size = 32 from arrB_size _ _ (by rw [HOh.out.len.2.2.1]; omega)]; decide) (arrB_one 32 _) (putB_txs HKb.out _ HOh.out.len.2.2.1) ((g14, oc (blkA ({ b with h := { b.h with txs := h.txs } } : BlkM)) 33) :: ((g6, oc (tipA u6) 37) :: (N6 ++ ((w.heap.size + 1 + 1, oc (hdA h) 29) :: ((w.heap.size + 1, oc (blkA b) 33) :: ((w.heap.size, oc (tipA t) 37) :: [])))))) (mA ⟨.inl rfl, fun y hy => .inr ⟨mT hy, HGg14.out.2 y hy⟩⟩) ?_)
   refine fun _ => enL fun u44 EX43 => ?_
   go_wp2_with fail
   go_meet
   exact ⟨{ b.h with txs := h.txs }, ⟨HOb.out.1, HOb.out.2.1, HOb.out.2.2.1, HOh.out.2.2.2.1, HOb.out.2.2.2.2⟩, rfl, EX43.out⟩
  have C16 : Hid (decide (part = 3) = false) := decide_eq_false p3
  clear p3
  go_upto_region 16 with (fail)
  refine rgQ [0,1] [] EX36 rfl fun hw => ?_
  refine qv rfl (fun u hu => eqlI_op u C16.out rfl rfl) hw ?_
  refine qo rfl hw ?_
  refine enP fun u40 EX39 => ?_
  by_cases p4 : part = 4
  case pos =>
   have C18 : Hid (decide (part = 4) = true) := decide_eq_true p4
   clear p4
   go_upto_region 18 with (fail)
   refine rgQ [0,1] [] EX39 rfl fun hw => ?_
   refine qv rfl (fun u hu => eqlI_op u C18.out rfl rfl) hw ?_
   refine qo rfl hw ?_
   refine enP fun u43 EX42 => ?_
   go_upto_region 19 with (fail)
   refine rgQ [0,1,2,3] [4] EX42 rfl fun hw => ?_
   refine qf rfl hw ?_
   refine qv rfl (fun u hu => load_any_op u (loads_hd HOh.out.len (box_list hu (mT (mT (mR mH))))).2.2.2.2.2.1 rfl) hw ?_
   refine qw 2 hw ?_
   refine wpG_nil <| (hOp_putAt rfl (g14) (97) (idv h.past) rfl rfl HGg14.out.1 33 ((blkA b)) (blkA ({ b with h := { b.h with past := h.past } } : BlkM)) mH (infoIdk _ HOh.out.len.2.2.2) (by rw [blkA_size HKb.out, show (idv h.past).cells.size = 32 from arrB_size _ _ (by rw [HOh.out.len.2.2.2]; omega)]; decide) (arrB_one 32 _) (putB_past HKb.out _ HOh.out.len.2.2.2) ((g14, oc (blkA ({ b with h := { b.h with past := h.past } } : BlkM)) 33) :: ((g6, oc (tipA u6) 37) :: (N6 ++ ((w.heap.size + 1 + 1, oc (hdA h) 29) :: ((w.heap.size + 1, oc (blkA b) 33) :: ((w.heap.size, oc (tipA t) 37) :: [])))))) (mA ⟨.inl rfl, fun y hy => .inr ⟨mT hy, HGg14.out.2 y hy⟩⟩) ?_)
   refine fun _ => enL fun u47 EX46 => ?_
   go_wp2_with fail
   go_meet
   exact ⟨{ b.h with past := h.past }, ⟨HOb.out.1, HOb.out.2.1, HOb.out.2.2.1, HOb.out.2.2.2.1, HOh.out.2.2.2.2.1, HOb.out.2.2.2.2.2⟩, rfl, EX46.out⟩
  have C18 : Hid (decide (part = 4) = false) := decide_eq_false p4
  clear p4
  go_upto_region 18 with (fail)
  refine rgQ [0,1] [] EX39 rfl fun hw => ?_
  refine qv rfl (fun u hu => eqlI_op u C18.out rfl rfl) hw ?_
  refine qo rfl hw ?_
  refine enP fun u43 EX42 => ?_
  by_cases p5 : part = 5
  case pos =>
   have C20 : Hid (decide (part = 5) = true) := decide_eq_true p5
   clear p5
   go_upto_region 20 with (fail)
   refine rgQ [0,1] [] EX42 rfl fun hw => ?_
   refine qv rfl (fun u hu => eqlI_op u C20.out rfl rfl) hw ?_
   refine qo rfl hw ?_
   refine enP fun u46 EX45 => ?_
   go_upto_region 21 with (fail)
   refine rgQ [0,1,2,3] [4] EX45 rfl fun hw => ?_
   refine qf rfl hw ?_
   refine qv rfl (fun u hu => load_any_op u (loads_hd HOh.out.len (box_list hu (mT (mT (mR mH))))).2.2.2.2.2.2.1 rfl) hw ?_
   refine qw 2 hw ?_
   refine wpG_nil <| (hOp_putAt rfl (g14) (129) (.agg (wcs h.work)) rfl rfl HGg14.out.1 33 ((blkA b)) (blkA ({ b with h := { b.h with work := h.work } } : BlkM)) mH (infoWdk _) (by rw [blkA_size HKb.out, show (Value.agg (wcs h.work)).cells.size = 4 from wc_size _]; decide) (wc_one _) (putB_work HKb.out _) ((g14, oc (blkA ({ b with h := { b.h with work := h.work } } : BlkM)) 33) :: ((g6, oc (tipA u6) 37) :: (N6 ++ ((w.heap.size + 1 + 1, oc (hdA h) 29) :: ((w.heap.size + 1, oc (blkA b) 33) :: ((w.heap.size, oc (tipA t) 37) :: [])))))) (mA ⟨.inl rfl, fun y hy => .inr ⟨mT hy, HGg14.out.2 y hy⟩⟩) ?_)
   refine fun _ => enL fun u50 EX49 => ?_
   go_wp2_with fail
   go_meet
   exact ⟨{ b.h with work := h.work }, ⟨HOb.out.1, HOb.out.2.1, HOb.out.2.2.1, HOb.out.2.2.2.1, HOb.out.2.2.2.2.1, HOh.out.2.2.2.2.2.1, HOb.out.2.2.2.2.2.2⟩, rfl, EX49.out⟩
  have C20 : Hid (decide (part = 5) = false) := decide_eq_false p5
  clear p5
  go_upto_region 20 with (fail)
  refine rgQ [0,1] [] EX42 rfl fun hw => ?_
  refine qv rfl (fun u hu => eqlI_op u C20.out rfl rfl) hw ?_
  refine qo rfl hw ?_
  refine enP fun u46 EX45 => ?_
  go_upto_region 9 with (fail)
  refine rgQ [0,1,2,3] [4] EX45 rfl fun hw => ?_
  refine qf rfl hw ?_
  refine qv rfl (fun u hu => load_any_op u (loads_hd HOh.out.len (box_list hu (mT (mT (mR mH))))).2.2.2.2.2.2.2.1 rfl) hw ?_
  refine qw 2 hw ?_
  refine wpG_nil <| (hOp_putAt rfl (g14) (133) (.int .u32 (h.bits : Int)) rfl rfl HGg14.out.1 33 ((blkA b)) (blkA ({ b with h := { b.h with bits := h.bits } } : BlkM)) mH infoU32k (by rw [blkA_size HKb.out]; show 133 + 1 ≤ 137; decide) (by simp [Value.cells]; rfl) (putB_bits HKb.out _) ((g14, oc (blkA ({ b with h := { b.h with bits := h.bits } } : BlkM)) 33) :: ((g6, oc (tipA u6) 37) :: (N6 ++ ((w.heap.size + 1 + 1, oc (hdA h) 29) :: ((w.heap.size + 1, oc (blkA b) 33) :: ((w.heap.size, oc (tipA t) 37) :: [])))))) (mA ⟨.inl rfl, fun y hy => .inr ⟨mT hy, HGg14.out.2 y hy⟩⟩) ?_)
  refine fun _ => enL fun u50 EX49 => ?_
  go_wp2_with fail
  go_meet
  exact ⟨{ b.h with bits := h.bits }, ⟨HOb.out.1, HOb.out.2.1, HOb.out.2.2.1, HOb.out.2.2.2.1, HOb.out.2.2.2.2.1, HOb.out.2.2.2.2.2.1, HOh.out.2.2.2.2.2.2.1, HOb.out.2.2.2.2.2.2.2⟩, rfl, EX49.out⟩
 case rest =>
  obtain ⟨x, hox, hxn, he⟩ := hcut.out
  have E9 := hD he
  have HOx := hD hox
  have HXN := hD hxn
  clear hcut he hox hxn EX27 EX24
  generalize wc = wcs' at *
  obtain ⟨b1, hb1⟩ : ∃ b1 : BlkM, ({ b with h := x } : BlkM) = b1 := ⟨_, rfl⟩
  have HB1 : Hid (∀ u, BlkOk u b → BlkOk u b1) := fun u k => by rw [← hb1]; exact hd_blk k HOx.out
  have HKb1 : Hid (lenH b1.h) := by rw [← hb1]; exact HOx.out.len
  have HMB : Hid (midBlk b1) := by rw [← hb1]; exact HM2.out.1
  have HXB : Hid (b1.h = x) := by show _ = _; rw [← hb1]
  obtain ⟨r2, e2, hp2⟩ : ∃ r2 e2, pushK t.r b1.r = (r2, e2) := ⟨_, _, rfl⟩
  have HP2 := hD hp2
  have HNE : Hid (e1 = 0 → x ≠ b.h → e2 ≠ 0) := fun h0 hne h2 => by
   subst h0
   have h3 : (pushK t.r { b.r with h := x }).2 = 0 := by
    have e : ({ b.r with h := x } : BlkR) = b1.r := by rw [← hb1]; rfl
    rw [e, HP2.out]
    exact h2
   exact hne (push_same HP1.out (show x.nonce = b.r.h.nonce from HXN.out) h3)
  rw [hb1] at E9
  clear hb1 hp2
  go_upto_region 22 with (fail)
  refine rgQ [0,1] [2,3,4,5,6,7,8] E9 rfl fun hw => ?_
  refine ql rfl (mT (mT (mR (mT (mT mH))))) HKt.out hw ?_
  refine ql rfl mH HKb1.out hw ?_
  refine wpG_nil <| (hOp_turn (gd := none) (R := fun x M' => ∃ tq N, x = .tuple #[.agg (tipA tq), .int .i64 ((e2 : Nat) : Int)] ∧ M' = N ++ ((g14, oc (blkA b1) 33) :: ((g6, oc (tipA u6) 37) :: (N6 ++ ((w.heap.size + 1 + 1, oc (hdA h) 29) :: ((w.heap.size + 1, oc (blkA b) 33) :: ((w.heap.size, oc (tipA t) 37) :: [])))))) ∧ KeptB w N (IsTip (r2) tq) ∧ ∃ vq, IsTip (r2) tq vq) rfl rfl rfl rfl (fun u hu => OUpon_call (fid := 17) (xs := #[.tmp 82, .tmp 83]) (args := #[tipV t, blkV b1]) rfl func17 rfl rfl u (tip_turn (by have h := HH.out.push t b1 u (KT.out.up (EnvX.bel hu)) HM1.out.1 (HB1.out u (KB.out.up (EnvX.bel hu))) HMB.out (HT.out.below (EnvX.bel hu)); rw [HP2.out] at h; simp only at h; exact h) hu)) ?_)
  rintro _ _ ⟨u22, N22, rfl, rfl, hk22, hv22⟩ he302; intro K' hK'; go_big_quiet_op; go_big_quiet_on
  have HT22 := hD hk22
  have HV22 := hD hv22
  have HK22 : Hid (lenH u22.b.h) := by obtain ⟨v, hv⟩ := HV22.out; exact hv.2.b.h.len
  clear hk22 hv22
  refine phE [3,4,5] [6,7,8] he302 fun hw => ?_
  refine qw 3 hw ?_
  refine wpG_nil <| qn rfl (new_tip _) fun g22 HGg22 he304 => ?_
  change lexH _ _ _ _ _ _ ((g22, oc (tipA noTipM) 37) :: (N22 ++ ((g14, oc (blkA b1) 33) :: ((g6, oc (tipA u6) 37) :: (N6 ++ ((w.heap.size + 1 + 1, oc (hdA h) 29) :: ((w.heap.size + 1, oc (blkA b) 33) :: ((w.heap.size, oc (tipA t) 37) :: []))))))))
  refine (sh rfl HGg22 (infoTip _ (tipA_size HK22.out)) (tip_sizes HK22.out) (tipA_one _) ?_)
  intro he305
  refine phE [8] [] he305 fun hw => ?_
  refine qo rfl hw ?_
  refine enP fun u308 EX307 => ?_
  by_cases p1 : e1 = 0
  case neg =>
   have C1 : Hid (decide (((e1 : Nat) : Int) ≠ 0) = true) := decide_eq_true (by omega)
   clear p1
   go_upto_region 23 with (fail)
   refine rgQ [0,1,2,3,4,5,6,7,8,9,10,11,12,13] [] EX307 rfl fun hw => ?_
   refine qo rfl hw ?_
   refine qv rfl (fun u hu => neErr_op u C1.out rfl rfl) hw ?_
   refine qw 12 hw ?_
   refine enP fun u311 EX310 => ?_
   have HBE := hD (EnvX.bel EX310.out)
   go_wp2
   go_ret
   exact ⟨rfl, HBE.out⟩
  have C1 : Hid (decide (((e1 : Nat) : Int) ≠ 0) = false) := decide_eq_false (by omega)
  have HE1 := hD p1
  have HO1 : Hid (okHd b1.h) := by rw [HXB.out]; exact HOx.out
  clear p1
  by_cases p2 : x = b.h
  case pos =>
   have CQ : Hid (eqH b1.h b.h = true) := by show _ = _; rw [HXB.out, p2]; unfold eqH; simp
   clear p2
   go_upto_region 23 with (fail)
   refine rgQ [0,1,2,3,4,5,6,7,8,9,10,11,12,13] [] EX307 rfl fun hw => ?_
   refine qo rfl hw ?_
   refine qv rfl (fun u hu => neErr_op u C1.out rfl rfl) hw ?_
   refine qw 2 hw ?_
   refine qv rfl (fun u hu => load_any_op u (loads_hd HKb1.out (box_blk_hd hu (mT (mR mH)) HKb1.out)).1 rfl) hw ?_
   refine qf rfl hw ?_
   refine qv rfl (fun u hu => load_any_op u (loads_hd HKb.out (box_blk_hd hu (mT (mR (mT (mT (mR (mT mH)))))) HKb.out)).1 rfl) hw ?_
   refine qv rfl (fun u hu => eqlHd_op HO1.out HOb.out CQ.out u rfl rfl) hw ?_
   refine qw 6 hw ?_
   refine enP fun u311 EX310 => ?_
   have HBE := hD (EnvX.bel EX310.out)
   go_wp2
   go_ret
   exact ⟨rfl, HBE.out⟩
  have CQ : Hid (eqH b1.h b.h = false) := by show _ = _; rw [HXB.out]; unfold eqH; simp [p2]
  have C2 : Hid (decide (((e2 : Nat) : Int) ≠ 0) = true) := decide_eq_true (by have := HNE.out HE1.out p2; omega)
  clear p2
  go_upto_region 23 with (fail)
  refine rgQ [0,1,2,3,4,5,6,7,8,9,10,11,12,13] [] EX307 rfl fun hw => ?_
  refine qo rfl hw ?_
  refine qv rfl (fun u hu => neErr_op u C1.out rfl rfl) hw ?_
  refine qw 2 hw ?_
  refine qv rfl (fun u hu => load_any_op u (loads_hd HKb1.out (box_blk_hd hu (mT (mR mH)) HKb1.out)).1 rfl) hw ?_
  refine qf rfl hw ?_
  refine qv rfl (fun u hu => load_any_op u (loads_hd HKb.out (box_blk_hd hu (mT (mR (mT (mT (mR (mT mH)))))) HKb.out)).1 rfl) hw ?_
  refine qv rfl (fun u hu => eqlHd_op HO1.out HOb.out CQ.out u rfl rfl) hw ?_
  refine qw 3 hw ?_
  refine qv rfl (fun u hu => neErr_op u C2.out rfl rfl) hw ?_
  refine qw 2 hw ?_
  refine enP fun u311 EX310 => ?_
  have HBE := hD (EnvX.bel EX310.out)
  go_wp2
  go_ret
  exact ⟨rfl, HBE.out⟩
theorem law_bother (H : BlockC) (G : AwkC) (t : TipM) (b : BlkM) (h : Hd) (part : Int) (w : World) (kt : TipOk w t) (kb : BlkOk w b) (hh : okHd h) (ht : Tables w) :
  Rz 6 #[tipV t, blkV b, hdV h, .int .i64 part] w (.bool true) := by
 unfold Rz
 cases k1 : fewP t with
 | false => exact law_bother_fewt H G t b h part w kt kb hh ht k1 rfl
 | true =>
  cases k2 : fewK b with
  | false => exact law_bother_fewb H G t b h part w kt kb hh ht k1 k2
  | true => exact law_bother_main H G t b h part w kt kb hh ht k1 k2 (r1 := (pushK t.r b.r).1) (e1 := (pushK t.r b.r).2) rfl
end Go.Proofs.YtpanpohdnbgdpaaGreatDoor
namespace Go.Proofs.YtpanpohdnbgdpaaGreatDoor.blockOther
set_option maxRecDepth 8000
open Go.ChangeShapes Go.WideShapes Go.ChangeAt Go.RowKit
theorem contract (H : Type) (enc : TypeId × Value → H) (W : World) (base : Nat) (args : Array Value) (ds gs : List (DataW H)) (before : List MemPlace)
  (hval : ∀ (j : Nat) t v, Tryz.f6.params[j]? = some t → args[j]? = some v → Value.okWide Tryz.prog W .any base t v)
  (hW : DataW.Whole enc Tryz.prog Tryz.f6.params.toList Rows.blockOtherSpec.vars false W args.toList ds gs before) (hL : laidMetH Tryz.prog Rows.blockOtherRow.laid W) :
  Calls Tryz.prog 6 args W fun e W' => ∃ v, e = .returned v ∧ Rows.blockOtherSpec.post enc Tryz.prog Tryz.f6 false true false false W args v W' := by
 have hW' := hW
 obtain ⟨p, q, hA0, hV, rfl, hfz, hnd⟩ := hW
 have hA : DataW.TrodAll enc Tryz.prog W 0 (fun _ => true) true Tryz.f6.params.toList args.toList ds p := hA0
 rw [Tryz.params6] at hA hval
 obtain ⟨v0, vs0, d0, ds0, p0, q0, hargs, rfl, rfl, h0, r0⟩ := trodAll_cons hA
 obtain ⟨v1, vs1, d1, ds1, p1, q1, rfl, rfl, rfl, h1, r1⟩ := trodAll_cons r0
 obtain ⟨v2, vs2, d2, ds2, p2, q2, rfl, rfl, rfl, h2, r2⟩ := trodAll_cons r1
 obtain ⟨v3, vs3, d3, ds3, p3, q3, rfl, rfl, rfl, h3, r3⟩ := trodAll_cons r2
 obtain ⟨rfl, rfl, rfl⟩ := trodAll_nil r3
 obtain rfl : args = #[v0, v1, v2, v3] := by cases args; simp_all
 obtain ⟨rfl, rfl⟩ := trodVars_none hV
 have lt0 : ∀ x ∈ p0, x.block < W.heap.size := by obtain ⟨m, hm⟩ := h0; exact DataW.trod_lt m _ _ _ hm
 obtain ⟨x0, rfl, kx0⟩ := open_tip (hval 0 37 v0 rfl rfl) h0
 have lt1 : ∀ x ∈ p1, x.block < W.heap.size := by obtain ⟨m, hm⟩ := h1; exact DataW.trod_lt m _ _ _ hm
 obtain ⟨x1, rfl, kx1⟩ := open_blk (hval 1 33 v1 rfl rfl) h1
 have lt2 : ∀ x ∈ p2, x.block < W.heap.size := by obtain ⟨m, hm⟩ := h2; exact DataW.trod_lt m _ _ _ hm
 obtain ⟨x2, rfl, kx2⟩ := open_head (hval 2 29 v2 rfl rfl) h2
 obtain ⟨x3, rfl, rfl, rfl, wx3⟩ := open_int underlying3 (hval 3 3 v3 rfl rfl) h3
 clear hA0
 refine (law_bother blockC awkC x0 x1 x2 x3 W kx0 kx1 kx2 (tables_of_laid hL)).mono fun e W' ⟨he, bel⟩ => ?_
 subst he
 exact ⟨_, rfl, _, _, _, [], _, [], hW', trodAll_mk1 (shut_bool underlying4 _), (trodAll_cons_mk (Below.trod laidOut (by kernel_rfl) (of_decide_eq_true (by kernel_rfl)) h0 bel lt0) (trodAll_cons_mk (Below.trod laidOut (by kernel_rfl) (of_decide_eq_true (by kernel_rfl)) h1 bel lt1) (trodAll_cons_mk (Below.trod laidOut (by kernel_rfl) (of_decide_eq_true (by kernel_rfl)) h2 bel lt2) (trodAll_cons_mk (shut_int underlying3 wx3) trodAll_mk0)))), rfl, bel.frame _, fun h => by cases h⟩
def start : Array Value := #[zeroP, zeroB, zeroH, .int .i64 0]
theorem reads (os : Os) {H : Type} (enc : TypeId × Value → H) : ∃ places, DataW.whole enc Tryz.prog ((laidWorld os).forCall (fun _ _ => 0) ⟨#[], start, []⟩).memory Tryz.f6.params.toList Rows.blockOtherSpec.vars false start.toList 8 = some ([zeroPD, zeroBD, zeroHD, .lit (.int .i64 0)], [], places) :=
 ⟨[], by kernel_rfl⟩
theorem lifted (os : Os) (started : os.Started) (H : Type) (enc : TypeId × Value → H) (F : Stop.Interp) :
  ReturnsInHanded {} Tryz.checked os 6 .any ((OpenSpec.ofChange Rows.blockOtherSpec).preRow enc Tryz.prog Tryz.f6 Rows.blockOtherRow.domain false Rows.blockOtherRow.laid) (((OpenSpec.ofChange Rows.blockOtherSpec).at F).post enc Tryz.prog Tryz.f6 false true false false) := by
 obtain ⟨places, hx⟩ := reads os enc
 refine returnsInHanded_of_row (C := Tryz.checked) (s := OpenSpec.ofChange Rows.blockOtherSpec) own started (by kernel_rfl) func6
  (witness_row_at (enc := enc) (C := Tryz.checked) false (laidWorld os) start rfl (by kernel_rfl) (by kernel_rfl) (by kernel_rfl)
   (OpenSpec.preRow_of_cond 8 hx (by kernel_rfl) (fun k hk => by cases hk) (by kernel_rfl) (laidMet_of_run' 8 (by kernel_rfl) (by kernel_rfl)))) ?_
 intro W base args ds gs before hval hW _ _ _ hL _ _
 exact contract H enc W base args ds gs before hval hW hL
theorem said : Rows.BlockOtherSaid :=
 OpenClaim.holds_of_cond 6 Tryz.f6 rfl rfl rfl rfl rfl rfl rfl ⟨rfl, rfl, rfl, rfl, rfl⟩ rfl rfl rfl rfl rfl (by kernel_rfl) func6 (by kernel_rfl)
  (of_decide_eq_true (by kernel_rfl)) (by unfold Func.isWrapper; first | (rw [if_pos (by decide +kernel)]; kernel_rfl) | (rw [if_neg (by decide +kernel)]; exact ⟨rfl, rfl⟩))
  (fun os started H enc _ F => by rw [OpenClaim.pre_eq_preRow]; exact lifted os started H enc F)
theorem plain (f : FuncId) (fn : Func) (hf : Tryz.pinned.checked.prog.funcNamed "stepladder/stepladderlaw11.BlockOther" = some f) (hfn : Tryz.pinned.checked.prog.funcs[f]? = some fn) :
   false = Tryz.pinned.checked.prog.looks [] ∧ ∀ (j : Nat) t, fn.params[j]? = some t → Tryz.pinned.checked.prog.wantsStandIn t = false := by
 obtain rfl : f = 6 := Option.some.inj ((show Tryz.prog.funcNamed "stepladder/stepladderlaw11.BlockOther" = some 6 by kernel_rfl).symm.trans hf) |>.symm
 obtain rfl : fn = Tryz.f6 := (Option.some.inj (func6.symm.trans hfn)).symm
 refine ⟨by kernel_rfl, fun j t ht => ?_⟩
 rw [Tryz.params6] at ht
 have hm : t = 37 ∨ t = 33 ∨ t = 29 ∨ t = 3 := by simpa using Array.mem_of_getElem? ht
 rcases hm with rfl | rfl | rfl | rfl
 · exact (show Tryz.prog.wantsStandIn 37 = false by kernel_rfl)
 · exact (show Tryz.prog.wantsStandIn 33 = false by kernel_rfl)
 · exact (show Tryz.prog.wantsStandIn 29 = false by kernel_rfl)
 · exact (show Tryz.prog.wantsStandIn 3 = false by kernel_rfl)
theorem card : Rows.BlockOtherCardSaid :=
 Claim7.holds_tied_plain_at .later [] _ _ _ _ said (fun _ h => by cases h) (by kernel_rfl) (fun _ h => by cases h) blockOther_row_tie rfl ⟨rfl, rfl⟩ (by kernel_rfl) rfl plain (by kernel_rfl)
end Go.Proofs.YtpanpohdnbgdpaaGreatDoor.blockOther
