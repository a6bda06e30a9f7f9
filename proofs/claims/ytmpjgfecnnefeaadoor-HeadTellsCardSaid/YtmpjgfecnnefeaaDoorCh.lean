/- Part of a proof. -/
import Derived.Test.YtmpjgfecnnefeaaDoorCg
import Derived.Deep.Strs
import Derived.Deep.QuietTactic
import Derived.StillTailTactics
import Derived.Lib.AppendZeros
namespace Go.Proofs.YtmpjgfecnnefeaaDoor
set_option maxRecDepth 8000
open Go.RowKit

/-- the contracts of package head -/
structure HeadC : Prop where
  put : ∀ (h : Hd) (w : World), okHd h → Tables w →
    Calls Tryd.prog 10 #[hdV h] w fun e w' => (∃ v, e = .returned (.tuple #[v, .bool (putH h).2]) ∧ OwnB w' w.heap.size v (putH h).1) ∧ Below w.heap.size w w'
  read : ∀ (A : Option Addr) (n c : Nat) (xs : List Int) (w : World), xs.length = n → n ≤ 1000000 → n ≤ c → c ≤ maxLen → isB xs → Bytes w w.heap.size A xs → Tables w →
    Calls Tryd.prog 12 #[.slice A n c] w fun e w' => e = .returned (.tuple #[hdV (readH xs).1, .bool (readH xs).2]) ∧ Below w.heap.size w w'
  id : ∀ (h : Hd) (w : World), okHd h → Tables w → Calls Tryd.prog 17 #[hdV h] w fun e w' => e = .returned (idv (idH h)) ∧ Below w.heap.size w w'
  level : ∀ (h : Hd) (w : World), okHd h → Tables w → Calls Tryd.prog 19 #[hdV h] w fun e w' => e = .returned (.int .i64 (levelH h)) ∧ Below w.heap.size w w'
  work : ∀ (h : Hd) (w : World), okHd h → Tables w → Calls Tryd.prog 21 #[hdV h] w fun e w' => e = .returned (.agg (wcs (workH h))) ∧ Below w.heap.size w w'
  may : ∀ (h : Hd) (w : World), okHd h → Tables w → Calls Tryd.prog 23 #[hdV h] w fun e w' => e = .returned (.bool (mayH h)) ∧ Below w.heap.size w w'
  mine : ∀ (h : Hd) (tries : Int) (w : World), okHd h → I64 tries → Tables w → Calls Tryd.prog 14 #[hdV h, .int .i64 tries] w fun e w' => e = .returned (.tuple #[hdV (mineH h tries).1, .bool (mineH h tries).2]) ∧ Below w.heap.size w w'

/-- the head of the chapter's example -/
def hd0 : Hd := ⟨0, z32, z32, z32, z32, 0, 545259519, 7⟩
theorem hd0_ok : okHd hd0 := by
  have hz : isId z32 := ⟨rfl, fun y hy => by rw [List.eq_of_mem_replicate hy]; decide⟩
  exact ⟨⟨by decide, by decide⟩, hz, hz, hz, hz, by decide, by decide, by decide⟩
theorem hd0_put : mayPut hd0 = true := by decide +kernel
theorem hd0_level : levelH hd0 = 31 := by decide +kernel
theorem hd0_work : workH hd0 = 2 := by decide +kernel
theorem hd0_last : (bodyH hd0).getD 175 0 = 7 := by decide +kernel
theorem hd0_id : (!eqL (idH hd0) z32) = true := by decide +kernel
theorem built_hd0 : Tryd.prog.built 29 [(6, .int .u32 545259519), (7, .int .u64 7)] = some (hdA hd0) := by kernel_rfl
end Go.Proofs.YtmpjgfecnnefeaaDoor

namespace Go.Proofs.YtmpjgfecnnefeaaDoor
set_option maxRecDepth 8000
open Go.ChangeShapes Go.WideShapes Go.ChangeAt Go.RowKit Go.Deep

theorem hcellsWide : Tryd.prog.cellsOf 26 = 4 := by kernel_rfl
theorem hcellsInt : Tryd.prog.cellsOf 3 = 1 := by kernel_rfl
theorem hcellsHd : Tryd.prog.cellsOf 29 = 135 := by kernel_rfl
theorem hcells32 : Tryd.prog.cellsOf 27 = 1 := by kernel_rfl
theorem hcells64 : Tryd.prog.cellsOf 24 = 1 := by kernel_rfl
section
variable {H : Type} {enc : TypeId × Value → H} {W : World} {base : Nat} {spare : Nat → Bool} {held : Bool} {fuel : Nat} {cs : List Value} {x : DataW H × List MemPlace}
theorem hwide_cells (h : DataW.trod enc Tryd.prog W base spare held fuel 26 cs = some x) : ∃ n : Nat, n < Big ∧ cs = (wcs n).toList := by
  obtain ⟨ys, m, _, _, hlen, hl, hall⟩ := DataW.trod_array Tryd.underlying26 h
  rw [hcellsWide] at hlen
  have hc : ∀ i, i < 4 → ∃ n : Int, cs[i]? = some (.int .u64 n) ∧ 0 ≤ n ∧ n < 18446744073709551616 := by
    intro i hi
    have h1 := hall i hi
    rw [List.getElem?_eq_getElem (by omega : i < ys.length)] at h1
    obtain ⟨n, e, _, wf⟩ := DataW.trod_int Tryd.underlying24 h1
    refine ⟨n, ?_, ?_⟩
    · rw [hcells64, Nat.mul_one] at e
      have hi' : i < cs.length := by omega
      simp only [List.drop_eq_getElem_cons hi', List.take_succ_cons, List.take_zero, List.cons.injEq, and_true] at e
      rw [List.getElem?_eq_getElem hi', e]
    · have := bounds_u64 wf
      omega
  obtain ⟨a, e0, a0, a1⟩ := hc 0 (by omega)
  obtain ⟨b, e1, b0, b1⟩ := hc 1 (by omega)
  obtain ⟨c, e2, c0, c1⟩ := hc 2 (by omega)
  obtain ⟨d, e3, d0, d1⟩ := hc 3 (by omega)
  have hcs : cs.toArray = arrW 4 [a, b, c, d] := by
    apply arrW_ext
    · simp
    · simpa using hlen
    · intro i hi
      rw [List.getElem?_toArray]
      rcases i with _ | _ | _ | _ | i
      · exact e0
      · exact e1
      · exact e2
      · exact e3
      · omega
  obtain ⟨n, hn, hw⟩ := wl_of [a, b, c, d] rfl (by
    intro k
    rcases k with _ | _ | _ | _ | k
    · exact ⟨a0, a1⟩
    · exact ⟨b0, b1⟩
    · exact ⟨c0, c1⟩
    · exact ⟨d0, d1⟩
    · simp)
  refine ⟨n, hn, ?_⟩
  have h2 : cs.toArray = wcs n := by rw [hcs, hw]; rfl
  rw [← h2]
theorem hd_cells (h : DataW.trod enc Tryd.prog W base spare held fuel 29 cs = some x) : ∃ t : Hd, okHd t ∧ cs = hdC t := by
  obtain ⟨xs, n, _, _, hl, hlen, hf⟩ := DataW.trod_struct Tryd.underlying29 h
  rw [hcellsHd] at hl
  obtain ⟨y0, y1, y2, y3, y4, y5, y6, y7, rfl⟩ : ∃ y0 y1 y2 y3 y4 y5 y6 y7, xs = [y0, y1, y2, y3, y4, y5, y6, y7] := by
    match xs, hlen with
    | [a, b, c, d, e, f, g, h], _ => exact ⟨a, b, c, d, e, f, g, h, rfl⟩
  obtain ⟨i0, e0, _, w0⟩ := DataW.trod_int Tryd.underlying3 (by simpa using hf 0 _ rfl)
  obtain ⟨p1, l1, b1, e1⟩ := id_cells (by simpa using hf 1 _ rfl)
  obtain ⟨p2, l2, b2, e2⟩ := id_cells (by simpa using hf 2 _ rfl)
  obtain ⟨p3, l3, b3, e3⟩ := id_cells (by simpa using hf 3 _ rfl)
  obtain ⟨p4, l4, b4, e4⟩ := id_cells (by simpa using hf 4 _ rfl)
  obtain ⟨n5, hn5, e5⟩ := hwide_cells (by simpa using hf 5 _ rfl)
  obtain ⟨i6, e6, _, w6⟩ := DataW.trod_int Tryd.underlying27 (by simpa using hf 6 _ rfl)
  obtain ⟨i7, e7, _, w7⟩ := DataW.trod_int Tryd.underlying24 (by simpa using hf 7 _ rfl)
  obtain ⟨n6, rfl⟩ : ∃ n : Nat, i6 = (n : Int) := Int.eq_ofNat_of_zero_le (bounds_u32 w6).1
  obtain ⟨n7, rfl⟩ : ∃ n : Nat, i7 = (n : Int) := Int.eq_ofNat_of_zero_le (bounds_u64 w7).1
  have hi : ∀ p : List Int, p.length = 32 → p.map u8v = (arrB 32 p).toList := fun p hp => (arrId_map hp).symm
  simp only [hcellsInt, hcells32, hcells64, hcellsWide, cellsOfId, hi p1 l1, hi p2 l2, hi p3 l3, hi p4 l4] at e0 e1 e2 e3 e4 e5 e6 e7
  refine ⟨⟨i0, p1, p2, p3, p4, n5, n6, n7⟩, ⟨bounds_i64 w0, ⟨l1, b1⟩, ⟨l2, b2⟩, ⟨l3, b3⟩, ⟨l4, b4⟩, hn5, by have := (bounds_u32 w6).2; show n6 < _; omega, by have := (bounds_u64 w7).2; show n7 < _; omega⟩, ?_⟩
  unfold hdC
  simp only
  rw [← e0, ← e1, ← e2, ← e3, ← e4, ← e5, ← e6, ← e7]
  have j : ∀ (o k : Nat) (r : List Value), cs.drop (o + k) = r → (cs.drop o).take k ++ r = cs.drop o := fun o k r hr => by rw [← hr, ← List.drop_drop, List.take_append_drop]
  have j7 : (cs.drop 134).take 1 = cs.drop 134 := List.take_of_length_le (by rw [List.length_drop]; omega)
  rw [j7, j 133 1 _ rfl, j 129 4 _ rfl, j 97 32 _ rfl, j 65 32 _ rfl, j 33 32 _ rfl, ← List.drop_one, j 1 32 _ rfl]
  exact (List.take_append_drop 1 cs).symm
end
section
variable {H : Type} {enc : TypeId × Value → H} {W : World} {base : Nat} {v : Value} {d : DataW H} {p : List MemPlace}
theorem open_head (hok : Value.okWide Tryd.prog W .any base 29 v) (h : DataW.Trod enc Tryd.prog W 0 (fun _ => true) true 29 v d p) : ∃ t : Hd, v = hdV t ∧ okHd t := by
  obtain ⟨cs, rfl, hsz, _⟩ : ∃ cs, v = .agg cs ∧ cs.size = Tryd.prog.cellsOf 29 ∧ Row.okWide Tryd.prog W .any base 29 cs := by
    simpa [Value.okWide, Tryd.underlying29] using hok
  obtain ⟨fuel, hf⟩ := h
  obtain ⟨t, ht, hc⟩ := hd_cells hf
  refine ⟨t, ?_, ht⟩
  have : cs.toList = hdC t := hc
  unfold hdV hdA
  rw [← this]
end
/-- The head of zeros, as a value and as it reads. -/
def zeroH : Value := .agg (([Value.int .i64 0] ++ (List.replicate 128 (Value.int .u8 0) ++ (List.replicate 4 (Value.int .u64 0) ++ [Value.int .u32 0, Value.int .u64 0]))).toArray)
def zeroHD {H : Type} : DataW H := .agg [.lit (.int .i64 0), .agg (List.replicate 32 (.lit (.int .u8 0))), .agg (List.replicate 32 (.lit (.int .u8 0))), .agg (List.replicate 32 (.lit (.int .u8 0))), .agg (List.replicate 32 (.lit (.int .u8 0))), .agg (List.replicate 4 (.lit (.int .u64 0))), .lit (.int .u32 0), .lit (.int .u64 0)]
end Go.Proofs.YtmpjgfecnnefeaaDoor

namespace Go.Proofs.YtmpjgfecnnefeaaDoor
set_option maxRecDepth 8000
open Go.RowKit

theorem oneU8h : ∀ w, (isAgg 5).run Tryd.prog w = .ok false w := fun w => by simp [isAgg, run_underlying Tryd.underlying5]
section
variable {a : Act} {dst : Option Tmp} {x y : Operand} {ty : TypeId} {pos : String} {after : Array Edge} {gd : Option (Nat × Bool)}
theorem eqlU8_op {m k : Int} {b : Bool} (u : World) (hb : decide (m = k) = b) (hx : a.eval x = .int .u8 m) (hy : a.eval y = .int .u8 k) :
    (execOp a.eval ⟨dst, .binOp .eql 5 x y 5, ty, pos, after, gd⟩).run Tryd.prog u = .ok (.value (.bool b)) u := by
  subst hb
  unfold execOp
  simp only [hx, hy]
  go_simp
  rfl
theorem eqlWh_op {m n : Nat} (hm : m < Big) (hn : n < Big) {b : Bool} (hb : eqN m n = b) (u : World) (hx : a.eval x = .agg (wcs m)) (hy : a.eval y = .agg (wcs n)) :
    (execOp a.eval ⟨dst, .binOp .eql 26 x y 26, ty, pos, after, gd⟩).run Tryd.prog u = .ok (.value (.bool b)) u := by
  have h : (Op.equalIn 10000 26 (.agg (wcs m)) (.agg (wcs n))).run Tryd.prog u = .ok (eqN m n) u := run_equal_wide m n hm hn u
  rw [hb] at h
  unfold execOp
  simp only [hx, hy]
  generalize wcs m = cm at *
  generalize wcs n = cn at *
  go_simp
end
set_option maxRecDepth 20000 in
set_option maxHeartbeats 8000000 in
theorem hawake_any (H : HeadC) (w : World) (ht : Tables w) : Calls Tryd.prog 9 #[] w fun e w' => e = .returned (.bool true) ∧ Below w.heap.size w w' := by
  have E1 : Hid (EnvX w w []) := EnvX.start w
  have HT := Lib.hid ht
  have HH := Lib.hid H
  have HOK := Lib.hid hd0_ok
  have HL : Hid (lenH hd0) := hd0_ok.len
  have HZN : Hid (lenH noHd) := ⟨rfl, rfl, rfl, rfl⟩
  have hp : putH hd0 = (bodyH hd0, true) := by unfold putH; rw [if_pos hd0_put]
  have HBO := Lib.hid (And.intro (body_len hd0_ok) (body_byte hd0_ok))
  have HPT : Hid (∀ u, Below w.heap.size w u → Calls Tryd.prog 10 #[hdV hd0] u fun e w' => (∃ v, e = .returned (.tuple #[v, .bool true]) ∧ OwnB w' u.heap.size v (bodyH hd0)) ∧ Below u.heap.size u w') := fun u hu => by
    have h := H.put hd0 u hd0_ok (ht.below hu)
    rwa [hp] at h
  have HRD : Hid (∀ u g cap, Below w.heap.size w u → Bytes u u.heap.size (some ⟨g, 0, none⟩) (bodyH hd0) → 176 ≤ cap → cap ≤ maxLen → Calls Tryd.prog 12 #[.slice (some ⟨g, 0, none⟩) 176 cap] u fun e w' => e = .returned (.tuple #[hdV hd0, .bool true]) ∧ Below u.heap.size u w') := fun u g cap hu hb h1 h2 => by
    have h := H.read (some ⟨g, 0, none⟩) 176 cap (bodyH hd0) u (body_len hd0_ok) (by omega) h1 h2 (body_byte hd0_ok) hb (ht.below hu)
    rwa [read_body hd0_ok hd0_put] at h
  have HMY : Hid (∀ u, Below w.heap.size w u → Calls Tryd.prog 23 #[hdV hd0] u fun e w' => e = .returned (.bool true) ∧ Below u.heap.size u w') := fun u hu => by
    have h := H.may hd0 u hd0_ok (ht.below hu)
    rwa [show mayH hd0 = true by unfold mayH; rw [hd0_level]; rfl] at h
  have HLV : Hid (∀ u, Below w.heap.size w u → Calls Tryd.prog 19 #[hdV hd0] u fun e w' => e = .returned (.int .i64 31) ∧ Below u.heap.size u w') := fun u hu => by
    have h := H.level hd0 u hd0_ok (ht.below hu)
    rwa [hd0_level] at h
  have HWK : Hid (∀ u, Below w.heap.size w u → Calls Tryd.prog 21 #[hdV hd0] u fun e w' => e = .returned (.agg (wcs 2)) ∧ Below u.heap.size u w') := fun u hu => by
    have h := H.work hd0 u hd0_ok (ht.below hu)
    rwa [hd0_work] at h
  have HID : Hid (∀ u, Below w.heap.size w u → Calls Tryd.prog 17 #[hdV hd0] u fun e w' => e = .returned (idv (idH hd0)) ∧ Below u.heap.size u w') := fun u hu => H.id hd0 u hd0_ok (ht.below hu)
  have HOF : Hid (∀ u, Calls Tryd.prog 27 #[.int .u64 2] u fun e w' => e = .returned (.agg (wcs 2)) ∧ Below u.heap.size u w') := fun u => of_n 2 u (by decide)
  have HIL := Lib.hid (id_len hd0)
  have HNZ := Lib.hid hd0_id
  have HLS := Lib.hid hd0_last
  have HZ32 : Hid (z32.length = 32) := by show _ = _; rfl
  have HEQ : Hid (eqH hd0 hd0 = true) := by show _ = _; simp [eqH]
  have HE2 : Hid (eqN 2 2 = true) := by show _ = _; decide
  clear hp ht H
  generalize hidh : idH hd0 = i0 at *
  clear hidh
  go_enter Tryd.func9, Tryd.ntmps9
  go_upto_region 1 with (fail)
  refine wp_region_Hx (w0 := w) [0, 1, 2] [] rfl E1.out ?_
  refine lexH_phase [0] [1, 2] ?_
  have hw1 : EnvX w _ [] := E1.out
  have hone := @EnvC.one _ _ _ hw1
  (refine wpG_val (v := .agg (hdA hd0)) rfl rfl (fun u hu => buildA_op u built_hd0) ?_ hw1; intro K hK; go_big_quiet_op; go_big_quiet_on)
  clear hone hw1
  refine wpG_nil ?_
  refine (hOp_fresh (R := fun x N => ∃ g, x = .pointer (some ⟨g, 0, none⟩) ∧ N = [(g, Obj.cells (hdA noHd) 29 (0, 0))]) (M0 := []) rfl rfl (fun _ h => h) (fun u hu => FAt_new (new_hd _) u) ?_)
  rintro _ _ ⟨gh, rfl, rfl⟩ hf he2; intro K' hK'; go_big_quiet_op; go_big_quiet_on
  have HGH := Lib.hid (hf _ (List.mem_singleton.2 rfl))
  clear hf
  change lexH _ _ _ _ _ _ [(gh, Obj.cells (hdA noHd) 29 (0, 0))]
  refine (hOp_store rfl (gh) (hdA hd0) rfl rfl HGH.out.1 29 ((hdA noHd)) (List.Mem.head _) (infoHd _ (hdA_size HL.out)) ((hdA_size HZN.out).trans (hdA_size HL.out).symm) (hdA_one _) [(gh, Obj.cells (hdA hd0) 29 (0, 0))] (List.forall_mem_cons.2 ⟨.inl rfl, fun y hy => .inr ⟨List.mem_cons_of_mem _ hy, HGH.out.2 y hy⟩⟩) ?_)
  intro he3
  intro u5 E2'
  have EX4 := Lib.hid E2'
  clear E2'
  go_upto_region 2 with (fail)
  have HLD : Hid ((loadVar 29 ⟨gh, 0, none⟩).run Tryd.prog u5 = .ok (.agg (hdA hd0)) u5) := box_hd EX4.out (List.Mem.head _) HL.out
  go_wp2_with ((with_reducible refine wpList_load_run (o := ⟨some 8, _, _, _, _, _⟩) ?_ 29 (.tmp 1) ?_ ⟨gh, 0, none⟩ ?_ HLD.out ?_); (rfl); (rfl); (rfl))
  refine (HPT.out u5 (EnvX.bel EX4.out)).mono ?_
  rintro e w1 ⟨⟨v, rfl, hv⟩, hb⟩
  have hub := (EnvX.bel EX4.out).size
  obtain ⟨hv1, ⟨_, h0⟩ | ⟨gv, capv, curv, rfl, hg1, hg2, hg3⟩⟩ := hv
  · have := HBO.out.1
    omega
  have E2 : Hid (EnvX w w1 [(gv, Obj.cells curv 5 (0, 0)), (gh, Obj.cells (hdA hd0) 29 (0, 0))]) := ⟨(EnvX.below EX4.out hb).bel, fun g o hm => by
    rcases List.mem_cons.1 hm with e | e
    · cases e
      exact hg2
    · exact (EnvX.below EX4.out hb).box g o e⟩
  rw [HBO.out.1] at hg3 ⊢
  have HGV := Lib.hid hg3
  have HC7 : Hid (curv[175]? = some (.int .u8 7)) := by
    have h := hg3.2.2.2
    have e : (curv.toList.take (176 * 1))[175]? = ((bodyH hd0).map u8v)[175]? := by rw [h]
    rw [List.getElem?_take_of_lt (by omega), Array.getElem?_toList, List.getElem?_map] at e
    show curv[175]? = _
    rw [e]
    have h7 := HLS.out
    rw [List.getD_eq_getElem?_getD] at h7
    cases hq : (bodyH hd0)[175]? with
    | none => rw [List.getElem?_eq_none_iff] at hq; have := HBO.out.1; omega
    | some z => rw [hq] at h7; simp only [Option.getD_some] at h7; rw [h7]; rfl
  clear hv1 hb HLD hg1 hg2 hg3 hub EX4
  generalize hbb : bodyH hd0 = bo at *
  clear hbb
  go_upto_region 3 with (fail)
  refine wp_region_Hx (w0 := w) [0, 1, 2, 3, 4, 5, 6, 7] [(gv, Obj.cells curv 5 (0, 0)), (gh, Obj.cells (hdA hd0) 29 (0, 0))] rfl E2.out ?_
  refine lexH_phase [0, 1, 2, 3, 4] [5, 6, 7] ?_
  have hw201 : EnvX w _ [(gv, Obj.cells curv 5 (0, 0)), (gh, Obj.cells (hdA hd0) 29 (0, 0))] := E2.out
  have hone := @EnvC.one _ _ _ hw201
  (refine wpG_op rfl rfl rfl ?_; intro K hK; go_big_quiet_op; go_big_quiet_on)
  (refine wpG_call (f := 12) (args := #[.slice (some ⟨gv, 0, none⟩) 176 capv]) (v := .tuple #[hdV hd0, .bool true]) rfl rfl rfl Tryd.func12 rfl rfl (fun u hu => HRD.out u gv capv (EnvX.bel hu) (boxR_bytes hu (List.Mem.head _) HBO.out.1 HGV.out) HGV.out.1 HGV.out.2.1) ?_ hw201; intro K hK; go_big_quiet_op; go_big_quiet_on)
  (refine wpG_op rfl rfl rfl ?_; intro K hK; go_big_quiet_op; go_big_quiet_on)
  (refine wpG_op rfl rfl rfl ?_; intro K hK; go_big_quiet_op; go_big_quiet_on)
  (refine wpG_op rfl rfl rfl ?_; intro K hK; go_big_quiet_op; go_big_quiet_on)
  clear hone hw201
  refine wpG_nil ?_
  refine (hOp_fresh (R := fun x N => ∃ g, x = .pointer (some ⟨g, 0, none⟩) ∧ N = [(g, Obj.cells (hdA noHd) 29 (0, 0))]) (M0 := [(gv, Obj.cells curv 5 (0, 0)), (gh, Obj.cells (hdA hd0) 29 (0, 0))]) rfl rfl (fun _ h => h) (fun u hu => FAt_new (new_hd _) u) ?_)
  rintro _ _ ⟨gx, rfl, rfl⟩ hf he202; intro K' hK'; go_big_quiet_op; go_big_quiet_on
  have HGX := Lib.hid (hf _ (List.mem_singleton.2 rfl))
  clear hf
  change lexH _ _ _ _ _ _ [(gx, Obj.cells (hdA noHd) 29 (0, 0)), (gv, Obj.cells curv 5 (0, 0)), (gh, Obj.cells (hdA hd0) 29 (0, 0))]
  refine (hOp_store rfl (gx) (hdA hd0) rfl rfl HGX.out.1 29 ((hdA noHd)) (List.Mem.head _) (infoHd _ (hdA_size HL.out)) ((hdA_size HZN.out).trans (hdA_size HL.out).symm) (hdA_one _) [(gx, Obj.cells (hdA hd0) 29 (0, 0)), (gv, Obj.cells curv 5 (0, 0)), (gh, Obj.cells (hdA hd0) 29 (0, 0))] (List.forall_mem_cons.2 ⟨.inl rfl, fun y hy => .inr ⟨List.mem_cons_of_mem _ hy, HGX.out.2 y hy⟩⟩) ?_)
  intro he203
  refine lexH_phase [7] [] ?_
  have hw204 : EnvX w _ [(gx, Obj.cells (hdA hd0) 29 (0, 0)), (gv, Obj.cells curv 5 (0, 0)), (gh, Obj.cells (hdA hd0) 29 (0, 0))] := he203.choose_spec
  have hone := @EnvC.one _ _ _ hw204
  (refine wpG_op rfl rfl rfl ?_; intro K hK; go_big_quiet_op; go_big_quiet_on)
  clear hone hw204
  refine wpG_nil ?_
  intro u206 E2'
  have EX205 := Lib.hid E2'
  clear E2'
  go_upto_region 4 with (fail)
  refine wp_region_Hx (w0 := w) [0, 1, 2, 3, 4, 5, 6, 7, 8, 9, 10, 11, 12, 13, 14, 15, 16, 17, 18, 19, 20, 21, 22, 23, 24, 25, 26, 27, 28, 29, 30, 31, 32, 33, 34, 35, 36, 37, 38, 39, 40, 41] [(gx, Obj.cells (hdA hd0) 29 (0, 0)), (gv, Obj.cells curv 5 (0, 0)), (gh, Obj.cells (hdA hd0) 29 (0, 0))] rfl EX205.out ?_
  refine lexH_phase [0, 1, 2, 3, 4, 5, 6, 7, 8, 9, 10, 11, 12, 13, 14, 15, 16, 17, 18, 19, 20, 21, 22, 23, 24, 25, 26, 27, 28, 29, 30, 31, 32, 33, 34, 35, 36, 37, 38, 39, 40, 41] [] ?_
  have hw207 : EnvX w _ [(gx, Obj.cells (hdA hd0) 29 (0, 0)), (gv, Obj.cells curv 5 (0, 0)), (gh, Obj.cells (hdA hd0) 29 (0, 0))] := EX205.out
  have hone := @EnvC.one _ _ _ hw207
  (refine wpG_op rfl rfl rfl ?_; intro K hK; go_big_quiet_op; go_big_quiet_on)
  (refine wpG_op rfl rfl rfl ?_; intro K hK; go_big_quiet_op; go_big_quiet_on)
  (refine wpG_op rfl rfl rfl ?_; intro K hK; go_big_quiet_op; go_big_quiet_on)
  (refine wpG_val (v := .int .i64 ((176 : Nat) : Int)) rfl rfl (fun u hu => len_op Tryd.underlying30 (by decide) u rfl) ?_ hw207; intro K hK; go_big_quiet_op; go_big_quiet_on)
  (refine wpG_val (v := .bool true) rfl rfl (fun u hu => eqlI_op u (by decide) rfl rfl) ?_ hw207; intro K hK; go_big_quiet_op; go_big_quiet_on)
  (refine wpG_op rfl rfl rfl ?_; intro K hK; go_big_quiet_op; go_big_quiet_on)
  (refine wpG_op rfl rfl rfl ?_; intro K hK; go_big_quiet_op; go_big_quiet_on)
  (refine wpG_op rfl rfl rfl ?_; intro K hK; go_big_quiet_op; go_big_quiet_on)
  (refine wpG_val (v := .pointer (some ((⟨gv, 0, none⟩ : Addr).add (175 * 1)))) rfl rfl (fun u hu => idxSl_op (i := 175) Tryd.underlying30 (by kernel_rfl : (Tryd.prog.info? 5).map (·.size) = some 1) (by decide) u rfl rfl) ?_ hw207; intro K hK; go_big_quiet_op; go_big_quiet_on)
  (refine wpG_val (v := .int .u8 7) rfl rfl (fun u hu => load_any_op u (run_load_one oneU8h u (by rw [Addr.add_mid]; exact box_cell hu (List.Mem.tail _ (List.Mem.head _)) HC7.out)) rfl) ?_ hw207; intro K hK; go_big_quiet_op; go_big_quiet_on)
  (refine wpG_val (v := .bool true) rfl rfl (fun u hu => eqlU8_op u (by decide) rfl rfl) ?_ hw207; intro K hK; go_big_quiet_op; go_big_quiet_on)
  (refine wpG_op rfl rfl rfl ?_; intro K hK; go_big_quiet_op; go_big_quiet_on)
  (refine wpG_op rfl rfl rfl ?_; intro K hK; go_big_quiet_op; go_big_quiet_on)
  (refine wpG_op rfl rfl rfl ?_; intro K hK; go_big_quiet_op; go_big_quiet_on)
  (refine wpG_op rfl rfl rfl ?_; intro K hK; go_big_quiet_op; go_big_quiet_on)
  (refine wpG_op rfl rfl rfl ?_; intro K hK; go_big_quiet_op; go_big_quiet_on)
  (refine wpG_val (v := hdV hd0) rfl rfl (fun u hu => load_any_op u (box_hd hu (List.Mem.head _) HL.out) rfl) ?_ hw207; intro K hK; go_big_quiet_op; go_big_quiet_on)
  (refine wpG_val (v := hdV hd0) rfl rfl (fun u hu => load_any_op u (box_hd hu (List.Mem.tail _ (List.Mem.tail _ (List.Mem.head _))) HL.out) rfl) ?_ hw207; intro K hK; go_big_quiet_op; go_big_quiet_on)
  (refine wpG_val (v := .bool true) rfl rfl (fun u hu => eqlHd_op HOK.out HOK.out HEQ.out u rfl rfl) ?_ hw207; intro K hK; go_big_quiet_op; go_big_quiet_on)
  (refine wpG_op rfl rfl rfl ?_; intro K hK; go_big_quiet_op; go_big_quiet_on)
  (refine wpG_op rfl rfl rfl ?_; intro K hK; go_big_quiet_op; go_big_quiet_on)
  (refine wpG_val (v := hdV hd0) rfl rfl (fun u hu => load_any_op u (box_hd hu (List.Mem.tail _ (List.Mem.tail _ (List.Mem.head _))) HL.out) rfl) ?_ hw207; intro K hK; go_big_quiet_op; go_big_quiet_on)
  (refine wpG_call (f := 23) (args := #[hdV hd0]) (v := .bool true) rfl rfl rfl Tryd.func23 rfl rfl (fun u hu => HMY.out u (EnvX.bel hu)) ?_ hw207; intro K hK; go_big_quiet_op; go_big_quiet_on)
  (refine wpG_op rfl rfl rfl ?_; intro K hK; go_big_quiet_op; go_big_quiet_on)
  (refine wpG_op rfl rfl rfl ?_; intro K hK; go_big_quiet_op; go_big_quiet_on)
  (refine wpG_val (v := hdV hd0) rfl rfl (fun u hu => load_any_op u (box_hd hu (List.Mem.tail _ (List.Mem.tail _ (List.Mem.head _))) HL.out) rfl) ?_ hw207; intro K hK; go_big_quiet_op; go_big_quiet_on)
  (refine wpG_call (f := 19) (args := #[hdV hd0]) (v := .int .i64 31) rfl rfl rfl Tryd.func19 rfl rfl (fun u hu => HLV.out u (EnvX.bel hu)) ?_ hw207; intro K hK; go_big_quiet_op; go_big_quiet_on)
  (refine wpG_val (v := .bool true) rfl rfl (fun u hu => eqlI_op u (by decide) rfl rfl) ?_ hw207; intro K hK; go_big_quiet_op; go_big_quiet_on)
  (refine wpG_op rfl rfl rfl ?_; intro K hK; go_big_quiet_op; go_big_quiet_on)
  (refine wpG_op rfl rfl rfl ?_; intro K hK; go_big_quiet_op; go_big_quiet_on)
  (refine wpG_val (v := hdV hd0) rfl rfl (fun u hu => load_any_op u (box_hd hu (List.Mem.tail _ (List.Mem.tail _ (List.Mem.head _))) HL.out) rfl) ?_ hw207; intro K hK; go_big_quiet_op; go_big_quiet_on)
  (refine wpG_call (f := 21) (args := #[hdV hd0]) (v := .agg (wcs 2)) rfl rfl rfl Tryd.func21 rfl rfl (fun u hu => HWK.out u (EnvX.bel hu)) ?_ hw207; intro K hK; go_big_quiet_op; go_big_quiet_on)
  (refine wpG_call (f := 27) (args := #[.int .u64 2]) (v := .agg (wcs 2)) rfl rfl rfl Tryd.func27 rfl rfl (fun u hu => HOF.out u) ?_ hw207; intro K hK; go_big_quiet_op; go_big_quiet_on)
  (refine wpG_val (v := .bool true) rfl rfl (fun u hu => eqlWh_op (by decide) (by decide) HE2.out u rfl rfl) ?_ hw207; intro K hK; go_big_quiet_op; go_big_quiet_on)
  (refine wpG_op rfl rfl rfl ?_; intro K hK; go_big_quiet_op; go_big_quiet_on)
  (refine wpG_op rfl rfl rfl ?_; intro K hK; go_big_quiet_op; go_big_quiet_on)
  (refine wpG_val (v := hdV hd0) rfl rfl (fun u hu => load_any_op u (box_hd hu (List.Mem.tail _ (List.Mem.tail _ (List.Mem.head _))) HL.out) rfl) ?_ hw207; intro K hK; go_big_quiet_op; go_big_quiet_on)
  (refine wpG_call (f := 17) (args := #[hdV hd0]) (v := idv i0) rfl rfl rfl Tryd.func17 rfl rfl (fun u hu => HID.out u (EnvX.bel hu)) ?_ hw207; intro K hK; go_big_quiet_op; go_big_quiet_on)
  (refine wpG_val (v := idv z32) rfl rfl (fun u hu => buildA_op u hbuilt0) ?_ hw207; intro K hK; go_big_quiet_op; go_big_quiet_on)
  (refine wpG_val (v := .bool true) rfl rfl (fun u hu => neqb_op HIL.out HZ32.out HNZ.out u rfl rfl) ?_ hw207; intro K hK; go_big_quiet_op; go_big_quiet_on)
  (refine wpG_op rfl rfl rfl ?_; intro K hK; go_big_quiet_op; go_big_quiet_on)
  (refine wpG_op rfl rfl rfl ?_; intro K hK; go_big_quiet_op; go_big_quiet_on)
  clear hone hw207
  refine wpG_nil ?_
  intro u209 E2'
  have EX208 := Lib.hid E2'
  clear E2'
  have HBE := Lib.hid (EnvX.bel EX208.out)
  go_wp2
  go_ret
  exact ⟨rfl, HBE.out⟩
end Go.Proofs.YtmpjgfecnnefeaaDoor

namespace Go.Proofs.YtmpjgfecnnefeaaDoor
set_option maxRecDepth 8000
open Go.RowKit

section
variable {a : Act} {dst : Option Tmp} {x y : Operand} {ty : TypeId} {pos : String} {after : Array Edge} {gd : Option (Nat × Bool)}
theorem neqTTh_op {b : Bool} (u : World) (hx : a.eval x = .bool b) (hy : a.eval y = .bool b) :
    (execOp a.eval ⟨dst, .binOp .neq 4 x y 4, ty, pos, after, gd⟩).run Tryd.prog u = .ok (.value (.bool false)) u := by
  unfold execOp
  simp only [hx, hy]
  cases b <;> go_simp
end
theorem work_big (h : Hd) : workH h < Big := by
  unfold workH
  split
  · unfold wkV
    split
    · exact Nat.mod_lt _ Big_pos
    · unfold Big; decide
  · exact Big_pos
end Go.Proofs.YtmpjgfecnnefeaaDoor

namespace Go.Proofs.YtmpjgfecnnefeaaDoor
set_option maxRecDepth 8000
open Go.RowKit

theorem CellsIn.take {w : World} {B : Nat} {A : Option Addr} {xs : List Value} (h : CellsIn w B A xs) (k : Nat) : CellsIn w B A (xs.take k) := by
  intro hp
  rw [List.length_take] at hp
  obtain ⟨ad, e, hb, hc⟩ := h (by omega)
  refine ⟨ad, e, hb, fun j v hv => hc j v ?_⟩
  have hj : j < k := by
    rcases Nat.lt_or_ge j k with h' | h'
    · exact h'
    · rw [List.getElem?_eq_none (by rw [List.length_take]; omega)] at hv
      cases hv
  rwa [List.getElem?_take_of_lt hj] at hv
/-- where a cut slice begins -/
def cutX (z : Nat) (A : Option Addr) (l c : Nat) : Option Addr := if c = l then A else A.map (·.add (l * z))
theorem CellsIn.drop {w : World} {B : Nat} {A : Option Addr} {xs : List Value} (h : CellsIn w B A xs) (z k c : Nat) (hc : k < c ∨ xs.length ≤ k * z) : CellsIn w B (cutX z A k c) (xs.drop (k * z)) := by
  intro hp
  rw [List.length_drop] at hp
  obtain ⟨ad, rfl, hlt, hcell⟩ := h (by omega)
  have hne : ¬ c = k := by rcases hc with h | h <;> omega
  refine ⟨ad.add (k * z), by simp [cutX, hne], by rw [block_of_add]; exact hlt, fun j v hv => ?_⟩
  rw [add_addN]
  refine hcell (k * z + j) v ?_
  rwa [List.getElem?_drop] at hv
section
variable {st e : TypeId} {z bytes : Nat} {zero : Value}
variable {a : Act} {dst : Option Tmp} {x l h : Operand} {ty : TypeId} {pos : String} {after : Array Edge} {gd : Option (Nat × Bool)}
end
end Go.Proofs.YtmpjgfecnnefeaaDoor

namespace Go.Proofs.YtmpjgfecnnefeaaDoor
set_option maxRecDepth 8000
open Go.RowKit

theorem read_len {b : List Int} (h : b.length ≠ 176) : readH b = (noHd, false) := by
  unfold readH
  rw [if_neg (by unfold mayRead; rw [decide_eq_true_eq]; exact fun e => h e.1)]
theorem read_no {b : List Int} (h : mayRead b = false) : readH b = (noHd, false) := by
  unfold readH
  rw [if_neg (by rw [h]; decide)]
theorem okHd_no : okHd noHd := by
  have hz : isId z32 := ⟨rfl, fun y hy => by rw [List.eq_of_mem_replicate hy]; decide⟩
  exact ⟨⟨by decide, by decide⟩, hz, hz, hz, hz, by decide, by decide, by decide⟩
theorem okHd_read {b : List Int} (hB : isB b) : okHd (readH b).1 := by
  cases h : mayRead b with
  | false => rw [read_no h]; exact okHd_no
  | true => unfold readH; rw [if_pos h]; exact (read_ok hB h).1
theorem read_snd (b : List Int) : (readH b).2 = mayRead b := by
  unfold readH
  cases h : mayRead b <;> rfl
end Go.Proofs.YtmpjgfecnnefeaaDoor

namespace Go.Proofs.YtmpjgfecnnefeaaDoor
set_option maxRecDepth 8000
open Go.RowKit

theorem put_byte {h : Hd} (hh : okHd h) : isB (putH h).1 := by
  cases k : mayPut h with
  | true => rw [show (putH h).1 = bodyH h by unfold putH; rw [k]; rfl]; exact body_byte hh
  | false => rw [show (putH h).1 = [] by unfold putH; rw [k]; rfl]; exact fun y hy => by cases hy
end Go.Proofs.YtmpjgfecnnefeaaDoor

namespace Go.Proofs.YtmpjgfecnnefeaaDoor
set_option maxRecDepth 8000
open Go.RowKit

theorem mayh_any (k : Int) (w : World) :
    Calls Tryd.prog 29 #[.int .i64 k] w fun e w' => e = .returned (.bool (decide (0 ≤ k ∧ k ≤ 1048576))) ∧ Below w.heap.size w w' := by
  by_cases h0 : 0 ≤ k
  · by_cases h1 : k ≤ 1048576
    · go_enter Tryd.func29, Tryd.ntmps29
      go_wp2
      go_ret
      exact ⟨by simp [h0, h1], Below.refl _ _⟩
    · go_enter Tryd.func29, Tryd.ntmps29
      go_wp2
      go_ret
      exact ⟨by simp [h1], Below.refl _ _⟩
  · go_enter Tryd.func29, Tryd.ntmps29
    go_wp2
    go_ret
    exact ⟨by simp; omega, Below.refl _ _⟩
theorem info_u8 : (Tryd.prog.info? 5).map (·.size) = some 1 := by kernel_rfl
theorem splice_all (ys : List Int) (h : ys.length = 32) : splice (listB 32 []) 0 (ys.map u8v) = listB 32 ys := by
  have := splice_first 32 ys
  exact this
set_option maxRecDepth 20000 in
set_option maxHeartbeats 4000000 in
theorem hidat_any (A : Option Addr) (n c i l : Nat) (xs : List Int) (w : World) (hl : xs.length = n) (hc : n ≤ c) (hn : c ≤ maxLen) (hx : Bytes w w.heap.size A xs) (hi : i ≤ 4) (hil : 4 + i * 32 = l) (hin : l + 32 ≤ n) :
    Calls Tryd.prog 36 #[.slice A n c, .int .i64 i] w fun e w' => e = .returned (idv (cutP xs l 32)) ∧ Below w.heap.size w w' := by
  unfold maxLen at hn
  obtain ⟨ad, rfl, hblk, hcell⟩ := hx (by omega)
  have HCE := Lib.hid hcell
  have HYL : Hid ((cutP xs l 32).length = 32) := cutP_len (by omega)
  have HG : Hid (∀ j v, ((cutP xs l 32).map u8v)[j]? = some v → w.cell? ((ad.add l).add j) = some v) := fun j v hj => by
    have hj2 : j < 32 := by
      by_cases h : j < 32
      · exact h
      · rw [List.getElem?_eq_none (by rw [List.length_map, HYL.out]; omega)] at hj
        cases hj
    rw [Addr.add_add]
    refine hcell (l + j) v ?_
    rw [← hj]
    unfold cutP
    rw [List.getElem?_map, List.getElem?_map, List.getElem?_take_of_lt hj2, List.getElem?_drop]
  generalize cutP xs l 32 = ys at *
  have HBK := Lib.hid hblk
  have HIN := Lib.hid (And.intro hin (And.intro hc hl))
  have s1 : IntKind.i64.wrap ((i : Int) * 32) = (i : Int) * 32 := by rw [IntKind.wrap_i64]; omega
  have s2 : IntKind.i64.wrap (4 + (i : Int) * 32) = ((l : Nat) : Int) := by rw [IntKind.wrap_i64]; omega
  have s3 : l ≤ c := by omega
  have s4 : ((l : Nat) : Int) ≤ (n : Int) := by omega
  have s5 : ¬ (c = l) := by omega
  have s6 : l ≤ n := by omega
  clear hx hcell hblk hi hil hin hl
  unfold idv
  go_enter Tryd.func36, Tryd.ntmps36
  go_upto_region 2 with (fail)
  rw [zero_cells]
  have R1 : Hid (Row ((w.alloc (.cells (arrB 32 []) 23)).alloc (.cells (arrB 32 []) 23)) w.heap.size 23 (arrB 32 [])) := (Row.new w 23 _).alloc _
  have R2 : Hid (Row ((w.alloc (.cells (arrB 32 []) 23)).alloc (.cells (arrB 32 []) 23)) (w.heap.size + 1) 23 (arrB 32 [])) := Row.newAt (by simp) 23 _
  have HB : Hid (Below w.heap.size w ((w.alloc (.cells (arrB 32 []) 23)).alloc (.cells (arrB 32 []) 23))) := ((Below.refl _ w).alloc (Nat.le_refl _) _).alloc (by simp) _
  generalize (w.alloc (.cells (arrB 32 []) 23)).alloc (.cells (arrB 32 []) 23) = W at *
  go_still_tail 6, (by kernel_rfl)
  change wpList _ _ _ _ _ W.drew
  refine wpList_copy_splice (o := ⟨some 12, _, _, _, _, _⟩) rfl (.tmp 6) (.tmp 11) 30 30 rfl 5 Tryd.underlying30 info_u8 (some ⟨w.heap.size + 1, 0, none⟩) (some (ad.add l)) 32 32 (n - l) (c - l) rfl rfl (w.heap.size + 1) 0 (listB 32 []) 23 R2.out.drew (ys.map u8v) ?_ ?_ ?_ ?_ (w.heap.size + 1) W.drew (Below.refl _ _) (Nat.le_refl _) ?_
  · rw [List.length_map, HYL.out]
    exact (Nat.min_eq_right (by have := HIN.out.1; omega)).symm
  · intro _
    exact ⟨rfl, _, rfl, fun j v hj => ((HB.out.drew).cell (p := (ad.add l).add j) (by rw [block_of_add, block_of_add]; exact HBK.out)).trans (HG.out j v hj)⟩
  · rw [List.length_map, HYL.out, listB_len 32 [] (by simp)]
    exact Nat.le_refl _
  · intro v hv
    obtain ⟨z, _, rfl⟩ := List.mem_map.1 hv
    rfl
  intro w5 R6 b5
  have R7 : Hid (w5.heap[w.heap.size + 1]? = some (.cells (arrB 32 ys) 23 (0, 0))) := by
    show _ = _
    rw [arrB_listB, ← splice_all ys HYL.out]
    exact R6.out
  have R8 : Hid (w5.heap[w.heap.size]? = some (.cells (arrB 32 []) 23 (0, 0))) := (b5.block w.heap.size (Nat.lt_succ_self _)).trans R1.out.drew
  have HB5 : Hid (Below w.heap.size w w5) := HB.out.drew.trans (b5.mono (Nat.le_succ _))
  have hsz : Hid ((arrB 32 ys).size = 32) := arrB_size _ _ (by rw [HYL.out]; omega)
  have hz0 := Lib.hid (arrB_size 32 [] (by simp))
  have ho := Lib.hid (arrB_one 32 ys)
  clear R6 R1 R2 b5 HG HCE
  generalize hE2 : arrB 32 ys = cs at *
  have HE := Lib.hid hE2
  clear hE2
  generalize arrB 32 [] = zs at *
  go_wp2_with (first
    | ((with_reducible refine wpList_load_row (o := ⟨some 13, _, _, _, _, _⟩) ?_ 23 (.tmp 5) ?_ (w.heap.size + 1) ?_ 23 cs (0, 0) _ R7.out Tryd.underlying23 ?_ (infoId cs hsz.out) ?_); (rfl); (rfl); (rfl); (rfl))
    | ((with_reducible refine wpList_store_row (o := ⟨none, .store 23 _ _, _, _, _, _⟩) ?_ 23 (.tmp 4) (.tmp 13) ?_ w.heap.size cs ?_ ?_ 23 zs R8.out (infoId cs hsz.out) (by rw [hz0.out, hsz.out]) ho.out ?_); (rfl); (rfl); (rfl); (rfl))
    | ((with_reducible refine bodyPost_ret (v := .agg cs) ?_ ?_ ?_); (exact results_cell_row (p := 4) (ty := 23) Tryd.results36 _ _ w.heap.size 23 cs (0, 0) _ rfl (setRow_heap _ _ zs cs 23 (0, 0) R8.out) Tryd.underlying23 rfl (infoId cs hsz.out)); (rfl)))
  exact ⟨by rw [HE.out], below_setRow HB5.out (Nat.le_refl _) _⟩
end Go.Proofs.YtmpjgfecnnefeaaDoor

namespace Go.Proofs.YtmpjgfecnnefeaaDoor
set_option maxRecDepth 8000
open Go.RowKit

theorem wpList_appzero_run {P : Program} {ops : Array Oper} {rest : List Oper} {o : Oper} {a : Act} {w w' : World} {Q : Exit → Act → World → Prop} {v y v' : Value} {t tn : TypeId} (hgd : o.guard = none) (s x : Operand)
    (ho : o.op = .call { callee := .builtin .append, args := #[s, x], argTypes := #[t, tn] }) (hs : a.eval s = v) (hx : a.eval x = y)
    (hrun : ∀ ty, (Builtin.append_ #[t, tn] ty #[v, y]).run P w = .ok v' w') (h : wpList P ops Q rest (a.put o.dst v') w') : wpList P ops Q (o :: rest) a w :=
  wpList_plain hgd fun _ hK => by
    unfold Oper.wp execOp
    simp only [ho, resolve, invoke, builtin, Sem.run_bind, Sem.run_pure, Result.andThen_ok, List.map_toArray, List.map_cons, List.map_nil, hs, hx, hrun]
    exact hK _ _ h
/-- room for n bytes, of nothing -/
theorem grow_any (n : Nat) (w : World) (h0 : 0 < n) (hn : n ≤ 1000000) :
    Calls Tryd.prog 58 #[.slice none 0 0, .int .i64 (n : Int)] w fun e w' => (∃ v, e = .returned v ∧ OwnB w' w.heap.size v []) ∧ Below w.heap.size w w' := by
  have hT := elB.info
  cases hq : Tryd.prog.info? 5 with
  | none => rw [hq] at hT; cases hT
  | some i =>
    rw [hq] at hT
    simp only [Option.map_some, Option.some.injEq, Prod.mk.injEq] at hT
    obtain ⟨k1, k2, k3⟩ := hT
    have hrz : Hid (∀ ty, (Builtin.append_ #[30, 3] ty #[.slice none 0 0, .int .i64 (n : Int)]).run Tryd.prog w = _) := fun ty => Lib.run_append_nil_zeros w 30 3 ty 5 i _ .i64 .i64 Tryd.underlying30 Tryd.underlying3 hq k1 n h0 (by omega) (by omega) (by rw [k3]; omega)
    have hG := grownCap_ge w n 0 5
    have hG2 := grownCap_le_maxLen w n 0 5 (by unfold maxLen; omega)
    obtain ⟨G, hGe⟩ : ∃ G, G = grownCap w n 0 5 := ⟨_, rfl⟩
    rw [← hGe] at hrz hG hG2
    have hcs : (Builtin.zeroCells (Value.int .u8 0).cells n ++ Builtin.zeroCells (Value.int .u8 0).cells (G - n)).size = G := by
      simp [Builtin.zeroCells, Value.cells]
      omega
    generalize Builtin.zeroCells (Value.int .u8 0).cells n ++ Builtin.zeroCells (Value.int .u8 0).cells (G - n) = cur at *
    have h1 : ¬ ((n : Int) < 0) := by omega
    have h2 : wrap64 ((n : Int)) = (n : Int) := by unfold wrap64; omega
    have h4 : (n : Int) > 0 := by omega
    have h5 : 0 < (n : Int) := by omega
    have hG63 : G ≤ 9223372036854775807 := by unfold maxLen at hG2; omega
    have HC := Lib.hid hcs
    have HG := Lib.hid (And.intro hG hG2)
    clear hcs hG hG2 hGe k1 k2 k3 hq
    go_enter Tryd.func58, Tryd.ntmps58
    go_wp2_with (at_builtin; (with_reducible refine wpList_appzero_run (o := ⟨some 22, _, _, _, _, _⟩) ?_ (.tmp 20) (.tmp 21) ?_ ?_ ?_ hrz.out ?_); (rfl); (rfl); (rfl); (rfl))
    all_goals (go_ret; skip)
    refine ⟨⟨_, rfl, ?_⟩, ?_⟩
    · refine ⟨rfl, .inr ⟨w.heap.size, G, cur, rfl, Nat.le_refl _, ?_, Nat.zero_le _, HG.out.2, by rw [HC.out]; omega, by simp⟩⟩
      exact heap_alloc_new w.drew _
    · exact ((Below.refl _ w).drew).alloc (Nat.le_refl _) _
theorem flat_take_le (xss : List (List Int)) (k : Nat) : (xss.take k).flatten.length ≤ xss.flatten.length := by
  conv => rhs; rw [← List.take_append_drop k xss, List.flatten_append, List.length_append]
  omega
set_option maxRecDepth 20000 in
set_option maxHeartbeats 1000000 in
/-- bytes that are put one behind the other -/
theorem concat_any (A : Option Addr) (n c : Nat) (xss : List (List Int)) (w : World) (hl : xss.length = n) (hx : Parts w w.heap.size A xss) (hn : n ≤ 1000000) (hp : 0 < xss.flatten.length) (hs : xss.flatten.length ≤ 1000000) :
    Calls Tryd.prog 31 #[.slice A n c] w fun e w' => (∃ v, e = .returned v ∧ OwnB w' w.heap.size v xss.flatten) ∧ Below w.heap.size w w' := by
  have HL := Lib.hid hl
  have HX := Lib.hid hx
  have HP := Lib.hid hp
  have HS := Lib.hid hs
  clear hl hx hp hs
  go_enter Tryd.func31, Tryd.ntmps31
  go_wp2_with fail
  go_loopw [3, 11] (fun v i u => ∃ k : Nat, k ≤ n ∧ i = .int .i64 (k : Int) ∧ v = .int .i64 ((xss.take k).flatten.length : Int) ∧ u = w) (fun _ i _ => n - (intOf i).toNat)
  case atStart => exact ⟨0, by omega, rfl, rfl, rfl⟩
  case round =>
    obtain ⟨k, hk, rfl, rfl, hU⟩ := hrel
    obtain rfl := hU.symm
    by_cases hlt : k < n
    · have hg := List.getElem?_eq_getElem (by rw [HL.out]; exact hlt : k < xss.length)
      have hst := congrArg List.length (flat_step xss k _ hg)
      rw [List.length_append] at hst
      obtain ⟨b, o, a, c1, rfl, hb, hc, hy, hr⟩ := HX.out k _ hg
      have hle := flat_take_le xss (k + 1)
      have h6 := HS.out
      generalize xss[k]'(by rw [HL.out]; exact hlt) = ys at *
      have HST := Lib.hid hst
      generalize (xss.take k).flatten.length = p1 at *
      generalize ys.length = m at *
      have hadd : wrap64 ((p1 : Int) + (m : Int)) = (p1 : Int) + (m : Int) := by unfold wrap64; omega
      have hneg : ¬ ((p1 : Int) + (m : Int) < 0) := by omega
      have hk2 : (k : Int) < (n : Int) := by omega
      clear hg hy hr hle h6 hst
      go_wp2
      go_roundw
      case rel => exact ⟨k + 1, by omega, by go_num, by rw [HST.out, hadd, Int.natCast_add], trivial⟩
      case measure => simp [intOf]; omega
    · obtain rfl : k = n := by omega
      have hT : xss.take k = xss := List.take_of_length_le (by rw [HL.out]; exact Nat.le_refl _)
      rw [hT]
      obtain ⟨q, hq⟩ : ∃ q, xss.flatten.length = q := ⟨_, rfl⟩
      have hq1 := HP.out
      have hq2 := HS.out
      rw [hq] at hq1 hq2 ⊢
      have HQ := Lib.hid hq
      clear hq hT
      go_wp2_with fail
      refine (grow_any q w hq1 hq2).mono ?_
      rintro e w2 ⟨⟨v2, rfl, hv2⟩, hb2⟩
      have HO := Lib.hid hv2
      have HB := Lib.hid hb2
      clear hv2 hb2
      go_wp2_with fail
      go_loopw [6, 27] (fun v i u => ∃ j : Nat, j ≤ k ∧ i = .int .i64 (j : Int) ∧ Hid (OwnB u w.heap.size v (xss.take j).flatten ∧ Below w.heap.size w u)) (fun _ i _ => k - (intOf i).toNat)
      case atStart => exact ⟨0, by omega, rfl, HO.out, HB.out⟩
      case round =>
        obtain ⟨j, hj, rfl, hinv⟩ := hrel
        obtain ⟨hO, hB⟩ := hinv.out
        clear hinv
        by_cases hjt : j < k
        · have hg := List.getElem?_eq_getElem (by rw [HL.out]; exact hjt : j < xss.length)
          have hst := Lib.hid (flat_step xss j _ hg)
          obtain ⟨b, o, a, c1, rfl, hb, hc, hy, hr⟩ := HX.out j _ hg
          have hle := flat_take_le xss (j + 1)
          rw [hst.out, List.length_append] at hle
          have h6 := HS.out
          generalize xss[j]'(by rw [HL.out]; exact hjt) = ys at *
          obtain ⟨v', w', hrun, hown', hb2⟩ := hO.append (c := c1) rfl (hy.below hB) (by omega) hB.size
          have hcell := (hB.cell (p := ⟨b, o + j, none⟩) hb).trans hc
          have HN : Hid (OwnB w' w.heap.size v' (xss.take (j + 1)).flatten ∧ Below w.heap.size w w') := ⟨by rw [hst.out]; exact hown', hB.trans hb2⟩
          have HRUN := Lib.hid hrun
          have hj2 : (j : Int) < (k : Int) := by omega
          clear hg hc hy hr hrun hown' hb2 hle h6 hO hB hst
          generalize ys.length = m at *
          go_wp2_with (at_builtin; (with_reducible refine wpList_append_run (o := ⟨some 33, _, _, _, _, _⟩) ?_ (.tmp 31) (.tmp 32) ?_ ?_ ?_ ?_ HRUN.out ?_); (rfl); (rfl); (rfl); (rfl); (rfl))
          go_roundw
          case rel => exact ⟨j + 1, by omega, by go_num, HN⟩
          case measure => simp [intOf]; omega
        · obtain rfl : j = k := by omega
          have hge : ¬ (j : Int) < (j : Int) := by omega
          have hT : xss.take j = xss := List.take_of_length_le (by rw [HL.out]; exact Nat.le_refl _)
          rw [hT] at hO
          have HO2 := Lib.hid hO
          have HB2 := Lib.hid hB
          clear hO hB hT
          go_wp2
          go_ret
          exact ⟨⟨_, rfl, HO2.out⟩, HB2.out⟩
theorem bytes_src {u : World} {B g k : Nat} {xs : List Int} (hg : g < B) (h : SrcAt u ⟨g, k, none⟩ (xs.map u8v)) : Bytes u B (some ⟨g, k, none⟩) xs := fun _ => ⟨_, rfl, hg, h⟩
def PartsAt (w : World) (B g k : Nat) (xss : List (List Int)) : Prop := ∀ (j : Nat) (xs : List Int), xss[j]? = some xs → ∃ (a : Option Addr) (c : Nat), w.cell? ⟨g, k + j, none⟩ = some (.slice a xs.length c) ∧ Bytes w B a xs ∧ ∀ x ∈ xs, 0 ≤ x ∧ x ≤ 255
theorem PartsAt.nil {w : World} {B g k : Nat} : PartsAt w B g k [] := fun j xs h => by simp at h
theorem PartsAt.cons {w : World} {B g k n c : Nat} {a : Option Addr} {xs : List Int} {xss : List (List Int)} (hc : w.cell? ⟨g, k, none⟩ = some (.slice a n c)) (hn : xs.length = n) (hx : Bytes w B a xs) (hr : ∀ x ∈ xs, 0 ≤ x ∧ x ≤ 255) (h : PartsAt w B g (k + 1) xss) : PartsAt w B g k (xs :: xss) := by
  subst hn
  intro j ys hj
  cases j with
  | zero =>
    obtain rfl : xs = ys := by simpa using hj
    exact ⟨a, c, hc, hx, hr⟩
  | succ j =>
    obtain ⟨a', c', h1, h2, h3⟩ := h j ys (by simpa using hj)
    exact ⟨a', c', by rw [show k + (j + 1) = k + 1 + j by omega]; exact h1, h2, h3⟩
theorem parts_of_at {w : World} {B g : Nat} {xss : List (List Int)} (hg : g < B) (h : PartsAt w B g 0 xss) : Parts w B (some ⟨g, 0, none⟩) xss := by
  intro k xs hk
  obtain ⟨a, c, h1, h2, h3⟩ := h k xs hk
  exact ⟨g, 0, a, c, rfl, hg, h1, h2, h3⟩
end Go.Proofs.YtmpjgfecnnefeaaDoor

namespace Go.Proofs.YtmpjgfecnnefeaaDoor
set_option maxRecDepth 8000
open Go.RowKit

section
variable {a : Act} {dst : Option Tmp} {x0 x1 x2 x3 x4 x5 x6 x7 : Operand} {ty : TypeId} {pos : String} {after : Array Edge} {gd : Option (Nat × Bool)}
def row8 (A0 A1 A2 A3 A4 A5 A6 A7 : Option Addr) (n0 c0 n1 c1 n2 c2 n3 c3 n4 c4 n5 c5 n6 c6 n7 c7 : Nat) : Array Value := #[.slice A0 n0 c0, .slice A1 n1 c1, .slice A2 n2 c2, .slice A3 n3 c3, .slice A4 n4 c4, .slice A5 n5 c5, .slice A6 n6 c6, .slice A7 n7 c7]
theorem FAt_rows8 {A0 A1 A2 A3 A4 A5 A6 A7 : Option Addr} {n0 c0 n1 c1 n2 c2 n3 c3 n4 c4 n5 c5 n6 c6 n7 c7 : Nat} (h0 : a.eval x0 = .slice A0 n0 c0) (h1 : a.eval x1 = .slice A1 n1 c1) (h2 : a.eval x2 = .slice A2 n2 c2) (h3 : a.eval x3 = .slice A3 n3 c3) (h4 : a.eval x4 = .slice A4 n4 c4) (h5 : a.eval x5 = .slice A5 n5 c5) (h6 : a.eval x6 = .slice A6 n6 c6) (h7 : a.eval x7 = .slice A7 n7 c7) (u : World) :
    FAt Tryd.prog ⟨dst, .buildSlice 65 8 #[(0, x0), (1, x1), (2, x2), (3, x3), (4, x4), (5, x5), (6, x6), (7, x7)], ty, pos, after, gd⟩ a (fun v N => ∃ g, v = .slice (some ⟨g, 0, none⟩) 8 8 ∧ N = [(g, Obj.cells (row8 A0 A1 A2 A3 A4 A5 A6 A7 n0 c0 n1 c1 n2 c2 n3 c3 n4 c4 n5 c5 n6 c6 n7 c7) 30 (0, 0))]) u := by
  have h : (execOp a.eval ⟨dst, .buildSlice 65 8 #[(0, x0), (1, x1), (2, x2), (3, x3), (4, x4), (5, x5), (6, x6), (7, x7)], ty, pos, after, gd⟩).run Tryd.prog u = .ok (.value (.slice (some ⟨u.heap.size, 0, none⟩) 8 8)) (u.alloc (.cells (row8 A0 A1 A2 A3 A4 A5 A6 A7 n0 c0 n1 c1 n2 c2 n3 c3 n4 c4 n5 c5 n6 c6 n7 c7) 30)) := by
    unfold execOp row8
    simp only [List.map_toArray, List.map_cons, List.map_nil, h0, h1, h2, h3, h4, h5, h6, h7]
    go_simp
  unfold FAt
  rw [h]
  refine ⟨(Below.refl _ _).alloc (Nat.le_refl _) _, _, ⟨_, rfl, rfl⟩, fun y hy => ?_⟩
  cases List.mem_singleton.1 hy
  exact ⟨Nat.le_refl _, heap_alloc_new u _⟩
end
set_option maxRecDepth 20000 in
set_option maxHeartbeats 8000000 in
theorem hput_no (h : Hd) (w : World) (hh : okHd h) (k : mayPut h = false) :
    Calls Tryd.prog 10 #[hdV h] w fun e w' => (∃ v, e = .returned (.tuple #[v, .bool (putH h).2]) ∧ OwnB w' w.heap.size v (putH h).1) ∧ Below w.heap.size w w' := by
  have hp : putH h = ([], false) := by unfold putH; rw [if_neg (by rw [k]; exact Bool.noConfusion)]
  rw [hp]
  have E1 : Hid (EnvX w (w.alloc (.cells (hdA h) 29)) [(w.heap.size, Obj.cells (hdA h) 29 (0, 0))]) := (EnvX.start w).new _
  have HMH : Hid (∀ u, Calls Tryd.prog 29 #[.int .i64 h.height] u fun e w' => e = .returned (.bool (mayPut h)) ∧ Below u.heap.size u w') := fun u => mayh_any h.height u
  rw [k] at HMH
  clear hh k hp
  unfold hdV
  go_enter Tryd.func10, Tryd.ntmps10
  go_upto_region 1 with (fail)
  generalize w.alloc (.cells (hdA h) 29) = W at *
  refine wp_region_Hx (w0 := w) [0, 1, 2, 3] [(w.heap.size, Obj.cells (hdA h) 29 (0, 0))] rfl E1.out ?_
  refine lexH_phase [0, 1, 2, 3] [] ?_
  have hw1 : EnvX w _ [(w.heap.size, Obj.cells (hdA h) 29 (0, 0))] := E1.out
  have hone := @EnvC.one _ _ _ hw1
  (refine wpG_op rfl rfl rfl ?_; intro K hK; go_big_quiet_op; go_big_quiet_on)
  (refine wpG_val (v := .int .i64 h.height) rfl rfl (fun u hu => load_any_op u (box_hd_height hu (List.Mem.head _)) rfl) ?_ hw1; intro K hK; go_big_quiet_op; go_big_quiet_on)
  (refine wpG_call (f := 29) (args := #[.int .i64 h.height]) (v := .bool false) rfl rfl rfl Tryd.func29 rfl rfl (fun u hu => HMH.out u) ?_ hw1; intro K hK; go_big_quiet_op; go_big_quiet_on)
  (refine wpG_op rfl rfl rfl ?_; intro K hK; go_big_quiet_op; go_big_quiet_on)
  clear hone hw1
  refine wpG_nil ?_
  intro u3 E2'
  have EX2 := Lib.hid E2'
  clear E2'
  have HBE := Lib.hid (EnvX.bel EX2.out)
  go_wp2
  go_returns
  exact ⟨⟨_, rfl, OwnB.nil _ _⟩, HBE.out⟩
set_option maxRecDepth 20000 in
set_option maxHeartbeats 8000000 in
theorem hput_yes (h : Hd) (w : World) (hh : okHd h) (k : mayPut h = true) :
    Calls Tryd.prog 10 #[hdV h] w fun e w' => (∃ v, e = .returned (.tuple #[v, .bool (putH h).2]) ∧ OwnB w' w.heap.size v (putH h).1) ∧ Below w.heap.size w w' := by
  have hp : putH h = (bodyH h, true) := by unfold putH; rw [if_pos k]
  rw [hp]
  have hm : 0 ≤ h.height ∧ h.height ≤ 1048576 := of_decide_eq_true k
  have HL := Lib.hid hh.len
  have HOK := Lib.hid hh
  have HBL := Lib.hid (And.intro (body_len hh) (body_byte hh))
  have HU : Hid (h.height.toNat < 18446744073709551616 ∧ IntKind.u64.wrap h.height = ((h.height.toNat : Nat) : Int)) := by
    rw [IntKind.wrap_u64]
    exact ⟨by omega, by omega⟩
  have HN32 : Hid (h.bits < 18446744073709551616 ∧ IntKind.u64.wrap (h.bits : Int) = ((h.bits : Nat) : Int)) := by
    have := hh.2.2.2.2.2.2.1
    rw [IntKind.wrap_u64]
    exact ⟨by omega, by omega⟩
  have HN64 : Hid (h.nonce < 18446744073709551616) := hh.2.2.2.2.2.2.2
  have HBY : Hid (∀ u, Calls Tryd.prog 30 #[.agg (wcs h.work)] u fun e w' => e = .returned (.agg (arrB 32 (bytesW h.work))) ∧ Below u.heap.size u w') := fun u => bytes_any h.work u
  have HPT : Hid (∀ (n k : Nat), n < 18446744073709551616 → k ≤ 8 → ∀ u, Calls Tryd.prog 32 #[.int .u64 (n : Int), .int .i64 k] u fun e w' => (∃ v, e = .returned v ∧ OwnB w' u.heap.size v (putL n k)) ∧ Below u.heap.size u w') := fun n k hn hk u => put_any n k u hn hk
  have HCC : Hid (∀ u g, Parts u u.heap.size (some ⟨g, 0, none⟩) [putL h.height.toNat 4, h.prev, h.links, h.txs, h.past, bytesW h.work, putL h.bits 4, putL h.nonce 8] → Calls Tryd.prog 31 #[.slice (some ⟨g, 0, none⟩) 8 8] u fun e w' => (∃ v, e = .returned v ∧ w'.ownsRow u.heap.size 5 1 v 176 ((bodyH h).map u8v)) ∧ Below u.heap.size u w') := fun u g hP => by
    have hf : ([putL h.height.toNat 4, h.prev, h.links, h.txs, h.past, bytesW h.work, putL h.bits 4, putL h.nonce 8] : List (List Int)).flatten = bodyH h := by simp [bodyH]
    have hl := body_len hh
    have k := concat_any (some ⟨g, 0, none⟩) 8 8 _ u rfl hP (by omega) (by rw [hf, hl]; omega) (by rw [hf, hl]; omega)
    rw [hf] at k
    unfold OwnB at k
    rwa [hl] at k
  have HZ : Hid ((arrB 32 (bytesW h.work)).size = 32) := arrB_size _ _ (by rw [bytesW_len]; omega)
  have HSW : Hid (((arrB 32 (bytesW h.work)).toList.drop 0).take ((bytesW h.work).map u8v).length = (bytesW h.work).map u8v) := by
    show _ = _
    rw [arrId_map (bytesW_len _), List.drop_zero, List.take_length]
  clear hm
  have E1 : Hid (EnvX w (w.alloc (.cells (hdA h) 29)) [(w.heap.size, Obj.cells (hdA h) 29 (0, 0))]) := (EnvX.start w).new _
  have HMH : Hid (∀ u, Calls Tryd.prog 29 #[.int .i64 h.height] u fun e w' => e = .returned (.bool (mayPut h)) ∧ Below u.heap.size u w') := fun u => mayh_any h.height u
  rw [k] at HMH
  clear hh k hp
  unfold hdV
  go_enter Tryd.func10, Tryd.ntmps10
  go_upto_region 1 with (fail)
  generalize w.alloc (.cells (hdA h) 29) = W at *
  refine wp_region_Hx (w0 := w) [0, 1, 2, 3] [(w.heap.size, Obj.cells (hdA h) 29 (0, 0))] rfl E1.out ?_
  refine lexH_phase [0, 1, 2, 3] [] ?_
  have hw1 : EnvX w _ [(w.heap.size, Obj.cells (hdA h) 29 (0, 0))] := E1.out
  have hone := @EnvC.one _ _ _ hw1
  (refine wpG_op rfl rfl rfl ?_; intro K hK; go_big_quiet_op; go_big_quiet_on)
  (refine wpG_val (v := .int .i64 h.height) rfl rfl (fun u hu => load_any_op u (box_hd_height hu (List.Mem.head _)) rfl) ?_ hw1; intro K hK; go_big_quiet_op; go_big_quiet_on)
  (refine wpG_call (f := 29) (args := #[.int .i64 h.height]) (v := .bool true) rfl rfl rfl Tryd.func29 rfl rfl (fun u hu => HMH.out u) ?_ hw1; intro K hK; go_big_quiet_op; go_big_quiet_on)
  (refine wpG_op rfl rfl rfl ?_; intro K hK; go_big_quiet_op; go_big_quiet_on)
  clear hone hw1
  refine wpG_nil ?_
  intro u3 E2'
  have EX2 := Lib.hid E2'
  clear E2'
  go_upto_region 3 with (fail)
  refine wp_region_Hx (w0 := w) [0, 1, 2, 3, 4] [(w.heap.size, Obj.cells (hdA h) 29 (0, 0))] rfl EX2.out ?_
  refine lexH_phase [0, 1, 2] [3, 4] ?_
  have hw4 : EnvX w _ [(w.heap.size, Obj.cells (hdA h) 29 (0, 0))] := EX2.out
  have hone := @EnvC.one _ _ _ hw4
  (refine wpG_op rfl rfl rfl ?_; intro K hK; go_big_quiet_op; go_big_quiet_on)
  (refine wpG_val (v := .agg (wcs h.work)) rfl rfl (fun u hu => load_any_op u (box_hd_work hu (List.Mem.head _) HL.out) rfl) ?_ hw4; intro K hK; go_big_quiet_op; go_big_quiet_on)
  (refine wpG_call (f := 30) (args := #[.agg (wcs h.work)]) (v := .agg (arrB 32 (bytesW h.work))) rfl rfl rfl Tryd.func30 rfl rfl (fun u hu => HBY.out u) ?_ hw4; intro K hK; go_big_quiet_op; go_big_quiet_on)
  clear hone hw4
  refine wpG_nil ?_
  refine (hOp_fresh (R := fun x N => ∃ g, x = .pointer (some ⟨g, 0, none⟩) ∧ N = [(g, Obj.cells (arrB 32 []) 23 (0, 0))]) (M0 := [(w.heap.size, Obj.cells (hdA h) 29 (0, 0))]) rfl rfl (fun _ h => h) (fun u hu => FAt_new (new_id _) u) ?_)
  rintro _ _ ⟨gw, rfl, rfl⟩ hf he5; intro K' hK'; go_big_quiet_op; go_big_quiet_on
  have HGW := Lib.hid (hf _ (List.mem_singleton.2 rfl))
  clear hf
  change lexH _ _ _ _ _ _ [(gw, Obj.cells (arrB 32 []) 23 (0, 0)), (w.heap.size, Obj.cells (hdA h) 29 (0, 0))]
  refine (hOp_store rfl (gw) (arrB 32 (bytesW h.work)) rfl rfl HGW.out.1 23 ((arrB 32 [])) (List.Mem.head _) (info26 _ HZ.out) ((arrB_size _ _ (by simp)).trans HZ.out.symm) (arrB_one _ _) [(gw, Obj.cells (arrB 32 (bytesW h.work)) 23 (0, 0)), (w.heap.size, Obj.cells (hdA h) 29 (0, 0))] (List.forall_mem_cons.2 ⟨.inl rfl, fun y hy => .inr ⟨List.mem_cons_of_mem _ hy, HGW.out.2 y hy⟩⟩) ?_)
  intro he6
  intro u8 E2'
  have EX7 := Lib.hid E2'
  clear E2'
  go_upto_region 4 with (fail)
  refine wp_region_H (w0 := w) [(gw, Obj.cells (arrB 32 (bytesW h.work)) 23 (0, 0)), (w.heap.size, Obj.cells (hdA h) 29 (0, 0))] (by kernel_rfl) EX7.out ?_
  refine anyH_phase [0, 1, 2, 4, 5, 6, 7, 8, 9, 10, 11, 12, 13, 14, 15, 17, 18] 7 rfl ⟨_, (EnvX.drew EX7.out)⟩ (by kernel_rfl) ?_
  have hw9 : EnvX w _ [(gw, Obj.cells (arrB 32 (bytesW h.work)) 23 (0, 0)), (w.heap.size, Obj.cells (hdA h) 29 (0, 0))] := (EnvX.drew EX7.out)
  have hone := @EnvC.one _ _ _ hw9
  (refine wpG_op rfl rfl rfl ?_; intro K hK; go_big_quiet_op; go_big_quiet_on)
  (refine wpG_val (v := .int .i64 h.height) rfl rfl (fun u hu => load_any_op u (box_hd_height hu (List.Mem.tail _ (List.Mem.head _))) rfl) ?_ hw9; intro K hK; go_big_quiet_op; go_big_quiet_on)
  (refine wpG_val (v := .int .u64 ((h.height.toNat : Nat) : Int)) rfl rfl (fun u hu => conv_u64_op u HU.out.2 rfl) ?_ hw9; intro K hK; go_big_quiet_op; go_big_quiet_on)
  (refine wpG_op rfl rfl rfl ?_; intro K hK; go_big_quiet_op; go_big_quiet_on)
  (refine wpG_val (v := .slice (some ⟨w.heap.size, 1, none⟩) 32 32) rfl rfl (fun u hu => sliceArr_op u rfl) ?_ hw9; intro K hK; go_big_quiet_op; go_big_quiet_on)
  (refine wpG_op rfl rfl rfl ?_; intro K hK; go_big_quiet_op; go_big_quiet_on)
  (refine wpG_val (v := .slice (some ⟨w.heap.size, 33, none⟩) 32 32) rfl rfl (fun u hu => sliceArr_op u rfl) ?_ hw9; intro K hK; go_big_quiet_op; go_big_quiet_on)
  (refine wpG_op rfl rfl rfl ?_; intro K hK; go_big_quiet_op; go_big_quiet_on)
  (refine wpG_val (v := .slice (some ⟨w.heap.size, 65, none⟩) 32 32) rfl rfl (fun u hu => sliceArr_op u rfl) ?_ hw9; intro K hK; go_big_quiet_op; go_big_quiet_on)
  (refine wpG_op rfl rfl rfl ?_; intro K hK; go_big_quiet_op; go_big_quiet_on)
  (refine wpG_val (v := .slice (some ⟨w.heap.size, 97, none⟩) 32 32) rfl rfl (fun u hu => sliceArr_op u rfl) ?_ hw9; intro K hK; go_big_quiet_op; go_big_quiet_on)
  (refine wpG_val (v := .slice (some ⟨gw, 0, none⟩) 32 32) rfl rfl (fun u hu => sliceArr_op u rfl) ?_ hw9; intro K hK; go_big_quiet_op; go_big_quiet_on)
  (refine wpG_op rfl rfl rfl ?_; intro K hK; go_big_quiet_op; go_big_quiet_on)
  (refine wpG_val (v := .int .u32 (h.bits : Int)) rfl rfl (fun u hu => load_any_op u (box_hd_bits hu (List.Mem.tail _ (List.Mem.head _)) HL.out) rfl) ?_ hw9; intro K hK; go_big_quiet_op; go_big_quiet_on)
  (refine wpG_val (v := .int .u64 ((h.bits : Nat) : Int)) rfl rfl (fun u hu => conv32_op u HN32.out.2 rfl) ?_ hw9; intro K hK; go_big_quiet_op; go_big_quiet_on)
  (refine wpG_op rfl rfl rfl ?_; intro K hK; go_big_quiet_op; go_big_quiet_on)
  (refine wpG_val (v := .int .u64 (h.nonce : Int)) rfl rfl (fun u hu => load_any_op u (box_hd_nonce hu (List.Mem.tail _ (List.Mem.head _)) HL.out) rfl) ?_ hw9; intro K hK; go_big_quiet_op; go_big_quiet_on)
  clear hone hw9
  refine wpG_nil ?_
  refine anyH_one (i := 3) (by kernel_rfl) (hOp_fresh (R := FreshR 5 1 4 ((putL h.height.toNat 4).map u8v)) (M0 := [(gw, Obj.cells (arrB 32 (bytesW h.work)) 23 (0, 0)), (w.heap.size, Obj.cells (hdA h) 29 (0, 0))]) rfl rfl (fun _ h => h) (fun u hu => FAt_call (fid := 32) (xs := #[.tmp 14, .const (Value.int IntKind.i64 4)]) (args := #[.int .u64 ((h.height.toNat : Nat) : Int), .int .i64 4]) rfl Tryd.func32 rfl rfl u (by have h := callsR_fresh (HPT.out h.height.toNat 4 HU.out.1 (by omega) u); rw [putL_len] at h; exact h)) ?_)
  rintro x N hF hf he10; intro K' hK'; go_big_quiet_op; go_big_quiet_on
  obtain ⟨g0, capg0, curg0, rfl, rfl, hcg0⟩ | ⟨_, _, h0, _⟩ := hF
  case inr => cases h0
  have HCg0 := Lib.hid hcg0
  clear hcg0
  clear hf
  change anyH _ _ _ _ _ _ _ _ [(g0, Obj.cells curg0 5 (0, 0)), (gw, Obj.cells (arrB 32 (bytesW h.work)) 23 (0, 0)), (w.heap.size, Obj.cells (hdA h) 29 (0, 0))]
  refine anyH_one (i := 16) (by kernel_rfl) (hOp_fresh (R := FreshR 5 1 4 ((putL h.bits 4).map u8v)) (M0 := [(g0, Obj.cells curg0 5 (0, 0)), (gw, Obj.cells (arrB 32 (bytesW h.work)) 23 (0, 0)), (w.heap.size, Obj.cells (hdA h) 29 (0, 0))]) rfl rfl (fun _ h => h) (fun u hu => FAt_call (fid := 32) (xs := #[.tmp 27, .const (Value.int IntKind.i64 4)]) (args := #[.int .u64 ((h.bits : Nat) : Int), .int .i64 4]) rfl Tryd.func32 rfl rfl u (by have h := callsR_fresh (HPT.out h.bits 4 HN32.out.1 (by omega) u); rw [putL_len] at h; exact h)) ?_)
  rintro x N hF hf he11; intro K' hK'; go_big_quiet_op; go_big_quiet_on
  obtain ⟨gp, capgp, curgp, rfl, rfl, hcgp⟩ | ⟨_, _, h0, _⟩ := hF
  case inr => cases h0
  have HCgp := Lib.hid hcgp
  clear hcgp
  clear hf
  change anyH _ _ _ _ _ _ _ _ [(gp, Obj.cells curgp 5 (0, 0)), (g0, Obj.cells curg0 5 (0, 0)), (gw, Obj.cells (arrB 32 (bytesW h.work)) 23 (0, 0)), (w.heap.size, Obj.cells (hdA h) 29 (0, 0))]
  refine anyH_one (i := 19) (by kernel_rfl) (hOp_fresh (R := FreshR 5 1 8 ((putL h.nonce 8).map u8v)) (M0 := [(gp, Obj.cells curgp 5 (0, 0)), (g0, Obj.cells curg0 5 (0, 0)), (gw, Obj.cells (arrB 32 (bytesW h.work)) 23 (0, 0)), (w.heap.size, Obj.cells (hdA h) 29 (0, 0))]) rfl rfl (fun _ h => h) (fun u hu => FAt_call (fid := 32) (xs := #[.tmp 30, .const (Value.int IntKind.i64 8)]) (args := #[.int .u64 ((h.nonce : Nat) : Int), .int .i64 8]) rfl Tryd.func32 rfl rfl u (by have h := callsR_fresh (HPT.out h.nonce 8 HN64.out (by omega) u); rw [putL_len] at h; exact h)) ?_)
  rintro x N hF hf he12; intro K' hK'; go_big_quiet_op; go_big_quiet_on
  obtain ⟨gq, capgq, curgq, rfl, rfl, hcgq⟩ | ⟨_, _, h0, _⟩ := hF
  case inr => cases h0
  have HCgq := Lib.hid hcgq
  clear hcgq
  clear hf
  change anyH _ _ _ _ _ _ _ _ [(gq, Obj.cells curgq 5 (0, 0)), (gp, Obj.cells curgp 5 (0, 0)), (g0, Obj.cells curg0 5 (0, 0)), (gw, Obj.cells (arrB 32 (bytesW h.work)) 23 (0, 0)), (w.heap.size, Obj.cells (hdA h) 29 (0, 0))]
  refine anyH_one (i := 20) (by kernel_rfl) (hOp_fresh (R := fun v N => ∃ g, v = .slice (some ⟨g, 0, none⟩) 8 8 ∧ N = [(g, Obj.cells (row8 (some ⟨g0, 0, none⟩) (some ⟨w.heap.size, 1, none⟩) (some ⟨w.heap.size, 33, none⟩) (some ⟨w.heap.size, 65, none⟩) (some ⟨w.heap.size, 97, none⟩) (some ⟨gw, 0, none⟩) (some ⟨gp, 0, none⟩) (some ⟨gq, 0, none⟩) 4 capg0 32 32 32 32 32 32 32 32 32 32 4 capgp 8 capgq) 30 (0, 0))]) (M0 := [(gq, Obj.cells curgq 5 (0, 0)), (gp, Obj.cells curgp 5 (0, 0)), (g0, Obj.cells curg0 5 (0, 0)), (gw, Obj.cells (arrB 32 (bytesW h.work)) 23 (0, 0)), (w.heap.size, Obj.cells (hdA h) 29 (0, 0))]) rfl rfl (fun _ h => h) (fun u hu => FAt_rows8 rfl rfl rfl rfl rfl rfl rfl rfl u) ?_)
  rintro _ _ ⟨gr, rfl, rfl⟩ hf he13; intro K' hK'; go_big_quiet_op; go_big_quiet_on
  clear hf
  change anyH _ _ _ _ _ _ _ _ [(gr, Obj.cells (row8 (some ⟨g0, 0, none⟩) (some ⟨w.heap.size, 1, none⟩) (some ⟨w.heap.size, 33, none⟩) (some ⟨w.heap.size, 65, none⟩) (some ⟨w.heap.size, 97, none⟩) (some ⟨gw, 0, none⟩) (some ⟨gp, 0, none⟩) (some ⟨gq, 0, none⟩) 4 capg0 32 32 32 32 32 32 32 32 32 32 4 capgp 8 capgq) 30 (0, 0)), (gq, Obj.cells curgq 5 (0, 0)), (gp, Obj.cells curgp 5 (0, 0)), (g0, Obj.cells curg0 5 (0, 0)), (gw, Obj.cells (arrB 32 (bytesW h.work)) 23 (0, 0)), (w.heap.size, Obj.cells (hdA h) 29 (0, 0))]
  refine anyH_one (i := 21) (by kernel_rfl) (hOp_fresh (R := FreshR 5 1 176 ((bodyH h).map u8v)) (M0 := [(gr, Obj.cells (row8 (some ⟨g0, 0, none⟩) (some ⟨w.heap.size, 1, none⟩) (some ⟨w.heap.size, 33, none⟩) (some ⟨w.heap.size, 65, none⟩) (some ⟨w.heap.size, 97, none⟩) (some ⟨gw, 0, none⟩) (some ⟨gp, 0, none⟩) (some ⟨gq, 0, none⟩) 4 capg0 32 32 32 32 32 32 32 32 32 32 4 capgp 8 capgq) 30 (0, 0)), (gq, Obj.cells curgq 5 (0, 0)), (gp, Obj.cells curgp 5 (0, 0)), (g0, Obj.cells curg0 5 (0, 0)), (gw, Obj.cells (arrB 32 (bytesW h.work)) 23 (0, 0)), (w.heap.size, Obj.cells (hdA h) 29 (0, 0))]) rfl rfl (fun _ h => h) (fun u hu => FAt_call (fid := 31) (xs := #[.tmp 32]) (args := #[.slice (some ⟨gr, 0, none⟩) 8 8]) rfl Tryd.func31 rfl rfl u (callsR_fresh (HCC.out u gr (parts_of_at (EnvX.lt hu (List.Mem.head _)) (PartsAt.cons (by have h := box_cell (k := 0) hu (List.Mem.head _) rfl; exact h) (putL_len _ _) (boxR_bytes hu (List.Mem.tail _ (List.Mem.tail _ (List.Mem.tail _ (List.Mem.head _)))) (putL_len _ _) HCg0.out) (putL_byte _ 4) (PartsAt.cons (by have h := box_cell (k := 1) hu (List.Mem.head _) rfl; exact h) HL.out.1 (bytes_src (EnvX.lt hu (List.Mem.tail _ (List.Mem.tail _ (List.Mem.tail _ (List.Mem.tail _ (List.Mem.tail _ (List.Mem.head _))))))) (src_box hu (List.Mem.tail _ (List.Mem.tail _ (List.Mem.tail _ (List.Mem.tail _ (List.Mem.tail _ (List.Mem.head _)))))) (src_hd_prev HL.out))) HOK.out.2.1.2 (PartsAt.cons (by have h := box_cell (k := 2) hu (List.Mem.head _) rfl; exact h) HL.out.2.1 (bytes_src (EnvX.lt hu (List.Mem.tail _ (List.Mem.tail _ (List.Mem.tail _ (List.Mem.tail _ (List.Mem.tail _ (List.Mem.head _))))))) (src_box hu (List.Mem.tail _ (List.Mem.tail _ (List.Mem.tail _ (List.Mem.tail _ (List.Mem.tail _ (List.Mem.head _)))))) (src_hd_links HL.out))) HOK.out.2.2.1.2 (PartsAt.cons (by have h := box_cell (k := 3) hu (List.Mem.head _) rfl; exact h) HL.out.2.2.1 (bytes_src (EnvX.lt hu (List.Mem.tail _ (List.Mem.tail _ (List.Mem.tail _ (List.Mem.tail _ (List.Mem.tail _ (List.Mem.head _))))))) (src_box hu (List.Mem.tail _ (List.Mem.tail _ (List.Mem.tail _ (List.Mem.tail _ (List.Mem.tail _ (List.Mem.head _)))))) (src_hd_txs HL.out))) HOK.out.2.2.2.1.2 (PartsAt.cons (by have h := box_cell (k := 4) hu (List.Mem.head _) rfl; exact h) HL.out.2.2.2 (bytes_src (EnvX.lt hu (List.Mem.tail _ (List.Mem.tail _ (List.Mem.tail _ (List.Mem.tail _ (List.Mem.tail _ (List.Mem.head _))))))) (src_box hu (List.Mem.tail _ (List.Mem.tail _ (List.Mem.tail _ (List.Mem.tail _ (List.Mem.tail _ (List.Mem.head _)))))) (src_hd_past HL.out))) HOK.out.2.2.2.2.1.2 (PartsAt.cons (by have h := box_cell (k := 5) hu (List.Mem.head _) rfl; exact h) (bytesW_len _) (bytes_src (EnvX.lt hu (List.Mem.tail _ (List.Mem.tail _ (List.Mem.tail _ (List.Mem.tail _ (List.Mem.head _)))))) (src_box hu (List.Mem.tail _ (List.Mem.tail _ (List.Mem.tail _ (List.Mem.tail _ (List.Mem.head _))))) HSW.out)) (bytesW_byte _) (PartsAt.cons (by have h := box_cell (k := 6) hu (List.Mem.head _) rfl; exact h) (putL_len _ _) (boxR_bytes hu (List.Mem.tail _ (List.Mem.tail _ (List.Mem.head _))) (putL_len _ _) HCgp.out) (putL_byte _ 4) (PartsAt.cons (by have h := box_cell (k := 7) hu (List.Mem.head _) rfl; exact h) (putL_len _ _) (boxR_bytes hu (List.Mem.tail _ (List.Mem.head _)) (putL_len _ _) HCgq.out) (putL_byte _ 8) PartsAt.nil)))))))))))) ?_)
  rintro x N hF hf he14; intro K' hK'; go_big_quiet_op; go_big_quiet_on
  obtain ⟨gc, capc, curc, rfl, rfl, hcc⟩ | ⟨_, _, h0, _⟩ := hF
  case inr => cases h0
  have HCC2 := Lib.hid hcc
  have HGC := Lib.hid (hf _ (List.mem_singleton.2 rfl))
  clear hcc
  clear hf
  change anyH _ _ _ _ _ _ _ _ [(gc, Obj.cells curc 5 (0, 0)), (gr, Obj.cells (row8 (some ⟨g0, 0, none⟩) (some ⟨w.heap.size, 1, none⟩) (some ⟨w.heap.size, 33, none⟩) (some ⟨w.heap.size, 65, none⟩) (some ⟨w.heap.size, 97, none⟩) (some ⟨gw, 0, none⟩) (some ⟨gp, 0, none⟩) (some ⟨gq, 0, none⟩) 4 capg0 32 32 32 32 32 32 32 32 32 32 4 capgp 8 capgq) 30 (0, 0)), (gq, Obj.cells curgq 5 (0, 0)), (gp, Obj.cells curgp 5 (0, 0)), (g0, Obj.cells curg0 5 (0, 0)), (gw, Obj.cells (arrB 32 (bytesW h.work)) 23 (0, 0)), (w.heap.size, Obj.cells (hdA h) 29 (0, 0))]
  refine anyH_phase [22, 23] 0 rfl ⟨_, he14.choose_spec⟩ (by kernel_rfl) ?_
  have hw15 : EnvX w _ [(gc, Obj.cells curc 5 (0, 0)), (gr, Obj.cells (row8 (some ⟨g0, 0, none⟩) (some ⟨w.heap.size, 1, none⟩) (some ⟨w.heap.size, 33, none⟩) (some ⟨w.heap.size, 65, none⟩) (some ⟨w.heap.size, 97, none⟩) (some ⟨gw, 0, none⟩) (some ⟨gp, 0, none⟩) (some ⟨gq, 0, none⟩) 4 capg0 32 32 32 32 32 32 32 32 32 32 4 capgp 8 capgq) 30 (0, 0)), (gq, Obj.cells curgq 5 (0, 0)), (gp, Obj.cells curgp 5 (0, 0)), (g0, Obj.cells curg0 5 (0, 0)), (gw, Obj.cells (arrB 32 (bytesW h.work)) 23 (0, 0)), (w.heap.size, Obj.cells (hdA h) 29 (0, 0))] := he14.choose_spec
  have hone := @EnvC.one _ _ _ hw15
  (refine wpG_op rfl rfl rfl ?_; intro K hK; go_big_quiet_op; go_big_quiet_on)
  (refine wpG_op rfl rfl rfl ?_; intro K hK; go_big_quiet_op; go_big_quiet_on)
  clear hone hw15
  refine wpG_nil ?_
  refine anyH_done (by kernel_rfl) ?_
  intro u17 E2'
  have EX16 := Lib.hid E2'
  clear E2'
  go_wp2
  go_returns
  refine ⟨⟨_, rfl, ?_⟩, EnvX.bel EX16.out⟩
  unfold OwnB
  rw [HBL.out.1]
  exact ⟨by rw [List.length_map, HBL.out.1], .inr ⟨gc, capc, curc, rfl, HGC.out.1, EnvX.box EX16.out _ _ (List.Mem.head _), HCC2.out⟩⟩
theorem hput_any (h : Hd) (w : World) (hh : okHd h) :
    Calls Tryd.prog 10 #[hdV h] w fun e w' => (∃ v, e = .returned (.tuple #[v, .bool (putH h).2]) ∧ OwnB w' w.heap.size v (putH h).1) ∧ Below w.heap.size w w' := by
  cases k : mayPut h with
  | true => exact hput_yes h w hh k
  | false => exact hput_no h w hh k
end Go.Proofs.YtmpjgfecnnefeaaDoor
