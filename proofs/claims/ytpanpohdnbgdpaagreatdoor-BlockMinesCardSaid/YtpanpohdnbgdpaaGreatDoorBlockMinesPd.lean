/- Part of a proof. -/
import Derived.Test.YtpanpohdnbgdpaaGreatDoorBlockMinesPc
import Derived.Deep.Strs
namespace Go.Proofs.YtpanpohdnbgdpaaGreatDoor
set_option maxRecDepth 20000
set_option maxHeartbeats 8000000
open Go.RowKit
def eqH (a b : Hd) : Bool := decide (a = b)
theorem Hd.ext' {a b : Hd} (h0 : a.height = b.height) (h1 : a.prev = b.prev) (h2 : a.links = b.links) (h3 : a.txs = b.txs) (h4 : a.past = b.past) (h5 : a.work = b.work) (h6 : a.bits = b.bits) (h7 : a.nonce = b.nonce) : a = b := by
 cases a
 cases b
 simp only at h0 h1 h2 h3 h4 h5 h6 h7
 subst h0 h1 h2 h3 h4 h5 h6 h7
 rfl
theorem fieldsHd : (Tryz.prog.fieldsOf 29).toList.map (fun f => (f.name == "_", f.type, f.offset)) = [(false, 3, 0), (false, 23, 1), (false, 23, 33), (false, 23, 65), (false, 23, 97), (false, 26, 129), (false, 27, 133), (false, 24, 134)] := by kernel_rfl
theorem run_equal_hd (a b : Hd) (ha : okHd a) (hb : okHd b) (w : World) : (Op.equal 29 (hdV a) (hdV b)).run Tryz.prog w = .ok (eqH a b) w := by
 unfold Op.equal hdV
 have h := run_equalIn_struct (P := Tryz.prog) w 9999 29 (hdA a) (hdA b) (by kernel_rfl) (by kernel_rfl)
 refine Eq.trans h ?_
 have hf := fieldsHd
 generalize (Tryz.prog.fieldsOf 29).toList = fs at hf ⊢
 have hl : fs.length = 8 := by simpa using congrArg List.length hf
 obtain ⟨f0, f1, f2, f3, f4, f5, f6, f7, rfl⟩ : ∃ f0 f1 f2 f3 f4 f5 f6 f7, fs = [f0, f1, f2, f3, f4, f5, f6, f7] := by
  match fs, hl with
  | [a, b, c, d, e, f, g, h], _ => exact ⟨a, b, c, d, e, f, g, h, rfl⟩
 simp only [List.map_cons, List.map_nil, List.cons.injEq, Prod.mk.injEq, beq_eq_false_iff_ne, and_true] at hf
 obtain ⟨⟨n0, t0, o0⟩, ⟨n1, t1, o1⟩, ⟨n2, t2, o2⟩, ⟨n3, t3, o3⟩, ⟨n4, t4, o4⟩, ⟨n5, t5, o5⟩, ⟨n6, t6, o6⟩, n7, t7, o7⟩ := hf
 have la := ha.len
 have lb := hb.len
 have p0 : ∀ t : Hd, lenH t → (part 3 (hdA t) 0).run Tryz.prog w = .ok (.int .i64 t.height) w := fun t kt => run_part_plain (P := Tryz.prog) w (by kernel_rfl) (hdC_height t)
 have p1 : ∀ t : Hd, lenH t → (part 23 (hdA t) 1).run Tryz.prog w = .ok (.agg (arrB 32 t.prev)) w := fun t kt => run_part_agg aggIdT (by have := ext_list (hdC_prev kt); rwa [Array.toArray_toList] at this) w
 have p2 : ∀ t : Hd, lenH t → (part 23 (hdA t) 33).run Tryz.prog w = .ok (.agg (arrB 32 t.links)) w := fun t kt => run_part_agg aggIdT (by have := ext_list (hdC_links kt); rwa [Array.toArray_toList] at this) w
 have p3 : ∀ t : Hd, lenH t → (part 23 (hdA t) 65).run Tryz.prog w = .ok (.agg (arrB 32 t.txs)) w := fun t kt => run_part_agg aggIdT (by have := ext_list (hdC_txs kt); rwa [Array.toArray_toList] at this) w
 have p4 : ∀ t : Hd, lenH t → (part 23 (hdA t) 97).run Tryz.prog w = .ok (.agg (arrB 32 t.past)) w := fun t kt => run_part_agg aggIdT (by have := ext_list (hdC_past kt); rwa [Array.toArray_toList] at this) w
 have p5 : ∀ t : Hd, lenH t → (part 26 (hdA t) 129).run Tryz.prog w = .ok (.agg (wcs t.work)) w := fun t kt => run_part_agg aggWd (by have := ext_list (hdC_work kt); rwa [Array.toArray_toList] at this) w
 have p6 : ∀ t : Hd, lenH t → (part 27 (hdA t) 133).run Tryz.prog w = .ok (.int .u32 t.bits) w := fun t kt => run_part_plain (P := Tryz.prog) w (by kernel_rfl) (hdC_bits kt)
 have p7 : ∀ t : Hd, lenH t → (part 24 (hdA t) 134).run Tryz.prog w = .ok (.int .u64 t.nonce) w := fun t kt => run_part_plain (P := Tryz.prog) w (by kernel_rfl) (hdC_nonce kt)
 have e0 := run_equalIn_int (P := Tryz.prog) w 9998 3 .i64 .i64 a.height b.height Tryz.underlying3
 have e1 := run_equalIn_id 9997 a.prev b.prev la.1 lb.1 w
 have e2 := run_equalIn_id 9997 a.links b.links la.2.1 lb.2.1 w
 have e3 := run_equalIn_id 9997 a.txs b.txs la.2.2.1 lb.2.2.1 w
 have e4 := run_equalIn_id 9997 a.past b.past la.2.2.2 lb.2.2.2 w
 have e5 := run_equalIn_wide 9997 a.work b.work ha.2.2.2.2.2.1 hb.2.2.2.2.2.1 w
 have e6 := run_equalIn_int (P := Tryz.prog) w 9998 27 .u32 .u32 a.bits b.bits Tryz.underlying27
 have e7 := run_equalIn_int (P := Tryz.prog) w 9998 24 .u64 .u64 a.nonce b.nonce Tryz.underlying24
 have hd : eqH a b = ((a.height == b.height) && (eqL a.prev b.prev && (eqL a.links b.links && (eqL a.txs b.txs && (eqL a.past b.past && (eqN a.work b.work && (((a.bits : Int) == (b.bits : Int)) && ((a.nonce : Int) == (b.nonce : Int))))))))) := by
  unfold eqH eqL eqN
  rw [Bool.eq_iff_iff]
  simp only [decide_eq_true_eq, Bool.and_eq_true, beq_iff_eq, Int.natCast_inj]
  exact ⟨fun h => by subst h; exact ⟨rfl, rfl, rfl, rfl, rfl, rfl, rfl, rfl⟩, fun h => Hd.ext' h.1 h.2.1 h.2.2.1 h.2.2.2.1 h.2.2.2.2.1 h.2.2.2.2.2.1 h.2.2.2.2.2.2.1 h.2.2.2.2.2.2.2⟩
 rw [hd]
 rw [eqFields_step (a := .int .i64 a.height) (b := .int .i64 b.height) n0 (by rw [t0, o0]; exact p0 a la) (by rw [t0, o0]; exact p0 b lb) (by rw [t0]; exact e0)]
 cases hc0 : (a.height == b.height) with
 | false => rfl
 | true =>
  rw [if_pos rfl, eqFields_step (a := .agg (arrB 32 a.prev)) (b := .agg (arrB 32 b.prev)) n1 (by rw [t1, o1]; exact p1 a la) (by rw [t1, o1]; exact p1 b lb) (by rw [t1]; exact e1)]
  cases hc1 : eqL a.prev b.prev with
  | false => rfl
  | true =>
   rw [if_pos rfl, eqFields_step (a := .agg (arrB 32 a.links)) (b := .agg (arrB 32 b.links)) n2 (by rw [t2, o2]; exact p2 a la) (by rw [t2, o2]; exact p2 b lb) (by rw [t2]; exact e2)]
   cases hc2 : eqL a.links b.links with
   | false => rfl
   | true =>
    rw [if_pos rfl, eqFields_step (a := .agg (arrB 32 a.txs)) (b := .agg (arrB 32 b.txs)) n3 (by rw [t3, o3]; exact p3 a la) (by rw [t3, o3]; exact p3 b lb) (by rw [t3]; exact e3)]
    cases hc3 : eqL a.txs b.txs with
    | false => rfl
    | true =>
     rw [if_pos rfl, eqFields_step (a := .agg (arrB 32 a.past)) (b := .agg (arrB 32 b.past)) n4 (by rw [t4, o4]; exact p4 a la) (by rw [t4, o4]; exact p4 b lb) (by rw [t4]; exact e4)]
     cases hc4 : eqL a.past b.past with
     | false => rfl
     | true =>
      rw [if_pos rfl, eqFields_step (a := .agg (wcs a.work)) (b := .agg (wcs b.work)) n5 (by rw [t5, o5]; exact p5 a la) (by rw [t5, o5]; exact p5 b lb) (by rw [t5]; exact e5)]
      cases hc5 : eqN a.work b.work with
      | false => rfl
      | true =>
       rw [if_pos rfl, eqFields_step (a := .int .u32 a.bits) (b := .int .u32 b.bits) n6 (by rw [t6, o6]; exact p6 a la) (by rw [t6, o6]; exact p6 b lb) (by rw [t6]; exact e6)]
       cases hc6 : ((a.bits : Int) == (b.bits : Int)) with
       | false => rfl
       | true =>
        rw [if_pos rfl, eqFields_step (a := .int .u64 a.nonce) (b := .int .u64 b.nonce) n7 (by rw [t7, o7]; exact p7 a la) (by rw [t7, o7]; exact p7 b lb) (by rw [t7]; exact e7)]
        cases hc7 : ((a.nonce : Int) == (b.nonce : Int)) with
        | false => rfl
        | true =>
         rfl
theorem run_eql_hd (s t : Hd) (hs : okHd s) (ht : okHd t) (w : World) : (binOp .eql 29 (hdV s) (hdV t)).run Tryz.prog w = .ok (.bool (eqH s t)) w := by
 have h := run_equal_hd s t hs ht w
 unfold hdV at *
 simp only [binOp]
 simp [h]
theorem guardHd : Tryz.prog.eqGuardType Tryz.prog.depth 29 = false := by kernel_rfl
section
variable {a : Act} {dst : Option Tmp} {x y : Operand} {ty : TypeId} {pos : String} {after : Array Edge} {gd : Option (Nat × Bool)}
theorem eqlHd_op {s t : Hd} {b : Bool} (hs : okHd s) (ht : okHd t) (hb : eqH s t = b) (u : World) (hx : a.eval x = hdV s) (hy : a.eval y = hdV t) :
  (execOp a.eval ⟨dst, .binOp .eql 29 x y 29, ty, pos, after, gd⟩).run Tryz.prog u = .ok (.value (.bool b)) u := by
 have h := run_eql_hd s t hs ht u
 have hg := run_eqGuard_agg (P := Tryz.prog) u .eql 29 x y (hdA s) (hdA t) guardHd
 rw [← hb]
 unfold hdV at *
 unfold execOp
 simp only [hx, hy, Sem.run_bind, hg, Result.andThen_ok, h, Sem.run_pure]
end
theorem zero_hdA : hdA noHd = Tryz.zeroCells29 := by kernel_rfl
section
variable {dst : Option Tmp} {ty : TypeId} {pos : String} {after : Array Edge} {gd : Option (Nat × Bool)}
theorem new_hd (a : Act) : NewAt Tryz.prog ⟨dst, .alloc 29, ty, pos, after, gd⟩ a (.cells (hdA noHd) 29 (0, 0)) := fun u => by
 rw [zero_hdA]
 go_simp
end
theorem built_hd (h : Hd) (k : lenH h) : Tryz.prog.built 29 [(0, .int .i64 h.height), (1, idv h.prev), (2, idv h.links), (3, idv h.txs), (4, idv h.past), (5, .agg (wcs h.work)), (6, .int .u32 h.bits), (7, .int .u64 h.nonce)] = some (hdA h) := by
 have z1 : (arrB 32 h.prev).size = 32 := arrB_size _ _ (by rw [k.1]; omega)
 have z2 : (arrB 32 h.links).size = 32 := arrB_size _ _ (by rw [k.2.1]; omega)
 have z3 : (arrB 32 h.txs).size = 32 := arrB_size _ _ (by rw [k.2.2.1]; omega)
 have z4 : (arrB 32 h.past).size = 32 := arrB_size _ _ (by rw [k.2.2.2]; omega)
 have z5 := wc_size h.work
 have e : cellsOfP [(0, .int .i64 h.height), (1, idv h.prev), (2, idv h.links), (3, idv h.txs), (4, idv h.past), (5, .agg (wcs h.work)), (6, .int .u32 h.bits), (7, .int .u64 h.nonce)] = hdC h := by simp [cellsOfP, hdC, idv, Value.cells]
 have := built_struct (t := 29) (n := 135) Tryz.underlying29 (by kernel_rfl) (places := [(0, 1), (1, 32), (33, 32), (65, 32), (97, 32), (129, 4), (133, 1), (134, 1)]) (by kernel_rfl) (ps := [(0, .int .i64 h.height), (1, idv h.prev), (2, idv h.links), (3, idv h.txs), (4, idv h.past), (5, .agg (wcs h.work)), (6, .int .u32 h.bits), (7, .int .u64 h.nonce)]) (by
  refine ⟨?_, ?_, ?_, ?_, ?_, ?_, ?_, ?_, trivial⟩
  · rfl
  · show some (1, 32) = some (0 + 1, (arrB 32 h.prev).size)
    rw [z1]
  · show some (33, 32) = some (0 + 1 + (arrB 32 h.prev).size, (arrB 32 h.links).size)
    rw [z1, z2]
  · show some (65, 32) = some (0 + 1 + (arrB 32 h.prev).size + (arrB 32 h.links).size, (arrB 32 h.txs).size)
    rw [z1, z2, z3]
  · show some (97, 32) = some (0 + 1 + (arrB 32 h.prev).size + (arrB 32 h.links).size + (arrB 32 h.txs).size, (arrB 32 h.past).size)
    rw [z1, z2, z3, z4]
  · show some (129, 4) = some (0 + 1 + (arrB 32 h.prev).size + (arrB 32 h.links).size + (arrB 32 h.txs).size + (arrB 32 h.past).size, (wcs h.work).size)
    rw [z1, z2, z3, z4, z5]
  · show some (133, 1) = some (0 + 1 + (arrB 32 h.prev).size + (arrB 32 h.links).size + (arrB 32 h.txs).size + (arrB 32 h.past).size + (wcs h.work).size, 1)
    rw [z1, z2, z3, z4, z5]
  · show some (134, 1) = some (0 + 1 + (arrB 32 h.prev).size + (arrB 32 h.links).size + (arrB 32 h.txs).size + (arrB 32 h.past).size + (wcs h.work).size + 1, 1)
    rw [z1, z2, z3, z4, z5]) (by rw [e, hdC_len k])
 rw [this, e]
 rfl
theorem bytes_any (a : Nat) (w : World) :
  Rz 121 #[.agg (wcs a)] w (.agg (idF (bytesOf a))) := by
 unfold Rz
 go_enter Tryz.func121, Tryz.ntmps121
 go_wp2_with fail
 go_loopw [6] (fun i u => ∃ k : Nat, k ≤ 32 ∧ i = .int .i64 k ∧ Below w.heap.size w u ∧ Hid (Row u w.heap.size 26 (wcs a) ∧ Row u (w.heap.size + 1) 23 (arrB 32 []) ∧ Row u (w.heap.size + 1 + 1) 23 (idF (fun i => if i < k then bytesOf a i else 0)))) (fun i _ => 32 - (intOf i).toNat)
 case atStart =>
  refine ⟨0, by omega, rfl, by go_grown, ((Row.new w 26 _).alloc _).alloc _, (Row.newAt (by simp) 23 _).alloc _, ?_⟩
  have e : idF (fun i => if i < 0 then bytesOf a i else 0) = arrB 32 [] := by rw [idF_zero]; exact idF_congr _ _ (fun i _ => by simp)
  rw [e]
  exact Row.newAt (by simp) 23 _
 case round =>
  obtain ⟨k, hk, rfl, hbl, hrows⟩ := hrel
  obtain ⟨r0, r1, r2⟩ := hrows.out
  by_cases hlt : k < 32
  · have hk0 : (0 : Int) ≤ (k : Int) := by omega
    have hk4 : (k : Int) < 32 := by omega
    have e0 : wr.cell? ⟨w.heap.size, 3 - k / 8, none⟩ = some (.int .u64 (W a (3 - k / 8))) := (r0.cell _).trans (wc_get a _ (by omega))
    have e2 := (r2.cell k).trans (idF_get _ k hlt)
    have f2 := r2.frozen k
    have R0 := hD r0
    have R1 := hD r1
    have R2 := hD r2
    have hput : Hid ((idF (fun i => if i < k then bytesOf a i else 0)).setIfInBounds k (.int .u8 (bytesOf a k)) = idF (fun i => if i < k + 1 then bytesOf a i else 0)) := by
     show _ = _
     refine idF_put _ _ k _ hlt (by simp) (fun i _ hne => ?_)
     by_cases hik : i < k
     · rw [if_pos hik, if_pos (by omega)]
     · rw [if_neg hik, if_neg (by omega)]
    have q0 : 0 ≤ 3 - (k : Int) / 8 := by omega
    have q1 : 3 - (k : Int) / 8 < 4 := by omega
    have q2 : (0 : Int) ≤ 7 - (k : Int) % 8 := by omega
    have q3 : 7 - (k : Int) % 8 < 8 := by omega
    have hv : Hid ((W a (3 - k / 8) : Int) / 2 ^ (8 * (7 - k % 8)) % 256 = bytesOf a k) := by
     show _ = _
     unfold bytesOf
     rw [← byte_word a k hlt, shrW]
     omega
    have hW := W_lt a (3 - k / 8)
    clear r0 r1 r2 hrows
    generalize W a (3 - k / 8) = x at *
    generalize (if k < k then bytesOf a k else 0) = z at *
    have hx0 : (0 : Int) ≤ (x : Int) := by omega
    go_wp2_with (go_at_call 161; refine (ofbyte_any _ _ (by omega) (by omega)).mono ?_; rintro e w' ⟨rfl, rfl⟩)
    go_roundw
    case rel =>
     refine ⟨k + 1, by omega, by go_num, hbl.setCell (by simp; omega) _, R0.out.farAt (by omega) _, R1.out.farAt (by omega) _, ?_⟩
     rw [← hput.out, ← hv.out]
     exact R2.out.put k _
    case measure => simp [intOf]; omega
  · obtain rfl : k = 32 := by omega
    have hE : idF (fun i => if i < 32 then bytesOf a i else 0) = idF (bytesOf a) := idF_congr _ _ (fun i hi => by rw [if_pos hi])
    rw [hE] at r2
    have hsz := hD (idF_size (bytesOf a))
    have hz0 := hD (arrB_size 32 [] (by simp))
    have ho := hD (idF_one (bytesOf a))
    have R1 : Hid (wr.heap[w.heap.size + 1]? = some (.cells (arrB 32 []) 23 (0, 0))) := r1
    have R2 : Hid (wr.heap[w.heap.size + 1 + 1]? = some (.cells (idF (bytesOf a)) 23 (0, 0))) := r2
    clear r0 r1 r2 hrows hE
    generalize hE2 : idF (bytesOf a) = cs at *
    have HE := hD hE2
    clear hE2
    generalize arrB 32 [] = zs at *
    go_wp2_with (first
     | ((with_reducible refine wpList_load_row (o := ⟨some 23, _, _, _, _, _⟩) ?_ 23 (.tmp 3) ?_ (w.heap.size + 1 + 1) ?_ 23 cs (0, 0) _ R2.out Tryz.underlying23 ?_ (infoId cs hsz.out) ?_); (rfl); (rfl); (rfl); (rfl))
     | ((with_reducible refine wpList_store_row (o := ⟨none, .store 23 _ _, _, _, _, _⟩) ?_ 23 (.tmp 2) (.tmp 23) ?_ (w.heap.size + 1) cs ?_ ?_ 23 zs R1.out (infoId cs hsz.out) (by rw [hz0.out, hsz.out]) ho.out ?_); (rfl); (rfl); (rfl); (rfl))
     | ((with_reducible refine bodyPost_ret (v := .agg cs) ?_ ?_ ?_); (exact results_cell_row (p := 2) (ty := 23) Tryz.results121 _ _ (w.heap.size + 1) 23 cs (0, 0) _ rfl (setRow_heap _ _ zs cs 23 (0, 0) R1.out) Tryz.underlying23 rfl (infoId cs hsz.out)); (rfl)))
    exact ⟨by rw [HE.out], below_setRow hbl (by omega) _⟩
section
variable {a : Act} {dst : Option Tmp} {x : Operand} {ty : TypeId} {pos : String} {after : Array Edge} {gd : Option (Nat × Bool)}
theorem conv32_op {m : Nat} {k : Int} (u : World) (h : IntKind.u64.wrap k = (m : Int)) (hx : a.eval x = .int .u32 k) :
  (execOp a.eval ⟨dst, .convert 27 24 x, ty, pos, after, gd⟩).run Tryz.prog u = .ok (.value (.int .u64 (m : Int))) u := by
 rw [← h]
 unfold execOp
 simp only [hx]
 go_simp
end
section
variable {a : Act} {dst : Option Tmp} {x y : Operand} {ty : TypeId} {pos : String} {after : Array Edge} {gd : Option (Nat × Bool)}
end
theorem arr_idF {l : List Int} (hl : l.length = 32) (hb : isB l) : arrB 32 l = idF (fun i => (((l.getD i 0).toNat : Nat) : Int)) := by
 unfold idF
 congr 1
 apply List.ext_getElem?
 intro i
 unfold listF
 by_cases h1 : i < 32
 · rw [List.getElem?_map, List.getElem?_range h1, gE (by omega)]
   have := hb _ (List.getElem_mem (show i < l.length by omega))
   show some _ = some (((l.getD i 0).toNat : Nat) : Int)
   rw [gD, gE (by omega)]
   simp only [Option.getD_some]
   congr 1
   omega
 · rw [gN (by omega), gN (by rw [lM, List.length_range]; omega)]
theorem byte_toNat {l : List Int} (hb : isB l) (i : Nat) : (l.getD i 0).toNat < 256 := by
 rw [gD]
 cases h : l[i]? with
 | none => exact (by decide : (0 : Int).toNat < 256)
 | some x =>
  have := hb x (List.mem_of_getElem? h)
  simp only [Option.getD_some]
  omega
theorem id_len (h : Hd) : (idH h).length = 32 := by
 unfold idH
 split
 · exact sumL_len _
 · rfl
theorem id_byte (h : Hd) : isB (idH h) := by
 unfold idH
 split
 · exact sumL_byte _
 · intro y hy
   rw [List.eq_of_mem_replicate hy]
   decide
theorem hbuilt_w0 : Tryz.prog.built 26 [] = some (wcs 0) := by kernel_rfl
theorem okHd_nonce {h : Hd} (hh : okHd h) (k : Nat) : okHd (nonceAt h k) := ⟨hh.1, hh.2.1, hh.2.2.1, hh.2.2.2.1, hh.2.2.2.2.1, hh.2.2.2.2.2.1, hh.2.2.2.2.2.2.1, Nat.mod_lt _ (by omega)⟩
theorem mine_some {h : Hd} {tries : Int} {k : Nat} (hk : k < (min tries 200).toNat) (h0 : ∀ j, j < k → mayH (nonceAt h j) = false) (h1 : mayH (nonceAt h k) = true) : mineH h tries = (nonceAt h k, true) := by
 unfold mineH
 have e : (List.range (min tries 200).toNat).find? (fun k => mayH (nonceAt h k)) = some k := List.find?_range_eq_some.2 ⟨h1, List.mem_range.2 hk, fun j hj => by simp [h0 j hj]⟩
 rw [e]
theorem mine_none {h : Hd} {tries : Int} (h0 : ∀ j, j < (min tries 200).toNat → mayH (nonceAt h j) = false) : mineH h tries = (h, false) := by
 unfold mineH
 have e : (List.range (min tries 200).toNat).find? (fun k => mayH (nonceAt h k)) = none := List.find?_range_eq_none.2 (fun j hj => by simp [h0 j hj])
 rw [e]
section
variable {a : Act} {dst : Option Tmp} {x y : Operand} {ty : TypeId} {pos : String} {after : Array Edge} {gd : Option (Nat × Bool)}
end
open Go.ChangeShapes Go.WideShapes Go.ChangeAt Go.RowKit Go.Deep
theorem hcellsWide : Tryz.prog.cellsOf 26 = 4 := by kernel_rfl
theorem hcellsInt : Tryz.prog.cellsOf 3 = 1 := by kernel_rfl
theorem hcellsHd : Tryz.prog.cellsOf 29 = 135 := by kernel_rfl
theorem hcells32 : Tryz.prog.cellsOf 27 = 1 := by kernel_rfl
theorem hcells64 : Tryz.prog.cellsOf 24 = 1 := by kernel_rfl
section
variable {H : Type} {enc : TypeId × Value → H} {W : World} {base : Nat} {spare : Nat → Bool} {held : Bool} {fuel : Nat} {cs : List Value} {x : DataW H × List MemPlace}
theorem hwide_cells (h : DataW.trod enc Tryz.prog W base spare held fuel 26 cs = some x) : ∃ n : Nat, n < Big ∧ cs = (wcs n).toList := by
 obtain ⟨ys, m, _, _, hlen, hl, hall⟩ := DataW.trod_array Tryz.underlying26 h
 rw [hcellsWide] at hlen
 have hc : ∀ i, i < 4 → ∃ n : Int, cs[i]? = some (.int .u64 n) ∧ 0 ≤ n ∧ n < 18446744073709551616 := by
  intro i hi
  have h1 := hall i hi
  rw [gE (by omega : i < ys.length)] at h1
  obtain ⟨n, e, _, wf⟩ := DataW.trod_int Tryz.underlying24 h1
  refine ⟨n, ?_, ?_⟩
  · rw [hcells64, Nat.mul_one] at e
    have hi' : i < cs.length := by omega
    simp only [List.drop_eq_getElem_cons hi', List.take_succ_cons, List.take_zero, List.cons.injEq, and_true] at e
    rw [gE hi', e]
  · have := bounds_u64 wf
    omega
 obtain ⟨a, e0, a0, a1⟩ := hc 0 (by omega)
 obtain ⟨b, e1, b0, b1⟩ := hc 1 (by omega)
 obtain ⟨c, e2, c0, c1⟩ := hc 2 (by omega)
 obtain ⟨d, e3, d0, d1⟩ := hc 3 (by omega)
 have hcs : cs.toArray = arrW 4 [a, b, c, d] := by
  apply arrW_ext
  · simp
  · simpa using hlen
  · intro i hi
    rw [List.getElem?_toArray]
    rcases i with _ | _ | _ | _ | i
    · exact e0
    · exact e1
    · exact e2
    · exact e3
    · omega
 obtain ⟨n, hn, hw⟩ := wl_of [a, b, c, d] rfl (by
  intro k
  rcases k with _ | _ | _ | _ | k
  · exact ⟨a0, a1⟩
  · exact ⟨b0, b1⟩
  · exact ⟨c0, c1⟩
  · exact ⟨d0, d1⟩
  · simp)
 refine ⟨n, hn, ?_⟩
 have h2 : cs.toArray = wcs n := by rw [hcs, hw]; rfl
 rw [← h2]
theorem hd_cells (h : DataW.trod enc Tryz.prog W base spare held fuel 29 cs = some x) : ∃ t : Hd, okHd t ∧ cs = hdC t := by
 obtain ⟨xs, n, _, _, hl, hlen, hf⟩ := DataW.trod_struct Tryz.underlying29 h
 rw [hcellsHd] at hl
 obtain ⟨y0, y1, y2, y3, y4, y5, y6, y7, rfl⟩ : ∃ y0 y1 y2 y3 y4 y5 y6 y7, xs = [y0, y1, y2, y3, y4, y5, y6, y7] := by
  match xs, hlen with
  | [a, b, c, d, e, f, g, h], _ => exact ⟨a, b, c, d, e, f, g, h, rfl⟩
 obtain ⟨i0, e0, _, w0⟩ := DataW.trod_int Tryz.underlying3 (by simpa using hf 0 _ rfl)
 obtain ⟨p1, l1, b1, e1⟩ := id_cells (by simpa using hf 1 _ rfl)
 obtain ⟨p2, l2, b2, e2⟩ := id_cells (by simpa using hf 2 _ rfl)
 obtain ⟨p3, l3, b3, e3⟩ := id_cells (by simpa using hf 3 _ rfl)
 obtain ⟨p4, l4, b4, e4⟩ := id_cells (by simpa using hf 4 _ rfl)
 obtain ⟨n5, hn5, e5⟩ := hwide_cells (by simpa using hf 5 _ rfl)
 obtain ⟨i6, e6, _, w6⟩ := DataW.trod_int Tryz.underlying27 (by simpa using hf 6 _ rfl)
 obtain ⟨i7, e7, _, w7⟩ := DataW.trod_int Tryz.underlying24 (by simpa using hf 7 _ rfl)
 obtain ⟨n6, rfl⟩ : ∃ n : Nat, i6 = (n : Int) := Int.eq_ofNat_of_zero_le (bounds_u32 w6).1
 obtain ⟨n7, rfl⟩ : ∃ n : Nat, i7 = (n : Int) := Int.eq_ofNat_of_zero_le (bounds_u64 w7).1
 have hi : ∀ p : List Int, p.length = 32 → p.map u8v = (arrB 32 p).toList := fun p hp => (arrId_map hp).symm
 simp only [hcellsInt, hcells32, hcells64, hcellsWide, cellsOfId, hi p1 l1, hi p2 l2, hi p3 l3, hi p4 l4] at e0 e1 e2 e3 e4 e5 e6 e7
 refine ⟨⟨i0, p1, p2, p3, p4, n5, n6, n7⟩, ⟨bounds_i64 w0, ⟨l1, b1⟩, ⟨l2, b2⟩, ⟨l3, b3⟩, ⟨l4, b4⟩, hn5, by have := (bounds_u32 w6).2; show n6 < _; omega, by have := (bounds_u64 w7).2; show n7 < _; omega⟩, ?_⟩
 unfold hdC
 simp only
 rw [← e0, ← e1, ← e2, ← e3, ← e4, ← e5, ← e6, ← e7]
 have j : ∀ (o k : Nat) (r : List Value), cs.drop (o + k) = r → (cs.drop o).take k ++ r = cs.drop o := fun o k r hr => by rw [← hr, ← List.drop_drop, List.take_append_drop]
 have j7 : (cs.drop 134).take 1 = cs.drop 134 := tL (by rw [List.length_drop]; omega)
 rw [j7, j 133 1 _ rfl, j 129 4 _ rfl, j 97 32 _ rfl, j 65 32 _ rfl, j 33 32 _ rfl, ← List.drop_one, j 1 32 _ rfl]
 exact (List.take_append_drop 1 cs).symm
end
section
variable {H : Type} {enc : TypeId × Value → H} {W : World} {base : Nat} {v : Value} {d : DataW H} {p : List MemPlace}
end
def zeroHD {H : Type} : DataW H := .agg [.lit (.int .i64 0), .agg (List.replicate 32 (.lit (.int .u8 0))), .agg (List.replicate 32 (.lit (.int .u8 0))), .agg (List.replicate 32 (.lit (.int .u8 0))), .agg (List.replicate 32 (.lit (.int .u8 0))), .agg (List.replicate 4 (.lit (.int .u64 0))), .lit (.int .u32 0), .lit (.int .u64 0)]
theorem zTot_size : (totA zTot).size = 37 := by decide +kernel
theorem built_totH {h : List Int} (hh : h.length = 32) : Tryz.prog.built 56 [(0, idv h)] = some (totA ⟨h, 0, 0⟩) := by
 have hs : (arrB 32 h).size = 32 := arrB_size _ _ (by omega)
 have hz := elTot.info
 cases hq : Tryz.prog.info? 56 with
 | none => rw [hq] at hz; cases hz
 | some it =>
  rw [hq] at hz
  simp only [Option.map_some, Option.some.injEq, Prod.mk.injEq] at hz
  have hp : (Tryz.prog.fieldsOf 56).toList.mapM (fun f => (Tryz.prog.info? f.type).map fun i => (f.offset, i.size)) = some [(0, 32), (32, 4), (36, 1)] := by kernel_rfl
  have hu : Tryz.prog.underlying 56 = some (.struct (Tryz.prog.fieldsOf 56)) := by kernel_rfl
  unfold Program.built
  simp only [hq, hu, hz.1, hp]
  obtain ⟨r, hr, hl⟩ := fill_seq (place := (([(0, 32), (32, 4), (36, 1)] : List (Nat × Nat)).toArray[·]?)) [(0, idv h)] 0 (totA zTot) ⟨by show some (0, 32) = some (0, (arrB 32 h).size); rw [hs], trivial⟩ (by rw [zTot_size]; simp [cellsOfP, idv, Value.cells, hs])
  refine Eq.trans hr ?_
  congr 1
  apply Array.ext'
  rw [hl]
  have e : cellsOfP [(0, idv h)] = (arrB 32 h).toList := by simp [cellsOfP, idv, Value.cells]
  rw [e, List.take_zero, List.nil_append, Nat.zero_add, idA_list hh]
  show _ = (arrB 32 h).toList ++ ((wcs 0).toList ++ [.int .i64 0])
  congr 1
theorem TotsIn.up {w w' : World} {A : Option Addr} {l : List Tot} (h : TotsIn w w.heap.size A l) (hb : Below w.heap.size w w') : TotsIn w' w'.heap.size A l := CellsIn.up h hb
theorem TotsIn.nil (w : World) (B : Nat) (A : Option Addr) : TotsIn w B A [] := fun h => absurd h (by decide)
def OwnT (w : World) (B : Nat) (v : Value) (l : List Tot) : Prop := w.ownsRow B 56 37 v l.length (l.map totC).flatten
theorem OwnT.nil (w : World) (B : Nat) : OwnT w B (.slice none 0 0) [] := World.ownsRow_nil _ _ _ _
theorem flatT_len {l : List Tot} (h : okTs l) : (l.map totC).flatten.length = l.length * 37 := by rw [(rowsT h).flat_len, lM]
def intN (m : Nat) : Value := .int .i64 (m : Int)
def OwnZ (w : World) (B : Nat) (v : Value) (l : List Nat) : Prop := w.ownsRow B 3 1 v l.length (l.map intN)
theorem OwnZ.nil (w : World) (B : Nat) : OwnZ w B (.slice none 0 0) [] := World.ownsRow_nil _ _ _ _
section
variable {a : Act} {dst : Option Tmp} {x y : Operand} {ty : TypeId} {pos : String} {after : Array Edge} {gd : Option (Nat × Bool)}
theorem lssI_op {m k : Int} {b : Bool} (u : World) (hb : decide (m < k) = b) (hx : a.eval x = .int .i64 m) (hy : a.eval y = .int .i64 k) :
  (execOp a.eval ⟨dst, .binOp .lss 3 x y 3, ty, pos, after, gd⟩).run Tryz.prog u = .ok (.value (.bool b)) u := by
 subst hb
 unfold execOp
 simp only [hx, hy]
 go_simp
theorem fieldT_op {k off : Nat} (hk : ([(0, 0), (1, 32), (2, 36)] : List (Nat × Nat)).lookup k = some off) {ad : Addr} (u : World) (hx : a.eval x = .pointer (some ad)) :
   (execOp a.eval ⟨dst, .fieldAddr 56 x k, ty, pos, after, gd⟩).run Tryz.prog u = .ok (.value (.pointer (some (ad.add off)))) u := by
 unfold execOp
 simp only [hx]
 rcases k with _ | _ | _ | k
 · cases hk; go_simp
 · cases hk; go_simp
 · cases hk; go_simp
 · cases hk
instance : FldT Tryz.prog 56 [(0, 0), (1, 32), (2, 36)] := ⟨fun h u k => fieldT_op h u k⟩
end
section
variable {P : Program} {Γ : HP} {ops : Array Oper} {md : Region.Mode} {w0 : World} {Q : Act → Boxes → Prop} {f i : Nat} {listed : Array Bool} {a : Act} {M : Boxes}
theorem anyH_twoFreshG {j : Nat} {di dj : Option Tmp} {opi opj : Op} {ti tj : TypeId} {pi pj : String} {afi afj : Array Edge} {gi gj : Option (Nat × Bool)} (hQ : ∀ a (M M' : Boxes), (∀ x, x ∈ M ↔ x ∈ M') → Q a M → Q a M')
   (hr : Region.ready md ops listed = [i, j]) (hri : Region.ready md ops (listed.setIfInBounds i true) = [j]) (hrj : Region.ready md ops (listed.setIfInBounds j true) = [i])
   (hi : ops[i]? = some ⟨di, opi, ti, pi, afi, gi⟩) (hj : ops[j]? = some ⟨dj, opj, tj, pj, afj, gj⟩) (hij : i ≠ j)
   (hap : (Oper.apart ops ⟨di, opi, ti, pi, afi, gi⟩ ⟨dj, opj, tj, pj, afj, gj⟩ && Region.noSelect ops) = true)
   (hwi : Region.wanted ⟨di, opi, ti, pi, afi, gi⟩ (yielded ops a.tmps) = true) (hwj : Region.wanted ⟨dj, opj, tj, pj, afj, gj⟩ (yielded ops a.tmps) = true)
   (Ri Rj : Value → Boxes → Prop) (Mi Mj : Boxes) (hMi : ∀ x ∈ Mi, x ∈ M) (hMj : ∀ x ∈ Mj, x ∈ M) (hvi : ∀ u, EnvX w0 u Mi → FAt P ⟨di, opi, ti, pi, afi, gi⟩ a Ri u) (hvj : ∀ u, EnvX w0 u Mj → FAt P ⟨dj, opj, tj, pj, afj, gj⟩ a Rj u)
   (h : ∀ x Nx y Ny, Ri x Nx → Rj y Ny → freshN w0 Nx M → freshN w0 Ny (Nx ++ M) → (∃ u, EnvX w0 u (Ny ++ (Nx ++ M))) →
     ∀ K1 : Act → Prop, (∀ a1, (∀ K2 : Act → Prop, (∀ a2, anyH (Γ := Γ) P md ops w0 Q f ((listed.setIfInBounds i true).setIfInBounds j true) a2 (Ny ++ (Nx ++ M)) → K2 a2) → Oper.quiet P ⟨dj, .move (.const y), tj, pj, afj, none⟩ a1 (fun _ => True) K2) → K1 a1) →
      Oper.quiet P ⟨di, .move (.const x), ti, pi, afi, none⟩ a (fun _ => True) K1) :
   anyH (Γ := Γ) P md ops w0 Q (f + 2) listed a M := by
 simp only [Bool.and_eq_true] at hap
 obtain ⟨q1, q2, q3⟩ := Oper.apart_spec hap.1
 have hsel := Region.noSelect_spec hap.2
 have H : ∀ x Nx y Ny, Ri x Nx → Rj y Ny → freshN w0 Nx M → freshN w0 Ny (Nx ++ M) → (∃ u, EnvX w0 u (Ny ++ (Nx ++ M))) →
     anyH (Γ := Γ) P md ops w0 Q f ((listed.setIfInBounds i true).setIfInBounds j true) ((a.put di x).put dj y) (Ny ++ (Nx ++ M)) := fun x Nx y Ny a1 a2 a3 a4 a5 =>
   put_told w0 (put_told (K := fun a1 => ∀ K2 : Act → Prop, (∀ a2, anyH (Γ := Γ) P md ops w0 Q f ((listed.setIfInBounds i true).setIfInBounds j true) a2 (Ny ++ (Nx ++ M)) → K2 a2) → Oper.quiet P ⟨dj, .move (.const y), tj, pj, afj, none⟩ a1 (fun _ => True) K2) w0 (h x Nx y Ny a1 a2 a3 a4 a5))
 refine anyH_two hr ?_ ?_
 · unfold hOp
   simp only [hi, hwi, if_true]
   refine .inr (.inl ⟨Ri, Mi, hMi, hvi, fun x Nx hx hfx _ => ?_⟩)
   refine anyH_one hri ?_
   unfold hOp
   simp only [hj]
   rw [wanted_put _ a di x q1]
   simp only [hwj, if_true]
   refine .inr (.inl ⟨Rj, Mj, fun z hz => mR (hMj z hz), fun u hu => ?_, fun y Ny hy hfy hE => H x Nx y Ny hx hy hfx hfy hE⟩)
   have h1 := hvj u hu
   unfold FAt at *
   rw [execOp_put (ops := ops) _ (fun cs b => hsel j _ cs b hj) a di x q1]
   exact h1
 · unfold hOp
   simp only [hj, hwj, if_true]
   refine .inr (.inl ⟨Rj, Mj, hMj, hvj, fun y Ny hy hfy _ => ?_⟩)
   refine anyH_one hrj ?_
   unfold hOp
   simp only [hi]
   rw [wanted_put _ a dj y q3]
   simp only [hwi, if_true]
   refine .inr (.inl ⟨Ri, Mi, fun z hz => mR (hMi z hz), fun u hu => ?_, fun x Nx hx hfx hE => ?_⟩)
   · have h1 := hvi u hu
     unfold FAt at *
     rw [execOp_put (ops := ops) _ (fun cs b => hsel i _ cs b hi) a dj y q3]
     exact h1
   · have hp : ∀ z, z ∈ Ny ++ (Nx ++ M) ↔ z ∈ Nx ++ (Ny ++ M) := fun z => by
      simp only [List.mem_append]
      exact or_left_comm
     have h1 := H x Nx y Ny hx hy (fun z hz => ⟨(hfx z hz).1, fun t ht => (hfx z hz).2 t (mR ht)⟩)
      (fun z hz => ⟨(hfy z hz).1, fun t ht => by
       rcases List.mem_append.1 ht with e | e
       · exact Ne.symm ((hfx t e).2 z (mL hz))
       · exact (hfy z hz).2 t e⟩) (hE.imp fun u hu => hu.sub (fun z hz => (hp z).1 hz))
     rw [Act.put_comm a _ _ q2, Array.setIfInBounds_comm _ _ hij] at h1
     exact anyH_perm hQ _ _ _ _ _ hp h1
end
theorem flatT_one {l : List Tot} : ∀ u ∈ (l.map totC).flatten, u.oneCell' = true := fun u hu => by
 obtain ⟨x, hx, hux⟩ := List.mem_flatten.1 hu
 obtain ⟨t, _, rfl⟩ := List.mem_map.1 hx
 exact totC_one t u hux
def lenV : Value → Nat
  | .slice _ n _ => n
  | _ => 0
theorem row_tots {u : World} {g n cap : Nat} {cur : Array Value} {l : List Tot} (h : u.heap[g]? = some (.cells cur 56 (0, 0))) (hl : okTs l) (hn : l.length = n) (hc : cur.toList.take (n * 37) = (l.map totC).flatten) : TotsIn u u.heap.size (some ⟨g, 0, none⟩) l := by
 intro hp
 refine ⟨_, rfl, Row.lt (t := 56) h, fun j v hv => ?_⟩
 rw [Addr.add_mid, Nat.zero_add, cell_of_row u g j cur 56 (0, 0) h]
 rw [← hc] at hv
 have hj : j < n * 37 := by
  rcases Nat.lt_or_ge j (n * 37) with h' | h'
  · exact h'
  · rw [gN (by rw [List.length_take]; omega)] at hv
    cases hv
 rwa [List.getElem?_take_of_lt hj, Array.getElem?_toList] at hv
theorem carry_ok : ∀ (r : List Tot) (x : Tot), okT x → okTs r → okTs (carryT x r)
 | [], x, hx, _ => fun t ht => by cases mS.1 ht; exact hx
 | y :: r, x, hx, hr => by
  unfold carryT
  split
  · exact carry_ok r _ join_ok (fun t ht => hr t (mT ht))
  · intro t ht
    rcases List.mem_cons.1 ht with rfl | h
    · exact hx
    · exact hr t h
theorem app_ok {p : List Tot} {x : Tot} (hp : okTs p) (hx : okT x) : okTs (appT p x) := fun t ht => by
 unfold appT at ht
 exact carry_ok p.reverse x hx (fun s hs => hp s (List.mem_reverse.1 hs)) t (List.mem_reverse.1 ht)
theorem root_ok {p : List Tot} (hp : okTs p) : okT (rootP p) := by
 have key : ∀ (r : List Tot) (x : Tot), okT x → okT (upT x r) := fun r => by
  induction r with
  | nil => intro x hx; exact hx
  | cons y r ih => intro x _; exact ih _ join_ok
 unfold rootP
 cases h : p.reverse with
 | nil => exact noTot_ok
 | cons x r => exact key r x (hp x (List.mem_reverse.1 (by rw [h]; exact List.mem_cons_self ..)))
def mid (k : Int) : List Int := k :: List.replicate 31 0
section
variable {a : Act} {dst : Option Tmp} {x y z : Operand} {ty : TypeId} {pos : String} {after : Array Edge} {gd : Option (Nat × Bool)}
theorem run_fieldT {t : Tot} (h : len32 t) (u : World) : (Instr.field 56 (totV t) 0).run Tryz.prog u = .ok (idv t.h) u ∧ (Instr.field 56 (totV t) 1).run Tryz.prog u = .ok (.agg (wcs t.w)) u ∧ (Instr.field 56 (totV t) 2).run Tryz.prog u = .ok (.int .i64 t.n) u := by
 have pH := run_part_agg aggIdT (cs := totA t) (off := 0) (v := arrB 32 t.h) (by have := ext_list (totC_H h); rwa [Array.toArray_toList] at this) u
 have pW := run_part_agg aggWd (cs := totA t) (off := 32) (v := wcs t.w) (by have := ext_list (totC_W h); rwa [Array.toArray_toList] at this) u
 have pN := run_part_plain (P := Tryz.prog) u (e := 3) (by kernel_rfl) (totC_N h)
 refine ⟨?_, ?_, ?_⟩
 · simp [Instr.field, asAgg, totV, run_underlying Tryz.underlying56, pH, idv]
 · simp [Instr.field, asAgg, totV, run_underlying Tryz.underlying56, pW]
 · simp [Instr.field, asAgg, totV, run_underlying Tryz.underlying56, pN]
theorem fieldH_op {t : Tot} (h : len32 t) (u : World) (hx : a.eval x = totV t) : (execOp a.eval ⟨dst, .field 56 x 0, ty, pos, after, gd⟩).run Tryz.prog u = .ok (.value (idv t.h)) u := by
 unfold execOp
 simp only [hx, Sem.run_bind, (run_fieldT h u).1, Result.andThen_ok, Sem.run_pure]
theorem eqlW_op {m n : Nat} (hm : m < Big) (hn : n < Big) {b : Bool} (hb : eqN m n = b) (u : World) (hx : a.eval x = .agg (wcs m)) (hy : a.eval y = .agg (wcs n)) :
  (execOp a.eval ⟨dst, .binOp .eql 26 x y 26, ty, pos, after, gd⟩).run Tryz.prog u = .ok (.value (.bool b)) u := by
 have h : (Op.equalIn 10000 26 (.agg (wcs m)) (.agg (wcs n))).run Tryz.prog u = .ok (eqN m n) u := run_equal_wide m n hm hn u
 rw [hb] at h
 unfold execOp
 simp only [hx, hy]
 generalize wcs m = cm at *
 generalize wcs n = cn at *
 go_simp
end
theorem cellsWide : Tryz.prog.cellsOf 26 = 4 := by kernel_rfl
theorem cellsTot : Tryz.prog.cellsOf 56 = 37 := by kernel_rfl
theorem cellsInt : Tryz.prog.cellsOf 3 = 1 := by kernel_rfl
section
variable {H : Type} {enc : TypeId × Value → H} {W : World} {base : Nat} {spare : Nat → Bool} {held : Bool} {fuel : Nat} {cs : List Value} {x : DataW H × List MemPlace}
theorem wide_cells (h : DataW.trod enc Tryz.prog W base spare held fuel 26 cs = some x) : ∃ n : Nat, n < Big ∧ cs = (wcs n).toList := by
 obtain ⟨ys, m, _, _, hlen, hl, hall⟩ := DataW.trod_array Tryz.underlying26 h
 rw [cellsWide] at hlen
 have hc : ∀ i, i < 4 → ∃ n : Int, cs[i]? = some (.int .u64 n) ∧ 0 ≤ n ∧ n < 18446744073709551616 := by
  intro i hi
  have h1 := hall i hi
  rw [gE (by omega : i < ys.length)] at h1
  obtain ⟨n, e, _, wf⟩ := DataW.trod_int Tryz.underlying24 h1
  refine ⟨n, ?_, ?_⟩
  · rw [cellsU64, Nat.mul_one] at e
    have hi' : i < cs.length := by omega
    simp only [List.drop_eq_getElem_cons hi', List.take_succ_cons, List.take_zero, List.cons.injEq, and_true] at e
    rw [gE hi', e]
  · have := bounds_u64 wf
    omega
 obtain ⟨a, e0, a0, a1⟩ := hc 0 (by omega)
 obtain ⟨b, e1, b0, b1⟩ := hc 1 (by omega)
 obtain ⟨c, e2, c0, c1⟩ := hc 2 (by omega)
 obtain ⟨d, e3, d0, d1⟩ := hc 3 (by omega)
 have hcs : cs.toArray = arrW 4 [a, b, c, d] := by
  apply arrW_ext
  · simp
  · simpa using hlen
  · intro i hi
    rw [List.getElem?_toArray]
    rcases i with _ | _ | _ | _ | i
    · exact e0
    · exact e1
    · exact e2
    · exact e3
    · omega
 obtain ⟨n, hn, hw⟩ := wl_of [a, b, c, d] rfl (by
  intro k
  rcases k with _ | _ | _ | _ | k
  · exact ⟨a0, a1⟩
  · exact ⟨b0, b1⟩
  · exact ⟨c0, c1⟩
  · exact ⟨d0, d1⟩
  · simp)
 refine ⟨n, hn, ?_⟩
 have h2 : cs.toArray = wcs n := by rw [hcs, hw]; rfl
 rw [← h2]
theorem tot_cells (h : DataW.trod enc Tryz.prog W base spare held fuel 56 cs = some x) : ∃ t : Tot, okT t ∧ cs = totC t := by
 obtain ⟨y0, y1, y2, n, _, hl, h0, h1, h2⟩ := trod_struct3 Tryz.underlying56 h
 rw [cellsTot] at hl
 obtain ⟨hs, k1, k2, e0⟩ := id_cells h0
 obtain ⟨w, hw, e1⟩ := wide_cells h1
 obtain ⟨i, e2, _, wf⟩ := DataW.trod_int Tryz.underlying3 h2
 have e0' : cs.take 32 = hs.map u8v := by
  have h := e0
  rw [show Tryz.prog.cellsOf 23 = 32 from cellsOfId] at h
  exact h
 have e1' : (cs.drop 32).take 4 = (wcs w).toList := by
  have h := e1
  rw [show Tryz.prog.cellsOf 26 = 4 from cellsWide] at h
  exact h
 have e2' : (cs.drop 36).take 1 = [.int .i64 i] := by
  have h := e2
  rw [show Tryz.prog.cellsOf 3 = 1 from cellsInt] at h
  exact h
 refine ⟨⟨hs, w, i⟩, ⟨⟨k1, k2⟩, hw, bounds_i64 wf⟩, ?_⟩
 unfold totC
 have ha : (arrB 32 hs).toList = hs.map u8v := by
  have : (hs.map u8v).toArray = arrB 32 hs := by unfold arrB; rw [k1]; simp
  rw [← this]
 show cs = (arrB 32 hs).toList ++ ((wcs w).toList ++ [.int .i64 i])
 rw [ha, ← e0', ← e1', ← e2', List.take_of_length_le (l := cs.drop 36) (by rw [List.length_drop]; omega), show cs.drop 36 = (cs.drop 32).drop 4 by rw [List.drop_drop], List.take_append_drop, List.take_append_drop]
end
section
variable {H : Type} {enc : TypeId × Value → H} {W : World} {base : Nat} {v : Value} {d : DataW H} {p : List MemPlace}
end
structure BlkR where
  h : Hd
  l : List (List Int)
  t : List TxR
deriving DecidableEq
structure TipR where
  b : BlkR
  p : List Tot
  c : List CoinR
deriving DecidableEq
def noBlk : BlkR := ⟨noHd, [], []⟩
def noTip : TipR := ⟨noBlk, [], []⟩
def leafH (h : Hd) : Tot := ⟨idH h, workH h, 1⟩
def headK (bits : Nat) : Hd := ⟨0, z32, rootT [], rootT [], noTot.h, 0, bits, 0⟩
def tipK (bits : Nat) : TipR := ⟨⟨headK bits, [], []⟩, [leafH (headK bits)], []⟩
def firstK (bits : Nat) : TipR × Bool := if isC bits then (tipK bits, true) else (noTip, false)
def linksK (t : TipR) : List (List Int) := nextT t.b.l (idH t.b.h) (levelH t.b.h)
def nextK (t : TipR) (l : List TxR) (nonce : Nat) : Hd := ⟨IntKind.i64.wrap (t.b.h.height + 1), idH t.b.h, rootT (leavesL (linksK t)), rootT (idsX l), (rootP t.p).h, (rootP t.p).w, t.b.h.bits, nonce⟩
def pushK (t : TipR) (b : BlkR) : TipR × Nat :=
  if 48 ≤ b.h.height then (t, 3) else
  if ¬ (b.h.height = (nextK t b.t b.h.nonce).height ∧ b.h.prev = (nextK t b.t b.h.nonce).prev ∧ b.h.bits = (nextK t b.t b.h.nonce).bits) then (t, 5) else
  if ¬ (b.l = linksK t ∧ b.h.links = (nextK t b.t b.h.nonce).links) then (t, 6) else
  if ¬ (b.h.txs = (nextK t b.t b.h.nonce).txs ∧ b.h.past = (nextK t b.t b.h.nonce).past ∧ b.h.work = (nextK t b.t b.h.nonce).work) then (t, 7) else
  if mayH b.h = false then (t, 4) else
  if (applyP t.c b.t).2 ≠ 0 then (t, (applyP t.c b.t).2) else (⟨b, appT t.p (leafH b.h), (applyP t.c b.t).1⟩, 0)
def mineK (t : TipR) (l : List TxR) (nonce : Nat) (tries : Int) : BlkR × Nat :=
  if 48 ≤ (nextK t l nonce).height then (noBlk, 3) else
  if (applyP t.c l).2 ≠ 0 then (noBlk, (applyP t.c l).2) else
  if (mineH (nextK t l nonce) tries).2 = false then (noBlk, 4) else (⟨(mineH (nextK t l nonce) tries).1, linksK t, l⟩, 0)
theorem push_of {t : TipR} {b : BlkR} (h1 : b.h = nextK t b.t b.h.nonce) (h2 : b.h.height < 48) (h3 : b.l = linksK t) (h4 : mayH b.h = true) (h5 : (applyP t.c b.t).2 = 0) : pushK t b = (⟨b, appT t.p (leafH b.h), (applyP t.c b.t).1⟩, 0) := by
 have hp : b.h.height = (nextK t b.t b.h.nonce).height ∧ b.h.prev = (nextK t b.t b.h.nonce).prev ∧ b.h.bits = (nextK t b.t b.h.nonce).bits := by rw [← h1]; exact ⟨rfl, rfl, rfl⟩
 have hl : b.h.links = (nextK t b.t b.h.nonce).links := by rw [← h1]
 have hr : b.h.txs = (nextK t b.t b.h.nonce).txs ∧ b.h.past = (nextK t b.t b.h.nonce).past ∧ b.h.work = (nextK t b.t b.h.nonce).work := by rw [← h1]; exact ⟨rfl, rfl, rfl⟩
 unfold pushK
 rw [if_neg (by omega), if_neg (fun k => k hp), if_neg (fun k => k ⟨h3, hl⟩), if_neg (fun k => k hr), if_neg (by rw [h4]; decide), if_neg (fun k => k h5)]
theorem nonceAt_mod {h : Hd} (k : Nat) : (nonceAt h k).nonce < 18446744073709551616 := Nat.mod_lt _ (by decide)
theorem nonceAt_zero {h : Hd} (hn : h.nonce < 18446744073709551616) : nonceAt h 0 = h := by
 unfold nonceAt
 rw [Nat.add_zero, Nat.mod_eq_of_lt hn]
theorem nonceAt_next (t : TipR) (l : List TxR) (n k : Nat) : nonceAt (nextK t l n) k = nextK t l (nonceAt (nextK t l n) k).nonce := rfl
theorem mine_ok {t : TipR} {l : List TxR} {nonce : Nat} {tries : Int} {b : BlkR} (h : mineK t l nonce tries = (b, 0)) : b.h = nextK t l b.h.nonce ∧ b.h.height < 48 ∧ b.l = linksK t ∧ b.t = l ∧ mayH b.h = true ∧ (applyP t.c l).2 = 0 ∧ b.h.nonce < 18446744073709551616 := by
 unfold mineK at h
 split at h
 · cases h
 · rename_i h1
   split at h
   · rename_i h2
     cases hh : (applyP t.c l).2 with
     | zero => exact absurd hh h2
     | succ e => rw [hh] at h; cases h
   · rename_i h2
     split at h
     · cases h
     · rename_i h3
       simp only [Classical.not_not] at h2
       cases h
       simp only [Bool.not_eq_false] at h3
       unfold mineH at h3 ⊢
       cases hf : (List.range (min tries 200).toNat).find? (fun k => mayH (nonceAt (nextK t l nonce) k)) with
       | none => rw [hf] at h3; cases h3
       | some k =>
        have hm := List.find?_some hf
        simp only at hm ⊢
        exact ⟨nonceAt_next t l nonce k, by have e : (nonceAt (nextK t l nonce) k).height = (nextK t l nonce).height := rfl; omega, trivial, trivial, hm, h2, nonceAt_mod k⟩
theorem mine_err {t : TipR} {l : List TxR} {nonce : Nat} {tries : Int} {b : BlkR} {e : Nat} (h : mineK t l nonce tries = (b, e + 1)) : b = noBlk := by
 unfold mineK at h
 split at h
 · cases h; rfl
 · split at h
   · exact (congrArg Prod.fst h).symm
   · split at h
     · cases h; rfl
     · cases h
theorem mine_push {t : TipR} {l : List TxR} {nonce : Nat} {tries : Int} {b : BlkR} (h : mineK t l nonce tries = (b, 0)) : pushK t b = (⟨b, appT t.p (leafH b.h), (applyP t.c l).1⟩, 0) := by
 obtain ⟨h1, h2, h3, rfl, h5, h6, -⟩ := mine_ok h
 exact push_of h1 h2 h3 h5 h6
theorem mine_again {t : TipR} {l : List TxR} {nonce : Nat} {tries : Int} {b : BlkR} (h : mineK t l nonce tries = (b, 0)) : mineK t l b.h.nonce 1 = (b, 0) := by
 obtain ⟨h1, h2, h3, rfl, h5, h6, h7⟩ := mine_ok h
 have hm : mineH (nextK t b.t b.h.nonce) 1 = (b.h, true) := by
  rw [← h1]
  unfold mineH
  have e : (List.range (min (1 : Int) 200).toNat).find? (fun k => mayH (nonceAt b.h k)) = some 0 := by
   rw [show (min (1 : Int) 200).toNat = 1 from rfl, show List.range 1 = [0] from rfl, List.find?_cons]
   simp only [nonceAt_zero h7, h5]
  rw [e]
  simp only
  rw [nonceAt_zero h7]
 unfold mineK
 rw [if_neg (by rw [← h1]; omega), if_neg (fun k => k h6), hm]
 simp only [Bool.true_eq_false, if_false]
 rw [← h3]
theorem first_level {bits : Nat} (h : isC bits = true) : levelH (headK bits) = 31 := by
 unfold levelH
 rw [show isC (headK bits).bits = true from h]
 rfl
structure BlkM where
  h : Hd
  l : List (List Int)
  A1 : Option Addr
  n1 : Nat
  c1 : Nat
  t : List TxM
  A2 : Option Addr
  n2 : Nat
  c2 : Nat
def BlkM.r (b : BlkM) : BlkR := ⟨b.h, b.l, rsT b.t⟩
structure TipM where
  b : BlkM
  p : List Tot
  A3 : Option Addr
  n3 : Nat
  c3 : Nat
  c : List CoinR
  A4 : Option Addr
  n4 : Nat
  c4 : Nat
def TipM.r (t : TipM) : TipR := ⟨t.b.r, t.p, t.c⟩
def noBlkM : BlkM := ⟨noHd, [], none, 0, 0, [], none, 0, 0⟩
def noTipM : TipM := ⟨noBlkM, [], none, 0, 0, [], none, 0, 0⟩
def blkC (b : BlkM) : List Value := hdC b.h ++ [.slice b.A1 b.n1 b.c1, .slice b.A2 b.n2 b.c2]
def blkA (b : BlkM) : Array Value := (blkC b).toArray
def blkV (b : BlkM) : Value := .agg (blkA b)
def tipC (t : TipM) : List Value := blkC t.b ++ [.slice t.A3 t.n3 t.c3, .slice t.A4 t.n4 t.c4]
def tipA (t : TipM) : Array Value := (tipC t).toArray
def tipV (t : TipM) : Value := .agg (tipA t)
structure BlkOk (w : World) (b : BlkM) : Prop where
  h : okHd b.h
  l1 : b.l.length = b.n1
  b1 : b.n1 ≤ b.c1 ∧ b.c1 ≤ maxLen
  o1 : isIds b.l
  m1 : IdsIn w w.heap.size b.A1 b.l
  l2 : b.t.length = b.n2
  b2 : b.n2 ≤ b.c2 ∧ b.c2 ≤ maxLen
  m2 : TxsIn w b.A2 b.t
structure TipOk (w : World) (t : TipM) : Prop where
  b : BlkOk w t.b
  l3 : t.p.length = t.n3
  b3 : t.n3 ≤ t.c3 ∧ t.c3 ≤ maxLen
  o3 : okTs t.p
  m3 : TotsIn w w.heap.size t.A3 t.p
  l4 : t.c.length = t.n4
  b4 : t.n4 ≤ t.c4 ∧ t.c4 ≤ maxLen
  o4 : okP t.c
  m4 : CoinsIn w w.heap.size t.A4 t.c
theorem BlkOk.up {w w' : World} {b : BlkM} (h : BlkOk w b) (hb : Below w.heap.size w w') : BlkOk w' b := ⟨h.h, h.l1, h.b1, h.o1, h.m1.up hb, h.l2, h.b2, h.m2.up hb⟩
theorem TipOk.up {w w' : World} {t : TipM} (h : TipOk w t) (hb : Below w.heap.size w w') : TipOk w' t := ⟨h.b.up hb, h.l3, h.b3, h.o3, h.m3.up hb, h.l4, h.b4, h.o4, CellsIn.up h.m4 hb⟩
theorem BlkOk.n63 {w : World} {b : BlkM} (h : BlkOk w b) : b.n1 < 9223372036854775808 ∧ b.n2 < 9223372036854775808 := by
 have h1 := h.b1
 have h2 := h.b2
 unfold maxLen at h1 h2
 omega
theorem TipOk.n63 {w : World} {t : TipM} (h : TipOk w t) : t.n3 < 9223372036854775808 ∧ t.n4 < 9223372036854775808 := by
 have h1 := h.b3
 have h2 := h.b4
 unfold maxLen at h1 h2
 omega
theorem BlkOk.no (w : World) : BlkOk w noBlkM := by
 have hz : isId z32 := ⟨rfl, fun y hy => by rw [List.eq_of_mem_replicate hy]; decide⟩
 exact ⟨⟨⟨by decide, by decide⟩, hz, hz, hz, hz, by decide, by decide, by decide⟩, rfl, ⟨Nat.le_refl _, Nat.zero_le _⟩, (fun x h => by cases h), (fun h => absurd h (by decide)), rfl, ⟨Nat.le_refl _, Nat.zero_le _⟩, ⟨fun h => absurd h (by decide), fun t h => by cases h⟩⟩
theorem TipOk.no (w : World) : TipOk w noTipM := ⟨BlkOk.no w, rfl, ⟨Nat.le_refl _, Nat.zero_le _⟩, (fun x h => by cases h), (fun h => absurd h (by decide)), rfl, ⟨Nat.le_refl _, Nat.zero_le _⟩, (fun x h => by cases h), (fun h => absurd h (by decide))⟩
theorem blkC_len {b : BlkM} (k : lenH b.h) : (blkC b).length = 137 := by unfold blkC; rw [lA, hdC_len k]; rfl
theorem tipC_len {t : TipM} (k : lenH t.b.h) : (tipC t).length = 139 := by unfold tipC; rw [lA, blkC_len k]; rfl
theorem blkA_size {b : BlkM} (k : lenH b.h) : (blkA b).size = 137 := by unfold blkA; rw [List.size_toArray, blkC_len k]
theorem tipA_size {t : TipM} (k : lenH t.b.h) : (tipA t).size = 139 := by unfold tipA; rw [List.size_toArray, tipC_len k]
theorem blkC_one (b : BlkM) : ∀ u ∈ blkC b, u.oneCell' = true := by
 intro u hu
 unfold blkC at hu
 simp only [List.mem_append, List.mem_cons, List.not_mem_nil, or_false] at hu
 rcases hu with h | rfl | rfl
 · exact hdC_one _ u h
 · rfl
 · rfl
theorem tipC_one (t : TipM) : ∀ u ∈ tipC t, u.oneCell' = true := by
 intro u hu
 unfold tipC at hu
 simp only [List.mem_append, List.mem_cons, List.not_mem_nil, or_false] at hu
 rcases hu with h | rfl | rfl
 · exact blkC_one _ u h
 · rfl
 · rfl
theorem blkA_one (b : BlkM) : (blkA b).all (·.oneCell') = true := by
 rw [Array.all_eq_true]
 intro i hi
 exact blkC_one b _ (show (blkA b)[i] ∈ (blkA b).toList from Array.mem_toList_iff.2 (Array.getElem_mem hi))
theorem tipA_one (t : TipM) : (tipA t).all (·.oneCell') = true := by
 rw [Array.all_eq_true]
 intro i hi
 exact tipC_one t _ (show (tipA t)[i] ∈ (tipA t).toList from Array.mem_toList_iff.2 (Array.getElem_mem hi))
theorem aggBlk : AggT 33 137 := ⟨fun w => by simp [isAgg, run_underlying Tryz.underlying33], by kernel_rfl⟩
theorem aggTip : AggT 37 139 := ⟨fun w => by simp [isAgg, run_underlying Tryz.underlying37], by kernel_rfl⟩
theorem infoBlk (cs : Array Value) (h : cs.size = 137) : (Tryz.prog.info? 33).map (·.size) = some cs.size := by rw [h]; exact aggBlk.size
theorem infoTip (cs : Array Value) (h : cs.size = 139) : (Tryz.prog.info? 37).map (·.size) = some cs.size := by rw [h]; exact aggTip.size
theorem oneIdsK : ∀ w, (isAgg 30).run Tryz.prog w = .ok false w := fun w => by simp [isAgg, run_underlying Tryz.underlying30]
theorem oneTxsK : ∀ w, (isAgg 31).run Tryz.prog w = .ok false w := fun w => by simp [isAgg, run_underlying Tryz.underlying31]
theorem oneTotsK : ∀ w, (isAgg 34).run Tryz.prog w = .ok false w := fun w => by simp [isAgg, run_underlying Tryz.underlying34]
theorem oneCoinsK : ∀ w, (isAgg 35).run Tryz.prog w = .ok false w := fun w => by simp [isAgg, run_underlying Tryz.underlying35]
theorem loads_hd {ad : Addr} {u : World} {h : Hd} (k : lenH h) (hc : ∀ (j : Nat) (v : Value), (hdC h)[j]? = some v → u.cell? (ad.add j) = some v) :
   (loadVar 29 ad).run Tryz.prog u = .ok (hdV h) u ∧
   (loadVar 3 ad).run Tryz.prog u = .ok (.int .i64 h.height) u ∧
   (loadVar 23 (ad.add 1)).run Tryz.prog u = .ok (idv h.prev) u ∧
   (loadVar 23 (ad.add 33)).run Tryz.prog u = .ok (idv h.links) u ∧
   (loadVar 23 (ad.add 65)).run Tryz.prog u = .ok (idv h.txs) u ∧
   (loadVar 23 (ad.add 97)).run Tryz.prog u = .ok (idv h.past) u ∧
   (loadVar 26 (ad.add 129)).run Tryz.prog u = .ok (.agg (wcs h.work)) u ∧
   (loadVar 27 (ad.add 133)).run Tryz.prog u = .ok (.int .u32 h.bits) u ∧
   (loadVar 24 (ad.add 134)).run Tryz.prog u = .ok (.int .u64 h.nonce) u := by
 have hadd0 : ∀ a : Addr, a.add 0 = a := fun a => by unfold Addr.add; rfl
 have part : ∀ (i n : Nat) (ys : List Value), ((hdA h).toList.drop i).take n = ys → ∀ j v, ys[j]? = some v → u.cell? ((ad.add i).add j) = some v := fun i n ys e j v hv => by
   rw [show (ad.add i).add j = ad.add (i + j) by simp only [add_addN, Nat.add_assoc]]
   refine hc (i + j) v ?_
   rw [← e] at hv
   have hv' : (((hdC h).drop i).take n)[j]? = some v := hv
   rw [List.getElem?_take] at hv'
   split at hv'
   · rwa [List.getElem?_drop] at hv'
   · cases hv'
 have cell : ∀ (i : Nat) (v : Value), (hdA h)[i]? = some v → u.cell? (ad.add i) = some v := fun i v hv => hc i v (by
   unfold hdA at hv
   rwa [List.getElem?_toArray] at hv)
 refine ⟨run_loadAgg aggHd (hdC h) (hdC_len k) hc, run_load_one oneInt u (by have := cell 0 _ (hdC_height h); rwa [hadd0] at this), ?_, ?_, ?_, ?_, ?_, run_load_one oneU32h u (cell 133 _ (hdC_bits k)), run_load_one oneU64h u (cell 134 _ (hdC_nonce k))⟩
 · have := run_loadAgg aggIdT (w := u) (ad := ad.add 1) _ (idA_list k.1) (part 1 32 _ (hdC_prev k)); rwa [agg_list] at this
 · have := run_loadAgg aggIdT (w := u) (ad := ad.add 33) _ (idA_list k.2.1) (part 33 32 _ (hdC_links k)); rwa [agg_list] at this
 · have := run_loadAgg aggIdT (w := u) (ad := ad.add 65) _ (idA_list k.2.2.1) (part 65 32 _ (hdC_txs k)); rwa [agg_list] at this
 · have := run_loadAgg aggIdT (w := u) (ad := ad.add 97) _ (idA_list k.2.2.2) (part 97 32 _ (hdC_past k)); rwa [agg_list] at this
 · have := run_loadAgg aggWd (w := u) (ad := ad.add 129) _ (wcs_list _) (part 129 4 _ (hdC_work k)); rwa [agg_list] at this
theorem blk_cells {b : BlkM} (k : lenH b.h) : (∀ (j : Nat) (v : Value), (hdC b.h)[j]? = some v → (blkC b)[j]? = some v) ∧ (blkC b)[135]? = some (.slice b.A1 b.n1 b.c1) ∧ (blkC b)[136]? = some (.slice b.A2 b.n2 b.c2) := by
 unfold blkC
 refine ⟨fun j v hj => ?_, ?_, ?_⟩
 · rw [List.getElem?_append_left]
   · exact hj
   · rcases Nat.lt_or_ge j (hdC b.h).length with h | h
     · exact h
     · rw [gN h] at hj; cases hj
 · rw [List.getElem?_append_right (by rw [hdC_len k]; omega), hdC_len k]; rfl
 · rw [List.getElem?_append_right (by rw [hdC_len k]; omega), hdC_len k]; rfl
theorem tip_cells {t : TipM} (k : lenH t.b.h) : (∀ (j : Nat) (v : Value), (blkC t.b)[j]? = some v → (tipC t)[j]? = some v) ∧ (tipC t)[137]? = some (.slice t.A3 t.n3 t.c3) ∧ (tipC t)[138]? = some (.slice t.A4 t.n4 t.c4) := by
 unfold tipC
 refine ⟨fun j v hj => ?_, ?_, ?_⟩
 · rw [List.getElem?_append_left]
   · exact hj
   · rcases Nat.lt_or_ge j (blkC t.b).length with h | h
     · exact h
     · rw [gN h] at hj; cases hj
 · rw [List.getElem?_append_right (by rw [blkC_len k]; omega), blkC_len k]; rfl
 · rw [List.getElem?_append_right (by rw [blkC_len k]; omega), blkC_len k]; rfl
section
variable {w0 u : World} {M : Boxes} {g : Nat} {ty : TypeId} {b : BlkM} {t : TipM}
theorem box_list {cs : List Value} (hu : EnvC w0 M u) (hm : (g, oc cs.toArray ty) ∈ M) : ∀ (j : Nat) (v : Value), cs[j]? = some v → u.cell? ((⟨g, 0, none⟩ : Addr).add j) = some v := fun j v hj => by
 rw [show (⟨g, 0, none⟩ : Addr).add j = ⟨g, j, none⟩ by rw [Addr.add_mid, Nat.zero_add]]
 exact box_cell hu hm (by rw [List.getElem?_toArray]; exact hj)
theorem box_blk (hu : EnvC w0 M u) (hm : (g, oc (blkA b) ty) ∈ M) (k : lenH b.h) : (loadVar 33 ⟨g, 0, none⟩).run Tryz.prog u = .ok (blkV b) u := run_loadAgg aggBlk (blkC b) (blkC_len k) (box_list hu hm)
instance : Cell Tryz.prog (blkA b) 33 0 (blkV b) (lenH b.h) := ⟨fun hu hm k => box_blk hu hm k⟩
theorem box_blk_hd (hu : EnvC w0 M u) (hm : (g, oc (blkA b) ty) ∈ M) (k : lenH b.h) : ∀ (j : Nat) (v : Value), (hdC b.h)[j]? = some v → u.cell? ((⟨g, 0, none⟩ : Addr).add j) = some v := fun j v hj => box_list hu hm j v ((blk_cells k).1 j v hj)
theorem box_blk_l (hu : EnvC w0 M u) (hm : (g, oc (blkA b) ty) ∈ M) (k : lenH b.h) : (loadVar 30 ⟨g, 135, none⟩).run Tryz.prog u = .ok (.slice b.A1 b.n1 b.c1) u := run_load_one oneIdsK u (by have := box_list hu hm 135 _ (blk_cells k).2.1; rwa [show (⟨g, 0, none⟩ : Addr).add 135 = ⟨g, 135, none⟩ by rw [Addr.add_mid, Nat.zero_add]] at this)
instance : Cell Tryz.prog (blkA b) 30 135 (.slice b.A1 b.n1 b.c1) (lenH b.h) := ⟨fun hu hm k => box_blk_l hu hm k⟩
theorem box_blk_t (hu : EnvC w0 M u) (hm : (g, oc (blkA b) ty) ∈ M) (k : lenH b.h) : (loadVar 31 ⟨g, 136, none⟩).run Tryz.prog u = .ok (.slice b.A2 b.n2 b.c2) u := run_load_one oneTxsK u (by have := box_list hu hm 136 _ (blk_cells k).2.2; rwa [show (⟨g, 0, none⟩ : Addr).add 136 = ⟨g, 136, none⟩ by rw [Addr.add_mid, Nat.zero_add]] at this)
instance : Cell Tryz.prog (blkA b) 31 136 (.slice b.A2 b.n2 b.c2) (lenH b.h) := ⟨fun hu hm k => box_blk_t hu hm k⟩
theorem box_tip (hu : EnvC w0 M u) (hm : (g, oc (tipA t) ty) ∈ M) (k : lenH t.b.h) : (loadVar 37 ⟨g, 0, none⟩).run Tryz.prog u = .ok (tipV t) u := run_loadAgg aggTip (tipC t) (tipC_len k) (box_list hu hm)
instance : Cell Tryz.prog (tipA t) 37 0 (tipV t) (lenH t.b.h) := ⟨fun hu hm k => box_tip hu hm k⟩
theorem box_tip_blk (hu : EnvC w0 M u) (hm : (g, oc (tipA t) ty) ∈ M) (k : lenH t.b.h) : (loadVar 33 ⟨g, 0, none⟩).run Tryz.prog u = .ok (blkV t.b) u := run_loadAgg aggBlk (blkC t.b) (blkC_len k) fun j v hj => box_list hu hm j v ((tip_cells k).1 j v hj)
instance : Cell Tryz.prog (tipA t) 33 0 (blkV t.b) (lenH t.b.h) := ⟨fun hu hm k => box_tip_blk hu hm k⟩
theorem box_tip_hd (hu : EnvC w0 M u) (hm : (g, oc (tipA t) ty) ∈ M) (k : lenH t.b.h) : ∀ (j : Nat) (v : Value), (hdC t.b.h)[j]? = some v → u.cell? ((⟨g, 0, none⟩ : Addr).add j) = some v := fun j v hj => box_list hu hm j v ((tip_cells k).1 j v ((blk_cells k).1 j v hj))
theorem box_tip_l (hu : EnvC w0 M u) (hm : (g, oc (tipA t) ty) ∈ M) (k : lenH t.b.h) : (loadVar 30 ⟨g, 135, none⟩).run Tryz.prog u = .ok (.slice t.b.A1 t.b.n1 t.b.c1) u := run_load_one oneIdsK u (by have := box_list hu hm 135 _ ((tip_cells k).1 _ _ (blk_cells k).2.1); rwa [show (⟨g, 0, none⟩ : Addr).add 135 = ⟨g, 135, none⟩ by rw [Addr.add_mid, Nat.zero_add]] at this)
instance : Cell Tryz.prog (tipA t) 30 135 (.slice t.b.A1 t.b.n1 t.b.c1) (lenH t.b.h) := ⟨fun hu hm k => box_tip_l hu hm k⟩
theorem box_tip_t (hu : EnvC w0 M u) (hm : (g, oc (tipA t) ty) ∈ M) (k : lenH t.b.h) : (loadVar 31 ⟨g, 136, none⟩).run Tryz.prog u = .ok (.slice t.b.A2 t.b.n2 t.b.c2) u := run_load_one oneTxsK u (by have := box_list hu hm 136 _ ((tip_cells k).1 _ _ (blk_cells k).2.2); rwa [show (⟨g, 0, none⟩ : Addr).add 136 = ⟨g, 136, none⟩ by rw [Addr.add_mid, Nat.zero_add]] at this)
instance : Cell Tryz.prog (tipA t) 31 136 (.slice t.b.A2 t.b.n2 t.b.c2) (lenH t.b.h) := ⟨fun hu hm k => box_tip_t hu hm k⟩
theorem box_tip_p (hu : EnvC w0 M u) (hm : (g, oc (tipA t) ty) ∈ M) (k : lenH t.b.h) : (loadVar 34 ⟨g, 137, none⟩).run Tryz.prog u = .ok (.slice t.A3 t.n3 t.c3) u := run_load_one oneTotsK u (by have := box_list hu hm 137 _ (tip_cells k).2.1; rwa [show (⟨g, 0, none⟩ : Addr).add 137 = ⟨g, 137, none⟩ by rw [Addr.add_mid, Nat.zero_add]] at this)
instance : Cell Tryz.prog (tipA t) 34 137 (.slice t.A3 t.n3 t.c3) (lenH t.b.h) := ⟨fun hu hm k => box_tip_p hu hm k⟩
theorem box_tip_c (hu : EnvC w0 M u) (hm : (g, oc (tipA t) ty) ∈ M) (k : lenH t.b.h) : (loadVar 35 ⟨g, 138, none⟩).run Tryz.prog u = .ok (.slice t.A4 t.n4 t.c4) u := run_load_one oneCoinsK u (by have := box_list hu hm 138 _ (tip_cells k).2.2; rwa [show (⟨g, 0, none⟩ : Addr).add 138 = ⟨g, 138, none⟩ by rw [Addr.add_mid, Nat.zero_add]] at this)
instance : Cell Tryz.prog (tipA t) 35 138 (.slice t.A4 t.n4 t.c4) (lenH t.b.h) := ⟨fun hu hm k => box_tip_c hu hm k⟩
end
section
variable {a : Act} {dst : Option Tmp} {x y : Operand} {ty : TypeId} {pos : String} {after : Array Edge} {gd : Option (Nat × Bool)}
theorem fieldBlk_op {k off : Nat} (hk : ([(0, 0), (1, 135), (2, 136)] : List (Nat × Nat)).lookup k = some off) {ad : Addr} (u : World) (hx : a.eval x = .pointer (some ad)) :
  (execOp a.eval ⟨dst, .fieldAddr 33 x k, ty, pos, after, gd⟩).run Tryz.prog u = .ok (.value (.pointer (some (ad.add off)))) u := by
 unfold execOp
 simp only [hx]
 rcases k with _ | _ | _ | k
 all_goals first | (cases hk; go_simp) | cases hk
instance : FldT Tryz.prog 33 [(0, 0), (1, 135), (2, 136)] := ⟨fun h u k => fieldBlk_op h u k⟩
theorem fieldTip_op {k off : Nat} (hk : ([(0, 0), (1, 137), (2, 138)] : List (Nat × Nat)).lookup k = some off) {ad : Addr} (u : World) (hx : a.eval x = .pointer (some ad)) :
  (execOp a.eval ⟨dst, .fieldAddr 37 x k, ty, pos, after, gd⟩).run Tryz.prog u = .ok (.value (.pointer (some (ad.add off)))) u := by
 unfold execOp
 simp only [hx]
 rcases k with _ | _ | _ | k
 all_goals first | (cases hk; go_simp) | cases hk
instance : FldT Tryz.prog 37 [(0, 0), (1, 137), (2, 138)] := ⟨fun h u k => fieldTip_op h u k⟩
end
def tipE : TipR := tipK 545259519
def nextE : Hd := nextK tipE [] 0
theorem exE_isC : isC 545259519 = true := by decide +kernel
theorem exE_level : levelH tipE.b.h = 31 := first_level exE_isC
theorem exE_work : workH tipE.b.h = 2 := by decide +kernel
theorem exE_id : (!eqL (idH tipE.b.h) z32) = true := by decide +kernel
theorem exE_links : linksK tipE = [idH tipE.b.h] := by
 unfold linksK
 rw [exE_level]
 rfl
theorem exE_finds : ((List.range 200).find? (fun k => mayH (nonceAt nextE k))).isSome = true := by decide +kernel
def blkE : BlkR := ⟨(mineH nextE 200).1, [idH tipE.b.h], []⟩
theorem exE_mine : mineK tipE [] 0 200 = (blkE, 0) := by
 have hm : (mineH nextE 200).2 = true := by
  have h := exE_finds
  unfold mineH
  rw [show (min (200 : Int) 200).toNat = 200 from rfl]
  cases hf : (List.range 200).find? (fun k => mayH (nonceAt nextE k)) with
  | none => rw [hf] at h; cases h
  | some k => rfl
 unfold mineK
 rw [if_neg (show ¬ (48 ≤ (nextK tipE [] 0).height) by show ¬ (48 ≤ IntKind.i64.wrap (0 + 1)); rw [IntKind.wrap_i64]; omega), if_neg (fun k => k rfl), show mineH (nextK tipE [] 0) 200 = mineH nextE 200 from rfl, hm]
 simp only [Bool.true_eq_false, if_false]
 rw [exE_links]
 rfl
def tipE2 : TipR := ⟨blkE, appT tipE.p (leafH blkE.h), []⟩
theorem exE_push : pushK tipE blkE = (tipE2, 0) := mine_push exE_mine
theorem exE_head : blkE.h = nextK tipE [] blkE.h.nonce := (mine_ok exE_mine).1
theorem exE_height : blkE.h.height = 1 := by
 rw [exE_head]
 show IntKind.i64.wrap (0 + 1) = 1
 rw [IntKind.wrap_i64]
 omega
theorem exE_sum : blkE.h.work = 2 := by
 rw [exE_head]
 show workH tipE.b.h = 2
 exact exE_work
def HeapB (w : World) : Boxes := (List.finRange w.heap.size).map fun i => (i.val, w.heap[i])
theorem HeapB.get {w : World} {k : Nat} (hk : k < w.heap.size) : (k, w.heap[k]) ∈ HeapB w := List.mem_map.2 ⟨⟨k, hk⟩, List.mem_finRange _, rfl⟩
theorem HeapB.box {w : World} : ∀ y ∈ HeapB w, w.heap[y.1]? = some y.2 := fun y hy => by
 obtain ⟨i, _, rfl⟩ := List.mem_map.1 hy
 exact Array.getElem?_eq_getElem i.isLt
theorem HeapB.bel {w0 w' u : World} {M M' : Boxes} (h : EnvX w0 w' M') (hu : EnvX w0 u M) (hN : ∀ y ∈ HeapB w', y ∈ M) : Below w'.heap.size w' u := by
 have hb : ∀ k, (hk : k < w'.heap.size) → u.heap[k]? = some w'.heap[k] := fun k hk => hu.box _ _ (hN _ (HeapB.get hk))
 refine ⟨by rw [(EnvX.bel hu).os, (EnvX.bel h).os], by rw [(EnvX.bel hu).tape, (EnvX.bel h).tape], by rw [(EnvX.bel hu).output, (EnvX.bel h).output], ?_, fun k hk => by rw [hb k hk, Array.getElem?_eq_getElem hk]⟩
 rcases Nat.eq_zero_or_pos w'.heap.size with h0 | h0
 · omega
 · have := hb (w'.heap.size - 1) (by omega)
   obtain ⟨h1, _⟩ := Array.getElem?_eq_some_iff.1 this
   omega
def KeptB (w0 : World) (N : Boxes) (Q : World → Prop) : Prop := ∀ u M, EnvX w0 u M → (∀ y ∈ N, y ∈ M) → Q u
theorem heap_env {w0 w' : World} {M : Boxes} (hE : EnvX w0 w' M) : EnvX w0 w' (HeapB w' ++ M) := ⟨hE.bel, fun g o hm => by
 rcases List.mem_append.1 hm with h | h
 · exact HeapB.box _ h
 · exact hE.box g o h⟩
theorem any_turn {P : Program} {f : FuncId} {args : Array Value} {u w0 : World} {M : Boxes} {α : Type} {V : α → Value} {Q : α → World → Prop} (hQ : ∀ r w w', Below w.heap.size w w' → Q r w → Q r w') (h : Calls P f args u fun e w' => (∃ t, e = .returned (V t) ∧ Q t w') ∧ Below u.heap.size u w') (hu : EnvX w0 u M) :
  Calls P f args u fun e w' => ∃ r M', e = .returned r ∧ EnvX w0 w' M' ∧ ∃ t N, r = V t ∧ M' = N ++ M ∧ KeptB w0 N (Q t) ∧ ∃ v, Q t v :=
 h.mono fun e w' ⟨⟨t, he, hq⟩, hb⟩ => by
  have hE := EnvX.below hu hb
  exact ⟨_, _, he, heap_env hE, t, HeapB w', rfl, rfl, (fun v M2 hv hN => hQ t w' v (HeapB.bel hE hv hN) hq), w', hq⟩
def fewAll (l : List TxM) (m : Int) : Bool := l.all (fun t => fewX t.r) && decide ((l.length : Int) ≤ m)
theorem fewAll_no {l : List TxM} {m : Int} {k : Nat} (hk : k < l.length) (h : fewX (l.getD k noTxM).r = false) : fewAll l m = false := by
 unfold fewAll
 have e : l.all (fun t => fewX t.r) = false := by
  rw [List.all_eq_false]
  refine ⟨l.getD k noTxM, ?_, by rw [h]; decide⟩
  rw [gD, gE hk]
  exact List.getElem_mem hk
 rw [e]
 rfl
theorem fewAll_all {l : List TxM} {m : Int} (h : ∀ k, k < l.length → fewX (l.getD k noTxM).r = true) : fewAll l m = decide ((l.length : Int) ≤ m) := by
 unfold fewAll
 have e : l.all (fun t => fewX t.r) = true := by
  rw [List.all_eq_true]
  intro t ht
  obtain ⟨k, hk, rfl⟩ := List.getElem_of_mem ht
  have := h k hk
  rwa [gD, gE hk] at this
 rw [e]
 rfl
theorem fewAll_len {l : List TxM} {m : Int} (h : fewAll l m = true) : (l.length : Int) ≤ m := by
 unfold fewAll at h
 rw [Bool.and_eq_true, decide_eq_true_eq] at h
 exact h.2
theorem fewall_any (l : List TxM) (m : Int) (A : Option Addr) (n c : Nat) (w : World) (hl : l.length = n) (hn : n < 9223372036854775808) (hA : TxsIn w A l) :
  Rz 24 #[.slice A n c, .int .i64 m] w (.bool (fewAll l m)) := by
 unfold Rz
 have HL := hD hl
 have HIA := hD hA
 have HN63 := hD hn
 clear hl hA
 go_enter Tryz.func24, Tryz.ntmps24
 go_upto_region 2 with (fail)
 go_loopw [5] (fun iv u => ∃ k : Nat, k ≤ n ∧ iv = .int .i64 (k : Int) ∧ Hid ((∀ j, j < k → fewX (l.getD j noTxM).r = true) ∧ Below w.heap.size w u)) (fun iv _ => n - (intOf iv).toNat)
 case atStart => exact ⟨0, by omega, rfl, fun j hj => by omega, Below.refl _ _⟩
 case round =>
  obtain ⟨k, hk, rfl, hinv⟩ := hrel
  obtain ⟨hA, hB⟩ := hinv.out
  clear hinv
  have HF := hD hA
  have EK : Hid (EnvX w wr []) := ⟨hB, fun _ _ h => by cases h⟩
  clear hA hB
  by_cases hlt : k < n
  · have hkl : k < l.length := by rw [HL.out]; exact hlt
    obtain ⟨ad, rfl, -, hld⟩ := HIA.out.loads hkl
    have HLD : Hid (∀ u, EnvX w u [] → (loadVar 95 (ad.add (k * 2))).run Tryz.prog u = .ok (txV (l.getD k noTxM)) u) := fun u hu => (hld u hu).1
    have HFW : Hid (Rb w 62 #[txV (l.getD k noTxM)] (.bool (fewX (l.getD k noTxM).r))) := fun u hu => few_any _ u ((HIA.out.get hkl).up hu)
    have HKN := hD hlt
    have HKL := hD hkl
    have C2 : Hid (decide ((k : Int) < (n : Int)) = true) := decide_eq_true (by omega)
    clear hld
    have hno : fewX (l.getD k noTxM).r = false → fewAll l m = false := fun e => fewAll_no hkl e
    have HNO := hD hno
    clear hno hkl
    cases hf : fewX (l.getD k noTxM).r with
    | false =>
     rw [hf] at HFW
     go_upto_region 2 with (fail)
     refine rgQ [0,1,2,3] [] EK rfl fun hw => ?_
     refine qw 2 hw ?_
     refine qv rfl (fun u hu => len_op Tryz.underlying31 HN63.out u rfl) hw ?_
     refine qv rfl (fun u hu => ltZ_op u C2.out rfl rfl) hw ?_
     refine enP fun u3 EX2 => ?_
     go_upto_region 4 with (fail)
     refine rgQ [0,1,2,3,4,5] [] EX2 rfl fun hw => ?_
     refine qw 2 hw ?_
     refine qv rfl (fun u hu => idxSl_op Tryz.underlying31 aggTx.size HKN.out u rfl rfl) hw ?_
     refine qv rfl (fun u hu => load_any_op u (HLD.out u hu) rfl) hw ?_
     refine qc rfl Tryz.func62 (fun u hu => HFW.out u (EnvX.bel hu)) hw ?_
     refine qo rfl hw ?_
     refine enP fun u6 EX5 => ?_
     have HBE := hD (EnvX.bel EX5.out)
     have HRS : Hid (fewAll l m = false) := HNO.out hf
     clear hf
     go_wp2
     go_ret
     exact ⟨by rw [HRS.out]; rfl, HBE.out⟩
    | true =>
     rw [hf] at HFW
     go_upto_region 2 with (fail)
     refine rgQ [0,1,2,3] [] EK rfl fun hw => ?_
     refine qw 2 hw ?_
     refine qv rfl (fun u hu => len_op Tryz.underlying31 HN63.out u rfl) hw ?_
     refine qv rfl (fun u hu => ltZ_op u C2.out rfl rfl) hw ?_
     refine enP fun u3 EX2 => ?_
     go_upto_region 4 with (fail)
     refine rgQ [0,1,2,3,4,5] [] EX2 rfl fun hw => ?_
     refine qw 2 hw ?_
     refine qv rfl (fun u hu => idxSl_op Tryz.underlying31 aggTx.size HKN.out u rfl rfl) hw ?_
     refine qv rfl (fun u hu => load_any_op u (HLD.out u hu) rfl) hw ?_
     refine qc rfl Tryz.func62 (fun u hu => HFW.out u (EnvX.bel hu)) hw ?_
     refine qo rfl hw ?_
     refine enP fun u6 EX5 => ?_
     have HBE := hD (EnvX.bel EX5.out)
     have HF2 : Hid (∀ j, j < k + 1 → fewX (l.getD j noTxM).r = true) := fun j hj => by
      by_cases e : j = k
      · rw [e]; exact hf
      · exact HF.out j (by omega)
     clear hf
     go_wp2
     go_roundw
     case rel => exact ⟨k + 1, by omega, by go_num, HF2.out, HBE.out⟩
     case measure => simp [intOf]; omega
  · obtain rfl : k = n := by omega
    have HRS : Hid (fewAll l m = decide ((k : Int) ≤ m)) := by rw [fewAll_all (by rw [HL.out]; exact HF.out), HL.out]; rfl
    have C2 : Hid (decide ((k : Int) < (k : Int)) = false) := decide_eq_false (by omega)
    go_upto_region 2 with (fail)
    refine rgQ [0,1,2,3] [] EK rfl fun hw => ?_
    refine qw 2 hw ?_
    refine qv rfl (fun u hu => len_op Tryz.underlying31 HN63.out u rfl) hw ?_
    refine qv rfl (fun u hu => ltZ_op u C2.out rfl rfl) hw ?_
    refine enP fun u3 EX2 => ?_
    go_upto_region 7 with (fail)
    refine rgQ [0,1,2,3,4] [] EX2 rfl fun hw => ?_
    refine qo rfl hw ?_
    refine qv rfl (fun u hu => len_op Tryz.underlying31 HN63.out u rfl) hw ?_
    refine qo rfl hw ?_
    refine qv rfl (fun u hu => leZ_op u HRS.out.symm rfl rfl) hw ?_
    refine qo rfl hw ?_
    refine enP fun u6 EX5 => ?_
    have HBE := hD (EnvX.bel EX5.out)
    go_wp2
    go_ret
    exact ⟨rfl, HBE.out⟩
def midTxs (l : List TxM) : Prop := l.length ≤ 6 ∧ ∀ x ∈ l, fewX x.r = true
def midTip (t : TipM) : Prop := t.b.l.length ≤ 1000 ∧ t.p.length ≤ 1000 ∧ t.c.length ≤ 1000 ∧ midTxs t.b.t
theorem midTxs_r {l q : List TxM} (h : rsT l = rsT q) (k : midTxs q) : midTxs l := by
 have hl : l.length = q.length := by have := congrArg List.length h; unfold rsT at this; rwa [lM, lM] at this
 refine ⟨by rw [hl]; exact k.1, fun x hx => ?_⟩
 have hm : x.r ∈ rsT q := by rw [← h]; exact List.mem_map.2 ⟨x, hx, rfl⟩
 obtain ⟨y, hy, e⟩ := List.mem_map.1 hm
 rw [← e]
 exact k.2 y hy
theorem midTxs_nil {l : List TxM} (h : rsT l = []) : midTxs l := by
 cases List.map_eq_nil_iff.1 h
 exact ⟨by decide, fun x h => by cases h⟩
def midBlk (b : BlkM) : Prop := b.l.length ≤ 1000 ∧ midTxs b.t
def IsTip (r : TipR) (t : TipM) (w : World) : Prop := t.r = r ∧ TipOk w t
def IsBlk (r : BlkR) (b : BlkM) (w : World) : Prop := b.r = r ∧ BlkOk w b
theorem IsTip.up {r : TipR} {t : TipM} {w w' : World} (hb : Below w.heap.size w w') (h : IsTip r t w) : IsTip r t w' := ⟨h.1, h.2.up hb⟩
theorem IsBlk.up {r : BlkR} {b : BlkM} {w w' : World} (hb : Below w.heap.size w w') (h : IsBlk r b w) : IsBlk r b w' := ⟨h.1, h.2.up hb⟩
structure BlockC : Prop where
  first : ∀ (bits : Nat) (w : World), bits < 4294967296 → Tables w →
    Calls Tryz.prog 13 #[.int .u32 (bits : Int)] w fun e w' => (∃ t : TipM, e = .returned (.tuple #[tipV t, .bool (firstK bits).2]) ∧ IsTip (firstK bits).1 t w') ∧ Below w.heap.size w w'
  next : ∀ (t : TipM) (l : List TxM) (A : Option Addr) (n c : Nat) (nonce : Nat) (w : World), TipOk w t → midTip t → l.length = n → n ≤ c → c ≤ maxLen → TxsIn w A l → midTxs l → nonce < 18446744073709551616 → Tables w →
    Calls Tryz.prog 22 #[tipV t, .slice A n c, .int .u64 (nonce : Int)] w fun e w' => e = .returned (hdV (nextK t.r (rsT l) nonce)) ∧ Below w.heap.size w w'
  mine : ∀ (t : TipM) (l : List TxM) (A : Option Addr) (n c : Nat) (nonce : Nat) (tries : Int) (w : World), TipOk w t → midTip t → l.length = n → n ≤ c → c ≤ maxLen → TxsIn w A l → midTxs l → nonce < 18446744073709551616 → I64 tries → Tables w →
    Calls Tryz.prog 15 #[tipV t, .slice A n c, .int .u64 (nonce : Int), .int .i64 tries] w fun e w' => (∃ b : BlkM, e = .returned (.tuple #[blkV b, .int .i64 ((mineK t.r (rsT l) nonce tries).2 : Int)]) ∧ IsBlk (mineK t.r (rsT l) nonce tries).1 b w') ∧ Below w.heap.size w w'
  push : ∀ (t : TipM) (b : BlkM) (w : World), TipOk w t → midTip t → BlkOk w b → midBlk b → Tables w →
    Calls Tryz.prog 17 #[tipV t, blkV b] w fun e w' => (∃ u : TipM, e = .returned (.tuple #[tipV u, .int .i64 ((pushK t.r b.r).2 : Int)]) ∧ IsTip (pushK t.r b.r).1 u w') ∧ Below w.heap.size w w'
  same : ∀ (b d : BlkM) (w : World), BlkOk w b → midBlk b → BlkOk w d → midBlk d → Tables w →
    Calls Tryz.prog 21 #[blkV b, blkV d] w fun e w' => e = .returned (.bool (decide (b.r = d.r))) ∧ Below w.heap.size w w'
theorem tip_turn {f : FuncId} {args : Array Value} {u w0 : World} {M : Boxes} {r : TipR} {y : Value} (h : Calls Tryz.prog f args u fun e w' => (∃ t : TipM, e = .returned (.tuple #[tipV t, y]) ∧ IsTip r t w') ∧ Below u.heap.size u w') (hu : EnvX w0 u M) :
  Calls Tryz.prog f args u fun e w' => ∃ x M', e = .returned x ∧ EnvX w0 w' M' ∧ ∃ t N, x = .tuple #[tipV t, y] ∧ M' = N ++ M ∧ KeptB w0 N (IsTip r t) ∧ ∃ v, IsTip r t v :=
 any_turn (V := fun t => .tuple #[tipV t, y]) (Q := IsTip r) (fun t w w' hb h => h.up hb) h hu
theorem blk_turn {f : FuncId} {args : Array Value} {u w0 : World} {M : Boxes} {r : BlkR} {y : Value} (h : Calls Tryz.prog f args u fun e w' => (∃ b : BlkM, e = .returned (.tuple #[blkV b, y]) ∧ IsBlk r b w') ∧ Below u.heap.size u w') (hu : EnvX w0 u M) :
  Calls Tryz.prog f args u fun e w' => ∃ x M', e = .returned x ∧ EnvX w0 w' M' ∧ ∃ b N, x = .tuple #[blkV b, y] ∧ M' = N ++ M ∧ KeptB w0 N (IsBlk r b) ∧ ∃ v, IsBlk r b v :=
 any_turn (V := fun b => .tuple #[blkV b, y]) (Q := IsBlk r) (fun t w w' hb h => h.up hb) h hu
def fewP (t : TipM) : Bool := fewAll t.b.t 6 && (decide (t.b.l.length ≤ 40) && (decide (t.p.length ≤ 70) && decide (t.c.length ≤ 60)))
theorem fewAll_mid {l : List TxM} (h : fewAll l 6 = true) : midTxs l := by
 have h2 := fewAll_len h
 unfold fewAll at h
 rw [Bool.and_eq_true, List.all_eq_true] at h
 exact ⟨by omega, h.1⟩
theorem fewP.mid {t : TipM} (h : fewP t = true) : midTip t ∧ midTxs t.b.t ∧ t.b.l.length ≤ 40 ∧ t.p.length ≤ 70 ∧ t.c.length ≤ 60 := by
 unfold fewP at h
 simp only [Bool.and_eq_true, decide_eq_true_eq] at h
 exact ⟨⟨by omega, by omega, by omega, fewAll_mid h.1⟩, fewAll_mid h.1, h.2.1, h.2.2.1, h.2.2.2⟩
theorem fewtip_any (t : TipM) (w : World) (h : TipOk w t) :
  Rz 11 #[tipV t] w (.bool (fewP t)) := by
 unfold Rz
 have HK : Hid (lenH t.b.h) := h.b.h.len
 have HN2 : Hid (t.b.n2 < 9223372036854775808) := h.b.n63.2
 have HN1 : Hid (t.b.n1 < 9223372036854775808) := h.b.n63.1
 have HN3 : Hid (t.n3 < 9223372036854775808) := h.n63.1
 have HN4 : Hid (t.n4 < 9223372036854775808) := h.n63.2
 have HFA : Hid (Rb w 24 #[.slice t.b.A2 t.b.n2 t.b.c2, .int .i64 6] (.bool (fewAll t.b.t 6))) := fun u hu => fewall_any t.b.t 6 t.b.A2 t.b.n2 t.b.c2 u h.b.l2 h.b.n63.2 (h.b.m2.up hu)
 have E1 : Hid (EnvX w (w.alloc (.cells (tipA t) 37)) [(w.heap.size, oc (tipA t) 37)]) := (EnvX.start w).new _
 obtain ⟨b1, hb1⟩ : ∃ b1, fewAll t.b.t 6 = b1 := ⟨_, rfl⟩
 obtain ⟨b2, hb2⟩ : ∃ b2, decide ((t.b.n1 : Int) ≤ 40) = b2 := ⟨_, rfl⟩
 obtain ⟨b3, hb3⟩ : ∃ b3, decide ((t.n3 : Int) ≤ 70) = b3 := ⟨_, rfl⟩
 obtain ⟨b4, hb4⟩ : ∃ b4, decide ((t.n4 : Int) ≤ 60) = b4 := ⟨_, rfl⟩
 have HF : Hid (fewP t = (b1 && (b2 && (b3 && b4)))) := by
  show _ = _
  have e2 : decide (t.b.l.length ≤ 40) = b2 := by rw [← hb2, h.b.l1]; exact decide_eq_decide.2 (by omega)
  have e3 : decide (t.p.length ≤ 70) = b3 := by rw [← hb3, h.l3]; exact decide_eq_decide.2 (by omega)
  have e4 : decide (t.c.length ≤ 60) = b4 := by rw [← hb4, h.l4]; exact decide_eq_decide.2 (by omega)
  unfold fewP
  rw [hb1, e2, e3, e4]
 have D2 := hD hb2
 have D3 := hD hb3
 have D4 := hD hb4
 rw [hb1] at HFA
 clear h hb1 hb2 hb3 hb4
 unfold tipV
 cases b1 with
 | false =>
  go_enter Tryz.func11, Tryz.ntmps11
  go_upto_region 1 with (fail)
  generalize w.alloc (.cells (tipA t) 37) = W at *
  refine rgQ [0,1,2,3,4] [] E1 rfl fun hw => ?_
  refine qw 2 hw ?_
  refine ql rfl mH HK.out hw ?_
  refine qc rfl Tryz.func24 (fun u hu => HFA.out u (EnvX.bel hu)) hw ?_
  refine qo rfl hw ?_
  refine enP fun u3 EX2 => ?_
  go_upto_region 2 with (fail)
  refine rgQ [0,1,2,3,4,5,6,7,8,9,10,11,12,13,14,15,16,17,18,19,20] [] EX2 rfl fun hw => ?_
  refine qw 21 hw ?_
  refine enP fun u6 EX5 => ?_
  have HBE := hD (EnvX.bel EX5.out)
  go_wp2
  go_ret
  exact ⟨by rw [HF.out]; first | done | rfl, HBE.out⟩
 | true =>
  cases b2 with
  | false =>
   go_enter Tryz.func11, Tryz.ntmps11
   go_upto_region 1 with (fail)
   generalize w.alloc (.cells (tipA t) 37) = W at *
   refine rgQ [0,1,2,3,4] [] E1 rfl fun hw => ?_
   refine qw 2 hw ?_
   refine ql rfl mH HK.out hw ?_
   refine qc rfl Tryz.func24 (fun u hu => HFA.out u (EnvX.bel hu)) hw ?_
   refine qo rfl hw ?_
   refine enP fun u3 EX2 => ?_
   go_upto_region 2 with (fail)
   refine rgQ [0,1,2,3,4,5,6,7,8,9,10,11,12,13,14,15,16,17,18,19,20] [] EX2 rfl fun hw => ?_
   refine qw 4 hw ?_
   refine ql rfl mH HK.out hw ?_
   refine qv rfl (fun u hu => len_op Tryz.underlying30 HN1.out u rfl) hw ?_
   refine qv rfl (fun u hu => leZ_op u D2.out rfl rfl) hw ?_
   refine qw 14 hw ?_
   refine enP fun u6 EX5 => ?_
   have HBE := hD (EnvX.bel EX5.out)
   go_wp2
   go_ret
   exact ⟨by rw [HF.out]; first | done | rfl, HBE.out⟩
  | true =>
   cases b3 with
   | false =>
    go_enter Tryz.func11, Tryz.ntmps11
    go_upto_region 1 with (fail)
    generalize w.alloc (.cells (tipA t) 37) = W at *
    refine rgQ [0,1,2,3,4] [] E1 rfl fun hw => ?_
    refine qw 2 hw ?_
    refine ql rfl mH HK.out hw ?_
    refine qc rfl Tryz.func24 (fun u hu => HFA.out u (EnvX.bel hu)) hw ?_
    refine qo rfl hw ?_
    refine enP fun u3 EX2 => ?_
    go_upto_region 2 with (fail)
    refine rgQ [0,1,2,3,4,5,6,7,8,9,10,11,12,13,14,15,16,17,18,19,20] [] EX2 rfl fun hw => ?_
    refine qw 4 hw ?_
    refine ql rfl mH HK.out hw ?_
    refine qv rfl (fun u hu => len_op Tryz.underlying30 HN1.out u rfl) hw ?_
    refine qv rfl (fun u hu => leZ_op u D2.out rfl rfl) hw ?_
    refine qw 3 hw ?_
    refine ql rfl mH HK.out hw ?_
    refine qv rfl (fun u hu => len_op Tryz.underlying34 HN3.out u rfl) hw ?_
    refine qv rfl (fun u hu => leZ_op u D3.out rfl rfl) hw ?_
    refine qw 8 hw ?_
    refine enP fun u6 EX5 => ?_
    have HBE := hD (EnvX.bel EX5.out)
    go_wp2
    go_ret
    exact ⟨by rw [HF.out]; first | done | rfl, HBE.out⟩
   | true =>
    cases b4 with
    | false =>
     go_enter Tryz.func11, Tryz.ntmps11
     go_upto_region 1 with (fail)
     generalize w.alloc (.cells (tipA t) 37) = W at *
     refine rgQ [0,1,2,3,4] [] E1 rfl fun hw => ?_
     refine qw 2 hw ?_
     refine ql rfl mH HK.out hw ?_
     refine qc rfl Tryz.func24 (fun u hu => HFA.out u (EnvX.bel hu)) hw ?_
     refine qo rfl hw ?_
     refine enP fun u3 EX2 => ?_
     go_upto_region 2 with (fail)
     refine rgQ [0,1,2,3,4,5,6,7,8,9,10,11,12,13,14,15,16,17,18,19,20] [] EX2 rfl fun hw => ?_
     refine qw 4 hw ?_
     refine ql rfl mH HK.out hw ?_
     refine qv rfl (fun u hu => len_op Tryz.underlying30 HN1.out u rfl) hw ?_
     refine qv rfl (fun u hu => leZ_op u D2.out rfl rfl) hw ?_
     refine qw 3 hw ?_
     refine ql rfl mH HK.out hw ?_
     refine qv rfl (fun u hu => len_op Tryz.underlying34 HN3.out u rfl) hw ?_
     refine qv rfl (fun u hu => leZ_op u D3.out rfl rfl) hw ?_
     refine qw 3 hw ?_
     refine ql rfl mH HK.out hw ?_
     refine qv rfl (fun u hu => len_op Tryz.underlying35 HN4.out u rfl) hw ?_
     refine qv rfl (fun u hu => leZ_op u D4.out rfl rfl) hw ?_
     refine qw 2 hw ?_
     refine enP fun u6 EX5 => ?_
     have HBE := hD (EnvX.bel EX5.out)
     go_wp2
     go_ret
     exact ⟨by rw [HF.out]; first | done | rfl, HBE.out⟩
    | true =>
     go_enter Tryz.func11, Tryz.ntmps11
     go_upto_region 1 with (fail)
     generalize w.alloc (.cells (tipA t) 37) = W at *
     refine rgQ [0,1,2,3,4] [] E1 rfl fun hw => ?_
     refine qw 2 hw ?_
     refine ql rfl mH HK.out hw ?_
     refine qc rfl Tryz.func24 (fun u hu => HFA.out u (EnvX.bel hu)) hw ?_
     refine qo rfl hw ?_
     refine enP fun u3 EX2 => ?_
     go_upto_region 2 with (fail)
     refine rgQ [0,1,2,3,4,5,6,7,8,9,10,11,12,13,14,15,16,17,18,19,20] [] EX2 rfl fun hw => ?_
     refine qw 4 hw ?_
     refine ql rfl mH HK.out hw ?_
     refine qv rfl (fun u hu => len_op Tryz.underlying30 HN1.out u rfl) hw ?_
     refine qv rfl (fun u hu => leZ_op u D2.out rfl rfl) hw ?_
     refine qw 3 hw ?_
     refine ql rfl mH HK.out hw ?_
     refine qv rfl (fun u hu => len_op Tryz.underlying34 HN3.out u rfl) hw ?_
     refine qv rfl (fun u hu => leZ_op u D3.out rfl rfl) hw ?_
     refine qw 3 hw ?_
     refine ql rfl mH HK.out hw ?_
     refine qv rfl (fun u hu => len_op Tryz.underlying35 HN4.out u rfl) hw ?_
     refine qv rfl (fun u hu => leZ_op u D4.out rfl rfl) hw ?_
     refine qw 2 hw ?_
     refine enP fun u6 EX5 => ?_
     have HBE := hD (EnvX.bel EX5.out)
     go_wp2
     go_ret
     exact ⟨by rw [HF.out]; first | done | rfl, HBE.out⟩
theorem zero_blkA : blkA noBlkM = Tryz.zeroCells33 := by kernel_rfl
theorem zero_tipA : tipA noTipM = Tryz.zeroCells37 := by kernel_rfl
section
variable {dst : Option Tmp} {ty : TypeId} {pos : String} {after : Array Edge} {gd : Option (Nat × Bool)}
theorem new_blk (a : Act) : NewAt Tryz.prog ⟨dst, .alloc 33, ty, pos, after, gd⟩ a (.cells (blkA noBlkM) 33 (0, 0)) := fun u => by
 rw [zero_blkA]
 go_simp
theorem new_tip (a : Act) : NewAt Tryz.prog ⟨dst, .alloc 37, ty, pos, after, gd⟩ a (.cells (tipA noTipM) 37 (0, 0)) := fun u => by
 rw [zero_tipA]
 go_simp
end
theorem len_no : lenH noHd := ⟨rfl, rfl, rfl, rfl⟩
theorem tip_sizes {t : TipM} (k : lenH t.b.h) : (tipA noTipM).size = (tipA t).size := (tipA_size (t := noTipM) len_no).trans (tipA_size k).symm
theorem blk_sizes {b : BlkM} (k : lenH b.h) : (blkA noBlkM).size = (blkA b).size := (blkA_size (b := noBlkM) len_no).trans (blkA_size k).symm
section
variable {a : Act} {dst : Option Tmp} {x y : Operand} {ty : TypeId} {pos : String} {after : Array Edge} {gd : Option (Nat × Bool)}
theorem eqErr_op {m k : Int} {b : Bool} (u : World) (hb : decide (m = k) = b) (hx : a.eval x = .int .i64 m) (hy : a.eval y = .int .i64 k) :
  (execOp a.eval ⟨dst, .binOp .eql 43 x y 43, ty, pos, after, gd⟩).run Tryz.prog u = .ok (.value (.bool b)) u := by
 have e : (m == k) = b := by rw [← hb]; by_cases h : m = k <;> simp [h]
 subst e
 unfold execOp
 simp only [hx, hy]
 go_simp
end
theorem CoB.some {q : List CoinR} {A : Option Addr} {N : Boxes} (h : CoB q A N) (hok : okP q) (hk : 0 < q.length) : ∃ ad, A = some ad := by
 rcases h with ⟨h, _⟩ | ⟨ad, _, rfl, _⟩
 · have := flat35 hok.lens
   rw [h] at this
   simp at this
   omega
 · exact ⟨ad, rfl⟩
theorem tip_turn0 {f : FuncId} {args : Array Value} {u w0 : World} {r : TipR} {y : Value} (h : Calls Tryz.prog f args u fun e w' => (∃ t : TipM, e = .returned (.tuple #[tipV t, y]) ∧ IsTip r t w') ∧ Below u.heap.size u w') (hu : EnvX w0 u []) :
  Calls Tryz.prog f args u fun e w' => ∃ x M', e = .returned x ∧ EnvX w0 w' M' ∧ ∃ t N, x = .tuple #[tipV t, y] ∧ M' = N ∧ KeptB w0 N (IsTip r t) ∧ ∃ v, IsTip r t v :=
 (tip_turn h hu).mono fun e w' ⟨x, M', he, hE, t, N, hx, hM, hk, hv⟩ => ⟨x, M', he, hE, t, N, hx, by rw [hM, List.append_nil], hk, hv⟩
structure AwkC : Prop where
  id : ∀ (h : Hd) (w : World), okHd h → Tables w → Calls Tryz.prog 28 #[hdV h] w fun e w' => e = .returned (idv (idH h)) ∧ Below w.heap.size w w'
  of : ∀ (n : Nat) (w : World), n < 18446744073709551616 → Calls Tryz.prog 32 #[.int .u64 (n : Int)] w fun e w' => e = .returned (.agg (wcs n)) ∧ Below w.heap.size w w'
theorem bawake_any (H : BlockC) (G : AwkC) (w : World) (ht : Tables w) :
  Rz 10 #[] w (.bool true) := by
 unfold Rz
 have HT := hD ht
 have HH := hD H
 have GG := hD G
 have E1 : Hid (EnvX w w []) := EnvX.start w
 clear ht H G
 go_enter Tryz.func10, Tryz.ntmps10
 go_upto_region 1 with (fail)
 refine wp_region_Hx (w0 := w) [0, 1, 2, 3, 4, 5, 6] [] rfl E1.out ?_
 refine (hOp_turn (gd := none) (R := fun x M' => ∃ tq N, x = .tuple #[.agg (tipA tq), .bool true] ∧ M' = N ∧ KeptB w N (IsTip (tipE) tq) ∧ ∃ vq, IsTip (tipE) tq vq) rfl rfl rfl rfl (fun u hu => OUpon_call (fid := 13) (xs := #[.const (.int .u32 545259519)]) (args := #[.int .u32 545259519]) rfl Tryz.func13 rfl rfl u (tip_turn0 (by have h := HH.out.first 545259519 u (by decide) (HT.out.below (EnvX.bel hu)); rw [show firstK 545259519 = (tipE, true) from by unfold firstK; rw [if_pos exE_isC]; rfl] at h; exact h) hu)) ?_)
 rintro _ N1 ⟨t1, _, rfl, rfl, hk1, hv1⟩ he1; intro K' hK'; go_big_quiet_op; go_big_quiet_on
 have HT1 := hD hk1
 have HV1 := hD hv1
 have HK1 : Hid (lenH t1.b.h) := by obtain ⟨v, hv⟩ := HV1.out; exact hv.2.b.h.len
 clear hk1 hv1
 refine phE [1,2,3] [4,5,6] he1 fun hw => ?_
 refine qw 3 hw ?_
 refine wpG_nil ?_
 refine qn rfl (new_tip _) fun g1 HGg1 he3 => ?_
 change lexH _ _ _ _ _ _ ((g1, oc (tipA noTipM) 37) :: N1)
 refine (sh rfl HGg1 (infoTip _ (tipA_size HK1.out)) (tip_sizes HK1.out) (tipA_one _) ?_)
 intro he4
 refine phE [6] [] he4 fun hw => ?_
 refine qo rfl hw ?_
 refine enP fun u7 EX6 => ?_
 have HR1 : Hid (t1.r = tipE) := by obtain ⟨v, hv⟩ := HV1.out; exact hv.1
 have HM1 : Hid (midTip t1) := by
  have h1 : t1.b.l = [] := congrArg (fun t : TipR => t.b.l) HR1.out
  have h2 : t1.p = [leafH (headK 545259519)] := congrArg (fun t : TipR => t.p) HR1.out
  have h3 : t1.c = [] := congrArg (fun t : TipR => t.c) HR1.out
  have h4 := midTxs_nil (l := t1.b.t) (congrArg (fun t : TipR => t.b.t) HR1.out)
  show _ ∧ _ ∧ _ ∧ _
  rw [h1, h2, h3]
  exact ⟨by decide, by decide, by decide, h4⟩
 have HH1 : Hid (t1.b.h = tipE.b.h) := congrArg (fun t : TipR => t.b.h) HR1.out
 have HO1 : Hid (okHd t1.b.h) := by obtain ⟨v, hv⟩ := HV1.out; exact hv.2.b.h
 go_upto_region 2 with (fail)
 refine rgQ [0] [1,2,3,4,5,6,7] EX6 rfl fun hw => ?_
 refine ql rfl mH HK1.out hw ?_
 refine wpG_nil ?_
 refine (hOp_turn (gd := none) (R := fun x M' => ∃ tq N, x = .tuple #[.agg (blkA tq), .int .i64 ((0 : Nat) : Int)] ∧ M' = N ++ ((g1, oc (tipA t1) 37) :: N1) ∧ KeptB w N (IsBlk (blkE) tq) ∧ ∃ vq, IsBlk (blkE) tq vq) rfl rfl rfl rfl (fun u hu => OUpon_call (fid := 15) (xs := #[.tmp 12, .const (.slice none 0 0), .const (.int .u64 0), .const (.int .i64 200)]) (args := #[tipV t1, .slice none 0 0, .int .u64 0, .int .i64 200]) rfl Tryz.func15 rfl rfl u (blk_turn (by have h := HH.out.mine t1 [] none 0 0 0 200 u (HT1.out u _ hu (fun y MEM => (mT MEM))).2 HM1.out rfl (Nat.le_refl _) (by decide) ⟨fun h => absurd h (by decide), fun t h => by cases h⟩ ⟨by decide, fun t h => by cases h⟩ (by decide) (by unfold I64; omega) (HT.out.below (EnvX.bel hu)); rw [HR1.out, show rsT [] = [] from rfl, exE_mine] at h; exact h) hu)) ?_)
 rintro _ _ ⟨b2, N2, rfl, rfl, hk2, hv2⟩ he9; intro K' hK'; go_big_quiet_op; go_big_quiet_on
 have HT2 := hD hk2
 have HV2 := hD hv2
 have HK2 : Hid (lenH b2.h) := by obtain ⟨v, hv⟩ := HV2.out; exact hv.2.h.len
 clear hk2 hv2
 refine phE [2,3,4] [5,6,7] he9 fun hw => ?_
 refine qw 3 hw ?_
 refine wpG_nil ?_
 refine qn rfl (new_blk _) fun g2 HGg2 he11 => ?_
 change lexH _ _ _ _ _ _ ((g2, oc (blkA noBlkM) 33) :: (N2 ++ ((g1, oc (tipA t1) 37) :: N1)))
 refine (sh rfl HGg2 (infoBlk _ (blkA_size HK2.out)) (blk_sizes HK2.out) (blkA_one _) ?_)
 intro he12
 refine phE [7] [] he12 fun hw => ?_
 refine qo rfl hw ?_
 refine enP fun u15 EX14 => ?_
 have HR2 : Hid (b2.r = blkE) := by obtain ⟨v, hv⟩ := HV2.out; exact hv.1
 have HM2 : Hid (midBlk b2) := by
  have h1 : b2.l = [idH tipE.b.h] := congrArg (fun t : BlkR => t.l) HR2.out
  have h2 : rsT b2.t = [] := congrArg (fun t : BlkR => t.t) HR2.out
  have h3 : b2.t = [] := List.map_eq_nil_iff.1 h2
  refine ⟨by rw [h1]; decide, ?_⟩
  rw [h3]
  exact ⟨by decide, fun t h => by cases h⟩
 go_upto_region 3 with (fail)
 refine rgQ [0,1] [2,3,4,5,6,7,8] EX14 rfl fun hw => ?_
 refine ql rfl (mT (mR mH)) HK1.out hw ?_
 refine ql rfl mH HK2.out hw ?_
 refine wpG_nil ?_
 refine (hOp_turn (gd := none) (R := fun x M' => ∃ tq N, x = .tuple #[.agg (tipA tq), .int .i64 ((0 : Nat) : Int)] ∧ M' = N ++ ((g2, oc (blkA b2) 33) :: (N2 ++ ((g1, oc (tipA t1) 37) :: N1))) ∧ KeptB w N (IsTip (tipE2) tq) ∧ ∃ vq, IsTip (tipE2) tq vq) rfl rfl rfl rfl (fun u hu => OUpon_call (fid := 17) (xs := #[.tmp 17, .tmp 18]) (args := #[tipV t1, blkV b2]) rfl Tryz.func17 rfl rfl u (tip_turn (by have h := HH.out.push t1 b2 u (HT1.out u _ hu (fun y MEM => (mT (mR (mT MEM))))).2 HM1.out (HT2.out u _ hu (fun y MEM => (mT (mL MEM)))).2 HM2.out (HT.out.below (EnvX.bel hu)); rw [HR1.out, HR2.out, exE_push] at h; exact h) hu)) ?_)
 rintro _ _ ⟨u5, N5, rfl, rfl, hk5, hv5⟩ he17; intro K' hK'; go_big_quiet_op; go_big_quiet_on
 have HT5 := hD hk5
 have HV5 := hD hv5
 have HK5 : Hid (lenH u5.b.h) := by obtain ⟨v, hv⟩ := HV5.out; exact hv.2.b.h.len
 clear hk5 hv5
 refine phE [3,4,5] [6,7,8] he17 fun hw => ?_
 refine qw 3 hw ?_
 refine wpG_nil ?_
 refine qn rfl (new_tip _) fun g5 HGg5 he19 => ?_
 change lexH _ _ _ _ _ _ ((g5, oc (tipA noTipM) 37) :: (N5 ++ ((g2, oc (blkA b2) 33) :: (N2 ++ ((g1, oc (tipA t1) 37) :: N1)))))
 refine (sh rfl HGg5 (infoTip _ (tipA_size HK5.out)) (tip_sizes HK5.out) (tipA_one _) ?_)
 intro he20
 refine phE [8] [] he20 fun hw => ?_
 refine qo rfl hw ?_
 refine enP fun u23 EX22 => ?_
 have HR5 : Hid (u5.r = tipE2) := by obtain ⟨v, hv⟩ := HV5.out; exact hv.1
 have HB5 : Hid (u5.b.r = blkE) := congrArg (fun t : TipR => t.b) HR5.out
 have HM5 : Hid (midBlk u5.b) := by
  have h1 : u5.b.l = [idH tipE.b.h] := congrArg (fun t : BlkR => t.l) HB5.out
  have h2 : rsT u5.b.t = [] := congrArg (fun t : BlkR => t.t) HB5.out
  have h3 : u5.b.t = [] := List.map_eq_nil_iff.1 h2
  refine ⟨by rw [h1]; decide, ?_⟩
  rw [h3]
  exact ⟨by decide, fun t h => by cases h⟩
 have HL5 : Hid (u5.b.l = [idH tipE.b.h]) := congrArg (fun t : BlkR => t.l) HB5.out
 have HH5 : Hid (u5.b.h = blkE.h) := congrArg (fun t : BlkR => t.h) HB5.out
 have HGT : Hid (u5.b.h.height = 1) := by show _ = _; rw [HH5.out]; exact exE_height
 have HWK : Hid (u5.b.h.work = 2) := by show _ = _; rw [HH5.out]; exact exE_sum
 have HN1 : Hid (u5.b.n1 = 1) := by obtain ⟨v, hv⟩ := HV5.out; show _ = _; rw [← hv.2.b.l1, HL5.out]; rfl
 have HIS : Hid (isId (idH tipE.b.h)) := by obtain ⟨v, hv⟩ := HV5.out; exact hv.2.b.o1 _ (by rw [HL5.out]; exact mS.2 rfl)
 have HI2 : Hid (eqL (idH tipE.b.h) (idH tipE.b.h) = true) := by show _ = _; unfold eqL; exact decide_eq_true rfl
 have HSM : Hid (decide (b2.r = u5.b.r) = true) := decide_eq_true (by rw [HR2.out, HB5.out])
 have HLD : Hid (∀ u, EnvX w u ((g5, oc (tipA u5) 37) :: (N5 ++ ((g2, oc (blkA b2) 33) :: (N2 ++ ((g1, oc (tipA t1) 37) :: N1))))) → ∃ ad, u5.b.A1 = some ad ∧ (loadVar 23 (ad.add (0 * 32))).run Tryz.prog u = .ok (idv (idH tipE.b.h)) u) := fun u hu => by
  have hk := (HT5.out u _ hu (fun y MEM => (mT (mL MEM)))).2.b
  obtain ⟨ad, hA, hl⟩ := IdsIn.load hk.m1 hk.o1 (i := 0) (by rw [HL5.out]; decide)
  rw [HL5.out] at hl
  exact ⟨ad, hA, hl⟩
 obtain ⟨ad, hA, -⟩ := HLD.out _ EX22.out
 have HAD := hD hA
 have HLX : Hid (∀ u, EnvX w u ((g5, oc (tipA u5) 37) :: (N5 ++ ((g2, oc (blkA b2) 33) :: (N2 ++ ((g1, oc (tipA t1) 37) :: N1))))) → (loadVar 23 (ad.add (0 * 32))).run Tryz.prog u = .ok (idv (idH tipE.b.h)) u) := fun u hu => by
  obtain ⟨ad2, hA2, hl⟩ := HLD.out u hu
  have e : ad2 = ad := Option.some.inj (hA2.symm.trans HAD.out)
  rwa [e] at hl
 clear hA HLD
 go_upto_region 4 with (fail)
 refine rgK [0,1,2,3,4,5,6,7,8,9,10,11,12,13,14,15,16,17,18,19,20,21,22,23,24,25,26,27,28,29,30,31,32,33,34,35,36,37,38,39,40,41,42,43,44,45,46,47,48,49,50,51,52,53,54,55,56,57] 0 EX22 rfl (by kernel_rfl) (by kernel_rfl) fun hw => ?_
 refine qw 3 hw ?_
 refine qv rfl (fun u hu => eqErr_op u (decide_eq_true rfl) rfl rfl) hw ?_
 refine qw 3 hw ?_
 refine qv rfl (fun u hu => eqErr_op u (decide_eq_true rfl) rfl rfl) hw ?_
 refine qw 5 hw ?_
 refine qv (v := .int .i64 1) rfl (fun u hu => load_any_op u (by have h := (loads_hd HK5.out (box_tip_hd hu mH HK5.out)).2.1; rwa [HGT.out] at h) rfl) hw ?_
 refine qv rfl (fun u hu => eqlI_op u (decide_eq_true rfl) rfl rfl) hw ?_
 refine qw 4 hw ?_
 refine qv (v := .slice (some ad) 1 u5.b.c1) rfl (fun u hu => load_any_op u (by have h := box_tip_l hu mH HK5.out; rwa [HAD.out, HN1.out] at h) rfl) hw ?_
 refine qv (v := .int .i64 ((1 : Nat) : Int)) rfl (fun u hu => len_op Tryz.underlying30 (by decide) u rfl) hw ?_
 refine qv rfl (fun u hu => eqlI_op u (decide_eq_true rfl) rfl rfl) hw ?_
 refine qw 4 hw ?_
 refine qv (v := .slice (some ad) 1 u5.b.c1) rfl (fun u hu => load_any_op u (by have h := box_tip_l hu mH HK5.out; rwa [HAD.out, HN1.out] at h) rfl) hw ?_
 refine qv (v := .pointer (some (ad.add (0 * 32)))) rfl (fun u hu => idxSl_op (i := 0) Tryz.underlying30 aggIdT.size (by decide) u rfl rfl) hw ?_
 refine qv rfl (fun u hu => load_any_op u (HLX.out u hu) rfl) hw ?_
 refine qw 2 hw ?_
 refine qv (v := hdV tipE.b.h) rfl (fun u hu => load_any_op u (by have h := (loads_hd HK1.out (box_tip_hd hu (mT (mR (mT (mR mH)))) HK1.out)).1; rwa [HH1.out] at h) rfl) hw ?_
 refine qc (args := #[hdV tipE.b.h]) (v := idv (idH tipE.b.h)) rfl Tryz.func28 (fun u hu => by have h := GG.out.id tipE.b.h u (by have h0 := HO1.out; rwa [HH1.out] at h0) (HT.out.below (EnvX.bel hu)); exact h) hw ?_
 refine qv rfl (fun u hu => eqlb_op HIS.out.1 HIS.out.1 HI2.out u rfl rfl) hw ?_
 refine qw 5 hw ?_
 refine qv (v := .agg (wcs 2)) rfl (fun u hu => load_any_op u (by have h := (loads_hd HK5.out (box_tip_hd hu mH HK5.out)).2.2.2.2.2.2.1; rwa [HWK.out] at h) rfl) hw ?_
 refine qc (args := #[.int .u64 2]) (v := .agg (wcs 2)) rfl Tryz.func32 (fun u hu => GG.out.of 2 u (by decide)) hw ?_
 refine qv (v := .bool true) rfl (fun u hu => eqlW_op (by decide) (by decide) (by decide) u rfl rfl) hw ?_
 refine qw 4 hw ?_
 refine qv (v := hdV tipE.b.h) rfl (fun u hu => load_any_op u (by have h := (loads_hd HK1.out (box_tip_hd hu (mT (mR (mT (mR mH)))) HK1.out)).1; rwa [HH1.out] at h) rfl) hw ?_
 refine qc (args := #[hdV tipE.b.h]) (v := idv (idH tipE.b.h)) rfl Tryz.func28 (fun u hu => by have h := GG.out.id tipE.b.h u (by have h0 := HO1.out; rwa [HH1.out] at h0) (HT.out.below (EnvX.bel hu)); exact h) hw ?_
 refine qv (v := idv z32) rfl (fun u hu => buildA_op u (by kernel_rfl)) hw ?_
 refine qv rfl (fun u hu => neqb_op HIS.out.1 rfl exE_id u rfl rfl) hw ?_
 refine qw 2 hw ?_
 refine ql rfl (mT (mR mH)) HK2.out hw ?_
 refine qf rfl hw ?_
 refine ql rfl mH HK5.out hw ?_
 refine qc (args := #[blkV b2, blkV u5.b]) (v := .bool true) rfl Tryz.func21 (fun u hu => by have h := HH.out.same b2 u5.b u (HT2.out u _ hu (fun y MEM => (mT (mR (mT (mL MEM)))))).2 HM2.out (HT5.out u _ hu (fun y MEM => (mT (mL MEM)))).2.b HM5.out (HT.out.below (EnvX.bel hu)); rwa [HSM.out] at h) hw ?_
 refine qw 2 hw ?_
 refine enH (by kernel_rfl) fun u26 EX25 => ?_
 have HBE := hD (EnvX.bel EX25.out)
 go_wp2
 go_ret
 exact ⟨rfl, HBE.out⟩
theorem putHd_mid {a b c d : List Value} {k n : Nat} (ha : a.length = k) (hb : b.length = n) : (a ++ (b ++ c)).take k ++ d ++ (a ++ (b ++ c)).drop (k + n) = a ++ (d ++ c) := by
 rw [List.take_left' ha, ← List.drop_drop, List.drop_left' ha, List.drop_left' hb, aA]
theorem putHd_links {h : Hd} (k : lenH h) (v : List Int) (r : List Value) : (hdC h ++ r).take 33 ++ (arrB 32 v).toList ++ (hdC h ++ r).drop (33 + 32) = hdC { h with links := v } ++ r := by
 have := putHd_mid (a := [.int .i64 h.height] ++ (arrB 32 h.prev).toList) (b := (arrB 32 h.links).toList) (c := (arrB 32 h.txs).toList ++ (arrB 32 h.past).toList ++ (wcs h.work).toList ++ [.int .u32 h.bits] ++ [.int .u64 h.nonce] ++ r) (d := (arrB 32 v).toList) (k := 33) (n := 32) (by simp only [lA, List.length_cons, List.length_nil, idA_list k.1, idA_list k.2.1, idA_list k.2.2.1, idA_list k.2.2.2, wcs_list]) (idA_list k.2.1)
 unfold hdC
 simp only [aA, List.nil_append] at this ⊢
 exact this
theorem putHd_txs {h : Hd} (k : lenH h) (v : List Int) (r : List Value) : (hdC h ++ r).take 65 ++ (arrB 32 v).toList ++ (hdC h ++ r).drop (65 + 32) = hdC { h with txs := v } ++ r := by
 have := putHd_mid (a := [.int .i64 h.height] ++ (arrB 32 h.prev).toList ++ (arrB 32 h.links).toList) (b := (arrB 32 h.txs).toList) (c := (arrB 32 h.past).toList ++ (wcs h.work).toList ++ [.int .u32 h.bits] ++ [.int .u64 h.nonce] ++ r) (d := (arrB 32 v).toList) (k := 65) (n := 32) (by simp only [lA, List.length_cons, List.length_nil, idA_list k.1, idA_list k.2.1, idA_list k.2.2.1, idA_list k.2.2.2, wcs_list]) (idA_list k.2.2.1)
 unfold hdC
 simp only [aA, List.nil_append] at this ⊢
 exact this
theorem putHd_past {h : Hd} (k : lenH h) (v : List Int) (r : List Value) : (hdC h ++ r).take 97 ++ (arrB 32 v).toList ++ (hdC h ++ r).drop (97 + 32) = hdC { h with past := v } ++ r := by
 have := putHd_mid (a := [.int .i64 h.height] ++ (arrB 32 h.prev).toList ++ (arrB 32 h.links).toList ++ (arrB 32 h.txs).toList) (b := (arrB 32 h.past).toList) (c := (wcs h.work).toList ++ [.int .u32 h.bits] ++ [.int .u64 h.nonce] ++ r) (d := (arrB 32 v).toList) (k := 97) (n := 32) (by simp only [lA, List.length_cons, List.length_nil, idA_list k.1, idA_list k.2.1, idA_list k.2.2.1, idA_list k.2.2.2, wcs_list]) (idA_list k.2.2.2)
 unfold hdC
 simp only [aA, List.nil_append] at this ⊢
 exact this
theorem putHd_bits {h : Hd} (k : lenH h) (v : Nat) (r : List Value) : (hdC h ++ r).take 133 ++ [.int .u32 v] ++ (hdC h ++ r).drop (133 + 1) = hdC { h with bits := v } ++ r := by
 have := putHd_mid (a := [.int .i64 h.height] ++ (arrB 32 h.prev).toList ++ (arrB 32 h.links).toList ++ (arrB 32 h.txs).toList ++ (arrB 32 h.past).toList ++ (wcs h.work).toList) (b := [.int .u32 h.bits]) (c := [.int .u64 h.nonce] ++ r) (d := [.int .u32 v]) (k := 133) (n := 1) (by simp only [lA, List.length_cons, List.length_nil, idA_list k.1, idA_list k.2.1, idA_list k.2.2.1, idA_list k.2.2.2, wcs_list]) rfl
 unfold hdC
 simp only [aA, List.nil_append] at this ⊢
 exact this
def putsAt (place : Nat → Option (Nat × Nat)) : List Value → List (Nat × Value) → List Value → Prop
  | zs, [], r => zs = r
  | zs, (i, v) :: ps, r => ∃ o, place i = some (o, v.cells.size) ∧ o + v.cells.size ≤ zs.length ∧ putsAt place (zs.take o ++ v.cells.toList ++ zs.drop (o + v.cells.size)) ps r
theorem fill_puts {place : Nat → Option (Nat × Nat)} : ∀ (ps : List (Nat × Value)) (zs : Array Value) (r : List Value), putsAt place zs.toList ps r → Instr.fill place zs ps = some r.toArray
 | [], zs, r, h => by
  have h' : zs.toList = r := h
  rw [← h', Array.toArray_toList]
  rfl
 | (i, v) :: ps, zs, r, ⟨o, h1, h2, h3⟩ => by
  rw [Array.length_toList] at h2
  obtain ⟨g1, g2⟩ := Great.foldl_set o v.cells.toList 0 zs
  have e1 : v.cells.zipIdx.foldl (fun cs (x : Value × Nat) => cs.setIfInBounds (o + x.2) x.1) zs = (v.cells.toList.zipIdx 0).foldl (fun cs (x : Value × Nat) => cs.setIfInBounds (o + x.2) x.1) zs := by rw [← Array.foldl_toList, Array.toList_zipIdx]
  have e2 := fill_step o v.cells zs h2
  unfold Instr.fill
  simp only [h1, e1]
  split
  · rename_i h
    simp at h
    omega
  · exact fill_puts ps _ r (by rw [e2]; exact h3)
theorem built_puts {t : TypeId} {fields : Array Field} {places : List (Nat × Nat)} {cs : List Value} (hu : Tryz.prog.underlying t = some (.struct fields)) (hn : (Tryz.prog.info? t).map (fun i => i.zero.map (·.cells)) = some (some cs.toArray))
  (hp : fields.toList.mapM (fun f => (Tryz.prog.info? f.type).map fun i => (f.offset, i.size)) = some places) {ps : List (Nat × Value)} {r : List Value} (h : putsAt (places.toArray[·]?) cs ps r) : Tryz.prog.built t ps = some r.toArray := by
 cases hq : Tryz.prog.info? t with
 | none => rw [hq] at hn; cases hn
 | some it =>
  rw [hq] at hn
  simp only [Option.map_some, Option.some.injEq] at hn
  cases hzz : it.zero with
  | none => rw [hzz] at hn; cases hn
  | some z =>
   rw [hzz] at hn
   simp only [Option.map_some, Option.some.injEq] at hn
   unfold Program.built
   simp only [hq, hu, hzz, hp]
   exact fill_puts ps _ r (by rw [hn]; exact h)
theorem puts_id {place : Nat → Option (Nat × Nat)} {zs r : List Value} {i o : Nat} {x : List Int} {ps : List (Nat × Value)} (hx : x.length = 32) (h1 : place i = some (o, 32)) (h2 : o + 32 ≤ zs.length) (h3 : putsAt place (zs.take o ++ (arrB 32 x).toList ++ zs.drop (o + 32)) ps r) : putsAt place zs ((i, idv x) :: ps) r := by
 have hz : (arrB 32 x).size = 32 := arrB_size _ _ (by rw [hx]; omega)
 refine ⟨o, ?_, ?_, ?_⟩
 · show place i = some (o, (arrB 32 x).size)
   rw [hz, h1]
 · show o + (arrB 32 x).size ≤ zs.length
   rw [hz]
   exact h2
 · show putsAt place (zs.take o ++ (arrB 32 x).toList ++ zs.drop (o + (arrB 32 x).size)) ps r
   rw [hz]
   exact h3
theorem puts_hd {place : Nat → Option (Nat × Nat)} {zs r : List Value} {i o : Nat} {x : Hd} {ps : List (Nat × Value)} (hx : lenH x) (h1 : place i = some (o, 135)) (h2 : o + 135 ≤ zs.length) (h3 : putsAt place (zs.take o ++ hdC x ++ zs.drop (o + 135)) ps r) : putsAt place zs ((i, hdV x) :: ps) r := by
 have hz : (hdA x).size = 135 := hdA_size hx
 refine ⟨o, ?_, ?_, ?_⟩
 · show place i = some (o, (hdA x).size)
   rw [hz, h1]
 · show o + (hdA x).size ≤ zs.length
   rw [hz]
   exact h2
 · show putsAt place (zs.take o ++ hdC x ++ zs.drop (o + (hdA x).size)) ps r
   rw [hz]
   exact h3
theorem puts_blk {place : Nat → Option (Nat × Nat)} {zs r : List Value} {i o : Nat} {x : BlkM} {ps : List (Nat × Value)} (hx : lenH x.h) (h1 : place i = some (o, 137)) (h2 : o + 137 ≤ zs.length) (h3 : putsAt place (zs.take o ++ blkC x ++ zs.drop (o + 137)) ps r) : putsAt place zs ((i, blkV x) :: ps) r := by
 have hz : (blkA x).size = 137 := blkA_size hx
 refine ⟨o, ?_, ?_, ?_⟩
 · show place i = some (o, (blkA x).size)
   rw [hz, h1]
 · show o + (blkA x).size ≤ zs.length
   rw [hz]
   exact h2
 · show putsAt place (zs.take o ++ blkC x ++ zs.drop (o + (blkA x).size)) ps r
   rw [hz]
   exact h3
theorem puts_one {place : Nat → Option (Nat × Nat)} {zs r : List Value} {i o : Nat} {v : Value} {ps : List (Nat × Value)} (hv : v.cells = #[v]) (h1 : place i = some (o, 1)) (h2 : o + 1 ≤ zs.length) (h3 : putsAt place (zs.take o ++ [v] ++ zs.drop (o + 1)) ps r) : putsAt place zs ((i, v) :: ps) r := by
 refine ⟨o, ?_, ?_, ?_⟩
 · rw [hv]; exact h1
 · rw [hv]; exact h2
 · rw [hv]; exact h3
theorem built_hdF {x y z : List Int} {n : Nat} (hx : x.length = 32) (hy : y.length = 32) (hz : z.length = 32) : Tryz.prog.built 29 [(2, idv x), (3, idv y), (4, idv z), (6, .int .u32 (n : Int))] = some (hdA ⟨0, z32, x, y, z, 0, n, 0⟩) := by
 have l0 : (hdC noHd).length = 135 := hdC_len (h := noHd) len_no
 have p1 := putHd_links (h := noHd) len_no x []
 have k1 : lenH { noHd with links := x } := ⟨rfl, hx, rfl, rfl⟩
 have p2 := putHd_txs k1 y []
 have k2 : lenH { noHd with links := x, txs := y } := ⟨rfl, hx, hy, rfl⟩
 have p3 := putHd_past k2 z []
 have k3 : lenH { noHd with links := x, txs := y, past := z } := ⟨rfl, hx, hy, hz⟩
 have p4 := putHd_bits k3 n []
 simp only [List.append_nil] at p1 p2 p3 p4
 refine built_puts (cs := hdC noHd) Tryz.underlying29 (by kernel_rfl) (places := [(0, 1), (1, 32), (33, 32), (65, 32), (97, 32), (129, 4), (133, 1), (134, 1)]) (by kernel_rfl) ?_
 refine puts_id (o := 33) hx rfl (by rw [l0]; decide) ?_
 rw [p1]
 refine puts_id (o := 65) hy rfl (by rw [hdC_len k1]; decide) ?_
 rw [p2]
 refine puts_id (o := 97) hz rfl (by rw [hdC_len k2]; decide) ?_
 rw [p3]
 refine puts_one (o := 133) rfl rfl (by rw [hdC_len k3]; decide) ?_
 rw [p4]
 rfl
theorem blkC_put {h h' : Hd} (k : lenH h) (r : List Value) : (hdC h ++ r).take 0 ++ hdC h' ++ (hdC h ++ r).drop (0 + 135) = hdC h' ++ r := by
 rw [List.take_zero, List.nil_append, Nat.zero_add, List.drop_left' (hdC_len k)]
theorem at_end {a r s : List Value} {v : Value} {n : Nat} (ha : a.length = n) (hr : r.length = 1) : (a ++ (r ++ s)).take n ++ [v] ++ (a ++ (r ++ s)).drop (n + 1) = a ++ ([v] ++ s) := putHd_mid ha hr
theorem built_blkH {h : Hd} (k : lenH h) : Tryz.prog.built 33 [(0, hdV h)] = some (blkA ⟨h, [], none, 0, 0, [], none, 0, 0⟩) := by
 refine built_puts (cs := blkC noBlkM) Tryz.underlying33 (by kernel_rfl) (places := [(0, 135), (135, 1), (136, 1)]) (by kernel_rfl) ?_
 refine puts_hd (o := 0) k rfl (by rw [blkC_len (b := noBlkM) len_no]; decide) ?_
 show putsAt _ ((hdC noHd ++ _).take 0 ++ hdC h ++ (hdC noHd ++ _).drop (0 + 135)) _ _
 rw [blkC_put len_no]
 rfl
theorem built_blk {b : BlkM} (k : lenH b.h) : Tryz.prog.built 33 [(0, hdV b.h), (1, Value.slice b.A1 b.n1 b.c1), (2, Value.slice b.A2 b.n2 b.c2)] = some (blkA b) := by
 have l1 : ∀ x y : Value, (hdC b.h ++ [x, y]).length = 137 := fun x y => by rw [lA, hdC_len k]; rfl
 refine built_puts (cs := blkC noBlkM) Tryz.underlying33 (by kernel_rfl) (places := [(0, 135), (135, 1), (136, 1)]) (by kernel_rfl) ?_
 refine puts_hd (o := 0) k rfl (by rw [blkC_len (b := noBlkM) len_no]; decide) ?_
 show putsAt _ ((hdC noHd ++ [Value.slice none 0 0, Value.slice none 0 0]).take 0 ++ hdC b.h ++ (hdC noHd ++ [Value.slice none 0 0, Value.slice none 0 0]).drop (0 + 135)) _ _
 rw [blkC_put len_no]
 refine puts_one (o := 135) rfl rfl (by rw [l1]; decide) ?_
 rw [show hdC b.h ++ [Value.slice none 0 0, Value.slice none 0 0] = hdC b.h ++ ([Value.slice none 0 0] ++ [Value.slice none 0 0]) from rfl, at_end (hdC_len k) rfl]
 refine puts_one (o := 136) rfl rfl (by rw [show hdC b.h ++ ([Value.slice b.A1 b.n1 b.c1] ++ [Value.slice none 0 0]) = hdC b.h ++ [Value.slice b.A1 b.n1 b.c1, Value.slice none 0 0] from rfl, l1]; decide) ?_
 rw [show hdC b.h ++ ([Value.slice b.A1 b.n1 b.c1] ++ [Value.slice none 0 0]) = (hdC b.h ++ [Value.slice b.A1 b.n1 b.c1]) ++ ([Value.slice none 0 0] ++ []) by rw [List.append_nil, aA], at_end (by rw [lA, hdC_len k]; rfl) rfl]
 show _ = blkC b
 unfold blkC
 rw [List.append_nil, aA]
 rfl
theorem tipC_put {b b' : BlkM} (k : lenH b.h) (r : List Value) : (blkC b ++ r).take 0 ++ blkC b' ++ (blkC b ++ r).drop (0 + 137) = blkC b' ++ r := by
 rw [List.take_zero, List.nil_append, Nat.zero_add, List.drop_left' (blkC_len k)]
theorem built_tip2 {b : BlkM} {p : List Tot} {A : Option Addr} {n c : Nat} (k : lenH b.h) : Tryz.prog.built 37 [(0, blkV b), (1, Value.slice A n c)] = some (tipA ⟨b, p, A, n, c, [], none, 0, 0⟩) := by
 have l1 : ∀ x y : Value, (blkC b ++ [x, y]).length = 139 := fun x y => by rw [lA, blkC_len k]; rfl
 refine built_puts (cs := tipC noTipM) Tryz.underlying37 (by kernel_rfl) (places := [(0, 137), (137, 1), (138, 1)]) (by kernel_rfl) ?_
 refine puts_blk (o := 0) k rfl (by rw [tipC_len (t := noTipM) len_no]; decide) ?_
 show putsAt _ ((blkC noBlkM ++ [Value.slice none 0 0, Value.slice none 0 0]).take 0 ++ blkC b ++ (blkC noBlkM ++ [Value.slice none 0 0, Value.slice none 0 0]).drop (0 + 137)) _ _
 rw [tipC_put (b := noBlkM) len_no]
 refine puts_one (o := 137) rfl rfl (by rw [l1]; decide) ?_
 rw [show blkC b ++ [Value.slice none 0 0, Value.slice none 0 0] = blkC b ++ ([Value.slice none 0 0] ++ [Value.slice none 0 0]) from rfl, at_end (blkC_len k) rfl]
 rfl
theorem built_tip {t : TipM} (k : lenH t.b.h) : Tryz.prog.built 37 [(0, blkV t.b), (1, Value.slice t.A3 t.n3 t.c3), (2, Value.slice t.A4 t.n4 t.c4)] = some (tipA t) := by
 have l1 : ∀ x y : Value, (blkC t.b ++ [x, y]).length = 139 := fun x y => by rw [lA, blkC_len k]; rfl
 refine built_puts (cs := tipC noTipM) Tryz.underlying37 (by kernel_rfl) (places := [(0, 137), (137, 1), (138, 1)]) (by kernel_rfl) ?_
 refine puts_blk (o := 0) k rfl (by rw [tipC_len (t := noTipM) len_no]; decide) ?_
 show putsAt _ ((blkC noBlkM ++ [Value.slice none 0 0, Value.slice none 0 0]).take 0 ++ blkC t.b ++ (blkC noBlkM ++ [Value.slice none 0 0, Value.slice none 0 0]).drop (0 + 137)) _ _
 rw [tipC_put (b := noBlkM) len_no]
 refine puts_one (o := 137) rfl rfl (by rw [l1]; decide) ?_
 rw [show blkC t.b ++ [Value.slice none 0 0, Value.slice none 0 0] = blkC t.b ++ ([Value.slice none 0 0] ++ [Value.slice none 0 0]) from rfl, at_end (blkC_len k) rfl]
 refine puts_one (o := 138) rfl rfl (by rw [show blkC t.b ++ ([Value.slice t.A3 t.n3 t.c3] ++ [Value.slice none 0 0]) = blkC t.b ++ [Value.slice t.A3 t.n3 t.c3, Value.slice none 0 0] from rfl, l1]; decide) ?_
 rw [show blkC t.b ++ ([Value.slice t.A3 t.n3 t.c3] ++ [Value.slice none 0 0]) = (blkC t.b ++ [Value.slice t.A3 t.n3 t.c3]) ++ ([Value.slice none 0 0] ++ []) by rw [List.append_nil, aA], at_end (by rw [lA, blkC_len k]; rfl) rfl]
 show _ = tipC t
 unfold tipC
 rw [List.append_nil, aA]
 rfl
theorem built_blk0 : Tryz.prog.built 33 [] = some (blkA noBlkM) := by kernel_rfl
theorem built_tip0 : Tryz.prog.built 37 [] = some (tipA noTipM) := by kernel_rfl
theorem z32_id : isId z32 := ⟨rfl, fun y hy => by rw [List.eq_of_mem_replicate hy]; decide⟩
theorem idH_id (h : Hd) : isId (idH h) := by
 unfold idH
 split
 · exact sumL_id _
 · exact z32_id
theorem workH_lt (h : Hd) : workH h < Big := by
 unfold workH
 split
 · exact wkV_lt _
 · unfold Big; decide
theorem levelH_i64 (h : Hd) : I64 (levelH h) := by
 unfold levelH I64
 split
 · split
   · omega
   · have := lvI_le (numB (idH h)) (tv h.bits)
     omega
 · omega
theorem leafH_ok (h : Hd) : okT (leafH h) := ⟨idH_id h, workH_lt h, by show -9223372036854775808 ≤ (1 : Int); omega, by show (1 : Int) ≤ _; omega⟩
theorem wrap_i64I (x : Int) : I64 (IntKind.i64.wrap x) := by
 unfold I64
 rw [IntKind.wrap_i64]
 omega
theorem nextK_ok {t : TipR} (l : List TxR) {nonce : Nat} (hp : okTs t.p) (hb : t.b.h.bits < 4294967296) (hn : nonce < 18446744073709551616) : okHd (nextK t l nonce) :=
 ⟨wrap_i64I _, idH_id _, root_id (leavesL_ids _), root_id (idsX_ids _), (root_ok hp).1, (root_ok hp).2.1, hb, hn⟩
theorem linksK_ids {t : TipR} (hl : isIds t.b.l) : isIds (linksK t) := next_ids hl (idH_id _)
theorem linksK_len (t : TipR) : (linksK t).length ≤ 32 := next_len
theorem getD_el {α : Type} (d : α) {l : List α} {j : Nat} (h : j < l.length) : l.getD j d = l[j] := by
 rw [gD, gE h]
 rfl
theorem row_get {cs : List Value} {L : List (List Value)} {z n j : Nat} (hL : isRows z L) (hn : L.length = n) (hc : cs.take (n * z) = L.flatten) (hj : j < n) : (cs.drop (0 + j * z)).take z = L.getD j [] := by
 have h1 : j * z + z ≤ n * z := by
  have := Nat.mul_le_mul_right z (show j + 1 ≤ n from hj)
  rwa [Nat.succ_mul] at this
 have e : (cs.drop (0 + j * z)).take z = ((cs.take (n * z)).drop (j * z)).take z := by
  rw [Nat.zero_add, List.drop_take, List.take_take, Nat.min_eq_left (by omega)]
 rw [e, hc, ← hL.flat_drop]
 have hlt : j < L.length := by omega
 rw [List.drop_eq_getElem_cons hlt, List.flatten_cons, List.take_left' (hL _ (List.getElem_mem hlt)), getD_el [] hlt]
theorem row_set {cs : List Value} {L : List (List Value)} {z n k : Nat} {v : List Value} (hL : isRows z L) (hn : L.length = n) (hc : cs.take (n * z) = L.flatten) (hk : k < n) (hv : v.length = z) :
  (cs.take (0 + k * z) ++ v ++ cs.drop (0 + k * z + z)).take (n * z) = (L.set k v).flatten := by
 have h1 : k * z + z ≤ n * z := by
  have := Nat.mul_le_mul_right z (show k + 1 ≤ n from hk)
  rwa [Nat.succ_mul] at this
 have hF : L.flatten.length = n * z := by rw [hL.flat_len, hn]
 obtain ⟨R, hR⟩ : ∃ R, cs = L.flatten ++ R := ⟨cs.drop (n * z), by rw [← hc, List.take_append_drop]⟩
 have hlt : k < L.length := by omega
 have es : (L.set k v).flatten = L.flatten.take (k * z) ++ v ++ L.flatten.drop (k * z + z) := by
  rw [List.set_eq_take_append_cons_drop, if_pos hlt, List.flatten_append, List.flatten_cons, hL.flat_take, hL.flat_drop, Nat.succ_mul, aA]
 have hta : (L.flatten ++ R).take (k * z) = L.flatten.take (k * z) := List.take_append_of_le_length (by omega)
 have hda : (L.flatten ++ R).drop (k * z + z) = L.flatten.drop (k * z + z) ++ R := List.drop_append_of_le_length (by omega)
 rw [es, Nat.zero_add, hR, hta, hda, ← aA]
 refine List.take_left' ?_
 rw [lA, lA, List.length_take, List.length_drop, hF, hv]
 omega
theorem row_put_len {cs : List Value} {z n k c : Nat} {v : List Value} (hk : k < n) (hn : n ≤ c) (hv : v.length = z) (hc : cs.length = c * z) : (cs.take (0 + k * z) ++ v ++ cs.drop (0 + k * z + z)).length = c * z := by
 have h1 : k * z + z ≤ c * z := by
  have := Nat.mul_le_mul_right z (show k + 1 ≤ c by omega)
  rwa [Nat.succ_mul] at this
 rw [lA, lA, List.length_take, List.length_drop, hv, hc]
 omega
section
variable {a : Act} {dst : Option Tmp} {x y : Operand} {ty : TypeId} {pos : String} {after : Array Edge} {gd : Option (Nat × Bool)}
theorem idxSl0_op {t e : TypeId} {z : Nat} (hu : Tryz.prog.underlying t = some (.slice e)) (hz : (Tryz.prog.info? e).map (·.size) = some z) {g n c i : Nat} (hi : i < n) (u : World)
  (hx : a.eval x = .slice (some ⟨g, 0, none⟩) n c) (hy : a.eval y = .int .i64 (i : Int)) :
  (execOp a.eval ⟨dst, .indexAddr t x y, ty, pos, after, gd⟩).run Tryz.prog u = .ok (.value (.pointer (some ⟨g, 0 + i * z, none⟩))) u := by
 have h := idxSl_op (dst := dst) (ty := ty) (pos := pos) (after := after) (gd := gd) hu hz hi u hx hy
 rwa [Addr.add_mid] at h
end
theorem src_in {w u : World} {ad : Addr} {ys : List Value} (h : CellsIn w w.heap.size (some ad) ys) (hb : Below w.heap.size w u) : SrcAt u ad ys := fun j c hc => by
 have hp : 0 < ys.length := by
  rcases Nat.eq_zero_or_pos ys.length with h0 | h0
  · rw [List.eq_nil_of_length_eq_zero h0] at hc
    simp at hc
  · exact h0
 obtain ⟨ad', e, hlt, hcc⟩ := h hp
 obtain rfl := Option.some.inj e
 have hbl : (ad.add j).block = ad.block := by unfold Addr.add; split <;> rfl
 exact (hb.cell (p := ad.add j) (by rw [hbl]; exact hlt)).trans (hcc j c hc)
theorem put_factsZ {ty : TypeId} {z : Nat} (hs : (Tryz.prog.info? ty).map (·.size) = some z) {v old cs : Array Value} {k : Nat} (hv : v.size = z) (h1 : v.all (·.oneCell') = true) (hk : k + z ≤ old.size) (hcs : cs.toList = old.toList.take k ++ v.toList ++ old.toList.drop (k + z)) :
  (Tryz.prog.info? ty).map (·.size) = some (Value.agg v).cells.size ∧ k + (Value.agg v).cells.size ≤ old.size ∧ (Value.agg v).cells.all (·.oneCell') = true ∧ old.toList.take k ++ (Value.agg v).cells.toList ++ old.toList.drop (k + (Value.agg v).cells.size) = cs.toList := by
 have hz : (Value.agg v).cells.size = z := hv
 refine ⟨by rw [hz]; exact hs, by rw [hz]; exact hk, h1, ?_⟩
 rw [hz, hcs]
 rfl
theorem elIdL : ElemT 30 23 32 32 (.agg (arrB 32 [])) := ⟨Tryz.underlying30, by kernel_rfl, arrB_size _ _ (by simp), by decide, by decide, by decide⟩
theorem ids_rows {l : List (List Int)} (h : isIds l) : isRows 32 (l.map (·.map u8v)) := fun x hx => by
 obtain ⟨y, hy, rfl⟩ := List.mem_map.1 hx
 rw [lM]
 exact (h y hy).1
theorem ids_flat (l : List (List Int)) : (l.map (·.map u8v)).flatten = l.flatten.map u8v := by rw [List.map_flatten]
theorem u8_ones {xs : List Int} : ∀ u ∈ xs.map u8v, u.oneCell' = true := fun u hu => by
 obtain ⟨z, _, rfl⟩ := List.mem_map.1 hu
 rfl
theorem setI_facts {X : List (List Int)} {id : List Int} {n k cap : Nat} {cur : Array Value} (hX : isIds X) (hl : X.length = n) (hid : id.length = 32) (hk : k < n) (h1 : n ≤ cap) (hs : cur.size = cap * 32) (hc : cur.toList.take (n * 32) = X.flatten.map u8v) :
  ∃ cs : Array Value, ((Tryz.prog.info? 23).map (·.size) = some (Value.agg (arrB 32 id)).cells.size ∧ 0 + k * 32 + (Value.agg (arrB 32 id)).cells.size ≤ cur.size ∧ (Value.agg (arrB 32 id)).cells.all (·.oneCell') = true ∧ cur.toList.take (0 + k * 32) ++ (Value.agg (arrB 32 id)).cells.toList ++ cur.toList.drop (0 + k * 32 + (Value.agg (arrB 32 id)).cells.size) = cs.toList) ∧
   cs.size = cap * 32 ∧ cs.toList.take (n * 32) = (X.set k id).flatten.map u8v := by
 have hz : (arrB 32 id).size = 32 := arrB_size _ _ (by omega)
 have hcl : cur.toList.length = cap * 32 := by rw [Array.length_toList, hs]
 have hv : (id.map u8v).length = 32 := by rw [lM, hid]
 have hr := row_set (cs := cur.toList) (L := X.map (·.map u8v)) (z := 32) (n := n) (k := k) (v := id.map u8v) (ids_rows hX) (by rw [lM, hl]) (by rw [ids_flat]; exact hc) hk hv
 have hln := row_put_len (cs := cur.toList) (z := 32) (n := n) (k := k) (c := cap) (v := id.map u8v) hk h1 hv hcl
 obtain ⟨cs, hcs⟩ : ∃ cs : Array Value, cs.toList = cur.toList.take (0 + k * 32) ++ id.map u8v ++ cur.toList.drop (0 + k * 32 + 32) := ⟨_, List.toList_toArray⟩
 rw [← hcs] at hr hln
 refine ⟨cs, put_factsZ aggIdT.size hz (arrB_one _ _) (by rw [hs]; omega) (by rw [hcs, arrId_map hid]), by rw [← Array.length_toList]; exact hln, ?_⟩
 rw [hr, ← ids_flat, List.map_set]
def NInv (w : World) (id : List Int) (X : List (List Int)) (v : Value) (u : World) : Prop := ∃ N, FreshI X v N ∧ freshN w N [(w.heap.size, oc (arrB 32 id) 23)] ∧ EnvX w u (N ++ [(w.heap.size, oc (arrB 32 id) 23)])
theorem fresh_idsB {l : List (List Int)} {n c : Nat} {A : Option Addr} {N : Boxes} {u : World} (h : FreshR 23 32 n (l.flatten.map u8v) (.slice A n c) N) (hI : isIds l) (hN : ∀ y ∈ N, u.heap[y.1]? = some y.2) (hl : l.length = n := by rfl) : IdsIn u u.heap.size A l :=
 OwnI.ids (B := 0) (by subst hl; exact FreshR.own h (by rw [lM]; exact hI.flat_len) (fun y hy => ⟨Nat.zero_le _, hN y hy⟩))
theorem fresh_totsB {l : List Tot} {n c : Nat} {A : Option Addr} {N : Boxes} {u : World} (h : FreshR 56 37 n (l.map totC).flatten (.slice A n c) N) (hl : l.length = n) (ho : okTs l) (hN : ∀ y ∈ N, u.heap[y.1]? = some y.2) : TotsIn u u.heap.size A l :=
 own_cells (h.own (B := 0) (by rw [flatT_len ho, hl]) (fun y hy => ⟨Nat.zero_le _, hN y hy⟩))
theorem rsT_get {l : List TxM} {i : Nat} (h : i < l.length) : (rsT l).getD i noTx = (l.getD i noTxM).r := by
 unfold rsT
 rw [gD, List.getElem?_map, gD, gE h]
 rfl
theorem rsT_ext {l q : List TxM} (hl : l.length = q.length) (h : ∀ j, j < l.length → (l.getD j noTxM).r = (q.getD j noTxM).r) : rsT l = rsT q := by
 unfold rsT
 refine List.ext_getElem (by rw [lM, lM, hl]) fun j h1 h2 => ?_
 rw [lM] at h1 h2
 have := h j h1
 rw [gD, gD, gE h1, gE h2] at this
 rw [List.getElem_map, List.getElem_map]
 exact this
theorem headK_ok {bits : Nat} (hb : bits < 4294967296) : okHd (headK bits) :=
 ⟨⟨by show (-9223372036854775808 : Int) ≤ 0; omega, by show (0 : Int) ≤ _; omega⟩, z32_id, root_id (l := []) (fun x h => by cases h), root_id (l := []) (fun x h => by cases h), noTot_ok.1, by show 0 < Big; unfold Big; decide, hb, by show 0 < _; omega⟩
theorem tip_first {bits : Nat} (hb : bits < 4294967296) {A1 : Option Addr} {c1 : Nat} {N1 : Boxes} {u : World} (hF : FreshR 56 37 (appT [] (leafH (headK bits))).length ((appT [] (leafH (headK bits))).map totC).flatten (.slice A1 (appT [] (leafH (headK bits))).length c1) N1) (h1 : (appT [] (leafH (headK bits))).length ≤ c1) (h2 : c1 ≤ maxLen) (hN : ∀ y ∈ N1, u.heap[y.1]? = some y.2) :
  IsTip (tipK bits) ⟨⟨headK bits, [], none, 0, 0, [], none, 0, 0⟩, appT [] (leafH (headK bits)), A1, (appT [] (leafH (headK bits))).length, c1, [], none, 0, 0⟩ u := by
 have hap : okTs (appT [] (leafH (headK bits))) := app_ok (fun _ h => by cases h) (leafH_ok _)
 refine ⟨rfl, ⟨⟨headK_ok hb, rfl, ⟨Nat.le_refl _, Nat.zero_le _⟩, (fun x h => by cases h), (fun h => absurd h (Nat.lt_irrefl 0)), rfl, ⟨Nat.le_refl _, Nat.zero_le _⟩, ⟨fun h => absurd h (Nat.lt_irrefl 0), fun t h => by cases h⟩⟩, rfl, ⟨h1, h2⟩, hap, fresh_totsB hF rfl hap hN, rfl, ⟨Nat.le_refl _, Nat.zero_le _⟩, (fun x h => by cases h), (fun h => absurd h (Nat.lt_irrefl 0))⟩⟩
section
variable {t : TipR} {b : BlkR} {K : Hd}
theorem push_e3 (h : 48 ≤ b.h.height) : pushK t b = (t, 3) := by unfold pushK; rw [if_pos h]
theorem push_e5 (hK : nextK t b.t b.h.nonce = K) (h1 : ¬ 48 ≤ b.h.height) (h : ¬ (b.h.height = K.height ∧ b.h.prev = K.prev ∧ b.h.bits = K.bits)) : pushK t b = (t, 5) := by subst hK; unfold pushK; rw [if_neg h1, if_pos h]
theorem push_e6 (hK : nextK t b.t b.h.nonce = K) (h1 : ¬ 48 ≤ b.h.height) (h2 : b.h.height = K.height ∧ b.h.prev = K.prev ∧ b.h.bits = K.bits) (h : ¬ (b.l = linksK t ∧ b.h.links = K.links)) : pushK t b = (t, 6) := by subst hK; unfold pushK; rw [if_neg h1, if_neg (fun k => k h2), if_pos h]
theorem push_e7 (hK : nextK t b.t b.h.nonce = K) (h1 : ¬ 48 ≤ b.h.height) (h2 : b.h.height = K.height ∧ b.h.prev = K.prev ∧ b.h.bits = K.bits) (h3 : b.l = linksK t ∧ b.h.links = K.links) (h : ¬ (b.h.txs = K.txs ∧ b.h.past = K.past ∧ b.h.work = K.work)) : pushK t b = (t, 7) := by
 subst hK; unfold pushK; rw [if_neg h1, if_neg (fun k => k h2), if_neg (fun k => k h3), if_pos h]
theorem push_rest (hK : nextK t b.t b.h.nonce = K) (h1 : ¬ 48 ≤ b.h.height) (h2 : b.h.height = K.height ∧ b.h.prev = K.prev ∧ b.h.bits = K.bits) (h3 : b.l = linksK t ∧ b.h.links = K.links) (h4 : b.h.txs = K.txs ∧ b.h.past = K.past ∧ b.h.work = K.work) :
  pushK t b = if mayH b.h = false then (t, 4) else if (applyP t.c b.t).2 ≠ 0 then (t, (applyP t.c b.t).2) else (⟨b, appT t.p (leafH b.h), (applyP t.c b.t).1⟩, 0) := by
 subst hK; unfold pushK; rw [if_neg h1, if_neg (fun k => k h2), if_neg (fun k => k h3), if_neg (fun k => k h4)]
end
theorem apply_okP {p : List CoinR} (hp : okP p) (l : List TxR) {d : List CoinR} {e : Nat} (h : applyP p l = (d, e)) : okP d := by
 cases hm : mayP p with
 | false =>
  unfold applyP at h
  rw [if_pos hm] at h
  cases h
  exact hp
 | true =>
  have h1 := apply_all hp.id hm l
  rw [h] at h1
  simp only at h1
  have h2 := mayP_iff.1 h1.1
  exact okP_of h1.2.1 h2.2.1
theorem CoB.apart {q : List CoinR} {A : Option Addr} {N M : Boxes} {w0 u : World} (h : CoB q A N) (hq : okP q) (hu : EnvX w0 u M) (hN : ∀ y ∈ N, y ∈ M) {g : Nat} {cs : Array Value} {ty : TypeId} (hg : (g, oc cs ty) ∈ M) (hcs : ∀ (k : Nat) (i : Int), 32 ≤ k → cs[k]? ≠ some (.int .i64 i)) : ∃ N', CoB q A N' ∧ ∀ y ∈ N', y ∈ N ∧ y.1 ≠ g := by
 by_cases h0 : (q.map coC).flatten = []
 · exact ⟨[], .inl ⟨h0, rfl⟩, fun y hy => by cases hy⟩
 · rcases h with ⟨h1, _⟩ | ⟨ad, o, rfl, rfl, hc⟩
   · exact absurd h1 h0
   · refine ⟨_, .inr ⟨ad, o, rfl, rfl, hc⟩, fun y hy => ⟨hy, ?_⟩⟩
     cases mS.1 hy
     intro e
     cases q with
     | nil => exact h0 rfl
     | cons c r =>
      have hx : c.tx.length = 32 := (hq c (List.mem_cons_self ..)).1.1
      have e1 : (((c :: r).map coC).flatten)[32]? = some (.int .i64 c.i) := by
       have hl : (arrB 32 c.tx).toList.length = 32 := idA_list hx
       show ((((arrB 32 c.tx).toList ++ [Value.int .i64 c.i]) ++ outC (outK c)) ++ (r.map coC).flatten)[32]? = _
       rw [aA, aA, List.getElem?_append_right (by rw [hl]; exact Nat.le_refl _), hl]
       rfl
      have e2 := hc u (hu.box _ _ (hN _ (mS.2 rfl))) 32 _ e1
      have e3 : u.heap[g]? = some (oc cs ty) := hu.box _ _ hg
      unfold World.cell? at e2
      rw [show (ad.add 32).block = g from (block_of_add _ _).trans e, e3] at e2
      have e4 : (ad.add 32).off = ad.off + 32 := rfl
      simp only at e2
      split at e2
      · cases e2
      · rw [e4] at e2
        exact hcs _ _ (by omega) e2
theorem tip_noint : ∀ (k : Nat) (i : Int), 32 ≤ k → (tipA noTipM)[k]? ≠ some (.int .i64 i) := by
 have hk : ∀ k : Nat, k < 107 → (match (tipA noTipM)[k + 32]? with | some (.int .i64 _) => false | _ => true) = true := by decide +kernel
 intro k i h e
 rcases Nat.lt_or_ge k 139 with h1 | h1
 · have := hk (k - 32) (by omega)
   rw [show k - 32 + 32 = k by omega, e] at this
   cases this
 · rw [Array.getElem?_eq_none (by rw [tipA_size (t := noTipM) len_no]; exact h1)] at e
   cases e
section
variable {a : Act} {dst : Option Tmp} {x y : Operand} {ty : TypeId} {pos : String} {after : Array Edge} {gd : Option (Nat × Bool)}
end
section
variable {t : TipR} {l : List TxR} {nonce : Nat} {tries : Int} {K : Hd}
theorem mine_e3 (hK : nextK t l nonce = K) (h : 48 ≤ K.height) : mineK t l nonce tries = (noBlk, 3) := by subst hK; unfold mineK; rw [if_pos h]
theorem mine_ee (hK : nextK t l nonce = K) (h1 : ¬ 48 ≤ K.height) (h : (applyP t.c l).2 ≠ 0) : mineK t l nonce tries = (noBlk, (applyP t.c l).2) := by subst hK; unfold mineK; rw [if_neg h1, if_pos h]
theorem mine_e4 (hK : nextK t l nonce = K) (h1 : ¬ 48 ≤ K.height) (h2 : ¬ (applyP t.c l).2 ≠ 0) (h : (mineH K tries).2 = false) : mineK t l nonce tries = (noBlk, 4) := by subst hK; unfold mineK; rw [if_neg h1, if_neg h2, if_pos h]
theorem mine_go (hK : nextK t l nonce = K) (h1 : ¬ 48 ≤ K.height) (h2 : ¬ (applyP t.c l).2 ≠ 0) (h : (mineH K tries).2 = true) : mineK t l nonce tries = (⟨(mineH K tries).1, linksK t, l⟩, 0) := by subst hK; unfold mineK; rw [if_neg h1, if_neg h2, if_neg (by rw [h]; decide)]
theorem okHd_mineB {h : Hd} (hh : okHd h) (tries : Int) : okHd (mineH h tries).1 := by
 unfold mineH
 split
 · exact okHd_nonce hh _
 · exact hh
end
theorem apply_len {p : List CoinR} (hp : okP p) (hn : p.length ≤ 60) (l : List TxR) {d : List CoinR} {e : Nat} (h : applyP p l = (d, e)) : okP d ∧ d.length ≤ 1000 := by
 cases hm : mayP p with
 | false =>
  unfold applyP at h
  rw [if_pos hm] at h
  cases h
  exact ⟨hp, by omega⟩
 | true =>
  have h1 := apply_all hp.id hm l
  rw [h] at h1
  simp only at h1
  have h2 := mayP_iff.1 h1.1
  exact ⟨okP_of h1.2.1 h2.2.1, by omega⟩
structure PSumC : Prop where
  sum : ∀ (p : List CoinR) (A : Option Addr) (n c : Nat) (w : World), p.length = n → n ≤ 1000 → n ≤ c → c ≤ maxLen → okP p → CoinsIn w w.heap.size A p → Tables w → Calls Tryz.prog 25 #[.slice A n c] w fun e w' => e = .returned (.int .i64 (sumP p)) ∧ Below w.heap.size w w'
theorem bcellsBlk : Tryz.prog.cellsOf 33 = 137 := by kernel_rfl
theorem bcellsTip : Tryz.prog.cellsOf 37 = 139 := by kernel_rfl
theorem bcellsIds : Tryz.prog.cellsOf 30 = 1 := by kernel_rfl
theorem bcellsTxs : Tryz.prog.cellsOf 31 = 1 := by kernel_rfl
theorem bcellsTots : Tryz.prog.cellsOf 34 = 1 := by kernel_rfl
theorem bcellsCoins : Tryz.prog.cellsOf 35 = 1 := by kernel_rfl
theorem cut3 {cs a b c : List Value} {i j : Nat} (h0 : (cs.drop 0).take i = a) (h1 : (cs.drop i).take 1 = b) (h2 : (cs.drop (i + 1)).take 1 = c) (hl : cs.length = i + 1 + 1) : cs = a ++ (b ++ c) := by
 have h3 : (cs.drop (i + 1)).take 1 = cs.drop (i + 1) := tL (by rw [List.length_drop]; omega)
 rw [h3, ← List.drop_drop] at h2
 rw [List.drop_zero] at h0
 rw [← h0, ← h1, ← h2, List.take_append_drop, List.take_append_drop]
section
variable {H : Type} {enc : TypeId × Value → H} {W : World} {base : Nat} {v : Value} {d : DataW H} {p : List MemPlace} {fuel : Nat} {cs : List Value} {x : DataW H × List MemPlace}
theorem ids_cells (h : DataW.trod enc Tryz.prog W 0 (fun _ => true) true fuel 30 cs = some x) : ∃ (a : Option Addr) (n c : Nat) (l : List (List Int)), cs = [.slice a n c] ∧ l.length = n ∧ n ≤ c ∧ c ≤ maxLen ∧ isIds l ∧ IdsIn W W.heap.size a l := by
 obtain ⟨a, n, c, l, h1, h2, h3, h4, h5, h6⟩ := open_elemsC (ok := fun t : List Int => t.length = 32 ∧ ∀ b ∈ t, 0 ≤ b ∧ b ≤ 255) (C := fun t : List Int => t.map u8v) Tryz.underlying30 cellsOfId (by decide) (fun t ht => by rw [lM]; exact ht.1) (fun _ _ _ h => by
  obtain ⟨hs, k1, k2, e0⟩ := id_cells h
  exact ⟨hs, ⟨k1, k2⟩, e0⟩) h
 refine ⟨a, n, c, l, h1, h2, h3, h4, h5, fun hp => ?_⟩
 have e : (l.map fun t : List Int => t.map u8v).flatten = l.flatten.map u8v := by rw [List.map_flatten]
 rw [e] at h6
 exact h6 (by rw [lM]; exact hp)
theorem blk_in (h : DataW.trod enc Tryz.prog W 0 (fun _ => true) true fuel 33 cs = some x) : ∃ t : BlkM, BlkOk W t ∧ cs = blkC t := by
 obtain ⟨y0, y1, y2, n, _, hl, h0, h1, h2⟩ := trod_struct3 Tryz.underlying33 h
 rw [bcellsBlk] at hl
 obtain ⟨hd, hok, e0⟩ := hd_cells h0
 obtain ⟨a1, n1, c1, l1, p1, q1, r1, s1, o1, m1⟩ := ids_cells h1
 obtain ⟨a2, n2, c2, l2, p2, q2, r2, s2, o2, m2⟩ := open_elemsC (ok := TxOk W) (C := txC) Tryz.underlying31 ccellsTx (by decide) (fun t ht => rfl) (fun _ _ _ h => tx_cells h) h2
 refine ⟨⟨hd, l1, a1, n1, c1, l2, a2, n2, c2⟩, ⟨hok, q1, ⟨r1, s1⟩, o1, m1, q2, ⟨r2, s2⟩, ⟨m2, o2⟩⟩, ?_⟩
 have e0' : (cs.drop 0).take 135 = hdC hd := by
  have h := e0
  rw [show Tryz.prog.cellsOf 29 = 135 from hcellsHd] at h
  exact h
 have p1' : (cs.drop 135).take 1 = [.slice a1 n1 c1] := by
  have h := p1
  rw [show Tryz.prog.cellsOf 30 = 1 from bcellsIds] at h
  exact h
 have p2' : (cs.drop (135 + 1)).take 1 = [.slice a2 n2 c2] := by
  have h := p2
  rw [show Tryz.prog.cellsOf 31 = 1 from bcellsTxs] at h
  exact h
 exact cut3 (j := 0) e0' p1' p2' hl
theorem tip_in (h : DataW.trod enc Tryz.prog W 0 (fun _ => true) true fuel 37 cs = some x) : ∃ t : TipM, TipOk W t ∧ cs = tipC t := by
 obtain ⟨y0, y1, y2, n, _, hl, h0, h1, h2⟩ := trod_struct3 Tryz.underlying37 h
 rw [bcellsTip] at hl
 obtain ⟨b, hok, e0⟩ := blk_in h0
 obtain ⟨a1, n1, c1, l1, p1, q1, r1, s1, o1, m1⟩ := open_elemsC (ok := okT) (C := totC) Tryz.underlying34 cellsTot (by decide) (fun t ht => totC_len ht.len) (fun _ _ _ h => tot_cells h) h1
 obtain ⟨a2, n2, c2, l2, p2, q2, r2, s2, o2, m2⟩ := open_elemsC (ok := okCoin) (C := coC) Tryz.underlying35 ccellsCo (by decide) (fun t ht => coC_len ht.len) (fun _ _ _ h => co_cells h) h2
 refine ⟨⟨b, l1, a1, n1, c1, l2, a2, n2, c2⟩, ⟨hok, q1, ⟨r1, s1⟩, o1, m1, q2, ⟨r2, s2⟩, o2, m2⟩, ?_⟩
 have e0' : (cs.drop 0).take 137 = blkC b := by
  have h := e0
  rw [show Tryz.prog.cellsOf 33 = 137 from bcellsBlk] at h
  exact h
 have p1' : (cs.drop 137).take 1 = [.slice a1 n1 c1] := by
  have h := p1
  rw [show Tryz.prog.cellsOf 34 = 1 from bcellsTots] at h
  exact h
 have p2' : (cs.drop (137 + 1)).take 1 = [.slice a2 n2 c2] := by
  have h := p2
  rw [show Tryz.prog.cellsOf 35 = 1 from bcellsCoins] at h
  exact h
 exact cut3 (j := 0) e0' p1' p2' hl
theorem open_tip (hok : Value.okWide Tryz.prog W .any base 37 v) (h : DataW.Trod enc Tryz.prog W 0 (fun _ => true) true 37 v d p) : ∃ t : TipM, v = tipV t ∧ TipOk W t := by
 obtain ⟨cs, rfl, hsz, _⟩ : ∃ cs, v = .agg cs ∧ cs.size = Tryz.prog.cellsOf 37 ∧ Row.okWide Tryz.prog W .any base 37 cs := by
  simpa [Value.okWide, Tryz.underlying37] using hok
 obtain ⟨fuel, hf⟩ := h
 obtain ⟨t, ht, hc⟩ := tip_in hf
 refine ⟨t, ?_, ht⟩
 have : cs.toList = tipC t := hc
 unfold tipV tipA
 rw [← this]
end
def zeroBl : List Value := [Value.int .i64 0] ++ (List.replicate 128 (Value.int .u8 0) ++ (List.replicate 4 (Value.int .u64 0) ++ [Value.int .u32 0, Value.int .u64 0])) ++ [Value.slice none 0 0, Value.slice none 0 0]
def zeroBD {H : Type} : DataW H := .agg [zeroHD, .nil, .nil]
def zeroP : Value := .agg (zeroBl ++ [Value.slice none 0 0, Value.slice none 0 0]).toArray
def zeroPD {H : Type} : DataW H := .agg [zeroBD, .nil, .nil]
theorem mid_blk {b : BlkM} {r : BlkR} (h : b.r = r) (h1 : r.l.length ≤ 1000) {l : List TxM} (h2 : r.t = rsT l) (k : midTxs l) : midBlk b := by
 have e1 : b.l = r.l := congrArg BlkR.l h
 have e2 : rsT b.t = r.t := congrArg BlkR.t h
 exact ⟨by rw [e1]; exact h1, midTxs_r (e2.trans h2) k⟩
theorem mine_sum {p : List CoinR} (hp : okP p) {l : List TxR} (h0 : (applyP p l).2 = 0) : sumP (applyP p l).1 ≤ sumP p + 50 ∧ 0 ≤ sumP p ∧ sumP p ≤ 52776558133248 := by
 cases hm : mayP p with
 | false =>
  have : (applyP p l).2 = 1 := by unfold applyP; rw [if_pos hm]
  omega
 | true =>
  obtain ⟨h1, -, h3, -⟩ := apply_all hp.id hm l
  rw [sumP_may hm, sumP_may h1]
  obtain ⟨k1, k2, _⟩ := mayP_iff.1 hm
  have b1 := sumV_bound k2
  exact ⟨h3, by omega, by omega⟩
theorem law_bmines_a (H : BlockC) (G : AwkC) (GS : PSumC) (t : TipM) (l : List TxM) (A : Option Addr) (n c : Nat) (nonce : Nat) (tries : Int) (w : World) (kt : TipOk w t) (hl : l.length = n) (hnc : n ≤ c) (hcm : c ≤ maxLen) (hA : TxsIn w A l) (hno : nonce < 18446744073709551616) (hti : I64 tries) (ht : Tables w) (k1 : fewP t = false) (k2 : fewAll l 6 = fewAll l 6) :
  Rz 4 #[tipV t, .slice A n c, .int .u64 (nonce : Int), .int .i64 tries] w (.bool true) := by
 unfold Rz
 have HT := hD ht
 have HH := hD H
 have KT := hD kt
 have HKt : Hid (lenH t.b.h) := kt.b.h.len
 have HM63 : Hid (n < 9223372036854775808) := by show _ < _; unfold maxLen at hcm; omega
 have HL := hD hl
 have HTI := hD hA
 have HNC := hD (And.intro hnc hcm)
 have HNO := hD hno
 have HTR := hD hti
 have HF1 : Hid (fewP t = false) := k1
 have HF2 : Hid (fewAll l 6 = fewAll l 6) := k2
 have HAW : Hid (Rt w 10 #[] (.bool true)) := fun u hu => bawake_any H G u (ht.below (EnvX.bel hu))
 have E1 : Hid (EnvX w (w.alloc (.cells (tipA t) 37)) [(w.heap.size, oc (tipA t) 37)]) := (EnvX.start w).new _
 clear ht H G GS kt hl hnc hcm hA hno hti k1 k2
 unfold tipV
 go_enter Tryz.func4, Tryz.ntmps4
 go_upto_region 1 with (fail)
 generalize w.alloc (.cells (tipA t) 37) = W at *
 refine rgQ [0,1] [] E1 rfl fun hw => ?_
 refine qc rfl Tryz.func10 (fun u hu => HAW.out u (nl hu)) hw ?_
 refine qo rfl hw ?_
 refine enP fun u3 EX2 => ?_
 go_upto_region 2 with (fail)
 refine rgQ [0,1,2] [] EX2 rfl fun hw => ?_
 refine ql rfl mH HKt.out hw ?_
 refine qc (args := #[tipV t]) (v := .bool (false)) rfl Tryz.func11 (fun u hu => by have h1 := fewtip_any t u (KT.out.up (EnvX.bel hu)); rwa [HF1.out] at h1) hw ?_
 refine qo rfl hw ?_
 refine enP fun u6 EX5 => ?_
 go_upto_region 3 with (fail)
 refine rgQ [0,1,2] [] EX5 rfl fun hw => ?_
 refine qo rfl hw ?_
 refine qc (args := #[.slice A n c, .int .i64 6]) (v := .bool (fewAll l 6)) rfl Tryz.func24 (fun u hu => by have h1 := fewall_any l 6 A n c u HL.out HM63.out (HTI.out.up (EnvX.bel hu)); rwa [HF2.out] at h1) hw ?_
 refine qo rfl hw ?_
 refine enP fun u9 EX8 => ?_
 go_upto_region 4 with (fail)
 refine rgQ [0,1,2,3,4,5,6,7,8,9,10,11,12,13] [] EX8 rfl fun hw => ?_
 refine qw 14 hw ?_
 refine enP fun u12 EX11 => ?_
 go_upto_region 5 with (fail)
 refine rgQ [0,1] [] EX11 rfl fun hw => ?_
 refine qw 2 hw ?_
 refine enP fun u15 EX14 => ?_
 have HBE := hD (EnvX.bel EX14.out)
 go_wp2
 go_ret
 exact ⟨rfl, HBE.out⟩
theorem law_bmines_b (H : BlockC) (G : AwkC) (GS : PSumC) (t : TipM) (l : List TxM) (A : Option Addr) (n c : Nat) (nonce : Nat) (tries : Int) (w : World) (kt : TipOk w t) (hl : l.length = n) (hnc : n ≤ c) (hcm : c ≤ maxLen) (hA : TxsIn w A l) (hno : nonce < 18446744073709551616) (hti : I64 tries) (ht : Tables w) (k1 : fewP t = true) (k2 : fewAll l 6 = false) :
  Rz 4 #[tipV t, .slice A n c, .int .u64 (nonce : Int), .int .i64 tries] w (.bool true) := by
 unfold Rz
 have HT := hD ht
 have HH := hD H
 have KT := hD kt
 have HKt : Hid (lenH t.b.h) := kt.b.h.len
 have HM63 : Hid (n < 9223372036854775808) := by show _ < _; unfold maxLen at hcm; omega
 have HL := hD hl
 have HTI := hD hA
 have HNC := hD (And.intro hnc hcm)
 have HNO := hD hno
 have HTR := hD hti
 have HF1 : Hid (fewP t = true) := k1
 have HF2 : Hid (fewAll l 6 = false) := k2
 have HAW : Hid (Rt w 10 #[] (.bool true)) := fun u hu => bawake_any H G u (ht.below (EnvX.bel hu))
 have E1 : Hid (EnvX w (w.alloc (.cells (tipA t) 37)) [(w.heap.size, oc (tipA t) 37)]) := (EnvX.start w).new _
 clear ht H G GS kt hl hnc hcm hA hno hti k1 k2
 unfold tipV
 go_enter Tryz.func4, Tryz.ntmps4
 go_upto_region 1 with (fail)
 generalize w.alloc (.cells (tipA t) 37) = W at *
 refine rgQ [0,1] [] E1 rfl fun hw => ?_
 refine qc rfl Tryz.func10 (fun u hu => HAW.out u (nl hu)) hw ?_
 refine qo rfl hw ?_
 refine enP fun u3 EX2 => ?_
 go_upto_region 2 with (fail)
 refine rgQ [0,1,2] [] EX2 rfl fun hw => ?_
 refine ql rfl mH HKt.out hw ?_
 refine qc (args := #[tipV t]) (v := .bool (true)) rfl Tryz.func11 (fun u hu => by have h1 := fewtip_any t u (KT.out.up (EnvX.bel hu)); rwa [HF1.out] at h1) hw ?_
 refine qo rfl hw ?_
 refine enP fun u6 EX5 => ?_
 go_upto_region 3 with (fail)
 refine rgQ [0,1,2] [] EX5 rfl fun hw => ?_
 refine qo rfl hw ?_
 refine qc (args := #[.slice A n c, .int .i64 6]) (v := .bool (false)) rfl Tryz.func24 (fun u hu => by have h1 := fewall_any l 6 A n c u HL.out HM63.out (HTI.out.up (EnvX.bel hu)); rwa [HF2.out] at h1) hw ?_
 refine qo rfl hw ?_
 refine enP fun u9 EX8 => ?_
 go_upto_region 4 with (fail)
 refine rgQ [0,1,2,3,4,5,6,7,8,9,10,11,12,13] [] EX8 rfl fun hw => ?_
 refine qw 14 hw ?_
 refine enP fun u12 EX11 => ?_
 go_upto_region 5 with (fail)
 refine rgQ [0,1] [] EX11 rfl fun hw => ?_
 refine qw 2 hw ?_
 refine enP fun u15 EX14 => ?_
 have HBE := hD (EnvX.bel EX14.out)
 go_wp2
 go_ret
 exact ⟨rfl, HBE.out⟩
theorem law_bmines_c (H : BlockC) (G : AwkC) (GS : PSumC) (t : TipM) (l : List TxM) (A : Option Addr) (n c : Nat) (nonce : Nat) (tries : Int) (w : World) (kt : TipOk w t) (hl : l.length = n) (hnc : n ≤ c) (hcm : c ≤ maxLen) (hA : TxsIn w A l) (hno : nonce < 18446744073709551616) (hti : I64 tries) (ht : Tables w) (k1 : fewP t = true) (k2 : fewAll l 6 = true) (k3 : 20 < tries) :
  Rz 4 #[tipV t, .slice A n c, .int .u64 (nonce : Int), .int .i64 tries] w (.bool true) := by
 unfold Rz
 have HT := hD ht
 have HH := hD H
 have KT := hD kt
 have HKt : Hid (lenH t.b.h) := kt.b.h.len
 have HM63 : Hid (n < 9223372036854775808) := by show _ < _; unfold maxLen at hcm; omega
 have HL := hD hl
 have HTI := hD hA
 have HNC := hD (And.intro hnc hcm)
 have HNO := hD hno
 have HTR := hD hti
 have HF1 : Hid (fewP t = true) := k1
 have HF2 : Hid (fewAll l 6 = true) := k2
 have HAW : Hid (Rt w 10 #[] (.bool true)) := fun u hu => bawake_any H G u (ht.below (EnvX.bel hu))
 have E1 : Hid (EnvX w (w.alloc (.cells (tipA t) 37)) [(w.heap.size, oc (tipA t) 37)]) := (EnvX.start w).new _
 have C12 : Hid (decide ((20 : Int) < tries) = true) := decide_eq_true k3
 clear ht H G GS kt hl hnc hcm hA hno hti k1 k2 k3
 unfold tipV
 go_enter Tryz.func4, Tryz.ntmps4
 go_upto_region 1 with (fail)
 generalize w.alloc (.cells (tipA t) 37) = W at *
 refine rgQ [0,1] [] E1 rfl fun hw => ?_
 refine qc rfl Tryz.func10 (fun u hu => HAW.out u (nl hu)) hw ?_
 refine qo rfl hw ?_
 refine enP fun u3 EX2 => ?_
 go_upto_region 2 with (fail)
 refine rgQ [0,1,2] [] EX2 rfl fun hw => ?_
 refine ql rfl mH HKt.out hw ?_
 refine qc (args := #[tipV t]) (v := .bool (true)) rfl Tryz.func11 (fun u hu => by have h1 := fewtip_any t u (KT.out.up (EnvX.bel hu)); rwa [HF1.out] at h1) hw ?_
 refine qo rfl hw ?_
 refine enP fun u6 EX5 => ?_
 go_upto_region 3 with (fail)
 refine rgQ [0,1,2] [] EX5 rfl fun hw => ?_
 refine qo rfl hw ?_
 refine qc (args := #[.slice A n c, .int .i64 6]) (v := .bool (true)) rfl Tryz.func24 (fun u hu => by have h1 := fewall_any l 6 A n c u HL.out HM63.out (HTI.out.up (EnvX.bel hu)); rwa [HF2.out] at h1) hw ?_
 refine qo rfl hw ?_
 refine enP fun u9 EX8 => ?_
 go_upto_region 4 with (fail)
 refine rgQ [0,1,2,3,4,5,6,7,8,9,10,11,12,13] [] EX8 rfl fun hw => ?_
 refine qw 12 hw ?_
 refine qv rfl (fun u hu => gtZ_op u C12.out rfl rfl) hw ?_
 refine qo rfl hw ?_
 refine enP fun u12 EX11 => ?_
 go_upto_region 5 with (fail)
 refine rgQ [0,1] [] EX11 rfl fun hw => ?_
 refine qw 2 hw ?_
 refine enP fun u15 EX14 => ?_
 have HBE := hD (EnvX.bel EX14.out)
 go_wp2
 go_ret
 exact ⟨rfl, HBE.out⟩
theorem law_bmines_err (H : BlockC) (G : AwkC) (GS : PSumC) (t : TipM) (l : List TxM) (A : Option Addr) (n c : Nat) (nonce : Nat) (tries : Int) (w : World) (kt : TipOk w t) (hl : l.length = n) (hnc : n ≤ c) (hcm : c ≤ maxLen) (hA : TxsIn w A l) (hno : nonce < 18446744073709551616) (hti : I64 tries) (ht : Tables w) (k1 : fewP t = true) (k2 : fewAll l 6 = true) (k3 : ¬ 20 < tries) {r1 : BlkR} {e1 : Nat} (hp : mineK t.r (rsT l) nonce tries = (r1, e1 + 1)) :
  Rz 4 #[tipV t, .slice A n c, .int .u64 (nonce : Int), .int .i64 tries] w (.bool true) := by
 unfold Rz
 have HT := hD ht
 have HH := hD H
 have KT := hD kt
 have HKt : Hid (lenH t.b.h) := kt.b.h.len
 have HM63 : Hid (n < 9223372036854775808) := by show _ < _; unfold maxLen at hcm; omega
 have HL := hD hl
 have HTI := hD hA
 have HNC := hD (And.intro hnc hcm)
 have HNO := hD hno
 have HTR := hD hti
 have HF1 : Hid (fewP t = true) := k1
 have HF2 : Hid (fewAll l 6 = true) := k2
 have HAW : Hid (Rt w 10 #[] (.bool true)) := fun u hu => bawake_any H G u (ht.below (EnvX.bel hu))
 have E1 : Hid (EnvX w (w.alloc (.cells (tipA t) 37)) [(w.heap.size, oc (tipA t) 37)]) := (EnvX.start w).new _
 have C12 : Hid (decide ((20 : Int) < tries) = false) := decide_eq_false k3
 have HP1 := hD hp
 have HR1 : Hid (r1 = noBlk) := mine_err hp
 clear ht H G GS kt hl hnc hcm hA hno hti k1 k2 k3 hp
 unfold tipV
 go_enter Tryz.func4, Tryz.ntmps4
 go_upto_region 1 with (fail)
 generalize w.alloc (.cells (tipA t) 37) = W at *
 have HMT := hD (fewP.mid HF1.out).1
 have HMX := hD (fewAll_mid HF2.out)
 refine rgQ [0,1] [] E1 rfl fun hw => ?_
 refine qc rfl Tryz.func10 (fun u hu => HAW.out u (nl hu)) hw ?_
 refine qo rfl hw ?_
 refine enP fun u3 EX2 => ?_
 go_upto_region 2 with (fail)
 refine rgQ [0,1,2] [] EX2 rfl fun hw => ?_
 refine ql rfl mH HKt.out hw ?_
 refine qc (args := #[tipV t]) (v := .bool (true)) rfl Tryz.func11 (fun u hu => by have h1 := fewtip_any t u (KT.out.up (EnvX.bel hu)); rwa [HF1.out] at h1) hw ?_
 refine qo rfl hw ?_
 refine enP fun u6 EX5 => ?_
 go_upto_region 3 with (fail)
 refine rgQ [0,1,2] [] EX5 rfl fun hw => ?_
 refine qo rfl hw ?_
 refine qc (args := #[.slice A n c, .int .i64 6]) (v := .bool (true)) rfl Tryz.func24 (fun u hu => by have h1 := fewall_any l 6 A n c u HL.out HM63.out (HTI.out.up (EnvX.bel hu)); rwa [HF2.out] at h1) hw ?_
 refine qo rfl hw ?_
 refine enP fun u9 EX8 => ?_
 go_upto_region 4 with (fail)
 refine rgQ [0,1,2,3,4,5,6,7,8,9,10,11,12,13] [] EX8 rfl fun hw => ?_
 refine qw 12 hw ?_
 refine qv rfl (fun u hu => gtZ_op u C12.out rfl rfl) hw ?_
 refine qo rfl hw ?_
 refine enP fun u12 EX11 => ?_
 go_upto_region 6 with (fail)
 refine rgQ [0,1,2,3] [4,5,6,7,8,9,10] EX11 rfl fun hw => ?_
 refine ql rfl mH HKt.out hw ?_
 refine qw 3 hw ?_
 refine wpG_nil ?_
 refine (hOp_turn (gd := none) (R := fun x M' => ∃ tq N, x = .tuple #[.agg (blkA tq), .int .i64 ((e1 + 1 : Nat) : Int)] ∧ M' = N ++ [(w.heap.size, oc (tipA t) 37)] ∧ KeptB w N (IsBlk (r1) tq) ∧ ∃ vq, IsBlk (r1) tq vq) rfl rfl rfl rfl (fun u hu => OUpon_call (fid := 15) (xs := #[.tmp 39, .tmp 40, .tmp 41, .tmp 42]) (args := #[tipV t, .slice A n c, .int .u64 (nonce : Int), .int .i64 tries]) rfl Tryz.func15 rfl rfl u (blk_turn (by have h := HH.out.mine t l A n c nonce tries u (KT.out.up (EnvX.bel hu)) HMT.out HL.out HNC.out.1 HNC.out.2 (HTI.out.up (EnvX.bel hu)) HMX.out HNO.out HTR.out (HT.out.below (EnvX.bel hu)); rw [HP1.out] at h; simp only at h; exact h) hu)) ?_)
 rintro _ _ ⟨b6, N6, rfl, rfl, hk6, hv6⟩ he14; intro K' hK'; go_big_quiet_op; go_big_quiet_on
 have HT6 := hD hk6
 have HV6 := hD hv6
 have HK6 : Hid (lenH b6.h) := by obtain ⟨v, hv⟩ := HV6.out; exact hv.2.h.len
 clear hk6 hv6
 refine phE [5,6,7] [8,9,10] he14 fun hw => ?_
 refine qw 3 hw ?_
 refine wpG_nil ?_
 refine qn rfl (new_blk _) fun g6 HGg6 he16 => ?_
 change lexH _ _ _ _ _ _ ((g6, oc (blkA noBlkM) 33) :: (N6 ++ ((w.heap.size, oc (tipA t) 37) :: [])))
 refine (sh rfl HGg6 (infoBlk _ (blkA_size HK6.out)) (blk_sizes HK6.out) (blkA_one _) ?_)
 intro he17
 refine phE [10] [] he17 fun hw => ?_
 refine qo rfl hw ?_
 refine enP fun u20 EX19 => ?_
 go_upto_region 7 with (fail)
 refine rgQ [0,1] [] EX19 rfl fun hw => ?_
 refine qo rfl hw ?_
 refine qv (v := .bool true) rfl (fun u hu => neErr_op u (decide_eq_true (by omega)) rfl rfl) hw ?_
 refine enP fun u23 EX22 => ?_
 have HR6 : Hid (b6.r = noBlkM.r) := by obtain ⟨v, hv⟩ := HV6.out; exact hv.1.trans HR1.out
 have HM6 : Hid (midBlk b6) := mid_blk HR6.out (by decide) (l := []) rfl ⟨by decide, fun x h => by cases h⟩
 have HMN : Hid (midBlk noBlkM) := mid_blk rfl (by decide) (l := []) rfl ⟨by decide, fun x h => by cases h⟩
 go_upto_region 8 with (fail)
 refine rgQ [0,1,2,3] [] EX22 rfl fun hw => ?_
 refine ql rfl mH HK6.out hw ?_
 refine qv (v := blkV noBlkM) rfl (fun u hu => buildA_op u built_blk0) hw ?_
 refine qc (args := #[blkV b6, blkV noBlkM]) (v := .bool true) rfl Tryz.func21 (fun u hu => by have h := HH.out.same b6 noBlkM u (HT6.out u _ hu (fun y MEM => (mT (mL MEM)))).2 HM6.out (BlkOk.no u) HMN.out (HT.out.below (EnvX.bel hu)); rw [HR6.out, decide_eq_true rfl] at h; exact h) hw ?_
 refine qo rfl hw ?_
 refine enP fun u26 EX25 => ?_
 have HBE := hD (EnvX.bel EX25.out)
 go_wp2
 go_ret
 exact ⟨rfl, HBE.out⟩
theorem law_bmines_main (H : BlockC) (G : AwkC) (GS : PSumC) (t : TipM) (l : List TxM) (A : Option Addr) (n c : Nat) (nonce : Nat) (tries : Int) (w : World) (kt : TipOk w t) (hl : l.length = n) (hnc : n ≤ c) (hcm : c ≤ maxLen) (hA : TxsIn w A l) (hno : nonce < 18446744073709551616) (hti : I64 tries) (ht : Tables w) (k1 : fewP t = true) (k2 : fewAll l 6 = true) (k3 : ¬ 20 < tries) {r1 : BlkR} (hp : mineK t.r (rsT l) nonce tries = (r1, 0)) :
  Rz 4 #[tipV t, .slice A n c, .int .u64 (nonce : Int), .int .i64 tries] w (.bool true) := by
 unfold Rz
 have HT := hD ht
 have HH := hD H
 have KT := hD kt
 have HKt : Hid (lenH t.b.h) := kt.b.h.len
 have HM63 : Hid (n < 9223372036854775808) := by show _ < _; unfold maxLen at hcm; omega
 have HL := hD hl
 have HTI := hD hA
 have HNC := hD (And.intro hnc hcm)
 have HNO := hD hno
 have HTR := hD hti
 have HF1 : Hid (fewP t = true) := k1
 have HF2 : Hid (fewAll l 6 = true) := k2
 have HAW : Hid (Rt w 10 #[] (.bool true)) := fun u hu => bawake_any H G u (ht.below (EnvX.bel hu))
 have E1 : Hid (EnvX w (w.alloc (.cells (tipA t) 37)) [(w.heap.size, oc (tipA t) 37)]) := (EnvX.start w).new _
 have C12 : Hid (decide ((20 : Int) < tries) = false) := decide_eq_false k3
 have HP1 := hD hp
 have hok := mine_ok hp
 have HOK := hD hok
 have HGS := hD GS
 obtain ⟨r2, hr2⟩ : ∃ r2, (⟨r1, appT t.r.p (leafH r1.h), (applyP t.r.c (rsT l)).1⟩ : TipR) = r2 := ⟨_, rfl⟩
 have HR2 := hD hr2
 have HPU : Hid (pushK t.r r1 = (r2, 0)) := by show _ = _; rw [mine_push hp, hr2]
 have HAG : Hid (mineK t.r (rsT l) r1.h.nonce 1 = (r1, 0)) := mine_again hp
 have HL32 : Hid (r1.l.length ≤ 1000) := by show _ ≤ _; rw [hok.2.2.1]; have := linksK_len t.r; omega
 have HTL : Hid (r1.t = rsT l) := hok.2.2.2.1
 obtain ⟨hg, hhg⟩ : ∃ hg, IntKind.i64.wrap (t.b.h.height + 1) = hg := ⟨_, rfl⟩
 have HHG := hD hhg
 have HGT : Hid (r1.h.height = hg) := by show _ = _; rw [← hhg]; exact congrArg Hd.height hok.1
 have hms := mine_sum kt.o4 hok.2.2.2.2.2.1
 obtain ⟨s2, hs2⟩ : ∃ s2, sumP (applyP t.r.c (rsT l)).1 = s2 := ⟨_, rfl⟩
 obtain ⟨s1, hs1⟩ : ∃ s1, sumP t.c = s1 := ⟨_, rfl⟩
 have HS2 := hD hs2
 have HS1 := hD hs1
 have HS : Hid (s2 ≤ s1 + 50 ∧ 0 ≤ s1 ∧ s1 ≤ 52776558133248) := by rw [← hs1, ← hs2]; exact hms
 have HN6 : Hid (r1.h.nonce < 18446744073709551616) := hok.2.2.2.2.2.2
 have HOA : Hid (okP (applyP t.r.c (rsT l)).1 ∧ (applyP t.r.c (rsT l)).1.length ≤ 1000) := apply_len kt.o4 (fewP.mid k1).2.2.2.2 (rsT l) (d := (applyP t.r.c (rsT l)).1) (e := (applyP t.r.c (rsT l)).2) rfl
 clear ht H G GS kt hl hnc hcm hA hno hti k1 k2 k3 hp hok hr2 hhg hms hs2 hs1
 unfold tipV
 go_enter Tryz.func4, Tryz.ntmps4
 go_upto_region 1 with (fail)
 generalize w.alloc (.cells (tipA t) 37) = W at *
 have HMT := hD (fewP.mid HF1.out).1
 have HMX := hD (fewAll_mid HF2.out)
 refine rgQ [0,1] [] E1 rfl fun hw => ?_
 refine qc rfl Tryz.func10 (fun u hu => HAW.out u (nl hu)) hw ?_
 refine qo rfl hw ?_
 refine enP fun u3 EX2 => ?_
 go_upto_region 2 with (fail)
 refine rgQ [0,1,2] [] EX2 rfl fun hw => ?_
 refine ql rfl mH HKt.out hw ?_
 refine qc (args := #[tipV t]) (v := .bool (true)) rfl Tryz.func11 (fun u hu => by have h1 := fewtip_any t u (KT.out.up (EnvX.bel hu)); rwa [HF1.out] at h1) hw ?_
 refine qo rfl hw ?_
 refine enP fun u6 EX5 => ?_
 go_upto_region 3 with (fail)
 refine rgQ [0,1,2] [] EX5 rfl fun hw => ?_
 refine qo rfl hw ?_
 refine qc (args := #[.slice A n c, .int .i64 6]) (v := .bool (true)) rfl Tryz.func24 (fun u hu => by have h1 := fewall_any l 6 A n c u HL.out HM63.out (HTI.out.up (EnvX.bel hu)); rwa [HF2.out] at h1) hw ?_
 refine qo rfl hw ?_
 refine enP fun u9 EX8 => ?_
 go_upto_region 4 with (fail)
 refine rgQ [0,1,2,3,4,5,6,7,8,9,10,11,12,13] [] EX8 rfl fun hw => ?_
 refine qw 12 hw ?_
 refine qv rfl (fun u hu => gtZ_op u C12.out rfl rfl) hw ?_
 refine qo rfl hw ?_
 refine enP fun u12 EX11 => ?_
 go_upto_region 6 with (fail)
 refine rgQ [0,1,2,3] [4,5,6,7,8,9,10] EX11 rfl fun hw => ?_
 refine ql rfl mH HKt.out hw ?_
 refine qw 3 hw ?_
 refine wpG_nil ?_
 refine (hOp_turn (gd := none) (R := fun x M' => ∃ tq N, x = .tuple #[.agg (blkA tq), .int .i64 ((0 : Nat) : Int)] ∧ M' = N ++ [(w.heap.size, oc (tipA t) 37)] ∧ KeptB w N (IsBlk (r1) tq) ∧ ∃ vq, IsBlk (r1) tq vq) rfl rfl rfl rfl (fun u hu => OUpon_call (fid := 15) (xs := #[.tmp 39, .tmp 40, .tmp 41, .tmp 42]) (args := #[tipV t, .slice A n c, .int .u64 (nonce : Int), .int .i64 tries]) rfl Tryz.func15 rfl rfl u (blk_turn (by have h := HH.out.mine t l A n c nonce tries u (KT.out.up (EnvX.bel hu)) HMT.out HL.out HNC.out.1 HNC.out.2 (HTI.out.up (EnvX.bel hu)) HMX.out HNO.out HTR.out (HT.out.below (EnvX.bel hu)); rw [HP1.out] at h; simp only at h; exact h) hu)) ?_)
 rintro _ _ ⟨b6, N6, rfl, rfl, hk6, hv6⟩ he14; intro K' hK'; go_big_quiet_op; go_big_quiet_on
 have HT6 := hD hk6
 have HV6 := hD hv6
 have HK6 : Hid (lenH b6.h) := by obtain ⟨v, hv⟩ := HV6.out; exact hv.2.h.len
 clear hk6 hv6
 refine phE [5,6,7] [8,9,10] he14 fun hw => ?_
 refine qw 3 hw ?_
 refine wpG_nil ?_
 refine qn rfl (new_blk _) fun g6 HGg6 he16 => ?_
 change lexH _ _ _ _ _ _ ((g6, oc (blkA noBlkM) 33) :: (N6 ++ ((w.heap.size, oc (tipA t) 37) :: [])))
 refine (sh rfl HGg6 (infoBlk _ (blkA_size HK6.out)) (blk_sizes HK6.out) (blkA_one _) ?_)
 intro he17
 refine phE [10] [] he17 fun hw => ?_
 refine qo rfl hw ?_
 refine enP fun u20 EX19 => ?_
 go_upto_region 7 with (fail)
 refine rgQ [0,1] [] EX19 rfl fun hw => ?_
 refine qo rfl hw ?_
 refine qv (v := .bool false) rfl (fun u hu => neErr_op u (decide_eq_false (by omega)) rfl rfl) hw ?_
 refine enP fun u23 EX22 => ?_
 have HR6 : Hid (b6.r = r1) := by obtain ⟨v, hv⟩ := HV6.out; exact hv.1
 have HM6 : Hid (midBlk b6) := mid_blk HR6.out HL32.out HTL.out HMX.out
 have HH6 : Hid (b6.h = r1.h) := congrArg BlkR.h HR6.out
 go_upto_region 9 with (fail)
 refine rgQ [0,1] [2,3,4,5,6,7,8] EX22 rfl fun hw => ?_
 refine ql rfl (mT (mR mH)) HKt.out hw ?_
 refine ql rfl mH HK6.out hw ?_
 refine wpG_nil ?_
 refine (hOp_turn (gd := none) (R := fun x M' => ∃ tq N, x = .tuple #[.agg (tipA tq), .int .i64 ((0 : Nat) : Int)] ∧ M' = N ++ ((g6, oc (blkA b6) 33) :: (N6 ++ ((w.heap.size, oc (tipA t) 37) :: []))) ∧ KeptB w N (IsTip (r2) tq) ∧ ∃ vq, IsTip (r2) tq vq) rfl rfl rfl rfl (fun u hu => OUpon_call (fid := 17) (xs := #[.tmp 52, .tmp 53]) (args := #[tipV t, blkV b6]) rfl Tryz.func17 rfl rfl u (tip_turn (by have h := HH.out.push t b6 u (KT.out.up (EnvX.bel hu)) HMT.out (HT6.out u _ hu (fun y MEM => (mT (mL MEM)))).2 HM6.out (HT.out.below (EnvX.bel hu)); rw [HR6.out, HPU.out] at h; simp only at h; exact h) hu)) ?_)
 rintro _ _ ⟨u9, N9, rfl, rfl, hk9, hv9⟩ he25; intro K' hK'; go_big_quiet_op; go_big_quiet_on
 have HT9 := hD hk9
 have HV9 := hD hv9
 have HK9 : Hid (lenH u9.b.h) := by obtain ⟨v, hv⟩ := HV9.out; exact hv.2.b.h.len
 clear hk9 hv9
 refine phE [3,4,5] [6,7,8] he25 fun hw => ?_
 refine qw 3 hw ?_
 refine wpG_nil ?_
 refine qn rfl (new_tip _) fun g9 HGg9 he27 => ?_
 change lexH _ _ _ _ _ _ ((g9, oc (tipA noTipM) 37) :: (N9 ++ ((g6, oc (blkA b6) 33) :: (N6 ++ ((w.heap.size, oc (tipA t) 37) :: [])))))
 refine (sh rfl HGg9 (infoTip _ (tipA_size HK9.out)) (tip_sizes HK9.out) (tipA_one _) ?_)
 intro he28
 refine phE [8] [] he28 fun hw => ?_
 refine qo rfl hw ?_
 refine enP fun u31 EX30 => ?_
 have HR9 : Hid (u9.r = r2) := by obtain ⟨v, hv⟩ := HV9.out; exact hv.1
 have HB9 : Hid (u9.b.r = b6.r) := by show _ = _; rw [HR6.out]; exact congrArg TipR.b (HR9.out.trans HR2.out.symm)
 have HM9 : Hid (midBlk u9.b) := mid_blk (HB9.out.trans HR6.out) HL32.out HTL.out HMX.out
 have HC9 : Hid (u9.c = (applyP t.r.c (rsT l)).1) := congrArg TipR.c (HR9.out.trans HR2.out.symm)
 have HQ9 : Hid (u9.b.h.height = hg) := by show _ = _; rw [show u9.b.h = r1.h from congrArg BlkR.h (HB9.out.trans HR6.out)]; exact HGT.out
 go_upto_region 10 with (fail)
 refine rgQ [0,1,2,3,4] [5,6,7,8,9,10,11] EX30 rfl fun hw => ?_
 refine ql rfl (mT (mR (mT (mR mH)))) HKt.out hw ?_
 refine qw 3 hw ?_
 refine qv (v := .int .u64 (r1.h.nonce : Int)) rfl (fun u hu => by rw [← HH6.out]; exact load_any_op u (loads_hd HK6.out (box_blk_hd hu (mT (mR mH)) HK6.out)).2.2.2.2.2.2.2.2 rfl) hw ?_
 refine wpG_nil ?_
 refine (hOp_turn (gd := none) (R := fun x M' => ∃ tq N, x = .tuple #[.agg (blkA tq), .int .i64 ((0 : Nat) : Int)] ∧ M' = N ++ ((g9, oc (tipA u9) 37) :: (N9 ++ ((g6, oc (blkA b6) 33) :: (N6 ++ ((w.heap.size, oc (tipA t) 37) :: []))))) ∧ KeptB w N (IsBlk (r1) tq) ∧ ∃ vq, IsBlk (r1) tq vq) rfl rfl rfl rfl (fun u hu => OUpon_call (fid := 15) (xs := #[.tmp 58, .tmp 59, .tmp 62, .const (.int .i64 1)]) (args := #[tipV t, .slice A n c, .int .u64 (r1.h.nonce : Int), .int .i64 1]) rfl Tryz.func15 rfl rfl u (blk_turn (by have h := HH.out.mine t l A n c r1.h.nonce 1 u (KT.out.up (EnvX.bel hu)) HMT.out HL.out HNC.out.1 HNC.out.2 (HTI.out.up (EnvX.bel hu)) HMX.out HN6.out (by unfold I64; omega) (HT.out.below (EnvX.bel hu)); rw [HAG.out] at h; simp only at h; exact h) hu)) ?_)
 rintro _ _ ⟨b16, N16, rfl, rfl, hk16, hv16⟩ he33; intro K' hK'; go_big_quiet_op; go_big_quiet_on
 have HT16 := hD hk16
 have HV16 := hD hv16
 have HK16 : Hid (lenH b16.h) := by obtain ⟨v, hv⟩ := HV16.out; exact hv.2.h.len
 clear hk16 hv16
 refine phE [6,7,8] [9,10,11] he33 fun hw => ?_
 refine qw 3 hw ?_
 refine wpG_nil ?_
 refine qn rfl (new_blk _) fun g16 HGg16 he35 => ?_
 change lexH _ _ _ _ _ _ ((g16, oc (blkA noBlkM) 33) :: (N16 ++ ((g9, oc (tipA u9) 37) :: (N9 ++ ((g6, oc (blkA b6) 33) :: (N6 ++ ((w.heap.size, oc (tipA t) 37) :: [])))))))
 refine (sh rfl HGg16 (infoBlk _ (blkA_size HK16.out)) (blk_sizes HK16.out) (blkA_one _) ?_)
 intro he36
 refine phE [11] [] he36 fun hw => ?_
 refine qo rfl hw ?_
 refine enP fun u39 EX38 => ?_
 have HR16 : Hid (b16.r = b6.r) := by obtain ⟨v, hv⟩ := HV16.out; exact hv.1.trans HR6.out.symm
 have HM16 : Hid (midBlk b16) := mid_blk (HR16.out.trans HR6.out) HL32.out HTL.out HMX.out
 go_upto_region 11 with (fail)
 refine rgK [0,1,2,3,4,5,6,7,8,9,10,11,12,13,14,15,16,17,18,19,20,21,22,23,24,25,26,27,28,29,30,31,32,33,34,35,36,37,38,39] 0 EX38 rfl (by kernel_rfl) (by kernel_rfl) fun hw => ?_
 refine qo rfl hw ?_
 refine qv rfl (fun u hu => eqErr_op u (decide_eq_true rfl) rfl rfl) hw ?_
 refine qw 4 hw ?_
 refine qv rfl (fun u hu => load_any_op u (loads_hd HK9.out (box_tip_hd hu (mT (mR mH)) HK9.out)).2.1 rfl) hw ?_
 refine qw 3 hw ?_
 refine qv rfl (fun u hu => load_any_op u (loads_hd HKt.out (box_tip_hd hu (mT (mR (mT (mR (mT (mR mH)))))) HKt.out)).2.1 rfl) hw ?_
 refine qv rfl (fun u hu => addZ_op u HHG.out rfl rfl) hw ?_
 refine qv rfl (fun u hu => eqlI_op u (decide_eq_true HQ9.out) rfl rfl) hw ?_
 refine qw 3 hw ?_
 refine ql rfl (mT (mR mH)) HK9.out hw ?_
 refine ql rfl (mT (mR (mT (mR mH)))) HK6.out hw ?_
 refine qc (args := #[blkV u9.b, blkV b6]) (v := .bool true) rfl Tryz.func21 (fun u hu => by have h := HH.out.same u9.b b6 u (HT9.out u _ hu (fun y MEM => (mT (mR (mT (mL MEM)))))).2.b HM9.out (HT6.out u _ hu (fun y MEM => (mT (mR (mT (mR (mT (mL MEM)))))))).2 HM6.out (HT.out.below (EnvX.bel hu)); rw [HB9.out, decide_eq_true rfl] at h; exact h) hw ?_
 refine qw 3 hw ?_
 refine qv rfl (fun u hu => eqErr_op u (decide_eq_true rfl) rfl rfl) hw ?_
 refine qw 2 hw ?_
 refine ql rfl mH HK16.out hw ?_
 refine ql rfl (mT (mR (mT (mR mH)))) HK6.out hw ?_
 refine qc (args := #[blkV b16, blkV b6]) (v := .bool true) rfl Tryz.func21 (fun u hu => by have h := HH.out.same b16 b6 u (HT16.out u _ hu (fun y MEM => (mT (mL MEM)))).2 HM16.out (HT6.out u _ hu (fun y MEM => (mT (mR (mT (mR (mT (mL MEM)))))))).2 HM6.out (HT.out.below (EnvX.bel hu)); rw [HR16.out, decide_eq_true rfl] at h; exact h) hw ?_
 refine qw 3 hw ?_
 refine ql rfl (mT (mR mH)) HK9.out hw ?_
 refine qc (args := #[.slice u9.A4 u9.n4 u9.c4]) (v := .int .i64 s2) rfl Tryz.func25 (fun u hu => by have k := (HT9.out u _ hu (fun y MEM => (mT (mR (mT (mL MEM)))))).2; have h := HGS.out.sum u9.c u9.A4 u9.n4 u9.c4 u k.l4 (by have h1 := HOA.out.2; have h2 := k.l4; rw [HC9.out] at h2; omega) k.b4.1 k.b4.2 k.o4 k.m4 (HT.out.below (EnvX.bel hu)); rw [HC9.out, HS2.out] at h; exact h) hw ?_
 refine qf rfl hw ?_
 refine ql rfl (mT (mR (mT (mR (mT (mR mH)))))) HKt.out hw ?_
 refine qc (args := #[.slice t.A4 t.n4 t.c4]) (v := .int .i64 s1) rfl Tryz.func25 (fun u hu => by have k := KT.out.up (EnvX.bel hu); have h := HGS.out.sum t.c t.A4 t.n4 t.c4 u k.l4 (by have h1 := HMT.out.2.2; have h2 := k.l4; omega) k.b4.1 k.b4.2 k.o4 k.m4 (HT.out.below (EnvX.bel hu)); rw [HS1.out] at h; exact h) hw ?_
 refine qv (v := .int .i64 (s1 + 50)) rfl (fun u hu => addZ_op u (wrapS (by have := HS.out; omega)) rfl rfl) hw ?_
 refine qv rfl (fun u hu => leZ_op u (decide_eq_true HS.out.1) rfl rfl) hw ?_
 refine qw 2 hw ?_
 refine enH (by kernel_rfl) fun u42 EX41 => ?_
 have HBE := hD (EnvX.bel EX41.out)
 go_wp2
 go_ret
 exact ⟨rfl, HBE.out⟩
theorem law_bmines (H : BlockC) (G : AwkC) (GS : PSumC) (t : TipM) (l : List TxM) (A : Option Addr) (n c : Nat) (nonce : Nat) (tries : Int) (w : World) (kt : TipOk w t) (hl : l.length = n) (hnc : n ≤ c) (hcm : c ≤ maxLen) (hA : TxsIn w A l) (hno : nonce < 18446744073709551616) (hti : I64 tries) (ht : Tables w) :
  Rz 4 #[tipV t, .slice A n c, .int .u64 (nonce : Int), .int .i64 tries] w (.bool true) := by
 unfold Rz
 cases k1 : fewP t with
 | false => exact law_bmines_a H G GS t l A n c nonce tries w kt hl hnc hcm hA hno hti ht k1 rfl
 | true =>
  cases k2 : fewAll l 6 with
  | false => exact law_bmines_b H G GS t l A n c nonce tries w kt hl hnc hcm hA hno hti ht k1 k2
  | true =>
   by_cases k3 : 20 < tries
   · exact law_bmines_c H G GS t l A n c nonce tries w kt hl hnc hcm hA hno hti ht k1 k2 k3
   · rcases hp : mineK t.r (rsT l) nonce tries with ⟨r1, e1⟩
     cases e1 with
     | succ e1 => exact law_bmines_err H G GS t l A n c nonce tries w kt hl hnc hcm hA hno hti ht k1 k2 k3 hp
     | zero => exact law_bmines_main H G GS t l A n c nonce tries w kt hl hnc hcm hA hno hti ht k1 k2 k3 hp
def plC (h : Hd) : List Value := [.int .i64 h.height] ++ ((arrB 32 h.prev).toList ++ [.int .u32 h.bits])
def plA (h : Hd) : Array Value := (plC h).toArray
def plV (h : Hd) : Value := .agg (plA h)
def eqPl (a b : Hd) : Bool := decide (a.height = b.height ∧ a.prev = b.prev ∧ a.bits = b.bits)
theorem plC_len {h : Hd} (k : lenH h) : (plC h).length = 34 := by
 unfold plC
 simp only [lA, idA_list k.1, List.length_cons, List.length_nil]
theorem plA_size {h : Hd} (k : lenH h) : (plA h).size = 34 := by unfold plA; rw [List.size_toArray, plC_len k]
theorem plC_one (h : Hd) : ∀ u ∈ plC h, u.oneCell' = true := by
 intro u hu
 unfold plC at hu
 rw [List.mem_append, List.mem_append] at hu
 rcases hu with h | h | h
 · cases mS.1 h; rfl
 · exact (Array.all_eq_true_iff_forall_mem.1 (arrB_one _ _)) u (Array.mem_toList_iff.1 h)
 · cases mS.1 h; rfl
theorem plA_one (h : Hd) : (plA h).all (·.oneCell') = true := by
 rw [Array.all_eq_true]
 intro i hi
 exact plC_one h _ (show (plA h)[i] ∈ (plA h).toList from Array.mem_toList_iff.2 (Array.getElem_mem hi))
theorem aggPl : AggT 169 34 := ⟨fun w => by simp [isAgg, run_underlying Tryz.underlying169], by kernel_rfl⟩
theorem infoPl (cs : Array Value) (h : cs.size = 34) : (Tryz.prog.info? 169).map (·.size) = some cs.size := by rw [h]; exact aggPl.size
theorem plC_prev {h : Hd} (k : lenH h) : ((plA h).toList.drop 1).take 32 = (arrB 32 h.prev).toList := by
 unfold plA plC
 exact cells_mid rfl (idA_list k.1)
theorem plC_bits {h : Hd} (k : lenH h) : (plA h)[33]? = some (.int .u32 h.bits) := by
 unfold plA plC
 rw [← aA]
 exact cell_mid (by simp only [lA, idA_list k.1, List.length_cons, List.length_nil])
theorem fieldsPl : (Tryz.prog.fieldsOf 169).toList.map (fun f => (f.name == "_", f.type, f.offset)) = [(false, 3, 0), (false, 23, 1), (false, 27, 33)] := by kernel_rfl
theorem run_equal_pl (a b : Hd) (ha : okHd a) (hb : okHd b) (w : World) : (Op.equal 169 (plV a) (plV b)).run Tryz.prog w = .ok (eqPl a b) w := by
 unfold Op.equal plV
 have h := run_equalIn_struct (P := Tryz.prog) w 9999 169 (plA a) (plA b) (by kernel_rfl) (by kernel_rfl)
 refine Eq.trans h ?_
 have hf := fieldsPl
 generalize (Tryz.prog.fieldsOf 169).toList = fs at hf ⊢
 have hl : fs.length = 3 := by simpa using congrArg List.length hf
 obtain ⟨f0, f1, f2, rfl⟩ : ∃ f0 f1 f2, fs = [f0, f1, f2] := by
  match fs, hl with
  | [a, b, c], _ => exact ⟨a, b, c, rfl⟩
 simp only [List.map_cons, List.map_nil, List.cons.injEq, Prod.mk.injEq, beq_eq_false_iff_ne, and_true] at hf
 obtain ⟨⟨n0, t0, o0⟩, ⟨n1, t1, o1⟩, n2, t2, o2⟩ := hf
 have la := ha.len
 have lb := hb.len
 have p0 : ∀ t : Hd, (part 3 (plA t) 0).run Tryz.prog w = .ok (.int .i64 t.height) w := fun t => run_part_plain (P := Tryz.prog) w (by kernel_rfl) rfl
 have p1 : ∀ t : Hd, lenH t → (part 23 (plA t) 1).run Tryz.prog w = .ok (.agg (arrB 32 t.prev)) w := fun t kt => run_part_agg aggIdT (by have := ext_list (plC_prev kt); rwa [Array.toArray_toList] at this) w
 have p2 : ∀ t : Hd, lenH t → (part 27 (plA t) 33).run Tryz.prog w = .ok (.int .u32 t.bits) w := fun t kt => run_part_plain (P := Tryz.prog) w (by kernel_rfl) (plC_bits kt)
 have e0 := run_equalIn_int (P := Tryz.prog) w 9998 3 .i64 .i64 a.height b.height Tryz.underlying3
 have e1 := run_equalIn_id 9997 a.prev b.prev la.1 lb.1 w
 have e2 := run_equalIn_int (P := Tryz.prog) w 9998 27 .u32 .u32 a.bits b.bits Tryz.underlying27
 have hd : eqPl a b = ((a.height == b.height) && (eqL a.prev b.prev && ((a.bits : Int) == (b.bits : Int)))) := by
  unfold eqPl eqL
  rw [Bool.eq_iff_iff]
  simp only [decide_eq_true_eq, Bool.and_eq_true, beq_iff_eq, Int.natCast_inj]
 rw [hd]
 rw [eqFields_step (a := .int .i64 a.height) (b := .int .i64 b.height) n0 (by rw [t0, o0]; exact p0 a) (by rw [t0, o0]; exact p0 b) (by rw [t0]; exact e0)]
 cases hc0 : (a.height == b.height) with
 | false => rfl
 | true =>
  rw [if_pos rfl, eqFields_step (a := .agg (arrB 32 a.prev)) (b := .agg (arrB 32 b.prev)) n1 (by rw [t1, o1]; exact p1 a la) (by rw [t1, o1]; exact p1 b lb) (by rw [t1]; exact e1)]
  cases hc1 : eqL a.prev b.prev with
  | false => rfl
  | true =>
   rw [if_pos rfl, eqFields_step (a := .int .u32 a.bits) (b := .int .u32 b.bits) n2 (by rw [t2, o2]; exact p2 a la) (by rw [t2, o2]; exact p2 b lb) (by rw [t2]; exact e2)]
   cases hc2 : ((a.bits : Int) == (b.bits : Int)) with
   | false => rfl
   | true => rfl
theorem guardPl : Tryz.prog.eqGuardType Tryz.prog.depth 169 = false := by kernel_rfl
def roC (h : Hd) : List Value := (arrB 32 h.txs).toList ++ ((arrB 32 h.past).toList ++ (wcs h.work).toList)
def roA (h : Hd) : Array Value := (roC h).toArray
def roV (h : Hd) : Value := .agg (roA h)
def eqRo (a b : Hd) : Bool := decide (a.txs = b.txs ∧ a.past = b.past ∧ a.work = b.work)
theorem roC_len {h : Hd} (k : lenH h) : (roC h).length = 68 := by
 unfold roC
 simp only [lA, idA_list k.2.2.1, idA_list k.2.2.2, wcs_list]
theorem roA_size {h : Hd} (k : lenH h) : (roA h).size = 68 := by unfold roA; rw [List.size_toArray, roC_len k]
theorem roC_one (h : Hd) : ∀ u ∈ roC h, u.oneCell' = true := by
 intro u hu
 unfold roC at hu
 rw [List.mem_append, List.mem_append] at hu
 rcases hu with h | h | h
 · exact (Array.all_eq_true_iff_forall_mem.1 (arrB_one _ _)) u (Array.mem_toList_iff.1 h)
 · exact (Array.all_eq_true_iff_forall_mem.1 (arrB_one _ _)) u (Array.mem_toList_iff.1 h)
 · exact (Array.all_eq_true_iff_forall_mem.1 (wc_one _)) u (Array.mem_toList_iff.1 h)
theorem roA_one (h : Hd) : (roA h).all (·.oneCell') = true := by
 rw [Array.all_eq_true]
 intro i hi
 exact roC_one h _ (show (roA h)[i] ∈ (roA h).toList from Array.mem_toList_iff.2 (Array.getElem_mem hi))
theorem aggRo : AggT 172 68 := ⟨fun w => by simp [isAgg, run_underlying Tryz.underlying172], by kernel_rfl⟩
theorem infoRo (cs : Array Value) (h : cs.size = 68) : (Tryz.prog.info? 172).map (·.size) = some cs.size := by rw [h]; exact aggRo.size
theorem roC_txs {h : Hd} (k : lenH h) : ((roA h).toList.drop 0).take 32 = (arrB 32 h.txs).toList := by
 unfold roA roC
 rw [List.drop_zero]
 exact List.take_left' (idA_list k.2.2.1)
theorem roC_past {h : Hd} (k : lenH h) : ((roA h).toList.drop 32).take 32 = (arrB 32 h.past).toList := by
 unfold roA roC
 exact cells_mid (idA_list k.2.2.1) (idA_list k.2.2.2)
theorem roC_work {h : Hd} (k : lenH h) : ((roA h).toList.drop 64).take 4 = (wcs h.work).toList := by
 unfold roA roC
 rw [← aA, ← List.append_nil (wcs h.work).toList]
 exact cells_mid (by simp only [lA, idA_list k.2.2.1, idA_list k.2.2.2]) (wcs_list _)
theorem fieldsRo : (Tryz.prog.fieldsOf 172).toList.map (fun f => (f.name == "_", f.type, f.offset)) = [(false, 23, 0), (false, 23, 32), (false, 26, 64)] := by kernel_rfl
theorem run_equal_ro (a b : Hd) (ha : okHd a) (hb : okHd b) (w : World) : (Op.equal 172 (roV a) (roV b)).run Tryz.prog w = .ok (eqRo a b) w := by
 unfold Op.equal roV
 have h := run_equalIn_struct (P := Tryz.prog) w 9999 172 (roA a) (roA b) (by kernel_rfl) (by kernel_rfl)
 refine Eq.trans h ?_
 have hf := fieldsRo
 generalize (Tryz.prog.fieldsOf 172).toList = fs at hf ⊢
 have hl : fs.length = 3 := by simpa using congrArg List.length hf
 obtain ⟨f0, f1, f2, rfl⟩ : ∃ f0 f1 f2, fs = [f0, f1, f2] := by
  match fs, hl with
  | [a, b, c], _ => exact ⟨a, b, c, rfl⟩
 simp only [List.map_cons, List.map_nil, List.cons.injEq, Prod.mk.injEq, beq_eq_false_iff_ne, and_true] at hf
 obtain ⟨⟨n0, t0, o0⟩, ⟨n1, t1, o1⟩, n2, t2, o2⟩ := hf
 have la := ha.len
 have lb := hb.len
 have p0 : ∀ t : Hd, lenH t → (part 23 (roA t) 0).run Tryz.prog w = .ok (.agg (arrB 32 t.txs)) w := fun t kt => run_part_agg aggIdT (by have := ext_list (roC_txs kt); rwa [Array.toArray_toList] at this) w
 have p1 : ∀ t : Hd, lenH t → (part 23 (roA t) 32).run Tryz.prog w = .ok (.agg (arrB 32 t.past)) w := fun t kt => run_part_agg aggIdT (by have := ext_list (roC_past kt); rwa [Array.toArray_toList] at this) w
 have p2 : ∀ t : Hd, lenH t → (part 26 (roA t) 64).run Tryz.prog w = .ok (.agg (wcs t.work)) w := fun t kt => run_part_agg aggWd (by have := ext_list (roC_work kt); rwa [Array.toArray_toList] at this) w
 have e0 := run_equalIn_id 9997 a.txs b.txs la.2.2.1 lb.2.2.1 w
 have e1 := run_equalIn_id 9997 a.past b.past la.2.2.2 lb.2.2.2 w
 have e2 := run_equalIn_wide 9997 a.work b.work ha.2.2.2.2.2.1 hb.2.2.2.2.2.1 w
 have hd : eqRo a b = (eqL a.txs b.txs && (eqL a.past b.past && eqN a.work b.work)) := by
  unfold eqRo eqL eqN
  rw [Bool.eq_iff_iff]
  simp only [decide_eq_true_eq, Bool.and_eq_true]
 rw [hd]
 rw [eqFields_step (a := .agg (arrB 32 a.txs)) (b := .agg (arrB 32 b.txs)) n0 (by rw [t0, o0]; exact p0 a la) (by rw [t0, o0]; exact p0 b lb) (by rw [t0]; exact e0)]
 cases hc0 : eqL a.txs b.txs with
 | false => rfl
 | true =>
  rw [if_pos rfl, eqFields_step (a := .agg (arrB 32 a.past)) (b := .agg (arrB 32 b.past)) n1 (by rw [t1, o1]; exact p1 a la) (by rw [t1, o1]; exact p1 b lb) (by rw [t1]; exact e1)]
  cases hc1 : eqL a.past b.past with
  | false => rfl
  | true =>
   rw [if_pos rfl, eqFields_step (a := .agg (wcs a.work)) (b := .agg (wcs b.work)) n2 (by rw [t2, o2]; exact p2 a la) (by rw [t2, o2]; exact p2 b lb) (by rw [t2]; exact e2)]
   cases hc2 : eqN a.work b.work with
   | false => rfl
   | true => rfl
theorem guardRo : Tryz.prog.eqGuardType Tryz.prog.depth 172 = false := by kernel_rfl
section
variable {a : Act} {dst : Option Tmp} {x y : Operand} {ty : TypeId} {pos : String} {after : Array Edge} {gd : Option (Nat × Bool)}
theorem eqlPl_op {s t : Hd} {b : Bool} (hs : okHd s) (ht : okHd t) (hb : eqPl s t = b) (u : World) (hx : a.eval x = plV s) (hy : a.eval y = plV t) :
  (execOp a.eval ⟨dst, .binOp .eql 169 x y 169, ty, pos, after, gd⟩).run Tryz.prog u = .ok (.value (.bool b)) u := by
 have h0 := run_equal_pl s t hs ht u
 have h : (binOp .eql 169 (plV s) (plV t)).run Tryz.prog u = .ok (.bool (eqPl s t)) u := by
  unfold plV at *
  simp only [binOp]
  simp [h0]
 have hg := run_eqGuard_agg (P := Tryz.prog) u .eql 169 x y (plA s) (plA t) guardPl
 rw [← hb]
 unfold plV at *
 unfold execOp
 simp only [hx, hy, Sem.run_bind, hg, Result.andThen_ok, h, Sem.run_pure]
theorem eqlRo_op {s t : Hd} {b : Bool} (hs : okHd s) (ht : okHd t) (hb : eqRo s t = b) (u : World) (hx : a.eval x = roV s) (hy : a.eval y = roV t) :
  (execOp a.eval ⟨dst, .binOp .eql 172 x y 172, ty, pos, after, gd⟩).run Tryz.prog u = .ok (.value (.bool b)) u := by
 have h0 := run_equal_ro s t hs ht u
 have h : (binOp .eql 172 (roV s) (roV t)).run Tryz.prog u = .ok (.bool (eqRo s t)) u := by
  unfold roV at *
  simp only [binOp]
  simp [h0]
 have hg := run_eqGuard_agg (P := Tryz.prog) u .eql 172 x y (roA s) (roA t) guardRo
 rw [← hb]
 unfold roV at *
 unfold execOp
 simp only [hx, hy, Sem.run_bind, hg, Result.andThen_ok, h, Sem.run_pure]
theorem fieldTr_op {k off : Nat} (hk : ([(0, 0), (1, 137)] : List (Nat × Nat)).lookup k = some off) {ad : Addr} (u : World) (hx : a.eval x = .pointer (some ad)) :
  (execOp a.eval ⟨dst, .fieldAddr 83 x k, ty, pos, after, gd⟩).run Tryz.prog u = .ok (.value (.pointer (some (ad.add off)))) u := by
 unfold execOp
 simp only [hx]
 rcases k with _ | _ | k
 all_goals first | (cases hk; go_simp) | cases hk
instance : FldT Tryz.prog 83 [(0, 0), (1, 137)] := ⟨fun h u k => fieldTr_op h u k⟩
end
theorem built_pl (h : Hd) (k : lenH h) : Tryz.prog.built 169 [(0, .int .i64 h.height), (1, idv h.prev), (2, .int .u32 h.bits)] = some (plA h) := by
 have z1 : (arrB 32 h.prev).size = 32 := arrB_size _ _ (by rw [k.1]; omega)
 have e : cellsOfP [(0, .int .i64 h.height), (1, idv h.prev), (2, .int .u32 h.bits)] = plC h := by simp [cellsOfP, plC, idv, Value.cells]
 have := built_struct (t := 169) (n := 34) Tryz.underlying169 (by kernel_rfl) (places := [(0, 1), (1, 32), (33, 1)]) (by kernel_rfl) (ps := [(0, .int .i64 h.height), (1, idv h.prev), (2, .int .u32 h.bits)]) (by
  refine ⟨?_, ?_, ?_, trivial⟩
  · rfl
  · show some (1, 32) = some (0 + 1, (arrB 32 h.prev).size)
    rw [z1]
  · show some (33, 1) = some (0 + 1 + (arrB 32 h.prev).size, 1)
    rw [z1]) (by rw [e, plC_len k])
 rw [this, e]
 rfl
theorem built_ro (h : Hd) (k : lenH h) : Tryz.prog.built 172 [(0, idv h.txs), (1, idv h.past), (2, .agg (wcs h.work))] = some (roA h) := by
 have z1 : (arrB 32 h.txs).size = 32 := arrB_size _ _ (by rw [k.2.2.1]; omega)
 have z2 : (arrB 32 h.past).size = 32 := arrB_size _ _ (by rw [k.2.2.2]; omega)
 have z3 := wc_size h.work
 have e : cellsOfP [(0, idv h.txs), (1, idv h.past), (2, .agg (wcs h.work))] = roC h := by simp [cellsOfP, roC, idv, Value.cells]
 have := built_struct (t := 172) (n := 68) Tryz.underlying172 (by kernel_rfl) (places := [(0, 32), (32, 32), (64, 4)]) (by kernel_rfl) (ps := [(0, idv h.txs), (1, idv h.past), (2, .agg (wcs h.work))]) (by
  refine ⟨?_, ?_, ?_, trivial⟩
  · show some (0, 32) = some (0, (arrB 32 h.txs).size)
    rw [z1]
  · show some (32, 32) = some (0 + (arrB 32 h.txs).size, (arrB 32 h.past).size)
    rw [z1, z2]
  · show some (64, 4) = some (0 + (arrB 32 h.txs).size + (arrB 32 h.past).size, (wcs h.work).size)
    rw [z1, z2, z3]) (by rw [e, roC_len k])
 rw [this, e]
 rfl
def trC (b d : BlkM) : List Value := blkC b ++ blkC d
def trA (b d : BlkM) : Array Value := (trC b d).toArray
def trV (b d : BlkM) : Value := .agg (trA b d)
theorem trC_len {b d : BlkM} (k : lenH b.h) (q : lenH d.h) : (trC b d).length = 274 := by unfold trC; rw [lA, blkC_len k, blkC_len q]
theorem trA_size {b d : BlkM} (k : lenH b.h) (q : lenH d.h) : (trA b d).size = 274 := by unfold trA; rw [List.size_toArray, trC_len k q]
theorem trA_one (b d : BlkM) : (trA b d).all (·.oneCell') = true := by
 rw [Array.all_eq_true]
 intro i hi
 have h : (trA b d)[i] ∈ (trA b d).toList := Array.mem_toList_iff.2 (Array.getElem_mem hi)
 rcases List.mem_append.1 (show (trA b d)[i] ∈ blkC b ++ blkC d from h) with h | h
 · exact blkC_one b _ h
 · exact blkC_one d _ h
theorem aggTr : AggT 83 274 := ⟨fun w => by simp [isAgg, run_underlying Tryz.underlying83], by kernel_rfl⟩
theorem infoTr (cs : Array Value) (h : cs.size = 274) : (Tryz.prog.info? 83).map (·.size) = some cs.size := by rw [h]; exact aggTr.size
theorem zero_trA : trA noBlkM noBlkM = Tryz.zeroCells83 := by kernel_rfl
theorem new_tr {dst : Option Tmp} {ty : TypeId} {pos : String} {after : Array Edge} {gd : Option (Nat × Bool)} (a : Act) : NewAt Tryz.prog ⟨dst, .alloc 83, ty, pos, after, gd⟩ a (.cells (trA noBlkM noBlkM) 83 (0, 0)) := fun u => by
 rw [zero_trA]
 go_simp
theorem built_tr {b d : BlkM} (k : lenH b.h) (q : lenH d.h) : Tryz.prog.built 83 [(0, blkV b), (1, blkV d)] = some (trA b d) := by
 have z1 := blkA_size k
 have z2 := blkA_size q
 have e : cellsOfP [(0, blkV b), (1, blkV d)] = trC b d := by simp [cellsOfP, trC, blkV, blkA, Value.cells]
 have := built_struct (t := 83) (n := 274) Tryz.underlying83 (by kernel_rfl) (places := [(0, 137), (137, 137)]) (by kernel_rfl) (ps := [(0, blkV b), (1, blkV d)]) (by
  refine ⟨?_, ?_, trivial⟩
  · show some (0, 137) = some (0, (blkA b).size)
    rw [z1]
  · show some (137, 137) = some (0 + (blkA b).size, (blkA d).size)
    rw [z1, z2]) (by rw [e, trC_len k q])
 rw [this, e]
 rfl
section
variable {w0 u : World} {M : Boxes} {g : Nat} {ty : TypeId} {b d : BlkM}
theorem box_tr (hu : EnvC w0 M u) (hm : (g, oc (trA b d) ty) ∈ M) (k : lenH b.h) (q : lenH d.h) : (loadVar 83 ⟨g, 0, none⟩).run Tryz.prog u = .ok (trV b d) u := run_loadAgg aggTr (trC b d) (trC_len k q) (box_list hu hm)
theorem box_is (hu : EnvC w0 M u) (hm : (g, oc (trA b d) ty) ∈ M) (k : lenH b.h) : ∀ (j : Nat) (v : Value), (blkC b)[j]? = some v → u.cell? ((⟨g, 0, none⟩ : Addr).add j) = some v := fun j v hj => box_list hu hm j v (by
 have hl : j < (blkC b).length := by
  rcases Nat.lt_or_ge j (blkC b).length with h | h
  · exact h
  · rw [gN h] at hj; cases hj
 unfold trC
 rw [List.getElem?_append_left hl]
 exact hj)
theorem box_must (hu : EnvC w0 M u) (hm : (g, oc (trA b d) ty) ∈ M) (k : lenH b.h) : ∀ (j : Nat) (v : Value), (blkC d)[j]? = some v → u.cell? ((⟨g, 137, none⟩ : Addr).add j) = some v := fun j v hj => by
 have h := box_list hu hm (137 + j) v (by
  unfold trC
  rw [List.getElem?_append_right (by rw [blkC_len k]; omega), blkC_len k, Nat.add_sub_cancel_left]
  exact hj)
 rw [Addr.add_mid, Nat.zero_add] at h
 rw [Addr.add_mid]
 exact h
theorem is_hd (hu : EnvC w0 M u) (hm : (g, oc (trA b d) ty) ∈ M) (k : lenH b.h) : ∀ (j : Nat) (v : Value), (hdC b.h)[j]? = some v → u.cell? ((⟨g, 0, none⟩ : Addr).add j) = some v := fun j v hj => box_is hu hm k j v ((blk_cells k).1 j v hj)
theorem must_hd (hu : EnvC w0 M u) (hm : (g, oc (trA b d) ty) ∈ M) (k : lenH b.h) (q : lenH d.h) : ∀ (j : Nat) (v : Value), (hdC d.h)[j]? = some v → u.cell? ((⟨g, 137, none⟩ : Addr).add j) = some v := fun j v hj => box_must hu hm k j v ((blk_cells q).1 j v hj)
theorem is_l (hu : EnvC w0 M u) (hm : (g, oc (trA b d) ty) ∈ M) (k : lenH b.h) : (loadVar 30 ⟨g, 135, none⟩).run Tryz.prog u = .ok (.slice b.A1 b.n1 b.c1) u := run_load_one oneIdsK u (by have := box_is hu hm k 135 _ (blk_cells k).2.1; rwa [Addr.add_mid, Nat.zero_add] at this)
theorem must_l (hu : EnvC w0 M u) (hm : (g, oc (trA b d) ty) ∈ M) (k : lenH b.h) (q : lenH d.h) : (loadVar 30 ⟨g, 272, none⟩).run Tryz.prog u = .ok (.slice d.A1 d.n1 d.c1) u := run_load_one oneIdsK u (by have := box_must hu hm k 135 _ (blk_cells q).2.1; rwa [Addr.add_mid] at this)
end
end Go.Proofs.YtpanpohdnbgdpaaGreatDoor
