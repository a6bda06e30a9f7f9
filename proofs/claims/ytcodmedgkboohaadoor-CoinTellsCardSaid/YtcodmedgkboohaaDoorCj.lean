/- Part of a proof. -/
import Derived.Test.YtcodmedgkboohaaDoorCi
namespace Go.Proofs.YtcodmedgkboohaaDoor
set_option maxRecDepth 8000
open Go.RowKit

set_option maxRecDepth 20000 in
set_option maxHeartbeats 8000000 in
theorem rdnum_some (A : Option Addr) (n c k g : Nat) (b : List Int) (R : Boxes) (w0 w : World) (hk8 : k ≤ 7) (hkn : k ≤ n) (hnc : n ≤ c) (hc : c ≤ maxLen) (hbl : b.length = k) (hB : isB b) (hx : Bytes w0 w0.heap.size A b) (hg : w0.heap.size ≤ g) (hR : ∀ y ∈ R, y.1 ≠ g) (hE : EnvX w0 w ((g, rdO A n c) :: R)) :
    Calls Tryd.prog 51 #[.pointer (some ⟨g, 0, none⟩), .int .i64 (k : Int)] w fun e w' => e = .returned (.int .i64 (getL b : Int)) ∧ EnvX w0 w' ((g, rdO (cutX 1 A k c) (n - k) (c - k)) :: R) := by
  have HRR := Lib.hid hR
  have HTK : Hid (∀ (R : Boxes) (u : World), (∀ y ∈ R, y.1 ≠ g) → EnvX w0 u ((g, rdO A n c) :: R) → Calls Tryd.prog 66 #[.pointer (some ⟨g, 0, none⟩), .int .i64 (k : Int)] u fun e w' => e = .returned (.slice A k c) ∧ EnvX w0 w' ((g, rdO (cutX 1 A k c) (n - k) (c - k)) :: R)) := fun R u hR hu => rdnext_some A n c k g R w0 u hkn hnc hc hg hR hu
  have hlt := getL_lt b hB
  have hp7 : 256 ^ b.length ≤ 256 ^ 7 := Nat.pow_le_pow_right (by decide) (by omega)
  have HV : Hid (getL b < 9223372036854775808) := by show _ < _; have : (256 : Nat) ^ 7 = 72057594037927936 := by decide
                                                     omega
  have HGT : Hid (∀ u, EnvX w0 u [] → Calls Tryd.prog 65 #[.slice A k c, .int .i64 ((0 : Nat) : Int), .int .i64 (k : Int)] u fun e w' => e = .returned (.tuple #[.int .u64 (getL b : Int), .bool true]) ∧ Below u.heap.size u w') := fun u hu => by
    have h := get_some A k c 0 k b u hbl (by omega) hc hB (hx.up (EnvX.bel hu)) (by omega) (by omega)
    rw [List.drop_zero, List.take_of_length_le (by omega)] at h
    exact h.mono fun e w' h => ⟨h.1, h.2 ▸ Below.refl _ _⟩
  obtain ⟨gv, hgv⟩ : ∃ gv, getL b = gv := ⟨_, rfl⟩
  rw [hgv] at HV HGT
  have HGV := Lib.hid hgv
  have E1 : Hid (EnvX w0 w ((g, rdO A n c) :: R)) := hE
  clear hk8 hkn hnc hc hbl hB hx hg hR hE hlt hp7 hgv
  go_enter Tryd.func51, Tryd.ntmps51
  go_upto_region 1 with (fail)
  refine wp_region_Hx (w0 := w0) [0, 1, 2, 3, 4, 5, 6, 7, 8, 9] ((g, Obj.cells #[.slice A n c] 56 (0, 0)) :: R) rfl E1.out ?_
  refine lexH_phase [0, 1] [2, 3, 4, 5, 6, 7, 8, 9] ?_
  have hw1 : EnvX w0 _ ((g, Obj.cells #[.slice A n c] 56 (0, 0)) :: R) := E1.out
  have hone := @EnvC.one _ _ _ hw1
  (refine wpG_op rfl rfl rfl ?_; intro K hK; go_big_quiet_op; go_big_quiet_on)
  (refine wpG_op rfl rfl rfl ?_; intro K hK; go_big_quiet_op; go_big_quiet_on)
  clear hone hw1
  refine wpG_nil ?_
  refine (hOp_turn (gd := none) (R := fun x M' => x = .slice A k c ∧ M' = ((g, rdO (cutX 1 A k c) (n - k) (c - k)) :: R)) rfl rfl rfl rfl (fun u hu => OUpon_call (fid := 66) (xs := #[.tmp 8, .tmp 9]) (args := #[.pointer (some ⟨g, 0, none⟩), .int .i64 (k : Int)]) rfl Tryd.func66 rfl rfl u ((HTK.out _ u HRR.out hu).mono fun e w' h => ⟨_, _, h.1, h.2, rfl, rfl⟩)) ?_)
  rintro _ _ ⟨rfl, rfl⟩ he2; intro K' hK'; go_big_quiet_op; go_big_quiet_on
  change lexH _ _ _ _ _ _ ((g, rdO (cutX 1 A k c) (n - k) (c - k)) :: R)
  refine lexH_phase [3, 4, 5, 6, 7, 8, 9] [] ?_
  have hw3 : EnvX w0 _ ((g, rdO (cutX 1 A k c) (n - k) (c - k)) :: R) := he2.choose_spec
  have hone := @EnvC.one _ _ _ hw3
  (refine wpG_op rfl rfl rfl ?_; intro K hK; go_big_quiet_op; go_big_quiet_on)
  (refine wpG_call (f := 65) (args := #[.slice A k c, .int .i64 ((0 : Nat) : Int), .int .i64 (k : Int)]) (v := .tuple #[.int .u64 (gv : Int), .bool true]) rfl rfl rfl Tryd.func65 rfl rfl (fun u hu => HGT.out u (EnvX.sub hu (fun _ h => by cases h))) ?_ hw3; intro K hK; go_big_quiet_op; go_big_quiet_on)
  (refine wpG_op rfl rfl rfl ?_; intro K hK; go_big_quiet_op; go_big_quiet_on)
  (refine wpG_op rfl rfl rfl ?_; intro K hK; go_big_quiet_op; go_big_quiet_on)
  (refine wpG_op rfl rfl rfl ?_; intro K hK; go_big_quiet_op; go_big_quiet_on)
  (refine wpG_op rfl rfl rfl ?_; intro K hK; go_big_quiet_op; go_big_quiet_on)
  (refine wpG_op rfl rfl rfl ?_; intro K hK; go_big_quiet_op; go_big_quiet_on)
  clear hone hw3
  refine wpG_nil ?_
  intro u5 E2'
  have EX4 := Lib.hid E2'
  clear E2'
  go_upto_region 2 with (fail)
  refine wp_region_Hx (w0 := w0) [0, 1, 2] ((g, rdO (cutX 1 A k c) (n - k) (c - k)) :: R) rfl EX4.out ?_
  refine lexH_phase [0, 1, 2] [] ?_
  have hw6 : EnvX w0 _ ((g, rdO (cutX 1 A k c) (n - k) (c - k)) :: R) := EX4.out
  have hone := @EnvC.one _ _ _ hw6
  (refine wpG_op rfl rfl rfl ?_; intro K hK; go_big_quiet_op; go_big_quiet_on)
  (refine wpG_val (v := .int .i64 (gv : Int)) rfl rfl (fun u hu => convUIc_op u HV.out rfl) ?_ hw6; intro K hK; go_big_quiet_op; go_big_quiet_on)
  (refine wpG_op rfl rfl rfl ?_; intro K hK; go_big_quiet_op; go_big_quiet_on)
  clear hone hw6
  refine wpG_nil ?_
  intro u8 E2'
  have EX7 := Lib.hid E2'
  clear E2'
  go_wp2
  go_ret
  exact ⟨by rw [HGV.out]; rfl, EX7.out⟩
set_option maxRecDepth 20000 in
set_option maxHeartbeats 8000000 in
theorem rdnum_none (A : Option Addr) (n c k g : Nat) (R : Boxes) (w0 w : World) (hkn : n < k) (hc : n ≤ maxLen) (hE : EnvX w0 w ((g, rdO A n c) :: R)) :
    Calls Tryd.prog 51 #[.pointer (some ⟨g, 0, none⟩), .int .i64 (k : Int)] w fun e w' => ∃ ch, e = .panicked ch ∧ oneUp ch ∧ EnvX w0 w' ((g, rdO A n c) :: R) := by
  have HTK : Hid (∀ u, EnvX w0 u ((g, rdO A n c) :: R) → Calls Tryd.prog 66 #[.pointer (some ⟨g, 0, none⟩), .int .i64 (k : Int)] u fun e w' => ∃ ch, e = .panicked ch ∧ oneUp ch ∧ EnvX w0 w' ((g, rdO A n c) :: R)) := fun u hu => rdnext_none A n c k g R w0 u hkn hc hu
  have E1 : Hid (EnvX w0 w ((g, rdO A n c) :: R)) := hE
  clear hkn hc hE
  go_enter Tryd.func51, Tryd.ntmps51
  go_upto_region 1 with (fail)
  refine wp_region_HPx ⟨fun ch u => oneUp ch ∧ EnvX w0 u ((g, rdO A n c) :: R), fun _ => []⟩ (w0 := w0) [0, 1, 2, 3, 4, 5, 6, 7, 8, 9] ((g, Obj.cells #[.slice A n c] 56 (0, 0)) :: R) rfl E1.out (fun a' ha ch u h => ⟨ha.1, ch, rfl, h⟩) ?_
  refine lexH_phase [0, 1] [2, 3, 4, 5, 6, 7, 8, 9] ?_
  have hw1 : EnvX w0 _ ((g, Obj.cells #[.slice A n c] 56 (0, 0)) :: R) := E1.out
  have hone := @EnvC.one _ _ _ hw1
  (refine wpG_op rfl rfl rfl ?_; intro K hK; go_big_quiet_op; go_big_quiet_on)
  (refine wpG_op rfl rfl rfl ?_; intro K hK; go_big_quiet_op; go_big_quiet_on)
  clear hone hw1
  refine wpG_nil ?_
  refine (hOp_panics ((g, Obj.cells #[.slice A n c] 56 (0, 0)) :: R) rfl rfl (fun _ h => h) (fun u hu => PUpon_call (fid := 66) (xs := #[.tmp 8, .tmp 9]) (args := #[.pointer (some ⟨g, 0, none⟩), .int .i64 (k : Int)]) rfl Tryd.func66 rfl rfl u ((HTK.out u hu).mono fun e w' h => h)))
theorem box_idv {w0 u : World} {M : Boxes} {g : Nat} {ty : TypeId} {ys : List Int} (hu : EnvC w0 M u) (hm : (g, Obj.cells (arrB 32 ys) ty (0, 0)) ∈ M) (h : ys.length = 32) : (loadVar 37 ⟨g, 0, none⟩).run Tryd.prog u = .ok (.agg (arrB 32 ys)) u := by
  have := box_agg aggIdT (k := 0) hu hm _ (idA_list h) (by rw [List.drop_zero, List.take_of_length_le (by rw [idA_list h]; exact Nat.le_refl _)])
  rwa [Array.toArray_toList] at this
theorem copy_run {w0 u : World} {g : Nat} {c : Nat} {ad : Addr} {ys zs : List Int} {L : Boxes} {a : Act} {dst : Option Tmp} {x y : Operand} {pos : String} {after : Array Edge} {gd : Option (Nat × Bool)} (hg : w0.heap.size ≤ g) (hu : EnvX w0 u ((g, .cells (arrB 32 zs) 37 (0, 0)) :: L)) (hL : ∀ z ∈ L, z.1 ≠ g) (hyl : ys.length = 32) (hzl : zs.length ≤ 32)
    (hsrc : ∀ j v, (ys.map u8v)[j]? = some v → u.cell? (ad.add j) = some v) (hx : a.eval x = .slice (some ⟨g, 0, none⟩) 32 32) (hy : a.eval y = .slice (some ad) 32 c) :
    ∃ v u' M', (execOp a.eval ⟨dst, .call { callee := .builtin .copy, args := #[x, y], argTypes := #[26, 26] }, 3, pos, after, gd⟩).run Tryd.prog u = .ok (.value v) u' ∧ EnvX w0 u' M' ∧ (v = .int .i64 32 ∧ M' = (g, .cells (arrB 32 ys) 37 (0, 0)) :: L) := by
  have hyl' : (ys.map u8v).length = 32 := by rw [List.length_map, hyl]
  have hz : (arrB 32 zs).size = 32 := arrB_size _ _ hzl
  have hrun := run_copy_row (P := Tryd.prog) u 26 26 3 5 g 0 32 32 ad 32 c (arrB 32 zs) 37 (ys.map u8v) Tryd.underlying26 (by kernel_rfl) (EnvX.box hu _ _ (List.Mem.head _)) (by rw [hyl']; rfl) hsrc (by rw [hyl', hz]; exact Nat.le_refl _) (fun v hv => by
    obtain ⟨z, _, rfl⟩ := List.mem_map.1 hv
    rfl)
  have hcs : ((arrB 32 zs).toList.take 0 ++ ys.map u8v ++ (arrB 32 zs).toList.drop (0 + (ys.map u8v).length)).toArray = arrB 32 ys := by
    rw [List.drop_of_length_le (by rw [hyl', Array.length_toList, hz]; exact Nat.le_refl _), List.append_nil, List.take_zero, List.nil_append, ← arrId_map hyl, Array.toArray_toList]
  rw [hcs] at hrun
  refine ⟨goInt ((ys.map u8v).length : Int), _, _, ?_, EnvX.put hu hg (List.Mem.head _) (l' := (g, .cells (arrB 32 ys) 37 (0, 0)) :: L) (List.forall_mem_cons.2 ⟨.inl rfl, fun y hy => .inr ⟨List.mem_cons_of_mem _ hy, hL y hy⟩⟩), ⟨?_, rfl⟩⟩
  · unfold execOp
    simp only [resolve, invoke, builtin, Sem.run_bind, Sem.run_pure, Result.andThen_ok, List.map_toArray, List.map_cons, List.map_nil, hx, hy, hrun]
  · rw [hyl']; rfl
set_option maxRecDepth 20000 in
set_option maxHeartbeats 8000000 in
theorem rdid_some (A : Option Addr) (n c g : Nat) (ys : List Int) (R : Boxes) (w0 w : World) (hkn : 32 ≤ n) (hnc : n ≤ c) (hc : c ≤ maxLen) (hyl : ys.length = 32) (hx : Bytes w0 w0.heap.size A ys) (hg : w0.heap.size ≤ g) (hR : ∀ y ∈ R, y.1 ≠ g) (hE : EnvX w0 w ((g, rdO A n c) :: R)) :
    Calls Tryd.prog 52 #[.pointer (some ⟨g, 0, none⟩)] w fun e w' => e = .returned (idv ys) ∧ EnvX w0 w' ((g, rdO (cutX 1 A 32 c) (n - 32) (c - 32)) :: R) := by
  obtain ⟨ad, rfl, hblk, hcell⟩ := hx (by omega)
  have hgl : g < w.heap.size := EnvX.lt hE (List.Mem.head _)
  have hRl : ∀ y ∈ R, y.1 < w.heap.size := fun y hy => EnvX.lt hE (o := y.2) (List.mem_cons_of_mem _ hy)
  have hsz := hE.bel.size
  have HG1 : Hid (w0.heap.size ≤ w.heap.size + 1) := by show _ ≤ _; omega
  have HG0 : Hid (w0.heap.size ≤ w.heap.size) := hsz
  have HNG : Hid (g ≠ w.heap.size ∧ (∀ y ∈ R, y.1 ≠ w.heap.size) ∧ (∀ y ∈ R, y.1 ≠ w.heap.size + 1)) := ⟨by omega, fun y hy => by have := hRl y hy; omega, fun y hy => by have := hRl y hy; omega⟩
  have HRR : Hid (∀ y ∈ ((w.heap.size + 1, Obj.cells (arrB 32 []) 37 (0, 0)) :: (w.heap.size, Obj.cells (arrB 32 []) 37 (0, 0)) :: R : Boxes), y.1 ≠ g) := List.forall_mem_cons.2 ⟨by show w.heap.size + 1 ≠ g; omega, List.forall_mem_cons.2 ⟨by show w.heap.size ≠ g; omega, hR⟩⟩
  have HNE : Hid (∀ y ∈ ((g, rdO (cutX 1 (some ad) 32 c) (n - 32) (c - 32)) :: ((w.heap.size, Obj.cells (arrB 32 []) 37 (0, 0)) :: R)), y.1 ≠ w.heap.size + 1) := List.forall_mem_cons.2 ⟨by show g ≠ _; omega, List.forall_mem_cons.2 ⟨by show w.heap.size ≠ _; omega, HNG.out.2.2⟩⟩
  have HYL := Lib.hid hyl
  have HSRC : Hid (∀ u, EnvX w0 u [] → ∀ j v, (ys.map u8v)[j]? = some v → u.cell? (ad.add j) = some v) := fun u hu j v hj => ((EnvX.bel hu).cell (p := ad.add j) (by rw [block_of_add]; exact hblk)).trans (hcell j v hj)
  have HTK : Hid (∀ (R : Boxes) (u : World), (∀ y ∈ R, y.1 ≠ g) → EnvX w0 u ((g, rdO (some ad) n c) :: R) → Calls Tryd.prog 66 #[.pointer (some ⟨g, 0, none⟩), .int .i64 (32 : Int)] u fun e w' => e = .returned (.slice (some ad) 32 c) ∧ EnvX w0 w' ((g, rdO (cutX 1 (some ad) 32 c) (n - 32) (c - 32)) :: R)) := fun R u hR hu => rdnext_some (some ad) n c 32 g R w0 u hkn hnc hc hg hR hu
  have E1 : Hid (EnvX w0 ((w.alloc (.cells (arrB 32 []) 37)).alloc (.cells (arrB 32 []) 37)) ((g, rdO (some ad) n c) :: (w.heap.size + 1, Obj.cells (arrB 32 []) 37 (0, 0)) :: (w.heap.size, Obj.cells (arrB 32 []) 37 (0, 0)) :: R)) := (EnvX.two hE _ _).sub (by
    intro x hx
    simp only [List.mem_cons] at *
    rcases hx with h | h | h | h
    · exact .inr (.inr (.inl h))
    · exact .inl h
    · exact .inr (.inl h)
    · exact .inr (.inr (.inr h)))
  have perm_c : ∀ {a b c : Nat × Obj} {N : Boxes}, ∀ x ∈ b :: a :: c :: N, x ∈ a :: b :: c :: N := by
    intro a b c N x hx
    simp only [List.mem_cons] at *
    rcases hx with h | h | h | h
    · exact .inr (.inl h)
    · exact .inl h
    · exact .inr (.inr (.inl h))
    · exact .inr (.inr (.inr h))
  clear hkn hnc hc hyl hx hblk hcell hg hR hE hgl hRl hsz
  go_enter Tryd.func52, Tryd.ntmps52
  go_upto_region 2 with (fail)
  rw [zero_cells]
  generalize (w.alloc (.cells (arrB 32 []) 37)).alloc (.cells (arrB 32 []) 37) = W at *
  refine wp_region_H (w0 := w0) ((g, Obj.cells #[.slice (some ad) n c] 56 (0, 0)) :: ((w.heap.size + 1, Obj.cells (arrB 32 []) 37 (0, 0)) :: ((w.heap.size, Obj.cells (arrB 32 []) 37 (0, 0)) :: R))) (by kernel_rfl) E1.out ?_
  refine anyH_phaseN [0, 1] 2 rfl (by kernel_rfl) ?_
  have hw1 : EnvX w0 _ [] := EnvX.sub (EnvX.drew E1.out) (fun _ h => by cases h)
  have hone := @EnvC.one _ _ _ hw1
  (refine wpG_val (v := .slice (some ⟨w.heap.size + 1, 0, none⟩) 32 32) rfl rfl (fun u hu => sliceArr_op u rfl) ?_ hw1; intro K hK; go_big_quiet_op; go_big_quiet_on)
  (refine wpG_op rfl rfl rfl ?_; intro K hK; go_big_quiet_op; go_big_quiet_on)
  clear hone hw1
  refine wpG_nil ?_
  refine anyH_one (i := 2) (by kernel_rfl) (hOp_turn (gd := none) (R := fun x M' => x = .slice (some ad) 32 c ∧ M' = ((g, rdO (cutX 1 (some ad) 32 c) (n - 32) (c - 32)) :: ((w.heap.size + 1, Obj.cells (arrB 32 []) 37 (0, 0)) :: ((w.heap.size, Obj.cells (arrB 32 []) 37 (0, 0)) :: R)))) rfl rfl rfl rfl (fun u hu => OUpon_call (fid := 66) (xs := #[.tmp 5, .const (.int .i64 32)]) (args := #[.pointer (some ⟨g, 0, none⟩), .int .i64 (32 : Int)]) rfl Tryd.func66 rfl rfl u ((HTK.out _ u HRR.out hu).mono fun e w' h => ⟨_, _, h.1, h.2, rfl, rfl⟩)) ?_)
  rintro _ _ ⟨rfl, rfl⟩ he2; intro K' hK'; go_big_quiet_op; go_big_quiet_on
  change anyH _ _ _ _ _ _ _ _ ((g, rdO (cutX 1 (some ad) 32 c) (n - 32) (c - 32)) :: ((w.heap.size + 1, Obj.cells (arrB 32 []) 37 (0, 0)) :: ((w.heap.size, Obj.cells (arrB 32 []) 37 (0, 0)) :: R)))
  refine anyH_one (i := 3) (by kernel_rfl) (hOp_own (gd := none) (R := fun x M' => x = .int .i64 32 ∧ M' = (w.heap.size + 1, .cells (arrB 32 ys) 37 (0, 0)) :: ((g, rdO (cutX 1 (some ad) 32 c) (n - 32) (c - 32)) :: ((w.heap.size, Obj.cells (arrB 32 []) 37 (0, 0)) :: R))) rfl rfl rfl rfl (fun u hu => copy_run HG1.out (hu.sub perm_c) HNE.out HYL.out (by simp) (HSRC.out u (EnvX.sub hu (fun _ h => by cases h))) rfl rfl) ?_)
  rintro _ _ ⟨rfl, rfl⟩ he3; intro K' hK'; go_big_quiet_op; go_big_quiet_on
  change anyH _ _ _ _ _ _ _ _ ((w.heap.size + 1, Obj.cells (arrB 32 ys) 37 (0, 0)) :: ((g, rdO (cutX 1 (some ad) 32 c) (n - 32) (c - 32)) :: ((w.heap.size, Obj.cells (arrB 32 []) 37 (0, 0)) :: R)))
  refine anyH_done (by kernel_rfl) ?_
  intro u5 E2'
  have EX4 := Lib.hid E2'
  clear E2'
  go_upto_region 3 with (fail)
  refine wp_region_Hx (w0 := w0) [0, 1] ((w.heap.size + 1, Obj.cells (arrB 32 ys) 37 (0, 0)) :: ((g, rdO (cutX 1 (some ad) 32 c) (n - 32) (c - 32)) :: ((w.heap.size, Obj.cells (arrB 32 []) 37 (0, 0)) :: R))) rfl EX4.out ?_
  refine lexH_phase [0] [1] ?_
  have hw6 : EnvX w0 _ ((w.heap.size + 1, Obj.cells (arrB 32 ys) 37 (0, 0)) :: ((g, rdO (cutX 1 (some ad) 32 c) (n - 32) (c - 32)) :: ((w.heap.size, Obj.cells (arrB 32 []) 37 (0, 0)) :: R))) := EX4.out
  have hone := @EnvC.one _ _ _ hw6
  (refine wpG_val (v := .agg (arrB 32 ys)) rfl rfl (fun u hu => load_any_op u (box_idv hu (List.Mem.head _) HYL.out) rfl) ?_ hw6; intro K hK; go_big_quiet_op; go_big_quiet_on)
  clear hone hw6
  refine wpG_nil ?_
  refine (hOp_store rfl (w.heap.size) (arrB 32 ys) rfl rfl HG0.out 37 (arrB 32 []) (List.Mem.tail _ (List.Mem.tail _ (List.Mem.head _))) (info26 _ (arrB_size _ _ (by rw [HYL.out]; exact Nat.le_refl _))) ((arrB_size _ _ (by simp)).trans (arrB_size _ _ (by rw [HYL.out]; exact Nat.le_refl _)).symm) (arrB_one _ _) ((w.heap.size, Obj.cells (arrB 32 ys) 37 (0, 0)) :: ((g, rdO (cutX 1 (some ad) 32 c) (n - 32) (c - 32)) :: R)) (List.forall_mem_cons.2 ⟨.inl rfl, List.forall_mem_cons.2 ⟨.inr ⟨List.mem_cons_of_mem _ (List.Mem.head _), HNG.out.1⟩, fun y hy => .inr ⟨List.mem_cons_of_mem _ (List.mem_cons_of_mem _ (List.mem_cons_of_mem _ hy)), HNG.out.2.1 y hy⟩⟩⟩) ?_)
  intro he7
  intro u9 E2'
  have EX8 := Lib.hid E2'
  clear E2'
  have HBX := Lib.hid (EnvX.box EX8.out w.heap.size _ (List.Mem.head _))
  go_wp2_with ((with_reducible refine bodyPost_ret (v := .agg (arrB 32 ys)) ?_ ?_ ?_); (exact results_cell_row (p := 2) (ty := 37) Tryd.results52 _ _ w.heap.size 37 (arrB 32 ys) (0, 0) _ rfl HBX.out Tryd.underlying37 rfl (info26 _ (arrB_size _ _ (by rw [HYL.out]; exact Nat.le_refl _)))); (rfl))
  exact ⟨rfl, EX8.out.sub (fun _ h => List.mem_cons_of_mem _ h)⟩
set_option maxRecDepth 20000 in
set_option maxHeartbeats 8000000 in
theorem rdid_none (A : Option Addr) (n c g : Nat) (R : Boxes) (w0 w : World) (hkn : n < 32) (hc : n ≤ maxLen) (hE : EnvX w0 w ((g, rdO A n c) :: R)) :
    Calls Tryd.prog 52 #[.pointer (some ⟨g, 0, none⟩)] w fun e w' => ∃ ch, e = .panicked ch ∧ oneUp ch ∧ EnvX w0 w' ((g, rdO A n c) :: R) := by
  have HTK : Hid (∀ (R : Boxes) (u : World), EnvX w0 u ((g, rdO A n c) :: R) → Calls Tryd.prog 66 #[.pointer (some ⟨g, 0, none⟩), .int .i64 32] u fun e w' => ∃ ch, e = .panicked ch ∧ oneUp ch ∧ EnvX w0 w' ((g, rdO A n c) :: R)) := fun R u hu => rdnext_none A n c 32 g R w0 u hkn hc hu
  have E1 : Hid (EnvX w0 ((w.alloc (.cells (arrB 32 []) 37)).alloc (.cells (arrB 32 []) 37)) ((g, rdO A n c) :: (w.heap.size + 1, Obj.cells (arrB 32 []) 37 (0, 0)) :: (w.heap.size, Obj.cells (arrB 32 []) 37 (0, 0)) :: R)) := (EnvX.two hE _ _).sub (by
    intro x hx
    simp only [List.mem_cons] at *
    rcases hx with h | h | h | h
    · exact .inr (.inr (.inl h))
    · exact .inl h
    · exact .inr (.inl h)
    · exact .inr (.inr (.inr h)))
  clear hkn hc hE
  go_enter Tryd.func52, Tryd.ntmps52
  go_upto_region 2 with (fail)
  rw [zero_cells]
  generalize (w.alloc (.cells (arrB 32 []) 37)).alloc (.cells (arrB 32 []) 37) = W at *
  refine wp_region_HP ⟨fun ch u => oneUp ch ∧ EnvX w0 u ((g, rdO A n c) :: R), fun _ => []⟩ (w0 := w0) ((g, Obj.cells #[.slice A n c] 56 (0, 0)) :: ((w.heap.size + 1, Obj.cells (arrB 32 []) 37 (0, 0)) :: ((w.heap.size, Obj.cells (arrB 32 []) 37 (0, 0)) :: R))) (by kernel_rfl) E1.out (fun a' ha ch u h => ⟨ha.1, ch, rfl, h⟩) ?_
  refine anyH_phaseN [0, 1] 2 rfl (by kernel_rfl) ?_
  have hw1 : EnvX w0 _ [] := EnvX.sub (EnvX.drew E1.out) (fun _ h => by cases h)
  have hone := @EnvC.one _ _ _ hw1
  (refine wpG_val (v := .slice (some ⟨w.heap.size + 1, 0, none⟩) 32 32) rfl rfl (fun u hu => sliceArr_op u rfl) ?_ hw1; intro K hK; go_big_quiet_op; go_big_quiet_on)
  (refine wpG_op rfl rfl rfl ?_; intro K hK; go_big_quiet_op; go_big_quiet_on)
  clear hone hw1
  refine wpG_nil ?_
  refine anyH_one (i := 2) (by kernel_rfl) (hOp_panics ((g, Obj.cells #[.slice A n c] 56 (0, 0)) :: ((w.heap.size + 1, Obj.cells (arrB 32 []) 37 (0, 0)) :: ((w.heap.size, Obj.cells (arrB 32 []) 37 (0, 0)) :: R))) rfl rfl (fun _ h => h) (fun u hu => PUpon_call (fid := 66) (xs := #[.tmp 5, .const (Value.int IntKind.i64 32)]) (args := #[.pointer (some ⟨g, 0, none⟩), .int .i64 32]) rfl Tryd.func66 rfl rfl u ((HTK.out _ u hu).mono fun e w' h => let ⟨ch, e1, e2, e3⟩ := h; ⟨ch, e1, e2, e3.sub (List.forall_mem_cons.2 ⟨List.Mem.head _, fun y hy => List.mem_cons_of_mem _ (List.mem_cons_of_mem _ (List.mem_cons_of_mem _ hy))⟩)⟩)))
end Go.Proofs.YtcodmedgkboohaaDoor

namespace Go.Proofs.YtcodmedgkboohaaDoor
set_option maxRecDepth 8000
open Go.RowKit

/-- where a reader stands: p bytes are taken -/
def RdAt (w : World) (b : List Int) (p : Nat) (A : Option Addr) (n c : Nat) : Prop := n + p = b.length ∧ n ≤ c ∧ c ≤ maxLen ∧ Bytes w w.heap.size A (b.drop p)
theorem RdAt.next {w : World} {b : List Int} {p n c k : Nat} {A : Option Addr} (h : RdAt w b p A n c) (hk : k ≤ n) : RdAt w b (p + k) (cutX 1 A k c) (n - k) (c - k) := by
  obtain ⟨h1, h2, h3, h4⟩ := h
  refine ⟨by omega, by omega, by omega, ?_⟩
  have h5 := h4.cut k (n - k) c (by omega)
  rw [List.drop_drop, List.take_of_length_le (by rw [List.length_drop]; omega)] at h5
  exact h5
theorem Bytes.first {w : World} {B : Nat} {A : Option Addr} {xs : List Int} (h : Bytes w B A xs) (k : Nat) : Bytes w B A (xs.take k) := by
  intro hp
  obtain ⟨ad, e, hb, hc⟩ := h (by rw [List.length_take] at hp; omega)
  refine ⟨ad, e, hb, fun j v hj => hc j v ?_⟩
  rw [List.map_take, List.getElem?_take] at hj
  split at hj
  · exact hj
  · cases hj
theorem RdAt.num {w : World} {b : List Int} {p n c g k : Nat} {A : Option Addr} (h : RdAt w b p A n c) (hB : isB b) (hg : w.heap.size ≤ g) (hk7 : k ≤ 7) (hk : k ≤ n) : ∃ A' n' c', n' + k = n ∧ RdAt w b (p + k) A' n' c' ∧
    ∀ (R : Boxes) (u : World), (∀ y ∈ R, y.1 ≠ g) → EnvX w u ((g, rdO A n c) :: R) → Calls Tryd.prog 51 #[.pointer (some ⟨g, 0, none⟩), .int .i64 (k : Int)] u fun e w' => e = .returned (.int .i64 (getL ((b.drop p).take k) : Int)) ∧ EnvX w w' ((g, rdO A' n' c') :: R) :=
  ⟨_, n - k, _, by omega, h.next hk, fun R u hR hE => rdnum_some A n c k g _ R w u hk7 hk h.2.1 h.2.2.1 (by rw [List.length_take, List.length_drop]; have := h.1; omega) (fun x hx => hB x (List.mem_of_mem_drop (List.mem_of_mem_take hx))) (h.2.2.2.first k) hg hR hE⟩
theorem getL_one {b : List Int} {p : Nat} (hB : isB b) (hp : p < b.length) : ((getL ((b.drop p).take 1) : Nat) : Int) = b.getD p 0 ∧ (0 ≤ b.getD p 0 ∧ b.getD p 0 ≤ 255) := by
  have h1 : (b.drop p).take 1 = [b[p]] := by
    rw [List.drop_eq_getElem_cons hp]
    rfl
  have h2 : b.getD p 0 = b[p] := by rw [List.getD_eq_getElem?_getD, List.getElem?_eq_getElem hp]; rfl
  have h3 := hB b[p] (List.getElem_mem _)
  rw [h1, h2]
  refine ⟨?_, h3⟩
  have h4 := putL_getL [b[p]] (fun x hx => by cases List.mem_singleton.1 hx; exact h3)
  have h5 := getL_lt [b[p]] (fun x hx => by cases List.mem_singleton.1 hx; exact h3)
  have h6 : getL [b[p]] = b[p].toNat := by simp [getL]
  rw [h6]
  omega
theorem RdAt.num1 {w : World} {b : List Int} {p n c g : Nat} {A : Option Addr} (h : RdAt w b p A n c) (hB : isB b) (hg : w.heap.size ≤ g) (hk : 1 ≤ n) : ∃ A' n' c', n' + 1 = n ∧ RdAt w b (p + 1) A' n' c' ∧ (0 ≤ b.getD p 0 ∧ b.getD p 0 ≤ 255) ∧
    ∀ (R : Boxes) (u : World), (∀ y ∈ R, y.1 ≠ g) → EnvX w u ((g, rdO A n c) :: R) → Calls Tryd.prog 51 #[.pointer (some ⟨g, 0, none⟩), .int .i64 (1 : Int)] u fun e w' => e = .returned (.int .i64 (b.getD p 0)) ∧ EnvX w w' ((g, rdO A' n' c') :: R) := by
  obtain ⟨A', n', c', e, hr, hc⟩ := h.num (k := 1) hB hg (by decide) hk
  have h1 := getL_one hB (p := p) (by have := h.1; omega)
  exact ⟨A', n', c', e, hr, h1.2, fun R u hR hE => (hc R u hR hE).mono fun e w' h => ⟨by rw [← h1.1]; exact h.1, h.2⟩⟩
theorem RdAt.id {w : World} {b : List Int} {p n c g : Nat} {A : Option Addr} (h : RdAt w b p A n c) (hg : w.heap.size ≤ g) (hk : 32 ≤ n) : ∃ A' n' c', n' + 32 = n ∧ RdAt w b (p + 32) A' n' c' ∧
    ∀ (R : Boxes) (u : World), (∀ y ∈ R, y.1 ≠ g) → EnvX w u ((g, rdO A n c) :: R) → Calls Tryd.prog 52 #[.pointer (some ⟨g, 0, none⟩)] u fun e w' => e = .returned (idv ((b.drop p).take 32)) ∧ EnvX w w' ((g, rdO A' n' c') :: R) :=
  ⟨_, n - 32, _, by omega, h.next hk, fun R u hR hE => rdid_some A n c g _ R w u hk h.2.1 h.2.2.1 (by rw [List.length_take, List.length_drop]; have := h.1; omega) (h.2.2.2.first 32) hg hR hE⟩
/-- what is spent, of the first ones -/
def insAtR (b : List Int) (i : Nat) : List InR := (rowsAt 33 b 1 i).map inOf
theorem insAtR_step (b : List Int) (i : Nat) : insAtR b (i + 1) = insAtR b i ++ [⟨(b.drop (1 + 33 * i)).take 32, b.getD (1 + 33 * i + 32) 0⟩] := by
  unfold insAtR
  rw [rowsAt_step, List.map_append, List.map_singleton]
  congr 2
  unfold inOf
  rw [List.take_take, List.getD_eq_getElem?_getD, List.getElem?_take_of_lt (by decide), List.getElem?_drop, ← List.getD_eq_getElem?_getD]
  rfl
theorem insAtR_flat {b : List Int} {i : Nat} (h : 1 + 33 * i ≤ b.length) : ((insAtR b i).map inC).flatten.length = i * 33 := by
  have hR : isRows 33 ((insAtR b i).map inC) := fun x hx => by
    obtain ⟨y, hy, rfl⟩ := List.mem_map.1 hx
    obtain ⟨z, hz, rfl⟩ := List.mem_map.1 hy
    have h1 := rows_row (z := 33) (b := b) (o := 1) (n := i) (by omega) z hz
    exact inC_len (show (z.take 32).length = 32 by rw [List.length_take]; omega)
  have hl : (insAtR b i).length = i := by unfold insAtR; rw [List.length_map, rows_len]
  rw [hR.flat_len, List.length_map, hl]
theorem outsAt_step2 (b : List Int) (a j : Nat) : outsAt b a (j + 1) = outsAt b a j ++ [⟨((getL ((b.drop (a + 7 * j)).take 6) : Nat) : Int), b.getD (a + 7 * j + 6) 0⟩] := by
  rw [outsAt_step]
  congr 2
  unfold outOf
  rw [List.take_take, show min 6 7 = 6 by decide, List.getD_eq_getElem?_getD, List.getElem?_take_of_lt (by decide), List.getElem?_drop, ← List.getD_eq_getElem?_getD]
theorem outsAt_flat (b : List Int) (a i : Nat) : ((outsAt b a i).map outC).flatten.length = i * 2 := by
  rw [(rowsOut _).flat_len, List.length_map, outsAt_len]
theorem swap2 {α : Type} {a b : α} {N : List α} : ∀ x ∈ b :: a :: N, x ∈ a :: b :: N := by
  intro x hx
  simp only [List.mem_cons] at *
  rcases hx with h | h | h
  · exact .inr (.inl h)
  · exact .inl h
  · exact .inr (.inr h)
theorem turn2 {α : Type} {a : α} {N R : List α} : ∀ x ∈ a :: (R ++ N), x ∈ N ++ (a :: R) := by
  intro x hx
  simp only [List.mem_append, List.mem_cons] at *
  rcases hx with h | h | h
  · exact .inr (.inl h)
  · exact .inr (.inr h)
  · exact .inl h
end Go.Proofs.YtcodmedgkboohaaDoor

namespace Go.Proofs.YtcodmedgkboohaaDoor
set_option maxRecDepth 8000
open Go.RowKit

set_option maxRecDepth 20000 in
set_option maxHeartbeats 8000000 in
theorem rdins_any (A : Option Addr) (n c g : Nat) (b : List Int) (R : Boxes) (w0 w : World) (m : Nat) (hm : (b.getD 0 0).toNat = m) (hr0 : RdAt w0 b 0 A n c) (hB : isB b) (hg : w0.heap.size ≤ g) (hR : ∀ y ∈ R, y.1 ≠ g) (hE : EnvX w0 w ((g, rdO A n c) :: R)) :
    Calls Tryd.prog 30 #[.pointer (some ⟨g, 0, none⟩)] w fun e w' => ((1 + 33 * m) ≤ b.length ∧ ∃ A' n' c' v N1, e = .returned v ∧ RdAt w0 b ((1 + 33 * m)) A' n' c' ∧ FreshR 51 33 m ((insAtR b m).map inC).flatten v N1 ∧ (∀ y ∈ N1, w0.heap.size ≤ y.1 ∧ y.1 ≠ g ∧ ∀ z ∈ R, z.1 ≠ y.1) ∧ EnvX w0 w' ((g, rdO A' n' c') :: (R ++ N1))) ∨ (b.length < (1 + 33 * m) ∧ ∃ ch, e = .panicked ch ∧ oneUp ch ∧ EnvX w0 w' R) := by
  have HGG := Lib.hid hg
  have HRR := Lib.hid hR
  have HBB := Lib.hid hB
  have HM := Lib.hid hm
  have E1 : Hid (EnvX w0 w ((g, rdO A n c) :: R)) := hE
  have HL0 := Lib.hid hr0.1
  by_cases k0 : n = 0
  · subst k0
    have hz : b.getD 0 0 = 0 := by
      rw [List.getD_eq_getElem?_getD, List.getElem?_eq_none (by have := hr0.1; omega)]
      rfl
    have HSH : Hid (b.length < 1 + 33 * m) := by show _ < _; have := hr0.1; omega
    have hcm : 0 ≤ maxLen := Nat.zero_le _
    have HNN : Hid (∀ u, EnvX w0 u ((g, rdO A 0 c) :: R) → Calls Tryd.prog 51 #[.pointer (some ⟨g, 0, none⟩), .int .i64 (1 : Int)] u fun e w' => ∃ ch, e = .panicked ch ∧ oneUp ch ∧ EnvX w0 w' ((g, rdO A 0 c) :: R)) := fun u hu => rdnum_none A 0 c 1 g R w0 u (by decide) hcm hu
    clear hz hcm hm hr0 hB hg hR hE
    go_enter Tryd.func30, Tryd.ntmps30
    go_upto_region 2 with (fail)
    refine wp_region_HPx ⟨fun ch u => b.length < 1 + 33 * m ∧ oneUp ch ∧ EnvX w0 u R, fun _ => []⟩ (w0 := w0) [0, 1, 2] ((g, Obj.cells #[.slice A 0 c] 56 (0, 0)) :: R) rfl E1.out (fun a' ha ch u h => ⟨ha.1, .inr ⟨h.1, ch, rfl, h.2⟩⟩) ?_
    refine lexH_phase [0] [1, 2] ?_
    have hw1 : EnvX w0 _ ((g, Obj.cells #[.slice A 0 c] 56 (0, 0)) :: R) := E1.out
    have hone := @EnvC.one _ _ _ hw1
    (refine wpG_op rfl rfl rfl ?_; intro K hK; go_big_quiet_op; go_big_quiet_on)
    clear hone hw1
    refine wpG_nil ?_
    refine (hOp_panics ((g, Obj.cells #[.slice A 0 c] 56 (0, 0)) :: R) rfl rfl (fun _ h => h) (fun u hu => PUpon_call (fid := 51) (xs := #[.tmp 5, .const (Value.int IntKind.i64 1)]) (args := #[.pointer (some ⟨g, 0, none⟩), .int .i64 (1 : Int)]) rfl Tryd.func51 rfl rfl u ((HNN.out u hu).mono fun e w' h => let ⟨ch, e1, e2, e3⟩ := h; ⟨ch, e1, HSH.out, e2, e3.sub (fun _ h => List.mem_cons_of_mem _ h)⟩)))
  · obtain ⟨B1, n1, d1, e1, hr1, hv, hnb⟩ := hr0.num1 hB hg (by omega)
    have hv0 : b.getD 0 0 = (m : Int) := by omega
    have HM255 : Hid (m ≤ 255) := by show _ ≤ _; omega
    rw [hv0] at hnb
    have HNB := Lib.hid hnb
    have hr1' : RdAt w0 b (1 + 33 * 0) B1 n1 d1 := by rwa [show 1 + 33 * 0 = 0 + 1 by omega]
    have HRD := Lib.hid hr1'
    clear hr1' hr1 hv hv0 hnb e1 hr0 hm hB hg hR hE k0
    go_enter Tryd.func30, Tryd.ntmps30
    go_upto_region 2 with (fail)
    refine wp_region_Hx (w0 := w0) [0, 1, 2] ((g, Obj.cells #[.slice A n c] 56 (0, 0)) :: R) rfl E1.out ?_
    refine lexH_phase [0] [1, 2] ?_
    have hw1 : EnvX w0 _ ((g, Obj.cells #[.slice A n c] 56 (0, 0)) :: R) := E1.out
    have hone := @EnvC.one _ _ _ hw1
    (refine wpG_op rfl rfl rfl ?_; intro K hK; go_big_quiet_op; go_big_quiet_on)
    clear hone hw1
    refine wpG_nil ?_
    refine (hOp_turn (gd := none) (R := fun x M' => x = .int .i64 (m : Int) ∧ M' = ((g, rdO B1 n1 d1) :: R)) rfl rfl rfl rfl (fun u hu => OUpon_call (fid := 51) (xs := #[.tmp 5, .const (.int .i64 1)]) (args := #[.pointer (some ⟨g, 0, none⟩), .int .i64 (1 : Int)]) rfl Tryd.func51 rfl rfl u ((HNB.out _ u HRR.out hu).mono fun e w' h => ⟨_, _, h.1, h.2, rfl, rfl⟩)) ?_)
    rintro _ _ ⟨rfl, rfl⟩ he2; intro K' hK'; go_big_quiet_op; go_big_quiet_on
    change lexH _ _ _ _ _ _ ((g, rdO B1 n1 d1) :: R)
    refine lexH_phase [2] [] ?_
    have hw3 : EnvX w0 _ ((g, rdO B1 n1 d1) :: R) := he2.choose_spec
    have hone := @EnvC.one _ _ _ hw3
    (refine wpG_op rfl rfl rfl ?_; intro K hK; go_big_quiet_op; go_big_quiet_on)
    clear hone hw3
    refine wpG_nil ?_
    intro u5 E2'
    have EX4 := Lib.hid E2'
    clear E2'
    have HINV : Hid (∃ A' n' c' N1, RdAt w0 b (1 + 33 * 0) A' n' c' ∧ FreshR 51 33 0 ((insAtR b 0).map inC).flatten (.slice none 0 0) N1 ∧ (∀ y ∈ N1, w0.heap.size ≤ y.1 ∧ y.1 ≠ g ∧ ∀ z ∈ R, z.1 ≠ y.1) ∧ EnvX w0 u5 ((g, rdO A' n' c') :: (R ++ N1))) := ⟨B1, n1, d1, [], HRD.out, .inr ⟨rfl, rfl, rfl, rfl⟩, (fun y hy => by cases hy), by rw [List.append_nil]; exact EX4.out⟩
    clear EX4 E1 HNB HRD
    go_upto_region 3 with (fail)
    go_loopw [3, 7] (fun v iv u => ∃ i : Nat, i ≤ m ∧ iv = .int .i64 (i : Int) ∧ Hid (∃ A' n' c' N1, RdAt w0 b (1 + 33 * i) A' n' c' ∧ FreshR 51 33 i ((insAtR b i).map inC).flatten v N1 ∧ (∀ y ∈ N1, w0.heap.size ≤ y.1 ∧ y.1 ≠ g ∧ ∀ z ∈ R, z.1 ≠ y.1) ∧ EnvX w0 u ((g, rdO A' n' c') :: (R ++ N1)))) (fun _ iv _ => m - (intOf iv).toNat)
    case atStart => exact ⟨0, by omega, rfl, HINV⟩
    case round =>
      obtain ⟨i, hi, rfl, hinv⟩ := hrel
      obtain ⟨A', n', c', N1, hr, hF, hN, hE⟩ := hinv.out
      have HF := Lib.hid hF
      have HN := Lib.hid hN
      have EK := Lib.hid hE
      clear hinv HINV hF hN hE
      by_cases hlt : i < m
      · have C3 : Hid (decide ((i : Int) < (m : Int)) = true) := decide_eq_true (by omega)
        have HI := Lib.hid hlt
        have HR1 : Hid (∀ y ∈ R ++ N1, y.1 ≠ g) := fun y hy => (List.mem_append.1 hy).elim (fun h => HRR.out y h) (fun h => (HN.out y h).2.1)
        obtain ⟨L, hL⟩ : ∃ L, insAtR b i = L := ⟨_, rfl⟩
        have HL := Lib.hid hL
        rw [hL] at HF
        have hp := hr.1
        have hmul : 33 * (i + 1) ≤ 33 * m := Nat.mul_le_mul_left _ (by omega)
        by_cases k32 : n' < 32
        · have HTN : Hid (∀ u, EnvX w0 u ((g, rdO A' n' c') :: (R ++ N1)) → Calls Tryd.prog 52 #[.pointer (some ⟨g, 0, none⟩)] u fun e w' => ∃ ch, e = .panicked ch ∧ oneUp ch ∧ EnvX w0 w' ((g, rdO A' n' c') :: (R ++ N1))) := fun u hu => rdid_none A' n' c' g _ w0 u k32 (by have := hr.2.1; have := hr.2.2.1; omega) hu
          have HSH : Hid (b.length < 1 + 33 * m) := by show _ < _; omega
          clear hlt hr hp k32 hL hmul
          go_upto_region 3 with (fail)
          refine wp_region_Hx (w0 := w0) [0] ((g, rdO A' n' c') :: (R ++ N1)) rfl EK.out ?_
          refine lexH_phase [0] [] ?_
          have hw41 : EnvX w0 _ ((g, rdO A' n' c') :: (R ++ N1)) := EK.out
          have hone := @EnvC.one _ _ _ hw41
          (refine wpG_val (v := .bool true) rfl rfl (fun u hu => ltZ_op u C3.out rfl rfl) ?_ hw41; intro K hK; go_big_quiet_op; go_big_quiet_on)
          clear hone hw41
          refine wpG_nil ?_
          intro u43 E2'
          have EX42 := Lib.hid E2'
          clear E2'
          go_upto_region 4 with (fail)
          refine wp_region_HPx ⟨fun ch u => b.length < 1 + 33 * m ∧ oneUp ch ∧ EnvX w0 u R, fun _ => []⟩ (w0 := w0) [0, 1, 2, 3] ((g, rdO A' n' c') :: (R ++ N1)) rfl EX42.out (fun a' ha ch u h => ⟨ha.1, .inr ⟨h.1, ch, rfl, h.2⟩⟩) ?_
          refine lexH_phase [0] [1, 2, 3] ?_
          have hw44 : EnvX w0 _ ((g, rdO A' n' c') :: (R ++ N1)) := EX42.out
          have hone := @EnvC.one _ _ _ hw44
          (refine wpG_op rfl rfl rfl ?_; intro K hK; go_big_quiet_op; go_big_quiet_on)
          clear hone hw44
          refine wpG_nil ?_
          refine (hOp_panics ((g, rdO A' n' c') :: (R ++ N1)) rfl rfl (fun _ h => h) (fun u hu => PUpon_call (fid := 52) (xs := #[.tmp 9]) (args := #[.pointer (some ⟨g, 0, none⟩)]) rfl Tryd.func52 rfl rfl u ((HTN.out u hu).mono fun e w' h => let ⟨ch, e1, e2, e3⟩ := h; ⟨ch, e1, HSH.out, e2, e3.sub (fun _ h => List.mem_cons_of_mem _ (List.mem_append_left _ h))⟩)))
        · obtain ⟨A'', n'', c'', e2, hr2, htk⟩ := hr.id HGG.out (by omega)
          obtain ⟨ys, hys⟩ : ∃ ys, (b.drop (1 + 33 * i)).take 32 = ys := ⟨_, rfl⟩
          have HYL : Hid (ys.length = 32) := by show _ = _; rw [← hys, List.length_take, List.length_drop]; omega
          rw [hys] at htk
          have HTK := Lib.hid htk
          by_cases k33 : n'' = 0
          · subst k33
            have HNN : Hid (∀ (R : Boxes) (u : World), EnvX w0 u ((g, rdO A'' 0 c'') :: R) → Calls Tryd.prog 51 #[.pointer (some ⟨g, 0, none⟩), .int .i64 (1 : Int)] u fun e w' => ∃ ch, e = .panicked ch ∧ oneUp ch ∧ EnvX w0 w' ((g, rdO A'' 0 c'') :: R)) := fun R u h => rdnum_none A'' 0 c'' 1 g R w0 u (by decide) (Nat.zero_le _) h
            have HSH : Hid (b.length < 1 + 33 * m) := by show _ < _; omega
            clear hlt hr hp k32 hL hmul e2 hr2 htk hys
            go_upto_region 3 with (fail)
            refine wp_region_Hx (w0 := w0) [0] ((g, rdO A' n' c') :: (R ++ N1)) rfl EK.out ?_
            refine lexH_phase [0] [] ?_
            have hw61 : EnvX w0 _ ((g, rdO A' n' c') :: (R ++ N1)) := EK.out
            have hone := @EnvC.one _ _ _ hw61
            (refine wpG_val (v := .bool true) rfl rfl (fun u hu => ltZ_op u C3.out rfl rfl) ?_ hw61; intro K hK; go_big_quiet_op; go_big_quiet_on)
            clear hone hw61
            refine wpG_nil ?_
            intro u63 E2'
            have EX62 := Lib.hid E2'
            clear E2'
            go_upto_region 4 with (fail)
            refine wp_region_Hx (w0 := w0) [0, 1, 2, 3] ((g, rdO A' n' c') :: (R ++ N1)) rfl EX62.out ?_
            refine lexH_phase [0] [1, 2, 3] ?_
            have hw64 : EnvX w0 _ ((g, rdO A' n' c') :: (R ++ N1)) := EX62.out
            have hone := @EnvC.one _ _ _ hw64
            (refine wpG_op rfl rfl rfl ?_; intro K hK; go_big_quiet_op; go_big_quiet_on)
            clear hone hw64
            refine wpG_nil ?_
            refine (hOp_turn (gd := none) (R := fun x M' => x = idv ys ∧ M' = ((g, rdO A'' 0 c'') :: (R ++ N1))) rfl rfl rfl rfl (fun u hu => OUpon_call (fid := 52) (xs := #[.tmp 9]) (args := #[.pointer (some ⟨g, 0, none⟩)]) rfl Tryd.func52 rfl rfl u ((HTK.out _ u HR1.out hu).mono fun e w' h => ⟨_, _, h.1, h.2, rfl, rfl⟩)) ?_)
            rintro _ _ ⟨rfl, rfl⟩ he65; intro K' hK'; go_big_quiet_op; go_big_quiet_on
            change lexH _ _ _ _ _ _ ((g, rdO A'' 0 c'') :: (R ++ N1))
            refine (hOp_fresh (R := fun x N => ∃ g, x = .pointer (some ⟨g, 0, none⟩) ∧ N = [(g, Obj.cells (arrB 32 []) 37 (0, 0))]) (M0 := ((g, rdO A'' 0 c'') :: (R ++ N1))) rfl rfl (fun _ h => h) (fun u hu => FAt_new (new_id _) u) ?_)
            rintro _ _ ⟨gt, rfl, rfl⟩ hf he66; intro K' hK'; go_big_quiet_op; go_big_quiet_on
            have HG7 := Lib.hid (hf _ (List.mem_singleton.2 rfl))
            clear hf
            change lexH _ _ _ _ _ _ ((gt, Obj.cells (arrB 32 []) 37 (0, 0)) :: ((g, rdO A'' 0 c'') :: (R ++ N1)))
            refine (hOp_store rfl (gt) (arrB 32 ys) rfl rfl HG7.out.1 37 ((arrB 32 [])) (List.Mem.head _) (info26 _ (arrB_size _ _ (by rw [HYL.out]; exact Nat.le_refl _))) ((arrB_size _ _ (by simp)).trans (arrB_size _ _ (by rw [HYL.out]; exact Nat.le_refl _)).symm) (arrB_one _ _) ((gt, Obj.cells (arrB 32 ys) 37 (0, 0)) :: ((g, rdO A'' 0 c'') :: (R ++ N1))) (List.forall_mem_cons.2 ⟨.inl rfl, fun y hy => .inr ⟨List.mem_cons_of_mem _ hy, HG7.out.2 y hy⟩⟩) ?_)
            intro he67
            intro u69 E2'
            have EX68 := Lib.hid E2'
            clear E2'
            go_upto_region 5 with (fail)
            refine wp_region_HP ⟨fun ch u => b.length < 1 + 33 * m ∧ oneUp ch ∧ EnvX w0 u R, fun zz => match zz with | 3 => [(gt, Obj.cells (arrB 32 ys) 37 (0, 0))] | 6 => [(gt, Obj.cells (arrB 32 ys) 37 (0, 0))] | _ => []⟩ (w0 := w0) ((gt, Obj.cells (arrB 32 ys) 37 (0, 0)) :: ((g, rdO A'' 0 c'') :: (R ++ N1))) (by kernel_rfl) EX68.out (fun a' ha ch u h => ⟨ha.1, .inr ⟨h.1, ch, rfl, h.2⟩⟩) ?_
            refine anyH_phaseK [0, 1, 2] 5 [3] [(gt, Obj.cells (arrB 32 ys) 37 (0, 0))] rfl (List.forall_mem_cons.2 ⟨(List.Mem.head _), (fun _ h => by cases h)⟩) (List.forall_mem_cons.2 ⟨fun _ h => h, (fun _ h => by cases h)⟩) (by kernel_rfl) ?_
            have hw70 : EnvX w0 _ [(gt, Obj.cells (arrB 32 ys) 37 (0, 0))] := EnvX.sub (EnvX.drew EX68.out) (List.forall_mem_cons.2 ⟨(List.Mem.head _), (fun _ h => by cases h)⟩)
            have hone := @EnvC.one _ _ _ hw70
            (refine wpG_op rfl rfl rfl ?_; intro K hK; go_big_quiet_op; go_big_quiet_on)
            (refine wpG_val (v := idv ys) rfl rfl (fun u hu => load_any_op u (box_idv hu (List.Mem.head _) HYL.out) rfl) ?_ hw70; intro K hK; go_big_quiet_op; go_big_quiet_on)
            (refine wpG_op rfl rfl rfl ?_; intro K hK; go_big_quiet_op; go_big_quiet_on)
            clear hone hw70
            refine wpG_nil ?_
            refine anyH_one (i := 3) (by kernel_rfl) (hOp_panics ((gt, Obj.cells (arrB 32 ys) 37 (0, 0)) :: ((g, rdO A'' 0 c'') :: (R ++ N1))) rfl rfl (fun _ h => h) (fun u hu => PUpon_call (fid := 51) (xs := #[.tmp 13, .const (Value.int IntKind.i64 1)]) (args := #[.pointer (some ⟨g, 0, none⟩), .int .i64 (1 : Int)]) rfl Tryd.func51 rfl rfl u ((HNN.out _ u (hu.sub swap2)).mono fun e w' h => let ⟨ch, e1, e2, e3⟩ := h; ⟨ch, e1, HSH.out, e2, e3.sub (fun _ h => List.mem_cons_of_mem _ (List.mem_cons_of_mem _ (List.mem_append_left _ h)))⟩)))
          · obtain ⟨A3, n3, c3, e3, hr3, -, hnb⟩ := hr2.num1 HBB.out HGG.out (by omega)
            obtain ⟨v1, hvv⟩ : ∃ v1, b.getD (1 + 33 * i + 32) 0 = v1 := ⟨_, rfl⟩
            rw [hvv] at hnb
            have HNB := Lib.hid hnb
            have hr3' : RdAt w0 b (1 + 33 * (i + 1)) A3 n3 c3 := by rwa [show 1 + 33 * i + 32 + 1 = 1 + 33 * (i + 1) by omega] at hr3
            have HRD := Lib.hid hr3'
            have HST : Hid (insAtR b (i + 1) = L ++ [⟨ys, v1⟩]) := by show _ = _; rw [insAtR_step, HL.out, hys, hvv]
            have HSF : Hid (((insAtR b (i + 1)).map inC).flatten = (L.map inC).flatten ++ inC ⟨ys, v1⟩) := by show _ = _; rw [HST.out, List.map_append, List.flatten_append, List.map_singleton, List.flatten_singleton]
            have HSL : Hid ((L.map inC).flatten.length = i * 33) := by
              show _ = _
              rw [← HL.out]
              exact insAtR_flat (by omega)
            have HLI : Hid (lenI ⟨ys, v1⟩) := HYL.out
            clear hlt hr hp k32 hL hmul e2 hr2 htk hys k33 e3 hr3 hnb hr3' hvv HST
            generalize (L.map inC).flatten = xs at *
            go_upto_region 3 with (fail)
            refine wp_region_Hx (w0 := w0) [0] ((g, rdO A' n' c') :: (R ++ N1)) rfl EK.out ?_
            refine lexH_phase [0] [] ?_
            have hw101 : EnvX w0 _ ((g, rdO A' n' c') :: (R ++ N1)) := EK.out
            have hone := @EnvC.one _ _ _ hw101
            (refine wpG_val (v := .bool true) rfl rfl (fun u hu => ltZ_op u C3.out rfl rfl) ?_ hw101; intro K hK; go_big_quiet_op; go_big_quiet_on)
            clear hone hw101
            refine wpG_nil ?_
            intro u103 E2'
            have EX102 := Lib.hid E2'
            clear E2'
            go_upto_region 4 with (fail)
            refine wp_region_Hx (w0 := w0) [0, 1, 2, 3] ((g, rdO A' n' c') :: (R ++ N1)) rfl EX102.out ?_
            refine lexH_phase [0] [1, 2, 3] ?_
            have hw104 : EnvX w0 _ ((g, rdO A' n' c') :: (R ++ N1)) := EX102.out
            have hone := @EnvC.one _ _ _ hw104
            (refine wpG_op rfl rfl rfl ?_; intro K hK; go_big_quiet_op; go_big_quiet_on)
            clear hone hw104
            refine wpG_nil ?_
            refine (hOp_turn (gd := none) (R := fun x M' => x = idv ys ∧ M' = ((g, rdO A'' n'' c'') :: (R ++ N1))) rfl rfl rfl rfl (fun u hu => OUpon_call (fid := 52) (xs := #[.tmp 9]) (args := #[.pointer (some ⟨g, 0, none⟩)]) rfl Tryd.func52 rfl rfl u ((HTK.out _ u HR1.out hu).mono fun e w' h => ⟨_, _, h.1, h.2, rfl, rfl⟩)) ?_)
            rintro _ _ ⟨rfl, rfl⟩ he105; intro K' hK'; go_big_quiet_op; go_big_quiet_on
            change lexH _ _ _ _ _ _ ((g, rdO A'' n'' c'') :: (R ++ N1))
            refine (hOp_fresh (R := fun x N => ∃ g, x = .pointer (some ⟨g, 0, none⟩) ∧ N = [(g, Obj.cells (arrB 32 []) 37 (0, 0))]) (M0 := ((g, rdO A'' n'' c'') :: (R ++ N1))) rfl rfl (fun _ h => h) (fun u hu => FAt_new (new_id _) u) ?_)
            rintro _ _ ⟨gt, rfl, rfl⟩ hf he106; intro K' hK'; go_big_quiet_op; go_big_quiet_on
            have HG7 := Lib.hid (hf _ (List.mem_singleton.2 rfl))
            clear hf
            change lexH _ _ _ _ _ _ ((gt, Obj.cells (arrB 32 []) 37 (0, 0)) :: ((g, rdO A'' n'' c'') :: (R ++ N1)))
            refine (hOp_store rfl (gt) (arrB 32 ys) rfl rfl HG7.out.1 37 ((arrB 32 [])) (List.Mem.head _) (info26 _ (arrB_size _ _ (by rw [HYL.out]; exact Nat.le_refl _))) ((arrB_size _ _ (by simp)).trans (arrB_size _ _ (by rw [HYL.out]; exact Nat.le_refl _)).symm) (arrB_one _ _) ((gt, Obj.cells (arrB 32 ys) 37 (0, 0)) :: ((g, rdO A'' n'' c'') :: (R ++ N1))) (List.forall_mem_cons.2 ⟨.inl rfl, fun y hy => .inr ⟨List.mem_cons_of_mem _ hy, HG7.out.2 y hy⟩⟩) ?_)
            intro he107
            intro u109 E2'
            have EX108 := Lib.hid E2'
            clear E2'
            have HR2 : Hid (∀ y ∈ (gt, Obj.cells (arrB 32 ys) 37 (0, 0)) :: (R ++ N1), y.1 ≠ g) := List.forall_mem_cons.2 ⟨fun e => HG7.out.2 _ (List.Mem.head _) e.symm, HR1.out⟩
            go_upto_region 5 with (fail)
            refine wp_region_HP ⟨fun ch u => b.length < 1 + 33 * m ∧ oneUp ch ∧ EnvX w0 u R, fun zz => match zz with | 3 => [(gt, Obj.cells (arrB 32 ys) 37 (0, 0))] | _ => []⟩ (w0 := w0) ((gt, Obj.cells (arrB 32 ys) 37 (0, 0)) :: ((g, rdO A'' n'' c'') :: (R ++ N1))) (by kernel_rfl) EX108.out (fun a' ha ch u h => ⟨ha.1, .inr ⟨h.1, ch, rfl, h.2⟩⟩) ?_
            refine anyH_phaseK [0, 1, 2] 5 [3] [(gt, Obj.cells (arrB 32 ys) 37 (0, 0))] rfl (List.forall_mem_cons.2 ⟨(List.Mem.head _), (fun _ h => by cases h)⟩) (List.forall_mem_cons.2 ⟨fun _ h => h, (fun _ h => by cases h)⟩) (by kernel_rfl) ?_
            have hw110 : EnvX w0 _ [(gt, Obj.cells (arrB 32 ys) 37 (0, 0))] := EnvX.sub (EnvX.drew EX108.out) (List.forall_mem_cons.2 ⟨(List.Mem.head _), (fun _ h => by cases h)⟩)
            have hone := @EnvC.one _ _ _ hw110
            (refine wpG_op rfl rfl rfl ?_; intro K hK; go_big_quiet_op; go_big_quiet_on)
            (refine wpG_val (v := idv ys) rfl rfl (fun u hu => load_any_op u (box_idv hu (List.Mem.head _) HYL.out) rfl) ?_ hw110; intro K hK; go_big_quiet_op; go_big_quiet_on)
            (refine wpG_op rfl rfl rfl ?_; intro K hK; go_big_quiet_op; go_big_quiet_on)
            clear hone hw110
            refine wpG_nil ?_
            refine anyH_one (i := 3) (by kernel_rfl) (hOp_turn (gd := none) (R := fun x M' => x = .int .i64 v1 ∧ M' = ((g, rdO A3 n3 c3) :: ((gt, Obj.cells (arrB 32 ys) 37 (0, 0)) :: (R ++ N1)))) rfl rfl rfl rfl (fun u hu => OUpon_call (fid := 51) (xs := #[.tmp 13, .const (.int .i64 1)]) (args := #[.pointer (some ⟨g, 0, none⟩), .int .i64 (1 : Int)]) rfl Tryd.func51 rfl rfl u ((HNB.out _ u HR2.out (hu.sub swap2)).mono fun e w' h => ⟨_, _, h.1, h.2, rfl, rfl⟩)) ?_ (hkeep := (by rintro _ _ ⟨rfl, rfl⟩ y hy _; cases List.mem_singleton.1 (show y ∈ [(gt, Obj.cells (arrB 32 ys) 37 (0, 0))] from hy); exact List.Mem.tail _ (List.Mem.head _))))
            rintro _ _ ⟨rfl, rfl⟩ he111; intro K' hK'; go_big_quiet_op; go_big_quiet_on
            change anyH _ _ _ _ _ _ _ _ ((g, rdO A3 n3 c3) :: ((gt, Obj.cells (arrB 32 ys) 37 (0, 0)) :: (R ++ N1)))
            refine anyH_phase [4] 3 rfl ⟨_, he111.choose_spec⟩ (by kernel_rfl) ?_
            have hw112 : EnvX w0 _ ((g, rdO A3 n3 c3) :: ((gt, Obj.cells (arrB 32 ys) 37 (0, 0)) :: (R ++ N1))) := he111.choose_spec
            have hone := @EnvC.one _ _ _ hw112
            (refine wpG_val (v := .agg (inC ⟨ys, v1⟩).toArray) rfl rfl (fun u hu => buildA_op u (built_in HYL.out)) ?_ hw112; intro K hK; go_big_quiet_op; go_big_quiet_on)
            clear hone hw112
            refine wpG_nil ?_
            refine anyH_one (i := 5) (by kernel_rfl) (hOp_fresh (R := BuiltR 51 (inC ⟨ys, v1⟩)) (M0 := ((g, rdO A3 n3 c3) :: ((gt, Obj.cells (arrB 32 ys) 37 (0, 0)) :: (R ++ N1)))) rfl rfl (fun _ h => h) (fun u hu => FAt_buildR elIn (inC_len HLI.out) (inC_one _) rfl u) ?_)
            rintro _ _ ⟨gq, rfl, rfl⟩ hf he113; intro K' hK'; go_big_quiet_op; go_big_quiet_on
            clear hf
            change anyH _ _ _ _ _ _ _ _ ((gq, Obj.cells (inC ⟨ys, v1⟩).toArray 51 (0, 0)) :: ((g, rdO A3 n3 c3) :: ((gt, Obj.cells (arrB 32 ys) 37 (0, 0)) :: (R ++ N1))))
            refine anyH_one (i := 6) (by kernel_rfl) (hOp_own (gd := none) (R := GrownR w0 51 33 (i + 1) (xs ++ inC ⟨ys, v1⟩) ((g, rdO A3 n3 c3) :: R)) rfl rfl rfl rfl (fun u hu => appR_op elIn (m := 1) (c := 1) ((g, rdO A3 n3 c3) :: R) hu HSL.out (by rw [Nat.one_mul]; exact inC_len HLI.out) (inC_one _) HF.out (fun y hy => ⟨List.mem_cons_of_mem _ (List.mem_cons_of_mem _ (List.mem_cons_of_mem _ (List.mem_append_right _ hy))), (HN.out y hy).1⟩) (List.Mem.head _) (List.forall_mem_cons.2 ⟨⟨List.mem_cons_of_mem _ (List.Mem.head _), fun y hy e => (HN.out y hy).2.1 e.symm⟩, fun z hz => ⟨List.mem_cons_of_mem _ (List.mem_cons_of_mem _ (List.mem_cons_of_mem _ (List.mem_append_left _ hz))), fun y hy => (HN.out y hy).2.2 z hz⟩⟩) (by have := HI.out; have := HM255.out; omega) rfl rfl) ?_ (hkeep := (fun _ _ _ x h => absurd (show x ∈ ([] : Boxes) from h) List.not_mem_nil)))
            rintro x9 M' ⟨N9, rfl, hF9, hn9⟩ he114; intro K' hK'; go_big_quiet_op; go_big_quiet_on
            have HF9 := Lib.hid hF9
            have HN9 := Lib.hid hn9
            clear hF9 hn9
            change anyH _ _ _ _ _ _ _ _ (N9 ++ ((g, rdO A3 n3 c3) :: R))
            refine anyH_phase [7] 0 rfl ⟨_, he114.choose_spec⟩ (by kernel_rfl) ?_
            have hw115 : EnvX w0 _ (N9 ++ ((g, rdO A3 n3 c3) :: R)) := he114.choose_spec
            have hone := @EnvC.one _ _ _ hw115
            (refine wpG_op rfl rfl rfl ?_; intro K hK; go_big_quiet_op; go_big_quiet_on)
            clear hone hw115
            refine wpG_nil ?_
            refine anyH_done (by kernel_rfl) ?_
            intro u117 E2'
            have EX116 := Lib.hid E2'
            clear E2'
            have HNX : Hid (∃ A' n' c' N1, RdAt w0 b (1 + 33 * (i + 1)) A' n' c' ∧ FreshR 51 33 (i + 1) ((insAtR b (i + 1)).map inC).flatten x9 N1 ∧ (∀ y ∈ N1, w0.heap.size ≤ y.1 ∧ y.1 ≠ g ∧ ∀ z ∈ R, z.1 ≠ y.1) ∧ EnvX w0 u117 ((g, rdO A' n' c') :: (R ++ N1))) := ⟨A3, n3, c3, N9, HRD.out, by rw [HSF.out]; exact HF9.out, fun y hy => ⟨(HN9.out y hy).1, fun e => (HN9.out y hy).2 _ (List.Mem.head _) e.symm, fun z hz => (HN9.out y hy).2 z (List.mem_cons_of_mem _ hz)⟩, EX116.out.sub turn2⟩
            have him := HI.out
            have hm255 := HM255.out
            go_wp2
            go_roundw
            case rel => exact ⟨i + 1, by omega, by go_num, HNX⟩
            case measure => simp [intOf]; omega
      · obtain rfl : i = m := by omega
        have C3 : Hid (decide ((i : Int) < (i : Int)) = false) := decide_eq_false (by omega)
        have HAT : Hid (1 + 33 * i ≤ b.length) := by show _ ≤ _; have := hr.1; omega
        have HRD := Lib.hid hr
        clear hlt hr
        go_upto_region 3 with (fail)
        refine wp_region_Hx (w0 := w0) [0] ((g, rdO A' n' c') :: (R ++ N1)) rfl EK.out ?_
        refine lexH_phase [0] [] ?_
        have hw201 : EnvX w0 _ ((g, rdO A' n' c') :: (R ++ N1)) := EK.out
        have hone := @EnvC.one _ _ _ hw201
        (refine wpG_val (v := .bool false) rfl rfl (fun u hu => ltZ_op u C3.out rfl rfl) ?_ hw201; intro K hK; go_big_quiet_op; go_big_quiet_on)
        clear hone hw201
        refine wpG_nil ?_
        intro u203 E2'
        have EX202 := Lib.hid E2'
        clear E2'
        go_upto_region 7 with (fail)
        refine wp_region_Hx (w0 := w0) [0, 1] ((g, rdO A' n' c') :: (R ++ N1)) rfl EX202.out ?_
        refine lexH_phase [0, 1] [] ?_
        have hw204 : EnvX w0 _ ((g, rdO A' n' c') :: (R ++ N1)) := EX202.out
        have hone := @EnvC.one _ _ _ hw204
        (refine wpG_op rfl rfl rfl ?_; intro K hK; go_big_quiet_op; go_big_quiet_on)
        (refine wpG_op rfl rfl rfl ?_; intro K hK; go_big_quiet_op; go_big_quiet_on)
        clear hone hw204
        refine wpG_nil ?_
        intro u206 E2'
        have EX205 := Lib.hid E2'
        clear E2'
        go_wp2
        go_ret
        exact .inl ⟨HAT.out, _, _, _, _, N1, rfl, HRD.out, HF.out, HN.out, EX205.out⟩
end Go.Proofs.YtcodmedgkboohaaDoor
