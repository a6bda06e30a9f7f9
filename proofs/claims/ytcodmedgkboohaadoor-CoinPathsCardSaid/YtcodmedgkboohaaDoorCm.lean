/- Part of a proof. -/
import Derived.Test.YtcodmedgkboohaaDoorCl
namespace Go.Proofs.YtcodmedgkboohaaDoor
set_option maxRecDepth 8000
open Go.RowKit

def ptr (g : Nat) : Value := .pointer (some ⟨g, 0, none⟩)
def ndV : Value := .func (.func 48) #[] #[]
def r1V (bl bw bn : Nat) : Value := .func (.func 72) #[] #[ptr bl, ptr bw, ptr bn]
theorem oneFnR : ∀ w, (isAgg 114).run Tryd.prog w = .ok false w := fun w => by simp [isAgg, run_underlying Tryd.underlying114]
theorem oneJoin : ∀ w, (isAgg 93).run Tryd.prog w = .ok false w := fun w => by simp [isAgg, run_underlying Tryd.underlying93]
def bxL (A : Option Addr) (m c : Nat) : Obj := .cells #[.slice A m c] 44 (0, 0)
def bxR (bl bw bn : Nat) : Obj := .cells #[r1V bl bw bn] 114 (0, 0)
def bxN : Obj := .cells #[ndV] 93 (0, 0)
def sideF (f n k : Nat) : Nat := if k = 0 then f else f + halfT n
def sideN (n k : Nat) : Nat := if k = 0 then halfT n else n - halfT n
def sideR (L : List (List Int)) (f n k : Nat) : List Int := rootT ((L.drop (sideF f n k)).take (sideN n k))
theorem side_cut {f n k : Nat} (h2 : 2 ≤ n) (hk : k < 2) : (cutC f n).toArray.extract (k * 2) (k * 2 + 2) = (spanC (sideF f n k) (sideN n k)).toArray := by
  obtain ⟨b1, b2, b3, -⟩ := half_spec h2
  match k, hk with
  | 0, _ => rfl
  | 1, _ =>
    show _ = (spanC (f + halfT n) (n - halfT n)).toArray
    have e : f + halfT n + (n - halfT n) = f + n := by omega
    unfold spanC cutC
    rw [e]
    rfl
theorem side_in {f n k m : Nat} (h2 : 2 ≤ n) (hk : k < 2) (hm : f + n ≤ m) : 1 ≤ sideN n k ∧ sideN n k < n ∧ sideF f n k + sideN n k ≤ m := by
  obtain ⟨b1, b2, b3, -⟩ := half_spec h2
  match k, hk with
  | 0, _ => exact ⟨b1, b2, by show f + halfT n ≤ m; omega⟩
  | 1, _ => exact ⟨by show 1 ≤ n - halfT n; omega, by show n - halfT n < n; omega, by show f + halfT n + (n - halfT n) ≤ m; omega⟩
theorem side_root {L : List (List Int)} {f n : Nat} (h2 : 2 ≤ n) (hm : f + n ≤ L.length) : nodeT (sideR L f n 0) (sideR L f n 1) = rootT ((L.drop f).take n) := by
  obtain ⟨b1, b2, b3, -⟩ := half_spec h2
  have hl : ((L.drop f).take n).length = n := by rw [List.length_take, List.length_drop]; omega
  have hc := root_cut (l := (L.drop f).take n) (by omega)
  rw [hl] at hc
  rw [hc]
  show nodeT (rootT ((L.drop f).take (halfT n))) (rootT ((L.drop (f + halfT n)).take (n - halfT n))) = _
  rw [List.take_take, Nat.min_eq_left (by omega), List.drop_take, List.drop_drop]
def sumsC (r0 r1 : List Int) : Nat → Array Value
  | 0 => arrB 32 [] ++ arrB 32 []
  | 1 => arrB 32 r0 ++ arrB 32 []
  | _ => arrB 32 r0 ++ arrB 32 r1
def pick2 (r0 r1 : List Int) (k : Nat) : List Int := if k = 0 then r0 else r1
theorem z32_len : (arrB 32 []).toList.length = 32 := by rw [Array.length_toList]; exact arrB_size _ _ (by simp)
theorem idA_cells {r : List Int} (h : r.length = 32) : (arrB 32 r).toList.length = 32 := by rw [Array.length_toList]; exact arrB_size _ _ (by omega)
theorem sums_step {r0 r1 : List Int} (h0 : r0.length = 32) (h1 : r1.length = 32) {k : Nat} (hk : k < 2) :
    (sumsC r0 r1 k).toList.take (k * 32) ++ (arrB 32 (pick2 r0 r1 k)).toList ++ (sumsC r0 r1 k).toList.drop (k * 32 + (arrB 32 (pick2 r0 r1 k)).size) = (sumsC r0 r1 (k + 1)).toList := by
  have l0 := idA_cells h0
  have l1 := idA_cells h1
  have lz := z32_len
  match k, hk with
  | 0, _ =>
    show (arrB 32 [] ++ arrB 32 []).toList.take 0 ++ (arrB 32 r0).toList ++ (arrB 32 [] ++ arrB 32 []).toList.drop (0 * 32 + (arrB 32 r0).size) = (arrB 32 r0 ++ arrB 32 []).toList
    rw [arrB_size 32 r0 (by omega), Array.toList_append, Array.toList_append, List.drop_append_of_le_length (by omega), List.drop_of_length_le (by omega)]
    rfl
  | 1, _ =>
    show (arrB 32 r0 ++ arrB 32 []).toList.take 32 ++ (arrB 32 r1).toList ++ (arrB 32 r0 ++ arrB 32 []).toList.drop (1 * 32 + (arrB 32 r1).size) = (arrB 32 r0 ++ arrB 32 r1).toList
    rw [arrB_size 32 r1 (by omega), Array.toList_append, Array.toList_append, List.take_append_of_le_length (by omega), List.take_of_length_le (by omega), List.drop_of_length_le (by rw [List.length_append]; omega), List.append_nil]
theorem sums_size {r0 r1 : List Int} (h0 : r0.length = 32) (h1 : r1.length = 32) (k : Nat) : (sumsC r0 r1 k).size = 64 := by
  have z := arrB_size 32 [] (by simp)
  have s0 := arrB_size 32 r0 (by omega)
  have s1 := arrB_size 32 r1 (by omega)
  match k with
  | 0 => simp only [sumsC, Array.size_append, z]
  | 1 => simp only [sumsC, Array.size_append, z, s0]
  | _ + 2 => simp only [sumsC, Array.size_append, s0, s1]
/-- an id at a place of a box -/
theorem box_idAt {w0 u : World} {M : Boxes} {g k : Nat} {t : TypeId} {cs : Array Value} {r : List Int} (hr : r.length = 32) (hu : EnvC w0 M u) (hm : (g, Obj.cells cs t (0, 0)) ∈ M) (h : (cs.toList.drop k).take 32 = (arrB 32 r).toList) :
    (loadVar 37 ⟨g, k, none⟩).run Tryd.prog u = .ok (idv r) u := by
  have := box_agg aggId hu hm (arrB 32 r).toList (idA_cells hr) h
  rw [Array.toArray_toList] at this
  exact this
theorem pair_at {A B : Array Value} (hA : A.toList.length = 32) (hB : B.toList.length = 32) : ((A ++ B).toList.drop (0 + 0 * 32)).take 32 = A.toList ∧ ((A ++ B).toList.drop (0 + 1 * 32)).take 32 = B.toList := by
  rw [Array.toList_append]
  refine ⟨?_, ?_⟩
  · rw [List.drop_zero, List.take_append_of_le_length (by omega), List.take_of_length_le (by omega)]
  · rw [show 0 + 1 * 32 = A.toList.length by omega, List.drop_left, List.take_of_length_le (by omega)]
theorem new_ids2 {dst : Option Tmp} {ty : TypeId} {pos : String} {after : Array Edge} {gd : Option (Nat × Bool)} (a : Act) : NewAt Tryd.prog ⟨dst, .alloc 103, ty, pos, after, gd⟩ a (.cells (arrB 32 [] ++ arrB 32 []) 103 (0, 0)) :=
  new_of (z := .agg (arrB 32 [] ++ arrB 32 [])) (n := 64) (by kernel_rfl) a
theorem new_span {dst : Option Tmp} {ty : TypeId} {pos : String} {after : Array Edge} {gd : Option (Nat × Bool)} (a : Act) : NewAt Tryd.prog ⟨dst, .alloc 98, ty, pos, after, gd⟩ a (.cells #[ii 0, ii 0] 98 (0, 0)) :=
  new_of (z := .agg #[ii 0, ii 0]) (n := 2) (by kernel_rfl) a
set_option maxRecDepth 20000 in
set_option maxHeartbeats 4000000 in
theorem root1_any (A : Option Addr) (m c : Nat) (L : List (List Int)) (bl bw bn : Nat) (hL : isIds L) (hm : L.length = m) (hm6 : m ≤ 1000000) : ∀ (n f : Nat) (w : World), 1 ≤ n → f + n ≤ m →
    EnvX w w [(bl, bxL A m c), (bw, bxR bl bw bn), (bn, bxN)] → IdsIn w w.heap.size A L → Tables w →
    Calls Tryd.prog 72 #[.agg (spanC f n).toArray, ptr bl, ptr bw, ptr bn] w fun e w' => e = .returned (idv (rootT ((L.drop f).take n))) ∧ Below w.heap.size w w' := by
  intro n
  induction n using Nat.strongRecOn with
  | _ n ih =>
    intro f w h1 hfm hE hA ht
    have E1 : Hid (EnvX w ((w.alloc (.cells (spanC f n).toArray 98)).alloc (.cells (arrB 32 []) 37)) [(w.heap.size + 1, Obj.cells (arrB 32 []) 37 (0, 0)), (w.heap.size, Obj.cells (spanC f n).toArray 98 (0, 0)), (bl, bxL A m c), (bw, bxR bl bw bn), (bn, bxN)]) := hE.two _ _
    have q1 : Hid (((f + n : Nat) : Int) - (f : Int) = (n : Int) ∧ InI (n : Int)) := by show _ ∧ _; unfold InI; omega
    have HLE : Hid (w.heap.size ≤ w.heap.size + 1) := Nat.le_succ _
    unfold ptr
    by_cases hn1 : n = 1
    · have HB : Hid (decide ((n : Int) = 1) = true) := decide_eq_true (by omega)
      have hlt : f < L.length := by omega
      obtain ⟨ad, rfl, hld⟩ := hA.load hL (i := f) hlt
      have HLD : Hid (∀ u, EnvX w u [] → (loadVar 37 (ad.add (f * 32))).run Tryd.prog u = .ok (idv (L.getD f [])) u) := fun u hu => by
        obtain ⟨ad2, e2, h2⟩ := (hA.up (EnvX.bel hu)).load hL (i := f) hlt
        cases e2
        exact h2
      have HR : Hid (rootT ((L.drop f).take n) = L.getD f []) := by
        show _ = _
        subst hn1
        rw [List.getD_eq_getElem?_getD, List.getElem?_eq_getElem hlt, List.drop_eq_getElem_cons hlt, List.take_succ_cons, List.take_zero, root_one]
        rfl
      have HX := Lib.hid (hL.get hlt).1
      have HFM : Hid (f < m) := by show _ < _; omega
      rw [HR.out]
      generalize L.getD f [] = x at *
      clear ih hE hA ht hld HR hn1
      go_enter Tryd.func72, Tryd.ntmps72
      go_upto_region 1 with (fail)
      rw [zero_cells]
      generalize (w.alloc (.cells (spanC f n).toArray 98)).alloc (.cells (arrB 32 []) 37) = W at *
      refine wp_region_Hx (w0 := w) [0, 1, 2, 3, 4, 5] [(w.heap.size + 1, Obj.cells (arrB 32 []) 37 (0, 0)), (w.heap.size, Obj.cells (spanC f n).toArray 98 (0, 0)), (bl, bxL (some ad) m c), (bw, bxR bl bw bn), (bn, bxN)] rfl E1.out ?_
      refine lexH_phase [0, 1, 2, 3, 4, 5] [] ?_
      have hw1 : EnvX w _ [(w.heap.size + 1, Obj.cells (arrB 32 []) 37 (0, 0)), (w.heap.size, Obj.cells (spanC f n).toArray 98 (0, 0)), (bl, bxL (some ad) m c), (bw, bxR bl bw bn), (bn, bxN)] := E1.out
      have hone := @EnvC.one _ _ _ hw1
      (refine wpG_op rfl rfl rfl ?_; intro K hK; go_big_quiet_op; go_big_quiet_on)
      (refine wpG_val (v := ii (f + n)) rfl rfl (fun u hu => load_any_op u (run_load_one oneInt u (box_cell (k := 1) hu (List.Mem.tail _ (List.Mem.head _)) rfl)) rfl) ?_ hw1; intro K hK; go_big_quiet_op; go_big_quiet_on)
      (refine wpG_op rfl rfl rfl ?_; intro K hK; go_big_quiet_op; go_big_quiet_on)
      (refine wpG_val (v := ii f) rfl rfl (fun u hu => load_any_op u (run_load_one oneInt u (box_cell (k := 0) hu (List.Mem.tail _ (List.Mem.head _)) rfl)) rfl) ?_ hw1; intro K hK; go_big_quiet_op; go_big_quiet_on)
      (refine wpG_val (v := ii n) rfl rfl (fun u hu => sub_op u q1.out.1 q1.out.2 rfl rfl) ?_ hw1; intro K hK; go_big_quiet_op; go_big_quiet_on)
      (refine wpG_val (v := .bool true) rfl rfl (fun u hu => eqlI_op u HB.out rfl rfl) ?_ hw1; intro K hK; go_big_quiet_op; go_big_quiet_on)
      clear hone hw1
      refine wpG_nil ?_
      intro u3 E2'
      have EX2 := Lib.hid E2'
      clear E2'
      go_upto_region 2 with (fail)
      refine wp_region_Hx (w0 := w) [0, 1, 2, 3, 4, 5] [(w.heap.size + 1, Obj.cells (arrB 32 []) 37 (0, 0)), (w.heap.size, Obj.cells (spanC f n).toArray 98 (0, 0)), (bl, bxL (some ad) m c), (bw, bxR bl bw bn), (bn, bxN)] rfl EX2.out ?_
      refine lexH_phase [0, 1, 2, 3, 4] [5] ?_
      have hw4 : EnvX w _ [(w.heap.size + 1, Obj.cells (arrB 32 []) 37 (0, 0)), (w.heap.size, Obj.cells (spanC f n).toArray 98 (0, 0)), (bl, bxL (some ad) m c), (bw, bxR bl bw bn), (bn, bxN)] := EX2.out
      have hone := @EnvC.one _ _ _ hw4
      (refine wpG_val (v := .slice (some ad) m c) rfl rfl (fun u hu => load_any_op u (run_load_one oneIds u (box_cell (k := 0) hu (List.Mem.tail _ (List.Mem.tail _ (List.Mem.head _))) rfl)) rfl) ?_ hw4; intro K hK; go_big_quiet_op; go_big_quiet_on)
      (refine wpG_op rfl rfl rfl ?_; intro K hK; go_big_quiet_op; go_big_quiet_on)
      (refine wpG_val (v := ii f) rfl rfl (fun u hu => load_any_op u (run_load_one oneInt u (box_cell (k := 0) hu (List.Mem.tail _ (List.Mem.head _)) rfl)) rfl) ?_ hw4; intro K hK; go_big_quiet_op; go_big_quiet_on)
      (refine wpG_val (v := .pointer (some (ad.add (f * 32)))) rfl rfl (fun u hu => idxSl_op Tryd.underlying44 aggId.size HFM.out u rfl rfl) ?_ hw4; intro K hK; go_big_quiet_op; go_big_quiet_on)
      (refine wpG_val (v := idv x) rfl rfl (fun u hu => load_any_op u (HLD.out u (EnvX.sub hu (fun _ h => by cases h))) rfl) ?_ hw4; intro K hK; go_big_quiet_op; go_big_quiet_on)
      clear hone hw4
      refine wpG_nil ?_
      refine (hOp_store rfl (w.heap.size + 1) (arrB 32 x) rfl rfl HLE.out 37 ((arrB 32 [])) (List.Mem.head _) (info26 _ (arrB_size _ _ (by rw [HX.out]; omega))) ((arrB_size _ _ (by simp)).trans (arrB_size _ _ (by rw [HX.out]; omega)).symm) (arrB_one _ _) [(w.heap.size + 1, Obj.cells (arrB 32 x) 37 (0, 0))] (List.forall_mem_cons.2 ⟨.inl rfl, (fun _ h => by cases h)⟩) ?_)
      intro he5
      intro u7 E2'
      have EX6 := Lib.hid E2'
      clear E2'
      have hsz : Hid ((arrB 32 x).size = 32) := arrB_size _ _ (by rw [HX.out]; omega)
      have Q0 := Lib.hid (EnvX.box EX6.out _ _ (List.Mem.head _))
      have HBEL := Lib.hid EX6.out.bel
      clear EX6
      unfold idv
      generalize hcn : arrB 32 x = cn at *
      have HCN := Lib.hid hcn
      clear hcn
      go_wp2_with ((with_reducible refine bodyPost_ret (v := .agg cn) ?_ ?_ ?_); (exact results_cell_row (p := 5) (ty := 37) Tryd.results72 _ _ (w.heap.size + 1) 37 cn (0, 0) _ rfl Q0.out Tryd.underlying37 rfl (info26 cn hsz.out)); (rfl))
      first | exact HBEL.out | exact ⟨rfl, HBEL.out⟩ | exact ⟨by unfold idv; rw [HCN.out], HBEL.out⟩
    · have h2 : 2 ≤ n := by omega
      have HB : Hid (decide ((n : Int) = 1) = false) := decide_eq_false (by omega)
      have HCUT := Lib.hid (fun u => cut_any f n u h2 (by omega))
      have HSC := Lib.hid (fun k (hk : k < 2) => side_cut (f := f) h2 hk)
      have HSI := Lib.hid (fun k (hk : k < 2) => side_in (f := f) (m := m) h2 hk hfm)
      have HRID : Hid (∀ k, (sideR L f n k).length = 32 ∧ ∀ x ∈ sideR L f n k, 0 ≤ x ∧ x ≤ 255) := fun k => root_id ((hL.drop _).take _)
      have HCALL : Hid (∀ k, k < 2 → ∀ u, EnvX w u [(bl, bxL A m c), (bw, bxR bl bw bn), (bn, bxN)] → Calls Tryd.prog 72 #[.agg (spanC (sideF f n k) (sideN n k)).toArray, ptr bl, ptr bw, ptr bn] u fun e w' => e = .returned (idv (sideR L f n k)) ∧ Below u.heap.size u w') := fun k hk u hu => by
        obtain ⟨s1, s2, s3⟩ := side_in (f := f) (m := m) h2 hk hfm
        exact ih (sideN n k) s2 (sideF f n k) u s1 s3 ⟨Below.refl _ _, EnvX.box hu⟩ (hA.up (EnvX.bel hu)) (ht.below (EnvX.bel hu))
      have HND : Hid (∀ u, EnvX w u [] → Calls Tryd.prog 48 #[idv (sideR L f n 0), idv (sideR L f n 1)] u fun e w' => e = .returned (idv (rootT ((L.drop f).take n))) ∧ Below u.heap.size u w') := fun u hu => by
        rw [← side_root h2 (by omega)]
        exact node_any _ _ u (HRID.out 0) (HRID.out 1) (ht.below (EnvX.bel hu))
      have HNL : Hid ((rootT ((L.drop f).take n)).length ≤ 32) := by show _ ≤ _; rw [(root_id ((hL.drop _).take _)).1]; omega
      clear ih hE hA ht
      have HST := Lib.hid (fun k (hk : k < 2) => sums_step (HRID.out 0).1 (HRID.out 1).1 hk)
      have HSZ := Lib.hid (sums_size (HRID.out 0).1 (HRID.out 1).1)
      have HPK : Hid (∀ k, k < 2 → sideR L f n k = pick2 (sideR L f n 0) (sideR L f n 1) k) := fun k hk => by
        match k, hk with
        | 0, _ => rfl
        | 1, _ => rfl
      go_enter Tryd.func72, Tryd.ntmps72
      go_upto_region 1 with (fail)
      rw [zero_cells]
      generalize (w.alloc (.cells (spanC f n).toArray 98)).alloc (.cells (arrB 32 []) 37) = W at *
      refine wp_region_Hx (w0 := w) [0, 1, 2, 3, 4, 5] [(w.heap.size + 1, Obj.cells (arrB 32 []) 37 (0, 0)), (w.heap.size, Obj.cells (spanC f n).toArray 98 (0, 0)), (bl, bxL A m c), (bw, bxR bl bw bn), (bn, bxN)] rfl E1.out ?_
      refine lexH_phase [0, 1, 2, 3, 4, 5] [] ?_
      have hw1 : EnvX w _ [(w.heap.size + 1, Obj.cells (arrB 32 []) 37 (0, 0)), (w.heap.size, Obj.cells (spanC f n).toArray 98 (0, 0)), (bl, bxL A m c), (bw, bxR bl bw bn), (bn, bxN)] := E1.out
      have hone := @EnvC.one _ _ _ hw1
      (refine wpG_op rfl rfl rfl ?_; intro K hK; go_big_quiet_op; go_big_quiet_on)
      (refine wpG_val (v := ii (f + n)) rfl rfl (fun u hu => load_any_op u (run_load_one oneInt u (box_cell (k := 1) hu (List.Mem.tail _ (List.Mem.head _)) rfl)) rfl) ?_ hw1; intro K hK; go_big_quiet_op; go_big_quiet_on)
      (refine wpG_op rfl rfl rfl ?_; intro K hK; go_big_quiet_op; go_big_quiet_on)
      (refine wpG_val (v := ii f) rfl rfl (fun u hu => load_any_op u (run_load_one oneInt u (box_cell (k := 0) hu (List.Mem.tail _ (List.Mem.head _)) rfl)) rfl) ?_ hw1; intro K hK; go_big_quiet_op; go_big_quiet_on)
      (refine wpG_val (v := ii n) rfl rfl (fun u hu => sub_op u q1.out.1 q1.out.2 rfl rfl) ?_ hw1; intro K hK; go_big_quiet_op; go_big_quiet_on)
      (refine wpG_val (v := .bool false) rfl rfl (fun u hu => eqlI_op u HB.out rfl rfl) ?_ hw1; intro K hK; go_big_quiet_op; go_big_quiet_on)
      clear hone hw1
      refine wpG_nil ?_
      intro u3 E2'
      have EX2 := Lib.hid E2'
      clear E2'
      go_upto_region 3 with (fail)
      refine wp_region_Hx (w0 := w) [0] [(w.heap.size + 1, Obj.cells (arrB 32 []) 37 (0, 0)), (w.heap.size, Obj.cells (spanC f n).toArray 98 (0, 0)), (bl, bxL A m c), (bw, bxR bl bw bn), (bn, bxN)] rfl EX2.out ?_
      refine (hOp_fresh (R := fun x N => ∃ g, x = .pointer (some ⟨g, 0, none⟩) ∧ N = [(g, Obj.cells (arrB 32 [] ++ arrB 32 []) 103 (0, 0))]) (M0 := [(w.heap.size + 1, Obj.cells (arrB 32 []) 37 (0, 0)), (w.heap.size, Obj.cells (spanC f n).toArray 98 (0, 0)), (bl, bxL A m c), (bw, bxR bl bw bn), (bn, bxN)]) rfl rfl (fun _ h => h) (fun u hu => FAt_new (new_ids2 _) u) ?_)
      rintro x N ⟨gs, rfl, rfl⟩ hf he4; intro K' hK'; go_big_quiet_op; go_big_quiet_on
      have HGS := Lib.hid (hf _ (List.mem_singleton.2 rfl))
      clear hf
      change lexH _ _ _ _ _ _ [(gs, Obj.cells (arrB 32 [] ++ arrB 32 []) 103 (0, 0)), (w.heap.size + 1, Obj.cells (arrB 32 []) 37 (0, 0)), (w.heap.size, Obj.cells (spanC f n).toArray 98 (0, 0)), (bl, bxL A m c), (bw, bxR bl bw bn), (bn, bxN)]
      intro u6 E2'
      have EX5 := Lib.hid E2'
      clear E2'
      go_upto_region 4 with (fail)
      refine wp_region_Hx (w0 := w) [0, 1, 2] [(gs, Obj.cells (arrB 32 [] ++ arrB 32 []) 103 (0, 0)), (w.heap.size + 1, Obj.cells (arrB 32 []) 37 (0, 0)), (w.heap.size, Obj.cells (spanC f n).toArray 98 (0, 0)), (bl, bxL A m c), (bw, bxR bl bw bn), (bn, bxN)] rfl EX5.out ?_
      refine lexH_phase [0, 1, 2] [] ?_
      have hw7 : EnvX w _ [(gs, Obj.cells (arrB 32 [] ++ arrB 32 []) 103 (0, 0)), (w.heap.size + 1, Obj.cells (arrB 32 []) 37 (0, 0)), (w.heap.size, Obj.cells (spanC f n).toArray 98 (0, 0)), (bl, bxL A m c), (bw, bxR bl bw bn), (bn, bxN)] := EX5.out
      have hone := @EnvC.one _ _ _ hw7
      (refine wpG_val (v := .agg (spanC f n).toArray) rfl rfl (fun u hu => load_any_op u (box_agg aggSpan (k := 0) hu (List.Mem.tail _ (List.Mem.tail _ (List.Mem.head _))) (spanC f n) rfl rfl) rfl) ?_ hw7; intro K hK; go_big_quiet_op; go_big_quiet_on)
      (refine wpG_call (f := 73) (args := #[.agg (spanC f n).toArray]) (v := .agg (cutC f n).toArray) rfl rfl rfl Tryd.func73 rfl rfl (fun u hu => HCUT.out u) ?_ hw7; intro K hK; go_big_quiet_op; go_big_quiet_on)
      (refine wpG_op rfl rfl rfl ?_; intro K hK; go_big_quiet_op; go_big_quiet_on)
      clear hone hw7
      refine wpG_nil ?_
      intro u9 E2'
      have EX8 := Lib.hid E2'
      clear E2'
      go_upto_region 5 with (fail)
      have EI : Hid (EnvX w u9 ((gs, Obj.cells (sumsC (sideR L f n 0) (sideR L f n 1) 0) 103 (0, 0)) :: [(w.heap.size + 1, Obj.cells (arrB 32 []) 37 (0, 0)), (w.heap.size, Obj.cells (spanC f n).toArray 98 (0, 0)), (bl, bxL A m c), (bw, bxR bl bw bn), (bn, bxN)])) := EX8
      clear EX8
      go_loopw [22] (fun i u => ∃ k : Nat, k ≤ 2 ∧ i = .int .i64 k ∧ Hid (EnvX w u ((gs, Obj.cells (sumsC (sideR L f n 0) (sideR L f n 1) k) 103 (0, 0)) :: [(w.heap.size + 1, Obj.cells (arrB 32 []) 37 (0, 0)), (w.heap.size, Obj.cells (spanC f n).toArray 98 (0, 0)), (bl, bxL A m c), (bw, bxR bl bw bn), (bn, bxN)]))) (fun i _ => 2 - (intOf i).toNat)
      case atStart => exact ⟨0, by omega, rfl, EI⟩
      case round =>
        obtain ⟨k, hk, rfl, EK⟩ := hrel
        clear EI
        by_cases hlt : k < 2
        · have hk2 : (k : Int) < 2 := by omega
          have HK := Lib.hid hlt
          have HIX := Lib.hid (HSC.out k hlt)
          have HCK := Lib.hid (HCALL.out k hlt)
          have HSTK := Lib.hid (HST.out k hlt)
          rw [← HPK.out k hlt] at HSTK
          have HRK := Lib.hid (HRID.out k).1
          have HSK := Lib.hid (HSZ.out k)
          have HK32 : Hid (k * 32 + 32 ≤ 64) := by show _ ≤ _; omega
          go_upto_region 6 with (fail)
          refine wp_region_Hx (w0 := w) [0, 1, 2, 3, 4] [(gs, Obj.cells (sumsC (sideR L f n 0) (sideR L f n 1) k) 103 (0, 0)), (w.heap.size + 1, Obj.cells (arrB 32 []) 37 (0, 0)), (w.heap.size, Obj.cells (spanC f n).toArray 98 (0, 0)), (bl, bxL A m c), (bw, bxR bl bw bn), (bn, bxN)] rfl EK.out ?_
          refine lexH_phase [0, 1] [2, 3, 4] ?_
          have hw10 : EnvX w _ [(gs, Obj.cells (sumsC (sideR L f n 0) (sideR L f n 1) k) 103 (0, 0)), (w.heap.size + 1, Obj.cells (arrB 32 []) 37 (0, 0)), (w.heap.size, Obj.cells (spanC f n).toArray 98 (0, 0)), (bl, bxL A m c), (bw, bxR bl bw bn), (bn, bxN)] := EK.out
          have hone := @EnvC.one _ _ _ hw10
          (refine wpG_op rfl rfl rfl ?_; intro K hK; go_big_quiet_op; go_big_quiet_on)
          (refine wpG_val (v := .agg (spanC (sideF f n k) (sideN n k)).toArray) rfl rfl (fun u hu => index_op Tryd.underlying99 aggSpan HK.out HIX.out u rfl rfl) ?_ hw10; intro K hK; go_big_quiet_op; go_big_quiet_on)
          clear hone hw10
          refine wpG_nil ?_
          refine (hOp_fresh (R := fun x N => ∃ g, x = .pointer (some ⟨g, 0, none⟩) ∧ N = [(g, Obj.cells #[ii 0, ii 0] 98 (0, 0))]) (M0 := [(gs, Obj.cells (sumsC (sideR L f n 0) (sideR L f n 1) k) 103 (0, 0)), (w.heap.size + 1, Obj.cells (arrB 32 []) 37 (0, 0)), (w.heap.size, Obj.cells (spanC f n).toArray 98 (0, 0)), (bl, bxL A m c), (bw, bxR bl bw bn), (bn, bxN)]) rfl rfl (fun _ h => h) (fun u hu => FAt_new (new_span _) u) ?_)
          rintro x N ⟨g8, rfl, rfl⟩ hf he11; intro K' hK'; go_big_quiet_op; go_big_quiet_on
          have HG8 := Lib.hid (hf _ (List.mem_singleton.2 rfl))
          clear hf
          change lexH _ _ _ _ _ _ [(g8, Obj.cells #[ii 0, ii 0] 98 (0, 0)), (gs, Obj.cells (sumsC (sideR L f n 0) (sideR L f n 1) k) 103 (0, 0)), (w.heap.size + 1, Obj.cells (arrB 32 []) 37 (0, 0)), (w.heap.size, Obj.cells (spanC f n).toArray 98 (0, 0)), (bl, bxL A m c), (bw, bxR bl bw bn), (bn, bxN)]
          refine lexH_phase [3] [4] ?_
          have hw12 : EnvX w _ [(g8, Obj.cells #[ii 0, ii 0] 98 (0, 0)), (gs, Obj.cells (sumsC (sideR L f n 0) (sideR L f n 1) k) 103 (0, 0)), (w.heap.size + 1, Obj.cells (arrB 32 []) 37 (0, 0)), (w.heap.size, Obj.cells (spanC f n).toArray 98 (0, 0)), (bl, bxL A m c), (bw, bxR bl bw bn), (bn, bxN)] := he11.choose_spec
          have hone := @EnvC.one _ _ _ hw12
          (refine wpG_op rfl rfl rfl ?_; intro K hK; go_big_quiet_op; go_big_quiet_on)
          clear hone hw12
          refine wpG_nil ?_
          refine (hOp_store rfl (g8) ((spanC (sideF f n k) (sideN n k)).toArray) rfl rfl HG8.out.1 98 (#[ii 0, ii 0]) (List.Mem.head _) info_span rfl (by kernel_rfl) [(g8, Obj.cells ((spanC (sideF f n k) (sideN n k)).toArray) 98 (0, 0)), (gs, Obj.cells (sumsC (sideR L f n 0) (sideR L f n 1) k) 103 (0, 0)), (w.heap.size + 1, Obj.cells (arrB 32 []) 37 (0, 0)), (w.heap.size, Obj.cells (spanC f n).toArray 98 (0, 0)), (bl, bxL A m c), (bw, bxR bl bw bn), (bn, bxN)] (List.forall_mem_cons.2 ⟨.inl rfl, fun y hy => .inr ⟨List.mem_cons_of_mem _ hy, HG8.out.2 y hy⟩⟩) ?_)
          intro he13
          intro u15 E2'
          have EX14 := Lib.hid E2'
          clear E2'
          go_upto_region 7 with (fail)
          refine wp_region_Hx (w0 := w) [0, 1, 2, 3, 4, 5] [(g8, Obj.cells ((spanC (sideF f n k) (sideN n k)).toArray) 98 (0, 0)), (gs, Obj.cells (sumsC (sideR L f n 0) (sideR L f n 1) k) 103 (0, 0)), (w.heap.size + 1, Obj.cells (arrB 32 []) 37 (0, 0)), (w.heap.size, Obj.cells (spanC f n).toArray 98 (0, 0)), (bl, bxL A m c), (bw, bxR bl bw bn), (bn, bxN)] rfl EX14.out ?_
          refine lexH_phase [0, 1, 2, 3, 4] [5] ?_
          have hw16 : EnvX w _ [(g8, Obj.cells ((spanC (sideF f n k) (sideN n k)).toArray) 98 (0, 0)), (gs, Obj.cells (sumsC (sideR L f n 0) (sideR L f n 1) k) 103 (0, 0)), (w.heap.size + 1, Obj.cells (arrB 32 []) 37 (0, 0)), (w.heap.size, Obj.cells (spanC f n).toArray 98 (0, 0)), (bl, bxL A m c), (bw, bxR bl bw bn), (bn, bxN)] := EX14.out
          have hone := @EnvC.one _ _ _ hw16
          (refine wpG_op rfl rfl rfl ?_; intro K hK; go_big_quiet_op; go_big_quiet_on)
          (refine wpG_val (v := r1V bl bw bn) rfl rfl (fun u hu => load_any_op u (run_load_one oneFnR u (box_cell (k := 0) hu (List.Mem.tail _ (List.Mem.tail _ (List.Mem.tail _ (List.Mem.tail _ (List.Mem.tail _ (List.Mem.head _)))))) rfl)) rfl) ?_ hw16; intro K hK; go_big_quiet_op; go_big_quiet_on)
          (refine wpG_val (v := .agg (spanC (sideF f n k) (sideN n k)).toArray) rfl rfl (fun u hu => load_any_op u (box_agg aggSpan (k := 0) hu (List.Mem.head _) (spanC (sideF f n k) (sideN n k)) rfl rfl) rfl) ?_ hw16; intro K hK; go_big_quiet_op; go_big_quiet_on)
          (refine wpG_callV (f := 72) (args := #[.agg (spanC (sideF f n k) (sideN n k)).toArray]) (caps := #[ptr bl, ptr bw, ptr bn]) (all := #[.agg (spanC (sideF f n k) (sideN n k)).toArray, ptr bl, ptr bw, ptr bn]) (v := idv (sideR L f n k)) rfl rfl rfl rfl rfl Tryd.func72 rfl rfl (fun u hu => HCK.out u (EnvX.sub hu (fun y hy => List.mem_cons_of_mem _ (List.mem_cons_of_mem _ (List.mem_cons_of_mem _ (List.mem_cons_of_mem _ hy)))))) ?_ hw16; intro K hK; go_big_quiet_op; go_big_quiet_on)
          (refine wpG_val (v := .pointer (some ⟨gs, 0 + k * 32, none⟩)) rfl rfl (fun u hu => idxArr_op Tryd.underlying103 aggId.size HK.out u rfl rfl) ?_ hw16; intro K hK; go_big_quiet_op; go_big_quiet_on)
          clear hone hw16
          refine wpG_nil ?_
          refine (hOp_putAt rfl (gs) (0 + k * 32) (idv (sideR L f n k)) rfl rfl HGS.out.1 103 (sumsC (sideR L f n 0) (sideR L f n 1) k) (sumsC (sideR L f n 0) (sideR L f n 1) (k + 1)) (List.Mem.tail _ (List.Mem.head _)) (info26 _ (arrB_size _ _ (by rw [HRK.out]; omega))) (by show 0 + k * 32 + (arrB 32 (sideR L f n k)).size ≤ _; rw [HSK.out, arrB_size _ _ (by rw [HRK.out]; omega)]; have := HK32.out; omega) (arrB_one _ _) (by rw [Nat.zero_add]; exact HSTK.out) [(gs, Obj.cells (sumsC (sideR L f n 0) (sideR L f n 1) (k + 1)) 103 (0, 0)), (w.heap.size + 1, Obj.cells (arrB 32 []) 37 (0, 0)), (w.heap.size, Obj.cells (spanC f n).toArray 98 (0, 0)), (bl, bxL A m c), (bw, bxR bl bw bn), (bn, bxN)] (List.forall_mem_cons.2 ⟨.inl rfl, fun y hy => .inr ⟨List.mem_cons_of_mem _ (List.mem_cons_of_mem _ hy), HGS.out.2 y hy⟩⟩) ?_)
          intro he17
          intro u19 E2'
          have EX18 := Lib.hid E2'
          clear E2'
          go_wp2
          go_roundw
          case rel => exact ⟨k + 1, by omega, by go_num, EX18⟩
          case measure => simp [intOf]; omega
        · obtain rfl : k = 2 := by omega
          have EK2 : Hid (EnvX w wr ((gs, Obj.cells (arrB 32 (sideR L f n 0) ++ arrB 32 (sideR L f n 1)) 103 (0, 0)) :: [(w.heap.size + 1, Obj.cells (arrB 32 []) 37 (0, 0)), (w.heap.size, Obj.cells (spanC f n).toArray 98 (0, 0)), (bl, bxL A m c), (bw, bxR bl bw bn), (bn, bxN)])) := EK
          have HP2 := Lib.hid (pair_at (idA_cells (HRID.out 0).1) (idA_cells (HRID.out 1).1))
          go_upto_region 9 with (fail)
          refine wp_region_Hx (w0 := w) [0, 1, 2, 3, 4, 5, 6] [(gs, Obj.cells (arrB 32 (sideR L f n 0) ++ arrB 32 (sideR L f n 1)) 103 (0, 0)), (w.heap.size + 1, Obj.cells (arrB 32 []) 37 (0, 0)), (w.heap.size, Obj.cells (spanC f n).toArray 98 (0, 0)), (bl, bxL A m c), (bw, bxR bl bw bn), (bn, bxN)] rfl EK2.out ?_
          refine lexH_phase [0, 1, 2, 3, 4, 5] [6] ?_
          have hw20 : EnvX w _ [(gs, Obj.cells (arrB 32 (sideR L f n 0) ++ arrB 32 (sideR L f n 1)) 103 (0, 0)), (w.heap.size + 1, Obj.cells (arrB 32 []) 37 (0, 0)), (w.heap.size, Obj.cells (spanC f n).toArray 98 (0, 0)), (bl, bxL A m c), (bw, bxR bl bw bn), (bn, bxN)] := EK2.out
          have hone := @EnvC.one _ _ _ hw20
          (refine wpG_val (v := ndV) rfl rfl (fun u hu => load_any_op u (run_load_one oneJoin u (box_cell (k := 0) hu (List.Mem.tail _ (List.Mem.tail _ (List.Mem.tail _ (List.Mem.tail _ (List.Mem.tail _ (List.Mem.head _)))))) rfl)) rfl) ?_ hw20; intro K hK; go_big_quiet_op; go_big_quiet_on)
          (refine wpG_val (v := .pointer (some ⟨gs, 0 + 0 * 32, none⟩)) rfl rfl (fun u hu => idxArr_op (i := 0) Tryd.underlying103 aggId.size (by decide) u rfl rfl) ?_ hw20; intro K hK; go_big_quiet_op; go_big_quiet_on)
          (refine wpG_val (v := idv (sideR L f n 0)) rfl rfl (fun u hu => load_any_op u (box_idAt (HRID.out 0).1 hu (List.Mem.head _) HP2.out.1) rfl) ?_ hw20; intro K hK; go_big_quiet_op; go_big_quiet_on)
          (refine wpG_val (v := .pointer (some ⟨gs, 0 + 1 * 32, none⟩)) rfl rfl (fun u hu => idxArr_op (i := 1) Tryd.underlying103 aggId.size (by decide) u rfl rfl) ?_ hw20; intro K hK; go_big_quiet_op; go_big_quiet_on)
          (refine wpG_val (v := idv (sideR L f n 1)) rfl rfl (fun u hu => load_any_op u (box_idAt (HRID.out 1).1 hu (List.Mem.head _) HP2.out.2) rfl) ?_ hw20; intro K hK; go_big_quiet_op; go_big_quiet_on)
          (refine wpG_callV (f := 48) (args := #[idv (sideR L f n 0), idv (sideR L f n 1)]) (caps := #[]) (all := #[idv (sideR L f n 0), idv (sideR L f n 1)]) (v := idv (rootT ((L.drop f).take n))) rfl rfl rfl rfl rfl Tryd.func48 rfl rfl (fun u hu => HND.out u (EnvX.sub hu (fun _ h => by cases h))) ?_ hw20; intro K hK; go_big_quiet_op; go_big_quiet_on)
          clear hone hw20
          refine wpG_nil ?_
          refine (hOp_store rfl (w.heap.size + 1) (arrB 32 (rootT ((L.drop f).take n))) rfl rfl HLE.out 37 ((arrB 32 [])) (List.Mem.tail _ (List.Mem.head _)) (info26 _ (arrB_size _ _ (by exact HNL.out))) ((arrB_size _ _ (by simp)).trans (arrB_size _ _ (by exact HNL.out)).symm) (arrB_one _ _) [(w.heap.size + 1, Obj.cells (arrB 32 (rootT ((L.drop f).take n))) 37 (0, 0))] (List.forall_mem_cons.2 ⟨.inl rfl, (fun _ h => by cases h)⟩) ?_)
          intro he21
          intro u23 E2'
          have EX22 := Lib.hid E2'
          clear E2'
          have hsz : Hid ((arrB 32 (rootT ((L.drop f).take n))).size = 32) := arrB_size _ _ HNL.out
          have Q0 := Lib.hid (EnvX.box EX22.out _ _ (List.Mem.head _))
          have HBEL := Lib.hid EX22.out.bel
          clear EX22
          unfold idv
          generalize hcn : arrB 32 (rootT ((L.drop f).take n)) = cn at *
          have HCN := Lib.hid hcn
          clear hcn
          go_wp2_with ((with_reducible refine bodyPost_ret (v := .agg cn) ?_ ?_ ?_); (exact results_cell_row (p := 5) (ty := 37) Tryd.results72 _ _ (w.heap.size + 1) 37 cn (0, 0) _ rfl Q0.out Tryd.underlying37 rfl (info26 cn hsz.out)); (rfl))
          first | exact HBEL.out | exact ⟨rfl, HBEL.out⟩ | exact ⟨by unfold idv; rw [HCN.out], HBEL.out⟩
end Go.Proofs.YtcodmedgkboohaaDoor

namespace Go.Proofs.YtcodmedgkboohaaDoor
set_option maxRecDepth 8000
open Go.RowKit

section
variable {a : Act} {dst : Option Tmp} {ty : TypeId} {pos : String} {after : Array Edge} {gd : Option (Nat × Bool)}
theorem mkFunc_op {fn : Fn} {caps : Array Operand} {cs : Array Value} (u : World) (h : caps.toList.map a.eval = cs.toList) :
    (execOp a.eval ⟨dst, .makeFunc fn #[] caps, ty, pos, after, gd⟩).run Tryd.prog u = .ok (.value (.func fn #[] cs)) u := by
  have ha : caps.map a.eval = cs := by
    apply Array.ext'
    rw [Array.toList_map]
    exact h
  unfold execOp
  simp only [ha, List.map_toArray, List.map_nil, Instr.makeFunc, Sem.run_bind, Sem.run_pure, Result.andThen_ok]
end
theorem new_fnR {dst : Option Tmp} {ty : TypeId} {pos : String} {after : Array Edge} {gd : Option (Nat × Bool)} (a : Act) : NewAt Tryd.prog ⟨dst, .alloc 114, ty, pos, after, gd⟩ a (.cells #[.nilFunc] 114 (0, 0)) :=
  new_of (z := .nilFunc) (n := 1) (by kernel_rfl) a
theorem info_fnR : (Tryd.prog.info? 114).map (·.size) = some 1 := by kernel_rfl
set_option maxRecDepth 20000 in
set_option maxHeartbeats 4000000 in
theorem rootBy_none (A : Option Addr) (c : Nat) (w : World) (ht : Tables w) :
    Calls Tryd.prog 55 #[ndV, .slice A 0 c] w fun e w' => e = .returned (idv (rootT [])) ∧ Below w.heap.size w w' := by
  rw [root_none]
  obtain ⟨W, hW⟩ : ∃ W, ((((w.alloc (.cells #[ndV] 93)).alloc (.cells #[.slice A 0 c] 44)).alloc (.cells (arrB 32 []) 37)).alloc (.cells #[.int .u8 2] 5)).alloc (.cells #[.slice (some ⟨w.heap.size + 1 + 1 + 1, 0, none⟩) 1 1] 26) = W := ⟨_, rfl⟩
  have r0 : Row W (w.heap.size + 1 + 1) 37 (arrB 32 []) := by rw [← hW]; exact ((Row.newAt (by simp) 37 _).alloc _).alloc _
  have r1 : Row W (w.heap.size + 1 + 1 + 1) 5 #[.int .u8 2] := by rw [← hW]; exact (Row.newAt (by simp) 5 _).alloc _
  have r2 : Row W (w.heap.size + 1 + 1 + 1 + 1) 26 #[.slice (some ⟨w.heap.size + 1 + 1 + 1, 0, none⟩) 1 1] := by rw [← hW]; exact Row.newAt (by simp) 26 _
  have hbW : Below w.heap.size w W := by rw [← hW]; exact (((((Below.refl _ _).alloc (Nat.le_refl _) _).alloc (by simp) _).alloc (by simp; omega) _).alloc (by simp; omega) _).alloc (by simp; omega) _
  have hs : W.heap.size = w.heap.size + 5 := by rw [← hW]; simp
  have hb0 : Bytes W W.heap.size (some ⟨w.heap.size + 1 + 1 + 1, 0, none⟩) [2] := (own_of_row (B := 0) (n := 1) (xs := [2]) r1 rfl (Nat.zero_le _) (by decide)).up
  have hP : Parts W W.heap.size (some ⟨w.heap.size + 1 + 1 + 1 + 1, 0, none⟩) [[2]] := parts_one (c := 1) (by omega) (by rw [r2.cell]; rfl) hb0 (by intro x hx; simp at hx; omega)
  have HOF := Lib.hid (shaof_any (some ⟨w.heap.size + 1 + 1 + 1 + 1, 0, none⟩) 1 1 [[2]] W rfl hP (by omega) (by simp) (ht.below hbW))
  have HE : Hid ([[2]].flatten = ([2] : List Int)) := by show _ = _; simp
  have R0 := Lib.hid r0
  have HB := Lib.hid hbW
  have hz : Hid ((arrB 32 (sumL [2])).size = 32 ∧ (arrB 32 []).size = 32 ∧ (arrB 32 (sumL [2])).all (·.oneCell') = true) := ⟨arrB_size _ _ (by rw [sumL_len]; omega), arrB_size _ _ (by simp), arrB_one _ _⟩
  have HW := Lib.hid hW
  clear r0 r1 r2 hbW hs hb0 hP ht hW
  rw [HE.out] at HOF
  go_enter Tryd.func55, Tryd.ntmps55
  go_upto_region 2 with (fail)
  rw [zero_cells]
  go_wp2_with fail
  have HO2 := HOF.out
  rw [← HW.out] at HO2
  refine HO2.mono ?_
  rintro e w2 ⟨rfl, hb2⟩
  rw [HW.out] at hb2
  clear HO2
  have Q0 : Hid (w2.heap[w.heap.size + 1 + 1]? = some (.cells (arrB 32 []) 37 (0, 0))) := R0.out.below hb2 R0.out.lt
  have HB2 := Lib.hid (HB.out.trans (hb2.mono HB.out.size))
  clear hb2 HOF R0 HB
  generalize hcn : arrB 32 (sumL [2]) = cn at *
  have HCN := Lib.hid hcn
  clear hcn
  generalize arrB 32 [] = zs at *
  go_wp2_with (first
    | ((with_reducible refine wpList_store_row (o := ⟨none, .store 37 _ _, _, _, _, _⟩) ?_ 37 (.tmp 4) (.tmp 11) ?_ (w.heap.size + 1 + 1) cn ?_ ?_ 37 zs Q0.out (info26 cn hz.out.1) (by rw [hz.out.1, hz.out.2.1]) hz.out.2.2 ?_); (rfl); (rfl); (rfl); (rfl))
    | ((with_reducible refine bodyPost_ret (v := .agg cn) ?_ ?_ ?_); (exact results_cell_row (p := 4) (ty := 37) Tryd.results55 _ _ (w.heap.size + 1 + 1) 37 cn (0, 0) _ rfl (setRow_heap _ _ zs cn 37 (0, 0) Q0.out) Tryd.underlying37 rfl (info26 cn hz.out.1)); (rfl)))
  exact ⟨by unfold idv; rw [HCN.out], below_setRow HB2.out (by omega) _⟩
set_option maxRecDepth 20000 in
set_option maxHeartbeats 4000000 in
theorem rootBy_some (l : List (List Int)) (A : Option Addr) (n c : Nat) (w : World) (hl : l.length = n) (hn : n ≤ 1000000) (hp : 1 ≤ n) (hI : isIds l) (hA : IdsIn w w.heap.size A l) (ht : Tables w) :
    Calls Tryd.prog 55 #[ndV, .slice A n c] w fun e w' => e = .returned (idv (rootT l)) ∧ Below w.heap.size w w' := by
  have HNZ : Hid (decide ((n : Int) = 0) = false) := decide_eq_false (by omega)
  have HN : Hid (n < 9223372036854775808) := by show _ < _; omega
  have HR1 : Hid (∀ u bl bw bn, EnvX w u [(bw, bxR bl bw bn), (bn, bxN), (bl, bxL A n c)] → Calls Tryd.prog 72 #[.agg #[ii 0, ii n], ptr bl, ptr bw, ptr bn] u fun e w' => e = .returned (idv (rootT l)) ∧ Below u.heap.size u w') := fun u bl bw bn hu => by
    have h := root1_any A n c l bl bw bn hI hl hn n 0 u hp (by omega) ⟨Below.refl _ _, fun g o hm => by
      rcases List.mem_cons.1 hm with e | hm
      · cases e; exact EnvX.box hu _ _ (List.Mem.tail _ (List.Mem.tail _ (List.Mem.head _)))
      rcases List.mem_cons.1 hm with e | hm
      · cases e; exact EnvX.box hu _ _ (List.Mem.head _)
      · cases List.mem_singleton.1 hm; exact EnvX.box hu _ _ (List.Mem.tail _ (List.Mem.head _))⟩ (hA.up (EnvX.bel hu)) (ht.below (EnvX.bel hu))
    have e : spanC 0 n = [ii 0, ii n] := by unfold spanC; rw [Nat.zero_add]
    rw [e, List.drop_zero, List.take_of_length_le (by omega)] at h
    exact h
  have HNL : Hid ((rootT l).length ≤ 32) := by show _ ≤ _; rw [(root_id hI).1]; omega
  have HLE : Hid (w.heap.size ≤ w.heap.size + 1 + 1) := by show _ ≤ _; omega
  have E1 : Hid (EnvX w (((w.alloc (.cells #[ndV] 93)).alloc (.cells #[.slice A n c] 44)).alloc (.cells (arrB 32 []) 37)) [(w.heap.size + 1 + 1, Obj.cells (arrB 32 []) 37 (0, 0)), (w.heap.size + 1, bxL A n c), (w.heap.size, bxN)]) := by
    have h := ((EnvX.start w).two bxN (bxL A n c)).new (Obj.cells (arrB 32 []) 37 (0, 0))
    have hs : ((w.alloc bxN).alloc (bxL A n c)).heap.size = w.heap.size + 1 + 1 := by simp
    rw [hs] at h
    exact h
  clear hI hA ht
  go_enter Tryd.func55, Tryd.ntmps55
  go_upto_region 1 with (fail)
  rw [zero_cells]
  change Code.wp _ _ _ _ (((w.alloc (.cells #[ndV] 93)).alloc (.cells #[.slice A n c] 44)).alloc (.cells (arrB 32 []) 37))
  generalize ((w.alloc (.cells #[ndV] 93)).alloc (.cells #[.slice A n c] 44)).alloc (.cells (arrB 32 []) 37) = W at *
  refine wp_region_Hx (w0 := w) [0, 1, 2] [(w.heap.size + 1 + 1, Obj.cells (arrB 32 []) 37 (0, 0)), (w.heap.size + 1, bxL A n c), (w.heap.size, bxN)] rfl E1.out ?_
  refine lexH_phase [0, 1, 2] [] ?_
  have hw1 : EnvX w _ [(w.heap.size + 1 + 1, Obj.cells (arrB 32 []) 37 (0, 0)), (w.heap.size + 1, bxL A n c), (w.heap.size, bxN)] := E1.out
  have hone := @EnvC.one _ _ _ hw1
  (refine wpG_val (v := .slice A n c) rfl rfl (fun u hu => load_any_op u (run_load_one oneIds u (box_cell (k := 0) hu (List.Mem.tail _ (List.Mem.head _)) rfl)) rfl) ?_ hw1; intro K hK; go_big_quiet_op; go_big_quiet_on)
  (refine wpG_val (v := ii n) rfl rfl (fun u hu => len_op Tryd.underlying44 HN.out u rfl) ?_ hw1; intro K hK; go_big_quiet_op; go_big_quiet_on)
  (refine wpG_val (v := .bool false) rfl rfl (fun u hu => eqlI_op u HNZ.out rfl rfl) ?_ hw1; intro K hK; go_big_quiet_op; go_big_quiet_on)
  clear hone hw1
  refine wpG_nil ?_
  intro u3 E2'
  have EX2 := Lib.hid E2'
  clear E2'
  go_upto_region 3 with (fail)
  refine wp_region_Hx (w0 := w) [0] [(w.heap.size + 1 + 1, Obj.cells (arrB 32 []) 37 (0, 0)), (w.heap.size + 1, bxL A n c), (w.heap.size, bxN)] rfl EX2.out ?_
  refine (hOp_fresh (R := fun x N => ∃ g, x = .pointer (some ⟨g, 0, none⟩) ∧ N = [(g, Obj.cells #[.nilFunc] 114 (0, 0))]) (M0 := [(w.heap.size + 1 + 1, Obj.cells (arrB 32 []) 37 (0, 0)), (w.heap.size + 1, bxL A n c), (w.heap.size, bxN)]) rfl rfl (fun _ h => h) (fun u hu => FAt_new (new_fnR _) u) ?_)
  rintro x N ⟨bw, rfl, rfl⟩ hf he4; intro K' hK'; go_big_quiet_op; go_big_quiet_on
  have HGW := Lib.hid (hf _ (List.mem_singleton.2 rfl))
  clear hf
  change lexH _ _ _ _ _ _ [(bw, Obj.cells #[.nilFunc] 114 (0, 0)), (w.heap.size + 1 + 1, Obj.cells (arrB 32 []) 37 (0, 0)), (w.heap.size + 1, bxL A n c), (w.heap.size, bxN)]
  intro u6 E2'
  have EX5 := Lib.hid E2'
  clear E2'
  go_upto_region 4 with (fail)
  refine wp_region_Hx (w0 := w) [0, 1] [(bw, Obj.cells #[.nilFunc] 114 (0, 0)), (w.heap.size + 1 + 1, Obj.cells (arrB 32 []) 37 (0, 0)), (w.heap.size + 1, bxL A n c), (w.heap.size, bxN)] rfl EX5.out ?_
  refine lexH_phase [0] [1] ?_
  have hw7 : EnvX w _ [(bw, Obj.cells #[.nilFunc] 114 (0, 0)), (w.heap.size + 1 + 1, Obj.cells (arrB 32 []) 37 (0, 0)), (w.heap.size + 1, bxL A n c), (w.heap.size, bxN)] := EX5.out
  have hone := @EnvC.one _ _ _ hw7
  (refine wpG_val (v := r1V (w.heap.size + 1) bw w.heap.size) rfl rfl (fun u hu => mkFunc_op u rfl) ?_ hw7; intro K hK; go_big_quiet_op; go_big_quiet_on)
  clear hone hw7
  refine wpG_nil ?_
  refine (hOp_putAt rfl (bw) (0) (r1V (w.heap.size + 1) bw w.heap.size) rfl rfl HGW.out.1 114 (#[.nilFunc]) (#[r1V (w.heap.size + 1) bw w.heap.size]) (List.Mem.head _) info_fnR (Nat.le_refl 1) (by kernel_rfl) rfl [(bw, Obj.cells (#[r1V (w.heap.size + 1) bw w.heap.size]) 114 (0, 0)), (w.heap.size + 1 + 1, Obj.cells (arrB 32 []) 37 (0, 0)), (w.heap.size + 1, bxL A n c), (w.heap.size, bxN)] (List.forall_mem_cons.2 ⟨.inl rfl, fun y hy => .inr ⟨List.mem_cons_of_mem _ hy, HGW.out.2 y hy⟩⟩) ?_)
  intro he8
  intro u10 E2'
  have EX9 := Lib.hid E2'
  clear E2'
  go_upto_region 5 with (fail)
  refine wp_region_Hx (w0 := w) [0, 1, 2, 3, 4, 5] [(bw, bxR (w.heap.size + 1) bw w.heap.size), (w.heap.size + 1 + 1, Obj.cells (arrB 32 []) 37 (0, 0)), (w.heap.size + 1, bxL A n c), (w.heap.size, bxN)] rfl EX9.out ?_
  refine lexH_phase [0, 1, 2, 3, 4] [5] ?_
  have hw11 : EnvX w _ [(bw, bxR (w.heap.size + 1) bw w.heap.size), (w.heap.size + 1 + 1, Obj.cells (arrB 32 []) 37 (0, 0)), (w.heap.size + 1, bxL A n c), (w.heap.size, bxN)] := EX9.out
  have hone := @EnvC.one _ _ _ hw11
  (refine wpG_val (v := r1V (w.heap.size + 1) bw w.heap.size) rfl rfl (fun u hu => load_any_op u (run_load_one oneFnR u (box_cell (k := 0) hu (List.Mem.head _) rfl)) rfl) ?_ hw11; intro K hK; go_big_quiet_op; go_big_quiet_on)
  (refine wpG_val (v := .slice A n c) rfl rfl (fun u hu => load_any_op u (run_load_one oneIds u (box_cell (k := 0) hu (List.Mem.tail _ (List.Mem.tail _ (List.Mem.head _))) rfl)) rfl) ?_ hw11; intro K hK; go_big_quiet_op; go_big_quiet_on)
  (refine wpG_val (v := ii n) rfl rfl (fun u hu => len_op Tryd.underlying44 HN.out u rfl) ?_ hw11; intro K hK; go_big_quiet_op; go_big_quiet_on)
  (refine wpG_val (v := .agg #[ii 0, ii n]) rfl rfl (fun u hu => buildA_op u (by kernel_rfl)) ?_ hw11; intro K hK; go_big_quiet_op; go_big_quiet_on)
  (refine wpG_callV (f := 72) (args := #[.agg #[ii 0, ii n]]) (caps := #[ptr (w.heap.size + 1), ptr bw, ptr w.heap.size]) (all := #[.agg #[ii 0, ii n], ptr (w.heap.size + 1), ptr bw, ptr w.heap.size]) (v := idv (rootT l)) rfl rfl rfl rfl rfl Tryd.func72 rfl rfl (fun u hu => HR1.out u _ _ _ (EnvX.sub hu (List.forall_mem_cons.2 ⟨List.Mem.head _, List.forall_mem_cons.2 ⟨(List.Mem.tail _ (List.Mem.tail _ (List.Mem.tail _ (List.Mem.head _)))), List.forall_mem_cons.2 ⟨(List.Mem.tail _ (List.Mem.tail _ (List.Mem.head _))), (fun _ h => by cases h)⟩⟩⟩))) ?_ hw11; intro K hK; go_big_quiet_op; go_big_quiet_on)
  clear hone hw11
  refine wpG_nil ?_
  refine (hOp_store rfl (w.heap.size + 1 + 1) (arrB 32 (rootT l)) rfl rfl HLE.out 37 ((arrB 32 [])) (List.Mem.tail _ (List.Mem.head _)) (info26 _ (arrB_size _ _ (by exact HNL.out))) ((arrB_size _ _ (by simp)).trans (arrB_size _ _ (by exact HNL.out)).symm) (arrB_one _ _) [(w.heap.size + 1 + 1, Obj.cells (arrB 32 (rootT l)) 37 (0, 0))] (List.forall_mem_cons.2 ⟨.inl rfl, (fun _ h => by cases h)⟩) ?_)
  intro he12
  intro u14 E2'
  have EX13 := Lib.hid E2'
  clear E2'
  have hsz : Hid ((arrB 32 (rootT l)).size = 32) := arrB_size _ _ HNL.out
  have Q0 := Lib.hid (EnvX.box EX13.out _ _ (List.Mem.head _))
  have HBEL := Lib.hid EX13.out.bel
  clear EX13
  unfold idv
  generalize hcn : arrB 32 (rootT l) = cn at *
  have HCN := Lib.hid hcn
  clear hcn
  go_wp2_with ((with_reducible refine bodyPost_ret (v := .agg cn) ?_ ?_ ?_); (exact results_cell_row (p := 4) (ty := 37) Tryd.results55 _ _ (w.heap.size + 1 + 1) 37 cn (0, 0) _ rfl Q0.out Tryd.underlying37 rfl (info26 cn hsz.out)); (rfl))
  first | exact HBEL.out | exact ⟨rfl, HBEL.out⟩ | exact ⟨by unfold idv; rw [HCN.out], HBEL.out⟩
theorem rootBy_any (l : List (List Int)) (A : Option Addr) (n c : Nat) (w : World) (hl : l.length = n) (hn : n ≤ 1000000) (hI : isIds l) (hA : IdsIn w w.heap.size A l) (ht : Tables w) :
    Calls Tryd.prog 55 #[ndV, .slice A n c] w fun e w' => e = .returned (idv (rootT l)) ∧ Below w.heap.size w w' := by
  by_cases h0 : n = 0
  · subst h0
    obtain rfl := List.eq_nil_of_length_eq_zero hl
    exact rootBy_none A c w ht
  · exact rootBy_some l A n c w hl hn (by omega) hI hA ht
set_option maxRecDepth 20000 in
set_option maxHeartbeats 4000000 in
theorem root_any (l : List (List Int)) (A : Option Addr) (n c : Nat) (w : World) (hl : l.length = n) (hn : n ≤ 1000000) (hI : isIds l) (hA : IdsIn w w.heap.size A l) (ht : Tables w) :
    Calls Tryd.prog 41 #[.slice A n c] w fun e w' => e = .returned (idv (rootT l)) ∧ Below w.heap.size w w' := by
  have HC : Hid (∀ u, EnvX w u [] → Calls Tryd.prog 55 #[ndV, .slice A n c] u fun e w' => e = .returned (idv (rootT l)) ∧ Below u.heap.size u w') := fun u hu => rootBy_any l A n c u hl hn hI (hA.up (EnvX.bel hu)) (ht.below (EnvX.bel hu))
  have HNL : Hid ((rootT l).length ≤ 32) := by show _ ≤ _; rw [(root_id hI).1]; omega
  have E1 : Hid (EnvX w (w.alloc (.cells (arrB 32 []) 37)) [(w.heap.size, Obj.cells (arrB 32 []) 37 (0, 0))]) := (EnvX.start w).new _
  clear hI hA ht
  go_enter Tryd.func41, Tryd.ntmps41
  go_upto_region 1 with (fail)
  rw [zero_cells]
  generalize w.alloc (.cells (arrB 32 []) 37) = W at *
  refine wp_region_Hx (w0 := w) [0, 1, 2] [(w.heap.size, Obj.cells (arrB 32 []) 37 (0, 0))] rfl E1.out ?_
  refine lexH_phase [0, 1] [2] ?_
  have hw1 : EnvX w _ [(w.heap.size, Obj.cells (arrB 32 []) 37 (0, 0))] := E1.out
  have hone := @EnvC.one _ _ _ hw1
  (refine wpG_op rfl rfl rfl ?_; intro K hK; go_big_quiet_op; go_big_quiet_on)
  (refine wpG_call (f := 55) (args := #[ndV, .slice A n c]) (v := idv (rootT l)) rfl rfl rfl Tryd.func55 rfl rfl (fun u hu => HC.out u (EnvX.sub hu (fun _ h => by cases h))) ?_ hw1; intro K hK; go_big_quiet_op; go_big_quiet_on)
  clear hone hw1
  refine wpG_nil ?_
  refine (hOp_store rfl (w.heap.size) (arrB 32 (rootT l)) rfl rfl (Nat.le_refl _) 37 ((arrB 32 [])) (List.Mem.head _) (info26 _ (arrB_size _ _ (by exact HNL.out))) ((arrB_size _ _ (by simp)).trans (arrB_size _ _ (by exact HNL.out)).symm) (arrB_one _ _) [(w.heap.size, Obj.cells (arrB 32 (rootT l)) 37 (0, 0))] (List.forall_mem_cons.2 ⟨.inl rfl, (fun _ h => by cases h)⟩) ?_)
  intro he2
  intro u4 E2'
  have EX3 := Lib.hid E2'
  clear E2'
  have hsz : Hid ((arrB 32 (rootT l)).size = 32) := arrB_size _ _ HNL.out
  have Q0 := Lib.hid (EnvX.box EX3.out _ _ (List.Mem.head _))
  have HBEL := Lib.hid EX3.out.bel
  clear EX3
  unfold idv
  generalize hcn : arrB 32 (rootT l) = cn at *
  have HCN := Lib.hid hcn
  clear hcn
  go_wp2_with ((with_reducible refine bodyPost_ret (v := .agg cn) ?_ ?_ ?_); (exact results_cell_row (p := 2) (ty := 37) Tryd.results41 _ _ w.heap.size 37 cn (0, 0) _ rfl Q0.out Tryd.underlying37 rfl (info26 cn hsz.out)); (rfl))
  first | exact HBEL.out | exact ⟨rfl, HBEL.out⟩ | exact ⟨by unfold idv; rw [HCN.out], HBEL.out⟩
end Go.Proofs.YtcodmedgkboohaaDoor

namespace Go.Proofs.YtcodmedgkboohaaDoor
set_option maxRecDepth 8000
open Go.RowKit

theorem elIdM : ElemT 44 37 32 32 (.agg (arrB 32 [])) := ⟨Tryd.underlying44, by kernel_rfl, arrB_size _ _ (by simp), by decide, by decide, by decide⟩
section
variable {a : Act} {dst : Option Tmp} {x y : Operand} {ty : TypeId} {pos : String} {after : Array Edge} {gd : Option (Nat × Bool)}
/-- make([]api.Id, 0, n) -/
theorem FAt_makeI {n : Nat} (hn : n ≤ 1000000) (hx : a.eval x = .int .i64 (n : Int)) (u : World) :
    FAt Tryd.prog ⟨dst, .makeSlice 44 (.const (.int .i64 0)) x, ty, pos, after, gd⟩ a (fun v N => ∃ g cur, v = .slice (some ⟨g, 0, none⟩) 0 n ∧ N = [(g, Obj.cells cur 37 (0, 0))] ∧ cur.size = n * 32) u := by
  have T := elIdM
  cases hq : Tryd.prog.info? 37 with
  | none => have := T.info; rw [hq] at this; cases this
  | some i =>
    have hi := T.info
    rw [hq] at hi
    simp only [Option.map_some, Option.some.injEq, Prod.mk.injEq] at hi
    obtain ⟨k1, k2, k3⟩ := hi
    have hmul : 32 * n ≤ 32 * 1000000 := Nat.mul_le_mul (Nat.le_refl _) hn
    have hr := run_make (P := Tryd.prog) u 44 37 i (.agg (arrB 32 [])) T.und hq k1 .i64 .i64 0 (n : Int) (by omega) (by omega) (by rw [k3, ← Int.natCast_mul]; omega) (by omega)
    have ha0 : a.eval (.const (.int .i64 0)) = .int .i64 0 := rfl
    unfold FAt execOp
    simp only [hx, ha0, Sem.run_bind, Sem.run_pure, hr, Result.andThen_ok]
    refine ⟨(Below.refl _ _).alloc (Nat.le_refl _) _, [(u.heap.size, Obj.cells (madeCells (Value.agg (arrB 32 [])).cells ((n : Int).toNat * i.size)) 37 (0, 0))], ⟨u.heap.size, madeCells (Value.agg (arrB 32 [])).cells ((n : Int).toNat * i.size), rfl, rfl, ?_⟩, fun y hy => ?_⟩
    · rw [size_madeCells, k2]
      simp
    · cases List.mem_singleton.1 hy
      exact ⟨Nat.le_refl _, heap_alloc_new u _⟩
end
end Go.Proofs.YtcodmedgkboohaaDoor
