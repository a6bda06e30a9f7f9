/- The reference's Of and Leaf. -/
import Derived.Test.YtgiacilkecoenaaDoorCl
namespace Go.Proofs.YtgiacilkecoenaaDoor
open Go.RowKit

set_option maxRecDepth 20000 in
set_option maxHeartbeats 1000000 in
theorem rof_any (A : Option Addr) (n c : Nat) (xss : List (List Int)) (w : World) (hl : xss.length = n) (hx : Parts w w.heap.size A xss) (hn : n ≤ 9223372036854775807) (hs : xss.flatten.length ≤ 70368744177) :
    Calls Tryd.prog 30 #[.slice A n c] w fun e w' => e = .returned (.agg (arrB 32 (sumL xss.flatten))) ∧ Below w.heap.size w w' := by
  have HL := Lib.hid hl
  have HX := Lib.hid hx
  clear hl hx
  go_enter Tryd.func30, Tryd.ntmps30
  go_wp2_with fail
  go_loopw [3, 4] (fun v i u => ∃ k : Nat, k ≤ n ∧ i = .int .i64 k ∧ Below w.heap.size w u ∧ Hid (Row u w.heap.size 29 (arrB 32 []) ∧ u.ownsRow (w.heap.size + 1) 5 1 v (xss.take k).flatten.length ((xss.take k).flatten.map u8v))) (fun _ i _ => n - (intOf i).toNat)
  case atStart => exact ⟨0, by omega, rfl, by go_grown, Row.new w 29 _, World.ownsRow_nil _ _ _ _⟩
  case round =>
    obtain ⟨k, hk, rfl, hbl, hrows⟩ := hrel
    obtain ⟨r0, hown⟩ := hrows.out
    have s0 := r0.lt
    by_cases hlt : k < n
    · have hg := List.getElem?_eq_getElem (by rw [HL.out]; exact hlt : k < xss.length)
      have hst := Lib.hid (flat_step xss k _ hg)
      obtain ⟨b, o, a, c1, rfl, hb, hc, hy, hr⟩ := HX.out k _ hg
      have hle : (xss.take k).flatten.length + (xss[k]'(by rw [HL.out]; exact hlt)).length ≤ xss.flatten.length := by
        have e := congrArg List.length hst.out
        rw [List.length_append] at e
        have h2 : (xss.take (k + 1)).flatten.length ≤ xss.flatten.length := by
          conv => rhs; rw [← List.take_append_drop (k + 1) xss, List.flatten_append, List.length_append]
          omega
        omega
      generalize xss[k]'(by rw [HL.out]; exact hlt) = ys at *
      obtain ⟨v', w', hrun, hown', hgr⟩ := append_bytes _ _ _ _ wr hown a ys.length c1 w.heap.size ys rfl (hy.below hbl) (by omega) (by omega)
      have hcell := (hbl.cell (p := ⟨b, o + k, none⟩) hb).trans hc
      have hb2 := below_of_grown (B := w.heap.size + 1) hgr (fun g hg => (hown.lt g hg).1) (by omega)
      have R0 := Lib.hid (r0.below hb2 (by omega))
      have BB := Lib.hid (hbl.trans (hb2.mono (by omega)))
      have OO := Lib.hid hown'
      clear r0 hown hrows hg hc hy hr hgr hb2 hown' hle
      have hk2 : (k : Int) < (n : Int) := by omega
      have HRUN := Lib.hid hrun
      clear hrun
      go_wp2_with (at_builtin; (with_reducible refine wpList_append_run (o := ⟨some 16, _, _, _, _, _⟩) ?_ (.tmp 11) (.tmp 15) ?_ ?_ ?_ ?_ HRUN.out ?_); (rfl); (rfl); (rfl); (rfl); (rfl))
      go_roundw
      case rel =>
        refine ⟨k + 1, by omega, by go_num, BB.out, R0.out, ?_⟩
        rw [hst.out, List.length_append, List.map_append]
        exact OO.out
      case measure => simp [intOf]; omega
    · obtain rfl : k = n := by omega
      have hT : xss.take k = xss := List.take_of_length_le (by rw [HL.out]; exact Nat.le_refl _)
      rw [hT] at hown
      obtain ⟨A1, c1, rfl⟩ := own_form hown
      have hr : ∀ x ∈ xss.flatten, 0 ≤ x ∧ x ≤ 255 := by
        intro x hx
        obtain ⟨l, hl, hxl⟩ := List.mem_flatten.1 hx
        obtain ⟨j, hj, rfl⟩ := List.getElem_of_mem hl
        obtain ⟨_, _, _, _, _, _, _, _, hr⟩ := HX.out j _ (List.getElem?_eq_getElem hj)
        exact hr x hxl
      have hby := own_bytes hown
      have R0 := Lib.hid r0
      clear hown r0 hrows hT
      have HRR := Lib.hid hr
      have HBY := Lib.hid hby
      clear hr hby
      generalize hFL : xss.flatten = fl at *
      have HFL := Lib.hid hFL
      clear hFL
      obtain ⟨q, hq⟩ : ∃ q, fl.length = q := ⟨_, rfl⟩
      rw [hq]
      have HQ := Lib.hid hq
      have hs2 : q ≤ 70368744177 := by omega
      clear hq
      go_wp2_with fail
      refine (rsum_any A1 q c1 fl wr HQ.out hs2 HBY.out HRR.out).mono ?_
      rintro e w3 ⟨rfl, hb3⟩
      have hsz : Hid ((arrB 32 (sumL fl)).size = 32 ∧ (arrB 32 []).size = (arrB 32 (sumL fl)).size ∧ (arrB 32 (sumL fl)).all (·.oneCell') = true) :=
        Lib.hid ⟨arrB_size _ _ (by rw [sumL_len]; omega), by rw [arrB_size 32 (sumL fl) (by rw [sumL_len]; omega), arrB_size 32 [] (by simp)], arrB_one _ _⟩
      have Q0 : Hid (w3.heap[w.heap.size]? = some (.cells (arrB 32 []) 29 (0, 0))) := R0.out.below hb3 R0.out.lt
      have bl3 : Below w.heap.size w w3 := hbl.trans (hb3.mono hbl.size)
      clear hb3 R0
      generalize hE : arrB 32 (sumL fl) = cs at *
      have HE := Lib.hid hE
      clear hE
      generalize arrB 32 [] = zs at *
      go_wp2_with (first
        | ((with_reducible refine wpList_store_row (o := ⟨none, .store 29 _ _, _, _, _, _⟩) ?_ 29 (.tmp 2) (.tmp 18) ?_ w.heap.size cs ?_ ?_ 29 zs Q0.out (info26 cs hsz.out.1) hsz.out.2.1 hsz.out.2.2 ?_); (rfl); (rfl); (rfl); (rfl))
        | ((with_reducible refine bodyPost_ret (v := .agg cs) ?_ ?_ ?_); (exact results_cell_row (p := 2) (ty := 29) Tryd.results30 _ _ w.heap.size 29 cs (0, 0) _ rfl (setRow_heap _ _ zs cs 29 (0, 0) Q0.out) Tryd.underlying29 rfl (info26 cs hsz.out.1)); (rfl)))
      exact ⟨by rw [HFL.out, HE.out], below_setRow bl3 (Nat.le_refl _) _⟩
set_option maxRecDepth 20000 in
set_option maxHeartbeats 1000000 in
theorem rleaf_any (A : Option Addr) (n c : Nat) (xs : List Int) (w : World) (hl : xs.length = n) (hn : n ≤ 1000000) (hx : Bytes w w.heap.size A xs) (hr : ∀ x ∈ xs, 0 ≤ x ∧ x ≤ 255) :
    Calls Tryd.prog 16 #[.slice A n c] w fun e w' => e = .returned (idv (leafT xs)) ∧ Below w.heap.size w w' := by
  subst hl
  obtain ⟨W, hW⟩ : ∃ W, ((w.alloc (.cells (arrB 32 []) 29)).alloc (.cells #[.int .u8 0] 5)).alloc (.cells #[.slice (some ⟨w.heap.size + 1, 0, none⟩) 1 1, .slice A xs.length c] 23) = W := ⟨_, rfl⟩
  have r0 : Row W w.heap.size 29 (arrB 32 []) := by rw [← hW]; exact ((Row.new w 29 _).alloc _).alloc _
  have r1 : Row W (w.heap.size + 1) 5 #[.int .u8 0] := by rw [← hW]; exact (Row.newAt (by simp) 5 _).alloc _
  have r2 : Row W (w.heap.size + 1 + 1) 23 #[.slice (some ⟨w.heap.size + 1, 0, none⟩) 1 1, .slice A xs.length c] := by rw [← hW]; exact Row.newAt (by simp) 23 _
  have hbW : Below w.heap.size w W := by rw [← hW]; exact (((Below.refl _ _).alloc (Nat.le_refl _) _).alloc (by simp) _).alloc (by simp; omega) _
  have hs : W.heap.size = w.heap.size + 3 := by rw [← hW]; simp
  have hb0 : Bytes W W.heap.size (some ⟨w.heap.size + 1, 0, none⟩) [0] := (own_of_row (B := 0) (n := 1) (xs := [0]) r1 rfl (Nat.zero_le _) (by decide)).up
  have hP : Parts W W.heap.size (some ⟨w.heap.size + 1 + 1, 0, none⟩) [[0], xs] := parts_two (c := 1) (c' := c) (by omega) (by rw [r2.cell]; rfl) hb0 (by intro x hx; simp at hx; omega) (by rw [r2.cell]; rfl) (hx.up hbW) hr
  have HOF := Lib.hid (rof_any (some ⟨w.heap.size + 1 + 1, 0, none⟩) 2 2 [[0], xs] W rfl hP (by omega) (by simp; omega))
  have HE : Hid ([[0], xs].flatten = 0 :: xs) := by show _ = _; simp
  have R0 := Lib.hid r0
  have HB := Lib.hid hbW
  have hz : Hid ((arrB 32 (leafT xs)).size = 32 ∧ (arrB 32 []).size = 32 ∧ (arrB 32 (leafT xs)).all (·.oneCell') = true) := ⟨arrB_size _ _ (by unfold leafT; rw [sumL_len]; omega), arrB_size _ _ (by simp), arrB_one _ _⟩
  have HW := Lib.hid hW
  clear r0 r1 r2 hbW hs hb0 hP hx hr hW
  rw [HE.out] at HOF
  go_enter Tryd.func16, Tryd.ntmps16
  go_upto_region 1 with (fail)
  rw [zero_cells]
  have hW := HW.out
  go_wp2_with fail
  clear hW
  refine HOF.out.mono ?_
  rintro e w2 ⟨rfl, hb2⟩
  have Q0 : Hid (w2.heap[w.heap.size]? = some (.cells (arrB 32 []) 29 (0, 0))) := R0.out.below hb2 R0.out.lt
  have HB2 := Lib.hid (HB.out.trans (hb2.mono HB.out.size))
  clear hb2 HOF R0 HB
  change Hid ((arrB 32 (sumL (0 :: xs))).size = 32 ∧ (arrB 32 []).size = 32 ∧ (arrB 32 (sumL (0 :: xs))).all (·.oneCell') = true) at hz
  generalize hcn : arrB 32 (sumL (0 :: xs)) = cn at *
  have HCN := Lib.hid hcn
  clear hcn
  generalize arrB 32 [] = zs at *
  go_wp2_with (first
    | ((with_reducible refine wpList_store_row (o := ⟨none, .store 29 _ _, _, _, _, _⟩) ?_ 29 (.tmp 2) (.tmp 6) ?_ w.heap.size cn ?_ ?_ 29 zs Q0.out (info26 cn hz.out.1) (by rw [hz.out.1, hz.out.2.1]) hz.out.2.2 ?_); (rfl); (rfl); (rfl); (rfl))
    | ((with_reducible refine bodyPost_ret (v := .agg cn) ?_ ?_ ?_); (exact results_cell_row (p := 2) (ty := 29) Tryd.results16 _ _ w.heap.size 29 cn (0, 0) _ rfl (setRow_heap _ _ zs cn 29 (0, 0) Q0.out) Tryd.underlying29 rfl (info26 cn hz.out.1)); (rfl)))
  exact ⟨by unfold idv leafT; rw [HCN.out], below_setRow HB2.out (Nat.le_refl _) _⟩
end Go.Proofs.YtgiacilkecoenaaDoor

/- What the laws ask of package tree, as one bundle: each function's contract. -/
namespace Go.Proofs.YtgiacilkecoenaaDoor
open Go.RowKit

def pathR (l : List (List Int)) (i : Int) : List (List Int) × Bool := if 0 ≤ i ∧ i < l.length ∧ l.length ≤ 64 then (pathT l i.toNat, true) else ([], false)
def clashP (l : List (List Int)) (i : Int) (leaf : List Int) (p : List (List Int)) : List Int × List Int × Bool := match clashT l i leaf p with
  | none => ([], [], false)
  | some (a, b) => (a, b, true)
def isId (x : List Int) : Prop := x.length = 32 ∧ ∀ b ∈ x, 0 ≤ b ∧ b ≤ 255
def I64 (i : Int) : Prop := -9223372036854775808 ≤ i ∧ i ≤ 9223372036854775807
/-- the contracts of package tree -/
structure TreeC : Prop where
  node : ∀ (a b : List Int) (w : World), isId a → isId b → Tables w → Calls Tryd.prog 19 #[idv a, idv b] w fun e w' => e = .returned (idv (nodeT a b)) ∧ Below w.heap.size w w'
  leaf : ∀ (A : Option Addr) (n c : Nat) (xs : List Int) (w : World), xs.length = n → n ≤ 1000000 → Bytes w w.heap.size A xs → (∀ x ∈ xs, 0 ≤ x ∧ x ≤ 255) → Tables w → Calls Tryd.prog 15 #[.slice A n c] w fun e w' => e = .returned (idv (leafT xs)) ∧ Below w.heap.size w w'
  root : ∀ (l : List (List Int)) (A : Option Addr) (n c : Nat) (w : World), l.length = n → n ≤ 1000000 → n ≤ c → c ≤ maxLen → isIds l → IdsIn w w.heap.size A l → Tables w → Calls Tryd.prog 13 #[.slice A n c] w fun e w' => e = .returned (idv (rootT l)) ∧ Below w.heap.size w w'
  path : ∀ (l : List (List Int)) (i : Int) (A : Option Addr) (n c : Nat) (w : World), l.length = n → n ≤ 1000000 → n ≤ c → c ≤ maxLen → I64 i → isIds l → IdsIn w w.heap.size A l → Tables w →
    Calls Tryd.prog 10 #[.slice A n c, .int .i64 i] w fun e w' => (∃ v, e = .returned (.tuple #[v, .bool (pathR l i).2]) ∧ OwnI w' w.heap.size v (pathR l i).1) ∧ Below w.heap.size w w'
  check : ∀ (root leaf : List Int) (n i : Int) (p : List (List Int)) (A : Option Addr) (m c : Nat) (w : World), isId root → isId leaf → I64 n → I64 i → p.length = m → m ≤ 1000000 → m ≤ c → c ≤ maxLen → isIds p → IdsIn w w.heap.size A p → Tables w →
    Calls Tryd.prog 17 #[idv root, .int .i64 n, .int .i64 i, idv leaf, .slice A m c] w fun e w' => e = .returned (.bool (checkT root n i leaf p)) ∧ Below w.heap.size w w'
  clash : ∀ (l : List (List Int)) (i : Int) (leaf : List Int) (p : List (List Int)) (A A2 : Option Addr) (n c m c2 : Nat) (w : World), l.length = n → n ≤ 64 → n ≤ c → c ≤ maxLen → I64 i → p.length = m → m ≤ 1000000 → m ≤ c2 → c2 ≤ maxLen → isIds l → IdsIn w w.heap.size A l → isIds p → IdsIn w w.heap.size A2 p → isId leaf → Tables w →
    Calls Tryd.prog 21 #[.slice A n c, .int .i64 i, idv leaf, .slice A2 m c2] w fun e w' => (∃ va vb, e = .returned (.tuple #[va, vb, .bool (clashP l i leaf p).2.2]) ∧ OwnB w' w.heap.size va (clashP l i leaf p).1 ∧ OwnB w' w.heap.size vb (clashP l i leaf p).2.1) ∧ Below w.heap.size w w'
/-! ### the reference's, in the same words -/
theorem rpath_all (l : List (List Int)) (i : Int) (A : Option Addr) (n c : Nat) (w : World) (hl : l.length = n) (hn : n ≤ 1000000) (hnc : n ≤ c) (hc : c ≤ maxLen) (hi : I64 i) (hI : isIds l) (hA : IdsIn w w.heap.size A l) :
    Calls Tryd.prog 11 #[.slice A n c, .int .i64 i] w fun e w' => (∃ v, e = .returned (.tuple #[v, .bool (pathR l i).2]) ∧ OwnI w' w.heap.size v (pathR l i).1) ∧ Below w.heap.size w w' := by
  subst hl
  unfold pathR
  by_cases h : 0 ≤ i ∧ i < l.length ∧ l.length ≤ 64
  · rw [if_pos h]
    obtain ⟨j, rfl⟩ := Int.eq_ofNat_of_zero_le h.1
    exact rPath_some j l A c w h.2.2 (by omega) hnc hc hI hA
  · rw [if_neg h]
    refine (rPath_none l.length i A c w (Nat.le_trans hnc hc) hi.1 hi.2 (fun hh => h ⟨hh.2.1, hh.2.2, hh.1⟩)).mono ?_
    rintro e w' ⟨rfl, rfl⟩
    exact ⟨⟨_, rfl, OwnI.nil _ _⟩, Below.refl _ _⟩
theorem rclash_all (l : List (List Int)) (i : Int) (leaf : List Int) (p : List (List Int)) (A A2 : Option Addr) (n c m c2 : Nat) (w : World) (hl : l.length = n) (hn : n ≤ 64) (hnc : n ≤ c) (hc : c ≤ maxLen) (hi : I64 i)
    (hm : p.length = m) (hmc : m ≤ c2) (hcm : c2 ≤ maxLen) (hI : isIds l) (hA : IdsIn w w.heap.size A l) (hJ : isIds p) (hA2 : IdsIn w w.heap.size A2 p) (hx : isId leaf) :
    Calls Tryd.prog 22 #[.slice A n c, .int .i64 i, idv leaf, .slice A2 m c2] w fun e w' => (∃ va vb, e = .returned (.tuple #[va, vb, .bool (clashP l i leaf p).2.2]) ∧ OwnB w' w.heap.size va (clashP l i leaf p).1 ∧ OwnB w' w.heap.size vb (clashP l i leaf p).2.1) ∧ Below w.heap.size w w' := by
  refine (rclash_any l i leaf p A A2 n c m c2 w hl hn hnc hc hi.1 hi.2 hm hmc hcm hI hA hJ hA2 hx).mono ?_
  rintro e w' ⟨h, hb⟩
  refine ⟨?_, hb⟩
  unfold ClashR at h
  unfold clashP
  cases hcl : clashT l i leaf p with
  | none =>
    rw [hcl] at h
    exact ⟨_, _, h, OwnB.nil _ _, OwnB.nil _ _⟩
  | some ab =>
    rw [hcl] at h
    obtain ⟨va, vb, he, h1, h2⟩ := h
    exact ⟨va, vb, he, h1, h2⟩
/-! ### three small leaves -/
def id1 : List Int := 1 :: List.replicate 31 0
def id2 : List Int := 2 :: List.replicate 31 0
def id3 : List Int := 3 :: List.replicate 31 0
def z32 : List Int := List.replicate 32 0
theorem isIds3 : isIds [id1, id2, id3] := by
  have h : ∀ k : Int, 0 ≤ k → k ≤ 255 → isId (k :: List.replicate 31 0) := fun k h0 h1 => ⟨by simp, fun b hb => by
    rcases List.mem_cons.1 hb with e | e
    · omega
    · have := List.eq_of_mem_replicate e
      omega⟩
  intro x hx
  simp only [List.mem_cons, List.not_mem_nil, or_false] at hx
  rcases hx with rfl | rfl | rfl
  · exact h 1 (by decide) (by decide)
  · exact h 2 (by decide) (by decide)
  · exact h 3 (by decide) (by decide)
theorem path3 : pathR [id1, id2, id3] 2 = ([nodeT id1 id2], true) := by rfl
theorem root3 : rootT [id1, id2, id3] = nodeT (nodeT id1 id2) id3 := by rfl
theorem node_ne : eqL (nodeT id1 id2) z32 = false := by decide +kernel
end Go.Proofs.YtgiacilkecoenaaDoor

/- The program's Path. -/
namespace Go.Proofs.YtgiacilkecoenaaDoor
open Go.RowKit

theorem FreshR.slice {e : TypeId} {z n : Nat} {xs : List Value} {v : Value} {N : Boxes} (h : FreshR e z n xs v N) : ∃ A c, v = .slice A n c := by
  rcases h with ⟨g, cap, cur, rfl, _⟩ | ⟨rfl, _, rfl, _⟩ <;> exact ⟨_, _, rfl⟩
theorem run_cutI_lh (A : Option Addr) (n c l h : Nat) (w : World) (h1 : l ≤ h) (h2 : h ≤ c) :
    (Instr.sliceAt 22 (.slice A n c) (some (.int .i64 (l : Int))) (some (.int .i64 (h : Int))) none).run Tryd.prog w = .ok (.slice (cutI' A l c) (h - l) (c - l)) w := by
  have ht' : Tryd.prog.underlying 22 = some (.slice (Tryd.prog.elem 22)) := by rw [elemI]; exact Tryd.underlying22
  rw [run_sliceAt_slice w _ _ _ _ _ ht', run_slice_lh w 22 _ _ _ ht' .i64 .i64 _ _ (by omega) (by omega) (by omega), elemI, sizeI]
  simp [Result.andThen, sliced, cutI']
section
variable {a : Act} {dst : Option Tmp} {x l h : Operand} {ty : TypeId} {pos : String} {after : Array Edge} {gd : Option (Nat × Bool)}
theorem cutIlh_op {A : Option Addr} {n c i j len : Nat} (u : World) (h1 : i ≤ j) (h2 : j ≤ c) (hlen : j - i = len) (hx : a.eval x = .slice A n c) (hl : a.eval l = .int .i64 (i : Int)) (hh : a.eval h = .int .i64 (j : Int)) :
    (execOp a.eval ⟨dst, .slice 22 x (some l) (some h) none, ty, pos, after, gd⟩).run Tryd.prog u = .ok (.value (.slice (cutI' A i c) len (c - i))) u := by
  subst hlen
  unfold execOp
  simp only [hx, hl, hh, Option.map_some, Option.map_none, Sem.run_bind, Sem.run_pure, Result.andThen_ok, run_cutI_lh A n c i j u h1 h2]
end
/-- an append of one id where nothing else is kept -/
def AloneI (w0 : World) (l : List (List Int)) (v : Value) (M' : Boxes) : Prop := FreshI l v M' ∧ freshN w0 M' []
theorem appI_alone {w0 u : World} {M N : Boxes} {l : List (List Int)} {v : Value} {x : List Int} {g : Nat} {t : TypeId} {a : Act} {dst : Option Tmp} {y z : Operand} {pos : String} {after : Array Edge} {gd : Option (Nat × Bool)}
    (hu : EnvX w0 u M) (hl : isIds l) (hx : x.length = 32) (hF : FreshI l v N) (hN : ∀ y ∈ N, y ∈ M ∧ w0.heap.size ≤ y.1) (hg : (g, Obj.cells (arrB 32 x) t (0, 0)) ∈ M) (hs : l.length ≤ 1000000)
    (hy : a.eval y = v) (hz : a.eval z = .slice (some ⟨g, 0, none⟩) 1 1) :
    ∃ v' u' M', (execOp a.eval ⟨dst, .call { callee := .builtin .append, args := #[y, z], argTypes := #[22, 22] }, 22, pos, after, gd⟩).run Tryd.prog u = .ok (.value v') u' ∧ EnvX w0 u' M' ∧ AloneI w0 (l ++ [x]) v' M' := by
  obtain ⟨v', u', M', h1, h2, N2, h3, h4, h5⟩ := appI_op (dst := dst) (pos := pos) (after := after) (gd := gd) [] hu hl hx hF hN hg (fun z hz => by cases hz) hs hy hz
  rw [List.append_nil] at h3
  subst h3
  exact ⟨v', u', M', h1, h2, h4, h5⟩
def onN (x : Nat × Nat × Bool) : Nat := if x.2.2 then 1 else 0
def offN (x : Nat × Nat × Bool) : Nat := if x.2.2 then 0 else 1
theorem off_two (x : Nat × Nat × Bool) : offN x < 2 := by unfold offN; split <;> omega
theorem off_sub (x : Nat × Nat × Bool) : (1 : Int) - (onN x : Int) = (offN x : Int) ∧ InI (offN x : Int) := by
  unfold InI onN offN
  split <;> simp
theorem path_id {l : List (List Int)} (h : isIds l) (F : List (Nat × Nat × Bool)) : isIds (F.map (otherR l)) := by
  intro y hy
  obtain ⟨x, _, rfl⟩ := List.mem_map.1 hy
  exact root_id ((h.drop _).take _)
theorem take_snoc {α β : Type} (F : List α) (g : α → β) (d : α) {k : Nat} (hk : k < F.length) : (F.take (k + 1)).map g = (F.take k).map g ++ [g (F.getD k d)] := by
  rw [List.take_succ_eq_append_getElem hk, List.map_append, List.getD_eq_getElem?_getD, List.getElem?_eq_getElem hk]
  rfl
theorem getD_mem {α : Type} (F : List α) (d : α) {k : Nat} (hk : k < F.length) : F.getD k d ∈ F := by
  rw [List.getD_eq_getElem?_getD, List.getElem?_eq_getElem hk]
  exact List.getElem_mem hk
theorem map_getD {α β : Type} (F : List α) (g : α → β) (d : α) (e : β) {k : Nat} (hk : k < F.length) : (F.map g).getD k e = g (F.getD k d) := by
  rw [List.getD_eq_getElem?_getD, List.getD_eq_getElem?_getD, List.getElem?_map, List.getElem?_eq_getElem hk]
  rfl
set_option maxRecDepth 20000 in
set_option maxHeartbeats 4000000 in
theorem pathBy_some (l : List (List Int)) (i : Nat) (A : Option Addr) (n c : Nat) (w : World) (hl : l.length = n) (hn : n ≤ 64) (hi : i < n) (hnc : n ≤ c) (hI : isIds l) (hA : IdsIn w w.heap.size A l) (ht : Tables w) :
    Calls Tryd.prog 24 #[ndV, .slice A n c, .int .i64 (i : Int)] w fun e w' => (∃ v, e = .returned (.tuple #[v, .bool true]) ∧ OwnI w' w.heap.size v (pathT l i)) ∧ Below w.heap.size w w' := by
  have hpt : pathT l i = (forksT 0 n i).map (otherR l) := by
    have h := fork_path l n 0 i hi (by omega)
    rw [List.drop_zero, List.take_of_length_le (by omega), Nat.zero_add] at h
    exact h
  rw [hpt]
  clear hpt
  have HN : Hid (n < 9223372036854775808) := by show _ < _; omega
  have hst : standT (n : Int) (i : Int) = true := by unfold standT; simp only [decide_eq_true_eq]; omega
  have HST : Hid (∀ u, Calls Tryd.prog 41 #[ii n, ii i] u fun e w' => e = .returned (.bool true) ∧ Below u.heap.size u w') := fun u => by
    rw [← hst]
    exact stand_any (n : Int) (i : Int) u (by omega) (by omega) (by omega) (by omega)
  have HFK := Lib.hid (fun u => forks_any n i u (by omega) (by omega) (by omega))
  have HFL : Hid ((forksT 0 n i).length ≤ 64) := Nat.le_trans (forks_len n 0 i) hn
  have HFLN : Hid ((forksT 0 n i).length < 9223372036854775808) := by have := HFL.out; show _ < _; omega
  have HIN := Lib.hid (fork_in n 0 i)
  have HROOT : Hid (∀ x ∈ forksT 0 n i, ∀ u, EnvX w u [] → Calls Tryd.prog 26 #[ndV, .slice (cutI' A (sideF x.1 x.2.1 (offN x)) c) (sideN x.2.1 (offN x)) (c - sideF x.1 x.2.1 (offN x))] u fun e w' => e = .returned (idv (otherR l x)) ∧ Below u.heap.size u w') := fun x hx u hu => by
    obtain ⟨q1, q2⟩ := fork_in n 0 i x hx
    obtain ⟨s1, s2, s3⟩ := side_in (f := x.1) (n := x.2.1) (m := n) q1 (off_two x) (by omega)
    exact rootBy_any ((l.drop (sideF x.1 x.2.1 (offN x))).take (sideN x.2.1 (offN x))) _ _ _ u (by rw [List.length_take, List.length_drop]; omega) (by omega) ((hI.drop _).take _) (IdsIn.take (IdsIn.drop (hA.up (EnvX.bel hu)) hI _ c (by omega)) (hI.drop _) _) (ht.below (EnvX.bel hu))
  have HSD : Hid (∀ x ∈ forksT 0 n i, sideF x.1 x.2.1 (offN x) ≤ sideF x.1 x.2.1 (offN x) + sideN x.2.1 (offN x) ∧ sideF x.1 x.2.1 (offN x) + sideN x.2.1 (offN x) ≤ c ∧ sideF x.1 x.2.1 (offN x) + sideN x.2.1 (offN x) - sideF x.1 x.2.1 (offN x) = sideN x.2.1 (offN x)) := fun x hx => by
    obtain ⟨q1, q2⟩ := fork_in n 0 i x hx
    obtain ⟨s1, s2, s3⟩ := side_in (f := x.1) (n := x.2.1) (m := n) q1 (off_two x) (by omega)
    omega
  have HPI := Lib.hid (fun F => path_id hI F)
  have E1 : Hid (EnvX w w []) := EnvX.start w
  generalize forksT 0 n i = F at *
  clear hI hA ht hst
  obtain ⟨K, hK⟩ : ∃ K, F.length = K := ⟨_, rfl⟩
  rw [hK] at HFL HFLN
  have hk64 : K ≤ 64 := HFL.out
  go_enter Tryd.func24, Tryd.ntmps24
  go_upto_region 1 with (fail)
  refine wp_region_Hx (w0 := w) [0, 1, 2, 3, 4] [] rfl E1.out ?_
  refine lexH_phase [0, 1, 2, 3, 4] [] ?_
  have hw1 : EnvX w _ [] := E1.out
  have hone := @EnvC.one _ _ _ hw1
  (refine wpG_op rfl rfl rfl ?_; intro K hK; go_big_quiet_op; go_big_quiet_on)
  (refine wpG_val (v := ii n) rfl rfl (fun u hu => len_op Tryd.underlying22 HN.out u rfl) ?_ hw1; intro K hK; go_big_quiet_op; go_big_quiet_on)
  (refine wpG_op rfl rfl rfl ?_; intro K hK; go_big_quiet_op; go_big_quiet_on)
  (refine wpG_call (f := 41) (args := #[ii n, ii i]) (v := .bool true) rfl rfl rfl Tryd.func41 rfl rfl (fun u hu => HST.out u) ?_ hw1; intro K hK; go_big_quiet_op; go_big_quiet_on)
  (refine wpG_op rfl rfl rfl ?_; intro K hK; go_big_quiet_op; go_big_quiet_on)
  clear hone hw1
  refine wpG_nil ?_
  intro u3 E2'
  have EX2 := Lib.hid E2'
  clear E2'
  go_upto_region 4 with (fail)
  refine wp_region_Hx (w0 := w) [0, 1, 2, 3, 4, 5] [] rfl EX2.out ?_
  refine lexH_phase [0, 1, 2] [3, 4, 5] ?_
  have hw4 : EnvX w _ [] := EX2.out
  have hone := @EnvC.one _ _ _ hw4
  (refine wpG_op rfl rfl rfl ?_; intro K hK; go_big_quiet_op; go_big_quiet_on)
  (refine wpG_val (v := ii n) rfl rfl (fun u hu => len_op Tryd.underlying22 HN.out u rfl) ?_ hw4; intro K hK; go_big_quiet_op; go_big_quiet_on)
  (refine wpG_op rfl rfl rfl ?_; intro K hK; go_big_quiet_op; go_big_quiet_on)
  clear hone hw4
  refine wpG_nil ?_
  refine (hOp_fresh (R := FreshR 71 5 K (F.map fkV).flatten) (M0 := []) rfl rfl (fun _ h => h) (fun u hu => FAt_call (fid := 42) (xs := #[.tmp 18, .tmp 19]) (args := #[ii n, ii i]) rfl Tryd.func42 rfl rfl u (by have h := callsR_fresh (HFK.out u); rw [hK] at h; exact h)) ?_)
  rintro x NU hF hf he5; intro K' hK'; go_big_quiet_op; go_big_quiet_on
  obtain ⟨Au, cu, rfl⟩ := FreshR.slice hF
  have HFU := Lib.hid hF
  clear hF
  clear hf
  change lexH _ _ _ _ _ _ (NU ++ [])
  refine lexH_phase [4, 5] [] ?_
  have hw6 : EnvX w _ (NU ++ []) := he5.choose_spec
  have hone := @EnvC.one _ _ _ hw6
  (refine wpG_val (v := .int .i64 (K : Int)) rfl rfl (fun u hu => len_op Tryd.underlying65 HFLN.out u rfl) ?_ hw6; intro K hK; go_big_quiet_op; go_big_quiet_on)
  (refine wpG_op rfl rfl rfl ?_; intro K hK; go_big_quiet_op; go_big_quiet_on)
  clear hone hw6
  refine wpG_nil ?_
  intro u8 E2'
  have EX7 := Lib.hid E2'
  clear E2'
  have HB := Lib.hid EX7.out.bel
  have CU := Lib.hid (own_cells (HFU.out.own (B := 0) (fk_rows F |>.flat_len |>.trans (by rw [List.length_map, hK])) (fun y hy => ⟨Nat.zero_le _, EnvX.box EX7.out _ _ (List.mem_append_left _ hy)⟩)))
  have HKL := Lib.hid hK
  clear EX7 HFU hK
  generalize u8 = w1 at *
  have HINV : Hid (∃ N, FreshI ((F.take 0).map (otherR l)) (.slice none 0 0) N ∧ freshN w1 N [] ∧ EnvX w1 w1 N) := ⟨[], .inr ⟨rfl, rfl, rfl⟩, (fun _ h => by cases h), EnvX.start w1⟩
  go_upto_region 5 with (fail)
  go_loopw [8, 22] (fun v i u => ∃ k : Nat, k ≤ K ∧ i = .int .i64 k ∧ Hid (∃ N, FreshI ((F.take k).map (otherR l)) v N ∧ freshN w1 N [] ∧ EnvX w1 u N)) (fun _ i _ => K - (intOf i).toNat)
  case atStart => exact ⟨0, by omega, rfl, HINV⟩
  case round =>
    obtain ⟨k, hk, rfl, hinv⟩ := hrel
    obtain ⟨N, hF, hN, hE⟩ := hinv.out
    clear hinv HINV
    by_cases hlt : k < K
    · have hk2 : (k : Int) < (K : Int) := by omega
      have EK := Lib.hid hE
      have HF := Lib.hid hF
      have HN2 := Lib.hid hN
      have hkF : k < F.length := by rw [HKL.out]; exact hlt
      have HK := Lib.hid hlt
      have hmem := getD_mem F (0, 0, false) hkF
      have HTS := Lib.hid (take_snoc F (otherR l) (0, 0, false) hkF)
      have hck : ((F.map fkV).getD k []) = fkV (F.getD k (0, 0, false)) := map_getD F fkV _ _ hkF
      obtain ⟨ad, rfl, -⟩ := CellsIn.load aggFork CU.out (fk_rows F) (by decide) (i := k) (by rw [List.length_map]; exact hkF)
      have HLD : Hid (∀ u, EnvX w1 u [] → (loadVar 71 (ad.add (k * 5))).run Tryd.prog u = .ok (.agg (fkV (F.getD k (0, 0, false))).toArray) u) := fun u hu => by
        obtain ⟨ad2, e2, h2⟩ := CellsIn.load aggFork (CU.out.up (EnvX.bel hu)) (fk_rows F) (by decide) (i := k) (by rw [List.length_map]; exact hkF)
        cases e2
        rw [hck] at h2
        exact h2
      have HRK : Hid (∀ u, EnvX w1 u [] → Calls Tryd.prog 26 #[ndV, .slice (cutI' A (sideF (F.getD k (0, 0, false)).1 (F.getD k (0, 0, false)).2.1 (offN (F.getD k (0, 0, false)))) c) (sideN (F.getD k (0, 0, false)).2.1 (offN (F.getD k (0, 0, false)))) (c - sideF (F.getD k (0, 0, false)).1 (F.getD k (0, 0, false)).2.1 (offN (F.getD k (0, 0, false))))] u fun e w' => e = .returned (idv (otherR l (F.getD k (0, 0, false)))) ∧ Below u.heap.size u w') := fun u hu =>
        HROOT.out _ hmem u ⟨HB.out.trans ((EnvX.bel hu).mono HB.out.size), fun _ _ h => by cases h⟩
      have HSK := Lib.hid (HSD.out _ hmem)
      have HQ := Lib.hid (HIN.out _ hmem).1
      have HPK := Lib.hid (HPI.out (F.take k))
      have HPX : Hid ((otherR l (F.getD k (0, 0, false))).length = 32) := (HPI.out [F.getD k (0, 0, false)] _ (List.mem_singleton.2 rfl)).1
      have HTL : Hid (((F.take k).map (otherR l)).length ≤ 1000000) := by show _ ≤ _; rw [List.length_map, List.length_take]; have := HFL.out; omega
      clear hE hF hN hck hmem HROOT HSD HIN HPI
      generalize F.getD k (0, 0, false) = x at *
      have HOFF := Lib.hid (off_sub x)
      have HO2 := Lib.hid (off_two x)
      have HSP : Hid (((fkV x).toArray.toList.drop (0 + offN x * 2)).take 2 = spanC (sideF x.1 x.2.1 (offN x)) (sideN x.2.1 (offN x))) := fk_side (f := x.1) (b := x.2.2) HQ.out (off_two x)
      go_upto_region 6 with (fail)
      refine wp_region_Hx (w0 := w1) [0, 1, 2, 3] N rfl EK.out ?_
      refine lexH_phase [0, 1] [2, 3] ?_
      have hw9 : EnvX w1 _ N := EK.out
      have hone := @EnvC.one _ _ _ hw9
      (refine wpG_val (v := .pointer (some (ad.add (k * 5)))) rfl rfl (fun u hu => idxSl_op Tryd.underlying65 aggFork.size HK.out u rfl rfl) ?_ hw9; intro K hK; go_big_quiet_op; go_big_quiet_on)
      (refine wpG_val (v := .agg (fkV x).toArray) rfl rfl (fun u hu => load_any_op u (HLD.out u (EnvX.sub hu (fun _ h => by cases h))) rfl) ?_ hw9; intro K hK; go_big_quiet_op; go_big_quiet_on)
      clear hone hw9
      refine wpG_nil ?_
      refine (hOp_fresh (R := fun x N => ∃ g, x = .pointer (some ⟨g, 0, none⟩) ∧ N = [(g, Obj.cells #[ii 0, ii 0, ii 0, ii 0, ii 0] 71 (0, 0))]) (M0 := N) rfl rfl (fun _ h => h) (fun u hu => FAt_new (new_fork _) u) ?_)
      rintro _ _ ⟨g10, rfl, rfl⟩ hf he10; intro K' hK'; go_big_quiet_op; go_big_quiet_on
      have HG10 := Lib.hid (hf _ (List.mem_singleton.2 rfl))
      clear hf
      change lexH _ _ _ _ _ _ ((g10, Obj.cells #[ii 0, ii 0, ii 0, ii 0, ii 0] 71 (0, 0)) :: N)
      refine (hOp_putAt rfl (g10) (0) (.agg (fkV x).toArray) rfl rfl HG10.out.1 71 (#[ii 0, ii 0, ii 0, ii 0, ii 0]) ((fkV x).toArray) (List.Mem.head _) info_fork (Nat.le_refl 5) (by kernel_rfl) rfl ((g10, Obj.cells ((fkV x).toArray) 71 (0, 0)) :: N) (List.forall_mem_cons.2 ⟨.inl rfl, fun y hy => .inr ⟨List.mem_cons_of_mem _ hy, HG10.out.2 y hy⟩⟩) ?_)
      intro he11
      intro u13 E2'
      have EX12 := Lib.hid E2'
      clear E2'
      go_upto_region 7 with (fail)
      refine wp_region_Hx (w0 := w1) [0, 1, 2, 3, 4, 5, 6, 7] ((g10, Obj.cells ((fkV x).toArray) 71 (0, 0)) :: N) rfl EX12.out ?_
      refine lexH_phase [0, 1, 2, 3, 4, 5] [6, 7] ?_
      have hw14 : EnvX w1 _ ((g10, Obj.cells ((fkV x).toArray) 71 (0, 0)) :: N) := EX12.out
      have hone := @EnvC.one _ _ _ hw14
      (refine wpG_op rfl rfl rfl ?_; intro K hK; go_big_quiet_op; go_big_quiet_on)
      (refine wpG_val (v := ii (onN x)) rfl rfl (fun u hu => load_any_op u (run_load_one oneInt u (box_cell (k := 4) hu (List.Mem.head _) rfl)) rfl) ?_ hw14; intro K hK; go_big_quiet_op; go_big_quiet_on)
      (refine wpG_val (v := ii (offN x)) rfl rfl (fun u hu => sub_op u HOFF.out.1 HOFF.out.2 rfl rfl) ?_ hw14; intro K hK; go_big_quiet_op; go_big_quiet_on)
      (refine wpG_op rfl rfl rfl ?_; intro K hK; go_big_quiet_op; go_big_quiet_on)
      (refine wpG_val (v := .pointer (some ⟨g10, 0 + offN x * 2, none⟩)) rfl rfl (fun u hu => idxArr_op Tryd.underlying69 aggSpan.size HO2.out u rfl rfl) ?_ hw14; intro K hK; go_big_quiet_op; go_big_quiet_on)
      (refine wpG_val (v := .agg (spanC (sideF x.1 x.2.1 (offN x)) (sideN x.2.1 (offN x))).toArray) rfl rfl (fun u hu => load_any_op u (box_agg aggSpan hu (List.Mem.head _) (spanC (sideF x.1 x.2.1 (offN x)) (sideN x.2.1 (offN x))) rfl HSP.out) rfl) ?_ hw14; intro K hK; go_big_quiet_op; go_big_quiet_on)
      clear hone hw14
      refine wpG_nil ?_
      refine (hOp_fresh (R := fun x N => ∃ g, x = .pointer (some ⟨g, 0, none⟩) ∧ N = [(g, Obj.cells #[ii 0, ii 0] 68 (0, 0))]) (M0 := ((g10, Obj.cells ((fkV x).toArray) 71 (0, 0)) :: N)) rfl rfl (fun _ h => h) (fun u hu => FAt_new (new_span _) u) ?_)
      rintro _ _ ⟨g11, rfl, rfl⟩ hf he15; intro K' hK'; go_big_quiet_op; go_big_quiet_on
      have HG11 := Lib.hid (hf _ (List.mem_singleton.2 rfl))
      clear hf
      change lexH _ _ _ _ _ _ ((g11, Obj.cells #[ii 0, ii 0] 68 (0, 0)) :: ((g10, Obj.cells ((fkV x).toArray) 71 (0, 0)) :: N))
      refine (hOp_putAt rfl (g11) (0) (.agg (spanC (sideF x.1 x.2.1 (offN x)) (sideN x.2.1 (offN x))).toArray) rfl rfl HG11.out.1 68 (#[ii 0, ii 0]) ((spanC (sideF x.1 x.2.1 (offN x)) (sideN x.2.1 (offN x))).toArray) (List.Mem.head _) info_span (Nat.le_refl 2) (by kernel_rfl) rfl ((g11, Obj.cells ((spanC (sideF x.1 x.2.1 (offN x)) (sideN x.2.1 (offN x))).toArray) 68 (0, 0)) :: ((g10, Obj.cells ((fkV x).toArray) 71 (0, 0)) :: N)) (List.forall_mem_cons.2 ⟨.inl rfl, fun y hy => .inr ⟨List.mem_cons_of_mem _ hy, HG11.out.2 y hy⟩⟩) ?_)
      intro he16
      intro u18 E2'
      have EX17 := Lib.hid E2'
      clear E2'
      go_upto_region 8 with (fail)
      refine wp_region_Hx (w0 := w1) [0, 1, 2, 3, 4, 5, 6, 7, 8, 9, 10, 11] ((g11, Obj.cells ((spanC (sideF x.1 x.2.1 (offN x)) (sideN x.2.1 (offN x))).toArray) 68 (0, 0)) :: ((g10, Obj.cells ((fkV x).toArray) 71 (0, 0)) :: N)) rfl EX17.out ?_
      refine lexH_phase [0, 1, 2, 3, 4, 5, 6, 7, 8] [9, 10, 11] ?_
      have hw19 : EnvX w1 _ ((g11, Obj.cells ((spanC (sideF x.1 x.2.1 (offN x)) (sideN x.2.1 (offN x))).toArray) 68 (0, 0)) :: ((g10, Obj.cells ((fkV x).toArray) 71 (0, 0)) :: N)) := EX17.out
      have hone := @EnvC.one _ _ _ hw19
      (refine wpG_op rfl rfl rfl ?_; intro K hK; go_big_quiet_op; go_big_quiet_on)
      (refine wpG_op rfl rfl rfl ?_; intro K hK; go_big_quiet_op; go_big_quiet_on)
      (refine wpG_op rfl rfl rfl ?_; intro K hK; go_big_quiet_op; go_big_quiet_on)
      (refine wpG_op rfl rfl rfl ?_; intro K hK; go_big_quiet_op; go_big_quiet_on)
      (refine wpG_val (v := ii (sideF x.1 x.2.1 (offN x))) rfl rfl (fun u hu => load_any_op u (run_load_one oneInt u (box_cell (k := 0) hu (List.Mem.head _) rfl)) rfl) ?_ hw19; intro K hK; go_big_quiet_op; go_big_quiet_on)
      (refine wpG_op rfl rfl rfl ?_; intro K hK; go_big_quiet_op; go_big_quiet_on)
      (refine wpG_val (v := ii (sideF x.1 x.2.1 (offN x) + sideN x.2.1 (offN x))) rfl rfl (fun u hu => load_any_op u (run_load_one oneInt u (box_cell (k := 1) hu (List.Mem.head _) rfl)) rfl) ?_ hw19; intro K hK; go_big_quiet_op; go_big_quiet_on)
      (refine wpG_val (v := (.slice (cutI' A (sideF x.1 x.2.1 (offN x)) c) (sideN x.2.1 (offN x)) (c - sideF x.1 x.2.1 (offN x)))) rfl rfl (fun u hu => cutIlh_op u HSK.out.1 HSK.out.2.1 HSK.out.2.2 rfl rfl rfl) ?_ hw19; intro K hK; go_big_quiet_op; go_big_quiet_on)
      (refine wpG_call (f := 26) (args := #[ndV, (.slice (cutI' A (sideF x.1 x.2.1 (offN x)) c) (sideN x.2.1 (offN x)) (c - sideF x.1 x.2.1 (offN x)))]) (v := idv (otherR l x)) rfl rfl rfl Tryd.func26 rfl rfl (fun u hu => HRK.out u (EnvX.sub hu (fun _ h => by cases h))) ?_ hw19; intro K hK; go_big_quiet_op; go_big_quiet_on)
      clear hone hw19
      refine wpG_nil ?_
      refine (hOp_fresh (R := BuiltI (otherR l x)) (M0 := ((g11, Obj.cells ((spanC (sideF x.1 x.2.1 (offN x)) (sideN x.2.1 (offN x))).toArray) 68 (0, 0)) :: ((g10, Obj.cells ((fkV x).toArray) 71 (0, 0)) :: N))) rfl rfl (fun _ h => h) (fun u hu => FAt_buildI HPX.out rfl u) ?_)
      rintro _ _ ⟨gi, rfl, rfl⟩ hf he20; intro K' hK'; go_big_quiet_op; go_big_quiet_on
      clear hf
      change lexH _ _ _ _ _ _ ((gi, Obj.cells (arrB 32 (otherR l x)) 29 (0, 0)) :: ((g11, Obj.cells ((spanC (sideF x.1 x.2.1 (offN x)) (sideN x.2.1 (offN x))).toArray) 68 (0, 0)) :: ((g10, Obj.cells ((fkV x).toArray) 71 (0, 0)) :: N)))
      refine (hOp_own (gd := none) (R := AloneI w1 ((F.take k).map (otherR l) ++ [otherR l x])) rfl rfl rfl rfl (fun u hu => appI_alone hu HPK.out HPX.out HF.out (fun y hy => ⟨List.mem_cons_of_mem _ (List.mem_cons_of_mem _ (List.mem_cons_of_mem _ hy)), (HN2.out y hy).1⟩) (List.Mem.head _) HTL.out rfl rfl) ?_)
      rintro xp M2 ⟨hF2, hf2⟩ he21; intro K' hK'; go_big_quiet_op; go_big_quiet_on
      have HF2 := Lib.hid (And.intro hF2 hf2)
      clear hF2 hf2
      change lexH _ _ _ _ _ _ M2
      refine lexH_phase [11] [] ?_
      have hw22 : EnvX w1 _ M2 := he21.choose_spec
      have hone := @EnvC.one _ _ _ hw22
      (refine wpG_op rfl rfl rfl ?_; intro K hK; go_big_quiet_op; go_big_quiet_on)
      clear hone hw22
      refine wpG_nil ?_
      intro u24 E2'
      have EX23 := Lib.hid E2'
      clear E2'
      go_wp2
      go_roundw
      case rel => exact ⟨k + 1, by omega, by go_num, M2, by rw [HTS.out]; exact HF2.out.1, HF2.out.2, EX23.out⟩
      case measure => simp [intOf]; omega
    · obtain rfl : k = K := by omega
      have hall : F.take k = F := List.take_of_length_le (by rw [HKL.out]; exact Nat.le_refl _)
      rw [hall] at hF
      have HO := Lib.hid (And.intro (hF.own (B := w1.heap.size) (HPI.out F) (fun y hy => ⟨(hN y hy).1, EnvX.box hE _ _ hy⟩)) (EnvX.bel hE))
      clear hF hN hE
      go_wp2
      go_returns
      exact ⟨⟨_, rfl, HO.out.1.less HB.out.size⟩, HB.out.trans (HO.out.2.mono HB.out.size)⟩
set_option maxRecDepth 20000 in
set_option maxHeartbeats 4000000 in
theorem pathBy_none (i : Int) (A : Option Addr) (n c : Nat) (w : World) (hn : n ≤ 1000000) (hi0 : -9223372036854775808 ≤ i) (hi1 : i ≤ 9223372036854775807) (h : standT (n : Int) i = false) :
    Calls Tryd.prog 24 #[ndV, .slice A n c, .int .i64 i] w fun e w' => e = .returned (.tuple #[.slice none 0 0, .bool false]) ∧ Below w.heap.size w w' := by
  have HN : Hid (n < 9223372036854775808) := by show _ < _; omega
  have HST : Hid (∀ u, Calls Tryd.prog 41 #[ii n, .int .i64 i] u fun e w' => e = .returned (.bool false) ∧ Below u.heap.size u w') := fun u => by
    rw [← h]
    exact stand_any (n : Int) i u (by omega) (by omega) hi0 hi1
  have E1 : Hid (EnvX w w []) := EnvX.start w
  clear h
  go_enter Tryd.func24, Tryd.ntmps24
  go_upto_region 1 with (fail)
  refine wp_region_Hx (w0 := w) [0, 1, 2, 3, 4] [] rfl E1.out ?_
  refine lexH_phase [0, 1, 2, 3, 4] [] ?_
  have hw1 : EnvX w _ [] := E1.out
  have hone := @EnvC.one _ _ _ hw1
  (refine wpG_op rfl rfl rfl ?_; intro K hK; go_big_quiet_op; go_big_quiet_on)
  (refine wpG_val (v := ii n) rfl rfl (fun u hu => len_op Tryd.underlying22 HN.out u rfl) ?_ hw1; intro K hK; go_big_quiet_op; go_big_quiet_on)
  (refine wpG_op rfl rfl rfl ?_; intro K hK; go_big_quiet_op; go_big_quiet_on)
  (refine wpG_call (f := 41) (args := #[ii n, .int .i64 i]) (v := .bool false) rfl rfl rfl Tryd.func41 rfl rfl (fun u hu => HST.out u) ?_ hw1; intro K hK; go_big_quiet_op; go_big_quiet_on)
  (refine wpG_op rfl rfl rfl ?_; intro K hK; go_big_quiet_op; go_big_quiet_on)
  clear hone hw1
  refine wpG_nil ?_
  intro u3 E2'
  have EX2 := Lib.hid E2'
  clear E2'
  have HB := Lib.hid EX2.out.bel
  clear EX2
  go_wp2_with fail
  go_returns
  exact ⟨rfl, HB.out⟩
set_option maxRecDepth 20000 in
set_option maxHeartbeats 4000000 in
theorem path_any (l : List (List Int)) (i : Int) (A : Option Addr) (n c : Nat) (w : World) (hl : l.length = n) (hn : n ≤ 1000000) (hnc : n ≤ c) (hi : I64 i) (hI : isIds l) (hA : IdsIn w w.heap.size A l) (ht : Tables w) :
    Calls Tryd.prog 24 #[ndV, .slice A n c, .int .i64 i] w fun e w' => (∃ v, e = .returned (.tuple #[v, .bool (pathR l i).2]) ∧ OwnI w' w.heap.size v (pathR l i).1) ∧ Below w.heap.size w w' := by
  subst hl
  unfold pathR
  by_cases h : 0 ≤ i ∧ i < l.length ∧ l.length ≤ 64
  · rw [if_pos h]
    obtain ⟨j, rfl⟩ := Int.eq_ofNat_of_zero_le h.1
    exact pathBy_some l j A _ c w rfl h.2.2 (by omega) hnc hI hA ht
  · rw [if_neg h]
    have hs : standT (l.length : Int) i = false := by unfold standT; simp only [decide_eq_false_iff_not]; omega
    refine (pathBy_none i A l.length c w hn hi.1 hi.2 hs).mono ?_
    rintro e w' ⟨rfl, hb⟩
    exact ⟨⟨_, rfl, OwnI.nil _ _⟩, hb⟩
set_option maxRecDepth 20000 in
set_option maxHeartbeats 4000000 in
theorem Path_any (l : List (List Int)) (i : Int) (A : Option Addr) (n c : Nat) (w : World) (hl : l.length = n) (hn : n ≤ 1000000) (hnc : n ≤ c) (hi : I64 i) (hI : isIds l) (hA : IdsIn w w.heap.size A l) (ht : Tables w) :
    Calls Tryd.prog 10 #[.slice A n c, .int .i64 i] w fun e w' => (∃ v, e = .returned (.tuple #[v, .bool (pathR l i).2]) ∧ OwnI w' w.heap.size v (pathR l i).1) ∧ Below w.heap.size w w' := by
  have HC := Lib.hid (path_any l i A n c w hl hn hnc hi hI hA ht)
  clear hI hA ht hi
  unfold ndV at HC
  go_enter Tryd.func10, Tryd.ntmps10
  go_wp2_with fail
  refine HC.out.mono ?_
  rintro e w1 ⟨⟨v, rfl, hv⟩, hb⟩
  have HV := Lib.hid (And.intro hv hb)
  clear hv hb HC
  go_wp2_with fail
  go_returns
  exact ⟨⟨_, rfl, HV.out.1⟩, HV.out.2⟩
end Go.Proofs.YtgiacilkecoenaaDoor

/- A phase of quiet operations that look at nothing but what lay before: they may be taken ahead of stores as well; worlds one behind the other. -/
namespace Go.Proofs.YtgiacilkecoenaaDoor
open Go.RowKit

section
variable {P : Program} {md : Region.Mode} {w0 : World}
def lexN (md : Region.Mode) (ops : Array Oper) : List Nat → Array Bool → Bool
  | [], _ => true
  | i :: rest, listed => (Region.ready md ops listed).contains i && gfree md ops listed i true && lexN md ops rest (listed.setIfInBounds i true)
theorem anyH_phaseN0 {Q : Act → Boxes → Prop} {l : List Oper} (hs : Region.noSelect l.toArray = true) {L : Boxes} : ∀ (ord : List Nat) (f : Nat) (listed : Array Bool) (a : Act), closedL md l.toArray listed →
    lexN md l.toArray ord listed = true → wpG0 P l (EnvC w0 []) (fun a' => anyH P md l.toArray w0 Q f (listedBy ord listed) a' L) ord a → anyH P md l.toArray w0 Q (ord.length + f) listed a L
  | [], f, listed, a, _, _, h => by simpa [wpG0, listedBy] using h
  | i :: ord, f, listed, a, hcl, hB, h => by
    simp only [lexN, Bool.and_eq_true] at hB
    obtain ⟨⟨hr, hf⟩, hB'⟩ := hB
    have hr' : i ∈ Region.ready md l.toArray listed := by simpa using hr
    unfold wpG0 at h
    cases hl : l[i]? with
    | none => simp only [hl] at h
    | some o =>
      simp only [hl] at h
      have ho : l.toArray[i]? = some o := by simpa using hl
      have hlen : (i :: ord).length + f = (ord.length + f) + 1 := by simp only [List.length_cons]; omega
      rw [hlen]
      have hfr := gfree_spec ho hf
      by_cases hw : Region.wanted o (yielded l.toArray a.tmps) = true
      · simp only [hw, if_true] at h
        obtain ⟨v, hv, hK⟩ := h
        exact anyH_first (M0 := []) ho (Region.noSelect_spec hs) _ listed a L hcl (fun _ h => by cases h) (fun j oj h1 h2 h3 => (hfr j oj h1 h2 h3).imp id (fun k => ⟨k.1, .inl rfl⟩)) hr' (.inl ⟨hw, hv⟩)
          (anyH_phaseN0 hs ord f _ _ (closedL_set hcl hr') hB' hK)
      · simp only [hw, Bool.false_eq_true, if_false] at h
        have hw' : Region.wanted o (yielded l.toArray a.tmps) = false := by simpa using hw
        exact anyH_first (M0 := []) ho (Region.noSelect_spec hs) _ listed a L hcl (fun _ h => by cases h) (fun j oj h1 h2 h3 => (hfr j oj h1 h2 h3).imp id (fun k => ⟨k.1, .inl rfl⟩)) hr' (.inr ⟨hw', rfl⟩)
          (anyH_phaseN0 hs ord f _ _ (closedL_set hcl hr') hB' h)
theorem anyH_phaseN {Q : Act → Boxes → Prop} {l : List Oper} {F : Nat} (ord : List Nat) (f : Nat) {L : Boxes} {listed : Array Bool} {a : Act} (hF : F = ord.length + f)
    (hB : (Region.noSelect l.toArray && closedB md l.toArray listed && lexN md l.toArray ord listed) = true)
    (h : wpG P l (EnvC w0 []) (fun a' => anyH P md l.toArray w0 Q f (listedBy ord listed) a' L) ord a) : anyH P md l.toArray w0 Q F listed a L := by
  subst hF
  simp only [Bool.and_eq_true] at hB
  exact anyH_phaseN0 hB.1.1 ord f listed a (closedL_of hB.1.2) hB.2 h.out
end
/-- two stretches of a way -/
theorem EnvX.comb {w w5 u : World} {M N : Boxes} (h : EnvX w w5 M) (k : EnvX w5 u N) : EnvX w u (N ++ M) := by
  have h1 := h.below k.bel
  refine ⟨h1.bel, fun g o hm => ?_⟩
  rcases List.mem_append.1 hm with e | e
  · exact k.box g o e
  · exact h1.box g o e
end Go.Proofs.YtgiacilkecoenaaDoor
