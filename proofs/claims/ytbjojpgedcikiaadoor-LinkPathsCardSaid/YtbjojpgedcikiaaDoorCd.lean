/- Part of a proof. -/
import Derived.Test.YtbjojpgedcikiaaDoorCc
import Derived.Great.BuildSlice
import Derived.Maps.AppendAt
import Derived.Laws.MakeOwn
import Derived.Laws.Cells
import Derived.Deep.WholeRow
import Derived.Laws.Bits64b
import Derived.Laws.StructEq
import Derived.Laws.OwnMore
namespace Go.Proofs.YtbjojpgedcikiaaDoor
set_option maxRecDepth 8000
open Go.RowKit

theorem ids_step {l q : List (List Int)} {k : Nat} (h : l.take k = q.take k) (h1 : k < l.length) (h2 : k < q.length) (e : l.getD k [] = q.getD k []) : l.take (k + 1) = q.take (k + 1) := by
  rw [List.take_add_one, List.take_add_one, h, List.getElem?_eq_getElem h1, List.getElem?_eq_getElem h2]
  rw [List.getD_eq_getElem?_getD, List.getD_eq_getElem?_getD, List.getElem?_eq_getElem h1, List.getElem?_eq_getElem h2] at e
  simp only [Option.getD_some] at e
  rw [e]
theorem IdsIn.loads {w : World} {A : Option Addr} {l : List (List Int)} (h : IdsIn w w.heap.size A l) (hl : isIds l) {k : Nat} (hk : k < l.length) : ∃ ad, A = some ad ∧ ∀ u, EnvX w u [] → (loadVar 24 (ad.add (k * 32))).run Tryd.prog u = .ok (idv (l.getD k [])) u := by
  obtain ⟨ad, e, _⟩ := h.load hl hk
  refine ⟨ad, e, fun u hu => ?_⟩
  obtain ⟨ad2, e2, h2⟩ := (h.up (EnvX.bel hu)).load hl hk
  rw [e] at e2
  cases e2
  exact h2
set_option maxRecDepth 20000 in
set_option maxHeartbeats 4000000 in
theorem rids_any (l q : List (List Int)) (A A' : Option Addr) (n c m c' : Nat) (w : World) (hl : l.length = n) (hq : q.length = m) (hn : n ≤ 1000000) (hm : m ≤ 1000000) (hnc : n ≤ c) (hc : c ≤ maxLen) (hmc : m ≤ c') (hc' : c' ≤ maxLen) (hI : isIds l) (hJ : isIds q) (hA : IdsIn w w.heap.size A l) (hB : IdsIn w w.heap.size A' q) :
    Calls Tryd.prog 10 #[.slice A n c, .slice A' m c'] w fun e w' => e = .returned (.bool (decide (l = q))) ∧ Below w.heap.size w w' := by
  unfold maxLen at hc hc'
  have HL := Lib.hid hl
  have HQ := Lib.hid hq
  have HI := Lib.hid (And.intro hI hA)
  have HJ := Lib.hid (And.intro hJ hB)
  clear hI hA hJ hB hl hq
  by_cases hnm : n = m
  · subst hnm
    go_enter Tryd.func10, Tryd.ntmps10
    go_upto_region 4 with (fail)
    go_loopw [5] (fun i u => ∃ k : Nat, k ≤ n ∧ i = .int .i64 k ∧ Below w.heap.size w u ∧ Hid (l.take k = q.take k)) (fun i _ => n - (intOf i).toNat)
    case atStart => exact ⟨0, by omega, rfl, Below.refl _ _, rfl⟩
    case round =>
      obtain ⟨k, hk, rfl, hbl, hsame⟩ := hrel
      by_cases hlt : k < n
      · have hk2 : (k : Int) < (n : Int) := by omega
        obtain ⟨a1, rfl, h1⟩ := HI.out.2.loads HI.out.1 (k := k) (by rw [HL.out]; exact hlt)
        obtain ⟨a2, rfl, h2⟩ := HJ.out.2.loads HJ.out.1 (k := k) (by rw [HQ.out]; exact hlt)
        have H1 := Lib.hid h1
        have H2 := Lib.hid h2
        have E1 : Hid (EnvX w wr []) := ⟨hbl, fun _ _ h => by cases h⟩
        have HX := Lib.hid (HI.out.1.get (i := k) (by rw [HL.out]; exact hlt))
        have HY := Lib.hid (HJ.out.1.get (i := k) (by rw [HQ.out]; exact hlt))
        have HST := Lib.hid (ids_step hsame.out (by rw [HL.out]; exact hlt) (by rw [HQ.out]; exact hlt))
        have HNE : Hid (l.getD k [] ≠ q.getD k [] → l ≠ q) := fun h e => h (by rw [e])
        clear h1 h2 hsame hbl
        generalize l.getD k [] = x at *
        generalize q.getD k [] = y at *
        go_upto_region 6 with (fail)
        refine wp_region_H (w0 := w) [] (by kernel_rfl) E1.out ?_
        refine anyH_phase [0, 1, 2, 3, 4, 5, 6, 7, 8] 0 rfl ⟨_, (EnvX.drew E1.out)⟩ (by kernel_rfl) ?_
        have hw1 : EnvX w _ [] := (EnvX.drew E1.out)
        have hone := @EnvC.one _ _ _ hw1
        (refine wpG_op rfl rfl rfl ?_; intro K hK; go_big_quiet_op; go_big_quiet_on)
        (refine wpG_op rfl rfl rfl ?_; intro K hK; go_big_quiet_op; go_big_quiet_on)
        (refine wpG_op rfl rfl rfl ?_; intro K hK; go_big_quiet_op; go_big_quiet_on)
        (refine wpG_val (v := idv x) rfl rfl (fun u hu => load_run_op u (H1.out u hu) rfl) ?_ hw1; intro K hK; go_big_quiet_op; go_big_quiet_on)
        (refine wpG_op rfl rfl rfl ?_; intro K hK; go_big_quiet_op; go_big_quiet_on)
        (refine wpG_op rfl rfl rfl ?_; intro K hK; go_big_quiet_op; go_big_quiet_on)
        (refine wpG_op rfl rfl rfl ?_; intro K hK; go_big_quiet_op; go_big_quiet_on)
        (refine wpG_val (v := idv y) rfl rfl (fun u hu => load_run_op u (H2.out u hu) rfl) ?_ hw1; intro K hK; go_big_quiet_op; go_big_quiet_on)
        (refine wpG_val (v := .bool (!eqL x y)) rfl rfl (fun u hu => neq_id_op HX.out.1 HY.out.1 u rfl rfl) ?_ hw1; intro K hK; go_big_quiet_op; go_big_quiet_on)
        clear hone hw1
        refine wpG_nil ?_
        refine anyH_done (by kernel_rfl) ?_
        intro u3 E2'
        have EX2 := Lib.hid E2'
        clear E2'
        by_cases hxy : x = y
        · have hb : eqL x y = true := by simp [eqL, hxy]
          rw [hb]
          go_wp2
          go_roundw
          case rel => exact ⟨k + 1, by omega, by go_num, EnvX.bel EX2.out, HST.out hxy⟩
          case measure => simp [intOf]; omega
        · have hb : eqL x y = false := by simp [eqL, hxy]
          have HR : Hid (decide (l = q) = false) := by
            show _ = _
            simp [HNE.out hxy]
          rw [hb]
          go_wp2
          go_ret
          exact ⟨by rw [HR.out]; rfl, EnvX.bel EX2.out⟩
      · obtain rfl : k = n := by omega
        have HR : Hid (decide (l = q) = true) := by
          have h := hsame.out
          rw [List.take_of_length_le (by rw [HL.out]; exact Nat.le_refl _), List.take_of_length_le (by rw [HQ.out]; exact Nat.le_refl _)] at h
          show _ = _
          simp [h]
        clear hsame
        go_wp2
        go_ret
        exact ⟨by rw [HR.out]; rfl, hbl⟩
  · have hne : ¬ (n : Int) = (m : Int) := by omega
    have HR : Hid (decide (l = q) = false) := by
      show _ = _
      have : l ≠ q := fun e => hnm (by rw [← HL.out, ← HQ.out, e])
      simp [this]
    go_enter Tryd.func10, Tryd.ntmps10
    go_wp2
    go_ret
    exact ⟨by rw [HR.out]; rfl, Below.refl _ _⟩
end Go.Proofs.YtbjojpgedcikiaaDoor

namespace Go.Proofs.YtbjojpgedcikiaaDoor
set_option maxRecDepth 8000
open Go.RowKit

section
variable {a : Act} {dst : Option Tmp} {x l h : Operand} {ty : TypeId} {pos : String} {after : Array Edge} {gd : Option (Nat × Bool)}
end
/-- new bytes, as boxes -/
def FreshB (xs : List Int) (x : Value) (N : Boxes) : Prop := ∃ g cap cur, x = .slice (some ⟨g, 0, none⟩) xs.length cap ∧ N = [(g, Obj.cells cur 5 (0, 0))] ∧ xs.length ≤ cap ∧ cap ≤ maxLen ∧ cur.size = cap * 1 ∧ cur.toList.take (xs.length * 1) = xs.map u8v
theorem OwnB.fresh {w : World} {B : Nat} {v : Value} {xs : List Int} (h : OwnB w B v xs) (hp : 0 < xs.length) : ∃ N, FreshB xs v N ∧ ∀ y ∈ N, B ≤ y.1 ∧ w.heap[y.1]? = some y.2 := by
  rcases h.2 with ⟨_, e⟩ | ⟨g, cap, cur, rfl, h1, h2, h3, h4, h5, h6⟩
  · omega
  · refine ⟨_, ⟨g, cap, cur, rfl, rfl, h3, h4, h5, h6⟩, fun y hy => ?_⟩
    cases List.mem_singleton.1 hy
    exact ⟨h1, h2⟩
end Go.Proofs.YtbjojpgedcikiaaDoor

namespace Go.Proofs.YtbjojpgedcikiaaDoor
set_option maxRecDepth 8000
open Go.RowKit

theorem clash_meet {l : List (List Int)} {i : Nat} {leaf : List Int} {path : List (List Int)} (hj : i < l.length) (hc : checkT (rootT l) l.length i leaf path = true) (hne : leaf ≠ l.getD i []) :
    ∃ j, j < (sidesT l.length i).length ∧ clashT l i leaf path = some (stepText ((sidesT l.length i).getD j true) (climbK (sidesT l.length i) leaf path j) (path.getD j []), stepText ((sidesT l.length i).getD j true) (climbK (sidesT l.length i) (l.getD i []) (pathT l i) j) ((pathT l i).getD j [])) ∧
      climbK (sidesT l.length i) leaf path (j + 1) = climbK (sidesT l.length i) (l.getD i []) (pathT l i) (j + 1) ∧ ∀ t, t < j → climbK (sidesT l.length i) leaf path (t + 1) ≠ climbK (sidesT l.length i) (l.getD i []) (pathT l i) (t + 1) := by
  have hc' := hc
  unfold checkT at hc'
  simp only [decide_eq_true_eq, Int.toNat_natCast] at hc'
  obtain ⟨k1, k2, k3, k4, k5, k6⟩ := hc'
  have htop := path_top l.length l i rfl hj
  have heq : climbK (sidesT l.length i) leaf path (sidesT l.length i).length = climbK (sidesT l.length i) (l.getD i []) (pathT l i) (sidesT l.length i).length := k6.trans htop.symm
  unfold clashT
  rw [if_pos ⟨hc, by simpa using hne⟩]
  simp only [Int.toNat_natCast]
  cases hm : meetK (sidesT l.length i) leaf (l.getD i []) path (pathT l i) (sidesT l.length i).length 0 with
  | none =>
    exfalso
    have hno := meetK_none _ _ _ _ _ _ _ hm
    obtain ⟨t, h1, h2, h3, _⟩ := climb_meet _ _ _ path (pathT l i) hne _ heq
    exact hno t (Nat.zero_le _) (by omega) h3
  | some k =>
    obtain ⟨_, m2, m3, m4⟩ := meetK_some _ _ _ _ _ _ _ _ hm
    exact ⟨k, by omega, rfl, m3, fun t ht => m4 t (Nat.zero_le _) ht⟩
/-- what Clash answers -/
def ClashR (l : List (List Int)) (i : Int) (leaf : List Int) (p : List (List Int)) (B : Nat) (e : Ending) (w' : World) : Prop := match clashT l i leaf p with
  | none => e = .returned (.tuple #[.slice none 0 0, .slice none 0 0, .bool false])
  | some (a, b) => ∃ va vb, e = .returned (.tuple #[va, vb, .bool true]) ∧ OwnB w' B va a ∧ OwnB w' B vb b
theorem ClashR.no {l : List (List Int)} {i : Int} {leaf : List Int} {p : List (List Int)} {B : Nat} {e : Ending} {w' : World} (h : ¬ (checkT (rootT l) l.length i leaf p = true ∧ leaf ≠ l.getD i.toNat [])) (he : e = .returned (.tuple #[.slice none 0 0, .slice none 0 0, .bool false])) : ClashR l i leaf p B e w' := by
  unfold ClashR clashT
  rw [if_neg h]
  exact he
theorem ClashR.yes {l : List (List Int)} {i : Int} {leaf : List Int} {p : List (List Int)} {B : Nat} {e : Ending} {w' : World} {a b : List Int} {va vb : Value} (h : clashT l i leaf p = some (a, b)) (he : e = .returned (.tuple #[va, vb, .bool true])) (ha : OwnB w' B va a) (hb : OwnB w' B vb b) : ClashR l i leaf p B e w' := by
  unfold ClashR
  rw [h]
  exact ⟨va, vb, he, ha, hb⟩
end Go.Proofs.YtbjojpgedcikiaaDoor

namespace Go.Proofs.YtbjojpgedcikiaaDoor
set_option maxRecDepth 8000
open Go.RowKit

def pathR (l : List (List Int)) (i : Int) : List (List Int) × Bool := if 0 ≤ i ∧ i < l.length ∧ l.length ≤ 64 then (pathT l i.toNat, true) else ([], false)
def clashP (l : List (List Int)) (i : Int) (leaf : List Int) (p : List (List Int)) : List Int × List Int × Bool := match clashT l i leaf p with
  | none => ([], [], false)
  | some (a, b) => (a, b, true)
def isId (x : List Int) : Prop := x.length = 32 ∧ ∀ b ∈ x, 0 ≤ b ∧ b ≤ 255
def I64 (i : Int) : Prop := -9223372036854775808 ≤ i ∧ i ≤ 9223372036854775807
/-- the contracts of package tree -/
structure TreeC : Prop where
  node : ∀ (a b : List Int) (w : World), isId a → isId b → Tables w → Calls Tryd.prog 38 #[idv a, idv b] w fun e w' => e = .returned (idv (nodeT a b)) ∧ Below w.heap.size w w'
  leaf : ∀ (A : Option Addr) (n c : Nat) (xs : List Int) (w : World), xs.length = n → n ≤ 1000000 → Bytes w w.heap.size A xs → (∀ x ∈ xs, 0 ≤ x ∧ x ≤ 255) → Tables w → Calls Tryd.prog 21 #[.slice A n c] w fun e w' => e = .returned (idv (leafT xs)) ∧ Below w.heap.size w w'
  root : ∀ (l : List (List Int)) (A : Option Addr) (n c : Nat) (w : World), l.length = n → n ≤ 1000000 → n ≤ c → c ≤ maxLen → isIds l → IdsIn w w.heap.size A l → Tables w → Calls Tryd.prog 31 #[.slice A n c] w fun e w' => e = .returned (idv (rootT l)) ∧ Below w.heap.size w w'
  path : ∀ (l : List (List Int)) (i : Int) (A : Option Addr) (n c : Nat) (w : World), l.length = n → n ≤ 1000000 → n ≤ c → c ≤ maxLen → I64 i → isIds l → IdsIn w w.heap.size A l → Tables w →
    Calls Tryd.prog 25 #[.slice A n c, .int .i64 i] w fun e w' => (∃ v, e = .returned (.tuple #[v, .bool (pathR l i).2]) ∧ OwnI w' w.heap.size v (pathR l i).1) ∧ Below w.heap.size w w'
  check : ∀ (root leaf : List Int) (n i : Int) (p : List (List Int)) (A : Option Addr) (m c : Nat) (w : World), isId root → isId leaf → I64 n → I64 i → p.length = m → m ≤ 1000000 → m ≤ c → c ≤ maxLen → isIds p → IdsIn w w.heap.size A p → Tables w →
    Calls Tryd.prog 33 #[idv root, .int .i64 n, .int .i64 i, idv leaf, .slice A m c] w fun e w' => e = .returned (.bool (checkT root n i leaf p)) ∧ Below w.heap.size w w'
  clash : ∀ (l : List (List Int)) (i : Int) (leaf : List Int) (p : List (List Int)) (A A2 : Option Addr) (n c m c2 : Nat) (w : World), l.length = n → n ≤ 64 → n ≤ c → c ≤ maxLen → I64 i → p.length = m → m ≤ 1000000 → m ≤ c2 → c2 ≤ maxLen → isIds l → IdsIn w w.heap.size A l → isIds p → IdsIn w w.heap.size A2 p → isId leaf → Tables w →
    Calls Tryd.prog 22 #[.slice A n c, .int .i64 i, idv leaf, .slice A2 m c2] w fun e w' => (∃ va vb, e = .returned (.tuple #[va, vb, .bool (clashP l i leaf p).2.2]) ∧ OwnB w' w.heap.size va (clashP l i leaf p).1 ∧ OwnB w' w.heap.size vb (clashP l i leaf p).2.1) ∧ Below w.heap.size w w'
def id1 : List Int := 1 :: List.replicate 31 0
def id2 : List Int := 2 :: List.replicate 31 0
def id3 : List Int := 3 :: List.replicate 31 0
def z32 : List Int := List.replicate 32 0
theorem isIds3 : isIds [id1, id2, id3] := by
  have h : ∀ k : Int, 0 ≤ k → k ≤ 255 → isId (k :: List.replicate 31 0) := fun k h0 h1 => ⟨by simp, fun b hb => by
    rcases List.mem_cons.1 hb with e | e
    · omega
    · have := List.eq_of_mem_replicate e
      omega⟩
  intro x hx
  simp only [List.mem_cons, List.not_mem_nil, or_false] at hx
  rcases hx with rfl | rfl | rfl
  · exact h 1 (by decide) (by decide)
  · exact h 2 (by decide) (by decide)
  · exact h 3 (by decide) (by decide)
end Go.Proofs.YtbjojpgedcikiaaDoor

namespace Go.Proofs.YtbjojpgedcikiaaDoor
set_option maxRecDepth 8000

/-- a level as a number of links -/
def lvN (lev : Int) : Nat := (min lev 31).toNat
theorem lvN_le (lev : Int) : lvN lev ≤ 31 := by unfold lvN; omega
/-- links of which k behind the first one lead to an id -/
def stepL (x : List Int) (r : List (List Int)) (id : List Int) (k : Nat) : List (List Int) := x :: (List.replicate k id ++ r.drop k)
def nextT (l : List (List Int)) (id : List Int) (lev : Int) : List (List Int) :=
  if 32 < l.length then [] else match l with
    | [] => [id]
    | x :: r => stepL x r id (lvN lev)
theorem step_len (x : List Int) (r : List (List Int)) (id : List Int) (k : Nat) : (stepL x r id k).length = 1 + (k + (r.length - k)) := by
  unfold stepL
  rw [List.length_cons, List.length_append, List.length_replicate, List.length_drop]
  omega
theorem step_zero (x : List Int) (r : List (List Int)) (id : List Int) : stepL x r id 0 = x :: r := rfl
/-- .. one more: the list is long enough, or one is put behind -/
theorem step_set {x : List Int} {r : List (List Int)} {id : List Int} {k : Nat} (h : k < r.length) : (stepL x r id k).set (k + 1) id = stepL x r id (k + 1) := by
  unfold stepL
  rw [List.set_cons_succ]
  congr 1
  apply List.ext_getElem (by simp; omega)
  intro j h1 h2
  rw [List.getElem_set]
  by_cases e : k = j
  · subst e
    rw [if_pos rfl, List.getElem_append_left (by simp), List.getElem_replicate]
  · rw [if_neg e]
    by_cases e2 : j < k
    · rw [List.getElem_append_left (by simpa using e2), List.getElem_append_left (by simp; omega), List.getElem_replicate, List.getElem_replicate]
    · rw [List.getElem_append_right (by simp; omega), List.getElem_append_right (by simp; omega), List.getElem_drop, List.getElem_drop]
      congr 1
      simp only [List.length_replicate]
      omega
theorem step_app {x : List Int} {r : List (List Int)} {id : List Int} {k : Nat} (h : r.length ≤ k) : stepL x r id k ++ [id] = stepL x r id (k + 1) := by
  unfold stepL
  rw [List.drop_of_length_le h, List.drop_of_length_le (by omega), List.append_nil, List.append_nil, List.cons_append, List.replicate_succ']
theorem step_get {x : List Int} {r : List (List Int)} {id : List Int} {k j : Nat} (h1 : 1 ≤ j) (h2 : j ≤ k) : (stepL x r id k).getD j [] = id := by
  obtain ⟨i, rfl⟩ : ∃ i, j = i + 1 := ⟨j - 1, by omega⟩
  unfold stepL
  rw [List.getD_eq_getElem?_getD, List.getElem?_cons_succ, List.getElem?_append_left (by simp; omega), List.getElem?_replicate, if_pos (by omega)]
  rfl
theorem step_above {x : List Int} {r : List (List Int)} {id : List Int} {k j : Nat} (h : k < j) : (stepL x r id k).getD j [] = (x :: r).getD j [] := by
  obtain ⟨i, rfl⟩ : ∃ i, j = i + 1 := ⟨j - 1, by omega⟩
  unfold stepL
  rw [List.getD_eq_getElem?_getD, List.getD_eq_getElem?_getD, List.getElem?_cons_succ, List.getElem?_cons_succ, List.getElem?_append_right (by simp; omega), List.getElem?_drop]
  congr 2
  simp only [List.length_replicate]
  omega
theorem step_ids {x : List Int} {r : List (List Int)} {id : List Int} {k : Nat} (hx : isIds (x :: r)) (hid : isId id) : isIds (stepL x r id k) := by
  intro y hy
  unfold stepL at hy
  rcases List.mem_cons.1 hy with rfl | h
  · exact hx y (List.mem_cons_self ..)
  · rcases List.mem_append.1 h with h | h
    · rw [List.eq_of_mem_replicate h]; exact hid
    · exact hx y (List.mem_cons_of_mem _ (List.mem_of_mem_drop h))
theorem next_many {l : List (List Int)} {id : List Int} {lev : Int} (h : 32 < l.length) : nextT l id lev = [] := by unfold nextT; rw [if_pos h]
theorem next_none (id : List Int) (lev : Int) : nextT [] id lev = [id] := rfl
theorem next_some {x : List Int} {r : List (List Int)} {id : List Int} {lev : Int} (h : r.length + 1 ≤ 32) : nextT (x :: r) id lev = stepL x r id (lvN lev) := by unfold nextT; rw [if_neg (by rw [List.length_cons]; omega)]
def leavesL (l : List (List Int)) : List (List Int) := l.map leafT
theorem leavesL_len (l : List (List Int)) : (leavesL l).length = l.length := List.length_map _
theorem leavesL_ids (l : List (List Int)) : isIds (leavesL l) := fun x hx => by
  obtain ⟨y, _, rfl⟩ := List.mem_map.1 hx
  exact ⟨sumL_len _, sumL_byte _⟩
def leadsT (l : List (List Int)) (prev id : List Int) : Bool := decide (prev = id ∨ id ∈ l)
end Go.Proofs.YtbjojpgedcikiaaDoor

namespace Go.Proofs.YtbjojpgedcikiaaDoor
set_option maxRecDepth 8000

def forkF : Nat → Nat → Nat → Nat → List (Nat × Nat × Bool)
  | 0, _, _, _ => []
  | m + 1, f, n, i => if n ≤ 1 then [] else if i < f + halfT n then forkF m f (halfT n) i ++ [(f, n, false)] else forkF m (f + halfT n) (n - halfT n) i ++ [(f, n, true)]
def forksT (f n i : Nat) : List (Nat × Nat × Bool) := forkF n f n i
theorem forkF_more : ∀ (a b f n i : Nat), n ≤ a → n ≤ b → forkF a f n i = forkF b f n i
  | 0, 0, _, _, _, _, _ => rfl
  | 0, b + 1, f, n, i, ha, _ => by
    obtain rfl : n = 0 := by omega
    unfold forkF
    rfl
  | a + 1, 0, f, n, i, _, hb => by
    obtain rfl : n = 0 := by omega
    unfold forkF
    rfl
  | a + 1, b + 1, f, n, i, ha, hb => by
    unfold forkF
    by_cases h1 : n ≤ 1
    · rw [if_pos h1, if_pos h1]
    · obtain ⟨b1, b2, b3, -⟩ := half_spec (n := n) (by omega)
      rw [if_neg h1, if_neg h1]
      by_cases h2 : i < f + halfT n
      · rw [if_pos h2, if_pos h2, forkF_more a b f (halfT n) i (by omega) (by omega)]
      · rw [if_neg h2, if_neg h2, forkF_more a b (f + halfT n) (n - halfT n) i (by omega) (by omega)]
theorem forks_one (f i : Nat) : forksT f 1 i = [] := rfl
theorem forks_low {f n i : Nat} (h : 2 ≤ n) (hi : i < f + halfT n) : forksT f n i = forksT f (halfT n) i ++ [(f, n, false)] := by
  obtain ⟨b1, b2, b3, -⟩ := half_spec h
  obtain ⟨m, rfl⟩ : ∃ m, n = m + 1 := ⟨n - 1, by omega⟩
  unfold forksT
  rw [forkF, if_neg (by omega), if_pos hi, forkF_more m (halfT (m + 1)) f (halfT (m + 1)) i (by omega) (by omega)]
theorem forks_high {f n i : Nat} (h : 2 ≤ n) (hi : ¬ i < f + halfT n) : forksT f n i = forksT (f + halfT n) (n - halfT n) i ++ [(f, n, true)] := by
  obtain ⟨b1, b2, b3, -⟩ := half_spec h
  obtain ⟨m, rfl⟩ : ∃ m, n = m + 1 := ⟨n - 1, by omega⟩
  unfold forksT
  rw [forkF, if_neg (by omega), if_neg hi, forkF_more m (m + 1 - halfT (m + 1)) _ (m + 1 - halfT (m + 1)) i (by omega) (by omega)]
theorem forks_len : ∀ (n f i : Nat), (forksT f n i).length ≤ n := by
  intro n
  induction n using Nat.strongRecOn with
  | _ n ih =>
    intro f i
    by_cases h : 2 ≤ n
    · obtain ⟨b1, b2, b3, -⟩ := half_spec h
      by_cases hi : i < f + halfT n
      · rw [forks_low h hi, List.length_append]
        have := ih (halfT n) b2 f i
        simp
        omega
      · rw [forks_high h hi, List.length_append]
        have := ih (n - halfT n) (by omega) (f + halfT n) i
        simp
        omega
    · match n with
      | 0 => exact Nat.le_refl _
      | 1 => exact Nat.zero_le _
      | n + 2 => omega
theorem fork_sides : ∀ (n f i : Nat), i < n → (forksT f n (f + i)).map (fun x => !x.2.2) = sidesT n i := by
  intro n
  induction n using Nat.strongRecOn with
  | _ n ih =>
    intro f i hi
    by_cases h : 2 ≤ n
    · obtain ⟨b1, b2, b3, -⟩ := half_spec h
      by_cases hl : i < halfT n
      · rw [forks_low h (by omega), sides_low h hl, List.map_append, ih (halfT n) b2 f i hl]
        rfl
      · rw [forks_high h (by omega), sides_high h hl, List.map_append]
        have := ih (n - halfT n) (by omega) (f + halfT n) (i - halfT n) (by omega)
        rw [show f + halfT n + (i - halfT n) = f + i by omega] at this
        rw [this]
        rfl
    · obtain rfl : n = 1 := by omega
      rfl
theorem fork_in : ∀ (n f i : Nat), ∀ x ∈ forksT f n i, 2 ≤ x.2.1 ∧ x.1 + x.2.1 ≤ f + n := by
  intro n
  induction n using Nat.strongRecOn with
  | _ n ih =>
    intro f i x hx
    by_cases h : 2 ≤ n
    · obtain ⟨b1, b2, b3, -⟩ := half_spec h
      by_cases hl : i < f + halfT n
      · rw [forks_low h hl] at hx
        rcases List.mem_append.1 hx with h1 | h1
        · have := ih (halfT n) b2 f i x h1
          omega
        · cases List.mem_singleton.1 h1
          exact ⟨h, Nat.le_refl _⟩
      · rw [forks_high h hl] at hx
        rcases List.mem_append.1 hx with h1 | h1
        · have := ih (n - halfT n) (by omega) (f + halfT n) i x h1
          omega
        · cases List.mem_singleton.1 h1
          exact ⟨h, Nat.le_refl _⟩
    · match n, hx with
      | 0, hx => cases hx
      | 1, hx => cases hx
      | n + 2, _ => omega
theorem take_snoc {α β : Type} (F : List α) (g : α → β) (d : α) {k : Nat} (hk : k < F.length) : (F.take (k + 1)).map g = (F.take k).map g ++ [g (F.getD k d)] := by
  rw [List.take_succ_eq_append_getElem hk, List.map_append, List.getD_eq_getElem?_getD, List.getElem?_eq_getElem hk]
  rfl
theorem getD_mem {α : Type} (F : List α) (d : α) {k : Nat} (hk : k < F.length) : F.getD k d ∈ F := by
  rw [List.getD_eq_getElem?_getD, List.getElem?_eq_getElem hk]
  exact List.getElem_mem hk
theorem map_getD {α β : Type} (F : List α) (g : α → β) (d : α) (e : β) {k : Nat} (hk : k < F.length) : (F.map g).getD k e = g (F.getD k d) := by
  rw [List.getD_eq_getElem?_getD, List.getD_eq_getElem?_getD, List.getElem?_map, List.getElem?_eq_getElem hk]
  rfl
end Go.Proofs.YtbjojpgedcikiaaDoor

namespace Go.Proofs.YtbjojpgedcikiaaDoor
set_option maxRecDepth 8000
open Go.RowKit

/-- rows: each of so many cells -/
def isRows (z : Nat) (L : List (List Value)) : Prop := ∀ x ∈ L, x.length = z
theorem isRows.flat_len {z : Nat} {L : List (List Value)} (h : isRows z L) : L.flatten.length = L.length * z := by
  induction L with
  | nil => simp
  | cons x L ih =>
    rw [List.flatten_cons, List.length_append, h x (List.mem_cons_self ..), ih (fun y hy => h y (List.mem_cons_of_mem _ hy)), List.length_cons, Nat.succ_mul]
    omega
theorem isRows.flat_get {z : Nat} {L : List (List Value)} (h : isRows z L) : ∀ (i j : Nat), i < L.length → j < z → L.flatten[i * z + j]? = (L.getD i [])[j]? := by
  induction L with
  | nil => intro i j hi; simp at hi
  | cons x L ih =>
    intro i j hi hj
    have hx := h x (List.mem_cons_self ..)
    rw [List.flatten_cons]
    cases i with
    | zero =>
      rw [Nat.zero_mul, Nat.zero_add, List.getElem?_append_left (by omega)]
      rfl
    | succ i =>
      rw [List.getElem?_append_right (by rw [hx, Nat.succ_mul]; omega), hx, show (i + 1) * z + j - z = i * z + j by rw [Nat.succ_mul]; omega, ih (fun y hy => h y (List.mem_cons_of_mem _ hy)) i j (by simpa using hi) hj]
      simp
theorem isRows.get {z : Nat} {L : List (List Value)} (h : isRows z L) {i : Nat} (hi : i < L.length) : (L.getD i []).length = z := by
  rw [List.getD_eq_getElem?_getD, List.getElem?_eq_getElem hi]
  exact h _ (List.getElem_mem hi)
/-- cells that are read from a slice's address -/
def CellsIn (w : World) (B : Nat) (A : Option Addr) (xs : List Value) : Prop := 0 < xs.length → ∃ ad, A = some ad ∧ ad.block < B ∧ ∀ j v, xs[j]? = some v → w.cell? (ad.add j) = some v
theorem CellsIn.below {w w' : World} {B : Nat} {A : Option Addr} {xs : List Value} (h : CellsIn w B A xs) (hb : Below B w w') : CellsIn w' B A xs := by
  intro hp
  obtain ⟨ad, e, hlt, hc⟩ := h hp
  refine ⟨ad, e, hlt, fun j v hv => ?_⟩
  have hbl : (ad.add j).block = ad.block := by unfold Addr.add; split <;> rfl
  exact (hb.cell (p := ad.add j) (by rw [hbl]; exact hlt)).trans (hc j v hv)
theorem CellsIn.more {w : World} {B B' : Nat} {A : Option Addr} {xs : List Value} (h : CellsIn w B A xs) (hB : B ≤ B') : CellsIn w B' A xs := fun hp => by
  obtain ⟨ad, e, hlt, hc⟩ := h hp
  exact ⟨ad, e, Nat.lt_of_lt_of_le hlt hB, hc⟩
theorem CellsIn.up {w w' : World} {A : Option Addr} {xs : List Value} (h : CellsIn w w.heap.size A xs) (hb : Below w.heap.size w w') : CellsIn w' w'.heap.size A xs := (h.below hb).more hb.size
theorem add_addN (a : Addr) (l j : Nat) : (a.add l).add j = a.add (l + j) := by
  unfold Addr.add
  by_cases h : l = 0
  · simp [h]
  · by_cases h2 : j = 0
    · simp [h, h2]
    · simp [h, h2, Nat.add_assoc]
/-- an aggregate's type -/
structure AggT (ty : TypeId) (z : Nat) : Prop where
  agg : ∀ w, (isAgg ty).run Tryd.prog w = .ok true w
  size : (Tryd.prog.info? ty).map (·.size) = some z
theorem run_loadAgg {ty : TypeId} {z : Nat} (D : AggT ty z) {w : World} {ad : Addr} (xs : List Value) (hx : xs.length = z) (h : ∀ j v, xs[j]? = some v → w.cell? (ad.add j) = some v) : (loadVar ty ad).run Tryd.prog w = .ok (.agg xs.toArray) w := by
  have hc := run_loadCells_list (P := Tryd.prog) w ad xs h
  have hs := D.size
  rw [hx] at hc
  cases hq : Tryd.prog.info? ty with
  | none => rw [hq] at hs; cases hs
  | some i =>
    rw [hq] at hs
    simp only [Option.map_some, Option.some.injEq] at hs
    simp [loadVar, D.agg, sizeOf, typeInfo, hq, hs, hc]
theorem CellsIn.load {ty : TypeId} {z : Nat} (D : AggT ty z) {w : World} {B : Nat} {A : Option Addr} {L : List (List Value)} (h : CellsIn w B A L.flatten) (hL : isRows z L) (hz : 0 < z) {i : Nat} (hi : i < L.length) :
    ∃ ad, A = some ad ∧ (loadVar ty (ad.add (i * z))).run Tryd.prog w = .ok (.agg (L.getD i []).toArray) w := by
  have hfl := hL.flat_len
  have hp : 0 < L.length * z := Nat.mul_pos (by omega) hz
  obtain ⟨ad, e, _, hc⟩ := h (by omega)
  refine ⟨ad, e, run_loadAgg D _ (hL.get hi) (fun j v hv => ?_)⟩
  rw [add_addN]
  refine hc (i * z + j) v ?_
  have hj : j < z := by
    rcases Nat.lt_or_ge j z with h' | h'
    · exact h'
    · rw [List.getElem?_eq_none (by rw [hL.get hi]; exact h')] at hv
      cases hv
  rw [hL.flat_get i j hi hj]
  exact hv
/-- cells of a box, at a place -/
theorem box_cell {w0 u : World} {M : Boxes} {g k : Nat} {t : TypeId} {cs : Array Value} {v : Value} (hu : EnvC w0 M u) (hm : (g, Obj.cells cs t (0, 0)) ∈ M) (h : cs[k]? = some v) : u.cell? ⟨g, k, none⟩ = some v := by
  rw [Row.cell (EnvX.row hu hm)]
  exact h
theorem box_agg {ty : TypeId} {z : Nat} (D : AggT ty z) {w0 u : World} {M : Boxes} {g k : Nat} {t : TypeId} {cs : Array Value} (hu : EnvC w0 M u) (hm : (g, Obj.cells cs t (0, 0)) ∈ M) (xs : List Value) (hx : xs.length = z) (h : (cs.toList.drop k).take z = xs) : (loadVar ty ⟨g, k, none⟩).run Tryd.prog u = .ok (.agg xs.toArray) u := by
  refine run_loadAgg D xs hx fun j v hv => ?_
  rw [Addr.add_mid]
  refine box_cell hu hm ?_
  subst h
  have hj : j < z := by
    rcases Nat.lt_or_ge j z with h' | h'
    · exact h'
    · rw [List.getElem?_eq_none (by omega)] at hv
      cases hv
  rw [List.getElem?_take_of_lt hj, List.getElem?_drop, Array.getElem?_toList] at hv
  exact hv
section
variable {a : Act} {dst : Option Tmp} {x : Operand} {ty ty' : TypeId} {pos : String} {after : Array Edge} {gd : Option (Nat × Bool)}
theorem load_any_op {ad : Addr} {v : Value} (u : World) (hr : (loadVar ty' ad).run Tryd.prog u = .ok v u) (hx : a.eval x = .pointer (some ad)) :
    (execOp a.eval ⟨dst, .load ty' x, ty, pos, after, gd⟩).run Tryd.prog u = .ok (.value v) u := by
  unfold execOp
  simp only [hx, Instr.loadAt, Instr.sureAddr, Sem.run_bind, Sem.run_pure, Result.andThen_ok, hr]
/-- a load of one cell (an int, a slice, a function) -/
theorem run_load_one {ad : Addr} {v : Value} (ha : ∀ w, (isAgg ty').run Tryd.prog w = .ok false w) (u : World) (h : u.cell? ad = some v) : (loadVar ty' ad).run Tryd.prog u = .ok v u := by
  have h' : (load ad).run Tryd.prog u = .ok v u := by rw [run_load, h]
  simp only [loadVar, Sem.run_bind, ha, Result.andThen_ok, Bool.false_eq_true, if_false, h']
end
/-- an element's type: its slice's type, its own, its cells, its bytes -/
structure ElemT (st e : TypeId) (z bytes : Nat) (zero : Value) : Prop where
  und : Tryd.prog.underlying st = some (.slice e)
  info : (Tryd.prog.info? e).map (fun i => (i.zero, i.size, i.bytes)) = some (some zero, z, bytes)
  zs : zero.cells.size = z
  pos : 0 < z
  small : bytes ≤ 1000
  smallz : z ≤ 1000
def FreshR (e : TypeId) (z n : Nat) (xs : List Value) (x : Value) (N : Boxes) : Prop :=
  (∃ g cap cur, x = .slice (some ⟨g, 0, none⟩) n cap ∧ N = [(g, Obj.cells cur e (0, 0))] ∧ n ≤ cap ∧ cap ≤ maxLen ∧ cur.size = cap * z ∧ cur.toList.take (n * z) = xs) ∨
  (x = .slice none 0 0 ∧ N = [] ∧ n = 0 ∧ xs = [])
theorem fresh_of_own {w : World} {B z n : Nat} {e : TypeId} {v : Value} {xs : List Value} (h : w.ownsRow B e z v n xs) : ∃ N, FreshR e z n xs v N ∧ ∀ y ∈ N, B ≤ y.1 ∧ w.heap[y.1]? = some y.2 ∧ v.ownBlock = some y.1 := by
  rcases h.2 with ⟨e1, e0⟩ | ⟨g, cap, cur, rfl, h1, h2, h3, h4, h5, h6⟩
  · subst e0
    exact ⟨[], .inr ⟨e1, rfl, rfl, List.eq_nil_of_length_eq_zero (by rw [h.1, Nat.zero_mul])⟩, fun y hy => by cases hy⟩
  · refine ⟨_, .inl ⟨g, cap, cur, rfl, rfl, h3, h4, h5, h6⟩, fun y hy => ?_⟩
    cases List.mem_singleton.1 hy
    exact ⟨h1, h2, rfl⟩
theorem FreshR.own {w : World} {B z n : Nat} {e : TypeId} {v : Value} {xs : List Value} {N : Boxes} (h : FreshR e z n xs v N) (hl : xs.length = n * z) (hN : ∀ y ∈ N, B ≤ y.1 ∧ w.heap[y.1]? = some y.2) : w.ownsRow B e z v n xs := by
  refine ⟨hl, ?_⟩
  rcases h with ⟨g, cap, cur, rfl, rfl, h3⟩ | ⟨rfl, rfl, rfl, rfl⟩
  · obtain ⟨k1, k2⟩ := hN _ (List.mem_singleton.2 rfl)
    exact .inr ⟨g, cap, cur, rfl, k1, k2, h3⟩
  · exact .inl ⟨rfl, rfl⟩
theorem FreshR.block {z n : Nat} {e : TypeId} {v : Value} {xs : List Value} {N : Boxes} (h : FreshR e z n xs v N) : ∀ g, v.ownBlock = some g → ∃ o, (g, o) ∈ N := by
  intro g hg
  rcases h with ⟨g', cap, cur, rfl, rfl, h3⟩ | ⟨rfl, rfl, rfl, rfl⟩
  · cases hg
    exact ⟨_, List.mem_singleton.2 rfl⟩
  · cases hg
theorem own_cells {w : World} {B z n c : Nat} {e : TypeId} {A : Option Addr} {xs : List Value} (h : w.ownsRow B e z (.slice A n c) n xs) : CellsIn w w.heap.size A xs := by
  intro hp
  rcases h.2 with ⟨e1, e2⟩ | ⟨g, cap, cur, e1, _, hg, _⟩
  · have := h.1
    rw [e2, Nat.zero_mul] at this
    omega
  · injection e1 with e1 e2 e3
    subst e1
    exact ⟨_, rfl, Row.lt (t := e) hg, fun j v hv => h.cells (g := g) rfl j v hv⟩
/-- a call that hands back a new row -/
theorem callsR_fresh {f : FuncId} {args : Array Value} {u : World} {e : TypeId} {z n : Nat} {xs : List Value} (h : Calls Tryd.prog f args u fun en w' => (∃ v, en = .returned v ∧ w'.ownsRow u.heap.size e z v n xs) ∧ Below u.heap.size u w') :
    Calls Tryd.prog f args u fun en w'' => ∃ x N, en = .returned x ∧ FreshR e z n xs x N ∧ Below u.heap.size u w'' ∧ ∀ y ∈ N, u.heap.size ≤ y.1 ∧ w''.heap[y.1]? = some y.2 :=
  h.mono fun en w' ⟨⟨v, he, hv⟩, hb⟩ => by
    obtain ⟨N, hF, hN⟩ := fresh_of_own hv
    exact ⟨v, N, he, hF, hb, fun y hy => ⟨(hN y hy).1, (hN y hy).2.1⟩⟩
section
variable {st e : TypeId} {z bytes : Nat} {zero : Value}
theorem appendR (T : ElemT st e z bytes zero) {w : World} {B n : Nat} {v : Value} {xs : List Value} (h : w.ownsRow B e z v n xs) {ys : List Value} {ad : Addr} {m c : Nat} (hy : ys.length = m * z) (hc : ∀ j u, ys[j]? = some u → w.cell? (ad.add j) = some u) (h1 : ∀ u ∈ ys, u.oneCell' = true) (hs : n + m ≤ 2000000) (hB : B ≤ w.heap.size) :
    ∃ v' w', (Builtin.append_ #[st, st] st #[v, .slice (some ad) m c]).run Tryd.prog w = .ok v' w' ∧ w'.ownsRow B e z v' (n + m) (xs ++ ys) ∧ w.grownBy w' v.ownBlock ∧ (v'.ownBlock = v.ownBlock ∨ v'.ownBlock = some w.heap.size) := by
  cases hq : Tryd.prog.info? e with
  | none => have := T.info; rw [hq] at this; cases this
  | some i =>
    have hi := T.info
    rw [hq] at hi
    simp only [Option.map_some, Option.some.injEq, Prod.mk.injEq] at hi
    obtain ⟨k1, k2, k3⟩ := hi
    have hsm := T.small
    have hmul : (n + m) * bytes ≤ 2000000 * 1000 := Nat.mul_le_mul hs hsm
    obtain ⟨v', w', hrun, hown', hg, _, ho⟩ := run_append_own_at (P := Tryd.prog) w B st st e i zero z bytes T.und hq k1 k2 k3 T.zs T.pos v n xs h ad m c ys hy hc h1 (by unfold maxLen; omega) (by omega) hB
    exact ⟨v', w', hrun, hown', hg, ho⟩
/-- a literal of one element -/
def BuiltR (e : TypeId) (ys : List Value) (v : Value) (N : Boxes) : Prop := ∃ g, v = .slice (some ⟨g, 0, none⟩) 1 1 ∧ N = [(g, Obj.cells ys.toArray e (0, 0))]
theorem run_buildR (T : ElemT st e z bytes zero) (ys : List Value) (hy : ys.length = z) (h1 : ∀ u ∈ ys, u.oneCell' = true) (u : World) : (Instr.buildSlice st 1 #[(0, .agg ys.toArray)]).run Tryd.prog u = .ok (.slice (some ⟨u.heap.size, 0, none⟩) 1 1) (u.alloc (.cells ys.toArray e)) := by
  cases hq : Tryd.prog.info? e with
  | none => have := T.info; rw [hq] at this; cases this
  | some i =>
    have hi := T.info
    rw [hq] at hi
    simp only [Option.map_some, Option.some.injEq, Prod.mk.injEq] at hi
    obtain ⟨k1, k2, k3⟩ := hi
    have hsm := T.small
    have hsz2 := T.smallz
    have hpz := T.pos
    refine run_buildSlice u st e 1 _ ys.toArray i zero T.und hq k1 (by omega) (by omega) ?_
    have hsz : (Value.agg ys.toArray).cells.size = z := by simp [Value.cells, hy]
    rw [k2]
    have hf := Great.fill_whole (s := z) T.pos [.agg ys.toArray] ((Array.range (1 * z)).map (zero.cells[· % zero.cells.size]!)) (by intro v hv; cases List.mem_singleton.1 hv; exact hsz) (by simp)
    simpa [Value.cells] using hf
theorem FAt_buildR (T : ElemT st e z bytes zero) {ys : List Value} (hy : ys.length = z) (h1 : ∀ u ∈ ys, u.oneCell' = true) {a : Act} {dst : Option Tmp} {x : Operand} {ty : TypeId} {pos : String} {after : Array Edge} {gd : Option (Nat × Bool)} (hx : a.eval x = .agg ys.toArray) (u : World) :
    FAt Tryd.prog ⟨dst, .buildSlice st 1 #[(0, x)], ty, pos, after, gd⟩ a (BuiltR e ys) u := by
  unfold FAt execOp
  simp only [List.map_toArray, List.map_cons, List.map_nil, hx, Sem.run_bind, Sem.run_pure, run_buildR T ys hy h1 u, Result.andThen_ok]
  refine ⟨(Below.refl _ _).alloc (Nat.le_refl _) _, _, ⟨_, rfl, rfl⟩, fun y hy => ?_⟩
  cases List.mem_singleton.1 hy
  exact ⟨Nat.le_refl _, heap_alloc_new u _⟩
/-- an append of one element in a region over boxes: what it leaves -/
def GrownR (w0 : World) (e : TypeId) (z n : Nat) (xs : List Value) (M0 : Boxes) (v : Value) (M' : Boxes) : Prop := ∃ N, M' = N ++ M0 ∧ FreshR e z n xs v N ∧ freshN w0 N M0
theorem appR_op (T : ElemT st e z bytes zero) {w0 u : World} {M : Boxes} (M0 : Boxes) {N : Boxes} {n m c : Nat} {xs : List Value} {v : Value} {ys : List Value} {g : Nat} {t : TypeId} {a : Act} {dst : Option Tmp} {y x : Operand} {pos : String} {after : Array Edge} {gd : Option (Nat × Bool)}
    (hu : EnvX w0 u M) (hl : xs.length = n * z) (hy : ys.length = m * z) (h1 : ∀ u ∈ ys, u.oneCell' = true) (hF : FreshR e z n xs v N) (hN : ∀ y ∈ N, y ∈ M ∧ w0.heap.size ≤ y.1) (hg : (g, Obj.cells ys.toArray t (0, 0)) ∈ M) (hM0 : ∀ z ∈ M0, z ∈ M ∧ ∀ y ∈ N, z.1 ≠ y.1) (hs : n + m ≤ 2000000)
    (hyv : a.eval y = v) (hx : a.eval x = .slice (some ⟨g, 0, none⟩) m c) :
    ∃ v' u' M', (execOp a.eval ⟨dst, .call { callee := .builtin .append, args := #[y, x], argTypes := #[st, st] }, st, pos, after, gd⟩).run Tryd.prog u = .ok (.value v') u' ∧ EnvX w0 u' M' ∧ GrownR w0 e z (n + m) (xs ++ ys) M0 v' M' := by
  have hown : u.ownsRow w0.heap.size e z v n xs := hF.own hl (fun y hy => ⟨(hN y hy).2, hu.box _ _ (hN y hy).1⟩)
  have hcell : ∀ j c, ys[j]? = some c → u.cell? ((⟨g, 0, none⟩ : Addr).add j) = some c := by
    intro j c hc
    rw [Addr.add_mid, Nat.zero_add]
    exact box_cell hu hg (by simpa using hc)
  obtain ⟨v', u', hrun, hown', hgr, hob⟩ := appendR T (c := c) hown hy hcell h1 hs hu.bel.size
  obtain ⟨N', hF', hN'⟩ := fresh_of_own hown'
  refine ⟨v', u', N' ++ M0, ?_, ?_, N', rfl, hF', ?_⟩
  · unfold execOp
    simp only [resolve, invoke, builtin, Sem.run_bind, Sem.run_pure, Result.andThen_ok, List.map_toArray, List.map_cons, List.map_nil, hyv, hx, hrun]
  · have hbel : Below w0.heap.size u u' := below_of_grown hgr (fun r hr => (hown.lt r hr).1) hu.bel.size
    refine ⟨hu.bel.trans hbel, fun g' o hm => ?_⟩
    rcases List.mem_append.1 hm with e | e
    · exact (hN' _ e).2.1
    · have hin := hM0 _ e
      rw [hgr.block g' (hu.lt hin.1) (fun e2 => by
        obtain ⟨o2, ho2⟩ := hF.block g' e2.symm
        exact hin.2 _ ho2 rfl)]
      exact hu.box _ _ hin.1
  · intro y hy
    refine ⟨(hN' y hy).1, fun z hz e => ?_⟩
    have hb := (hN' y hy).2.2
    have hin := hM0 z hz
    rcases hob with h | h
    · obtain ⟨o2, ho2⟩ := hF.block y.1 (h.symm.trans hb)
      exact hin.2 _ ho2 e
    · have h1 := hu.lt (g := z.1) (o := z.2) hin.1
      have h2 : u.heap.size = y.1 := Option.some.inj (h.symm.trans hb)
      omega
/-- two parts that fill a value -/
theorem fill_two {place : Nat → Option (Nat × Nat)} (A B zs : Array Value) {p q : Nat} (hp : A.size = p) (hq : B.size = q) (h0 : place 0 = some (0, p)) (h1 : place 1 = some (p, q)) (hz : zs.size = p + q) :
    Instr.fill place zs [(0, .agg A), (1, .agg B)] = some (A ++ B) := by
  subst hp hq
  obtain ⟨g1, g2⟩ := Great.foldl_set 0 A.toList 0 zs
  obtain ⟨k1, k2⟩ := Great.foldl_set A.size B.toList 0 ((A.toList.zipIdx 0).foldl (fun cs (x : Value × Nat) => cs.setIfInBounds (0 + x.2) x.1) zs)
  have e1 : (A.zipIdx.foldl (fun cs (x : Value × Nat) => cs.setIfInBounds (0 + x.2) x.1) zs) = (A.toList.zipIdx 0).foldl (fun cs (x : Value × Nat) => cs.setIfInBounds (0 + x.2) x.1) zs := by rw [← Array.foldl_toList, Array.toList_zipIdx]
  have e2 : ∀ ws : Array Value, (B.zipIdx.foldl (fun cs (x : Value × Nat) => cs.setIfInBounds (A.size + x.2) x.1) ws) = (B.toList.zipIdx 0).foldl (fun cs (x : Value × Nat) => cs.setIfInBounds (A.size + x.2) x.1) ws := fun ws => by rw [← Array.foldl_toList, Array.toList_zipIdx]
  unfold Instr.fill
  simp only [h0, Value.cells, e1]
  split
  · rename_i h
    simp at h
    omega
  unfold Instr.fill
  simp only [h1, Value.cells, e2]
  split
  · rename_i h
    simp only [g1] at h
    simp at h
    omega
  unfold Instr.fill
  congr 1
  apply Array.ext_getElem?
  intro k
  rw [k2 k, g2 k, Array.getElem?_append]
  have g3 : ((A.toList.zipIdx 0).foldl (fun cs (x : Value × Nat) => cs.setIfInBounds x.2 x.1) zs).size = zs.size := by simpa using g1
  simp only [Array.length_toList, Nat.add_zero, Nat.zero_add, Nat.sub_zero, Array.getElem?_toList, g3]
  by_cases h : k < A.size
  · rw [if_pos h, if_neg (by omega), if_pos (by omega)]
  · rw [if_neg h]
    by_cases h' : k < A.size + B.size
    · rw [if_pos (by omega)]
    · have h3 : zs[k]? = none := Array.getElem?_eq_none (by omega)
      have h4 : B[k - A.size]? = none := Array.getElem?_eq_none (by omega)
      rw [if_neg (by omega), if_neg (by omega), h3, h4]
/-- an array's element, out of its value -/
theorem index_op {t e : TypeId} {len z : Nat} (hu : Tryd.prog.underlying t = some (.array len e)) (D : AggT e z) {cs : Array Value} {i : Nat} (hi : i < len) {v : Array Value} (hv : cs.extract (i * z) (i * z + z) = v) {a : Act} {dst : Option Tmp} {x y : Operand} {ty : TypeId} {pos : String} {after : Array Edge} {gd : Option (Nat × Bool)} (u : World)
    (hx : a.eval x = .agg cs) (hy : a.eval y = .int .i64 (i : Int)) : (execOp a.eval ⟨dst, .index t x y, ty, pos, after, gd⟩).run Tryd.prog u = .ok (.value (.agg v)) u := by
  have hs := D.size
  cases hq : Tryd.prog.info? e with
  | none => rw [hq] at hs; cases hs
  | some k =>
    rw [hq] at hs
    simp only [Option.map_some, Option.some.injEq] at hs
    have hsz : (sizeOf e).run Tryd.prog u = .ok z u := by simp [sizeOf, typeInfo, hq, hs]
    have hw : IntKind.i64.wrap (i : Int) = (i : Int) ∨ True := .inr trivial
    have h1 : (0 : Int) ≤ (i : Int) ∧ (i : Int) < (len : Int) := by omega
    have hp : (part e cs (i * z)).run Tryd.prog u = .ok (.agg v) u := by
      simp [part, D.agg, hsz, hv]
    unfold execOp
    simp only [hx, hy]
    simp [Instr.index, asIntOf, run_underlying hu, h1, hsz, hp]
    omega
/-- make([]T, 0, n) -/
theorem FAt_makeR (T : ElemT st e z bytes zero) {n : Nat} (hn : n ≤ 10000) {a : Act} {dst : Option Tmp} {x : Operand} {ty : TypeId} {pos : String} {after : Array Edge} {gd : Option (Nat × Bool)} (hx : a.eval x = .int .i64 (n : Int)) (u : World) :
    FAt Tryd.prog ⟨dst, .makeSlice st (.const (.int .i64 0)) x, ty, pos, after, gd⟩ a (fun v N => ∃ g cur, v = .slice (some ⟨g, 0, none⟩) 0 n ∧ N = [(g, Obj.cells cur e (0, 0))] ∧ cur.size = n * z) u := by
  cases hq : Tryd.prog.info? e with
  | none => have := T.info; rw [hq] at this; cases this
  | some i =>
    have hi := T.info
    rw [hq] at hi
    simp only [Option.map_some, Option.some.injEq, Prod.mk.injEq] at hi
    obtain ⟨k1, k2, k3⟩ := hi
    have hsm := T.small
    have hmul : bytes * n ≤ 1000 * 10000 := Nat.mul_le_mul hsm hn
    have hr := run_make (P := Tryd.prog) u st e i zero T.und hq k1 .i64 .i64 0 (n : Int) (by omega) (by omega) (by rw [k3, ← Int.natCast_mul]; omega) (by omega)
    have ha0 : a.eval (.const (.int .i64 0)) = .int .i64 0 := rfl
    unfold FAt execOp
    simp only [hx, ha0, Sem.run_bind, Sem.run_pure, hr, Result.andThen_ok]
    refine ⟨(Below.refl _ _).alloc (Nat.le_refl _) _, [(u.heap.size, Obj.cells (madeCells zero.cells ((n : Int).toNat * i.size)) e (0, 0))], ⟨u.heap.size, madeCells zero.cells ((n : Int).toNat * i.size), rfl, rfl, ?_⟩, fun y hy => ?_⟩
    · rw [size_madeCells, k2]
      simp
    · cases List.mem_singleton.1 hy
      exact ⟨Nat.le_refl _, heap_alloc_new u _⟩
end
end Go.Proofs.YtbjojpgedcikiaaDoor

namespace Go.Proofs.YtbjojpgedcikiaaDoor
set_option maxRecDepth 8000
open Go.RowKit

def InI (r : Int) : Prop := -9223372036854775808 ≤ r ∧ r ≤ 9223372036854775807
theorem wrap64_in {r : Int} (h : InI r) : IntKind.i64.wrap r = r := by unfold InI at h; rw [IntKind.wrap_i64]; omega
theorem oneInt : ∀ w, (isAgg 3).run Tryd.prog w = .ok false w := fun w => by simp [isAgg, run_underlying Tryd.underlying3]
theorem oneIds : ∀ w, (isAgg 22).run Tryd.prog w = .ok false w := fun w => by simp [isAgg, run_underlying Tryd.underlying22]
section
variable {a : Act} {dst : Option Tmp} {x y : Operand} {ty : TypeId} {pos : String} {after : Array Edge} {gd : Option (Nat × Bool)}
theorem sub_op {m k r : Int} (u : World) (hr : m - k = r) (hb : InI r) (hx : a.eval x = .int .i64 m) (hy : a.eval y = .int .i64 k) :
    (execOp a.eval ⟨dst, .binOp .sub 3 x y 3, ty, pos, after, gd⟩).run Tryd.prog u = .ok (.value (.int .i64 r)) u := by
  have hw := wrap64_in hb
  subst hr
  unfold execOp
  simp only [hx, hy]
  go_simp
theorem add_op {m k r : Int} (u : World) (hr : m + k = r) (hb : InI r) (hx : a.eval x = .int .i64 m) (hy : a.eval y = .int .i64 k) :
    (execOp a.eval ⟨dst, .binOp .add 3 x y 3, ty, pos, after, gd⟩).run Tryd.prog u = .ok (.value (.int .i64 r)) u := by
  have hw := wrap64_in hb
  subst hr
  unfold execOp
  simp only [hx, hy]
  go_simp
theorem geq_op {m k : Int} {b : Bool} (u : World) (hb : decide (k ≤ m) = b) (hx : a.eval x = .int .i64 m) (hy : a.eval y = .int .i64 k) :
    (execOp a.eval ⟨dst, .binOp .geq 3 x y 3, ty, pos, after, gd⟩).run Tryd.prog u = .ok (.value (.bool b)) u := by
  subst hb
  unfold execOp
  simp only [hx, hy]
  go_simp
theorem eqlI_op {m k : Int} {b : Bool} (u : World) (hb : decide (m = k) = b) (hx : a.eval x = .int .i64 m) (hy : a.eval y = .int .i64 k) :
    (execOp a.eval ⟨dst, .binOp .eql 3 x y 3, ty, pos, after, gd⟩).run Tryd.prog u = .ok (.value (.bool b)) u := by
  subst hb
  unfold execOp
  simp only [hx, hy]
  go_simp
  rfl
theorem buildA_op {t : TypeId} {parts : Array (Nat × Operand)} {cs : Array Value} (u : World) (hb : Tryd.prog.built t (parts.toList.map fun x => (x.1, a.eval x.2)) = some cs) :
    (execOp a.eval ⟨dst, .build t parts, ty, pos, after, gd⟩).run Tryd.prog u = .ok (.value (.agg cs)) u := by
  have hb' : Tryd.prog.built t (parts.map fun (i, x) => (i, a.eval x)).toList = some cs := by
    rw [Array.toList_map]
    exact hb
  unfold execOp
  simp only [Sem.run_bind, Sem.run_pure, run_build u t _ _ hb', Result.andThen_ok]
end
end Go.Proofs.YtbjojpgedcikiaaDoor

namespace Go.Proofs.YtbjojpgedcikiaaDoor
set_option maxRecDepth 8000
open Go.RowKit

theorem run_callV {P : Program} {a : Act} {x : Operand} {f : FuncId} {caps args all : Array Value} {xs : Array Operand} {ats : Array TypeId} {fn : Func} {c : Code} {dst : Option Tmp} {ty : TypeId} {pos : String} {after : Array Edge} {gd : Option (Nat × Bool)} (hx : a.eval x = .func (.func f) #[] caps) (hargs : xs.toList.map a.eval = args.toList)
    (hall : args.toList ++ caps.toList = all.toList) (hfn : P.funcs[f]? = some fn) (hname : (fn.name == "runtime.NumGoroutine") = false) (hb : fn.body = some c) (u : World) :
    (execOp a.eval ⟨dst, .call { callee := .value x, args := xs, argTypes := ats }, ty, pos, after, gd⟩).run P u = .ok (.enter f all) u := by
  have ha : xs.map a.eval = args := by
    apply Array.ext'
    rw [Array.toList_map]
    exact hargs
  have h2 : args ++ caps = all := by
    apply Array.ext'
    rw [Array.toList_append]
    exact hall
  unfold execOp
  simp only [resolve, hx, ha, Deferred.ofValue, invoke, Sem.run_bind, Sem.run_pure, Result.andThen_ok, Array.empty_append, h2]
  exact run_enter hfn hname hb _ u
section
variable {P : Program} {l : List Oper} {C : World → Prop} {Q : Act → Prop} {a : Act} {i : Nat} {rest : List Nat} {dst : Option Tmp} {ty : TypeId} {pos : String} {after : Array Edge} {gd : Option (Nat × Bool)}
theorem wpG_callV {f : FuncId} {x : Operand} {xs : Array Operand} {ats : Array TypeId} {fn : Func} {c : Code} {v : Value} {args caps all : Array Value} (ho : l[i]? = some ⟨dst, .call { callee := .value x, args := xs, argTypes := ats }, ty, pos, after, gd⟩)
    (hw : Region.wanted ⟨dst, .call { callee := .value x, args := xs, argTypes := ats }, ty, pos, after, gd⟩ (yielded l.toArray a.tmps) = true)
    (hx : a.eval x = .func (.func f) #[] caps) (hargs : xs.toList.map a.eval = args.toList) (hall : args.toList ++ caps.toList = all.toList) (hfn : P.funcs[f]? = some fn) (hname : (fn.name == "runtime.NumGoroutine") = false) (hb : fn.body = some c)
    (hcall : ∀ u, C u → Calls P f all u (fun e w'' => e = .returned v ∧ Below u.heap.size u w''))
    (h : ∀ K : Act → Prop, (∀ a, wpG P l C Q rest a → K a) → Oper.quiet P ⟨dst, .move (.const v), ty, pos, after, gd⟩ a C K) {u0 : World} (h0 : C u0) : wpG P l C Q (i :: rest) a := by
  refine ⟨?_⟩
  unfold wpG0
  simp only [ho]
  rw [if_pos hw]
  obtain ⟨v', hv, hK⟩ := h (wpG0 P l C Q rest) (fun _ h => h.out)
  have e : v' = v := by
    have h1 := hv u0 h0
    unfold Oper.quietAt execOp at h1
    exact h1.2.symm
  rw [e] at hK
  refine ⟨v, fun u hu => ?_, hK⟩
  unfold GAt
  rw [run_callV hx hargs hall hfn hname hb u]
  exact ⟨rfl, hcall u hu⟩
theorem hOp_putAt {P : Program} {ops : Array Oper} {w0 : World} {i : Nat} {K : Act → Boxes → Prop} {a : Act} {M : Boxes} {ty : TypeId} {pos : String} {after : Array Edge} {ty' : TypeId} {x y : Operand} (ho : ops[i]? = some ⟨none, .store ty' x y, ty, pos, after, none⟩)
    (g k : Nat) (v : Value) (hx : a.eval x = .pointer (some ⟨g, k, none⟩)) (hy : a.eval y = v) (hg : w0.heap.size ≤ g) (t : TypeId) (old cs : Array Value) (hm : (g, Obj.cells old t (0, 0)) ∈ M)
    (hi : (P.info? ty').map (·.size) = some v.cells.size) (hk : k + v.cells.size ≤ old.size) (h1 : v.cells.all (·.oneCell') = true) (hcs : old.toList.take k ++ v.cells.toList ++ old.toList.drop (k + v.cells.size) = cs.toList) (M' : Boxes) (hM' : ∀ x ∈ M', x = (g, Obj.cells cs t (0, 0)) ∨ (x ∈ M ∧ x.1 ≠ g))
    (h : (∃ u, EnvX w0 u M') → K a M') : hOp P ops w0 i K a M := hOp_storeAt ho g k v hx hy hg t old cs hm hi hk h1 hcs M' hM' h
theorem OUpon_callV {w0 : World} {R : Value → Boxes → Prop} {f : FuncId} {x : Operand} {xs : Array Operand} {ats : Array TypeId} {fn : Func} {c : Code} {args caps all : Array Value}
    (hx : a.eval x = .func (.func f) #[] caps) (hargs : xs.toList.map a.eval = args.toList) (hall : args.toList ++ caps.toList = all.toList) (hfn : P.funcs[f]? = some fn) (hname : (fn.name == "runtime.NumGoroutine") = false) (hb : fn.body = some c) (u : World)
    (hcall : Calls P f all u (fun e w'' => ∃ x M', e = .returned x ∧ EnvX w0 w'' M' ∧ R x M')) :
    OUpon P w0 R ((execOp a.eval ⟨dst, .call { callee := .value x, args := xs, argTypes := ats }, ty, pos, after, gd⟩).run P u) := by
  rw [run_callV hx hargs hall hfn hname hb u]
  exact hcall
end
section
variable {a : Act} {dst : Option Tmp} {x y : Operand} {ty : TypeId} {pos : String} {after : Array Edge} {gd : Option (Nat × Bool)}
theorem sizeOf_info {e : TypeId} {z : Nat} (h : (Tryd.prog.info? e).map (·.size) = some z) (u : World) : (sizeOf e).run Tryd.prog u = .ok z u := by
  cases hq : Tryd.prog.info? e with
  | none => rw [hq] at h; cases h
  | some k =>
    rw [hq] at h
    simp only [Option.map_some, Option.some.injEq] at h
    simp [sizeOf, typeInfo, hq, h]
theorem idxArr_op {t e : TypeId} {len z : Nat} (hu : Tryd.prog.underlying t = some (.array len e)) (hz : (Tryd.prog.info? e).map (·.size) = some z) {g o i : Nat} (hi : i < len) (u : World)
    (hx : a.eval x = .pointer (some ⟨g, o, none⟩)) (hy : a.eval y = .int .i64 (i : Int)) :
    (execOp a.eval ⟨dst, .indexAddr t x y, ty, pos, after, gd⟩).run Tryd.prog u = .ok (.value (.pointer (some ⟨g, o + i * z, none⟩))) u := by
  have hl : Tryd.prog.arrayLen t = len := by simp [Program.arrayLen, hu]
  have he : Tryd.prog.elem t = e := by simp [Program.elem, hu]
  have hr := run_indexAt_array (P := Tryd.prog) u t ⟨g, o, none⟩ .i64 (i : Int) (by rw [hl, he]; exact hu)
  rw [hl, he, if_pos ⟨by omega, by omega⟩, sizeOf_info hz u, Result.andThen_ok, Int.toNat_natCast, Addr.add_mid] at hr
  unfold execOp
  simp only [hx, hy, Sem.run_bind, Sem.run_pure, hr, Result.andThen_ok]
theorem idxSl_op {t e : TypeId} {z : Nat} (hu : Tryd.prog.underlying t = some (.slice e)) (hz : (Tryd.prog.info? e).map (·.size) = some z) {ad : Addr} {n c i : Nat} (hi : i < n) (u : World)
    (hx : a.eval x = .slice (some ad) n c) (hy : a.eval y = .int .i64 (i : Int)) :
    (execOp a.eval ⟨dst, .indexAddr t x y, ty, pos, after, gd⟩).run Tryd.prog u = .ok (.value (.pointer (some (ad.add (i * z))))) u := by
  have he : Tryd.prog.elem t = e := by simp [Program.elem, hu]
  have hr := run_indexAt_slice (P := Tryd.prog) u t ad n c .i64 (i : Int) (by rw [he]; exact hu)
  rw [he, if_pos ⟨by omega, by omega⟩, sizeOf_info hz u, Result.andThen_ok, Int.toNat_natCast] at hr
  unfold execOp
  simp only [hx, hy, Sem.run_bind, Sem.run_pure, hr, Result.andThen_ok]
theorem len_op {t e : TypeId} (hu : Tryd.prog.underlying t = some (.slice e)) {A : Option Addr} {n c : Nat} (hn : n < 9223372036854775808) (u : World) (hx : a.eval x = .slice A n c) :
    (execOp a.eval ⟨dst, .call { callee := .builtin .len, args := #[x], argTypes := #[t] }, ty, pos, after, gd⟩).run Tryd.prog u = .ok (.value (.int .i64 (n : Int))) u := by
  have he : Tryd.prog.elem t = e := by simp [Program.elem, hu]
  have hr := run_len_slice (P := Tryd.prog) u t ty A n c (by rw [he]; exact hu)
  have hg : goInt n = .int .i64 (n : Int) := rfl
  unfold execOp
  simp only [resolve, invoke, builtin, Sem.run_bind, Sem.run_pure, Result.andThen_ok, List.map_toArray, List.map_cons, List.map_nil, hx, hr, hg]
theorem new_of {t : TypeId} {z : Value} {n : Nat} (h : (Tryd.prog.info? t).map (fun i => (i.zero, i.size)) = some (some z, n)) (a : Act) : NewAt Tryd.prog ⟨dst, .alloc t, ty, pos, after, gd⟩ a (.cells z.cells t (0, 0)) := fun u => by
  have hz := (zero_of_info h).1
  unfold execOp
  simp [Instr.alloc, hz, newVar, newRow]
end
end Go.Proofs.YtbjojpgedcikiaaDoor

namespace Go.Proofs.YtbjojpgedcikiaaDoor
set_option maxRecDepth 8000
open Go.RowKit

theorem elB : ElemT 38 5 1 1 (.int .u8 0) := ⟨Tryd.underlying38, by kernel_rfl, rfl, by decide, by decide, by decide⟩
section
variable {a : Act} {dst : Option Tmp} {x : Operand} {ty : TypeId} {pos : String} {after : Array Edge} {gd : Option (Nat × Bool)}
theorem sliceArr_op {ad : Addr} (u : World) (hx : a.eval x = .pointer (some ad)) :
    (execOp a.eval ⟨dst, .slice 24 x none none none, ty, pos, after, gd⟩).run Tryd.prog u = .ok (.value (.slice (some ad) 32 32)) u := by
  unfold execOp
  simp only [hx]
  go_simp
end
end Go.Proofs.YtbjojpgedcikiaaDoor

namespace Go.Proofs.YtbjojpgedcikiaaDoor
set_option maxRecDepth 8000
open Go

def Big : Nat := 115792089237316195423570985008687907853269984665640564039457584007913129639936
end Go.Proofs.YtbjojpgedcikiaaDoor

namespace Go.Proofs.YtbjojpgedcikiaaDoor
set_option maxRecDepth 8000
open Go

/-- word j of a number -/
def W (m j : Nat) : Nat := m / 2 ^ (64 * j) % 2 ^ 64
end Go.Proofs.YtbjojpgedcikiaaDoor

namespace Go.Proofs.YtbjojpgedcikiaaDoor
set_option maxRecDepth 8000

structure Tot where
  h : List Int
  w : Nat
  n : Int
theorem Tot.ext' {a b : Tot} (h1 : a.h = b.h) (h2 : a.w = b.w) (h3 : a.n = b.n) : a = b := by
  cases a; cases b; simp_all
instance : DecidableEq Tot := fun a b => decidable_of_iff (a.h = b.h ∧ a.w = b.w ∧ a.n = b.n) ⟨fun h => Tot.ext' h.1 h.2.1 h.2.2, fun h => by subst h; exact ⟨rfl, rfl, rfl⟩⟩
def noTot : Tot := ⟨sumL [4], 0, 0⟩
end Go.Proofs.YtbjojpgedcikiaaDoor

namespace Go.Proofs.YtbjojpgedcikiaaDoor
set_option maxRecDepth 8000
open Go.RowKit

def okT (t : Tot) : Prop := (t.h.length = 32 ∧ ∀ b ∈ t.h, 0 ≤ b ∧ b ≤ 255) ∧ t.w < Big ∧ -9223372036854775808 ≤ t.n ∧ t.n ≤ 9223372036854775807
def len32 (t : Tot) : Prop := t.h.length = 32
theorem aggIdT : AggT 24 32 := ⟨fun w => by simp [isAgg, run_underlying Tryd.underlying24], by kernel_rfl⟩
section
variable {w0 u : World} {M : Boxes} {g : Nat} {ty : TypeId} {t : Tot}
end
def okTs (l : List Tot) : Prop := ∀ t ∈ l, okT t
theorem okT.len {t : Tot} (h : okT t) : len32 t := h.1.1
theorem okTs.get {l : List Tot} (h : okTs l) {i : Nat} (hi : i < l.length) : okT (l.getD i noTot) := by
  rw [List.getD_eq_getElem?_getD, List.getElem?_eq_getElem hi]
  exact h _ (List.getElem_mem hi)
theorem okTs.take {l : List Tot} (h : okTs l) (k : Nat) : okTs (l.take k) := fun x hx => h x (List.mem_of_mem_take hx)
theorem okTs.drop {l : List Tot} (h : okTs l) (k : Nat) : okTs (l.drop k) := fun x hx => h x (List.mem_of_mem_drop hx)
end Go.Proofs.YtbjojpgedcikiaaDoor

namespace Go.Proofs.YtbjojpgedcikiaaDoor
set_option maxRecDepth 8000
open Go.RowKit

section
variable {st e : TypeId} {z bytes : Nat} {zero : Value}
/-- the cells of a source -/
def SrcAt (u : World) (ad : Addr) (ys : List Value) : Prop := ∀ j c, ys[j]? = some c → u.cell? (ad.add j) = some c
theorem src_box {w0 u : World} {M : Boxes} {g : Nat} {t : TypeId} {cs : Array Value} {ys : List Value} (hu : EnvC w0 M u) (hm : (g, Obj.cells cs t (0, 0)) ∈ M) {k : Nat} (h : (cs.toList.drop k).take ys.length = ys) : SrcAt u ⟨g, k, none⟩ ys := by
  intro j c hc
  rw [Addr.add_mid]
  refine box_cell hu hm ?_
  have hj : j < ys.length := by
    rcases Nat.lt_or_ge j ys.length with h' | h'
    · exact h'
    · rw [List.getElem?_eq_none h'] at hc; cases hc
  rw [← h, List.getElem?_take_of_lt hj, List.getElem?_drop, Array.getElem?_toList] at hc
  exact hc
theorem appX_op (T : ElemT st e z bytes zero) {w0 u : World} {M : Boxes} (M0 : Boxes) {N : Boxes} {n m c : Nat} {xs : List Value} {v : Value} {ys : List Value} {ad : Addr} {a : Act} {dst : Option Tmp} {y x : Operand} {pos : String} {after : Array Edge} {gd : Option (Nat × Bool)}
    (hu : EnvX w0 u M) (hl : xs.length = n * z) (hy : ys.length = m * z) (h1 : ∀ u ∈ ys, u.oneCell' = true) (hF : FreshR e z n xs v N) (hN : ∀ y ∈ N, y ∈ M ∧ w0.heap.size ≤ y.1) (hc : SrcAt u ad ys) (hM0 : ∀ z ∈ M0, z ∈ M ∧ ∀ y ∈ N, z.1 ≠ y.1) (hs : n + m ≤ 2000000)
    (hyv : a.eval y = v) (hx : a.eval x = .slice (some ad) m c) :
    ∃ v' u' M', (execOp a.eval ⟨dst, .call { callee := .builtin .append, args := #[y, x], argTypes := #[st, st] }, st, pos, after, gd⟩).run Tryd.prog u = .ok (.value v') u' ∧ EnvX w0 u' M' ∧ GrownR w0 e z (n + m) (xs ++ ys) M0 v' M' := by
  have hown : u.ownsRow w0.heap.size e z v n xs := hF.own hl (fun y hy => ⟨(hN y hy).2, hu.box _ _ (hN y hy).1⟩)
  obtain ⟨v', u', hrun, hown', hgr, hob⟩ := appendR T (c := c) hown hy hc h1 hs hu.bel.size
  obtain ⟨N', hF', hN'⟩ := fresh_of_own hown'
  refine ⟨v', u', N' ++ M0, ?_, ?_, N', rfl, hF', ?_⟩
  · unfold execOp
    simp only [resolve, invoke, builtin, Sem.run_bind, Sem.run_pure, Result.andThen_ok, List.map_toArray, List.map_cons, List.map_nil, hyv, hx, hrun]
  · have hbel : Below w0.heap.size u u' := below_of_grown hgr (fun r hr => (hown.lt r hr).1) hu.bel.size
    refine ⟨hu.bel.trans hbel, fun g' o hm => ?_⟩
    rcases List.mem_append.1 hm with e | e
    · exact (hN' _ e).2.1
    · have hin := hM0 _ e
      rw [hgr.block g' (hu.lt hin.1) (fun e2 => by
        obtain ⟨o2, ho2⟩ := hF.block g' e2.symm
        exact hin.2 _ ho2 rfl)]
      exact hu.box _ _ hin.1
  · intro y hy
    refine ⟨(hN' y hy).1, fun z hz e => ?_⟩
    have hb := (hN' y hy).2.2
    have hin := hM0 z hz
    rcases hob with h | h
    · obtain ⟨o2, ho2⟩ := hF.block y.1 (h.symm.trans hb)
      exact hin.2 _ ho2 e
    · have h1 := hu.lt (g := z.1) (o := z.2) hin.1
      have h2 : u.heap.size = y.1 := Option.some.inj (h.symm.trans hb)
      omega
end
end Go.Proofs.YtbjojpgedcikiaaDoor

namespace Go.Proofs.YtbjojpgedcikiaaDoor
set_option maxRecDepth 8000
open Go.RowKit

section
variable {a : Act} {dst : Option Tmp} {x y z : Operand} {ty : TypeId} {pos : String} {after : Array Edge} {gd : Option (Nat × Bool)}
end
theorem arrId_map {h : List Int} (hh : h.length = 32) : (arrB 32 h).toList = h.map u8v := by
  unfold arrB
  rw [hh]
  simp
end Go.Proofs.YtbjojpgedcikiaaDoor

namespace Go.Proofs.YtbjojpgedcikiaaDoor
set_option maxRecDepth 8000
open Go.RowKit

/-- one id of a list, as bytes at its place -/
theorem IdsIn.at {w : World} {B : Nat} {A : Option Addr} {l : List (List Int)} (h : IdsIn w B A l) (hl : isIds l) {i : Nat} (hi : i < l.length) : ∃ ad, A = some ad ∧ Bytes w B (some (ad.add (i * 32))) (l.getD i []) := by
  have hfl := hl.flat_len
  obtain ⟨ad, e, hb, hc⟩ := h (by omega)
  refine ⟨ad, e, fun _ => ⟨_, rfl, by rw [block_of_add]; exact hb, fun j v hv => ?_⟩⟩
  rw [add_add32]
  have hj : j < 32 := by
    rcases Nat.lt_or_ge j 32 with h' | h'
    · exact h'
    · rw [List.getElem?_eq_none (by rw [List.length_map, (hl.get hi).1]; exact h')] at hv
      cases hv
  refine hc (i * 32 + j) v ?_
  rw [List.getElem?_map, hl.flat_get i j hi hj]
  rwa [List.getElem?_map] at hv
theorem FreshI.form {l : List (List Int)} {x : Value} {N : Boxes} (h : FreshI l x N) : ∃ A c, x = .slice A l.length c ∧ l.length ≤ c ∧ c ≤ maxLen := by
  rcases h with ⟨g, cap, cur, rfl, _, h1, h2, _⟩ | ⟨rfl, _, rfl⟩
  · exact ⟨_, cap, rfl, h1, h2⟩
  · exact ⟨none, 0, rfl, Nat.le_refl _, Nat.zero_le _⟩
theorem FreshI.ids {w0 u : World} {M N : Boxes} {l : List (List Int)} {A : Option Addr} {n c : Nat} (h : FreshI l (.slice A n c) N) (hl : isIds l) (hu : EnvX w0 u M) (hN : ∀ y ∈ N, y ∈ M) : IdsIn u u.heap.size A l :=
  OwnI.ids (h.own (B := 0) hl (fun y hy => ⟨Nat.zero_le _, EnvX.box hu _ _ (hN y hy)⟩))
theorem lleaves_step {l : List (List Int)} {k : Nat} (h : k < l.length) : leavesL (l.take (k + 1)) = leavesL (l.take k) ++ [leafT (l.getD k [])] := by
  unfold leavesL
  exact take_snoc l leafT [] h
set_option maxRecDepth 20000 in
set_option maxHeartbeats 4000000 in
theorem bytes_srcI {u : World} {B g k : Nat} {xs : List Int} (hg : g < B) (h : SrcAt u ⟨g, k, none⟩ (xs.map u8v)) : Bytes u B (some ⟨g, k, none⟩) xs := fun _ => ⟨_, rfl, hg, h⟩
theorem id_src {x : List Int} (h : x.length = 32) : ((arrB 32 x).toList.drop 0).take (x.map u8v).length = x.map u8v := by
  rw [arrId_map h, List.drop_zero, List.take_length]
end Go.Proofs.YtbjojpgedcikiaaDoor

namespace Go.Proofs.YtbjojpgedcikiaaDoor
set_option maxRecDepth 8000
open Go.RowKit

theorem isRows.flat_take {z : Nat} {L : List (List Value)} (h : isRows z L) (k : Nat) : (L.take k).flatten = L.flatten.take (k * z) := by
  induction L generalizing k with
  | nil => simp
  | cons x L ih =>
    have hx := h x (List.mem_cons_self ..)
    cases k with
    | zero => simp
    | succ k =>
      have hk : (k + 1) * z - z = k * z := by rw [Nat.succ_mul]; omega
      rw [List.take_succ_cons, List.flatten_cons, List.flatten_cons, ih (fun y hy => h y (List.mem_cons_of_mem _ hy)), List.take_append, List.take_of_length_le (by rw [hx, Nat.succ_mul]; omega : x.length ≤ (k + 1) * z), hx, hk]
theorem isRows.flat_drop {z : Nat} {L : List (List Value)} (h : isRows z L) (k : Nat) : (L.drop k).flatten = L.flatten.drop (k * z) := by
  induction L generalizing k with
  | nil => simp
  | cons x L ih =>
    have hx := h x (List.mem_cons_self ..)
    cases k with
    | zero => simp
    | succ k =>
      have hk : (k + 1) * z - z = k * z := by rw [Nat.succ_mul]; omega
      rw [List.drop_succ_cons, List.flatten_cons, ih (fun y hy => h y (List.mem_cons_of_mem _ hy)), List.drop_append, List.drop_of_length_le (by rw [hx, Nat.succ_mul]; omega : x.length ≤ (k + 1) * z), hx, hk, List.nil_append]
theorem CellsIn.take {w : World} {B : Nat} {A : Option Addr} {xs : List Value} (h : CellsIn w B A xs) (k : Nat) : CellsIn w B A (xs.take k) := by
  intro hp
  rw [List.length_take] at hp
  obtain ⟨ad, e, hb, hc⟩ := h (by omega)
  refine ⟨ad, e, hb, fun j v hv => hc j v ?_⟩
  have hj : j < k := by
    rcases Nat.lt_or_ge j k with h' | h'
    · exact h'
    · rw [List.getElem?_eq_none (by rw [List.length_take]; omega)] at hv
      cases hv
  rwa [List.getElem?_take_of_lt hj] at hv
/-- where a cut slice begins -/
def cutX (z : Nat) (A : Option Addr) (l c : Nat) : Option Addr := if c = l then A else A.map (·.add (l * z))
theorem CellsIn.drop {w : World} {B : Nat} {A : Option Addr} {xs : List Value} (h : CellsIn w B A xs) (z k c : Nat) (hc : k < c ∨ xs.length ≤ k * z) : CellsIn w B (cutX z A k c) (xs.drop (k * z)) := by
  intro hp
  rw [List.length_drop] at hp
  obtain ⟨ad, rfl, hlt, hcell⟩ := h (by omega)
  have hne : ¬ c = k := by rcases hc with h | h <;> omega
  refine ⟨ad.add (k * z), by simp [cutX, hne], by rw [block_of_add]; exact hlt, fun j v hv => ?_⟩
  rw [add_addN]
  refine hcell (k * z + j) v ?_
  rwa [List.getElem?_drop] at hv
section
variable {st e : TypeId} {z bytes : Nat} {zero : Value}
theorem ElemT.elem (T : ElemT st e z bytes zero) : Tryd.prog.elem st = e := by simp [Program.elem, T.und]
variable {a : Act} {dst : Option Tmp} {x l h : Operand} {ty : TypeId} {pos : String} {after : Array Edge} {gd : Option (Nat × Bool)}
end
end Go.Proofs.YtbjojpgedcikiaaDoor
