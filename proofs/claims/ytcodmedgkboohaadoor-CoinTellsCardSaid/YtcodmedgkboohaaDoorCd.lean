/- Part of a proof. -/
import Derived.Test.YtcodmedgkboohaaDoorCc
import Derived.WalkKit
import Derived.ProofKit
import Derived.Handy
import Derived.Maps.AppendAt
import Derived.Laws.BytesArg
import Derived.OpenShut
import Derived.ChangeKeysEq
import Derived.Lib.SlBytesConst
import Derived.Deep.MidRow
import Derived.Laws.CopyOwn
import Derived.Laws.MakeOwn
import Derived.Deep.WholeRow
import Derived.Deep.Cut
import Derived.Deep.QuietTactic
import Derived.BigQuiet
import Derived.StillTailTactics
import Derived.Lib.Hide
import Derived.Laws.BitsAllLaws
import Derived.Deep.RegionHeld3
import Derived.Deep.RegionLaw
import Derived.Deep.RegionHeld
import Derived.Great.BuildSlice
import Derived.Laws.Bits64b
namespace Go.Proofs.YtcodmedgkboohaaDoor
set_option maxRecDepth 8000

/-- the greatest power of two that is less than n (n above 1) -/
def halfGo (n : Nat) : Nat → Nat → Nat
  | 0, k => k
  | f + 1, k => if 2 * k < n then halfGo n f (2 * k) else k
def halfT (n : Nat) : Nat := halfGo n n 1
theorem halfGo_spec (n : Nat) : ∀ (f k : Nat), 1 ≤ k → k < n → n ≤ k * 2 ^ f → k ≤ halfGo n f k ∧ halfGo n f k < n ∧ n ≤ 2 * halfGo n f k ∧ ∃ e, halfGo n f k = k * 2 ^ e
  | 0, k, _, hkn, hf => by
    rw [Nat.pow_zero, Nat.mul_one] at hf
    omega
  | f + 1, k, hk, hkn, hf => by
    unfold halfGo
    by_cases h : 2 * k < n
    · rw [if_pos h]
      obtain ⟨h1, h2, h3, e, h4⟩ := halfGo_spec n f (2 * k) (by omega) h (by rw [Nat.pow_succ] at hf; rw [Nat.mul_comm 2 k, Nat.mul_assoc, Nat.mul_comm 2]; exact hf)
      exact ⟨by omega, h2, h3, e + 1, by rw [h4, Nat.pow_succ, Nat.mul_comm 2 k, Nat.mul_assoc, Nat.mul_comm 2]⟩
    · rw [if_neg h]
      exact ⟨Nat.le_refl _, hkn, by omega, 0, by simp⟩
theorem half_spec {n : Nat} (h : 2 ≤ n) : 1 ≤ halfT n ∧ halfT n < n ∧ n ≤ 2 * halfT n ∧ ∃ e, halfT n = 2 ^ e := by
  have h0 : n ≤ 1 * 2 ^ n := by rw [Nat.one_mul]; exact Nat.le_of_lt Nat.lt_two_pow_self
  obtain ⟨h1, h2, h3, e, h4⟩ := halfGo_spec n n 1 (Nat.le_refl _) (by omega) h0
  exact ⟨h1, h2, h3, e, by unfold halfT; rw [h4, Nat.one_mul]⟩
theorem pow_unique {a b n : Nat} (h1 : 2 ^ a < n) (h2 : n ≤ 2 * 2 ^ a) (h3 : 2 ^ b < n) (h4 : n ≤ 2 * 2 ^ b) : a = b := by
  have e1 : 2 * 2 ^ a = 2 ^ (a + 1) := by rw [Nat.pow_succ, Nat.mul_comm]
  have e2 : 2 * 2 ^ b = 2 ^ (b + 1) := by rw [Nat.pow_succ, Nat.mul_comm]
  rw [e1] at h2
  rw [e2] at h4
  have k1 : 2 ^ a < 2 ^ (b + 1) := Nat.lt_of_lt_of_le h1 h4
  have k2 : 2 ^ b < 2 ^ (a + 1) := Nat.lt_of_lt_of_le h3 h2
  have := (Nat.pow_lt_pow_iff_right (by decide : 1 < 2)).1 k1
  have := (Nat.pow_lt_pow_iff_right (by decide : 1 < 2)).1 k2
  omega
theorem half_unique {n e : Nat} (h1 : 2 ^ e < n) (h2 : n ≤ 2 * 2 ^ e) : halfT n = 2 ^ e := by
  have hp : 0 < 2 ^ e := Nat.pow_pos (by decide)
  obtain ⟨_, k2, k3, e', k4⟩ := half_spec (n := n) (by omega)
  rw [k4] at k2 k3 ⊢
  rw [pow_unique k2 k3 h1 h2]
/-- what Node sums, and its sum -/
def textT (a b : List Int) : List Int := 1 :: (a ++ b)
def nodeT (a b : List Int) : List Int := sumL (textT a b)
/-- the root of leaves -/
def rootF : Nat → List (List Int) → List Int
  | 0, l => l.headD []
  | f + 1, l => if l.length ≤ 1 then l.headD [] else nodeT (rootF f (l.take (halfT l.length))) (rootF f (l.drop (halfT l.length)))
def rootT (l : List (List Int)) : List Int := if l.length = 0 then sumL [2] else rootF l.length l
theorem rootF_more : ∀ (f g : Nat) (l : List (List Int)), l.length ≤ f → l.length ≤ g → rootF f l = rootF g l
  | 0, 0, _, _, _ => rfl
  | 0, g + 1, l, h, _ => by
    unfold rootF
    rw [if_pos (by omega)]
  | f + 1, 0, l, _, h => by
    unfold rootF
    rw [if_pos (by omega)]
  | f + 1, g + 1, l, h1, h2 => by
    unfold rootF
    by_cases h : l.length ≤ 1
    · rw [if_pos h, if_pos h]
    · rw [if_neg h, if_neg h]
      obtain ⟨a, b, _, _⟩ := half_spec (n := l.length) (by omega)
      rw [rootF_more f g (l.take _) (by rw [List.length_take]; omega) (by rw [List.length_take]; omega), rootF_more f g (l.drop _) (by rw [List.length_drop]; omega) (by rw [List.length_drop]; omega)]
theorem root_none : rootT [] = sumL [2] := rfl
theorem root_one (x : List Int) : rootT [x] = x := rfl
theorem root_cut {l : List (List Int)} (h : 2 ≤ l.length) : rootT l = nodeT (rootT (l.take (halfT l.length))) (rootT (l.drop (halfT l.length))) := by
  obtain ⟨a, b, _, _⟩ := half_spec h
  have e1 : (l.take (halfT l.length)).length = halfT l.length := by rw [List.length_take]; omega
  have e2 : (l.drop (halfT l.length)).length = l.length - halfT l.length := List.length_drop
  unfold rootT
  rw [if_neg (by omega), if_neg (by omega), if_neg (by omega)]
  obtain ⟨n, hn⟩ : ∃ n, l.length = n + 1 := ⟨l.length - 1, by omega⟩
  rw [rootF_more l.length (n + 1) l (Nat.le_refl _) (by omega), rootF, if_neg (by omega), rootF_more n _ (l.take _) (by omega) (Nat.le_refl _), rootF_more n _ (l.drop _) (by omega) (Nat.le_refl _)]
/-- the path of a leaf: of each tree in which it stands, from the least on, the other side's root -/
def pathF : Nat → List (List Int) → Nat → List (List Int)
  | 0, _, _ => []
  | f + 1, l, i => if l.length ≤ 1 then [] else
    if i < halfT l.length then pathF f (l.take (halfT l.length)) i ++ [rootT (l.drop (halfT l.length))]
    else pathF f (l.drop (halfT l.length)) (i - halfT l.length) ++ [rootT (l.take (halfT l.length))]
def pathT (l : List (List Int)) (i : Nat) : List (List Int) := pathF l.length l i
/-- does the leaf stand on the left side: from the least tree on -/
def sidesF : Nat → Nat → Nat → List Bool
  | 0, _, _ => []
  | f + 1, n, i => if n ≤ 1 then [] else if i < halfT n then sidesF f (halfT n) i ++ [true] else sidesF f (n - halfT n) (i - halfT n) ++ [false]
def sidesT (n i : Nat) : List Bool := sidesF n n i
/-- one step up -/
def stepT (s : Bool) (x y : List Int) : List Int := if s then nodeT x y else nodeT y x
def stepText (s : Bool) (x y : List Int) : List Int := if s then textT x y else textT y x
/-- what comes of a leaf, step by step: the first k steps' last -/
def climbK (s : List Bool) (x : List Int) (p : List (List Int)) : Nat → List Int
  | 0 => x
  | k + 1 => stepT (s.getD k true) (climbK s x p k) (p.getD k [])
def topT (s : List Bool) (x : List Int) (p : List (List Int)) : List Int := climbK s x p s.length
/-- does a path lead from a leaf to a root? -/
def checkT (root : List Int) (n i : Int) (leaf : List Int) (path : List (List Int)) : Bool :=
  decide (1 ≤ n ∧ n ≤ 64 ∧ 0 ≤ i ∧ i < n ∧ path.length = (sidesT n.toNat i.toNat).length ∧ topT (sidesT n.toNat i.toNat) leaf path = root)
/-- the step of two climbs at which they meet: the first one -/
def meetK (s : List Bool) (x y : List Int) (p q : List (List Int)) : Nat → Nat → Option Nat
  | 0, _ => none
  | f + 1, k => if climbK s x p (k + 1) = climbK s y q (k + 1) then some k else meetK s x y p q f (k + 1)
/-- the two texts of one sum, or none -/
def clashT (l : List (List Int)) (i : Int) (leaf : List Int) (path : List (List Int)) : Option (List Int × List Int) :=
  if checkT (rootT l) l.length i leaf path = true ∧ leaf ≠ l.getD i.toNat [] then
    (meetK (sidesT l.length i.toNat) leaf (l.getD i.toNat []) path (pathT l i.toNat) (sidesT l.length i.toNat).length 0).map fun k =>
      (stepText ((sidesT l.length i.toNat).getD k true) (climbK (sidesT l.length i.toNat) leaf path k) (path.getD k []), stepText ((sidesT l.length i.toNat).getD k true) (climbK (sidesT l.length i.toNat) (l.getD i.toNat []) (pathT l i.toNat) k) ((pathT l i.toNat).getD k []))
  else none
end Go.Proofs.YtcodmedgkboohaaDoor

namespace Go.Proofs.YtcodmedgkboohaaDoor
set_option maxRecDepth 8000
open Go.RowKit












set_option maxRecDepth 20000 in
set_option maxHeartbeats 1000000 in
theorem shaof_any (A : Option Addr) (n c : Nat) (xss : List (List Int)) (w : World) (hl : xss.length = n) (hx : Parts w w.heap.size A xss) (hn : n ≤ 9223372036854775807) (hs : xss.flatten.length ≤ 70368744177664) (ht : Tables w) :
    Calls Tryd.prog 39 #[.slice A n c] w fun e w' => e = .returned (.agg (arrB 32 (sumL xss.flatten))) ∧ Below w.heap.size w w' := by
  have HL := Lib.hid hl
  have HX := Lib.hid hx
  clear hl hx
  go_enter Tryd.func39, Tryd.ntmps39
  go_wp2_with fail
  go_loopw [3, 8] (fun v i u => ∃ k : Nat, k ≤ n ∧ i = .int .i64 k ∧ Below w.heap.size w u ∧ Hid (Row u w.heap.size 37 (arrB 32 []) ∧ u.ownsRow (w.heap.size + 1) 5 1 v (xss.take k).flatten.length ((xss.take k).flatten.map u8v))) (fun _ i _ => n - (intOf i).toNat)
  case atStart => exact ⟨0, by omega, rfl, by go_grown, Row.new w 37 _, World.ownsRow_nil _ _ _ _⟩
  case round =>
    obtain ⟨k, hk, rfl, hbl, hrows⟩ := hrel
    obtain ⟨r0, hown⟩ := hrows.out
    have s0 := r0.lt
    by_cases hlt : k < n
    · have hg := List.getElem?_eq_getElem (by rw [HL.out]; exact hlt : k < xss.length)
      have hst := Lib.hid (flat_step xss k _ hg)
      obtain ⟨b, o, a, c1, rfl, hb, hc, hy, hr⟩ := HX.out k _ hg
      have hle : (xss.take k).flatten.length + (xss[k]'(by rw [HL.out]; exact hlt)).length ≤ xss.flatten.length := by
        have e := congrArg List.length hst.out
        rw [List.length_append] at e
        have h2 : (xss.take (k + 1)).flatten.length ≤ xss.flatten.length := by
          conv => rhs; rw [← List.take_append_drop (k + 1) xss, List.flatten_append, List.length_append]
          omega
        omega
      generalize xss[k]'(by rw [HL.out]; exact hlt) = ys at *
      obtain ⟨v', w', hrun, hown', hgr⟩ := append_bytes _ _ _ _ wr hown a ys.length c1 w.heap.size ys rfl (hy.below hbl) (by omega) (by omega)
      have hcell := (hbl.cell (p := ⟨b, o + k, none⟩) hb).trans hc
      have hb2 := below_of_grown (B := w.heap.size + 1) hgr (fun g hg => (hown.lt g hg).1) (by omega)
      have R0 := Lib.hid (r0.below hb2 (by omega))
      have BB := Lib.hid (hbl.trans (hb2.mono (by omega)))
      have OO := Lib.hid hown'
      clear r0 hown hrows hg hc hy hr hgr hb2 hown' hle
      have hk2 : (k : Int) < (n : Int) := by omega
      have HRUN := Lib.hid hrun
      clear hrun
      go_wp2_with (at_builtin; (with_reducible refine wpList_append_run (o := ⟨some 14, _, _, _, _, _⟩) ?_ (.tmp 12) (.tmp 13) ?_ ?_ ?_ ?_ HRUN.out ?_); (rfl); (rfl); (rfl); (rfl); (rfl))
      go_roundw
      case rel =>
        refine ⟨k + 1, by omega, by go_num, BB.out, R0.out, ?_⟩
        rw [hst.out, List.length_append, List.map_append]
        exact OO.out
      case measure => simp [intOf]; omega
    · obtain rfl : k = n := by omega
      have hT : xss.take k = xss := List.take_of_length_le (by rw [HL.out]; exact Nat.le_refl _)
      rw [hT] at hown
      obtain ⟨A1, c1, rfl⟩ := own_form hown
      have hr : ∀ x ∈ xss.flatten, 0 ≤ x ∧ x ≤ 255 := by
        intro x hx
        obtain ⟨l, hl, hxl⟩ := List.mem_flatten.1 hx
        obtain ⟨j, hj, rfl⟩ := List.getElem_of_mem hl
        obtain ⟨_, _, _, _, _, _, _, _, hr⟩ := HX.out j _ (List.getElem?_eq_getElem hj)
        exact hr x hxl
      have hby := own_bytes hown
      have R0 := Lib.hid r0
      clear hown r0 hrows hT
      have HRR := Lib.hid hr
      have HBY := Lib.hid hby
      clear hr hby
      generalize hFL : xss.flatten = fl at *
      have HFL := Lib.hid hFL
      clear hFL
      obtain ⟨q, hq⟩ : ∃ q, fl.length = q := ⟨_, rfl⟩
      rw [hq]
      have HQ := Lib.hid hq
      have hs2 : q ≤ 70368744177664 := by omega
      clear hq
      go_wp2_with fail
      refine (sum_any A1 q c1 fl wr HQ.out hs2 HBY.out HRR.out (ht.below hbl)).mono ?_
      rintro e w3 ⟨rfl, hb3⟩
      have hsz : Hid ((arrB 32 (sumL fl)).size = 32 ∧ (arrB 32 []).size = (arrB 32 (sumL fl)).size ∧ (arrB 32 (sumL fl)).all (·.oneCell') = true) :=
        Lib.hid ⟨arrB_size _ _ (by rw [sumL_len]; omega), by rw [arrB_size 32 (sumL fl) (by rw [sumL_len]; omega), arrB_size 32 [] (by simp)], arrB_one _ _⟩
      have Q0 : Hid (w3.heap[w.heap.size]? = some (.cells (arrB 32 []) 37 (0, 0))) := R0.out.below hb3 R0.out.lt
      have bl3 : Below w.heap.size w w3 := hbl.trans (hb3.mono hbl.size)
      clear hb3 R0
      generalize hE : arrB 32 (sumL fl) = cs at *
      have HE := Lib.hid hE
      clear hE
      generalize arrB 32 [] = zs at *
      go_wp2_with (first
        | ((with_reducible refine wpList_store_row (o := ⟨none, .store 37 _ _, _, _, _, _⟩) ?_ 37 (.tmp 2) (.tmp 17) ?_ w.heap.size cs ?_ ?_ 37 zs Q0.out (info26 cs hsz.out.1) hsz.out.2.1 hsz.out.2.2 ?_); (rfl); (rfl); (rfl); (rfl))
        | ((with_reducible refine bodyPost_ret (v := .agg cs) ?_ ?_ ?_); (exact results_cell_row (p := 2) (ty := 37) Tryd.results39 _ _ w.heap.size 37 cs (0, 0) _ rfl (setRow_heap _ _ zs cs 37 (0, 0) Q0.out) Tryd.underlying37 rfl (info26 cs hsz.out.1)); (rfl)))
      exact ⟨by rw [HFL.out, HE.out], below_setRow bl3 (Nat.le_refl _) _⟩
end Go.Proofs.YtcodmedgkboohaaDoor

namespace Go.Proofs.YtcodmedgkboohaaDoor
set_option maxRecDepth 8000
open Go
def InW (x : Int) : Prop := 0 ≤ x ∧ x < 4294967296
theorem InW.mod (x : Int) : InW (x % 4294967296) := ⟨by omega, by omega⟩
theorem InW.bits (op : BinOp) (x y : Int) : InW (bits op .u32 x y) := by
  unfold Go.bits
  rw [IntKind.wrap_u32]
  exact InW.mod _
end Go.Proofs.YtcodmedgkboohaaDoor

namespace Go.Proofs.YtcodmedgkboohaaDoor
set_option maxRecDepth 8000
open Go.RowKit














theorem InW.getD (l : List Int) (h : ∀ x ∈ l, InW x) (i : Nat) : InW (l.getD i 0) := by
  by_cases hi : i < l.length
  · have e : l.getD i 0 = l[i] := by simp [List.getD, List.getElem?_eq_getElem hi]
    rw [e]
    exact h _ (List.getElem_mem hi)
  · have e : l.getD i 0 = 0 := by simp [List.getD, List.getElem?_eq_none (by omega : l.length ≤ i)]
    rw [e]
    exact ⟨by omega, by omega⟩
end Go.Proofs.YtcodmedgkboohaaDoor

namespace Go.Proofs.YtcodmedgkboohaaDoor
set_option maxRecDepth 8000
open Go.RowKit














structure S8.In (s : S8) : Prop where
  a : InW s.a
  b : InW s.b
  c : InW s.c
  d : InW s.d
  e : InW s.e
  f : InW s.f
  g : InW s.g
  h : InW s.h
theorem S8.In.add (s t : S8) : (s.add t).In := ⟨InW.mod _, InW.mod _, InW.mod _, InW.mod _, InW.mod _, InW.mod _, InW.mod _, InW.mod _⟩
/-- What stays in the rounds: the words at first, the numbers, the words of the bytes. -/
structure Keep (w : World) (hcs : Array Value) (gh gk : Nat) (ws : List Int) (gw : Nat) (u : World) : Prop where
  b : Below w.heap.size w u
  h : Row u gh 74 hcs
  k : Row u gk 74 (roundNs.map u32v).toArray
  w : ∀ i, i < 64 → u.cell? ⟨gw, i, none⟩ = some (.int .u32 (ws.getD i 0))
  lw : gw < u.heap.size
theorem Keep.below {w : World} {s : Array Value} {gh gk : Nat} {ws : List Int} {gw : Nat} {u x : World} (h : Keep w s gh gk ws gw u) (hb : Below u.heap.size u x) : Keep w s gh gk ws gw x :=
  ⟨h.b.trans (hb.mono h.b.size), h.h.below hb h.h.lt, h.k.below hb h.k.lt, fun i hi => (hb.cell (p := ⟨gw, i, none⟩) h.lw).trans (h.w i hi), Nat.lt_of_lt_of_le h.lw hb.size⟩
/-- A slice of eight words that lies above a mark, in a block of its own. -/
def V8 (B : Nat) (v : Value) (st : S8) (u : World) : Prop := ∃ g cap cur, v = .slice (some ⟨g, 0, none⟩) 8 cap ∧ B ≤ g ∧ Row u g 74 cur ∧ ∀ i, i < 8 → cur[i]? = some (.int .u32 (st.get i))
end Go.Proofs.YtcodmedgkboohaaDoor

namespace Go.Proofs.YtcodmedgkboohaaDoor
set_option maxRecDepth 8000
open Go.RowKit














theorem S8.In.get {s : S8} (h : s.In) (k : Nat) (hk : k < 8) : InW (s.get k) := by
  rcases k with _ | _ | _ | _ | _ | _ | _ | _ | k
  · exact h.a
  · exact h.b
  · exact h.c
  · exact h.d
  · exact h.e
  · exact h.f
  · exact h.g
  · exact h.h
  · omega
theorem V8.below {B : Nat} {v : Value} {st : S8} {u x : World} (h : V8 B v st u) (hb : Below u.heap.size u x) : V8 B v st x := by
  obtain ⟨g, cap, cur, e, hg, hr, hc⟩ := h
  exact ⟨g, cap, cur, e, hg, hr.below hb hr.lt, hc⟩
theorem V8.mono {B B' : Nat} {v : Value} {st : S8} {u : World} (h : V8 B v st u) (hB : B' ≤ B) : V8 B' v st u := by
  obtain ⟨g, cap, cur, e, hg, hr, hc⟩ := h
  exact ⟨g, cap, cur, e, by omega, hr, hc⟩
/-- What stays while the reference sums: what bytes became, the place of the answer. -/
structure Sums (w : World) (v : Value) (m : Nat) (pp : List Int) (u : World) : Prop where
  b : Below w.heap.size w u
  z : Row u w.heap.size 37 (arrB 32 [])
  p : u.ownsRow (w.heap.size + 1) 5 1 v m (pp.map u8v)
theorem Sums.below {w : World} {v : Value} {m : Nat} {pp : List Int} {u x : World} (h : Sums w v m pp u) (hb : Below u.heap.size u x) : Sums w v m pp x :=
  ⟨h.b.trans (hb.mono h.b.size), h.z.below hb h.z.lt, own_below h.p hb⟩
end Go.Proofs.YtcodmedgkboohaaDoor

namespace Go.Proofs.YtcodmedgkboohaaDoor
set_option maxRecDepth 8000
open Go.RowKit

theorem own_of_row {w : World} {g B n : Nat} {xs : List Int} (h : Row w g 5 (arrB n xs)) (hl : xs.length = n) (hB : B ≤ g) (hn : n ≤ maxLen) : OwnB w B (.slice (some ⟨g, 0, none⟩) n n) xs := by
  subst hl
  refine ⟨by simp, .inr ⟨g, xs.length, arrB xs.length xs, rfl, hB, h, Nat.le_refl _, hn, by rw [arrB_size _ _ (Nat.le_refl _)]; omega, ?_⟩⟩
  rw [List.take_of_length_le (by rw [Array.length_toList, arrB_size _ _ (Nat.le_refl _)]; omega)]
  simp [arrB]
theorem OwnB.cap {w : World} {B n c : Nat} {A : Option Addr} {xs : List Int} (h : OwnB w B (.slice A n c) xs) : n ≤ c ∧ c ≤ maxLen := by
  rcases h.2 with ⟨e, e2⟩ | ⟨g, cap, cur, e, _, _, h1, h2, _⟩
  · injection e with e1 e3 e4
    subst e3 e4
    exact ⟨Nat.le_refl _, Nat.zero_le _⟩
  · injection e with e1 e3 e4
    subst e3 e4
    exact ⟨h1, h2⟩
theorem OwnB.row {w : World} {B : Nat} {v : Value} {xs : List Int} (h : OwnB w B v xs) (hp : 0 < xs.length) : ∃ g cap, v = .slice (some ⟨g, 0, none⟩) xs.length cap ∧ xs.length ≤ cap ∧ cap ≤ maxLen ∧ B ≤ g ∧ g < w.heap.size ∧ ∀ j, j < xs.length → w.cell? ⟨g, j, none⟩ = some (.int .u8 (xs.getD j 0)) := by
  rcases h.2 with ⟨_, e2⟩ | ⟨g, cap, cur, rfl, h1, hg, h2, h3, _⟩
  · omega
  · refine ⟨g, cap, rfl, h2, h3, h1, Row.lt (t := 5) hg, fun j hj => ?_⟩
    have := h.cells (g := g) rfl j (.int .u8 (xs.getD j 0)) (by simp [List.getD, List.getElem?_eq_getElem hj, u8v])
    rwa [Addr.add_mid, Nat.zero_add] at this
theorem OwnB.up {w : World} {B n c : Nat} {A : Option Addr} {xs : List Int} (h : OwnB w B (.slice A n c) xs) : Bytes w w.heap.size A xs := h.bytes.2
/-- the zero id's cells, as the model writes them -/
theorem zero_cells : (#[Value.int .u8 0, Value.int .u8 0, Value.int .u8 0, Value.int .u8 0, Value.int .u8 0, Value.int .u8 0, Value.int .u8 0, Value.int .u8 0, Value.int .u8 0, Value.int .u8 0, Value.int .u8 0, Value.int .u8 0, Value.int .u8 0, Value.int .u8 0, Value.int .u8 0, Value.int .u8 0, Value.int .u8 0, Value.int .u8 0, Value.int .u8 0, Value.int .u8 0, Value.int .u8 0, Value.int .u8 0, Value.int .u8 0, Value.int .u8 0, Value.int .u8 0, Value.int .u8 0, Value.int .u8 0, Value.int .u8 0, Value.int .u8 0, Value.int .u8 0, Value.int .u8 0, Value.int .u8 0] : Array Value) = arrB 32 [] := rfl
end Go.Proofs.YtcodmedgkboohaaDoor

namespace Go.Proofs.YtcodmedgkboohaaDoor
set_option maxRecDepth 8000
open Go.RowKit

theorem arr_id {x : List Int} (h : x.length = 32) : arrB 32 x = (x.map u8v).toArray := by unfold arrB; rw [h]; simp
/-- a byte's bounds -/
theorem textT_byte {a b : List Int} (ha : ∀ x ∈ a, 0 ≤ x ∧ x ≤ 255) (hb : ∀ x ∈ b, 0 ≤ x ∧ x ≤ 255) : ∀ x ∈ textT a b, 0 ≤ x ∧ x ≤ 255 := by
  intro x hx
  unfold textT at hx
  rcases List.mem_cons.1 hx with h | h
  · omega
  · rcases List.mem_append.1 h with h | h
    · exact ha x h
    · exact hb x h
end Go.Proofs.YtcodmedgkboohaaDoor

namespace Go.Proofs.YtcodmedgkboohaaDoor
set_option maxRecDepth 8000
open Go.RowKit

/-- truths of one's own -/
def OwnF (w : World) (B : Nat) (v : Value) (l : List Bool) : Prop := w.ownsRow B 4 1 v l.length (l.map Value.bool)
theorem OwnF.nil (w : World) (B : Nat) : OwnF w B (.slice none 0 0) [] := World.ownsRow_nil _ _ _ _
end Go.Proofs.YtcodmedgkboohaaDoor

namespace Go.Proofs.YtcodmedgkboohaaDoor
set_option maxRecDepth 8000
open Go.RowKit

theorem isIds.flat_take {l : List (List Int)} (h : isIds l) (k : Nat) : (l.take k).flatten = l.flatten.take (k * 32) := by
  induction l generalizing k with
  | nil => simp
  | cons x l ih =>
    have hx := (h x (List.mem_cons_self ..)).1
    cases k with
    | zero => simp
    | succ k =>
      rw [List.take_succ_cons, List.flatten_cons, List.flatten_cons, ih (fun y hy => h y (List.mem_cons_of_mem _ hy)), List.take_append, List.take_of_length_le (by omega : x.length ≤ (k + 1) * 32), hx, show (k + 1) * 32 - 32 = k * 32 by omega]
theorem isIds.flat_drop {l : List (List Int)} (h : isIds l) (k : Nat) : (l.drop k).flatten = l.flatten.drop (k * 32) := by
  induction l generalizing k with
  | nil => simp
  | cons x l ih =>
    have hx := (h x (List.mem_cons_self ..)).1
    cases k with
    | zero => simp
    | succ k =>
      rw [List.drop_succ_cons, List.flatten_cons, ih (fun y hy => h y (List.mem_cons_of_mem _ hy)), List.drop_append, List.drop_of_length_le (by omega : x.length ≤ (k + 1) * 32), hx, show (k + 1) * 32 - 32 = k * 32 by omega, List.nil_append]
theorem IdsIn.take {w : World} {B : Nat} {A : Option Addr} {l : List (List Int)} (h : IdsIn w B A l) (hl : isIds l) (k : Nat) : IdsIn w B A (l.take k) := by
  unfold IdsIn
  rw [hl.flat_take k]
  exact Bytes.take h _
/-- where a cut slice of ids begins -/
def cutI' (A : Option Addr) (l c : Nat) : Option Addr := if c = l then A else A.map (·.add (l * 32))
theorem add_add32 (a : Addr) (l j : Nat) : (a.add l).add j = a.add (l + j) := by
  unfold Addr.add
  by_cases h : l = 0
  · simp [h]
  · by_cases h2 : j = 0
    · simp [h, h2]
    · simp [h, h2, Nat.add_assoc]
theorem IdsIn.drop {w : World} {B : Nat} {A : Option Addr} {l : List (List Int)} (h : IdsIn w B A l) (hl : isIds l) (k c : Nat) (hc : l.length ≤ c) : IdsIn w B (cutI' A k c) (l.drop k) := by
  intro hp
  have e := hl.flat_drop k
  have hfl := hl.flat_len
  rw [e, List.length_drop] at hp
  obtain ⟨ad, rfl, hlt, hcell⟩ := h (by omega)
  have hne : ¬ c = k := by omega
  refine ⟨ad.add (k * 32), by simp [cutI', hne], by rw [block_of_add]; exact hlt, fun j v hv => ?_⟩
  rw [add_add32]
  refine hcell (k * 32 + j) v ?_
  rw [e, List.map_drop, List.getElem?_drop] at hv
  exact hv
theorem elemI : Tryd.prog.elem 44 = 37 := by simp [Program.elem, Tryd.underlying44]
theorem sizeI (w : World) : (Go.sizeOf 37).run Tryd.prog w = .ok 32 w := by
  have h := infoI
  cases hq : Tryd.prog.info? 37 with
  | none => rw [hq] at h; cases h
  | some i =>
    rw [hq] at h
    simp only [Option.map_some, Option.some.injEq, Prod.mk.injEq] at h
    simp [Go.sizeOf, typeInfo, hq, h.1]
section
variable {a : Act} {dst : Option Tmp} {x l h : Operand} {ty : TypeId} {pos : String} {after : Array Edge} {gd : Option (Nat × Bool)}
end
end Go.Proofs.YtcodmedgkboohaaDoor

namespace Go.Proofs.YtcodmedgkboohaaDoor
set_option maxRecDepth 8000
open Go.RowKit

theorem sumL_byte (xs : List Int) : ∀ x ∈ sumL xs, 0 ≤ x ∧ x ≤ 255 := by
  have h : ∀ (s : S8) (k : Nat), ∀ x ∈ idPre s k, 0 ≤ x ∧ x ≤ 255 := by
    intro s k
    induction k with
    | zero => intro x hx; cases hx
    | succ k ih =>
      intro x hx
      unfold idPre at hx
      rcases List.mem_append.1 hx with h | h
      · exact ih x h
      · unfold bytes4 at h
        simp at h
        omega
  unfold sumL
  exact h _ _
theorem node_id (a b : List Int) : (nodeT a b).length = 32 ∧ ∀ x ∈ nodeT a b, 0 ≤ x ∧ x ≤ 255 := ⟨sumL_len _, sumL_byte _⟩
theorem root_id {l : List (List Int)} (h : isIds l) : (rootT l).length = 32 ∧ ∀ x ∈ rootT l, 0 ≤ x ∧ x ≤ 255 := by
  by_cases h0 : l.length = 0
  · rw [List.eq_nil_of_length_eq_zero h0]
    exact ⟨sumL_len _, sumL_byte _⟩
  · by_cases h1 : l.length = 1
    · match l, h1 with
      | [x], _ => exact h x (List.mem_cons_self ..)
    · rw [root_cut (by omega)]
      exact node_id _ _
theorem wpList_load_run {P : Program} {ops : Array Oper} {rest : List Oper} {o : Oper} {a : Act} {w : World} {Q : Exit → Act → World → Prop} {v : Value} (hgd : o.guard = none) (ty : TypeId) (x : Operand) (ho : o.op = .load ty x) (ad : Addr) (hx : a.eval x = .pointer (some ad))
    (hrun : (loadVar ty ad).run P w = .ok v w) (h : wpList P ops Q rest (a.put o.dst v) w) : wpList P ops Q (o :: rest) a w :=
  wpList_plain hgd fun _ hK => by
    unfold Oper.wp execOp
    simp only [ho, hx, Instr.loadAt, Instr.sureAddr, Sem.run_bind, Sem.run_pure, Result.andThen_ok, hrun]
    exact hK _ _ h
end Go.Proofs.YtcodmedgkboohaaDoor

namespace Go.Proofs.YtcodmedgkboohaaDoor
set_option maxRecDepth 8000
open Go.RowKit

def OwnI (w : World) (B : Nat) (v : Value) (l : List (List Int)) : Prop := w.ownsRow B 37 32 v l.length (l.flatten.map u8v)
theorem OwnI.nil (w : World) (B : Nat) : OwnI w B (.slice none 0 0) [] := World.ownsRow_nil _ _ _ _
theorem OwnI.form {w : World} {B : Nat} {v : Value} {l : List (List Int)} (h : OwnI w B v l) : ∃ A c, v = .slice A l.length c ∧ l.length ≤ c ∧ c ≤ maxLen := by
  rcases h.2 with ⟨rfl, e⟩ | ⟨g, cap, cur, rfl, _, _, h1, h2, _⟩
  · exact ⟨none, 0, by rw [e], by omega, Nat.zero_le _⟩
  · exact ⟨_, cap, rfl, h1, h2⟩
theorem OwnI.ids {w : World} {B n c : Nat} {A : Option Addr} {l : List (List Int)} (h : OwnI w B (.slice A n c) l) : IdsIn w w.heap.size A l := by
  intro hp
  have hl := h.1
  rcases h.2 with ⟨e, e2⟩ | ⟨g, cap, cur, e, _, hg, _⟩
  · rw [List.length_map, e2] at hl
    omega
  · injection e with e1 e2 e3
    subst e1
    refine ⟨_, rfl, ?_, fun j v hv => h.cells (g := g) rfl j v hv⟩
    exact Row.lt (t := 37) hg
theorem OwnI.below {w w' : World} {B : Nat} {v : Value} {l : List (List Int)} (h : OwnI w B v l) (hb : Below w.heap.size w w') : OwnI w' B v l := by
  refine ⟨h.1, ?_⟩
  rcases h.2 with h0 | ⟨g, cap, cur, e, hg, hh, h1⟩
  · exact .inl h0
  · exact .inr ⟨g, cap, cur, e, hg, (hb.block g (Row.lt (t := 37) hh)).trans hh, h1⟩
theorem infoIz : (Tryd.prog.info? 37).map (fun i => (i.zero, i.size, i.bytes)) = some (some (.agg (arrB 32 [])), 32, 32) := by kernel_rfl
/-- an append of one id -/
theorem OwnI.append {w : World} {B : Nat} {v : Value} {l : List (List Int)} (h : OwnI w B v l) {x : List Int} {ad : Addr} (hx : x.length = 32) (hc : ∀ j, j < 32 → w.cell? (ad.add j) = some (.int .u8 (x.getD j 0))) (hs : l.length ≤ 1000000) (hB : B ≤ w.heap.size) :
    ∃ v' w', (Builtin.append_ #[44, 44] 44 #[v, .slice (some ad) 1 1]).run Tryd.prog w = .ok v' w' ∧ OwnI w' B v' (l ++ [x]) ∧ w.grownBy w' v.ownBlock ∧ (v'.ownBlock = v.ownBlock ∨ v'.ownBlock = some w.heap.size) := by
  cases hq : Tryd.prog.info? 37 with
  | none => have := infoIz; rw [hq] at this; cases this
  | some i =>
    have hi := infoIz
    rw [hq] at hi
    simp only [Option.map_some, Option.some.injEq, Prod.mk.injEq] at hi
    obtain ⟨h1, h2, h3⟩ := hi
    obtain ⟨v', w', hrun, hown', hg, _, ho⟩ := run_append_own_at (P := Tryd.prog) w B 44 44 37 i (.agg (arrB 32 [])) 32 32 Tryd.underlying44 hq h1 h2 h3 (arrB_size _ _ (by simp)) (by decide) v l.length (l.flatten.map u8v) h
      ad 1 1 (x.map u8v) (by simp [hx]) (fun j u hu => by
        have hj : j < x.length := by
          rcases Nat.lt_or_ge j x.length with h' | h'
          · exact h'
          · rw [List.getElem?_eq_none (by simpa using h')] at hu
            cases hu
        rw [hc j (by omega)]
        rw [List.getElem?_map, List.getElem?_eq_getElem hj] at hu
        simp only [Option.map_some] at hu
        rw [← hu]
        simp [u8v, List.getD, List.getElem?_eq_getElem hj]) (by intro u hu; obtain ⟨z, _, rfl⟩ := List.mem_map.1 hu; rfl) (by unfold maxLen; omega) (by omega) hB
    refine ⟨v', w', hrun, ?_, hg, ho⟩
    unfold OwnI
    rw [List.length_append, List.flatten_append, List.map_append]
    simpa using hown'
/-- ids of one's own, as boxes -/
def FreshI (l : List (List Int)) (x : Value) (N : Boxes) : Prop :=
  (∃ g cap cur, x = .slice (some ⟨g, 0, none⟩) l.length cap ∧ N = [(g, Obj.cells cur 37 (0, 0))] ∧ l.length ≤ cap ∧ cap ≤ maxLen ∧ cur.size = cap * 32 ∧ cur.toList.take (l.length * 32) = l.flatten.map u8v) ∨
  (x = .slice none 0 0 ∧ N = [] ∧ l = [])
theorem OwnI.fresh {w : World} {B : Nat} {v : Value} {l : List (List Int)} (h : OwnI w B v l) : ∃ N, FreshI l v N ∧ ∀ y ∈ N, B ≤ y.1 ∧ w.heap[y.1]? = some y.2 ∧ v.ownBlock = some y.1 := by
  rcases h.2 with ⟨e, e0⟩ | ⟨g, cap, cur, rfl, h1, h2, h3, h4, h5, h6⟩
  · exact ⟨[], .inr ⟨e, rfl, List.eq_nil_of_length_eq_zero e0⟩, fun y hy => by cases hy⟩
  · refine ⟨_, .inl ⟨g, cap, cur, rfl, rfl, h3, h4, h5, h6⟩, fun y hy => ?_⟩
    cases List.mem_singleton.1 hy
    exact ⟨h1, h2, rfl⟩
theorem FreshI.own {w : World} {B : Nat} {v : Value} {l : List (List Int)} {N : Boxes} (h : FreshI l v N) (hl : isIds l) (hN : ∀ y ∈ N, B ≤ y.1 ∧ w.heap[y.1]? = some y.2) : OwnI w B v l := by
  refine ⟨by rw [List.length_map]; exact hl.flat_len, ?_⟩
  rcases h with ⟨g, cap, cur, rfl, rfl, h3⟩ | ⟨rfl, rfl, rfl⟩
  · obtain ⟨k1, k2⟩ := hN _ (List.mem_singleton.2 rfl)
    exact .inr ⟨g, cap, cur, rfl, k1, k2, h3⟩
  · exact .inl ⟨rfl, rfl⟩
theorem FreshI.block {v : Value} {l : List (List Int)} {N : Boxes} (h : FreshI l v N) : ∀ g, v.ownBlock = some g → ∃ o, (g, o) ∈ N := by
  intro g hg
  rcases h with ⟨g', cap, cur, rfl, rfl, h3⟩ | ⟨rfl, rfl, rfl⟩
  · cases hg
    exact ⟨_, List.mem_singleton.2 rfl⟩
  · cases hg
/-- a new list of one id -/
def BuiltI (r : List Int) (v : Value) (N : Boxes) : Prop := ∃ g, v = .slice (some ⟨g, 0, none⟩) 1 1 ∧ N = [(g, Obj.cells (arrB 32 r) 37 (0, 0))]
theorem run_buildI (r : List Int) (hr : r.length = 32) (u : World) : (Instr.buildSlice 44 1 #[(0, .agg (arrB 32 r))]).run Tryd.prog u = .ok (.slice (some ⟨u.heap.size, 0, none⟩) 1 1) (u.alloc (.cells (arrB 32 r) 37)) := by
  cases hq : Tryd.prog.info? 37 with
  | none => have := infoIz; rw [hq] at this; cases this
  | some i =>
    have hi := infoIz
    rw [hq] at hi
    simp only [Option.map_some, Option.some.injEq, Prod.mk.injEq] at hi
    obtain ⟨h1, h2, h3⟩ := hi
    refine run_buildSlice u 44 37 1 _ (arrB 32 r) i (.agg (arrB 32 [])) Tryd.underlying44 hq h1 (by omega) (by omega) ?_
    have hsz : (Value.agg (arrB 32 r)).cells.size = 32 := arrB_size _ _ (by omega)
    rw [h2]
    have hf := Great.fill_whole (s := 32) (by decide) [.agg (arrB 32 r)] ((Array.range (1 * 32)).map ((Value.agg (arrB 32 [])).cells[· % (Value.agg (arrB 32 [])).cells.size]!)) (by intro v hv; cases List.mem_singleton.1 hv; exact hsz) (by simp)
    simpa [Value.cells] using hf
theorem FAt_buildI {r : List Int} (hr : r.length = 32) {a : Act} {dst : Option Tmp} {x : Operand} {ty : TypeId} {pos : String} {after : Array Edge} {gd : Option (Nat × Bool)} (hx : a.eval x = idv r) (u : World) :
    FAt Tryd.prog ⟨dst, .buildSlice 44 1 #[(0, x)], ty, pos, after, gd⟩ a (BuiltI r) u := by
  unfold FAt execOp
  unfold idv at hx
  simp only [List.map_toArray, List.map_cons, List.map_nil, hx, Sem.run_bind, Sem.run_pure, run_buildI r hr u, Result.andThen_ok]
  refine ⟨(Below.refl _ _).alloc (Nat.le_refl _) _, _, ⟨_, rfl, rfl⟩, fun y hy => ?_⟩
  cases List.mem_singleton.1 hy
  exact ⟨Nat.le_refl _, heap_alloc_new u _⟩
/-- an append of one id in a region over boxes: what it leaves -/
def GrownI (w0 : World) (l : List (List Int)) (M0 : Boxes) (v : Value) (M' : Boxes) : Prop := ∃ N, M' = N ++ M0 ∧ FreshI l v N ∧ freshN w0 N M0
theorem appI_op {w0 u : World} {M : Boxes} (M0 : Boxes) {N : Boxes} {l : List (List Int)} {v : Value} {x : List Int} {g : Nat} {t : TypeId} {a : Act} {dst : Option Tmp} {y z : Operand} {pos : String} {after : Array Edge} {gd : Option (Nat × Bool)}
    (hu : EnvX w0 u M) (hl : isIds l) (hx : x.length = 32) (hF : FreshI l v N) (hN : ∀ y ∈ N, y ∈ M ∧ w0.heap.size ≤ y.1) (hg : (g, Obj.cells (arrB 32 x) t (0, 0)) ∈ M) (hM0 : ∀ z ∈ M0, z ∈ M ∧ ∀ y ∈ N, z.1 ≠ y.1) (hs : l.length ≤ 1000000)
    (hy : a.eval y = v) (hz : a.eval z = .slice (some ⟨g, 0, none⟩) 1 1) :
    ∃ v' u' M', (execOp a.eval ⟨dst, .call { callee := .builtin .append, args := #[y, z], argTypes := #[44, 44] }, 44, pos, after, gd⟩).run Tryd.prog u = .ok (.value v') u' ∧ EnvX w0 u' M' ∧ GrownI w0 (l ++ [x]) M0 v' M' := by
  have hown : OwnI u w0.heap.size v l := hF.own hl (fun y hy => ⟨(hN y hy).2, hu.box _ _ (hN y hy).1⟩)
  have hrow : Row u g t (arrB 32 x) := hu.row hg
  have hcell : ∀ j, j < 32 → u.cell? ((⟨g, 0, none⟩ : Addr).add j) = some (.int .u8 (x.getD j 0)) := by
    intro j hj
    rw [Addr.add_mid, Nat.zero_add]
    have hj' : j < x.length := by omega
    rw [hrow.cell]
    simp [arrB, hx, hj', u8v, List.getElem?_eq_getElem hj']
  obtain ⟨v', u', hrun, hown', hgr, hob⟩ := hown.append hx hcell hs hu.bel.size
  obtain ⟨N', hF', hN'⟩ := hown'.fresh
  refine ⟨v', u', N' ++ M0, ?_, ?_, N', rfl, hF', ?_⟩
  · unfold execOp
    simp only [resolve, invoke, builtin, Sem.run_bind, Sem.run_pure, Result.andThen_ok, List.map_toArray, List.map_cons, List.map_nil, hy, hz, hrun]
  · have hbel : Below w0.heap.size u u' := below_of_grown hgr (fun r hr => (hown.lt r hr).1) hu.bel.size
    refine ⟨hu.bel.trans hbel, fun g' o hm => ?_⟩
    rcases List.mem_append.1 hm with e | e
    · exact (hN' _ e).2.1
    · have hin := hM0 _ e
      rw [hgr.block g' (hu.lt hin.1) (fun e2 => by
        obtain ⟨o2, ho2⟩ := hF.block g' e2.symm
        exact hin.2 _ ho2 rfl)]
      exact hu.box _ _ hin.1
  · intro y hy
    refine ⟨(hN' y hy).1, fun z hz e => ?_⟩
    have hb := (hN' y hy).2.2
    have hin := hM0 z hz
    rcases hob with h | h
    · obtain ⟨o2, ho2⟩ := hF.block y.1 (h.symm.trans hb)
      exact hin.2 _ ho2 e
    · have h1 := hu.lt (g := z.1) (o := z.2) hin.1
      have h2 : u.heap.size = y.1 := Option.some.inj (h.symm.trans hb)
      omega
end Go.Proofs.YtcodmedgkboohaaDoor

namespace Go.Proofs.YtcodmedgkboohaaDoor
set_option maxRecDepth 8000
open Go.RowKit

section
variable {a : Act} {dst : Option Tmp} {x : Operand} {ty : TypeId} {pos : String} {after : Array Edge} {gd : Option (Nat × Bool)}
theorem new_id (a : Act) : NewAt Tryd.prog ⟨dst, .alloc 37, ty, pos, after, gd⟩ a (.cells (arrB 32 []) 37 (0, 0)) := fun u => by
  rw [← zero_cells]
  go_simp
theorem load_run_op {ad : Addr} {v : Value} (u : World) (hr : (loadVar 37 ad).run Tryd.prog u = .ok v u) (hx : a.eval x = .pointer (some ad)) :
    (execOp a.eval ⟨dst, .load 37 x, ty, pos, after, gd⟩).run Tryd.prog u = .ok (.value v) u := by
  unfold execOp
  simp only [hx, Instr.loadAt, Instr.sureAddr, Sem.run_bind, Sem.run_pure, Result.andThen_ok, hr]
theorem eql_id_op {y : Operand} {xs ys : List Int} (hxl : xs.length = 32) (hyl : ys.length = 32) (u : World) (hx : a.eval x = idv xs) (hy : a.eval y = idv ys) :
    (execOp a.eval ⟨dst, .binOp .eql 37 x y 37, ty, pos, after, gd⟩).run Tryd.prog u = .ok (.value (.bool (eqL xs ys))) u := by
  unfold idv at hx hy
  have h : (Op.equalIn 10000 37 (.agg (arrB 32 xs)) (.agg (arrB 32 ys))).run Tryd.prog u = .ok (eqL xs ys) u := run_equal_id xs ys hxl hyl u
  unfold execOp
  simp only [hx, hy]
  go_simp
theorem neq_id_op {y : Operand} {xs ys : List Int} (hxl : xs.length = 32) (hyl : ys.length = 32) (u : World) (hx : a.eval x = idv xs) (hy : a.eval y = idv ys) :
    (execOp a.eval ⟨dst, .binOp .neq 37 x y 37, ty, pos, after, gd⟩).run Tryd.prog u = .ok (.value (.bool (!eqL xs ys))) u := by
  unfold idv at hx hy
  have h : (Op.equalIn 10000 37 (.agg (arrB 32 xs)) (.agg (arrB 32 ys))).run Tryd.prog u = .ok (eqL xs ys) u := run_equal_id xs ys hxl hyl u
  unfold execOp
  simp only [hx, hy]
  go_simp
theorem eqlb_op {y : Operand} {xs ys : List Int} {b : Bool} (hxl : xs.length = 32) (hyl : ys.length = 32) (hb : eqL xs ys = b) (u : World) (hx : a.eval x = idv xs) (hy : a.eval y = idv ys) :
    (execOp a.eval ⟨dst, .binOp .eql 37 x y 37, ty, pos, after, gd⟩).run Tryd.prog u = .ok (.value (.bool b)) u := by
  rw [← hb]
  exact eql_id_op hxl hyl u hx hy
theorem neqb_op {y : Operand} {xs ys : List Int} {b : Bool} (hxl : xs.length = 32) (hyl : ys.length = 32) (hb : (!eqL xs ys) = b) (u : World) (hx : a.eval x = idv xs) (hy : a.eval y = idv ys) :
    (execOp a.eval ⟨dst, .binOp .neq 37 x y 37, ty, pos, after, gd⟩).run Tryd.prog u = .ok (.value (.bool b)) u := by
  rw [← hb]
  exact neq_id_op hxl hyl u hx hy
/-- an id in a box -/
theorem box_load {w0 u : World} {M : Boxes} {g : Nat} {t : TypeId} {r : List Int} (hu : EnvC w0 M u) (hm : (g, Obj.cells (arrB 32 r) t (0, 0)) ∈ M) (hr : r.length = 32) : (loadVar 37 ⟨g, 0, none⟩).run Tryd.prog u = .ok (idv r) u :=
  run_loadId hr fun j hj => by
    have hj' : j < r.length := by omega
    rw [Addr.add_mid, Nat.zero_add, Row.cell (EnvX.row hu hm)]
    simp [arrB, hr, hj', u8v, List.getElem?_eq_getElem hj']
end
end Go.Proofs.YtcodmedgkboohaaDoor

namespace Go.Proofs.YtcodmedgkboohaaDoor
set_option maxRecDepth 8000
open Go.RowKit

theorem OwnF.get {w : World} {B n c : Nat} {A : Option Addr} {s : List Bool} (h : OwnF w B (.slice A n c) s) : s.length = n ∧ ∀ k, k < n → ∃ g, A = some ⟨g, 0, none⟩ ∧ g < w.heap.size ∧ w.cell? ⟨g, k, none⟩ = some (.bool (s.getD k true)) := by
  rcases h.2 with ⟨e, e2⟩ | ⟨g, cap, cur, e, _, hg, _⟩
  · injection e with e1 e3 e4
    exact ⟨by omega, fun k hk => by omega⟩
  · injection e with e1 e3 e4
    refine ⟨e3.symm, fun k hk => ⟨g, e1, Row.lt (t := 4) hg, ?_⟩⟩
    have hk' : k < s.length := by omega
    have := h.cells (g := g) (by rw [e1]; rfl) k (.bool (s.getD k true)) (by simp [List.getD, List.getElem?_eq_getElem hk'])
    rwa [Addr.add_mid, Nat.zero_add] at this
theorem OwnF.form {w : World} {B : Nat} {v : Value} {l : List Bool} (h : OwnF w B v l) : ∃ A c, v = .slice A l.length c ∧ l.length ≤ c ∧ c ≤ maxLen := by
  rcases h.2 with ⟨rfl, e⟩ | ⟨g, cap, cur, rfl, _, _, h1, h2, _⟩
  · exact ⟨none, 0, by rw [e], by omega, Nat.zero_le _⟩
  · exact ⟨_, cap, rfl, h1, h2⟩
theorem OwnF.below {w w' : World} {B : Nat} {v : Value} {l : List Bool} (h : OwnF w B v l) (hb : Below w.heap.size w w') : OwnF w' B v l := by
  refine ⟨h.1, ?_⟩
  rcases h.2 with h0 | ⟨g, cap, cur, e, hg, hh, h1⟩
  · exact .inl h0
  · exact .inr ⟨g, cap, cur, e, hg, (hb.block g (Row.lt (t := 4) hh)).trans hh, h1⟩
end Go.Proofs.YtcodmedgkboohaaDoor

namespace Go.Proofs.YtcodmedgkboohaaDoor
set_option maxRecDepth 8000
open Go.RowKit

theorem IdsIn.loads {w : World} {A : Option Addr} {l : List (List Int)} (h : IdsIn w w.heap.size A l) (hl : isIds l) {k : Nat} (hk : k < l.length) : ∃ ad, A = some ad ∧ ∀ u, EnvX w u [] → (loadVar 37 (ad.add (k * 32))).run Tryd.prog u = .ok (idv (l.getD k [])) u := by
  obtain ⟨ad, e, _⟩ := h.load hl hk
  refine ⟨ad, e, fun u hu => ?_⟩
  obtain ⟨ad2, e2, h2⟩ := (h.up (EnvX.bel hu)).load hl hk
  rw [e] at e2
  cases e2
  exact h2
end Go.Proofs.YtcodmedgkboohaaDoor

namespace Go.Proofs.YtcodmedgkboohaaDoor
set_option maxRecDepth 8000
open Go.RowKit

theorem elemB : Tryd.prog.elem 26 = 5 := by simp [Program.elem, Tryd.underlying26]
theorem sizeB (w : World) : (Go.sizeOf 5).run Tryd.prog w = .ok 1 w := by
  have h := infoB
  cases hq : Tryd.prog.info? 5 with
  | none => rw [hq] at h; cases h
  | some i =>
    rw [hq] at h
    simp only [Option.map_some, Option.some.injEq, Prod.mk.injEq] at h
    simp [Go.sizeOf, typeInfo, hq, h.2.1]
/-- where a cut slice begins -/
def cutA (A : Option Addr) (l m : Nat) : Option Addr := if m = l then A else A.map (·.add (l * 1))
theorem add_add (a : Addr) (l j : Nat) : (a.add (l * 1)).add j = a.add (l + j) := by
  unfold Addr.add
  by_cases h : l = 0
  · simp [h]
  · by_cases h2 : j = 0
    · simp [h, h2]
    · simp [h, h2, Nat.add_assoc]
theorem Bytes.cut {w : World} {B : Nat} {A : Option Addr} {xs : List Int} (h : Bytes w B A xs) (l k m : Nat) (hm : l + k ≤ m) : Bytes w B (cutA A l m) ((xs.drop l).take k) := by
  intro hp
  rw [List.length_take, List.length_drop] at hp
  obtain ⟨ad, rfl, hlt, hc⟩ := h (by omega)
  have hne : ¬ m = l := by omega
  refine ⟨ad.add (l * 1), by simp [cutA, hne], by rw [block_of_add]; exact hlt, fun j v hv => ?_⟩
  rw [add_add]
  refine hc (l + j) v ?_
  rw [List.map_take, List.getElem?_take] at hv
  split at hv
  · rw [List.map_drop, List.getElem?_drop] at hv
    exact hv
  · cases hv
theorem run_cut2 (A : Option Addr) (n c l h : Nat) (w : World) (h1 : l ≤ h) (h2 : h ≤ c) :
    (Instr.sliceAt 26 (.slice A n c) (some (.int .i64 (l : Int))) (some (.int .i64 (h : Int))) none).run Tryd.prog w = .ok (.slice (cutA A l c) (h - l) (c - l)) w := by
  have ht' : Tryd.prog.underlying 26 = some (.slice (Tryd.prog.elem 26)) := by rw [elemB]; exact Tryd.underlying26
  rw [run_sliceAt_slice w _ _ _ _ _ ht', run_slice_lh w 26 _ _ _ ht' .i64 .i64 _ _ (by omega) (by omega) (by omega), elemB, sizeB]
  simp [Result.andThen, sliced, cutA]
theorem wpList_cut2 {P : Program} {ops : Array Oper} {rest : List Oper} {o : Oper} {a : Act} {w : World} {Q : Exit → Act → World → Prop} {v lv hv v' : Value} {t : TypeId} (hgd : o.guard = none) (x l h : Operand)
    (ho : o.op = .slice t x (some l) (some h) none) (hx : a.eval x = v) (hl : a.eval l = lv) (hh : a.eval h = hv)
    (hrun : (Instr.sliceAt t v (some lv) (some hv) none).run P w = .ok v' w) (hk : wpList P ops Q rest (a.put o.dst v') w) : wpList P ops Q (o :: rest) a w :=
  wpList_plain hgd fun _ hK => by
    unfold Oper.wp execOp
    simp only [ho, hx, hl, hh, Option.map_some, Option.map_none, Sem.run_bind, Sem.run_pure, Result.andThen_ok, hrun]
    exact hK _ _ hk
end Go.Proofs.YtcodmedgkboohaaDoor

namespace Go.Proofs.YtcodmedgkboohaaDoor
set_option maxRecDepth 8000
open Go.RowKit

section
variable {a : Act} {dst : Option Tmp} {x l h : Operand} {ty : TypeId} {pos : String} {after : Array Edge} {gd : Option (Nat × Bool)}
theorem conv_op {A : Option Addr} {n c B : Nat} {xs : List Int} {s : ByteArray} (u : World) (hl : xs.length = n) (h : Bytes u B A xs) (hs : strOfNums xs = s) (hx : a.eval x = .slice A n c) :
    (execOp a.eval ⟨dst, .convert 26 9 x, ty, pos, after, gd⟩).run Tryd.prog u = .ok (.value (.string s)) u := by
  subst hs
  unfold execOp
  simp only [hx, Sem.run_bind, Sem.run_pure, Result.andThen_ok, conv_bytes A n c B xs u hl h]
theorem nes_op {s s' : ByteArray} {b : Bool} (u : World) (hb : (!(s.toList == s'.toList)) = b) (hx : a.eval x = .string s) (hy : a.eval l = .string s') :
    (execOp a.eval ⟨dst, .binOp .neq 9 x l 9, ty, pos, after, gd⟩).run Tryd.prog u = .ok (.value (.bool b)) u := by
  subst hb
  unfold execOp
  simp only [hx, hy]
  go_simp
end
/-- new bytes, as boxes -/
def FreshB (xs : List Int) (x : Value) (N : Boxes) : Prop := ∃ g cap cur, x = .slice (some ⟨g, 0, none⟩) xs.length cap ∧ N = [(g, Obj.cells cur 5 (0, 0))] ∧ xs.length ≤ cap ∧ cap ≤ maxLen ∧ cur.size = cap * 1 ∧ cur.toList.take (xs.length * 1) = xs.map u8v
theorem OwnB.fresh {w : World} {B : Nat} {v : Value} {xs : List Int} (h : OwnB w B v xs) (hp : 0 < xs.length) : ∃ N, FreshB xs v N ∧ ∀ y ∈ N, B ≤ y.1 ∧ w.heap[y.1]? = some y.2 := by
  rcases h.2 with ⟨_, e⟩ | ⟨g, cap, cur, rfl, h1, h2, h3, h4, h5, h6⟩
  · omega
  · refine ⟨_, ⟨g, cap, cur, rfl, rfl, h3, h4, h5, h6⟩, fun y hy => ?_⟩
    cases List.mem_singleton.1 hy
    exact ⟨h1, h2⟩
/-- the bytes of a box -/
theorem box_bytes {w0 u : World} {M : Boxes} {g cap : Nat} {cur : Array Value} {xs : List Int} (hu : EnvC w0 M u) (hm : (g, Obj.cells cur 5 (0, 0)) ∈ M) (h : xs.length ≤ cap ∧ cap ≤ maxLen ∧ cur.size = cap * 1 ∧ cur.toList.take (xs.length * 1) = xs.map u8v) : Bytes u u.heap.size (some ⟨g, 0, none⟩) xs := by
  have : OwnB u 0 (.slice (some ⟨g, 0, none⟩) xs.length cap) xs := ⟨by simp, .inr ⟨g, cap, cur, rfl, Nat.zero_le _, EnvX.box hu g _ hm, h.1, h.2.1, h.2.2.1, h.2.2.2⟩⟩
  exact this.bytes.2
end Go.Proofs.YtcodmedgkboohaaDoor

namespace Go.Proofs.YtcodmedgkboohaaDoor
set_option maxRecDepth 8000
open Go.RowKit

/-- what Clash answers -/
def ClashR (l : List (List Int)) (i : Int) (leaf : List Int) (p : List (List Int)) (B : Nat) (e : Ending) (w' : World) : Prop := match clashT l i leaf p with
  | none => e = .returned (.tuple #[.slice none 0 0, .slice none 0 0, .bool false])
  | some (a, b) => ∃ va vb, e = .returned (.tuple #[va, vb, .bool true]) ∧ OwnB w' B va a ∧ OwnB w' B vb b
theorem ClashR.no {l : List (List Int)} {i : Int} {leaf : List Int} {p : List (List Int)} {B : Nat} {e : Ending} {w' : World} (h : ¬ (checkT (rootT l) l.length i leaf p = true ∧ leaf ≠ l.getD i.toNat [])) (he : e = .returned (.tuple #[.slice none 0 0, .slice none 0 0, .bool false])) : ClashR l i leaf p B e w' := by
  unfold ClashR clashT
  rw [if_neg h]
  exact he
end Go.Proofs.YtcodmedgkboohaaDoor

namespace Go.Proofs.YtcodmedgkboohaaDoor
set_option maxRecDepth 8000
open Go.RowKit

def isId (x : List Int) : Prop := x.length = 32 ∧ ∀ b ∈ x, 0 ≤ b ∧ b ≤ 255
def I64 (i : Int) : Prop := -9223372036854775808 ≤ i ∧ i ≤ 9223372036854775807
def z32 : List Int := List.replicate 32 0
end Go.Proofs.YtcodmedgkboohaaDoor

namespace Go.Proofs.YtcodmedgkboohaaDoor
set_option maxRecDepth 8000

/-- a byte's number -/
def isB (l : List Int) : Prop := ∀ x ∈ l, 0 ≤ x ∧ x ≤ 255
theorem isB_nil : isB [] := fun _ h => by cases h
theorem isB_append {a b : List Int} : isB (a ++ b) ↔ isB a ∧ isB b := by
  unfold isB
  constructor
  · intro h
    exact ⟨fun x hx => h x (List.mem_append_left _ hx), fun x hx => h x (List.mem_append_right _ hx)⟩
  · rintro ⟨h1, h2⟩ x hx
    rcases List.mem_append.1 hx with h | h
    · exact h1 x h
    · exact h2 x h
theorem isB_take {a : List Int} (h : isB a) (k : Nat) : isB (a.take k) := fun x hx => h x (List.mem_of_mem_take hx)
theorem isB_drop {a : List Int} (h : isB a) (k : Nat) : isB (a.drop k) := fun x hx => h x (List.mem_of_mem_drop hx)
/-- the lowest k bytes of a number, the highest first -/
def putL (n : Nat) : Nat → List Int
  | 0 => []
  | k + 1 => putL (n / 256) k ++ [((n % 256 : Nat) : Int)]
/-- the number of bytes -/
def getL (l : List Int) : Nat := l.foldl (fun a x => 256 * a + x.toNat) 0
theorem putL_len (n k : Nat) : (putL n k).length = k := by
  induction k generalizing n with
  | zero => rfl
  | succ k ih => unfold putL; rw [List.length_append, ih]; rfl
theorem putL_byte (n k : Nat) : isB (putL n k) := by
  induction k generalizing n with
  | zero => exact isB_nil
  | succ k ih =>
    unfold putL
    refine isB_append.2 ⟨ih _, fun x hx => ?_⟩
    cases List.mem_singleton.1 hx
    omega
theorem getL_snoc (l : List Int) (x : Int) : getL (l ++ [x]) = 256 * getL l + x.toNat := by
  unfold getL
  rw [List.foldl_append]
  rfl
theorem getL_putL (n k : Nat) : getL (putL n k) = n % 256 ^ k := by
  induction k generalizing n with
  | zero => simp [putL, getL, Nat.mod_one]
  | succ k ih =>
    unfold putL
    rw [getL_snoc, ih, Int.toNat_natCast, Nat.pow_succ, Nat.mul_comm (256 ^ k) 256, Nat.mod_mul]
    omega
theorem snoc_ind {Q : List Int → Prop} (h0 : Q []) (h1 : ∀ l x, Q l → Q (l ++ [x])) (l : List Int) : Q l := by
  have h : ∀ l : List Int, Q l.reverse := fun l => by
    induction l with
    | nil => exact h0
    | cons x l ih => rw [List.reverse_cons]; exact h1 _ _ ih
  have h2 := h l.reverse
  rwa [List.reverse_reverse] at h2
theorem getL_lt (l : List Int) (h : isB l) : getL l < 256 ^ l.length := by
  revert h
  refine snoc_ind (Q := fun l => isB l → getL l < 256 ^ l.length) (fun _ => by decide) (fun l x ih h => ?_) l
  obtain ⟨h1, h2⟩ := isB_append.1 h
  have h3 := ih h1
  have h4 := h2 x (List.mem_singleton.2 rfl)
  rw [getL_snoc, List.length_append, List.length_singleton, Nat.pow_succ]
  omega
theorem putL_getL (l : List Int) (h : isB l) : putL (getL l) l.length = l := by
  revert h
  refine snoc_ind (Q := fun l => isB l → putL (getL l) l.length = l) (fun _ => rfl) (fun l x ih h => ?_) l
  obtain ⟨h1, h2⟩ := isB_append.1 h
  have h4 := h2 x (List.mem_singleton.2 rfl)
  rw [getL_snoc, List.length_append, List.length_singleton]
  show putL ((256 * getL l + x.toNat) / 256) l.length ++ [(((256 * getL l + x.toNat) % 256 : Nat) : Int)] = l ++ [x]
  rw [show (256 * getL l + x.toNat) / 256 = getL l by omega, ih h1, show (((256 * getL l + x.toNat) % 256 : Nat) : Int) = x by omega]
end Go.Proofs.YtcodmedgkboohaaDoor

namespace Go.Proofs.YtcodmedgkboohaaDoor
set_option maxRecDepth 8000
open Go.RowKit

theorem maysize_any (s : Int) (w : World) :
    Calls Tryd.prog 50 #[.int .i64 s] w fun e w' => e = .returned (.bool (decide (0 ≤ s ∧ s ≤ 8))) ∧ w = w' := by
  by_cases h0 : 0 ≤ s
  · by_cases h1 : s ≤ 8
    · go_enter Tryd.func50, Tryd.ntmps50
      go_wp2
      go_ret
      exact ⟨by simp [h0, h1], rfl⟩
    · go_enter Tryd.func50, Tryd.ntmps50
      go_wp2
      go_ret
      exact ⟨by simp [h1], rfl⟩
  · go_enter Tryd.func50, Tryd.ntmps50
    go_wp2
    go_ret
    exact ⟨by simp; omega, rfl⟩
theorem putL_head (n i : Nat) : putL n (i + 1) = ((n / 256 ^ i % 256 : Nat) : Int) :: putL n i := by
  induction i generalizing n with
  | zero => simp [putL]
  | succ i ih =>
    show putL (n / 256) (i + 1) ++ [((n % 256 : Nat) : Int)] = _
    rw [ih, List.cons_append, Nat.div_div_eq_div_mul, Nat.pow_succ, Nat.mul_comm (256 ^ i) 256]
    rfl
theorem put_set (n k i : Nat) (h : i < k) : (arrB k (List.replicate (k - i) 0 ++ putL n i)).setIfInBounds (k - 1 - i) (.int .u8 ((n / 256 ^ i % 256 : Nat) : Int)) = arrB k (List.replicate (k - (i + 1)) 0 ++ putL n (i + 1)) := by
  have hl : ∀ j, j ≤ k → (List.replicate (k - j) (0 : Int) ++ putL n j).length = k := fun j hj => by rw [List.length_append, List.length_replicate, putL_len]; omega
  obtain ⟨d, rfl⟩ : ∃ d, k = d + 1 + i := ⟨k - 1 - i, by omega⟩
  rw [show d + 1 + i - i = d + 1 by omega, show d + 1 + i - 1 - i = d by omega, show d + 1 + i - (i + 1) = d by omega, putL_head, List.replicate_succ', List.append_assoc]
  have hl1 := hl i (by omega)
  have hl2 := hl (i + 1) (by omega)
  rw [show d + 1 + i - i = d + 1 by omega, List.replicate_succ', List.append_assoc] at hl1
  rw [show d + 1 + i - (i + 1) = d by omega, putL_head] at hl2
  apply arrB_ext
  · omega
  · rw [Array.size_setIfInBounds, arrB_size _ _ (by omega)]
  · intro t ht
    rw [Array.getElem?_setIfInBounds, arrB_size _ _ (by omega)]
    by_cases e : d = t
    · subst e
      rw [if_pos rfl, if_pos (by omega)]
      simp [List.getD]
    · rw [if_neg e, arrB_get _ _ _ (by omega) ht]
      congr 2
      by_cases hlt : t < d
      · simp [List.getD, List.getElem?_append_left, hlt]
      · obtain ⟨s, rfl⟩ : ∃ s, t = d + (s + 1) := ⟨t - d - 1, by omega⟩
        simp [List.getD, List.getElem?_append_right]
set_option maxHeartbeats 1000000 in
theorem put_any (n k : Nat) (w : World) (hn : n < 18446744073709551616) (hk : k ≤ 8) :
    Calls Tryd.prog 27 #[.int .u64 n, .int .i64 k] w fun e w' => (∃ v, e = .returned v ∧ OwnB w' w.heap.size v (putL n k)) ∧ Below w.heap.size w w' := by
  have k8 : (k : Int) ≤ 8 := by omega
  have d0 : (decide (0 ≤ (k : Int) ∧ (k : Int) ≤ 8)) = true := by simp; omega
  go_enter Tryd.func27, Tryd.ntmps27
  go_wp2_with fail
  refine (maysize_any (k : Int) w).mono ?_
  rintro e w1 ⟨rfl, rfl⟩
  rw [d0]
  go_wp2_with fail
  rw [make_bytes k (by omega)]
  go_wp2_with fail
  go_loopw [13] (fun i u => ∃ j : Nat, j ≤ k ∧ i = .int .i64 j ∧ Below w.heap.size w u ∧ Hid (Row u w.heap.size 5 (arrB k (List.replicate (k - j) 0 ++ putL n j)))) (fun i _ => k - (intOf i).toNat)
  case atStart =>
    refine ⟨0, by omega, rfl, by go_grown, ?_⟩
    have e : arrB k (List.replicate (k - 0) 0 ++ putL n 0) = arrB k [] := by simp [putL, arrB]
    rw [e]
    exact Row.new w 5 _
  case round =>
    obtain ⟨j, hj, rfl, hbl, hrows⟩ := hrel
    have r0 := hrows.out
    by_cases hlt : j < k
    · have hlt2 : (j : Int) < (k : Int) := by omega
      have hj8 : (j : Int) < 8 := by omega
      have hj0 : (0 : Int) ≤ (j : Int) := by omega
      have hset := put_set n k j hlt
      have e0 := (r0.cell (k - 1 - j)).trans (arrB_get k _ (k - 1 - j) (by rw [List.length_append, List.length_replicate, putL_len]; omega) (by omega))
      have f0 := r0.frozen (k - 1 - j)
      have hv : Hid ((n : Int) / 2 ^ (8 * j) % 256 = ((n / 256 ^ j % 256 : Nat) : Int)) := by
        show _ = _
        rw [show (256 : Nat) = 2 ^ 8 from rfl, ← Nat.pow_mul]
        simp
      have HS := Lib.hid hset
      have R0 := Lib.hid r0
      clear hset r0 hrows
      generalize (List.replicate (k - j) 0 ++ putL n j).getD (k - 1 - j) 0 = z at *
      generalize arrB k (List.replicate (k - j) 0 ++ putL n j) = cs at *
      go_wp2_with fail
      go_roundw
      case rel =>
        refine ⟨j + 1, by omega, by go_num, hbl.setCell (by simp) _, ?_⟩
        rw [← HS.out, ← hv.out]
        exact R0.out.put _ _
      case measure => simp [intOf]; omega
    · obtain rfl : j = k := by omega
      have r1 : Row wr w.heap.size 5 (arrB j (putL n j)) := by simpa using r0
      go_wp2
      go_ret
      exact ⟨⟨_, rfl, own_of_row r1 (putL_len _ _) (Nat.le_refl _) (by unfold maxLen; omega)⟩, hbl⟩
end Go.Proofs.YtcodmedgkboohaaDoor

namespace Go.Proofs.YtcodmedgkboohaaDoor
set_option maxRecDepth 8000
open Go.RowKit

theorem get_step (m x : Nat) (hm : m < 72057594037927936) (hx : x ≤ 255) : bits .or .u64 ((m : Int) * 256) (x : Int) = ((256 * m + x : Nat) : Int) := by
  rw [show (m : Int) * 256 = ((m * 256 : Nat) : Int) by omega, bits_or_u64_nat _ _ (by omega) (by omega)]
  congr 1
  have := Nat.shiftLeft_add_eq_or_of_lt (show x < 2 ^ 8 by omega) m
  rw [Nat.shiftLeft_eq, show (2 : Nat) ^ 8 = 256 from rfl] at this
  omega
set_option maxHeartbeats 1000000 in
theorem get_some (A : Option Addr) (n c i s : Nat) (xs : List Int) (w : World) (hl : xs.length = n) (hc : n ≤ c) (hn : c ≤ maxLen) (hB : isB xs) (hx : Bytes w w.heap.size A xs) (s8 : s ≤ 8) (his : i + s ≤ n) :
    Calls Tryd.prog 65 #[.slice A n c, .int .i64 i, .int .i64 s] w fun e w' => e = .returned (.tuple #[.int .u64 (getL ((xs.drop i).take s)), .bool true]) ∧ w = w' := by
  unfold maxLen at hn
  have d0 : (decide (0 ≤ (s : Int) ∧ (s : Int) ≤ 8)) = true := by simp; omega
  have k8 : (s : Int) ≤ 8 := by omega
  have n1 : ¬ ((n : Int) - (s : Int) < (i : Int)) := by omega
  have hcut := fun w => run_cut2 A n c i (i + s) w (by omega) (by omega)
  rw [show i + s - i = s by omega] at hcut
  have HY := Lib.hid (hx.cut i s c (by omega))
  have HB := Lib.hid (isB_take (isB_drop hB i) s)
  have hyl : ((xs.drop i).take s).length = s := by rw [List.length_take, List.length_drop]; omega
  generalize (xs.drop i).take s = ys at *
  have HCUT := Lib.hid hcut
  have HL := Lib.hid hyl
  clear hcut hl hx hB hyl
  generalize cutA A i c = A' at *
  go_enter Tryd.func65, Tryd.ntmps65
  go_wp2_with fail
  refine (maysize_any s w).mono ?_
  rintro e w1 ⟨rfl, rfl⟩
  rw [d0]
  go_wp2_with ((with_reducible refine wpList_cut2 (o := ⟨some 31, _, _, _, _, _⟩) ?_ (.tmp 26) (.tmp 27) (.tmp 30) ?_ ?_ ?_ ?_ (HCUT.out _) ?_); (rfl); (rfl); (rfl); (rfl); (rfl))
  go_loopw [8, 33] (fun v i u => ∃ j : Nat, j ≤ s ∧ i = .int .i64 j ∧ v = .int .u64 (getL (ys.take j)) ∧ u = w) (fun _ i _ => s - (intOf i).toNat)
  case atStart => exact ⟨0, by omega, rfl, rfl, rfl⟩
  case round =>
    obtain ⟨j, hj, rfl, rfl, rfl⟩ := hrel
    by_cases hlt : j < s
    · have hlt2 : (j : Int) < (s : Int) := by omega
      obtain ⟨ad, rfl, hcell⟩ := HY.out.cell j (by rw [HL.out]; exact hlt)
      have hx := HB.out _ (List.getElem_mem (by rw [HL.out]; exact hlt : j < ys.length))
      have hg : ys.getD j 0 = ys[j]'(by rw [HL.out]; exact hlt) := by rw [List.getD_eq_getElem?_getD, List.getElem?_eq_getElem (by rw [HL.out]; exact hlt)]; rfl
      have ht : Hid (getL (ys.take (j + 1)) = 256 * getL (ys.take j) + (ys.getD j 0).toNat) := by
        show _ = _
        rw [List.take_add_one, List.getElem?_eq_getElem (by rw [HL.out]; exact hlt), hg]
        exact getL_snoc _ _
      have hm : getL (ys.take j) < 72057594037927936 := by
        have h1 := getL_lt (ys.take j) (isB_take HB.out j)
        rw [List.length_take, HL.out] at h1
        have h2 : 256 ^ (min j s) ≤ 256 ^ 7 := Nat.pow_le_pow_right (by omega) (by omega)
        omega
      rw [← hg] at hx
      obtain ⟨x, hx2⟩ := Int.eq_ofNat_of_zero_le hx.1
      rw [hx2] at hx hcell ht
      have hst := Lib.hid (get_step (getL (ys.take j)) x hm (by omega))
      clear hg hx2
      generalize getL (ys.take j) = m at *
      go_wp2
      go_roundw
      case rel =>
        refine ⟨j + 1, by omega, by go_num, ?_, trivial⟩
        rw [hst.out, ht.out, Int.toNat_natCast]
      case measure => simp [intOf]; omega
    · obtain rfl : j = s := by omega
      have hT : ys.take j = ys := List.take_of_length_le (by rw [HL.out]; exact Nat.le_refl _)
      rw [hT]
      go_wp2
      go_returns
      exact ⟨rfl, rfl⟩
end Go.Proofs.YtcodmedgkboohaaDoor
