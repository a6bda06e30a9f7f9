/- What a round of Split's loop does to memory; parts and splits. -/
import Derived.Test.YthgjfmdbipmhoaaB6
namespace Go.Proofs.Ythgjfmdbipmhoaa
open Go.RowKit Go.Shelf

def endF {xs : List Int} (at_ : Nat) (l : List (Pt xs)) : Nat := (l.getLast?.map (·.to)).getD at_
theorem endF_snoc {xs : List Int} (at_ : Nat) (l : List (Pt xs)) (p : Pt xs) : endF at_ (l ++ [p]) = p.to := by simp [endF]
theorem endF_cons {xs : List Int} (at_ : Nat) (l : List (Pt xs)) (p : Pt xs) : endF at_ (p :: l) = endF p.to l := by
  unfold endF
  rw [List.getLast?_cons]
  cases l.getLast? <;> rfl
theorem splitG_parts (xs : List Int) : ∀ n at_, splitG xs n at_ = if (partsG xs n at_).length = n ∧ endF at_ (partsG xs n at_) = xs.length then some ((partsG xs n at_).map (·.x)) else none
  | 0, at_ => by
    have e : partsG xs 0 at_ = [] := rfl
    rw [e]
    simp [splitG, endF]
  | n + 1, at_ => by
    rw [splitG_succ]
    cases h : cutL xs at_ with
    | none =>
      rw [partsG_none h]
      simp
    | some p =>
      obtain ⟨x, to⟩ := p
      simp only [partsG_some h, splitG_parts xs n to, endF_cons, List.length_cons, List.map_cons]
      by_cases hc : (partsG xs n to).length = n ∧ endF to (partsG xs n to) = xs.length
      · rw [if_pos hc, if_pos (by omega)]
      · rw [if_neg hc, if_neg (by omega)]
theorem endF_le {xs : List Int} : ∀ n at_, at_ ≤ xs.length → endF at_ (partsG xs n at_) ≤ xs.length
  | 0, _, h => h
  | n + 1, at_, hh => by
    cases h : cutL xs at_ with
    | none => rw [partsG_none h]; exact hh
    | some p =>
      obtain ⟨x, to⟩ := p
      rw [partsG_some h, endF_cons]
      exact endF_le n to (cutL_spec h).2.1
theorem infoL : (Try.prog.info? 23).map (fun i => (i.zero, i.size, i.bytes)) = some (some (.slice none 0 0), 1, 24) := by kernel_rfl
theorem info_lists : ∃ i, Try.prog.info? 23 = some i ∧ i.zero = some (.slice none 0 0) ∧ i.size = 1 ∧ i.bytes = 24 := by
  cases hq : Try.prog.info? 23 with
  | none => have := infoL; rw [hq] at this; cases this
  | some i =>
    have h := infoL
    rw [hq] at h
    simp only [Option.map_some, Option.some.injEq, Prod.mk.injEq] at h
    exact ⟨i, rfl, h⟩
theorem make_lists (m : Nat) (hm : m ≤ 65536) (w : World) : (Instr.makeSlice 29 (.int .i64 0) (.int .u64 (m : Int))).run Try.prog w = .ok (.slice (some ⟨w.heap.size, 0, none⟩) 0 m) (w.alloc (.cells (madeCells #[.slice none 0 0] m) 23)) := by
  obtain ⟨i, hi, h1, h2, h3⟩ := info_lists
  have hr := run_make (P := Try.prog) w 29 23 i _ Try.underlying29 hi h1 .i64 .u64 0 (m : Int) (by omega) (by omega) (by rw [h3]; omega) (by omega)
  simp only [Int.toNat_natCast, h2, Nat.mul_one] at hr
  exact hr
/-- between two rounds: the list so far, where the last part ends -/
structure SI (W0 : World) (m0 n1 Bl Ba Bb : Nat) {xs : List Int} (pre : List (Pt xs)) (lv : Value) (vs : List Value) (W : World) : Prop where
  bl : Boxed W Bl 29 lv
  ba : Boxed W Ba 3 (.int .i64 (endF 1 pre : Nat))
  own : W.ownsRow m0 23 1 lv pre.length vs
  nb : lv.ownBlock ≠ some Bb
  el : ∀ (k : Nat) (p : Pt xs), pre[k]? = some p → ∃ v, vs[k]? = some v ∧ OwnB W n1 v p.x
  kp : KpB m0 Bb W0 W
  sz : n1 ≤ W.heap.size
theorem keepsOthers_below {W W' : World} (h : Below W.heap.size W W') : KeepsOthers W W' := ⟨h.size, fun k o hk _ => (h.block k (Array.getElem?_eq_some_iff.1 hk).1).trans hk⟩
theorem ownB_kept {W W' : World} {row : Option Nat} {B : Nat} {v : Value} {xs : List Int} (h : OwnB W B v xs) (hg : W.grownBy W' row) (hne : v.ownBlock = none ∨ v.ownBlock ≠ row) : OwnB W' B v xs := World.ownsRow.kept h hg hne
theorem ownB_ne {W : World} {B : Nat} {v : Value} {xs : List Int} (h : OwnB W B v xs) {g : Nat} (hg : g < B) : v.ownBlock = none ∨ v.ownBlock ≠ some g := by
  cases hv : v.ownBlock with
  | none => exact .inl rfl
  | some k =>
    refine .inr fun e => ?_
    have := (World.ownsRow.lt h k hv).1
    cases e
    omega
theorem ownB_row {W : World} {B base k : Nat} {v lv : Value} {xs : List Int} {vs : List Value} (h : OwnB W B v xs) (hl : W.ownsRow base 23 1 lv k vs) : v.ownBlock = none ∨ v.ownBlock ≠ lv.ownBlock := by
  rcases h.2 with ⟨rfl, _⟩ | ⟨g, cap, cur, rfl, _, hh, _⟩
  · exact .inl rfl
  · refine .inr fun e => ?_
    rcases hl.2 with ⟨rfl, _⟩ | ⟨g', cap', cur', rfl, _, hh', _⟩
    · simp [Value.ownBlock] at e
    · simp only [Value.ownBlock, Option.some.injEq] at e
      subst e
      rw [hh] at hh'
      simp at hh'
theorem row_cells {W : World} {base size k : Nat} {e : TypeId} {v : Value} {vs : List Value} (h : W.ownsRow base e size v k vs) : ∀ (j : Nat) (o : Obj), v.ownBlock = some j → W.heap[j]? = some o → o.isCells = true := by
  intro j o hj ho
  rcases h.2 with ⟨rfl, _⟩ | ⟨g, cap, cur, rfl, _, hh, _⟩
  · simp [Value.ownBlock] at hj
  · simp only [Value.ownBlock, Option.some.injEq] at hj
    subst hj
    rw [hh] at ho
    cases ho
    rfl
set_option maxHeartbeats 1000000 in
theorem split_step {W0 W w2 : World} {m0 n1 Bl Ba Bb : Nat} {xs : List Int} {pre : List (Pt xs)} {lv v : Value} {vs : List Value} (hI : SI W0 m0 n1 Bl Ba Bb pre lv vs W) (p : Pt xs) (hcnt : pre.length ≤ 255) (hm : m0 ≤ W0.heap.size) (h0 : m0 ≤ Bl) (h1 : Bl < Ba) (h2 : Ba < Bb) (h3 : Bb < n1)
    (hb : Below W.heap.size W w2) (hv : OwnB w2 W.heap.size v p.x) :
    ∃ lv' w4, (Builtin.append_ #[29, 29] 29 #[lv, .slice (some ⟨w2.heap.size, 0, none⟩) 1 1]).run Try.prog (w2.alloc (.cells #[v] 23)) = .ok lv' w4 ∧ (∃ g cap, lv' = .slice (some ⟨g, 0, none⟩) (pre.length + 1) cap) ∧
      Boxed w4 Bl 29 lv ∧ (Boxed (w4.setCell ⟨Bl, 0, none⟩ lv') Ba 3 (.int .i64 (endF 1 pre : Nat))) ∧
      (KeepsOthers W ((w4.setCell ⟨Bl, 0, none⟩ lv').setCell ⟨Ba, 0, none⟩ (.int .i64 (p.to : Int))) ∧ KpB m0 Bb W ((w4.setCell ⟨Bl, 0, none⟩ lv').setCell ⟨Ba, 0, none⟩ (.int .i64 (p.to : Int))) ∧
        SI W0 m0 n1 Bl Ba Bb (pre ++ [p]) lv' (vs ++ [v]) ((w4.setCell ⟨Bl, 0, none⟩ lv').setCell ⟨Ba, 0, none⟩ (.int .i64 (p.to : Int)))) := by
  obtain ⟨i, hi, hz1, hz2, hz3⟩ := info_lists
  have hsz := hI.sz
  have hW0 := hI.kp.1.size
  have hs2 := hb.size
  have hown2 : w2.ownsRow m0 23 1 lv pre.length vs := by
    rcases hI.own with ⟨e1, e2 | ⟨g, cap, cur, e, hg, hh, h4⟩⟩
    · exact ⟨e1, .inl e2⟩
    · exact ⟨e1, .inr ⟨g, cap, cur, e, hg, (hb.block g (Row.lt (t := 23) hh)).trans hh, h4⟩⟩
  have g3 : w2.grownBy (w2.alloc (.cells #[v] 23)) none := World.grownBy_alloc w2 _ none
  have hown3 : (w2.alloc (.cells #[v] 23)).ownsRow m0 23 1 lv pre.length vs := hown2.alloc _
  have hlt3 : (w2.alloc (.cells #[v] 23)).heap.size = w2.heap.size + 1 := World.size_alloc _ _
  obtain ⟨lv', w4, hrun, hown4, hgr, hnil, hblk⟩ := run_append_own_at (P := Try.prog) (w2.alloc (.cells #[v] 23)) m0 29 29 23 i (.slice none 0 0) 1 24 Try.underlying29 hi hz1 hz2 hz3 rfl (by decide) lv pre.length vs hown3
    ⟨w2.heap.size, 0, none⟩ 1 1 [v] rfl (cell_one_new _ _ _) (by
      intro u hu
      cases List.mem_singleton.1 hu
      obtain ⟨A, c, rfl⟩ := hv.form
      rfl) (by unfold maxLen; omega) (by omega) (by omega)
  obtain ⟨g, cap, rfl⟩ := ownsRow_succ hown4
  have b2 : Boxed w2 Bl 29 lv := (hb.block Bl hI.bl.lt).trans hI.bl
  have b3 : Boxed (w2.alloc (.cells #[v] 23)) Bl 29 lv := b2.alloc _
  have b4 : Boxed w4 Bl 29 lv := b3.kept hgr (b3.not_row (by decide) hown3)
  have a2 : Boxed w2 Ba 3 (.int .i64 (endF 1 pre : Nat)) := (hb.block Ba hI.ba.lt).trans hI.ba
  have a3 : Boxed (w2.alloc (.cells #[v] 23)) Ba 3 (.int .i64 (endF 1 pre : Nat)) := a2.alloc _
  have a4 : Boxed w4 Ba 3 (.int .i64 (endF 1 pre : Nat)) := a3.kept hgr (a3.not_row (by decide) hown3)
  have g5 := grownBy_setCell' w4 Bl (.slice (some ⟨g, 0, none⟩) (pre.length + 1) cap)
  have b5 : Boxed (w4.setCell ⟨Bl, 0, none⟩ (.slice (some ⟨g, 0, none⟩) (pre.length + 1) cap)) Bl 29 (.slice (some ⟨g, 0, none⟩) (pre.length + 1) cap) := b4.set _
  have a5 : Boxed (w4.setCell ⟨Bl, 0, none⟩ (.slice (some ⟨g, 0, none⟩) (pre.length + 1) cap)) Ba 3 (.int .i64 (endF 1 pre : Nat)) := a4.kept g5 (by simp; omega)
  have g6 := grownBy_setCell' (w4.setCell ⟨Bl, 0, none⟩ (.slice (some ⟨g, 0, none⟩) (pre.length + 1) cap)) Ba (.int .i64 (p.to : Int))
  have hs4 := hgr.size
  have hs5 := g5.size
  have hs6 := g6.size
  have ne4 : ∀ {B' : Nat} {u : Value} {ys : List Int}, OwnB (w2.alloc (.cells #[v] 23)) B' u ys → OwnB w4 B' u ys := fun h => ownB_kept h hgr (ownB_row h hown3)
  have ne6 : ∀ {u : Value} {ys : List Int}, OwnB w4 n1 u ys → OwnB ((w4.setCell ⟨Bl, 0, none⟩ (.slice (some ⟨g, 0, none⟩) (pre.length + 1) cap)).setCell ⟨Ba, 0, none⟩ (.int .i64 (p.to : Int))) n1 u ys := fun h => by
    have h5 := ownB_kept h g5 (ownB_ne h (by omega))
    exact ownB_kept h5 g6 (ownB_ne h5 (by omega))
  have row4 : ∀ r, lv.ownBlock = some r → m0 ≤ r := fun r hr => (hown3.lt r hr).1
  have bel2 : Below m0 W w2 := hb.mono (by omega)
  have bel3 : Below m0 W (w2.alloc (.cells #[v] 23)) := bel2.alloc (by omega) _
  have bel4 : Below m0 W w4 := bel3.trans (below_of_grown hgr row4 (by omega))
  have bel5 : Below m0 W (w4.setCell ⟨Bl, 0, none⟩ (.slice (some ⟨g, 0, none⟩) (pre.length + 1) cap)) := bel4.setCell (p := ⟨Bl, 0, none⟩) h0 _
  have bel6 : Below m0 W ((w4.setCell ⟨Bl, 0, none⟩ (.slice (some ⟨g, 0, none⟩) (pre.length + 1) cap)).setCell ⟨Ba, 0, none⟩ (.int .i64 (p.to : Int))) := bel5.setCell (p := ⟨Ba, 0, none⟩) (by show m0 ≤ Ba; omega) _
  have kbb : ∀ o, W.heap[Bb]? = some o → ((w4.setCell ⟨Bl, 0, none⟩ (.slice (some ⟨g, 0, none⟩) (pre.length + 1) cap)).setCell ⟨Ba, 0, none⟩ (.int .i64 (p.to : Int))).heap[Bb]? = some o := fun o ho => by
    have hlt := (Array.getElem?_eq_some_iff.1 ho).1
    have e2 := (hb.block Bb hlt).trans ho
    have e3 : (w2.alloc (.cells #[v] 23)).heap[Bb]? = some o := (Below.heap_alloc _ _ Bb (by omega)).trans e2
    have e4 : w4.heap[Bb]? = some o := (hgr.block Bb (by omega) (fun e => hI.nb e.symm)).trans e3
    have e5 := (g5.block Bb (by omega) (by simp; omega)).trans e4
    exact (g6.block Bb (by omega) (by simp; omega)).trans e5
  refine ⟨_, w4, hrun, ⟨g, cap, rfl⟩, b4, a5, ?_, ⟨bel6, kbb⟩, ⟨?_, ?_, ?_, ?_, ?_, ?_, ?_⟩⟩
  · exact ((((keepsOthers_below hb).trans (KeepsOthers.alloc _ _)).trans (KeepsOthers.of_grownBy hgr (row_cells hown3))).trans (KeepsOthers.setCell _ _ _)).trans (KeepsOthers.setCell _ _ _)
  · exact b5.kept g6 (by simp; omega)
  · rw [endF_snoc]; exact a5.set _
  · rw [List.length_append]
    have h5 := hown4.kept g5 (by
      rcases Boxed.not_row b4 (by decide) hown4 with h
      exact .inr (fun e => h e.symm))
    refine h5.kept g6 (.inr fun e => ?_)
    have a5' := a5
    exact Boxed.not_row a5' (by decide) h5 e.symm
  · rcases hblk with e | e
    · rw [e]; exact hI.nb
    · rw [e, hlt3]
      simp only [ne_eq, Option.some.injEq]
      omega
  · intro k q hq
    by_cases hk : k < pre.length
    · rw [List.getElem?_append_left hk] at hq
      obtain ⟨u, hu, ho⟩ := hI.el k q hq
      refine ⟨u, ?_, ne6 (ne4 ?_)⟩
      · rw [List.getElem?_append_left (by have := hI.own.1; omega)]
        exact hu
      · exact OwnB.below (ho.below hb) ((Below.refl _ _).alloc (Nat.le_refl _) _)
    · rw [List.getElem?_append_right (by omega)] at hq
      have hk0 : k - pre.length = 0 := by
        rcases Nat.eq_zero_or_pos (k - pre.length) with e | e
        · exact e
        · rw [List.getElem?_eq_none (by simp; omega)] at hq
          cases hq
      rw [hk0] at hq
      obtain rfl : p = q := by simpa using hq
      have hvl : vs.length = pre.length := by have := hI.own.1; omega
      refine ⟨v, ?_, ne6 (ne4 ?_)⟩
      · rw [List.getElem?_append_right (by omega), hvl, hk0]
        rfl
      · exact (hv.less (by omega)).below ((Below.refl _ _).alloc (Nat.le_refl _) _)
  · exact hI.kp.trans ⟨bel6, kbb⟩
  · omega
end Go.Proofs.Ythgjfmdbipmhoaa
