/- Part of a proof. -/
import Derived.Test.YtbmiecogjmbciaaDoorCg
namespace Go.Proofs.YtbmiecogjmbciaaDoor
set_option maxRecDepth 8000

def Leaves (l : List Tot) : Prop := ∀ x ∈ l, x.n = 1 ∧ x.w < 4294967296
theorem Leaves.take {l : List Tot} (h : Leaves l) (k : Nat) : Leaves (l.take k) := fun x hx => h x (List.mem_of_mem_take hx)
theorem Leaves.drop {l : List Tot} (h : Leaves l) (k : Nat) : Leaves (l.drop k) := fun x hx => h x (List.mem_of_mem_drop hx)
def sumW (l : List Tot) : Nat := (l.map (·.w)).sum
theorem sumW_append (l q : List Tot) : sumW (l ++ q) = sumW l + sumW q := by unfold sumW; rw [List.map_append, List.sum_append]
theorem sumW_cut (l : List Tot) (k : Nat) : sumW (l.take k) + sumW (l.drop k) = sumW l := by rw [← sumW_append, List.take_append_drop]
theorem sumW_le {l : List Tot} (h : Leaves l) : sumW l ≤ l.length * 4294967296 := by
  induction l with
  | nil => simp [sumW]
  | cons x l ih =>
    have h1 := ih (fun y hy => h y (List.mem_cons_of_mem _ hy))
    have h2 := (h x (List.mem_cons_self ..)).2
    unfold sumW at *
    simp only [List.map_cons, List.sum_cons, List.length_cons]
    omega
theorem wrap_small {n : Int} (h : -9223372036854775808 ≤ n ∧ n ≤ 9223372036854775807) : IntKind.i64.wrap n = n := by rw [IntKind.wrap_i64]; omega
theorem all_nw : ∀ (l : List Tot), 1 ≤ l.length → l.length ≤ 1000000 → Leaves l → (allT l).n = l.length ∧ (allT l).w = sumW l := by
  intro l
  generalize hm : l.length = m
  revert l
  induction m using Nat.strongRecOn with
  | _ m ih =>
    intro l hl h1 hM hL
    by_cases h : m = 1
    · subst h
      match l, hl with
      | [x], _ =>
        have := hL x (List.mem_cons_self ..)
        rw [all_one]
        simp [sumW, this.1]
    · obtain ⟨a, b, _, _⟩ := half_spec (n := m) (by omega)
      rw [all_cut (by omega), hl]
      obtain ⟨n1, w1⟩ := ih (halfT m) b (l.take (halfT m)) (by rw [List.length_take]; omega) a (by omega) (hL.take _)
      obtain ⟨n2, w2⟩ := ih (m - halfT m) (by omega) (l.drop (halfT m)) (by rw [List.length_drop]; omega) (by omega) (by omega) (hL.drop _)
      have hs := sumW_cut l (halfT m)
      have hb := sumW_le hL
      unfold joinT
      simp only [n1, n2, w1, w2]
      refine ⟨?_, ?_⟩
      · rw [wrap_small (by omega)]
        omega
      · rw [hs, Nat.mod_eq_of_lt]
        unfold Big
        omega
theorem Leaves.all_n {l : List Tot} (h : Leaves l) (h1 : 1 ≤ l.length) (h2 : l.length ≤ 1000000) : (allT l).n = l.length := (all_nw l h1 h2 h).1
def blocksF : Nat → List Tot → List Tot
  | 0, _ => []
  | f + 1, l => if l.length = 0 then [] else allT (l.take (halfT (l.length + 1))) :: blocksF f (l.drop (halfT (l.length + 1)))
def blocksT (l : List Tot) : List Tot := blocksF l.length l
theorem blocksF_more : ∀ (f g : Nat) (l : List Tot), l.length ≤ f → l.length ≤ g → blocksF f l = blocksF g l
  | 0, 0, _, _, _ => rfl
  | 0, g + 1, l, h, _ => by
    unfold blocksF
    rw [if_pos (by omega)]
  | f + 1, 0, l, _, h => by
    unfold blocksF
    rw [if_pos (by omega)]
  | f + 1, g + 1, l, h1, h2 => by
    unfold blocksF
    by_cases h : l.length = 0
    · rw [if_pos h, if_pos h]
    · rw [if_neg h, if_neg h]
      obtain ⟨a, b, _, _⟩ := half_spec (n := l.length + 1) (by omega)
      rw [blocksF_more f g (l.drop _) (by rw [List.length_drop]; omega) (by rw [List.length_drop]; omega)]
theorem blocks_none : blocksT [] = [] := rfl
theorem blocks_some {l : List Tot} (h : 1 ≤ l.length) : blocksT l = allT (l.take (halfT (l.length + 1))) :: blocksT (l.drop (halfT (l.length + 1))) := by
  obtain ⟨a, b, _, _⟩ := half_spec (n := l.length + 1) (by omega)
  unfold blocksT
  obtain ⟨n, hn⟩ : ∃ n, l.length = n + 1 := ⟨l.length - 1, by omega⟩
  rw [blocksF_more l.length (n + 1) l (Nat.le_refl _) (by omega), blocksF, if_neg (by omega), blocksF_more n _ (l.drop _) (by rw [List.length_drop]; omega) (Nat.le_refl _)]
theorem blocks_nil {l : List Tot} (h : blocksT l = []) : l = [] := by
  by_cases h1 : 1 ≤ l.length
  · rw [blocks_some h1] at h
    cases h
  · exact List.eq_nil_of_length_eq_zero (by omega)
theorem blocks_pow {l : List Tot} {e : Nat} (h : l.length = 2 ^ e) : blocksT l = [allT l] := by
  have hp : 0 < 2 ^ e := Nat.pow_pos (by decide)
  have hh : halfT (l.length + 1) = 2 ^ e := half_unique (by omega) (by omega)
  rw [blocks_some (by omega), hh, List.take_of_length_le (by omega), List.drop_of_length_le (by omega), blocks_none]
theorem blocks_one {l : List Tot} {z : Tot} (h : blocksT l = [z]) : z = allT l ∧ l.length = halfT (l.length + 1) := by
  have h1 : 1 ≤ l.length := by
    rcases Nat.eq_zero_or_pos l.length with h0 | h0
    · rw [List.eq_nil_of_length_eq_zero h0] at h
      cases h
    · exact h0
  obtain ⟨a, b, _, _⟩ := half_spec (n := l.length + 1) (by omega)
  rw [blocks_some h1] at h
  obtain ⟨h2, h3⟩ := List.cons.inj h
  have h4 := congrArg List.length (blocks_nil h3)
  rw [List.length_drop, List.length_nil] at h4
  have h5 : halfT (l.length + 1) = l.length := by omega
  refine ⟨?_, h5.symm⟩
  rw [← h2, h5, List.take_length]
theorem carry_app (s : List Tot) : ∀ (r : List Tot) (x : Tot), (∃ z, carryT x r = [z] ∧ carryT x (r ++ s) = carryT z s) ∨ (2 ≤ (carryT x r).length ∧ carryT x (r ++ s) = carryT x r ++ s)
  | [], x => .inl ⟨x, rfl, rfl⟩
  | y :: r, x => by
    by_cases h : x.n = y.n
    · have e : ∀ q, carryT x (y :: q) = carryT (joinT y x) q := fun q => by rw [carryT, if_pos h]
      rw [List.cons_append, e, e]
      exact carry_app s r (joinT y x)
    · have e : ∀ q, carryT x (y :: q) = x :: y :: q := fun q => by rw [carryT, if_neg h]
      rw [List.cons_append, e, e]
      exact .inr ⟨by simp, rfl⟩
theorem app_blocks : ∀ (l : List Tot) (x : Tot), l.length ≤ 100000 → Leaves (l ++ [x]) → appT (blocksT l) x = blocksT (l ++ [x]) := by
  intro l
  generalize hm : l.length = m
  revert l
  induction m using Nat.strongRecOn with
  | _ m ih =>
    intro l hl x hM hL
    by_cases h0 : m = 0
    · subst h0
      rw [List.eq_nil_of_length_eq_zero hl, blocks_none, List.nil_append]
      exact (blocks_pow (l := [x]) (e := 0) rfl).symm
    · obtain ⟨a, b, c, e, he⟩ := half_spec (n := m + 1) (by omega)
      have hll : (l.drop (halfT (m + 1))).length = m - halfT (m + 1) := by rw [List.length_drop, hl]
      have htl : (l.take (halfT (m + 1))).length = halfT (m + 1) := by rw [List.length_take]; omega
      have hL1 : Leaves l := fun y hy => hL y (List.mem_append_left _ hy)
      have hL2 : Leaves (l.drop (halfT (m + 1)) ++ [x]) := fun y hy => by
        rcases List.mem_append.1 hy with h | h
        · exact hL1 y (List.mem_of_mem_drop h)
        · exact hL y (List.mem_append_right _ h)
      have hih := ih _ (by omega) _ hll x (by omega) hL2
      have hAn : (allT (l.take (halfT (m + 1)))).n = halfT (m + 1) := by
        have := (hL1.take (halfT (m + 1))).all_n (by omega) (by omega)
        rw [this, htl]
      have hlen : (l ++ [x]).length = m + 1 := by rw [List.length_append, hl]; rfl
      have htk : (l ++ [x]).take (halfT (m + 1)) = l.take (halfT (m + 1)) := by rw [List.take_append_of_le_length (by omega)]
      have hdk : (l ++ [x]).drop (halfT (m + 1)) = l.drop (halfT (m + 1)) ++ [x] := by rw [List.drop_append_of_le_length (by omega)]
      have hfull : halfT (m + 1) ≠ m - halfT (m + 1) + 1 → blocksT (l ++ [x]) = allT (l.take (halfT (m + 1))) :: blocksT (l.drop (halfT (m + 1)) ++ [x]) := fun hne => by
        have h2 : halfT (m + 1 + 1) = halfT (m + 1) := by rw [he]; exact half_unique (by omega) (by omega)
        rw [blocks_some (by omega), hlen, h2, htk, hdk]
      unfold appT at hih ⊢
      rw [blocks_some (by omega), hl, List.reverse_cons]
      rcases carry_app [allT (l.take (halfT (m + 1)))] (blocksT (l.drop (halfT (m + 1)))).reverse x with ⟨z, h1, h2⟩ | ⟨h1, h2⟩
      · rw [h2]
        rw [h1] at hih
        have hz : blocksT (l.drop (halfT (m + 1)) ++ [x]) = [z] := by rw [← hih]; rfl
        obtain ⟨hz1, hz2⟩ := blocks_one hz
        have hzl : (l.drop (halfT (m + 1)) ++ [x]).length = m - halfT (m + 1) + 1 := by rw [List.length_append, hll]; rfl
        have hzn : z.n = ((m - halfT (m + 1) + 1 : Nat) : Int) := by
          rw [hz1, hL2.all_n (by omega) (by omega), hzl]
        by_cases hk : halfT (m + 1) = m - halfT (m + 1) + 1
        · rw [carryT, if_pos (by rw [hzn, hAn, ← hk]), carryT]
          have h3 : (l ++ [x]).length = 2 ^ (e + 1) := by rw [hlen, Nat.pow_succ, ← he]; omega
          have h4 : halfT (m + 1) = 2 ^ e := he
          rw [blocks_pow h3, all_cut (l := l ++ [x]) (by omega), hlen]
          have h5 : halfT (m + 1) = halfT (m + 1) := rfl
          rw [htk, hdk, ← hz1]
          rfl
        · rw [carryT, if_neg (by rw [hzn, hAn]; omega), hfull hk, hz]
          rfl
      · rw [h2, List.reverse_append, hih, List.reverse_singleton, hfull, List.singleton_append]
        intro hk
        have h3 : (l.drop (halfT (m + 1)) ++ [x]).length = 2 ^ e := by rw [List.length_append, hll, ← he]; simp only [List.length_singleton]; omega
        rw [blocks_pow h3] at hih
        have := congrArg List.length hih
        rw [List.length_reverse] at this
        simp only [List.length_singleton] at this
        omega
theorem peaks_blocks (l : List Tot) (h : l.length ≤ 100000) (hL : Leaves l) : peaksT l = blocksT l := by
  have key : ∀ q r : List Tot, (r ++ q).length ≤ 100000 → Leaves (r ++ q) → q.foldl appT (blocksT r) = blocksT (r ++ q) := by
    intro q
    induction q with
    | nil => intro r _ _; rw [List.append_nil]; rfl
    | cons x q ih =>
      intro r hr hL
      rw [List.foldl_cons, app_blocks r x (by rw [List.length_append] at hr; omega) (fun y hy => hL y (by
        rcases List.mem_append.1 hy with e | e
        · exact List.mem_append_left _ e
        · cases List.mem_singleton.1 e; exact List.mem_append_right _ (List.mem_cons_self ..)))]
      have e : r ++ x :: q = (r ++ [x]) ++ q := by simp
      rw [e] at hr hL ⊢
      exact ih (r ++ [x]) hr hL
  have := key l [] h hL
  rwa [blocks_none, List.nil_append] at this
theorem up_app : ∀ (r : List Tot) (x y : Tot), upT x (r ++ [y]) = joinT y (upT x r)
  | [], _, _ => rfl
  | z :: r, x, y => by
    rw [List.cons_append, upT, upT]
    exact up_app r (joinT z x) y
theorem root_cons {y : Tot} {ps : List Tot} (h : ps ≠ []) : rootP (y :: ps) = joinT y (rootP ps) := by
  unfold rootP
  rw [List.reverse_cons]
  cases hr : ps.reverse with
  | nil => exact absurd (List.reverse_eq_nil_iff.1 hr) h
  | cons x r => exact up_app r x y
/-- the root of peaks is the total of all -/
theorem root_blocks : ∀ (l : List Tot), l.length ≤ 100000 → rootP (blocksT l) = allT l := by
  intro l
  generalize hm : l.length = m
  revert l
  induction m using Nat.strongRecOn with
  | _ m ih =>
    intro l hl hM
    by_cases h0 : m = 0
    · subst h0
      rw [List.eq_nil_of_length_eq_zero hl]
      rfl
    · obtain ⟨a, b, c, e, he⟩ := half_spec (n := m + 1) (by omega)
      by_cases hk : halfT (m + 1) = m
      · rw [blocks_pow (e := e) (by rw [hl, ← he, hk])]
        rfl
      · have hll : (l.drop (halfT (m + 1))).length = m - halfT (m + 1) := by rw [List.length_drop, hl]
        have hh : halfT m = halfT (m + 1) := by rw [he]; exact half_unique (by omega) (by omega)
        rw [blocks_some (by omega), hl, root_cons (fun h => by have := congrArg List.length (blocks_nil h); rw [hll, List.length_nil] at this; omega), ih _ (by omega) _ hll (by omega), all_cut (l := l) (by omega), hl, hh]
theorem mstep_yes {s : Bool} {m : Nat} {p x : Tot} {a : Nat} (h1 : p.n = (m : Int)) (h2 : x.w + p.w < Big) : mstep s m p (x, a) = some (if s then (joinT x p, a) else (joinT p x, (a + p.w) % Big)) := by
  unfold mstep
  exact if_pos ⟨h1, h2⟩
theorem mclimb_ahead {s s' : List Bool} {m m' : List Nat} {p p' : List Tot} {x : Tot} : ∀ (k : Nat), k ≤ s.length → k ≤ m.length → k ≤ p.length → mclimbK (s ++ s') (m ++ m') (p ++ p') x k = mclimbK s m p x k
  | 0, _, _, _ => rfl
  | k + 1, h1, h2, h3 => by
    unfold mclimbK
    rw [mclimb_ahead k (by omega) (by omega) (by omega)]
    simp only [List.getD_eq_getElem?_getD, List.getElem?_append_left (show k < s.length by omega), List.getElem?_append_left (show k < m.length by omega), List.getElem?_append_left (show k < p.length by omega)]
theorem mclimb_snoc {s : List Bool} {m : List Nat} {p : List Tot} {b : Bool} {j : Nat} {y x : Tot} (h1 : m.length = s.length) (h2 : p.length = s.length) :
    mclimbK (s ++ [b]) (m ++ [j]) (p ++ [y]) x (s ++ [b]).length = (mclimbK s m p x s.length).bind (mstep b j y) := by
  rw [List.length_append, List.length_singleton]
  show (mclimbK _ _ _ _ s.length).bind _ = _
  rw [mclimb_ahead s.length (Nat.le_refl _) (by omega) (by omega)]
  congr 1
  simp only [List.getD_eq_getElem?_getD]
  congr 1
  · simp
  · rw [← h1]; simp
  · rw [← h2]; simp
theorem mpath_climb : ∀ (n i : Nat) (l : List Tot), l.length = n → i < n → n ≤ 1000000 → Leaves l →
    mclimbK (sidesT n i) (sizesT n i) (mpathT l i) (l.getD i noTot) (sidesT n i).length = some (allT l, sumW (l.take i)) := by
  refine tree_ind (fun n i h l hl hi hM hL => ?_) (fun n i h hlow ih l hl hi hM hL => ?_) (fun n i h hhigh ih l hl hi hM hL => ?_)
  · obtain rfl : n = 1 := by omega
    obtain rfl : i = 0 := by omega
    match l, hl with
    | [x], _ => rfl
  · obtain ⟨a, b, _, _⟩ := half_spec h
    have hd : (l.drop (halfT n)).length = n - halfT n := by rw [List.length_drop, hl]
    have ht : (l.take (halfT n)).length = halfT n := by rw [List.length_take]; omega
    have hih := ih (l.take (halfT n)) ht hlow (by omega) (hL.take _)
    have e0 := sides_low h hlow
    have e1 := sizes_low h hlow
    have e2 := mpath_low (l := l) (i := i) (by omega) (by rw [hl]; exact hlow)
    rw [hl] at e2
    rw [e0, e1, e2, mclimb_snoc (sizes_len _ _) (mpath_len _ _ _ ht)]
    rw [show (l.take (halfT n)).getD i noTot = l.getD i noTot by simp only [List.getD_eq_getElem?_getD, List.getElem?_take_of_lt hlow]] at hih
    rw [hih, Option.bind_some]
    obtain ⟨dn, dw⟩ := all_nw (l.drop (halfT n)) (by omega) (by omega) (hL.drop _)
    obtain ⟨tn, tw⟩ := all_nw (l.take (halfT n)) (by omega) (by omega) (hL.take _)
    have hs := sumW_cut l (halfT n)
    have hb := sumW_le hL
    rw [mstep_yes (by rw [dn, hd]) (by rw [dw, tw, hs]; unfold Big; omega), if_pos rfl, all_cut (l := l) (by omega), hl, List.take_take, Nat.min_eq_left (by omega)]
  · obtain ⟨a, b, _, _⟩ := half_spec h
    have hd : (l.drop (halfT n)).length = n - halfT n := by rw [List.length_drop, hl]
    have ht : (l.take (halfT n)).length = halfT n := by rw [List.length_take]; omega
    have hih := ih (l.drop (halfT n)) hd (by omega) (by omega) (hL.drop _)
    have e0 := sides_high h hhigh
    have e1 := sizes_high h hhigh
    have e2 := mpath_high (l := l) (i := i) (by omega) (by rw [hl]; exact hhigh)
    rw [hl] at e2
    rw [e0, e1, e2, mclimb_snoc (sizes_len _ _) (mpath_len _ _ _ hd)]
    rw [show (l.drop (halfT n)).getD (i - halfT n) noTot = l.getD i noTot by simp only [List.getD_eq_getElem?_getD, List.getElem?_drop]; rw [show halfT n + (i - halfT n) = i by omega]] at hih
    rw [hih, Option.bind_some]
    obtain ⟨dn, dw⟩ := all_nw (l.drop (halfT n)) (by omega) (by omega) (hL.drop _)
    obtain ⟨tn, tw⟩ := all_nw (l.take (halfT n)) (by omega) (by omega) (hL.take _)
    have hs := sumW_cut l (halfT n)
    have hb := sumW_le hL
    have hti : l.take i = l.take (halfT n) ++ (l.drop (halfT n)).take (i - halfT n) := by
      rw [← List.take_append_drop (halfT n) (l.take i), List.take_take, Nat.min_eq_left (by omega), List.drop_take]
    have hsi := sumW_cut l i
    rw [mstep_yes (by rw [tn, ht]) (by rw [dw, tw]; unfold Big; omega)]
    simp only [Bool.false_eq_true, if_false]
    congr 2
    · rw [all_cut (l := l) (by omega), hl]
    · rw [tw, hti, sumW_append, Nat.mod_eq_of_lt]
      · omega
      · rw [hti, sumW_append] at hsi
        unfold Big
        omega
theorem mcheck_path {l : List Tot} {i : Nat} (h64 : l.length ≤ 64) (hi : i < l.length) (hL : Leaves l) : mcheckT (allT l) i (l.getD i noTot) (mpathT l i) = (sumW (l.take i), true) := by
  have hn := hL.all_n (by omega) (by omega)
  have hx : (l.getD i noTot).n = 1 := by
    rw [List.getD_eq_getElem?_getD, List.getElem?_eq_getElem hi]
    exact (hL _ (List.getElem_mem hi)).1
  unfold mcheckT
  rw [hn, Int.toNat_natCast, Int.toNat_natCast, if_pos ⟨by omega, by omega, by omega, by omega, hx, mpath_len _ _ _ rfl⟩, mpath_climb l.length i l rfl hi (by omega) hL]
  simp
theorem mcheck_len {root leaf : Tot} {i : Int} {path : List Tot} (h : path.length ≠ (sidesT root.n.toNat i.toNat).length) : mcheckT root i leaf path = (0, false) := by
  unfold mcheckT
  rw [if_neg (fun hh => h hh.2.2.2.2.2)]
end Go.Proofs.YtbmiecogjmbciaaDoor

namespace Go.Proofs.YtbmiecogjmbciaaDoor
set_option maxRecDepth 8000
open Go.RowKit

/-- totals of one's own -/
def OwnT (w : World) (B : Nat) (v : Value) (l : List Tot) : Prop := w.ownsRow B 29 37 v l.length (l.map totC).flatten
theorem OwnT.nil (w : World) (B : Nat) : OwnT w B (.slice none 0 0) [] := World.ownsRow_nil _ _ _ _
theorem OwnT.form {w : World} {B : Nat} {v : Value} {l : List Tot} (h : OwnT w B v l) : ∃ A c, v = .slice A l.length c ∧ l.length ≤ c ∧ c ≤ maxLen := ownR_form h
theorem OwnT.tots {w : World} {B n c : Nat} {A : Option Addr} {l : List Tot} (h : OwnT w B (.slice A n c) l) (hn : l.length = n) : TotsIn w w.heap.size A l := by
  subst hn
  exact own_cells h
theorem OwnT.below {w w' : World} {B : Nat} {v : Value} {l : List Tot} (h : OwnT w B v l) (hb : Below w.heap.size w w') : OwnT w' B v l := ownR_below h hb
theorem mpath_ok : ∀ (n i : Nat) (l : List Tot), l.length = n → okTs l → okTs (mpathT l i) := by
  refine tree_ind (fun n i h l hl hI => ?_) (fun n i h hlow ih l hl hI => ?_) (fun n i h hhigh ih l hl hI => ?_)
  · have e : mpathT l i = [] := by
      have h1 := mpath_len n l i hl
      rw [(few_nil h).1] at h1
      exact List.eq_nil_of_length_eq_zero h1
    rw [e]
    intro x hx
    cases hx
  · obtain ⟨a, b, _, _⟩ := half_spec h
    rw [mpath_low (by omega) (by rw [hl]; exact hlow), hl]
    intro x hx
    rcases List.mem_append.1 hx with e | e
    · exact ih _ (by rw [List.length_take]; omega) (hI.take _) x e
    · cases List.mem_singleton.1 e
      exact all_ok (hI.drop _)
  · obtain ⟨a, b, _, _⟩ := half_spec h
    rw [mpath_high (by omega) (by rw [hl]; exact hhigh), hl]
    intro x hx
    rcases List.mem_append.1 hx with e | e
    · exact ih _ (by rw [List.length_drop]; omega) (hI.drop _) x e
    · cases List.mem_singleton.1 e
      exact all_ok (hI.take _)
theorem flatT_len {l : List Tot} (h : okTs l) : (l.map totC).flatten.length = l.length * 37 := by rw [(rowsT h).flat_len, List.length_map]
end Go.Proofs.YtbmiecogjmbciaaDoor

namespace Go.Proofs.YtbmiecogjmbciaaDoor
set_option maxRecDepth 8000
open Go.RowKit

def intN (m : Nat) : Value := .int .i64 (m : Int)
def OwnZ (w : World) (B : Nat) (v : Value) (l : List Nat) : Prop := w.ownsRow B 3 1 v l.length (l.map intN)
theorem OwnZ.nil (w : World) (B : Nat) : OwnZ w B (.slice none 0 0) [] := World.ownsRow_nil _ _ _ _
theorem infoZ : (Tryd.prog.info? 3).map (fun i => (i.zero, i.size, i.bytes)) = some (some (.int .i64 0), 1, 8) := by kernel_rfl
theorem OwnZ.append {w : World} {B : Nat} {v : Value} {l : List Nat} (h : OwnZ w B v l) {z : Int} {m : Nat} (hz : z = (m : Int)) (hs : l.length ≤ 1000000) (hB : B ≤ w.heap.size) :
    ∃ v' w', (Builtin.append_ #[69, 69] 69 #[v, .slice (some ⟨w.heap.size, 0, none⟩) 1 1]).run Tryd.prog (w.alloc (.cells #[.int .i64 z] 3)) = .ok v' w' ∧ OwnZ w' B v' (l ++ [m]) ∧ Below B w w' := by
  subst hz
  cases hq : Tryd.prog.info? 3 with
  | none => have := infoZ; rw [hq] at this; cases this
  | some i =>
    have hi := infoZ
    rw [hq] at hi
    simp only [Option.map_some, Option.some.injEq, Prod.mk.injEq] at hi
    obtain ⟨h1, h2, h3⟩ := hi
    have hown := World.ownsRow.alloc (o := .cells #[intN m] 3) h
    obtain ⟨v', w', hrun, hown', hg, _⟩ := run_append_own_at (P := Tryd.prog) (w.alloc (.cells #[intN m] 3)) B 69 69 3 i (.int .i64 0) 1 8 Tryd.underlying69 hq h1 h2 h3 rfl (by decide) v l.length (l.map intN) hown
      ⟨w.heap.size, 0, none⟩ 1 1 [intN m] rfl (cell_one_new _ _ _) (by intro u hu; cases List.mem_singleton.1 hu; rfl) (by unfold maxLen; omega) (by omega) (by simp; omega)
    refine ⟨v', w', hrun, ?_, ?_⟩
    · unfold OwnZ
      rw [List.length_append, List.map_append]
      exact hown'
    · exact ((Below.refl B w).alloc hB _).trans (below_of_grown hg (fun r hr => (hown.lt r hr).1) (by simp; omega))
end Go.Proofs.YtbmiecogjmbciaaDoor

namespace Go.Proofs.YtbmiecogjmbciaaDoor
set_option maxRecDepth 8000
open Go.RowKit

theorem run_neq_tot (s t : Tot) (hs : okT s) (ht : okT t) (w : World) : (binOp .neq 29 (totV s) (totV t)).run Tryd.prog w = .ok (.bool (!eqT s t)) w := by
  have h := run_equal_tot s t hs ht w
  unfold totV at *
  simp only [binOp]
  simp [h]
theorem run_eql_tot (s t : Tot) (hs : okT s) (ht : okT t) (w : World) : (binOp .eql 29 (totV s) (totV t)).run Tryd.prog w = .ok (.bool (eqT s t)) w := by
  have h := run_equal_tot s t hs ht w
  unfold totV at *
  simp only [binOp]
  simp [h]
theorem guardTot : Tryd.prog.eqGuardType Tryd.prog.depth 29 = false := by kernel_rfl
section
variable {a : Act} {dst : Option Tmp} {x y : Operand} {ty : TypeId} {pos : String} {after : Array Edge} {gd : Option (Nat × Bool)}
theorem neqT_op {s t : Tot} (hs : okT s) (ht : okT t) (u : World) (hx : a.eval x = totV s) (hy : a.eval y = totV t) :
    (execOp a.eval ⟨dst, .binOp .neq 29 x y 29, ty, pos, after, gd⟩).run Tryd.prog u = .ok (.value (.bool (!eqT s t))) u := by
  have h := run_neq_tot s t hs ht u
  have hg := run_eqGuard_agg (P := Tryd.prog) u .neq 29 x y (totA s) (totA t) guardTot
  unfold totV at *
  unfold execOp
  simp only [hx, hy, Sem.run_bind, hg, Result.andThen_ok, h, Sem.run_pure]
theorem eqlT_op {s t : Tot} (hs : okT s) (ht : okT t) (u : World) (hx : a.eval x = totV s) (hy : a.eval y = totV t) :
    (execOp a.eval ⟨dst, .binOp .eql 29 x y 29, ty, pos, after, gd⟩).run Tryd.prog u = .ok (.value (.bool (eqT s t))) u := by
  have h := run_eql_tot s t hs ht u
  have hg := run_eqGuard_agg (P := Tryd.prog) u .eql 29 x y (totA s) (totA t) guardTot
  unfold totV at *
  unfold execOp
  simp only [hx, hy, Sem.run_bind, hg, Result.andThen_ok, h, Sem.run_pure]
end
theorem tots_step {l q : List Tot} {k : Nat} (h : l.take k = q.take k) (h1 : k < l.length) (h2 : k < q.length) (e : l.getD k noTot = q.getD k noTot) : l.take (k + 1) = q.take (k + 1) := by
  rw [List.take_add_one, List.take_add_one, h, List.getElem?_eq_getElem h1, List.getElem?_eq_getElem h2]
  rw [List.getD_eq_getElem?_getD, List.getD_eq_getElem?_getD, List.getElem?_eq_getElem h1, List.getElem?_eq_getElem h2] at e
  simp only [Option.getD_some] at e
  rw [e]
end Go.Proofs.YtbmiecogjmbciaaDoor

namespace Go.Proofs.YtbmiecogjmbciaaDoor
set_option maxRecDepth 8000
open Go.RowKit

theorem built_w0 : Tryd.prog.built 27 [] = some (wcs 0) := by kernel_rfl
theorem FreshR.form {e : TypeId} {z n : Nat} {xs : List Value} {v : Value} {N : Boxes} (h : FreshR e z n xs v N) : ∃ A c, v = .slice A n c := by
  rcases h with ⟨g, cap, cur, rfl, _⟩ | ⟨rfl, _, rfl, _⟩ <;> exact ⟨_, _, rfl⟩
section
variable {a : Act} {dst : Option Tmp} {x y : Operand} {ty : TypeId} {pos : String} {after : Array Edge} {gd : Option (Nat × Bool)}
theorem lssI_op {m k : Int} {b : Bool} (u : World) (hb : decide (m < k) = b) (hx : a.eval x = .int .i64 m) (hy : a.eval y = .int .i64 k) :
    (execOp a.eval ⟨dst, .binOp .lss 3 x y 3, ty, pos, after, gd⟩).run Tryd.prog u = .ok (.value (.bool b)) u := by
  subst hb
  unfold execOp
  simp only [hx, hy]
  go_simp
theorem gtrI_op {m k : Int} {b : Bool} (u : World) (hb : decide (k < m) = b) (hx : a.eval x = .int .i64 m) (hy : a.eval y = .int .i64 k) :
    (execOp a.eval ⟨dst, .binOp .gtr 3 x y 3, ty, pos, after, gd⟩).run Tryd.prog u = .ok (.value (.bool b)) u := by
  subst hb
  unfold execOp
  simp only [hx, hy]
  go_simp
theorem neqI_op {m k : Int} {b : Bool} (u : World) (hb : decide (m ≠ k) = b) (hx : a.eval x = .int .i64 m) (hy : a.eval y = .int .i64 k) :
    (execOp a.eval ⟨dst, .binOp .neq 3 x y 3, ty, pos, after, gd⟩).run Tryd.prog u = .ok (.value (.bool b)) u := by
  have e : (m != k) = b := by rw [← hb]; by_cases h : m = k <;> simp [h]
  subst e
  unfold execOp
  simp only [hx, hy]
  go_simp
theorem neqTb_op {s t : Tot} {b : Bool} (hs : okT s) (ht : okT t) (hb : (!eqT s t) = b) (u : World) (hx : a.eval x = totV s) (hy : a.eval y = totV t) :
    (execOp a.eval ⟨dst, .binOp .neq 29 x y 29, ty, pos, after, gd⟩).run Tryd.prog u = .ok (.value (.bool b)) u := by
  rw [← hb]
  exact neqT_op hs ht u hx hy
theorem fieldT_op {k off : Nat} (hk : ([(0, 0), (1, 32), (2, 36)] : List (Nat × Nat)).lookup k = some off) {ad : Addr} (u : World) (hx : a.eval x = .pointer (some ad)) :
    (execOp a.eval ⟨dst, .fieldAddr 29 x k, ty, pos, after, gd⟩).run Tryd.prog u = .ok (.value (.pointer (some (ad.add off)))) u := by
  unfold execOp
  simp only [hx]
  rcases k with _ | _ | _ | k
  · cases hk; go_simp
  · cases hk; go_simp
  · cases hk; go_simp
  · cases hk
end
theorem mstep_no {s : Bool} {m : Nat} {p x : Tot} {a : Nat} (h : ¬ (p.n = (m : Int) ∧ x.w + p.w < Big)) : mstep s m p (x, a) = none := by
  unfold mstep
  exact if_neg h
theorem mclimb_none {s : List Bool} {m : List Nat} {p : List Tot} {x : Tot} {k : Nat} (h : mclimbK s m p x k = none) : ∀ j, k ≤ j → mclimbK s m p x j = none := by
  intro j hj
  induction j with
  | zero => rwa [show k = 0 by omega] at h
  | succ j ih =>
    by_cases e : k = j + 1
    · rwa [e] at h
    · show (mclimbK s m p x j).bind _ = none
      rw [ih (by omega)]
      rfl
theorem mcheck_val {root leaf : Tot} {i N : Nat} {p : List Tot} (hn : root.n = (N : Int)) (h1 : 1 ≤ N) (h64 : N ≤ 64) (hi : i < N) (hl : leaf.n = 1) (hp : p.length = (sidesT N i).length) :
    (∀ x a, mclimbK (sidesT N i) (sizesT N i) p leaf (sidesT N i).length = some (x, a) → mcheckT root i leaf p = if x = root then (a, true) else (0, false)) ∧
    (mclimbK (sidesT N i) (sizesT N i) p leaf (sidesT N i).length = none → mcheckT root i leaf p = (0, false)) := by
  unfold mcheckT
  rw [hn, Int.toNat_natCast, Int.toNat_natCast, if_pos ⟨by omega, by omega, by omega, by omega, hl, hp⟩]
  exact ⟨fun x a h => by rw [h], fun h => by rw [h]⟩
end Go.Proofs.YtbmiecogjmbciaaDoor

namespace Go.Proofs.YtbmiecogjmbciaaDoor
set_option maxRecDepth 8000
open Go.RowKit

section
variable {P : Program} {ops : Array Oper} {md : Region.Mode} {w0 : World} {Q : Act → Boxes → Prop} {f i : Nat} {listed : Array Bool} {a : Act} {M : Boxes}
theorem anyH_twoFreshG {j : Nat} {di dj : Option Tmp} {opi opj : Op} {ti tj : TypeId} {pi pj : String} {afi afj : Array Edge} {gi gj : Option (Nat × Bool)} (hQ : ∀ a (M M' : Boxes), (∀ x, x ∈ M ↔ x ∈ M') → Q a M → Q a M')
    (hr : Region.ready md ops listed = [i, j]) (hri : Region.ready md ops (listed.setIfInBounds i true) = [j]) (hrj : Region.ready md ops (listed.setIfInBounds j true) = [i])
    (hi : ops[i]? = some ⟨di, opi, ti, pi, afi, gi⟩) (hj : ops[j]? = some ⟨dj, opj, tj, pj, afj, gj⟩) (hij : i ≠ j)
    (hap : (Oper.apart ops ⟨di, opi, ti, pi, afi, gi⟩ ⟨dj, opj, tj, pj, afj, gj⟩ && Region.noSelect ops) = true)
    (hwi : Region.wanted ⟨di, opi, ti, pi, afi, gi⟩ (yielded ops a.tmps) = true) (hwj : Region.wanted ⟨dj, opj, tj, pj, afj, gj⟩ (yielded ops a.tmps) = true)
    (Ri Rj : Value → Boxes → Prop) (Mi Mj : Boxes) (hMi : ∀ x ∈ Mi, x ∈ M) (hMj : ∀ x ∈ Mj, x ∈ M) (hvi : ∀ u, EnvX w0 u Mi → FAt P ⟨di, opi, ti, pi, afi, gi⟩ a Ri u) (hvj : ∀ u, EnvX w0 u Mj → FAt P ⟨dj, opj, tj, pj, afj, gj⟩ a Rj u)
    (h : ∀ x Nx y Ny, Ri x Nx → Rj y Ny → freshN w0 Nx M → freshN w0 Ny (Nx ++ M) → (∃ u, EnvX w0 u (Ny ++ (Nx ++ M))) →
      ∀ K1 : Act → Prop, (∀ a1, (∀ K2 : Act → Prop, (∀ a2, anyH P md ops w0 Q f ((listed.setIfInBounds i true).setIfInBounds j true) a2 (Ny ++ (Nx ++ M)) → K2 a2) → Oper.quiet P ⟨dj, .move (.const y), tj, pj, afj, none⟩ a1 (fun _ => True) K2) → K1 a1) →
        Oper.quiet P ⟨di, .move (.const x), ti, pi, afi, none⟩ a (fun _ => True) K1) :
    anyH P md ops w0 Q (f + 2) listed a M := by
  simp only [Bool.and_eq_true] at hap
  obtain ⟨q1, q2, q3⟩ := Oper.apart_spec hap.1
  have hsel := Region.noSelect_spec hap.2
  have H : ∀ x Nx y Ny, Ri x Nx → Rj y Ny → freshN w0 Nx M → freshN w0 Ny (Nx ++ M) → (∃ u, EnvX w0 u (Ny ++ (Nx ++ M))) →
      anyH P md ops w0 Q f ((listed.setIfInBounds i true).setIfInBounds j true) ((a.put di x).put dj y) (Ny ++ (Nx ++ M)) := fun x Nx y Ny a1 a2 a3 a4 a5 =>
    put_told w0 (put_told (K := fun a1 => ∀ K2 : Act → Prop, (∀ a2, anyH P md ops w0 Q f ((listed.setIfInBounds i true).setIfInBounds j true) a2 (Ny ++ (Nx ++ M)) → K2 a2) → Oper.quiet P ⟨dj, .move (.const y), tj, pj, afj, none⟩ a1 (fun _ => True) K2) w0 (h x Nx y Ny a1 a2 a3 a4 a5))
  refine anyH_two hr ?_ ?_
  · unfold hOp
    simp only [hi, hwi, if_true]
    refine .inr (.inl ⟨Ri, Mi, hMi, hvi, fun x Nx hx hfx _ => ?_⟩)
    refine anyH_one hri ?_
    unfold hOp
    simp only [hj]
    rw [wanted_put _ a di x q1]
    simp only [hwj, if_true]
    refine .inr (.inl ⟨Rj, Mj, fun z hz => List.mem_append_right _ (hMj z hz), fun u hu => ?_, fun y Ny hy hfy hE => H x Nx y Ny hx hy hfx hfy hE⟩)
    have h1 := hvj u hu
    unfold FAt at *
    rw [execOp_put (ops := ops) _ (fun cs b => hsel j _ cs b hj) a di x q1]
    exact h1
  · unfold hOp
    simp only [hj, hwj, if_true]
    refine .inr (.inl ⟨Rj, Mj, hMj, hvj, fun y Ny hy hfy _ => ?_⟩)
    refine anyH_one hrj ?_
    unfold hOp
    simp only [hi]
    rw [wanted_put _ a dj y q3]
    simp only [hwi, if_true]
    refine .inr (.inl ⟨Ri, Mi, fun z hz => List.mem_append_right _ (hMi z hz), fun u hu => ?_, fun x Nx hx hfx hE => ?_⟩)
    · have h1 := hvi u hu
      unfold FAt at *
      rw [execOp_put (ops := ops) _ (fun cs b => hsel i _ cs b hi) a dj y q3]
      exact h1
    · have hp : ∀ z, z ∈ Ny ++ (Nx ++ M) ↔ z ∈ Nx ++ (Ny ++ M) := fun z => by
        simp only [List.mem_append]
        exact or_left_comm
      have h1 := H x Nx y Ny hx hy (fun z hz => ⟨(hfx z hz).1, fun t ht => (hfx z hz).2 t (List.mem_append_right _ ht)⟩)
        (fun z hz => ⟨(hfy z hz).1, fun t ht => by
          rcases List.mem_append.1 ht with e | e
          · exact Ne.symm ((hfx t e).2 z (List.mem_append_left _ hz))
          · exact (hfy z hz).2 t e⟩) (hE.imp fun u hu => hu.sub (fun z hz => (hp z).1 hz))
      rw [Act.put_comm a _ _ q2, Array.setIfInBounds_comm _ _ hij] at h1
      exact anyH_perm hQ _ _ _ _ _ hp h1
end
end Go.Proofs.YtbmiecogjmbciaaDoor

namespace Go.Proofs.YtbmiecogjmbciaaDoor
set_option maxRecDepth 8000
open Go.RowKit

section
variable {P : Program} {md : Region.Mode} {w0 : World}
def lexN (md : Region.Mode) (ops : Array Oper) : List Nat → Array Bool → Bool
  | [], _ => true
  | i :: rest, listed => (Region.ready md ops listed).contains i && gfree md ops listed i true && lexN md ops rest (listed.setIfInBounds i true)
theorem anyH_phaseN0 {Q : Act → Boxes → Prop} {l : List Oper} (hs : Region.noSelect l.toArray = true) {L : Boxes} : ∀ (ord : List Nat) (f : Nat) (listed : Array Bool) (a : Act), closedL md l.toArray listed →
    lexN md l.toArray ord listed = true → wpG0 P l (EnvC w0 []) (fun a' => anyH P md l.toArray w0 Q f (listedBy ord listed) a' L) ord a → anyH P md l.toArray w0 Q (ord.length + f) listed a L
  | [], f, listed, a, _, _, h => by simpa [wpG0, listedBy] using h
  | i :: ord, f, listed, a, hcl, hB, h => by
    simp only [lexN, Bool.and_eq_true] at hB
    obtain ⟨⟨hr, hf⟩, hB'⟩ := hB
    have hr' : i ∈ Region.ready md l.toArray listed := by simpa using hr
    unfold wpG0 at h
    cases hl : l[i]? with
    | none => simp only [hl] at h
    | some o =>
      simp only [hl] at h
      have ho : l.toArray[i]? = some o := by simpa using hl
      have hlen : (i :: ord).length + f = (ord.length + f) + 1 := by simp only [List.length_cons]; omega
      rw [hlen]
      have hfr := gfree_spec ho hf
      by_cases hw : Region.wanted o (yielded l.toArray a.tmps) = true
      · simp only [hw, if_true] at h
        obtain ⟨v, hv, hK⟩ := h
        exact anyH_first (M0 := []) ho (Region.noSelect_spec hs) _ listed a L hcl (fun _ h => by cases h) (fun j oj h1 h2 h3 => (hfr j oj h1 h2 h3).imp id (fun k => ⟨k.1, .inl rfl⟩)) hr' (.inl ⟨hw, hv⟩)
          (anyH_phaseN0 hs ord f _ _ (closedL_set hcl hr') hB' hK)
      · simp only [hw, Bool.false_eq_true, if_false] at h
        have hw' : Region.wanted o (yielded l.toArray a.tmps) = false := by simpa using hw
        exact anyH_first (M0 := []) ho (Region.noSelect_spec hs) _ listed a L hcl (fun _ h => by cases h) (fun j oj h1 h2 h3 => (hfr j oj h1 h2 h3).imp id (fun k => ⟨k.1, .inl rfl⟩)) hr' (.inr ⟨hw', rfl⟩)
          (anyH_phaseN0 hs ord f _ _ (closedL_set hcl hr') hB' h)
theorem anyH_phaseN {Q : Act → Boxes → Prop} {l : List Oper} {F : Nat} (ord : List Nat) (f : Nat) {L : Boxes} {listed : Array Bool} {a : Act} (hF : F = ord.length + f)
    (hB : (Region.noSelect l.toArray && closedB md l.toArray listed && lexN md l.toArray ord listed) = true)
    (h : wpG P l (EnvC w0 []) (fun a' => anyH P md l.toArray w0 Q f (listedBy ord listed) a' L) ord a) : anyH P md l.toArray w0 Q F listed a L := by
  subst hF
  simp only [Bool.and_eq_true] at hB
  exact anyH_phaseN0 hB.1.1 ord f listed a (closedL_of hB.1.2) hB.2 h.out
end
/-- two stretches of a way -/
theorem EnvX.comb {w w5 u : World} {M N : Boxes} (h : EnvX w w5 M) (k : EnvX w5 u N) : EnvX w u (N ++ M) := by
  have h1 := h.below k.bel
  refine ⟨h1.bel, fun g o hm => ?_⟩
  rcases List.mem_append.1 hm with e | e
  · exact k.box g o e
  · exact h1.box g o e
end Go.Proofs.YtbmiecogjmbciaaDoor

namespace Go.Proofs.YtbmiecogjmbciaaDoor
set_option maxRecDepth 8000
open Go.RowKit

section
variable {st e : TypeId} {z bytes : Nat} {zero : Value}
end
theorem flatT_one {l : List Tot} : ∀ u ∈ (l.map totC).flatten, u.oneCell' = true := fun u hu => by
  obtain ⟨x, hx, hux⟩ := List.mem_flatten.1 hu
  obtain ⟨t, _, rfl⟩ := List.mem_map.1 hx
  exact totC_one t u hux
def lenV : Value → Nat
  | .slice _ n _ => n
  | _ => 0
/-- totals in a box -/
theorem row_tots {u : World} {g n cap : Nat} {cur : Array Value} {l : List Tot} (h : u.heap[g]? = some (.cells cur 29 (0, 0))) (hl : okTs l) (hn : l.length = n) (hc : cur.toList.take (n * 37) = (l.map totC).flatten) : TotsIn u u.heap.size (some ⟨g, 0, none⟩) l := by
  intro hp
  refine ⟨_, rfl, Row.lt (t := 29) h, fun j v hv => ?_⟩
  rw [Addr.add_mid, Nat.zero_add, cell_of_row u g j cur 29 (0, 0) h]
  rw [← hc] at hv
  have hj : j < n * 37 := by
    rcases Nat.lt_or_ge j (n * 37) with h' | h'
    · exact h'
    · rw [List.getElem?_eq_none (by rw [List.length_take]; omega)] at hv
      cases hv
  rwa [List.getElem?_take_of_lt hj, Array.getElem?_toList] at hv
end Go.Proofs.YtbmiecogjmbciaaDoor

namespace Go.Proofs.YtbmiecogjmbciaaDoor
set_option maxRecDepth 8000
open Go.RowKit

/-- the contracts of package mmr -/
structure MmrC : Prop where
  leaf : ∀ (h : List Int) (n : Nat) (w : World), (h.length = 32 ∧ ∀ b ∈ h, 0 ≤ b ∧ b ≤ 255) → n < Big → Tables w → Calls Tryd.prog 22 #[idv h, .agg (wcs n)] w fun e w' => e = .returned (totV ⟨h, n, 1⟩) ∧ Below w.heap.size w w'
  join : ∀ (a b : Tot) (w : World), okT a → okT b → Tables w → Calls Tryd.prog 20 #[totV a, totV b] w fun e w' => e = .returned (totV (joinT a b)) ∧ Below w.heap.size w w'
  app : ∀ (p : List Tot) (leaf : Tot) (A : Option Addr) (n c : Nat) (w : World), p.length = n → n ≤ 1000000 → n ≤ c → c ≤ maxLen → okTs p → okT leaf → TotsIn w w.heap.size A p → Tables w →
    Calls Tryd.prog 11 #[.slice A n c, totV leaf] w fun e w' => (∃ v, e = .returned v ∧ OwnT w' w.heap.size v (appT p leaf)) ∧ Below w.heap.size w w'
  root : ∀ (p : List Tot) (A : Option Addr) (n c : Nat) (w : World), p.length = n → n ≤ 1000000 → n ≤ c → c ≤ maxLen → okTs p → TotsIn w w.heap.size A p → Tables w →
    Calls Tryd.prog 18 #[.slice A n c] w fun e w' => e = .returned (totV (rootP p)) ∧ Below w.heap.size w w'
  path : ∀ (l : List Tot) (i : Int) (A : Option Addr) (n c : Nat) (w : World), l.length = n → n ≤ 1000000 → n ≤ c → c ≤ maxLen → (-9223372036854775808 ≤ i ∧ i ≤ 9223372036854775807) → okTs l → TotsIn w w.heap.size A l → Tables w →
    Calls Tryd.prog 13 #[.slice A n c, .int .i64 i] w fun e w' => (∃ v, e = .returned (.tuple #[v, .bool (mpathR l i).2]) ∧ OwnT w' w.heap.size v (mpathR l i).1) ∧ Below w.heap.size w w'
  check : ∀ (root leaf : Tot) (i : Int) (p : List Tot) (A : Option Addr) (m c : Nat) (w : World), okT root → okT leaf → (-9223372036854775808 ≤ i ∧ i ≤ 9223372036854775807) → p.length = m → m ≤ 1000000 → m ≤ c → c ≤ maxLen → okTs p → TotsIn w w.heap.size A p → Tables w →
    Calls Tryd.prog 15 #[totV root, .int .i64 i, totV leaf, .slice A m c] w fun e w' => e = .returned (.tuple #[.agg (wcs (mcheckT root i leaf p).1), .bool (mcheckT root i leaf p).2]) ∧ Below w.heap.size w w'
  same : ∀ (l q : List Tot) (A A' : Option Addr) (n c m c' : Nat) (w : World), l.length = n → q.length = m → n ≤ 1000000 → m ≤ 1000000 → n ≤ c → c ≤ maxLen → m ≤ c' → c' ≤ maxLen → okTs l → okTs q → TotsIn w w.heap.size A l → TotsIn w w.heap.size A' q →
    Calls Tryd.prog 17 #[.slice A n c, .slice A' m c'] w fun e w' => e = .returned (.bool (decide (l = q))) ∧ Below w.heap.size w w'
theorem carry_len : ∀ (r : List Tot) (x : Tot), (carryT x r).length ≤ r.length + 1
  | [], x => Nat.le_refl _
  | y :: r, x => by
    unfold carryT
    split
    · have := carry_len r (joinT y x)
      rw [List.length_cons]
      omega
    · simp
theorem carry_ok : ∀ (r : List Tot) (x : Tot), okT x → okTs r → okTs (carryT x r)
  | [], x, hx, _ => fun t ht => by cases List.mem_singleton.1 ht; exact hx
  | y :: r, x, hx, hr => by
    unfold carryT
    split
    · exact carry_ok r _ join_ok (fun t ht => hr t (List.mem_cons_of_mem _ ht))
    · intro t ht
      rcases List.mem_cons.1 ht with rfl | h
      · exact hx
      · exact hr t h
theorem app_len (p : List Tot) (x : Tot) : (appT p x).length ≤ p.length + 1 := by
  unfold appT
  rw [List.length_reverse]
  have := carry_len p.reverse x
  rwa [List.length_reverse] at this
theorem app_ok {p : List Tot} {x : Tot} (hp : okTs p) (hx : okT x) : okTs (appT p x) := fun t ht => by
  unfold appT at ht
  exact carry_ok p.reverse x hx (fun s hs => hp s (List.mem_reverse.1 hs)) t (List.mem_reverse.1 ht)
theorem peaks_snoc (l : List Tot) (x : Tot) : peaksT (l ++ [x]) = appT (peaksT l) x := by
  unfold peaksT
  rw [List.foldl_append]
  rfl
theorem peaks_ok : ∀ (k : Nat) (l : List Tot), okTs l → k ≤ l.length → okTs (peaksT (l.take k)) ∧ (peaksT (l.take k)).length ≤ k := by
  intro k l hl
  induction k with
  | zero => intro _; rw [List.take_zero]; exact ⟨fun t ht => (by cases ht), Nat.le_refl _⟩
  | succ k ih =>
    intro hk
    obtain ⟨h1, h2⟩ := ih (by omega)
    rw [List.take_succ_eq_append_getElem (by omega), peaks_snoc]
    refine ⟨app_ok h1 (hl _ (List.getElem_mem _)), ?_⟩
    have := app_len (peaksT (l.take k)) l[k]
    omega
theorem peaks_step {l : List Tot} {k : Nat} (hk : k < l.length) : peaksT (l.take (k + 1)) = appT (peaksT (l.take k)) (l.getD k noTot) := by
  rw [List.take_succ_eq_append_getElem hk, peaks_snoc, List.getD_eq_getElem?_getD, List.getElem?_eq_getElem hk]
  rfl
theorem OwnT.less {w : World} {B B' : Nat} {v : Value} {l : List Tot} (h : OwnT w B v l) (hB : B' ≤ B) : OwnT w B' v l := by
  refine ⟨h.1, ?_⟩
  rcases h.2 with h0 | ⟨g, cap, cur, e, hg, hh, h1⟩
  · exact .inl h0
  · exact .inr ⟨g, cap, cur, e, by omega, hh, h1⟩
set_option maxRecDepth 20000 in
set_option maxHeartbeats 4000000 in
theorem lpeaks_any (T : MmrC) (l : List Tot) (A : Option Addr) (n c : Nat) (w : World) (hl : l.length = n) (hn : n ≤ 100000) (hnc : n ≤ c) (hcm : c ≤ maxLen) (hI : okTs l) (hA : TotsIn w w.heap.size A l) (ht : Tables w) :
    Calls Tryd.prog 25 #[.slice A n c] w fun e w' => (∃ v, e = .returned v ∧ OwnT w' w.heap.size v (peaksT l)) ∧ Below w.heap.size w w' := by
  have HI := Lib.hid (And.intro hI hA)
  have HL := Lib.hid hl
  have HT := Lib.hid ht
  have HM := Lib.hid T
  unfold maxLen at hcm
  clear hI hA hl ht T
  go_enter Tryd.func25, Tryd.ntmps25
  go_upto_region 3 with (fail)
  go_loopw [3, 4] (fun v i u => ∃ k : Nat, k ≤ n ∧ i = .int .i64 (k : Int) ∧ Hid (OwnT u w.heap.size v (peaksT (l.take k)) ∧ Below w.heap.size w u)) (fun _ i _ => n - (intOf i).toNat)
  case atStart => exact ⟨0, by omega, rfl, OwnT.nil _ _, Below.refl _ _⟩
  case round =>
    obtain ⟨k, hk, rfl, hinv⟩ := hrel
    obtain ⟨hO, hB⟩ := hinv.out
    clear hinv
    obtain ⟨A', c', rfl, h1, h2⟩ := hO.form
    by_cases hlt : k < n
    · have hlt2 : (k : Int) < (n : Int) := by omega
      obtain ⟨pk1, pk2⟩ := peaks_ok k l HI.out.1 (by rw [HL.out]; omega)
      obtain ⟨ad, rfl, hld⟩ := (HI.out.2.up hB).loads HI.out.1 (k := k) (by rw [HL.out]; exact hlt)
      have HLD := Lib.hid (hld wr (EnvX.start wr)).1
      have HAP := Lib.hid (HM.out.app (peaksT (l.take k)) (l.getD k noTot) A' _ c' wr rfl (by omega) h1 h2 pk1 (HI.out.1.get (by rw [HL.out]; exact hlt)) (hO.tots rfl) (HT.out.below hB))
      have HST := Lib.hid (peaks_step (l := l) (k := k) (by rw [HL.out]; exact hlt))
      have HB := Lib.hid hB
      clear hO hB h1 h2 pk1 pk2 hld
      generalize (peaksT (l.take k)).length = pl at *
      go_upto_region 5 with (fail)
      go_wp2_with ((with_reducible refine wpList_load_run (o := ⟨some 15, _, _, _, _, _⟩) ?_ 29 (.tmp 14) ?_ (ad.add (k * 37)) ?_ HLD.out ?_); (rfl); (rfl); (rfl))
      refine HAP.out.mono ?_
      rintro e w2 ⟨⟨v2, rfl, hv2⟩, hb2⟩
      have HN : Hid (OwnT w2 w.heap.size v2 (peaksT (l.take (k + 1))) ∧ Below w.heap.size w w2) := ⟨by rw [HST.out]; exact hv2.less HB.out.size, HB.out.trans (hb2.mono HB.out.size)⟩
      clear hv2 hb2 HAP HLD
      go_wp2
      go_roundw
      case rel => exact ⟨k + 1, by omega, by go_num, HN⟩
      case measure => simp [intOf]; omega
    · obtain rfl : k = n := by omega
      have hge : ¬ (k : Int) < (k : Int) := by omega
      have HO : Hid (OwnT wr w.heap.size (.slice A' (peaksT (l.take k)).length c') (peaksT l)) := by
        have h := hO
        rw [show peaksT (l.take k) = peaksT l by rw [List.take_of_length_le (by rw [HL.out]; exact Nat.le_refl _)]] at h ⊢
        exact h
      have HB := Lib.hid hB
      clear hO hB
      generalize (peaksT (l.take k)).length = pl at *
      go_wp2
      go_ret
      exact ⟨⟨_, rfl, HO.out⟩, HB.out⟩
end Go.Proofs.YtbmiecogjmbciaaDoor
