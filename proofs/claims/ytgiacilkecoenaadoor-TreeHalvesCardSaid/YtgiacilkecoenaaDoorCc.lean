/- Trees of sums: halves, roots, paths, sides, climbs: plain facts. -/
import Derived.Test.YtgiacilkecoenaaDoorCb
import Derived.WalkKit
import Derived.Deep.QuietTactic
import Derived.BigQuiet
namespace Go.Proofs.YtgiacilkecoenaaDoor

/-- the greatest power of two that is less than n (n above 1) -/
def halfGo (n : Nat) : Nat → Nat → Nat
  | 0, k => k
  | f + 1, k => if 2 * k < n then halfGo n f (2 * k) else k
def halfT (n : Nat) : Nat := halfGo n n 1
theorem halfGo_spec (n : Nat) : ∀ (f k : Nat), 1 ≤ k → k < n → n ≤ k * 2 ^ f → k ≤ halfGo n f k ∧ halfGo n f k < n ∧ n ≤ 2 * halfGo n f k ∧ ∃ e, halfGo n f k = k * 2 ^ e
  | 0, k, _, hkn, hf => by
    rw [Nat.pow_zero, Nat.mul_one] at hf
    omega
  | f + 1, k, hk, hkn, hf => by
    unfold halfGo
    by_cases h : 2 * k < n
    · rw [if_pos h]
      obtain ⟨h1, h2, h3, e, h4⟩ := halfGo_spec n f (2 * k) (by omega) h (by rw [Nat.pow_succ] at hf; rw [Nat.mul_comm 2 k, Nat.mul_assoc, Nat.mul_comm 2]; exact hf)
      exact ⟨by omega, h2, h3, e + 1, by rw [h4, Nat.pow_succ, Nat.mul_comm 2 k, Nat.mul_assoc, Nat.mul_comm 2]⟩
    · rw [if_neg h]
      exact ⟨Nat.le_refl _, hkn, by omega, 0, by simp⟩
theorem half_spec {n : Nat} (h : 2 ≤ n) : 1 ≤ halfT n ∧ halfT n < n ∧ n ≤ 2 * halfT n ∧ ∃ e, halfT n = 2 ^ e := by
  have h0 : n ≤ 1 * 2 ^ n := by rw [Nat.one_mul]; exact Nat.le_of_lt Nat.lt_two_pow_self
  obtain ⟨h1, h2, h3, e, h4⟩ := halfGo_spec n n 1 (Nat.le_refl _) (by omega) h0
  exact ⟨h1, h2, h3, e, by unfold halfT; rw [h4, Nat.one_mul]⟩
theorem pow_unique {a b n : Nat} (h1 : 2 ^ a < n) (h2 : n ≤ 2 * 2 ^ a) (h3 : 2 ^ b < n) (h4 : n ≤ 2 * 2 ^ b) : a = b := by
  have e1 : 2 * 2 ^ a = 2 ^ (a + 1) := by rw [Nat.pow_succ, Nat.mul_comm]
  have e2 : 2 * 2 ^ b = 2 ^ (b + 1) := by rw [Nat.pow_succ, Nat.mul_comm]
  rw [e1] at h2
  rw [e2] at h4
  have k1 : 2 ^ a < 2 ^ (b + 1) := Nat.lt_of_lt_of_le h1 h4
  have k2 : 2 ^ b < 2 ^ (a + 1) := Nat.lt_of_lt_of_le h3 h2
  have := (Nat.pow_lt_pow_iff_right (by decide : 1 < 2)).1 k1
  have := (Nat.pow_lt_pow_iff_right (by decide : 1 < 2)).1 k2
  omega
theorem half_unique {n e : Nat} (h1 : 2 ^ e < n) (h2 : n ≤ 2 * 2 ^ e) : halfT n = 2 ^ e := by
  have hp : 0 < 2 ^ e := Nat.pow_pos (by decide)
  obtain ⟨_, k2, k3, e', k4⟩ := half_spec (n := n) (by omega)
  rw [k4] at k2 k3 ⊢
  rw [pow_unique k2 k3 h1 h2]
/-- what Node sums, and its sum -/
def textT (a b : List Int) : List Int := 1 :: (a ++ b)
def nodeT (a b : List Int) : List Int := sumL (textT a b)
def leafT (b : List Int) : List Int := sumL (0 :: b)
/-- the root of leaves -/
def rootF : Nat → List (List Int) → List Int
  | 0, l => l.headD []
  | f + 1, l => if l.length ≤ 1 then l.headD [] else nodeT (rootF f (l.take (halfT l.length))) (rootF f (l.drop (halfT l.length)))
def rootT (l : List (List Int)) : List Int := if l.length = 0 then sumL [2] else rootF l.length l
theorem rootF_more : ∀ (f g : Nat) (l : List (List Int)), l.length ≤ f → l.length ≤ g → rootF f l = rootF g l
  | 0, 0, _, _, _ => rfl
  | 0, g + 1, l, h, _ => by
    unfold rootF
    rw [if_pos (by omega)]
  | f + 1, 0, l, _, h => by
    unfold rootF
    rw [if_pos (by omega)]
  | f + 1, g + 1, l, h1, h2 => by
    unfold rootF
    by_cases h : l.length ≤ 1
    · rw [if_pos h, if_pos h]
    · rw [if_neg h, if_neg h]
      obtain ⟨a, b, _, _⟩ := half_spec (n := l.length) (by omega)
      rw [rootF_more f g (l.take _) (by rw [List.length_take]; omega) (by rw [List.length_take]; omega), rootF_more f g (l.drop _) (by rw [List.length_drop]; omega) (by rw [List.length_drop]; omega)]
theorem root_none : rootT [] = sumL [2] := rfl
theorem root_one (x : List Int) : rootT [x] = x := rfl
theorem root_cut {l : List (List Int)} (h : 2 ≤ l.length) : rootT l = nodeT (rootT (l.take (halfT l.length))) (rootT (l.drop (halfT l.length))) := by
  obtain ⟨a, b, _, _⟩ := half_spec h
  have e1 : (l.take (halfT l.length)).length = halfT l.length := by rw [List.length_take]; omega
  have e2 : (l.drop (halfT l.length)).length = l.length - halfT l.length := List.length_drop
  unfold rootT
  rw [if_neg (by omega), if_neg (by omega), if_neg (by omega)]
  obtain ⟨n, hn⟩ : ∃ n, l.length = n + 1 := ⟨l.length - 1, by omega⟩
  rw [rootF_more l.length (n + 1) l (Nat.le_refl _) (by omega), rootF, if_neg (by omega), rootF_more n _ (l.take _) (by omega) (Nat.le_refl _), rootF_more n _ (l.drop _) (by omega) (Nat.le_refl _)]
/-- the path of a leaf: of each tree in which it stands, from the least on, the other side's root -/
def pathF : Nat → List (List Int) → Nat → List (List Int)
  | 0, _, _ => []
  | f + 1, l, i => if l.length ≤ 1 then [] else
    if i < halfT l.length then pathF f (l.take (halfT l.length)) i ++ [rootT (l.drop (halfT l.length))]
    else pathF f (l.drop (halfT l.length)) (i - halfT l.length) ++ [rootT (l.take (halfT l.length))]
def pathT (l : List (List Int)) (i : Nat) : List (List Int) := pathF l.length l i
theorem pathF_more : ∀ (f g : Nat) (l : List (List Int)) (i : Nat), l.length ≤ f → l.length ≤ g → pathF f l i = pathF g l i
  | 0, 0, _, _, _, _ => rfl
  | 0, g + 1, l, i, h, _ => by
    unfold pathF
    rw [if_pos (by omega)]
  | f + 1, 0, l, i, _, h => by
    unfold pathF
    rw [if_pos (by omega)]
  | f + 1, g + 1, l, i, h1, h2 => by
    unfold pathF
    by_cases h : l.length ≤ 1
    · rw [if_pos h, if_pos h]
    · rw [if_neg h, if_neg h]
      obtain ⟨a, b, _, _⟩ := half_spec (n := l.length) (by omega)
      rw [pathF_more f g (l.take _) i (by rw [List.length_take]; omega) (by rw [List.length_take]; omega), pathF_more f g (l.drop _) _ (by rw [List.length_drop]; omega) (by rw [List.length_drop]; omega)]
theorem path_one (x : List Int) (i : Nat) : pathT [x] i = [] := rfl
theorem path_low {l : List (List Int)} {i : Nat} (h : 2 ≤ l.length) (hi : i < halfT l.length) : pathT l i = pathT (l.take (halfT l.length)) i ++ [rootT (l.drop (halfT l.length))] := by
  obtain ⟨a, b, _, _⟩ := half_spec h
  unfold pathT
  obtain ⟨n, hn⟩ : ∃ n, l.length = n + 1 := ⟨l.length - 1, by omega⟩
  rw [pathF_more l.length (n + 1) l i (Nat.le_refl _) (by omega), pathF, if_neg (by omega), if_pos hi, pathF_more n _ (l.take _) i (by rw [List.length_take]; omega) (Nat.le_refl _)]
theorem path_high {l : List (List Int)} {i : Nat} (h : 2 ≤ l.length) (hi : ¬ i < halfT l.length) : pathT l i = pathT (l.drop (halfT l.length)) (i - halfT l.length) ++ [rootT (l.take (halfT l.length))] := by
  obtain ⟨a, b, _, _⟩ := half_spec h
  unfold pathT
  obtain ⟨n, hn⟩ : ∃ n, l.length = n + 1 := ⟨l.length - 1, by omega⟩
  rw [pathF_more l.length (n + 1) l i (Nat.le_refl _) (by omega), pathF, if_neg (by omega), if_neg hi, pathF_more n _ (l.drop _) _ (by rw [List.length_drop]; omega) (Nat.le_refl _)]
/-- does the leaf stand on the left side: from the least tree on -/
def sidesF : Nat → Nat → Nat → List Bool
  | 0, _, _ => []
  | f + 1, n, i => if n ≤ 1 then [] else if i < halfT n then sidesF f (halfT n) i ++ [true] else sidesF f (n - halfT n) (i - halfT n) ++ [false]
def sidesT (n i : Nat) : List Bool := sidesF n n i
theorem sidesF_more : ∀ (f g n i : Nat), n ≤ f → n ≤ g → sidesF f n i = sidesF g n i
  | 0, 0, _, _, _, _ => rfl
  | 0, g + 1, n, i, h, _ => by
    unfold sidesF
    rw [if_pos (by omega)]
  | f + 1, 0, n, i, _, h => by
    unfold sidesF
    rw [if_pos (by omega)]
  | f + 1, g + 1, n, i, h1, h2 => by
    unfold sidesF
    by_cases h : n ≤ 1
    · rw [if_pos h, if_pos h]
    · rw [if_neg h, if_neg h]
      obtain ⟨a, b, _, _⟩ := half_spec (n := n) (by omega)
      rw [sidesF_more f g _ i (by omega) (by omega), sidesF_more f g (n - _) _ (by omega) (by omega)]
theorem sides_one (i : Nat) : sidesT 1 i = [] := rfl
theorem sides_low {n i : Nat} (h : 2 ≤ n) (hi : i < halfT n) : sidesT n i = sidesT (halfT n) i ++ [true] := by
  obtain ⟨a, b, _, _⟩ := half_spec h
  unfold sidesT
  obtain ⟨m, rfl⟩ : ∃ m, n = m + 1 := ⟨n - 1, by omega⟩
  rw [sidesF, if_neg (by omega), if_pos hi, sidesF_more m _ _ i (by omega) (Nat.le_refl _)]
theorem sides_high {n i : Nat} (h : 2 ≤ n) (hi : ¬ i < halfT n) : sidesT n i = sidesT (n - halfT n) (i - halfT n) ++ [false] := by
  obtain ⟨a, b, _, _⟩ := half_spec h
  unfold sidesT
  obtain ⟨m, rfl⟩ : ∃ m, n = m + 1 := ⟨n - 1, by omega⟩
  rw [sidesF, if_neg (by omega), if_neg hi, sidesF_more m _ _ _ (by omega) (Nat.le_refl _)]
theorem path_len : ∀ (n : Nat) (l : List (List Int)) (i : Nat), l.length = n → (pathT l i).length = (sidesT n i).length := by
  intro n
  induction n using Nat.strongRecOn with
  | _ n ih =>
    intro l i hl
    by_cases h : n ≤ 1
    · have e1 : sidesT n i = [] := by
        rcases n with _ | _ | n
        · rfl
        · rfl
        · omega
      have e2 : pathT l i = [] := by
        unfold pathT
        rw [hl]
        rcases n with _ | _ | n
        · rfl
        · unfold pathF; rw [if_pos (by omega)]
        · omega
      rw [e1, e2]; rfl
    · have h2 : 2 ≤ n := by omega
      obtain ⟨a, b, _, _⟩ := half_spec h2
      by_cases hi : i < halfT n
      · rw [path_low (by omega) (by rw [hl]; exact hi), sides_low h2 hi, List.length_append, List.length_append, hl, ih (halfT n) b _ i (by rw [List.length_take]; omega)]
        rfl
      · rw [path_high (by omega) (by rw [hl]; exact hi), sides_high h2 hi, List.length_append, List.length_append, hl, ih (n - halfT n) (by omega) _ _ (by rw [List.length_drop]; omega)]
        rfl
/-- one step up -/
def stepT (s : Bool) (x y : List Int) : List Int := if s then nodeT x y else nodeT y x
def stepText (s : Bool) (x y : List Int) : List Int := if s then textT x y else textT y x
theorem stepT_text (s : Bool) (x y : List Int) : stepT s x y = sumL (stepText s x y) := by
  unfold stepT stepText
  cases s <;> rfl
/-- what comes of a leaf, step by step: the first k steps' last -/
def climbK (s : List Bool) (x : List Int) (p : List (List Int)) : Nat → List Int
  | 0 => x
  | k + 1 => stepT (s.getD k true) (climbK s x p k) (p.getD k [])
def climbT (s : List Bool) (x : List Int) (p : List (List Int)) : List (List Int) := (List.range (s.length + 1)).map (climbK s x p)
def topT (s : List Bool) (x : List Int) (p : List (List Int)) : List Int := climbK s x p s.length
theorem climbK_ahead {s s' : List Bool} {x : List Int} {p p' : List (List Int)} : ∀ (k : Nat), k ≤ s.length → k ≤ p.length → climbK (s ++ s') x (p ++ p') k = climbK s x p k
  | 0, _, _ => rfl
  | k + 1, h1, h2 => by
    unfold climbK
    rw [climbK_ahead k (by omega) (by omega)]
    simp only [List.getD_eq_getElem?_getD, List.getElem?_append_left (show k < s.length by omega), List.getElem?_append_left (show k < p.length by omega)]
theorem top_snoc {s : List Bool} {b : Bool} {x y : List Int} {p : List (List Int)} (h : p.length = s.length) : topT (s ++ [b]) x (p ++ [y]) = stepT b (topT s x p) y := by
  unfold topT
  rw [List.length_append, List.length_singleton]
  show stepT _ (climbK _ _ _ s.length) _ = _
  rw [climbK_ahead s.length (Nat.le_refl _) (by omega)]
  simp only [List.getD_eq_getElem?_getD]
  congr 1
  · simp
  · rw [← h]; simp
/-- each path leads to the root -/
theorem path_top : ∀ (n : Nat) (l : List (List Int)) (i : Nat), l.length = n → i < n → topT (sidesT n i) (l.getD i []) (pathT l i) = rootT l := by
  intro n
  induction n using Nat.strongRecOn with
  | _ n ih =>
    intro l i hl hi
    by_cases h : n = 1
    · subst h
      obtain rfl : i = 0 := by omega
      match l, hl with
      | [x], _ => rfl
    · have h2 : 2 ≤ n := by omega
      obtain ⟨a, b, _, _⟩ := half_spec h2
      rw [root_cut (by omega), hl]
      by_cases hlow : i < halfT n
      · rw [path_low (by omega) (by rw [hl]; exact hlow), sides_low h2 hlow, hl, top_snoc (path_len _ _ _ (by rw [List.length_take]; omega))]
        have := ih (halfT n) b (l.take (halfT n)) i (by rw [List.length_take]; omega) hlow
        rw [show (l.take (halfT n)).getD i [] = l.getD i [] by simp only [List.getD_eq_getElem?_getD, List.getElem?_take_of_lt hlow]] at this
        rw [this]
        rfl
      · rw [path_high (by omega) (by rw [hl]; exact hlow), sides_high h2 hlow, hl, top_snoc (path_len _ _ _ (by rw [List.length_drop]; omega))]
        have := ih (n - halfT n) (by omega) (l.drop (halfT n)) (i - halfT n) (by rw [List.length_drop]; omega) (by omega)
        rw [show (l.drop (halfT n)).getD (i - halfT n) [] = l.getD i [] by simp only [List.getD_eq_getElem?_getD, List.getElem?_drop]; rw [show halfT n + (i - halfT n) = i by omega]] at this
        rw [this]
        rfl
/-- does a path lead from a leaf to a root? -/
def checkT (root : List Int) (n i : Int) (leaf : List Int) (path : List (List Int)) : Bool :=
  decide (1 ≤ n ∧ n ≤ 64 ∧ 0 ≤ i ∧ i < n ∧ path.length = (sidesT n.toNat i.toNat).length ∧ topT (sidesT n.toNat i.toNat) leaf path = root)
theorem check_path {l : List (List Int)} {i : Nat} (h64 : l.length ≤ 64) (hi : i < l.length) : checkT (rootT l) l.length i (l.getD i []) (pathT l i) = true := by
  unfold checkT
  simp only [decide_eq_true_eq, Int.toNat_natCast]
  exact ⟨by omega, by omega, by omega, by omega, path_len _ _ _ rfl, path_top _ _ _ rfl hi⟩
theorem check_len {root leaf : List Int} {n i : Nat} {path : List (List Int)} (h : path.length ≠ (sidesT n i).length) : checkT root n i leaf path = false := by
  unfold checkT
  simp only [decide_eq_false_iff_not, Int.toNat_natCast]
  exact fun hh => h hh.2.2.2.2.1
/-- of two climbs that end alike, and begin otherwise, the first step at which they meet -/
theorem climb_meet (s : List Bool) (x y : List Int) (p q : List (List Int)) (hne : x ≠ y) : ∀ k, climbK s x p k = climbK s y q k → ∃ j, j < k ∧ climbK s x p j ≠ climbK s y q j ∧ climbK s x p (j + 1) = climbK s y q (j + 1) ∧ ∀ t, t < j → climbK s x p (t + 1) ≠ climbK s y q (t + 1)
  | 0, h => absurd h hne
  | k + 1, h => by
    by_cases hk : climbK s x p k = climbK s y q k
    · obtain ⟨j, h1, h2⟩ := climb_meet s x y p q hne k hk
      exact ⟨j, by omega, h2⟩
    · by_cases he : ∃ t, t < k ∧ climbK s x p (t + 1) = climbK s y q (t + 1)
      · obtain ⟨t, ht, het⟩ := he
        obtain ⟨j, h1, h2⟩ := climb_meet s x y p q hne (t + 1) het
        exact ⟨j, by omega, h2⟩
      · exact ⟨k, by omega, hk, h, fun t ht e => he ⟨t, ht, e⟩⟩
/-- a path is no longer than the tree is high -/
theorem sides_le : ∀ (h n i : Nat), n ≤ 2 ^ h → (sidesT n i).length ≤ h := by
  intro h
  induction h with
  | zero =>
    intro n i hn
    have e : sidesT n i = [] := by
      rw [Nat.pow_zero] at hn
      rcases n with _ | _ | n
      · rfl
      · rfl
      · omega
    rw [e]
    exact Nat.le_refl _
  | succ h ih =>
    intro n i hn
    by_cases h1 : n ≤ 1
    · have e : sidesT n i = [] := by
        rcases n with _ | _ | n
        · rfl
        · rfl
        · omega
      rw [e]
      exact Nat.zero_le _
    · obtain ⟨a, b, c, e, he⟩ := half_spec (n := n) (by omega)
      have hh : halfT n ≤ 2 ^ h := by
        rw [he] at b ⊢
        have : 2 ^ e < 2 ^ (h + 1) := Nat.lt_of_lt_of_le b hn
        have := (Nat.pow_lt_pow_iff_right (by decide : 1 < 2)).1 this
        exact Nat.pow_le_pow_right (by decide) (by omega)
      by_cases hi : i < halfT n
      · rw [sides_low (by omega) hi, List.length_append]
        have := ih _ i hh
        simp only [List.length_singleton]
        omega
      · rw [sides_high (by omega) hi, List.length_append]
        have := ih (n - halfT n) (i - halfT n) (by omega)
        simp only [List.length_singleton]
        omega
theorem root_halves {l : List (List Int)} {e : Nat} (h1 : 2 ^ e < l.length) (h2 : l.length ≤ 2 * 2 ^ e) : rootT l = nodeT (rootT (l.take (2 ^ e))) (rootT (l.drop (2 ^ e))) := by
  have hp : 0 < 2 ^ e := Nat.pow_pos (by decide)
  rw [root_cut (by omega), half_unique h1 h2]
/-- the step of two climbs at which they meet: the first one -/
def meetK (s : List Bool) (x y : List Int) (p q : List (List Int)) : Nat → Nat → Option Nat
  | 0, _ => none
  | f + 1, k => if climbK s x p (k + 1) = climbK s y q (k + 1) then some k else meetK s x y p q f (k + 1)
theorem meetK_some (s : List Bool) (x y : List Int) (p q : List (List Int)) : ∀ (f k j : Nat), meetK s x y p q f k = some j → k ≤ j ∧ j < k + f ∧ climbK s x p (j + 1) = climbK s y q (j + 1) ∧ ∀ t, k ≤ t → t < j → climbK s x p (t + 1) ≠ climbK s y q (t + 1)
  | 0, k, j, h => by cases h
  | f + 1, k, j, h => by
    unfold meetK at h
    split at h
    · rename_i he
      cases h
      exact ⟨Nat.le_refl _, by omega, he, fun t h1 h2 => by omega⟩
    · rename_i he
      obtain ⟨h1, h2, h3, h4⟩ := meetK_some s x y p q f (k + 1) j h
      refine ⟨by omega, by omega, h3, fun t g1 g2 => ?_⟩
      by_cases e : t = k
      · subst e; exact he
      · exact h4 t (by omega) g2
theorem meetK_none (s : List Bool) (x y : List Int) (p q : List (List Int)) : ∀ (f k : Nat), meetK s x y p q f k = none → ∀ t, k ≤ t → t < k + f → climbK s x p (t + 1) ≠ climbK s y q (t + 1)
  | 0, k, _, t, h1, h2 => by omega
  | f + 1, k, h, t, h1, h2 => by
    unfold meetK at h
    split at h
    · cases h
    · rename_i he
      by_cases e : t = k
      · subst e; exact he
      · exact meetK_none s x y p q f (k + 1) h t (by omega) (by omega)
/-- the two texts of one sum, or none -/
def clashT (l : List (List Int)) (i : Int) (leaf : List Int) (path : List (List Int)) : Option (List Int × List Int) :=
  if checkT (rootT l) l.length i leaf path = true ∧ leaf ≠ l.getD i.toNat [] then
    (meetK (sidesT l.length i.toNat) leaf (l.getD i.toNat []) path (pathT l i.toNat) (sidesT l.length i.toNat).length 0).map fun k =>
      (stepText ((sidesT l.length i.toNat).getD k true) (climbK (sidesT l.length i.toNat) leaf path k) (path.getD k []), stepText ((sidesT l.length i.toNat).getD k true) (climbK (sidesT l.length i.toNat) (l.getD i.toNat []) (pathT l i.toNat) k) ((pathT l i.toNat).getD k []))
  else none
theorem text_inj {a b c d : List Int} (h : a.length = c.length) (e : textT a b = textT c d) : a = c ∧ b = d := by
  unfold textT at e
  exact List.append_inj (List.cons.inj e).2 h
theorem clash_some {l : List (List Int)} {i : Int} {leaf : List Int} {path : List (List Int)} (h64 : l.length ≤ 64) (hc : checkT (rootT l) l.length i leaf path = true) (hne : leaf ≠ l.getD i.toNat []) (h32 : leaf.length = 32) (hl : ∀ x ∈ l, x.length = 32) (hp : ∀ x ∈ path, x.length = 32) (hs : ∀ x, (sumL x).length = 32) :
    ∃ a b, clashT l i leaf path = some (a, b) ∧ a ≠ b ∧ sumL a = sumL b := by
  have hc' := hc
  unfold checkT at hc'
  simp only [decide_eq_true_eq, Int.toNat_natCast] at hc'
  obtain ⟨k1, k2, k3, k4, k5, k6⟩ := hc'
  obtain ⟨j, rfl⟩ := Int.eq_ofNat_of_zero_le k3
  simp only [Int.toNat_natCast] at k5 k6 hne ⊢
  have hj : j < l.length := by omega
  have htop := path_top l.length l j rfl hj
  have heq : climbK (sidesT l.length j) leaf path (sidesT l.length j).length = climbK (sidesT l.length j) (l.getD j []) (pathT l j) (sidesT l.length j).length := by
    have e := k6.trans htop.symm
    exact e
  have hlen := path_len l.length l j rfl
  unfold clashT
  rw [if_pos ⟨hc, by simpa using hne⟩]
  simp only [Int.toNat_natCast]
  cases hm : meetK (sidesT l.length j) leaf (l.getD j []) path (pathT l j) (sidesT l.length j).length 0 with
  | none =>
    exfalso
    have hno := meetK_none _ _ _ _ _ _ _ hm
    obtain ⟨t, h1, h2, h3, _⟩ := climb_meet _ _ _ path (pathT l j) hne _ heq
    exact hno t (Nat.zero_le _) (by omega) h3
  | some k =>
    obtain ⟨_, m2, m3, m4⟩ := meetK_some _ _ _ _ _ _ _ _ hm
    have hk : k < (sidesT l.length j).length := by omega
    have hdiff : climbK (sidesT l.length j) leaf path k ≠ climbK (sidesT l.length j) (l.getD j []) (pathT l j) k := by
      rcases k with _ | k
      · exact hne
      · exact m4 k (Nat.zero_le _) (by omega)
    have h32k : ∀ (x : List Int) (p : List (List Int)), x.length = 32 → ∀ t, (climbK (sidesT l.length j) x p t).length = 32 := by
      intro x p hx t
      cases t with
      | zero => exact hx
      | succ t =>
        show (stepT _ _ _).length = 32
        rw [stepT_text]
        exact hs _
    have hleaf : (l.getD j []).length = 32 := by
      rw [List.getD_eq_getElem?_getD, List.getElem?_eq_getElem hj]
      exact hl _ (List.getElem_mem hj)
    refine ⟨_, _, rfl, ?_, ?_⟩
    · intro e
      unfold stepText at e
      have g1 : (path.getD k []).length = 32 := by
        rw [List.getD_eq_getElem?_getD, List.getElem?_eq_getElem (by omega)]
        exact hp _ (List.getElem_mem _)
      have g2 : ((pathT l j).getD k []).length = 32 := by
        have : ∀ (f : Nat) (l : List (List Int)) (i : Nat), (∀ x ∈ l, x.length = 32) → ∀ x ∈ pathF f l i, x.length = 32 := by
          intro f
          induction f with
          | zero => intro l i _ x hx; cases hx
          | succ f ih =>
            have hr : ∀ l : List (List Int), (∀ x ∈ l, x.length = 32) → (rootT l).length = 32 := by
              intro l hl
              by_cases h0 : l.length = 0
              · rw [List.eq_nil_of_length_eq_zero h0]; exact hs _
              · by_cases h1 : l.length = 1
                · match l, h1 with
                  | [x], _ => exact hl x (List.mem_cons_self ..)
                · rw [root_cut (by omega)]
                  exact hs _
            intro l i hl x hx
            unfold pathF at hx
            split at hx
            · cases hx
            · split at hx
              · rcases List.mem_append.1 hx with h | h
                · exact ih _ _ (fun y hy => hl y (List.mem_of_mem_take hy)) x h
                · cases List.mem_singleton.1 h
                  exact hr _ (fun y hy => hl y (List.mem_of_mem_drop hy))
              · rcases List.mem_append.1 hx with h | h
                · exact ih _ _ (fun y hy => hl y (List.mem_of_mem_drop hy)) x h
                · cases List.mem_singleton.1 h
                  exact hr _ (fun y hy => hl y (List.mem_of_mem_take hy))
        rw [List.getD_eq_getElem?_getD, List.getElem?_eq_getElem (by omega)]
        exact this _ _ _ hl _ (List.getElem_mem _)
      cases hside : (sidesT l.length j).getD k true with
      | true =>
        rw [hside] at e
        simp only [if_true] at e
        exact hdiff (text_inj (by rw [h32k _ _ h32, h32k _ _ hleaf]) e).1
      | false =>
        rw [hside] at e
        simp only [Bool.false_eq_true, if_false] at e
        exact hdiff (text_inj (by rw [g1, g2]) e).2
    · rw [← stepT_text, ← stepT_text]
      exact m3
end Go.Proofs.YtgiacilkecoenaaDoor

/- The reference's Half, Sides; ids and truths of one's own. -/
namespace Go.Proofs.YtgiacilkecoenaaDoor
open Go.RowKit

set_option maxRecDepth 20000 in
set_option maxHeartbeats 1000000 in
theorem rhalf_any (n : Nat) (w : World) (h2 : 2 ≤ n) (hn : n ≤ 1099511627776) :
    Calls Tryd.prog 28 #[.int .i64 n] w fun e w' => e = .returned (.int .i64 (halfT n : Nat)) ∧ w = w' := by
  have h2' : (2 : Int) ≤ (n : Int) := by omega
  go_enter Tryd.func28, Tryd.ntmps28
  go_wp2_with fail
  go_loopw [3] (fun v u => ∃ k f : Nat, v = .int .i64 k ∧ 1 ≤ k ∧ k < n ∧ Hid (n ≤ k * 2 ^ f ∧ halfGo n f k = halfT n) ∧ u = w) (fun v _ => n - (intOf v).toNat)
  case atStart =>
    refine ⟨1, n, rfl, Nat.le_refl _, by omega, ⟨?_, rfl⟩, rfl⟩
    rw [Nat.one_mul]
    exact Nat.le_of_lt Nat.lt_two_pow_self
  case round =>
    obtain ⟨k, f, rfl, hk1, hkn, hh, rfl⟩ := hrel
    obtain ⟨hf, hg⟩ := hh.out
    clear hh
    by_cases hlt : 2 * k < n
    · have hlt2 : 2 * (k : Int) < (n : Int) := by omega
      obtain ⟨f, rfl⟩ : ∃ f', f = f' + 1 := by
        cases f with
        | zero => rw [Nat.pow_zero, Nat.mul_one] at hf; omega
        | succ f => exact ⟨f, rfl⟩
      have HN : Hid (n ≤ (2 * k) * 2 ^ f ∧ halfGo n f (2 * k) = halfT n) := by
        refine ⟨?_, ?_⟩
        · rw [Nat.pow_succ] at hf
          rw [Nat.mul_comm 2 k, Nat.mul_assoc, Nat.mul_comm 2]
          exact hf
        · rw [halfGo, if_pos hlt] at hg
          exact hg
      clear hf hg
      go_wp2
      go_roundw
      case rel => exact ⟨2 * k, f, by go_num, by omega, by omega, HN, trivial⟩
      case measure => simp [intOf]; omega
    · have hlt2 : ¬ 2 * (k : Int) < (n : Int) := by omega
      have HK : Hid (halfT n = k) := by
        show _ = _
        rw [← hg]
        cases f with
        | zero => rfl
        | succ f => rw [halfGo, if_neg hlt]
      clear hf hg
      go_wp2
      go_ret
      exact ⟨by rw [HK.out]; rfl, rfl⟩
/-- truths of one's own -/
def OwnF (w : World) (B : Nat) (v : Value) (l : List Bool) : Prop := w.ownsRow B 4 1 v l.length (l.map Value.bool)
theorem OwnF.nil (w : World) (B : Nat) : OwnF w B (.slice none 0 0) [] := World.ownsRow_nil _ _ _ _
theorem OwnF.less {w : World} {B B' : Nat} {v : Value} {l : List Bool} (h : OwnF w B v l) (hB : B' ≤ B) : OwnF w B' v l := by
  refine ⟨h.1, ?_⟩
  rcases h.2 with h0 | ⟨g, cap, cur, e, hg, hh, h1⟩
  · exact .inl h0
  · exact .inr ⟨g, cap, cur, e, by omega, hh, h1⟩
theorem infoF : (Tryd.prog.info? 4).map (fun i => (i.zero, i.size, i.bytes)) = some (some (.bool false), 1, 1) := by kernel_rfl
theorem OwnF.append {w : World} {B : Nat} {v : Value} {l : List Bool} (h : OwnF w B v l) (b : Bool) (hs : l.length ≤ 1000000) (hB : B ≤ w.heap.size) :
    ∃ v' w', (Builtin.append_ #[50, 50] 50 #[v, .slice (some ⟨w.heap.size, 0, none⟩) 1 1]).run Tryd.prog (w.alloc (.cells #[.bool b] 4)) = .ok v' w' ∧ OwnF w' B v' (l ++ [b]) ∧ Below B w w' := by
  cases hq : Tryd.prog.info? 4 with
  | none => have := infoF; rw [hq] at this; cases this
  | some i =>
    have hi := infoF
    rw [hq] at hi
    simp only [Option.map_some, Option.some.injEq, Prod.mk.injEq] at hi
    obtain ⟨h1, h2, h3⟩ := hi
    have hown := World.ownsRow.alloc (o := .cells #[.bool b] 4) h
    obtain ⟨v', w', hrun, hown', hg, _⟩ := run_append_own_at (P := Tryd.prog) (w.alloc (.cells #[.bool b] 4)) B 50 50 4 i (.bool false) 1 1 Tryd.underlying50 hq h1 h2 h3 rfl (by decide) v l.length (l.map Value.bool) hown
      ⟨w.heap.size, 0, none⟩ 1 1 [.bool b] rfl (cell_one_new _ _ _) (by intro u hu; cases List.mem_singleton.1 hu; rfl) (by unfold maxLen; omega) (by omega) (by simp; omega)
    refine ⟨v', w', hrun, ?_, ?_⟩
    · unfold OwnF
      rw [List.length_append, List.map_append]
      exact hown'
    · exact ((Below.refl B w).alloc hB _).trans (below_of_grown hg (fun r hr => (hown.lt r hr).1) (by simp; omega))
set_option maxRecDepth 20000 in
set_option maxHeartbeats 1000000 in
theorem rsides_any : ∀ (n i : Nat) (w : World), 1 ≤ n → n ≤ 1000000 → i < n →
    Calls Tryd.prog 32 #[.int .i64 n, .int .i64 i] w fun e w' => (∃ v, e = .returned v ∧ OwnF w' w.heap.size v (sidesT n i)) ∧ Below w.heap.size w w' := by
  intro n
  induction n using Nat.strongRecOn with
  | _ n ih =>
    intro i w h1 hn hi
    by_cases hone : n = 1
    · subst hone
      go_enter Tryd.func32, Tryd.ntmps32
      go_wp2
      go_ret
      exact ⟨⟨_, rfl, OwnF.nil _ _⟩, Below.refl _ _⟩
    · have h2 : 2 ≤ n := by omega
      have hne : ¬ (n : Int) = 1 := by omega
      obtain ⟨a, b, c, -⟩ := half_spec h2
      have HH := Lib.hid (rhalf_any n w h2 (by omega))
      by_cases hlow : i < halfT n
      · have HI := Lib.hid (ih (halfT n) b i w a (by omega) hlow)
        have hsl := Lib.hid (sides_low h2 hlow)
        have hlen : (sidesT (halfT n) i).length ≤ 1000000 := by
          have := sides_le (halfT n) (halfT n) i (Nat.le_of_lt Nat.lt_two_pow_self)
          omega
        generalize halfT n = k at *
        have hlow2 : (i : Int) < (k : Int) := by omega
        clear ih
        go_enter Tryd.func32, Tryd.ntmps32
        go_wp2_with fail
        refine HH.out.mono ?_
        rintro e w1 ⟨rfl, rfl⟩
        go_wp2_with fail
        refine HI.out.mono ?_
        rintro e w2 ⟨⟨v, rfl, hv⟩, hb⟩
        obtain ⟨v', w', hrun, hown, hb2⟩ := hv.append true hlen hb.size
        have HRUN := Lib.hid hrun
        have HO := Lib.hid hown
        have HB := Lib.hid (hb.trans hb2)
        clear hrun hown hb hb2 hv HH HI
        go_wp2_with (at_builtin; (with_reducible refine wpList_append_run (o := ⟨some 17, _, _, _, _, _⟩) ?_ (.tmp 15) (.tmp 16) ?_ ?_ ?_ ?_ HRUN.out ?_); (rfl); (rfl); (rfl); (rfl); (rfl))
        go_ret
        exact ⟨⟨_, rfl, by rw [hsl.out]; exact HO.out⟩, HB.out⟩
      · have HI := Lib.hid (ih (n - halfT n) (by omega) (i - halfT n) w (by omega) (by omega) (by omega))
        have hsl := Lib.hid (sides_high h2 hlow)
        have hlen : (sidesT (n - halfT n) (i - halfT n)).length ≤ 1000000 := by
          have := sides_le (n - halfT n) (n - halfT n) (i - halfT n) (Nat.le_of_lt Nat.lt_two_pow_self)
          omega
        generalize halfT n = k at *
        have hlow2 : ¬ (i : Int) < (k : Int) := by omega
        have e1 : ((n - k : Nat) : Int) = (n : Int) - (k : Int) := by omega
        have e2 : ((i - k : Nat) : Int) = (i : Int) - (k : Int) := by omega
        rw [e1, e2] at HI
        clear ih e1 e2
        go_enter Tryd.func32, Tryd.ntmps32
        go_wp2_with fail
        refine HH.out.mono ?_
        rintro e w1 ⟨rfl, rfl⟩
        go_wp2_with fail
        refine HI.out.mono ?_
        rintro e w2 ⟨⟨v, rfl, hv⟩, hb⟩
        obtain ⟨v', w', hrun, hown, hb2⟩ := hv.append false hlen hb.size
        have HRUN := Lib.hid hrun
        have HO := Lib.hid hown
        have HB := Lib.hid (hb.trans hb2)
        clear hrun hown hb hb2 hv HH HI
        go_wp2_with (at_builtin; (with_reducible refine wpList_append_run (o := ⟨some 26, _, _, _, _, _⟩) ?_ (.tmp 24) (.tmp 25) ?_ ?_ ?_ ?_ HRUN.out ?_); (rfl); (rfl); (rfl); (rfl); (rfl))
        go_ret
        exact ⟨⟨_, rfl, by rw [hsl.out]; exact HO.out⟩, HB.out⟩
end Go.Proofs.YtgiacilkecoenaaDoor

/- Regions that draw their order, walked once: boxes of whatever content, whatever is made beside them. -/
namespace Go.Proofs.YtgiacilkecoenaaDoor
open Go.RowKit

/-- w has grown to u, and each block of the list is as told. -/
structure EnvX (w u : World) (l : List (Nat × Obj)) : Prop where
  bel : Below w.heap.size w u
  box : ∀ g o, (g, o) ∈ l → u.heap[g]? = some o
theorem EnvX.lt {w u : World} {l : List (Nat × Obj)} (h : EnvX w u l) {g : Nat} {o : Obj} (hm : (g, o) ∈ l) : g < u.heap.size := by
  have h1 := h.box g o hm
  rcases Nat.lt_or_ge g u.heap.size with h2 | h2
  · exact h2
  · rw [Array.getElem?_eq_none h2] at h1
    cases h1
theorem EnvX.start (w : World) : EnvX w w [] := ⟨Below.refl _ _, fun _ _ h => by cases h⟩
theorem EnvX.below {w u v : World} {l : List (Nat × Obj)} (h : EnvX w u l) (hb : Below u.heap.size u v) : EnvX w v l :=
  ⟨h.bel.trans (hb.mono h.bel.size), fun g o hm => (hb.block g (h.lt hm)).trans (h.box g o hm)⟩
theorem EnvX.drew {w u : World} {l : List (Nat × Obj)} (h : EnvX w u l) : EnvX w u.drew l := ⟨h.bel.drew, h.box⟩
theorem EnvX.new {w u : World} {l : List (Nat × Obj)} (h : EnvX w u l) (o : Obj) : EnvX w (u.alloc o) ((u.heap.size, o) :: l) := by
  refine ⟨h.bel.alloc h.bel.size _, fun g o' hm => ?_⟩
  rcases List.mem_cons.1 hm with e | e
  · cases e
    exact heap_alloc_new u o
  · exact (Below.heap_alloc u o g (h.lt e)).trans (h.box g o' e)
theorem EnvX.two {w u : World} {l : List (Nat × Obj)} (h : EnvX w u l) (o o' : Obj) : EnvX w ((u.alloc o).alloc o') ((u.heap.size + 1, o') :: (u.heap.size, o) :: l) := by
  have h1 := (h.new o).new o'
  rwa [World.size_alloc] at h1
theorem EnvX.sub {w u : World} {l l' : List (Nat × Obj)} (h : EnvX w u l) (hs : ∀ x ∈ l', x ∈ l) : EnvX w u l' := ⟨h.bel, fun g o hm => h.box g o (hs _ hm)⟩
theorem EnvX.row {w u : World} {l : List (Nat × Obj)} (h : EnvX w u l) {g : Nat} {cs : Array Value} {t : TypeId} (hm : (g, Obj.cells cs t (0, 0)) ∈ l) : Row u g t cs := h.box g _ hm
/-- the class of worlds -/
def EnvC (w : World) (l : List (Nat × Obj)) (u : World) : Prop := EnvX w u l
theorem EnvC.box {w u : World} {l : List (Nat × Obj)} (h : EnvC w l u) (g : Nat) (o : Obj) (hm : (g, o) ∈ l) : u.heap[g]? = some o := EnvX.box h g o hm
theorem EnvC.call {w u : World} {l : List (Nat × Obj)} {P : Program} {f : FuncId} {args : Array Value} {v : Value} (hu : EnvC w l u)
    (h : Calls P f args u fun e w' => e = .returned v ∧ Below u.heap.size u w') : Calls P f args u fun e w' => e = .returned v ∧ EnvC w l w' :=
  h.mono fun _ _ ⟨he, hb⟩ => ⟨he, EnvX.below hu hb⟩
theorem EnvC.callW {w u : World} {l : List (Nat × Obj)} {P : Program} {f : FuncId} {args : Array Value} {v : Value} (hu : EnvC w l u)
    (h : Calls P f args u fun e w' => e = .returned v ∧ ∃ o, w' = u.alloc o) : Calls P f args u fun e w' => e = .returned v ∧ EnvC w l w' :=
  h.mono fun _ _ ⟨he, o, hb⟩ => ⟨he, by subst hb; exact EnvX.below hu ((Below.refl _ _).alloc (Nat.le_refl _) o)⟩
/-- what holds in each world of a class that has one, whatever that is, holds -/
theorem EnvC.one {w u : World} {l : List (Nat × Obj)} (h : EnvX w u l) (x y : Value) : (∀ v, EnvC w l v → x = y) ↔ x = y := ⟨fun k => k u h, fun e _ _ => e⟩

theorem wp_region_env {P : Program} {id : Nat} {Q : Exit → Act → World → Prop} {a : Act} {w u : World} {l : List Oper} {L : List (Nat × Obj)} (hm : P.follows .mixedOrders = true) (hB : Region.lexB .any l.toArray = true) (hE : EnvX w u L)
    (h : wpQuiet P l.toArray (EnvC w L) (fun a' => ∀ u', EnvC w L u' → Q .normal a' u') l a) : (Code.region id l.toArray true).wp P Q a u :=
  wp_region_quiet (C := EnvC w L) hm hB hE.drew (by simpa using h)

section
variable {P : Program} {C : World → Prop} {a : Act} {o : Oper} {K : Act → Prop}
theorem quiet_load (ty : TypeId) (x : Operand) (ho : o.op = .load ty x) (g : Nat) (hx : a.eval x = .pointer (some ⟨g, 0, none⟩)) (t : TypeId) (cs : Array Value) (fr : Nat × Nat) (d : TypeDesc)
    (hC : ∀ u, C u → u.heap[g]? = some (.cells cs t fr)) (hu : P.underlying ty = some d) (hd : (match d with | .struct _ | .array _ _ => true | _ => false) = true) (hi : (P.info? ty).map (·.size) = some cs.size)
    (hk : K (a.put o.dst (.agg cs))) : o.quiet P a C K :=
  ⟨_, fun u hu' => by
    unfold Oper.quietAt execOp
    simp only [ho, hx, Instr.loadAt, Instr.sureAddr, Sem.run_bind, Sem.run_pure, Result.andThen_ok, run_loadVar_row u g t ty cs fr d (hC u hu') hu hd hi]
    exact ⟨rfl, rfl⟩, hk⟩
theorem quiet_run (v : Value) (hr : ∀ u, C u → (execOp a.eval o).run P u = .ok (.value v) u) (hk : K (a.put o.dst v)) : o.quiet P a C K :=
  ⟨v, fun u hu' => by unfold Oper.quietAt; rw [hr u hu']; exact ⟨rfl, rfl⟩, hk⟩
end
end Go.Proofs.YtgiacilkecoenaaDoor
