/- Compact numbers, work and levels, as plain facts on numbers. -/
import Derived.Test.YtdbkbaanppnabaaWalk4
namespace Go.Proofs.Ytdbkbaanppnabaa

/-- a compact number -/
def isC (b : Nat) : Bool := decide (3 ≤ b / 16777216 ∧ b / 16777216 ≤ 32 ∧ 32768 ≤ b % 16777216 ∧ b % 16777216 ≤ 8388607)
/-- what it stands for -/
def tv (b : Nat) : Nat := if isC b then b % 16777216 * 2 ^ (8 * (b / 16777216 - 3)) else 0

theorem tv_lt (b : Nat) (h : 3 ≤ b / 16777216 ∧ b / 16777216 ≤ 32 ∧ 32768 ≤ b % 16777216 ∧ b % 16777216 ≤ 8388607) : b % 16777216 * 2 ^ (8 * (b / 16777216 - 3)) < Big := by
  rw [Big_eq]
  have h1 : (2 : Nat) ^ (8 * (b / 16777216 - 3)) ≤ 2 ^ 232 := Nat.pow_le_pow_right (by omega) (by omega)
  calc b % 16777216 * 2 ^ (8 * (b / 16777216 - 3)) ≤ 8388607 * 2 ^ 232 := Nat.mul_le_mul h.2.2.2 h1
    _ < 2 ^ 256 := by decide
theorem tv_big (b : Nat) : tv b < Big := by
  unfold tv
  split
  · rename_i h
    exact tv_lt b (of_decide_eq_true h)
  · exact Big_pos

/-- what the search for a compact number comes to: n steps are left, at E = e, the number moved down to m -/
def cG : Nat → Nat → Nat → Nat
  | 0, e, m => if m ≤ 8388607 then 16777216 * e + m else 16777216 * e + 8388607
  | n + 1, e, m => if m ≤ 8388607 then 16777216 * e + m else cG n (e + 1) (m / 256)
def cN (t : Nat) : Nat := if t < 32768 then 0 else cG 29 3 t
theorem cG_fit (n e m : Nat) (h : m ≤ 8388607) : cG n e m = 16777216 * e + m := by
  cases n <;> (unfold cG; rw [if_pos h])
theorem cG_more (n e m : Nat) (h : 8388607 < m) : cG (n + 1) e m = cG n (e + 1) (m / 256) := by
  show (if m ≤ 8388607 then 16777216 * e + m else cG n (e + 1) (m / 256)) = _
  rw [if_neg (by omega)]
theorem cG_end (e m : Nat) (h : 8388607 < m) : cG 0 e m = 16777216 * e + 8388607 := by
  unfold cG; rw [if_neg (by omega)]
/-- k is the least by which t fits -/
theorem cG_spec : ∀ (n e m : Nat), 32768 ≤ m → ∃ k, k ≤ n ∧ ((m / 256 ^ k ≤ 8388607 ∧ 32768 ≤ m / 256 ^ k ∧ cG n e m = 16777216 * (e + k) + m / 256 ^ k) ∨ (k = n ∧ 8388607 < m / 256 ^ n ∧ cG n e m = 16777216 * (e + n) + 8388607))
  | 0, e, m, h => by
    refine ⟨0, Nat.le_refl _, ?_⟩
    unfold cG
    by_cases h1 : m ≤ 8388607
    · left; rw [if_pos h1]; simp; omega
    · right; rw [if_neg h1]; simp; omega
  | n + 1, e, m, h => by
    unfold cG
    by_cases h1 : m ≤ 8388607
    · refine ⟨0, by omega, ?_⟩
      left; rw [if_pos h1]; simp; omega
    · rw [if_neg h1]
      obtain ⟨k, hk, hs⟩ := cG_spec n (e + 1) (m / 256) (by omega)
      have e1 : ∀ j, m / 256 / 256 ^ j = m / 256 ^ (j + 1) := fun j => by rw [Nat.div_div_eq_div_mul, Nat.pow_succ, Nat.mul_comm]
      rw [e1, e1] at hs
      refine ⟨k + 1, by omega, ?_⟩
      rcases hs with ⟨a, b, c⟩ | ⟨a, b, c⟩
      · left; refine ⟨a, b, ?_⟩; rw [c]; omega
      · right; refine ⟨by omega, b, ?_⟩; rw [c]; omega
theorem isC_mk {e m : Nat} (h : 3 ≤ e ∧ e ≤ 32 ∧ 32768 ≤ m ∧ m ≤ 8388607) : isC (16777216 * e + m) = true := by
  unfold isC
  exact decide_eq_true (by omega)
theorem tv_mk {e m : Nat} (h : 3 ≤ e ∧ e ≤ 32 ∧ 32768 ≤ m ∧ m ≤ 8388607) : tv (16777216 * e + m) = m * 256 ^ (e - 3) := by
  unfold tv
  rw [if_pos (isC_mk h), show (16777216 * e + m) % 16777216 = m by omega, show (16777216 * e + m) / 16777216 = e by omega, Nat.pow_mul]
theorem isC_get {b : Nat} (h : isC b = true) : ∃ e m, b = 16777216 * e + m ∧ 3 ≤ e ∧ e ≤ 32 ∧ 32768 ≤ m ∧ m ≤ 8388607 := by
  have h1 := of_decide_eq_true h
  exact ⟨b / 16777216, b % 16777216, by omega, h1.1, h1.2.1, h1.2.2.1, h1.2.2.2⟩
theorem tv_lt_of {a b : Nat} (ha : isC a = true) (hb : isC b = true) (h : a < b) : tv a < tv b := by
  obtain ⟨e, m, rfl, h1⟩ := isC_get ha
  obtain ⟨e', m', rfl, h2⟩ := isC_get hb
  rw [tv_mk h1, tv_mk h2]
  by_cases he : e = e'
  · subst he
    exact Nat.mul_lt_mul_of_pos_right (by omega) (Nat.pos_of_ne_zero (by simp))
  · have hlt : e + 1 ≤ e' := by omega
    have p : (256 : Nat) ^ (e + 1 - 3) ≤ 256 ^ (e' - 3) := Nat.pow_le_pow_right (by omega) (by omega)
    have p2 : (256 : Nat) ^ (e + 1 - 3) = 256 * 256 ^ (e - 3) := by rw [show e + 1 - 3 = (e - 3) + 1 by omega, Nat.pow_succ, Nat.mul_comm]
    have p3 : 32768 * 256 ^ (e' - 3) ≤ m' * 256 ^ (e' - 3) := Nat.mul_le_mul_right _ (by omega)
    have p4 : m * 256 ^ (e - 3) ≤ 8388607 * 256 ^ (e - 3) := Nat.mul_le_mul_right _ (by omega)
    have p5 : 0 < (256 : Nat) ^ (e - 3) := Nat.pos_of_ne_zero (by simp)
    omega
theorem tv_lt_iff {a b : Nat} (ha : isC a = true) (hb : isC b = true) : a < b ↔ tv a < tv b := by
  refine ⟨tv_lt_of ha hb, fun h => ?_⟩
  rcases Nat.lt_trichotomy a b with h1 | h1 | h1
  · exact h1
  · subst h1; omega
  · have := tv_lt_of hb ha h1; omega
theorem tv_le_iff {a b : Nat} (ha : isC a = true) (hb : isC b = true) : a ≤ b ↔ tv a ≤ tv b := by
  have := tv_lt_iff hb ha
  omega
theorem isC_le {b : Nat} (h : isC b = true) : b ≤ 16777216 * 32 + 8388607 := by
  obtain ⟨e, m, rfl, h1⟩ := isC_get h
  omega
theorem isC_lt {b : Nat} (h : isC b = true) : b < 4294967296 := by have := isC_le h; omega
theorem cN_low {t : Nat} (h : t < 32768) : cN t = 0 := by unfold cN; rw [if_pos h]
theorem isC_zero : isC 0 = false := by decide
/-- the greatest compact number whose number is no greater -/
theorem cN_spec {t : Nat} (h : 32768 ≤ t) : isC (cN t) = true ∧ tv (cN t) ≤ t ∧ ∀ b, isC b = true → tv b ≤ t → b ≤ cN t := by
  unfold cN
  rw [if_neg (by omega)]
  obtain ⟨k, hk, ⟨a, b, c⟩ | ⟨a, b, c⟩⟩ := cG_spec 29 3 t h
  · have hc : 3 ≤ 3 + k ∧ 3 + k ≤ 32 ∧ 32768 ≤ t / 256 ^ k ∧ t / 256 ^ k ≤ 8388607 := ⟨by omega, by omega, b, a⟩
    rw [c]
    refine ⟨isC_mk hc, ?_, fun x hx hle => ?_⟩
    · rw [tv_mk hc, show 3 + k - 3 = k by omega]
      exact Nat.div_mul_le_self _ _
    · refine Nat.le_of_not_lt fun hgt => ?_
      have hp : 0 < (256 : Nat) ^ k := Nat.pos_of_ne_zero (by simp)
      obtain ⟨e, m, rfl, h1⟩ := isC_get hx
      rw [tv_mk h1] at hle
      have hb : t < (t / 256 ^ k + 1) * 256 ^ k := by
        have := Nat.lt_div_mul_add hp (a := t)
        rw [Nat.add_mul]; omega
      by_cases he : e = 3 + k
      · subst he
        rw [show 3 + k - 3 = k by omega] at hle
        have := Nat.mul_le_mul_right (256 ^ k) (show t / 256 ^ k + 1 ≤ m by omega)
        omega
      · have p : (256 : Nat) ^ (k + 1) ≤ 256 ^ (e - 3) := Nat.pow_le_pow_right (by omega) (by omega)
        have p2 : (256 : Nat) ^ (k + 1) = 256 * 256 ^ k := by rw [Nat.pow_succ, Nat.mul_comm]
        have p3 : 32768 * 256 ^ (e - 3) ≤ m * 256 ^ (e - 3) := Nat.mul_le_mul_right _ (by omega)
        have p4 : (t / 256 ^ k + 1) * 256 ^ k ≤ 8388608 * 256 ^ k := Nat.mul_le_mul_right _ (by omega)
        omega
  · have hc : 3 ≤ 32 ∧ 32 ≤ 32 ∧ 32768 ≤ 8388607 ∧ 8388607 ≤ 8388607 := by omega
    rw [c]
    refine ⟨isC_mk hc, ?_, fun x hx _ => by have := isC_le hx; omega⟩
    rw [tv_mk hc]
    have hp : 0 < (256 : Nat) ^ 29 := Nat.pos_of_ne_zero (by simp)
    have h1 := Nat.div_mul_le_self t (256 ^ 29)
    have h2 := Nat.mul_le_mul_right (256 ^ 29) (show 8388607 ≤ t / 256 ^ 29 by omega)
    exact Nat.le_trans h2 h1
theorem tv_ge {b : Nat} (h : isC b = true) : 32768 ≤ tv b := by
  obtain ⟨e, m, rfl, h1⟩ := isC_get h
  rw [tv_mk h1]
  have hp : 0 < (256 : Nat) ^ (e - 3) := Nat.pos_of_ne_zero (by simp)
  have := Nat.mul_le_mul h1.2.2.1 (show 1 ≤ (256 : Nat) ^ (e - 3) by omega)
  omega
theorem cN_tv {b : Nat} (h : isC b = true) : cN (tv b) = b := by
  obtain ⟨h1, h2, h3⟩ := cN_spec (tv_ge h)
  have h4 := h3 b h (Nat.le_refl _)
  have h5 := (tv_le_iff h1 h).2 h2
  omega
theorem cN_lt (t : Nat) : cN t < 4294967296 := by
  by_cases h : t < 32768
  · rw [cN_low h]; omega
  · exact isC_lt (cN_spec (by omega)).1
theorem isC_cN (t : Nat) : isC (cN t) = decide (32768 ≤ t) := by
  by_cases h : 32768 ≤ t
  · rw [(cN_spec h).1]; simp [h]
  · rw [cN_low (by omega), isC_zero]; simp [h]
theorem cN_mono {t u : Nat} (h : t ≤ u) : cN t ≤ cN u := by
  by_cases h1 : t < 32768
  · rw [cN_low h1]; omega
  · obtain ⟨a, b, _⟩ := cN_spec (t := t) (by omega)
    exact (cN_spec (t := u) (by omega)).2.2 _ a (by omega)
/-- the reference's answer behind j numbers of E -/
def rO (t : Nat) : Nat → Nat
  | 0 => 0
  | j + 1 => if 8388607 < t / 256 ^ j then 16777216 * (3 + j) + 8388607 else if 32768 ≤ t / 256 ^ j then 16777216 * (3 + j) + t / 256 ^ j else rO t j
theorem rO_cN (t : Nat) : rO t 30 = cN t := by
  by_cases h : t < 32768
  · rw [cN_low h]
    have : ∀ j, rO t j = 0 := fun j => by
      induction j with
      | zero => rfl
      | succ j ih =>
        have := Nat.div_le_self t (256 ^ j)
        unfold rO
        rw [if_neg (by omega), if_neg (by omega)]
        exact ih
    exact this 30
  · unfold cN
    rw [if_neg h]
    obtain ⟨k, hk, ⟨a, b, c⟩ | ⟨a, b, c⟩⟩ := cG_spec 29 3 t (by omega)
    · rw [c]
      have hlow : ∀ d, rO t (k + 1 + d) = 16777216 * (3 + k) + t / 256 ^ k := fun d => by
        induction d with
        | zero =>
          show rO t (k + 1) = _
          unfold rO
          rw [if_neg (by omega), if_pos b]
        | succ d ih =>
          have e1 : t / 256 ^ (k + 1 + d) = t / 256 ^ k / 256 ^ (d + 1) := by rw [Nat.div_div_eq_div_mul, ← Nat.pow_add]; congr 2; omega
          have e2 : t / 256 ^ k / 256 ^ (d + 1) ≤ t / 256 ^ k / 256 := by
            rw [Nat.pow_succ, Nat.mul_comm, ← Nat.div_div_eq_div_mul]
            exact Nat.div_le_self _ _
          show rO t (k + 1 + d + 1) = _
          unfold rO
          rw [if_neg (by omega), if_neg (by omega)]
          exact ih
      have := hlow (29 - k)
      rw [show k + 1 + (29 - k) = 30 by omega] at this
      exact this
    · rw [c]
      show rO t (29 + 1) = _
      unfold rO
      rw [if_pos b]

/-! ### work -/
def wkV (t : Nat) : Nat := if t + 1 < Big then Big / (t + 1) % Big else 1
theorem wk_prog {t : Nat} (h : t + 1 < Big) : ((Big - (t + 1)) / (t + 1) + 1) % Big = wkV t := by
  unfold wkV
  rw [if_pos h]
  have e : Big = (Big - (t + 1)) + (t + 1) := by omega
  have e2 : Big / (t + 1) = (Big - (t + 1)) / (t + 1) + 1 := by
    conv => lhs; rw [e]
    exact Nat.add_div_right _ (by omega)
  rw [e2]
theorem wk_ref {t : Nat} (h : t + 1 < Big) : (if (Big - 1) % (t + 1) + 1 = t + 1 then ((Big - 1) / (t + 1) + 1) % Big else (Big - 1) / (t + 1)) = wkV t := by
  unfold wkV
  rw [if_pos h]
  have hB : Big = (Big - 1) + 1 := by have := Big_pos; omega
  have h1 := Nat.div_add_mod (Big - 1) (t + 1)
  have h2 := Nat.mod_lt (Big - 1) (show 0 < t + 1 by omega)
  generalize hq : (Big - 1) / (t + 1) = q at *
  generalize hr : (Big - 1) % (t + 1) = r at *
  by_cases hx : r + 1 = t + 1
  · rw [if_pos hx]
    have : Big / (t + 1) = q + 1 := by
      rw [show Big = (t + 1) * (q + 1) by rw [Nat.mul_add]; omega]
      exact Nat.mul_div_cancel_left _ (by omega)
    rw [this]
  · rw [if_neg hx]
    have : Big / (t + 1) = q := by
      rw [show Big = (t + 1) * q + (r + 1) by omega, Nat.mul_add_div (by omega)]
      rw [Nat.div_eq_of_lt (by omega)]
      rfl
    rw [this]
    by_cases ht : t = 0
    · subst ht; omega
    · have h3 : q < Big := by
        have : q * 1 ≤ (t + 1) * q := by rw [Nat.mul_comm (t + 1)]; exact Nat.mul_le_mul_left _ (by omega)
        omega
      rw [Nat.mod_eq_of_lt h3]
theorem wkV_lt (t : Nat) : wkV t < Big := by
  unfold wkV
  split
  · exact Nat.mod_lt _ Big_pos
  · unfold Big; omega

/-! ### levels -/
/-- how many levels, of the first k, are reached: one more than the greatest -/
def lvC (n t : Nat) : Nat → Nat
  | 0 => 0
  | k + 1 => if n ≤ t / 2 ^ k then k + 1 else lvC n t k
theorem half_le (t : Nat) {i j : Nat} (h : i ≤ j) : t / 2 ^ j ≤ t / 2 ^ i := Nat.div_le_div_left (Nat.pow_le_pow_right (by omega) h) (Nat.pos_of_ne_zero (by simp))
theorem lvC_le (n t : Nat) : ∀ k, lvC n t k ≤ k
  | 0 => Nat.le_refl _
  | k + 1 => by
    unfold lvC
    split
    · omega
    · have := lvC_le n t k; omega
theorem lvC_iff (n t : Nat) : ∀ (k j : Nat), j < k → (j < lvC n t k ↔ n ≤ t / 2 ^ j)
  | 0, j, h => by omega
  | k + 1, j, h => by
    unfold lvC
    by_cases h1 : n ≤ t / 2 ^ k
    · rw [if_pos h1]
      have := half_le t (show j ≤ k by omega)
      exact ⟨fun _ => by omega, fun _ => h⟩
    · rw [if_neg h1]
      by_cases hj : j = k
      · subst hj
        have := lvC_le n t j
        exact ⟨fun h => by omega, fun h => absurd h h1⟩
      · exact lvC_iff n t k j (by omega)
/-- the level -/
def lvI (n t : Nat) : Int := (lvC n t 32 : Int) - 1
theorem lvI_le (n t : Nat) : -1 ≤ lvI n t ∧ lvI n t ≤ 31 := by have := lvC_le n t 32; unfold lvI; omega
theorem lvI_iff (n t j : Nat) (h : j ≤ 31) : ((j : Int) ≤ lvI n t) ↔ n ≤ t / 2 ^ j := by
  have := lvC_iff n t 32 j (by omega)
  unfold lvI
  rw [← this]
  omega
/-- the search from below ends at the first level that is not reached -/
theorem lvC_stop {n t k : Nat} (hk : k ≤ 32) (hall : ∀ j, j < k → n ≤ t / 2 ^ j) (hstop : k = 32 ∨ ¬ n ≤ t / 2 ^ k) : lvC n t 32 = k := by
  have h1 := lvC_le n t 32
  rcases Nat.lt_trichotomy (lvC n t 32) k with h | h | h
  · have := (lvC_iff n t 32 (lvC n t 32) (by omega)).2 (hall _ h)
    omega
  · exact h
  · rcases hstop with h2 | h2
    · omega
    · exact absurd ((lvC_iff n t 32 k (by omega)).1 h) h2
theorem lvI_mono {n n' t t' : Nat} (hn : n' ≤ n) (ht : t ≤ t') : lvI n t ≤ lvI n' t' := by
  have h1 := lvI_le n t
  have h2 := lvI_le n' t'
  refine Classical.byContradiction fun hc => ?_
  obtain ⟨j, hj⟩ : ∃ j : Nat, (j : Int) = lvI n t := ⟨(lvI n t).toNat, by omega⟩
  have h3 := (lvI_iff n t j (by omega)).1 (by omega)
  have h4 : t / 2 ^ j ≤ t' / 2 ^ j := Nat.div_le_div_right ht
  have h5 := (lvI_iff n' t' j (by omega)).2 (by omega)
  omega
theorem lvI_zero (t : Nat) : lvI 0 t = 31 := by
  have h1 := lvI_le 0 t
  have h2 := (lvI_iff 0 t 31 (by omega)).2 (Nat.zero_le _)
  omega
theorem lvI_half (n t : Nat) : (lvI n (t / 2) < 0 → lvI n t ≤ 0) ∧ (0 ≤ lvI n (t / 2) → lvI n t = lvI n (t / 2) + 1 ∨ (lvI n t = 31 ∧ lvI n (t / 2) = 31)) := by
  have h1 := lvI_le n t
  have h2 := lvI_le n (t / 2)
  have hd : ∀ j, t / 2 / 2 ^ j = t / 2 ^ (j + 1) := fun j => by rw [Nat.div_div_eq_div_mul, Nat.pow_succ, Nat.mul_comm]
  have key : ∀ j : Nat, j + 1 ≤ 31 → (((j + 1 : Nat) : Int) ≤ lvI n t ↔ (j : Int) ≤ lvI n (t / 2)) := fun j hj => by
    rw [lvI_iff n t (j + 1) hj, lvI_iff n (t / 2) j (by omega), hd]
  refine ⟨fun h => ?_, fun h => ?_⟩
  · have := key 0 (by omega)
    omega
  · obtain ⟨k, hk⟩ : ∃ k : Nat, (k : Int) = lvI n (t / 2) := ⟨(lvI n (t / 2)).toNat, by omega⟩
    by_cases h31 : k = 31
    · right
      have := key 30 (by omega)
      omega
    · left
      have a1 := key k (by omega)
      by_cases h30 : k = 30
      · omega
      · have a2 := key (k + 1) (by omega)
        omega
end Go.Proofs.Ytdbkbaanppnabaa
