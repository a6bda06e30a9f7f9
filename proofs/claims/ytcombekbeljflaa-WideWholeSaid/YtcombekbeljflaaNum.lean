/- Numbers below 2^256 as four words: plain facts. -/
import Derived.Test.YtcombekbeljflaaWalk2
namespace Go.Proofs.Ytcombekbeljflaa
open Go

def Big : Nat := 115792089237316195423570985008687907853269984665640564039457584007913129639936
theorem Big_eq : Big = 2 ^ 256 := by decide +kernel
/-- the four words of a number -/
def wl (n : Nat) : List Int := [((n % 18446744073709551616 : Nat) : Int), ((n / 18446744073709551616 % 18446744073709551616 : Nat) : Int), ((n / 340282366920938463463374607431768211456 % 18446744073709551616 : Nat) : Int), ((n / 6277101735386680763835789423207666416102355444464034512896 % 18446744073709551616 : Nat) : Int)]
theorem wl_len (n : Nat) : (wl n).length = 4 := rfl
theorem wl_words (n : Nat) : Words (wl n) := by
  intro k
  rcases k with _ | _ | _ | _ | k
  · simp only [wl, List.getD_cons_zero]; omega
  · simp only [wl, List.getD_cons_zero, List.getD_cons_succ]; omega
  · simp only [wl, List.getD_cons_zero, List.getD_cons_succ]; omega
  · simp only [wl, List.getD_cons_zero, List.getD_cons_succ]; omega
  · simp [wl]
/-- the number of four words -/
def mk4 (a b c d : Nat) : Nat := a + 18446744073709551616 * b + 340282366920938463463374607431768211456 * c + 6277101735386680763835789423207666416102355444464034512896 * d
theorem wl_mk4 (a b c d : Nat) (ha : a < 18446744073709551616) (hb : b < 18446744073709551616) (hc : c < 18446744073709551616) (hd : d < 18446744073709551616) : wl (mk4 a b c d) = [(a : Int), (b : Int), (c : Int), (d : Int)] := by
  have e0 : mk4 a b c d % 18446744073709551616 = a := by unfold mk4; omega
  have e1 : mk4 a b c d / 18446744073709551616 % 18446744073709551616 = b := by unfold mk4; omega
  have e2 : mk4 a b c d / 340282366920938463463374607431768211456 % 18446744073709551616 = c := by unfold mk4; omega
  have e3 : mk4 a b c d / 6277101735386680763835789423207666416102355444464034512896 % 18446744073709551616 = d := by unfold mk4; omega
  unfold wl
  rw [e0, e1, e2, e3]
theorem mk4_lt (a b c d : Nat) (ha : a < 18446744073709551616) (hb : b < 18446744073709551616) (hc : c < 18446744073709551616) (hd : d < 18446744073709551616) : mk4 a b c d < Big := by
  unfold mk4 Big; omega
theorem split4 (n : Nat) (h : n < Big) : ∃ a b c d : Nat, n = mk4 a b c d ∧ a < 18446744073709551616 ∧ b < 18446744073709551616 ∧ c < 18446744073709551616 ∧ d < 18446744073709551616 := by
  refine ⟨n % 18446744073709551616, n / 18446744073709551616 % 18446744073709551616, n / 340282366920938463463374607431768211456 % 18446744073709551616, n / 6277101735386680763835789423207666416102355444464034512896, ?_, by omega, by omega, by omega, by unfold Big at h; omega⟩
  unfold mk4; omega
theorem wl_of (xs : List Int) (hl : xs.length = 4) (hw : Words xs) : ∃ n, n < Big ∧ xs = wl n := by
  match xs, hl with
  | [a, b, c, d], _ =>
    have h0 := hw 0
    have h1 := hw 1
    have h2 := hw 2
    have h3 := hw 3
    simp only [List.getD_cons_zero, List.getD_cons_succ] at h0 h1 h2 h3
    obtain ⟨a, rfl⟩ := Int.eq_ofNat_of_zero_le h0.1
    obtain ⟨b, rfl⟩ := Int.eq_ofNat_of_zero_le h1.1
    obtain ⟨c, rfl⟩ := Int.eq_ofNat_of_zero_le h2.1
    obtain ⟨d, rfl⟩ := Int.eq_ofNat_of_zero_le h3.1
    exact ⟨mk4 a b c d, mk4_lt a b c d (by omega) (by omega) (by omega) (by omega), (wl_mk4 a b c d (by omega) (by omega) (by omega) (by omega)).symm⟩
theorem wl_inj {m n : Nat} (hm : m < Big) (hn : n < Big) (h : wl m = wl n) : m = n := by
  obtain ⟨a, b, c, d, rfl, ha, hb, hc, hd⟩ := split4 m hm
  obtain ⟨a', b', c', d', rfl, ha', hb', hc', hd'⟩ := split4 n hn
  rw [wl_mk4 a b c d ha hb hc hd, wl_mk4 a' b' c' d' ha' hb' hc' hd'] at h
  simp only [List.cons.injEq, Int.ofNat_inj, and_true] at h
  obtain ⟨rfl, rfl, rfl, rfl⟩ := h
  rfl
theorem add_words (m n : Nat) (hm : m < Big) (hn : n < Big) : addL (wl m) (wl n) 4 = wl ((m + n) % Big) ∧ (addC (wl m) (wl n) 4 == 0) = decide (m + n < Big) := by
  obtain ⟨a, b, c, d, rfl, ha, hb, hc, hd⟩ := split4 m hm
  obtain ⟨a', b', c', d', rfl, ha', hb', hc', hd'⟩ := split4 n hn
  rw [wl_mk4 a b c d ha hb hc hd, wl_mk4 a' b' c' d' ha' hb' hc' hd']
  simp only [addL, addC, adc, adk, List.getD_cons_zero, List.getD_cons_succ, List.nil_append, List.cons_append]
  have k0 : ((a : Int) + a' + 0) / 18446744073709551616 = (((a + a') / 18446744073709551616 : Nat) : Int) := by omega
  have s0 : ((a : Int) + a' + 0) % 18446744073709551616 = (((a + a') % 18446744073709551616 : Nat) : Int) := by omega
  rw [k0, s0]
  have l0 : (a + a') / 18446744073709551616 ≤ 1 := by omega
  have v0 : a + a' = 18446744073709551616 * ((a + a') / 18446744073709551616) + (a + a') % 18446744073709551616 := by omega
  have w0 : (a + a') % 18446744073709551616 < 18446744073709551616 := by omega
  generalize (a + a') / 18446744073709551616 = q0 at *
  generalize (a + a') % 18446744073709551616 = r0 at *
  have k1 : ((b : Int) + b' + q0) / 18446744073709551616 = (((b + b' + q0) / 18446744073709551616 : Nat) : Int) := by omega
  have s1 : ((b : Int) + b' + q0) % 18446744073709551616 = (((b + b' + q0) % 18446744073709551616 : Nat) : Int) := by omega
  rw [k1, s1]
  have l1 : (b + b' + q0) / 18446744073709551616 ≤ 1 := by omega
  have v1 : b + b' + q0 = 18446744073709551616 * ((b + b' + q0) / 18446744073709551616) + (b + b' + q0) % 18446744073709551616 := by omega
  have w1 : (b + b' + q0) % 18446744073709551616 < 18446744073709551616 := by omega
  generalize (b + b' + q0) / 18446744073709551616 = q1 at *
  generalize (b + b' + q0) % 18446744073709551616 = r1 at *
  have k2 : ((c : Int) + c' + q1) / 18446744073709551616 = (((c + c' + q1) / 18446744073709551616 : Nat) : Int) := by omega
  have s2 : ((c : Int) + c' + q1) % 18446744073709551616 = (((c + c' + q1) % 18446744073709551616 : Nat) : Int) := by omega
  rw [k2, s2]
  have l2 : (c + c' + q1) / 18446744073709551616 ≤ 1 := by omega
  have v2 : c + c' + q1 = 18446744073709551616 * ((c + c' + q1) / 18446744073709551616) + (c + c' + q1) % 18446744073709551616 := by omega
  have w2 : (c + c' + q1) % 18446744073709551616 < 18446744073709551616 := by omega
  generalize (c + c' + q1) / 18446744073709551616 = q2 at *
  generalize (c + c' + q1) % 18446744073709551616 = r2 at *
  have k3 : ((d : Int) + d' + q2) / 18446744073709551616 = (((d + d' + q2) / 18446744073709551616 : Nat) : Int) := by omega
  have s3 : ((d : Int) + d' + q2) % 18446744073709551616 = (((d + d' + q2) % 18446744073709551616 : Nat) : Int) := by omega
  rw [k3, s3]
  have l3 : (d + d' + q2) / 18446744073709551616 ≤ 1 := by omega
  have v3 : d + d' + q2 = 18446744073709551616 * ((d + d' + q2) / 18446744073709551616) + (d + d' + q2) % 18446744073709551616 := by omega
  have w3 : (d + d' + q2) % 18446744073709551616 < 18446744073709551616 := by omega
  generalize (d + d' + q2) / 18446744073709551616 = q3 at *
  generalize (d + d' + q2) % 18446744073709551616 = r3 at *
  clear k0 k1 k2 k3 s0 s1 s2 s3
  have hs : mk4 a b c d + mk4 a' b' c' d' = mk4 r0 r1 r2 r3 + Big * q3 := by unfold mk4 Big; omega
  have hlt := mk4_lt r0 r1 r2 r3 w0 w1 w2 w3
  have hmod : (mk4 a b c d + mk4 a' b' c' d') % Big = mk4 r0 r1 r2 r3 := by rw [hs, Nat.add_mul_mod_self_left, Nat.mod_eq_of_lt hlt]
  rw [hmod, wl_mk4 r0 r1 r2 r3 w0 w1 w2 w3, hs]
  refine ⟨rfl, ?_⟩
  rw [Bool.eq_iff_iff]
  simp only [beq_iff_eq, decide_eq_true_eq]
  have : q3 = 0 ∨ q3 = 1 := by omega
  rcases this with rfl | rfl
  · simp [hlt]
  · simp
theorem sub_words (m n : Nat) (hm : m < Big) (hn : n < Big) : subL (wl m) (wl n) 4 = wl ((m + (Big - n)) % Big) ∧ (subC (wl m) (wl n) 4 == 0) = decide (n ≤ m) := by
  obtain ⟨a, b, c, d, rfl, ha, hb, hc, hd⟩ := split4 m hm
  obtain ⟨a', b', c', d', rfl, ha', hb', hc', hd'⟩ := split4 n hn
  rw [wl_mk4 a b c d ha hb hc hd, wl_mk4 a' b' c' d' ha' hb' hc' hd']
  simp only [subL, subC, sbc, List.getD_cons_zero, List.getD_cons_succ, List.nil_append, List.cons_append]
  have step : ∀ (x y q : Nat), x < 18446744073709551616 → y < 18446744073709551616 → q ≤ 1 → ∃ r q' : Nat, ((x : Int) - y - q) % 18446744073709551616 = (r : Int) ∧ sbk x y q = (q' : Int) ∧ r < 18446744073709551616 ∧ q' ≤ 1 ∧ x + 18446744073709551616 * q' = y + q + r := by
    intro x y q hx hy hq
    by_cases h : (x : Int) < y + q
    · exact ⟨x + 18446744073709551616 - y - q, 1, by omega, by simp [sbk, h], by omega, by omega, by omega⟩
    · exact ⟨x - y - q, 0, by omega, by simp [sbk, h], by omega, by omega, by omega⟩
  obtain ⟨r0, q0, e0, f0, w0, l0, v0⟩ := step a a' 0 ha ha' (by omega)
  rw [show ((0 : Nat) : Int) = 0 from rfl] at e0 f0
  rw [e0, f0]
  obtain ⟨r1, q1, e1, f1, w1, l1, v1⟩ := step b b' q0 hb hb' l0
  rw [e1, f1]
  obtain ⟨r2, q2, e2, f2, w2, l2, v2⟩ := step c c' q1 hc hc' l1
  rw [e2, f2]
  obtain ⟨r3, q3, e3, f3, w3, l3, v3⟩ := step d d' q2 hd hd' l2
  rw [e3, f3]
  clear step e0 e1 e2 e3 f0 f1 f2 f3
  have hs : mk4 a b c d + Big * q3 = mk4 a' b' c' d' + mk4 r0 r1 r2 r3 := by unfold mk4 Big; omega
  have hlt := mk4_lt r0 r1 r2 r3 w0 w1 w2 w3
  have hmod : (mk4 a b c d + (Big - mk4 a' b' c' d')) % Big = mk4 r0 r1 r2 r3 := by
    have : q3 = 0 ∨ q3 = 1 := by omega
    rcases this with rfl | rfl
    · rw [show mk4 a b c d + (Big - mk4 a' b' c' d') = mk4 r0 r1 r2 r3 + Big by omega, Nat.add_mod_right, Nat.mod_eq_of_lt hlt]
    · rw [show mk4 a b c d + (Big - mk4 a' b' c' d') = mk4 r0 r1 r2 r3 by omega, Nat.mod_eq_of_lt hlt]
  rw [hmod, wl_mk4 r0 r1 r2 r3 w0 w1 w2 w3]
  refine ⟨rfl, ?_⟩
  rw [Bool.eq_iff_iff]
  simp only [beq_iff_eq, decide_eq_true_eq]
  have : q3 = 0 ∨ q3 = 1 := by omega
  rcases this with rfl | rfl
  · simp; omega
  · simp; omega
end Go.Proofs.Ytcombekbeljflaa
