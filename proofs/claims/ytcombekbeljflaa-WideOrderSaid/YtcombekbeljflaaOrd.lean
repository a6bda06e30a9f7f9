/- Numbers are as their bytes are: the order of 32 bytes is that of their numbers; the bytes' number is the number. -/
import Derived.Test.YtcombekbeljflaaOf32
import Derived.Laws.BytesArg
namespace Go.Proofs.Ytcombekbeljflaa
open Go.RowKit

/-- n digits of a number, the highest one first -/
def digs (a : Nat) : Nat → List Nat
  | 0 => []
  | n + 1 => (a / 256 ^ n % 256) :: digs a n
def valD : List Nat → Nat
  | [] => 0
  | x :: xs => x * 256 ^ xs.length + valD xs
theorem digs_len (a n : Nat) : (digs a n).length = n := by
  induction n with
  | zero => rfl
  | succ n ih => simp [digs, ih]
theorem valD_digs (a n : Nat) : valD (digs a n) = a % 256 ^ n := by
  induction n with
  | zero => simp [digs, valD, Nat.mod_one]
  | succ n ih =>
    simp only [digs, valD, digs_len, ih]
    rw [Nat.pow_succ, Nat.mod_mul, Nat.mul_comm, Nat.add_comm]
theorem valD_lt (l : List Nat) (h : ∀ x ∈ l, x < 256) : valD l < 256 ^ l.length := by
  induction l with
  | nil => simp [valD]
  | cons x xs ih =>
    have h1 := h x (by simp)
    have h2 := ih (fun y hy => h y (by simp [hy]))
    simp only [valD, List.length_cons, Nat.pow_succ]
    calc x * 256 ^ xs.length + valD xs < x * 256 ^ xs.length + 256 ^ xs.length := by omega
      _ = (x + 1) * 256 ^ xs.length := by rw [Nat.add_mul, Nat.one_mul]
      _ ≤ 256 * 256 ^ xs.length := Nat.mul_le_mul_right _ (by omega)
      _ = 256 ^ xs.length * 256 := Nat.mul_comm _ _
theorem less_digs : ∀ (l m : List Nat), l.length = m.length → (∀ x ∈ l, x < 256) → (∀ x ∈ m, x < 256) → Go.Op.bytesLess (l.map UInt8.ofNat) (m.map UInt8.ofNat) = decide (valD l < valD m)
  | [], [], _, _, _ => by simp [Go.Op.bytesLess, valD]
  | x :: xs, y :: ys, hl, hx, hy => by
    have ih := less_digs xs ys (by simpa using hl) (fun z hz => hx z (by simp [hz])) (fun z hz => hy z (by simp [hz]))
    have x1 := hx x (by simp)
    have y1 := hy y (by simp)
    have vx := valD_lt xs (fun z hz => hx z (by simp [hz]))
    have vy := valD_lt ys (fun z hz => hy z (by simp [hz]))
    have hl' : xs.length = ys.length := by simpa using hl
    rw [hl'] at vx
    simp only [List.map_cons, Go.Op.bytesLess, ih, valD, hl']
    have e1 : (UInt8.ofNat x < UInt8.ofNat y) ↔ x < y := by
      rw [UInt8.lt_iff_toNat_lt]
      simp [Nat.mod_eq_of_lt x1, Nat.mod_eq_of_lt y1]
    have e2 : (UInt8.ofNat x == UInt8.ofNat y) = decide (x = y) := by
      rw [Bool.eq_iff_iff]
      simp only [beq_iff_eq, decide_eq_true_eq]
      constructor
      · intro h
        have := congrArg UInt8.toNat h
        simpa [Nat.mod_eq_of_lt x1, Nat.mod_eq_of_lt y1] using this
      · intro h; rw [h]
    rw [e2]
    rw [Bool.eq_iff_iff]
    simp only [Bool.or_eq_true, Bool.and_eq_true, decide_eq_true_eq, e1]
    generalize 256 ^ ys.length = P at *
    rcases Nat.lt_trichotomy x y with h | h | h
    · have : (x + 1) * P ≤ y * P := Nat.mul_le_mul_right _ h
      rw [Nat.add_mul, Nat.one_mul] at this
      exact ⟨fun _ => by omega, fun _ => .inl h⟩
    · subst h
      exact ⟨fun c => by rcases c with c | c <;> omega, fun c => .inr ⟨rfl, by omega⟩⟩
    · have : (y + 1) * P ≤ x * P := Nat.mul_le_mul_right _ h
      rw [Nat.add_mul, Nat.one_mul] at this
      exact ⟨fun c => by rcases c with c | c <;> omega, fun c => by omega⟩
theorem bytes_digs (a : Nat) : ∀ n, (List.range n).map (fun i => a / 2 ^ (8 * (n - 1 - i)) % 256) = digs a n
  | 0 => rfl
  | n + 1 => by
    rw [List.range_succ_eq_map, List.map_cons, List.map_map, digs, ← bytes_digs a n]
    congr 1
    · rw [show n + 1 - 1 - 0 = n by omega, Nat.pow_mul]
    · apply List.map_congr_left
      intro i _
      simp only [Function.comp]
      rw [show n + 1 - 1 - (i + 1) = n - 1 - i by omega]
theorem digs_lt (a n : Nat) : ∀ x ∈ digs a n, x < 256 := by
  induction n with
  | zero => intro x h; cases h
  | succ n ih =>
    intro x h
    rcases List.mem_cons.1 h with rfl | h
    · exact Nat.mod_lt _ (by omega)
    · exact ih x h
theorem listF_digs (a : Nat) : (listF (bytesOf a)).map (fun n => UInt8.ofNat n.toNat) = (digs a 32).map UInt8.ofNat := by
  rw [← bytes_digs a 32]
  unfold listF bytesOf byteAt
  rw [List.map_map, List.map_map]
  rfl
theorem less_numbers (a b : Nat) (ha : a < Big) (hb : b < Big) : Go.Op.bytesLess ((listF (bytesOf a)).map (fun n => UInt8.ofNat n.toNat)) ((listF (bytesOf b)).map (fun n => UInt8.ofNat n.toNat)) = decide (a < b) := by
  rw [listF_digs, listF_digs, less_digs _ _ (by rw [digs_len, digs_len]) (digs_lt a 32) (digs_lt b 32), valD_digs, valD_digs]
  have e : (256 : Nat) ^ 32 = Big := by decide +kernel
  rw [e, Nat.mod_eq_of_lt ha, Nat.mod_eq_of_lt hb]
theorem acc_word (a p j : Nat) (hp : p < 4) (hj : j ≤ 8) : wordAcc (byteAt a) p (8 * (3 - p) + j) = W a p / 256 ^ (8 - j) := by
  induction j with
  | zero =>
    rw [Nat.add_zero, wordAcc_before _ p _ hp (by omega)]
    exact (Nat.div_eq_of_lt (W_lt a p)).symm
  | succ j ih =>
    rw [← Nat.add_assoc, wordAcc, if_pos (by omega), ih (by omega), ← byte_word a (8 * (3 - p) + j) (by omega)]
    rw [show 3 - (8 * (3 - p) + j) / 8 = p by omega, show 8 * (7 - (8 * (3 - p) + j) % 8) = 8 * (7 - j) by omega, Nat.pow_mul, show (2 : Nat) ^ 8 = 256 from rfl]
    rw [show 8 - j = (7 - j) + 1 by omega, show 8 - (j + 1) = 7 - j by omega, Nat.pow_succ, ← Nat.div_div_eq_div_mul]
    omega
theorem acc_all (a p : Nat) (hp : p < 4) : wordAcc (byteAt a) p 32 = W a p := by
  have h := wordAcc_after (byteAt a) p (32 - (8 * (3 - p) + 8)) hp (by omega)
  rw [show 8 * (3 - p) + 8 + (32 - (8 * (3 - p) + 8)) = 32 by omega, acc_word a p 8 hp (by omega)] at h
  rw [h]
  simp
theorem num_bytes (a : Nat) (ha : a < Big) : numOf (byteAt a) = a := by
  apply wl_inj (numOf_lt _ (byteAt_lt a)) ha
  unfold numOf
  rw [acc_all a 0 (by omega), acc_all a 1 (by omega), acc_all a 2 (by omega), acc_all a 3 (by omega), wl_mk4 _ _ _ _ (W_lt a 0) (W_lt a 1) (W_lt a 2) (W_lt a 3), wl_W]
end Go.Proofs.Ytcombekbeljflaa
