/- Ids told by their places; the bytes of a number. -/
import Derived.Test.YtcombekbeljflaaWalk4
namespace Go.Proofs.Ytcombekbeljflaa
open Go.RowKit

/-- byte i of a number, the highest one first -/
def byteAt (a i : Nat) : Nat := a / 2 ^ (8 * (31 - i)) % 256
theorem byteAt_lt (a i : Nat) : byteAt a i < 256 := Nat.mod_lt _ (by omega)
/-- 32 numbers, told by their places -/
def listF (f : Nat → Int) : List Int := (List.range 32).map f
theorem listF_len (f : Nat → Int) : (listF f).length = 32 := by simp [listF]
theorem listF_get (f : Nat → Int) (i : Nat) (h : i < 32) : (listF f).getD i 0 = f i := by
  unfold listF
  simp [List.getD, h]
def idF (f : Nat → Int) : Array Value := arrB 32 (listF f)
theorem idF_size (f : Nat → Int) : (idF f).size = 32 := arrB_size 32 _ (by rw [listF_len]; omega)
theorem idF_one (f : Nat → Int) : (idF f).all (·.oneCell') = true := arrB_one 32 _
theorem idF_get (f : Nat → Int) (i : Nat) (h : i < 32) : (idF f)[i]? = some (.int .u8 (f i)) := by
  unfold idF
  rw [arrB_get 32 _ i (by rw [listF_len]; omega) h, listF_get f i h]
theorem idF_put (f g : Nat → Int) (j : Nat) (v : Int) (hj : j < 32) (hg : g j = v) (hf : ∀ i, i < 32 → i ≠ j → g i = f i) : (idF f).setIfInBounds j (.int .u8 v) = idF g := by
  unfold idF
  apply arrB_ext
  · rw [listF_len]; omega
  · rw [Array.size_setIfInBounds]; exact idF_size f
  · intro i hi
    rw [Array.getElem?_setIfInBounds, listF_get g i hi]
    by_cases e : j = i
    · subst e
      rw [if_pos rfl, if_pos (by rw [arrB_size 32 _ (by rw [listF_len]; omega)]; exact hj), hg]
    · rw [if_neg e, hf i hi (fun h => e h.symm)]
      exact idF_get f i hi
theorem idF_zero : arrB 32 [] = idF (fun _ => 0) := by
  unfold idF
  apply arrB_ext
  · rw [listF_len]; omega
  · rw [arrB_size 32 [] (by simp)]
  · intro i hi
    rw [listF_get _ i hi, arrB_get 32 [] i (by simp) hi]
    rfl
theorem idF_congr (f g : Nat → Int) (h : ∀ i, i < 32 → f i = g i) : idF f = idF g := by
  unfold idF
  congr 1
  unfold listF
  apply List.map_congr_left
  intro i hi
  exact h i (by simpa using hi)
/-- the bytes of a number -/
def bytesOf (a : Nat) : Nat → Int := fun i => (byteAt a i : Int)
theorem byte_word (a k : Nat) (hk : k < 32) : W a (3 - k / 8) / 2 ^ (8 * (7 - k % 8)) % 256 = byteAt a k := by
  unfold byteAt
  rw [show (256 : Nat) = 2 ^ 8 from rfl]
  apply Nat.eq_of_testBit_eq
  intro i
  rw [Nat.testBit_mod_two_pow, Nat.testBit_mod_two_pow, Nat.testBit_div_two_pow, Nat.testBit_div_two_pow, W_bit]
  by_cases hi : i < 8
  · rw [show 64 * (3 - k / 8) + (i + 8 * (7 - k % 8)) = i + 8 * (31 - k) by omega]
    simp only [show i + 8 * (7 - k % 8) < 64 by omega, decide_true, Bool.true_and]
  · simp only [hi, decide_false, Bool.false_and]
theorem infoId (cs : Array Value) (h : cs.size = 32) : (Try.prog.info? 30).map (·.size) = some cs.size := by rw [h]; kernel_rfl
theorem byte_ref (a i : Nat) (hi : i < 32) : W a (i / 8) / 256 ^ (i % 8) % 256 = byteAt a (31 - i) := by
  have h := byte_word a (31 - i) (by omega)
  rw [show 3 - (31 - i) / 8 = i / 8 by omega, show 8 * (7 - (31 - i) % 8) = 8 * (i % 8) by omega, Nat.pow_mul] at h
  exact h
end Go.Proofs.Ytcombekbeljflaa
