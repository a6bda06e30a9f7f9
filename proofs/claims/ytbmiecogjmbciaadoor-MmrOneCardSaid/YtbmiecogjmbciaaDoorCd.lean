/- Part of a proof. -/
import Derived.Test.YtbmiecogjmbciaaDoorCc
import Derived.Laws.Bits64b
import Derived.ChangeKeysEq
import Derived.WalkKit
import Derived.Great.FillDense
import Derived.Laws.StructEq
import Derived.Laws.OwnMore
import Derived.Great.BuildSlice
namespace Go.Proofs.YtbmiecogjmbciaaDoor
set_option maxRecDepth 8000
open Go

def Big : Nat := 115792089237316195423570985008687907853269984665640564039457584007913129639936
/-- the four words of a number -/
def wl (n : Nat) : List Int := [((n % 18446744073709551616 : Nat) : Int), ((n / 18446744073709551616 % 18446744073709551616 : Nat) : Int), ((n / 340282366920938463463374607431768211456 % 18446744073709551616 : Nat) : Int), ((n / 6277101735386680763835789423207666416102355444464034512896 % 18446744073709551616 : Nat) : Int)]
theorem wl_len (n : Nat) : (wl n).length = 4 := rfl
theorem wl_words (n : Nat) : Words (wl n) := by
  intro k
  rcases k with _ | _ | _ | _ | k
  · simp only [wl, List.getD_cons_zero]; omega
  · simp only [wl, List.getD_cons_zero, List.getD_cons_succ]; omega
  · simp only [wl, List.getD_cons_zero, List.getD_cons_succ]; omega
  · simp only [wl, List.getD_cons_zero, List.getD_cons_succ]; omega
  · simp [wl]
/-- the number of four words -/
def mk4 (a b c d : Nat) : Nat := a + 18446744073709551616 * b + 340282366920938463463374607431768211456 * c + 6277101735386680763835789423207666416102355444464034512896 * d
theorem wl_mk4 (a b c d : Nat) (ha : a < 18446744073709551616) (hb : b < 18446744073709551616) (hc : c < 18446744073709551616) (hd : d < 18446744073709551616) : wl (mk4 a b c d) = [(a : Int), (b : Int), (c : Int), (d : Int)] := by
  have e0 : mk4 a b c d % 18446744073709551616 = a := by unfold mk4; omega
  have e1 : mk4 a b c d / 18446744073709551616 % 18446744073709551616 = b := by unfold mk4; omega
  have e2 : mk4 a b c d / 340282366920938463463374607431768211456 % 18446744073709551616 = c := by unfold mk4; omega
  have e3 : mk4 a b c d / 6277101735386680763835789423207666416102355444464034512896 % 18446744073709551616 = d := by unfold mk4; omega
  unfold wl
  rw [e0, e1, e2, e3]
theorem mk4_lt (a b c d : Nat) (ha : a < 18446744073709551616) (hb : b < 18446744073709551616) (hc : c < 18446744073709551616) (hd : d < 18446744073709551616) : mk4 a b c d < Big := by
  unfold mk4 Big; omega
theorem split4 (n : Nat) (h : n < Big) : ∃ a b c d : Nat, n = mk4 a b c d ∧ a < 18446744073709551616 ∧ b < 18446744073709551616 ∧ c < 18446744073709551616 ∧ d < 18446744073709551616 := by
  refine ⟨n % 18446744073709551616, n / 18446744073709551616 % 18446744073709551616, n / 340282366920938463463374607431768211456 % 18446744073709551616, n / 6277101735386680763835789423207666416102355444464034512896, ?_, by omega, by omega, by omega, by unfold Big at h; omega⟩
  unfold mk4; omega
theorem wl_of (xs : List Int) (hl : xs.length = 4) (hw : Words xs) : ∃ n, n < Big ∧ xs = wl n := by
  match xs, hl with
  | [a, b, c, d], _ =>
    have h0 := hw 0
    have h1 := hw 1
    have h2 := hw 2
    have h3 := hw 3
    simp only [List.getD_cons_zero, List.getD_cons_succ] at h0 h1 h2 h3
    obtain ⟨a, rfl⟩ := Int.eq_ofNat_of_zero_le h0.1
    obtain ⟨b, rfl⟩ := Int.eq_ofNat_of_zero_le h1.1
    obtain ⟨c, rfl⟩ := Int.eq_ofNat_of_zero_le h2.1
    obtain ⟨d, rfl⟩ := Int.eq_ofNat_of_zero_le h3.1
    exact ⟨mk4 a b c d, mk4_lt a b c d (by omega) (by omega) (by omega) (by omega), (wl_mk4 a b c d (by omega) (by omega) (by omega) (by omega)).symm⟩
theorem wl_inj {m n : Nat} (hm : m < Big) (hn : n < Big) (h : wl m = wl n) : m = n := by
  obtain ⟨a, b, c, d, rfl, ha, hb, hc, hd⟩ := split4 m hm
  obtain ⟨a', b', c', d', rfl, ha', hb', hc', hd'⟩ := split4 n hn
  rw [wl_mk4 a b c d ha hb hc hd, wl_mk4 a' b' c' d' ha' hb' hc' hd'] at h
  simp only [List.cons.injEq, Int.ofNat_inj, and_true] at h
  obtain ⟨rfl, rfl, rfl, rfl⟩ := h
  rfl
theorem add_words (m n : Nat) (hm : m < Big) (hn : n < Big) : addL (wl m) (wl n) 4 = wl ((m + n) % Big) ∧ (addC (wl m) (wl n) 4 == 0) = decide (m + n < Big) := by
  obtain ⟨a, b, c, d, rfl, ha, hb, hc, hd⟩ := split4 m hm
  obtain ⟨a', b', c', d', rfl, ha', hb', hc', hd'⟩ := split4 n hn
  rw [wl_mk4 a b c d ha hb hc hd, wl_mk4 a' b' c' d' ha' hb' hc' hd']
  simp only [addL, addC, adc, adk, List.getD_cons_zero, List.getD_cons_succ, List.nil_append, List.cons_append]
  have k0 : ((a : Int) + a' + 0) / 18446744073709551616 = (((a + a') / 18446744073709551616 : Nat) : Int) := by omega
  have s0 : ((a : Int) + a' + 0) % 18446744073709551616 = (((a + a') % 18446744073709551616 : Nat) : Int) := by omega
  rw [k0, s0]
  have l0 : (a + a') / 18446744073709551616 ≤ 1 := by omega
  have v0 : a + a' = 18446744073709551616 * ((a + a') / 18446744073709551616) + (a + a') % 18446744073709551616 := by omega
  have w0 : (a + a') % 18446744073709551616 < 18446744073709551616 := by omega
  generalize (a + a') / 18446744073709551616 = q0 at *
  generalize (a + a') % 18446744073709551616 = r0 at *
  have k1 : ((b : Int) + b' + q0) / 18446744073709551616 = (((b + b' + q0) / 18446744073709551616 : Nat) : Int) := by omega
  have s1 : ((b : Int) + b' + q0) % 18446744073709551616 = (((b + b' + q0) % 18446744073709551616 : Nat) : Int) := by omega
  rw [k1, s1]
  have l1 : (b + b' + q0) / 18446744073709551616 ≤ 1 := by omega
  have v1 : b + b' + q0 = 18446744073709551616 * ((b + b' + q0) / 18446744073709551616) + (b + b' + q0) % 18446744073709551616 := by omega
  have w1 : (b + b' + q0) % 18446744073709551616 < 18446744073709551616 := by omega
  generalize (b + b' + q0) / 18446744073709551616 = q1 at *
  generalize (b + b' + q0) % 18446744073709551616 = r1 at *
  have k2 : ((c : Int) + c' + q1) / 18446744073709551616 = (((c + c' + q1) / 18446744073709551616 : Nat) : Int) := by omega
  have s2 : ((c : Int) + c' + q1) % 18446744073709551616 = (((c + c' + q1) % 18446744073709551616 : Nat) : Int) := by omega
  rw [k2, s2]
  have l2 : (c + c' + q1) / 18446744073709551616 ≤ 1 := by omega
  have v2 : c + c' + q1 = 18446744073709551616 * ((c + c' + q1) / 18446744073709551616) + (c + c' + q1) % 18446744073709551616 := by omega
  have w2 : (c + c' + q1) % 18446744073709551616 < 18446744073709551616 := by omega
  generalize (c + c' + q1) / 18446744073709551616 = q2 at *
  generalize (c + c' + q1) % 18446744073709551616 = r2 at *
  have k3 : ((d : Int) + d' + q2) / 18446744073709551616 = (((d + d' + q2) / 18446744073709551616 : Nat) : Int) := by omega
  have s3 : ((d : Int) + d' + q2) % 18446744073709551616 = (((d + d' + q2) % 18446744073709551616 : Nat) : Int) := by omega
  rw [k3, s3]
  have l3 : (d + d' + q2) / 18446744073709551616 ≤ 1 := by omega
  have v3 : d + d' + q2 = 18446744073709551616 * ((d + d' + q2) / 18446744073709551616) + (d + d' + q2) % 18446744073709551616 := by omega
  have w3 : (d + d' + q2) % 18446744073709551616 < 18446744073709551616 := by omega
  generalize (d + d' + q2) / 18446744073709551616 = q3 at *
  generalize (d + d' + q2) % 18446744073709551616 = r3 at *
  clear k0 k1 k2 k3 s0 s1 s2 s3
  have hs : mk4 a b c d + mk4 a' b' c' d' = mk4 r0 r1 r2 r3 + Big * q3 := by unfold mk4 Big; omega
  have hlt := mk4_lt r0 r1 r2 r3 w0 w1 w2 w3
  have hmod : (mk4 a b c d + mk4 a' b' c' d') % Big = mk4 r0 r1 r2 r3 := by rw [hs, Nat.add_mul_mod_self_left, Nat.mod_eq_of_lt hlt]
  rw [hmod, wl_mk4 r0 r1 r2 r3 w0 w1 w2 w3, hs]
  refine ⟨rfl, ?_⟩
  rw [Bool.eq_iff_iff]
  simp only [beq_iff_eq, decide_eq_true_eq]
  have : q3 = 0 ∨ q3 = 1 := by omega
  rcases this with rfl | rfl
  · simp [hlt]
  · simp
end Go.Proofs.YtbmiecogjmbciaaDoor

namespace Go.Proofs.YtbmiecogjmbciaaDoor
set_option maxRecDepth 8000
open Go

/-- word j of a number -/
def W (m j : Nat) : Nat := m / 2 ^ (64 * j) % 2 ^ 64
theorem W_bit (m j i : Nat) : (W m j).testBit i = (decide (i < 64) && m.testBit (64 * j + i)) := by
  unfold W
  rw [Nat.testBit_mod_two_pow, Nat.testBit_div_two_pow, Nat.add_comm]
theorem W_lt (m j : Nat) : W m j < 18446744073709551616 := by
  unfold W
  exact Nat.mod_lt _ (by decide)
theorem wl_W (m : Nat) : wl m = [(W m 0 : Int), (W m 1 : Int), (W m 2 : Int), (W m 3 : Int)] := by
  unfold wl W
  rw [show 2 ^ (64 * 0) = 1 from rfl, show 2 ^ (64 * 1) = 18446744073709551616 from rfl, show 2 ^ (64 * 2) = 340282366920938463463374607431768211456 from rfl, show 2 ^ (64 * 3) = 6277101735386680763835789423207666416102355444464034512896 from rfl, Nat.div_one]
theorem wl_get (m k : Nat) (hk : k < 4) : (wl m).getD k 0 = (W m k : Int) := by
  rw [wl_W]
  rcases k with _ | _ | _ | _ | k
  all_goals first | rfl | omega
theorem shrW (a r : Nat) : (a : Int) / 2 ^ r = ((a / 2 ^ r : Nat) : Int) := by simp
end Go.Proofs.YtbmiecogjmbciaaDoor

namespace Go.Proofs.YtbmiecogjmbciaaDoor
set_option maxRecDepth 8000
open Go.RowKit

/-- the cells of a number -/
def wcs (n : Nat) : Array Value := arrW 4 (wl n)
theorem wc_size (n : Nat) : (wcs n).size = 4 := arrW_size 4 _ (by simp [wl_len])
theorem wc_one (n : Nat) : (wcs n).all (·.oneCell') = true := arrW_one 4 _
theorem wc_info (n : Nat) : (Tryd.prog.info? 27).map (·.size) = some (wcs n).size := infoW _ (wc_size n)
theorem wc_get (n k : Nat) (hk : k < 4) : (wcs n)[k]? = some (.int .u64 (W n k)) := by
  unfold wcs
  rw [arrW_get 4 _ k (by simp [wl_len]) hk, wl_get n k hk]
theorem wc_small (n : Nat) (h : n < 18446744073709551616) : wcs n = arrW 4 [(n : Int), 0, 0, 0] := by
  unfold wcs
  have := wl_mk4 n 0 0 0 h (by decide) (by decide) (by decide)
  rw [show mk4 n 0 0 0 = n by unfold mk4; omega] at this
  rw [this]
  rfl
theorem add_any (m n : Nat) (w : World) (hm : m < Big) (hn : n < Big) :
    Calls Tryd.prog 27 #[.agg (wcs m), .agg (wcs n)] w fun e w' => e = .returned (.tuple #[.agg (wcs ((m + n) % Big)), .bool (decide (m + n < Big))]) ∧ Below w.heap.size w w' := by
  have h := add_words m n hm hn
  refine (addw_any (wl m) (wl n) w (wl_len m) (wl_len n) (wl_words m) (wl_words n)).mono ?_
  rintro e w' ⟨rfl, hb⟩
  exact ⟨by rw [h.1, h.2]; rfl, hb⟩
theorem of_n (n : Nat) (w : World) (h : n < 18446744073709551616) :
    Calls Tryd.prog 26 #[.int .u64 n] w fun e w' => e = .returned (.agg (wcs n)) ∧ Below w.heap.size w w' := by
  rw [wc_small n h]
  exact of_any n w
theorem cellsU64 : Tryd.prog.cellsOf 25 = 1 := by kernel_rfl
theorem plainU64 : Tryd.prog.plainKey 25 = true := by kernel_rfl
theorem run_itemsW (d : Nat) (m n : Nat) (w : World) : ∀ is : List Nat, (∀ i ∈ is, i < 4) →
    (Op.eqItems (d + 1) 25 1 (wcs m) (wcs n) is).run Tryd.prog w = .ok (decide (∀ i ∈ is, W m i = W n i)) w
  | [], _ => by simp [Op.eqItems]
  | i :: is, h => by
    have hi := h i (by simp)
    have p1 := run_part_plain (P := Tryd.prog) w plainU64 (wc_get m i hi)
    have p2 := run_part_plain (P := Tryd.prog) w plainU64 (wc_get n i hi)
    have p3 := run_equalIn_int (P := Tryd.prog) w d 25 .u64 .u64 (W m i) (W n i) Tryd.underlying25
    have ih := run_itemsW d m n w is (fun j hj => h j (by simp [hj]))
    simp only [Op.eqItems, Sem.run_bind, Nat.mul_one, p1, p2, p3, Result.andThen_ok]
    by_cases e : W m i = W n i
    · have e' : ((W m i : Int) == (W n i : Int)) = true := by simp [e]
      rw [e']
      simp only [Bool.not_true, Bool.false_eq_true, if_false, ih, List.forall_mem_cons, e, true_and]
    · have e' : ((W m i : Int) == (W n i : Int)) = false := by simp; omega
      rw [e']
      simp only [Bool.not_false, if_true, Sem.run_pure, List.forall_mem_cons, e, false_and, decide_false]
def eqN (m n : Nat) : Bool := decide (m = n)
theorem words_eq_iff (m n : Nat) (hm : m < Big) (hn : n < Big) : (∀ i ∈ List.range 4, W m i = W n i) ↔ m = n := by
  constructor
  · intro h
    apply wl_inj hm hn
    rw [wl_W, wl_W, h 0 (by simp), h 1 (by simp), h 2 (by simp), h 3 (by simp)]
  · rintro rfl i _
    rfl
theorem run_equal_wide (m n : Nat) (hm : m < Big) (hn : n < Big) (w : World) : (Op.equal 27 (.agg (wcs m)) (.agg (wcs n))).run Tryd.prog w = .ok (eqN m n) w := by
  unfold Op.equal
  cases hq : Tryd.prog.info? 25 with
  | none =>
    have : (Tryd.prog.info? 25).isSome = true := by kernel_rfl
    rw [hq] at this
    cases this
  | some i =>
    have h := run_equalIn_array (P := Tryd.prog) w 9999 (wcs m) (wcs n) Tryd.underlying27 hq
    rw [cellsU64, run_itemsW 9998 m n w (List.range 4) (by simp)] at h
    have e : decide (∀ i ∈ List.range 4, W m i = W n i) = eqN m n := decide_eq_decide.2 (words_eq_iff m n hm hn)
    rw [e] at h
    exact h
end Go.Proofs.YtbmiecogjmbciaaDoor

namespace Go.Proofs.YtbmiecogjmbciaaDoor
set_option maxRecDepth 8000
open Go.RowKit

/-- byte i of a number, the highest one first -/
def byteAt (a i : Nat) : Nat := a / 2 ^ (8 * (31 - i)) % 256
theorem byteAt_lt (a i : Nat) : byteAt a i < 256 := Nat.mod_lt _ (by omega)
/-- 32 numbers, told by their places -/
def listF (f : Nat → Int) : List Int := (List.range 32).map f
theorem listF_len (f : Nat → Int) : (listF f).length = 32 := by simp [listF]
theorem listF_get (f : Nat → Int) (i : Nat) (h : i < 32) : (listF f).getD i 0 = f i := by
  unfold listF
  simp [List.getD, h]
def idF (f : Nat → Int) : Array Value := arrB 32 (listF f)
theorem idF_size (f : Nat → Int) : (idF f).size = 32 := arrB_size 32 _ (by rw [listF_len]; omega)
theorem idF_one (f : Nat → Int) : (idF f).all (·.oneCell') = true := arrB_one 32 _
theorem idF_get (f : Nat → Int) (i : Nat) (h : i < 32) : (idF f)[i]? = some (.int .u8 (f i)) := by
  unfold idF
  rw [arrB_get 32 _ i (by rw [listF_len]; omega) h, listF_get f i h]
theorem idF_put (f g : Nat → Int) (j : Nat) (v : Int) (hj : j < 32) (hg : g j = v) (hf : ∀ i, i < 32 → i ≠ j → g i = f i) : (idF f).setIfInBounds j (.int .u8 v) = idF g := by
  unfold idF
  apply arrB_ext
  · rw [listF_len]; omega
  · rw [Array.size_setIfInBounds]; exact idF_size f
  · intro i hi
    rw [Array.getElem?_setIfInBounds, listF_get g i hi]
    by_cases e : j = i
    · subst e
      rw [if_pos rfl, if_pos (by rw [arrB_size 32 _ (by rw [listF_len]; omega)]; exact hj), hg]
    · rw [if_neg e, hf i hi (fun h => e h.symm)]
      exact idF_get f i hi
theorem idF_zero : arrB 32 [] = idF (fun _ => 0) := by
  unfold idF
  apply arrB_ext
  · rw [listF_len]; omega
  · rw [arrB_size 32 [] (by simp)]
  · intro i hi
    rw [listF_get _ i hi, arrB_get 32 [] i (by simp) hi]
    rfl
theorem idF_congr (f g : Nat → Int) (h : ∀ i, i < 32 → f i = g i) : idF f = idF g := by
  unfold idF
  congr 1
  unfold listF
  apply List.map_congr_left
  intro i hi
  exact h i (by simpa using hi)
/-- the bytes of a number -/
def bytesOf (a : Nat) : Nat → Int := fun i => (byteAt a i : Int)
theorem byte_word (a k : Nat) (hk : k < 32) : W a (3 - k / 8) / 2 ^ (8 * (7 - k % 8)) % 256 = byteAt a k := by
  unfold byteAt
  rw [show (256 : Nat) = 2 ^ 8 from rfl]
  apply Nat.eq_of_testBit_eq
  intro i
  rw [Nat.testBit_mod_two_pow, Nat.testBit_mod_two_pow, Nat.testBit_div_two_pow, Nat.testBit_div_two_pow, W_bit]
  by_cases hi : i < 8
  · rw [show 64 * (3 - k / 8) + (i + 8 * (7 - k % 8)) = i + 8 * (31 - k) by omega]
    simp only [show i + 8 * (7 - k % 8) < 64 by omega, decide_true, Bool.true_and]
  · simp only [hi, decide_false, Bool.false_and]
theorem infoId (cs : Array Value) (h : cs.size = 32) : (Tryd.prog.info? 24).map (·.size) = some cs.size := by rw [h]; kernel_rfl
theorem byte_ref (a i : Nat) (hi : i < 32) : W a (i / 8) / 256 ^ (i % 8) % 256 = byteAt a (31 - i) := by
  have h := byte_word a (31 - i) (by omega)
  rw [show 3 - (31 - i) / 8 = i / 8 by omega, show 8 * (7 - (31 - i) % 8) = 8 * (i % 8) by omega, Nat.pow_mul] at h
  exact h
end Go.Proofs.YtbmiecogjmbciaaDoor

namespace Go.Proofs.YtbmiecogjmbciaaDoor
set_option maxRecDepth 8000

/-- a byte's number -/
def isB (l : List Int) : Prop := ∀ x ∈ l, 0 ≤ x ∧ x ≤ 255
theorem isB_nil : isB [] := fun _ h => by cases h
theorem isB_append {a b : List Int} : isB (a ++ b) ↔ isB a ∧ isB b := by
  unfold isB
  constructor
  · intro h
    exact ⟨fun x hx => h x (List.mem_append_left _ hx), fun x hx => h x (List.mem_append_right _ hx)⟩
  · rintro ⟨h1, h2⟩ x hx
    rcases List.mem_append.1 hx with h | h
    · exact h1 x h
    · exact h2 x h
/-- the lowest k bytes of a number, the highest first -/
def putL (n : Nat) : Nat → List Int
  | 0 => []
  | k + 1 => putL (n / 256) k ++ [((n % 256 : Nat) : Int)]
theorem putL_len (n k : Nat) : (putL n k).length = k := by
  induction k generalizing n with
  | zero => rfl
  | succ k ih => unfold putL; rw [List.length_append, ih]; rfl
theorem putL_byte (n k : Nat) : isB (putL n k) := by
  induction k generalizing n with
  | zero => exact isB_nil
  | succ k ih =>
    unfold putL
    refine isB_append.2 ⟨ih _, fun x hx => ?_⟩
    cases List.mem_singleton.1 hx
    omega
end Go.Proofs.YtbmiecogjmbciaaDoor

namespace Go.Proofs.YtbmiecogjmbciaaDoor
set_option maxRecDepth 8000

structure Tot where
  h : List Int
  w : Nat
  n : Int
theorem Tot.ext' {a b : Tot} (h1 : a.h = b.h) (h2 : a.w = b.w) (h3 : a.n = b.n) : a = b := by
  cases a; cases b; simp_all
instance : DecidableEq Tot := fun a b => decidable_of_iff (a.h = b.h ∧ a.w = b.w ∧ a.n = b.n) ⟨fun h => Tot.ext' h.1 h.2.1 h.2.2, fun h => by subst h; exact ⟨rfl, rfl, rfl⟩⟩
/-- a number of four bytes -/
def u64N (n : Int) : Nat := (IntKind.u64.wrap n).toNat
def partT (t : Tot) : List Int := t.h ++ (listF (bytesOf t.w) ++ putL (u64N t.n) 4)
def joinT (a b : Tot) : Tot := ⟨sumL (3 :: (partT a ++ partT b)), (a.w + b.w) % Big, IntKind.i64.wrap (a.n + b.n)⟩
def noTot : Tot := ⟨sumL [4], 0, 0⟩
/-- the total of a list -/
def allF : Nat → List Tot → Tot
  | 0, l => l.headD noTot
  | f + 1, l => if l.length ≤ 1 then l.headD noTot else joinT (allF f (l.take (halfT l.length))) (allF f (l.drop (halfT l.length)))
def allT (l : List Tot) : Tot := allF l.length l
theorem allF_more : ∀ (f g : Nat) (l : List Tot), l.length ≤ f → l.length ≤ g → allF f l = allF g l
  | 0, 0, _, _, _ => rfl
  | 0, g + 1, l, h, _ => by
    unfold allF
    rw [if_pos (by omega)]
  | f + 1, 0, l, _, h => by
    unfold allF
    rw [if_pos (by omega)]
  | f + 1, g + 1, l, h1, h2 => by
    unfold allF
    by_cases h : l.length ≤ 1
    · rw [if_pos h, if_pos h]
    · rw [if_neg h, if_neg h]
      obtain ⟨a, b, _, _⟩ := half_spec (n := l.length) (by omega)
      rw [allF_more f g (l.take _) (by rw [List.length_take]; omega) (by rw [List.length_take]; omega), allF_more f g (l.drop _) (by rw [List.length_drop]; omega) (by rw [List.length_drop]; omega)]
theorem all_none : allT [] = noTot := rfl
theorem all_one (x : Tot) : allT [x] = x := rfl
theorem all_cut {l : List Tot} (h : 2 ≤ l.length) : allT l = joinT (allT (l.take (halfT l.length))) (allT (l.drop (halfT l.length))) := by
  obtain ⟨a, b, _, _⟩ := half_spec h
  unfold allT
  obtain ⟨n, hn⟩ : ∃ n, l.length = n + 1 := ⟨l.length - 1, by omega⟩
  rw [allF_more l.length (n + 1) l (Nat.le_refl _) (by omega), allF, if_neg (by omega), allF_more n _ (l.take _) (by rw [List.length_take]; omega) (Nat.le_refl _), allF_more n _ (l.drop _) (by rw [List.length_drop]; omega) (Nat.le_refl _)]
/-- the path of a place -/
def mpathF : Nat → List Tot → Nat → List Tot
  | 0, _, _ => []
  | f + 1, l, i => if l.length ≤ 1 then [] else
    if i < halfT l.length then mpathF f (l.take (halfT l.length)) i ++ [allT (l.drop (halfT l.length))]
    else mpathF f (l.drop (halfT l.length)) (i - halfT l.length) ++ [allT (l.take (halfT l.length))]
def mpathT (l : List Tot) (i : Nat) : List Tot := mpathF l.length l i
theorem mpathF_more : ∀ (f g : Nat) (l : List Tot) (i : Nat), l.length ≤ f → l.length ≤ g → mpathF f l i = mpathF g l i
  | 0, 0, _, _, _, _ => rfl
  | 0, g + 1, l, i, h, _ => by
    unfold mpathF
    rw [if_pos (by omega)]
  | f + 1, 0, l, i, _, h => by
    unfold mpathF
    rw [if_pos (by omega)]
  | f + 1, g + 1, l, i, h1, h2 => by
    unfold mpathF
    by_cases h : l.length ≤ 1
    · rw [if_pos h, if_pos h]
    · rw [if_neg h, if_neg h]
      obtain ⟨a, b, _, _⟩ := half_spec (n := l.length) (by omega)
      rw [mpathF_more f g (l.take _) i (by rw [List.length_take]; omega) (by rw [List.length_take]; omega), mpathF_more f g (l.drop _) _ (by rw [List.length_drop]; omega) (by rw [List.length_drop]; omega)]
theorem mpath_low {l : List Tot} {i : Nat} (h : 2 ≤ l.length) (hi : i < halfT l.length) : mpathT l i = mpathT (l.take (halfT l.length)) i ++ [allT (l.drop (halfT l.length))] := by
  obtain ⟨a, b, _, _⟩ := half_spec h
  unfold mpathT
  obtain ⟨n, hn⟩ : ∃ n, l.length = n + 1 := ⟨l.length - 1, by omega⟩
  rw [mpathF_more l.length (n + 1) l i (Nat.le_refl _) (by omega), mpathF, if_neg (by omega), if_pos hi, mpathF_more n _ (l.take _) i (by rw [List.length_take]; omega) (Nat.le_refl _)]
theorem mpath_high {l : List Tot} {i : Nat} (h : 2 ≤ l.length) (hi : ¬ i < halfT l.length) : mpathT l i = mpathT (l.drop (halfT l.length)) (i - halfT l.length) ++ [allT (l.take (halfT l.length))] := by
  obtain ⟨a, b, _, _⟩ := half_spec h
  unfold mpathT
  obtain ⟨n, hn⟩ : ∃ n, l.length = n + 1 := ⟨l.length - 1, by omega⟩
  rw [mpathF_more l.length (n + 1) l i (Nat.le_refl _) (by omega), mpathF, if_neg (by omega), if_neg hi, mpathF_more n _ (l.drop _) _ (by rw [List.length_drop]; omega) (Nat.le_refl _)]
/-- how many leaves the other side has, from the least tree on -/
def sizesF : Nat → Nat → Nat → List Nat
  | 0, _, _ => []
  | f + 1, n, i => if n ≤ 1 then [] else if i < halfT n then sizesF f (halfT n) i ++ [n - halfT n] else sizesF f (n - halfT n) (i - halfT n) ++ [halfT n]
def sizesT (n i : Nat) : List Nat := sizesF n n i
theorem sizesF_more : ∀ (f g n i : Nat), n ≤ f → n ≤ g → sizesF f n i = sizesF g n i
  | 0, 0, _, _, _, _ => rfl
  | 0, g + 1, n, i, h, _ => by
    unfold sizesF
    rw [if_pos (by omega)]
  | f + 1, 0, n, i, _, h => by
    unfold sizesF
    rw [if_pos (by omega)]
  | f + 1, g + 1, n, i, h1, h2 => by
    unfold sizesF
    by_cases h : n ≤ 1
    · rw [if_pos h, if_pos h]
    · rw [if_neg h, if_neg h]
      obtain ⟨a, b, _, _⟩ := half_spec (n := n) (by omega)
      rw [sizesF_more f g _ i (by omega) (by omega), sizesF_more f g (n - _) _ (by omega) (by omega)]
theorem sizes_low {n i : Nat} (h : 2 ≤ n) (hi : i < halfT n) : sizesT n i = sizesT (halfT n) i ++ [n - halfT n] := by
  obtain ⟨a, b, _, _⟩ := half_spec h
  unfold sizesT
  obtain ⟨m, rfl⟩ : ∃ m, n = m + 1 := ⟨n - 1, by omega⟩
  rw [sizesF, if_neg (by omega), if_pos hi, sizesF_more m _ _ i (by omega) (Nat.le_refl _)]
theorem sizes_high {n i : Nat} (h : 2 ≤ n) (hi : ¬ i < halfT n) : sizesT n i = sizesT (n - halfT n) (i - halfT n) ++ [halfT n] := by
  obtain ⟨a, b, _, _⟩ := half_spec h
  unfold sizesT
  obtain ⟨m, rfl⟩ : ∃ m, n = m + 1 := ⟨n - 1, by omega⟩
  rw [sizesF, if_neg (by omega), if_neg hi, sizesF_more m _ _ _ (by omega) (Nat.le_refl _)]
/-- induction along a tree: from one leaf on -/
theorem tree_ind {C : Nat → Nat → Prop} (one : ∀ n i, n ≤ 1 → C n i) (low : ∀ n i, 2 ≤ n → i < halfT n → C (halfT n) i → C n i) (high : ∀ n i, 2 ≤ n → ¬ i < halfT n → C (n - halfT n) (i - halfT n) → C n i) : ∀ n i, C n i := by
  intro n
  induction n using Nat.strongRecOn with
  | _ n ih =>
    intro i
    by_cases h : n ≤ 1
    · exact one n i h
    · obtain ⟨a, b, _, _⟩ := half_spec (n := n) (by omega)
      by_cases hi : i < halfT n
      · exact low n i (by omega) hi (ih _ b i)
      · exact high n i (by omega) hi (ih _ (by omega) _)
theorem few_nil {n i : Nat} (h : n ≤ 1) : sidesT n i = [] ∧ sizesT n i = [] := by
  rcases n with _ | _ | n
  · exact ⟨rfl, rfl⟩
  · exact ⟨rfl, rfl⟩
  · omega
theorem sizes_len (n i : Nat) : (sizesT n i).length = (sidesT n i).length := by
  refine tree_ind (C := fun n i => (sizesT n i).length = (sidesT n i).length) (fun n i h => ?_) (fun n i h hi ih => ?_) (fun n i h hi ih => ?_) n i
  · rw [(few_nil h).1, (few_nil h).2]; rfl
  · rw [sizes_low h hi, sides_low h hi, List.length_append, List.length_append, ih]; rfl
  · rw [sizes_high h hi, sides_high h hi, List.length_append, List.length_append, ih]; rfl
theorem mpath_len : ∀ (n : Nat) (l : List Tot) (i : Nat), l.length = n → (mpathT l i).length = (sidesT n i).length := by
  intro n l i
  revert l
  refine tree_ind (C := fun n i => ∀ l : List Tot, l.length = n → (mpathT l i).length = (sidesT n i).length) (fun n i h l hl => ?_) (fun n i h hi ih l hl => ?_) (fun n i h hi ih l hl => ?_) n i
  · have e2 : mpathT l i = [] := by
      unfold mpathT
      rw [hl]
      rcases n with _ | _ | n
      · rfl
      · unfold mpathF; rw [if_pos (by omega)]
      · omega
    rw [(few_nil h).1, e2]; rfl
  · obtain ⟨a, b, _, _⟩ := half_spec h
    rw [mpath_low (by omega) (by rw [hl]; exact hi), sides_low h hi, List.length_append, List.length_append, hl, ih _ (by rw [List.length_take]; omega)]
    rfl
  · obtain ⟨a, b, _, _⟩ := half_spec h
    rw [mpath_high (by omega) (by rw [hl]; exact hi), sides_high h hi, List.length_append, List.length_append, hl, ih _ (by rw [List.length_drop]; omega)]
    rfl
def carryT : Tot → List Tot → List Tot
  | x, [] => [x]
  | x, y :: r => if x.n = y.n then carryT (joinT y x) r else x :: y :: r
/-- peaks with a leaf appended -/
def appT (p : List Tot) (x : Tot) : List Tot := (carryT x p.reverse).reverse
def upT : Tot → List Tot → Tot
  | x, [] => x
  | x, y :: r => upT (joinT y x) r
def rootP (p : List Tot) : Tot := match p.reverse with
  | [] => noTot
  | x :: r => upT x r
def peaksT (l : List Tot) : List Tot := l.foldl appT []
def mstep (s : Bool) (m : Nat) (p : Tot) : Tot × Nat → Option (Tot × Nat) := fun (x, a) =>
  if p.n = (m : Int) ∧ x.w + p.w < Big then some (if s then (joinT x p, a) else (joinT p x, (a + p.w) % Big)) else none
def mclimbK (s : List Bool) (m : List Nat) (p : List Tot) (x : Tot) : Nat → Option (Tot × Nat)
  | 0 => some (x, 0)
  | k + 1 => (mclimbK s m p x k).bind (mstep (s.getD k true) (m.getD k 0) (p.getD k noTot))
def mcheckT (root : Tot) (i : Int) (leaf : Tot) (path : List Tot) : Nat × Bool :=
  if 1 ≤ root.n ∧ root.n ≤ 64 ∧ 0 ≤ i ∧ i < root.n ∧ leaf.n = 1 ∧ path.length = (sidesT root.n.toNat i.toNat).length then
    match mclimbK (sidesT root.n.toNat i.toNat) (sizesT root.n.toNat i.toNat) path leaf (sidesT root.n.toNat i.toNat).length with
    | some (x, a) => if x = root then (a, true) else (0, false)
    | none => (0, false)
  else (0, false)
def mpathR (l : List Tot) (i : Int) : List Tot × Bool := if 0 ≤ i ∧ i < l.length ∧ l.length ≤ 64 then (mpathT l i.toNat, true) else ([], false)
end Go.Proofs.YtbmiecogjmbciaaDoor

namespace Go.Proofs.YtbmiecogjmbciaaDoor
set_option maxRecDepth 8000
open Go.RowKit

def seqAt (place : Nat → Option (Nat × Nat)) : Nat → List (Nat × Value) → Prop
  | _, [] => True
  | o, (i, v) :: ps => place i = some (o, v.cells.size) ∧ seqAt place (o + v.cells.size) ps
def cellsOfP (ps : List (Nat × Value)) : List Value := (ps.map fun p => p.2.cells.toList).flatten
theorem fill_step (o : Nat) (v zs : Array Value) (hz : o + v.size ≤ zs.size) : ((v.toList.zipIdx 0).foldl (fun cs (x : Value × Nat) => cs.setIfInBounds (o + x.2) x.1) zs).toList = zs.toList.take o ++ v.toList ++ zs.toList.drop (o + v.size) := by
  obtain ⟨g1, g2⟩ := Great.foldl_set o v.toList 0 zs
  apply List.ext_getElem?
  intro k
  have hA : (zs.toList.take o).length = o := by rw [List.length_take, Array.length_toList]; omega
  have hAV : (zs.toList.take o ++ v.toList).length = o + v.size := by rw [List.length_append, hA, Array.length_toList]
  rw [Array.getElem?_toList, g2 k, Array.length_toList, Nat.add_zero]
  by_cases a1 : k < o
  · rw [if_neg (by omega), List.getElem?_append_left (by omega), List.getElem?_append_left (by omega), List.getElem?_take_of_lt a1, Array.getElem?_toList]
  · by_cases a2 : k < o + v.size
    · rw [if_pos (by omega), List.getElem?_append_left (by omega), List.getElem?_append_right (by omega), hA]
    · rw [if_neg (by omega), List.getElem?_append_right (by omega), hAV, List.getElem?_drop, Array.getElem?_toList]
      congr 1
      omega
theorem fill_seq {place : Nat → Option (Nat × Nat)} : ∀ (ps : List (Nat × Value)) (o : Nat) (zs : Array Value), seqAt place o ps → o + (cellsOfP ps).length ≤ zs.size →
    ∃ r, Instr.fill place zs ps = some r ∧ r.toList = zs.toList.take o ++ cellsOfP ps ++ zs.toList.drop (o + (cellsOfP ps).length)
  | [], o, zs, _, _ => ⟨zs, rfl, by simp [cellsOfP]⟩
  | (i, v) :: ps, o, zs, h, hz => by
    obtain ⟨h1, h2⟩ := h
    have hl : (cellsOfP ((i, v) :: ps)).length = v.cells.size + (cellsOfP ps).length := by simp [cellsOfP]
    obtain ⟨g1, g2⟩ := Great.foldl_set o v.cells.toList 0 zs
    have e1 : v.cells.zipIdx.foldl (fun cs (x : Value × Nat) => cs.setIfInBounds (o + x.2) x.1) zs = (v.cells.toList.zipIdx 0).foldl (fun cs (x : Value × Nat) => cs.setIfInBounds (o + x.2) x.1) zs := by rw [← Array.foldl_toList, Array.toList_zipIdx]
    obtain ⟨r, hr, hrl⟩ := fill_seq ps (o + v.cells.size) ((v.cells.toList.zipIdx 0).foldl (fun cs (x : Value × Nat) => cs.setIfInBounds (o + x.2) x.1) zs) h2 (by rw [g1]; omega)
    refine ⟨r, ?_, ?_⟩
    · unfold Instr.fill
      simp only [h1, e1]
      split
      · rename_i h
        simp at h
        omega
      · exact hr
    · have hc : cellsOfP ((i, v) :: ps) = v.cells.toList ++ cellsOfP ps := by simp [cellsOfP]
      rw [hrl, hc, fill_step o v.cells zs (by omega)]
      have hA : (zs.toList.take o ++ v.cells.toList).length = o + v.cells.size := by
        rw [List.length_append, List.length_take, Array.length_toList, Array.length_toList]
        omega
      have hd : (zs.toList.take o ++ v.cells.toList ++ zs.toList.drop (o + v.cells.size)).drop (o + v.cells.size + (cellsOfP ps).length) = zs.toList.drop (o + (v.cells.toList ++ cellsOfP ps).length) := by
        rw [List.drop_append, List.drop_of_length_le (by omega), List.nil_append, List.drop_drop, hA]
        congr 1
        have hvl : v.cells.toList.length = v.cells.size := Array.length_toList
        simp only [List.length_append, hvl]
        omega
      rw [hd, List.take_left' hA]
      simp only [List.append_assoc]
theorem fill_all {place : Nat → Option (Nat × Nat)} {ps : List (Nat × Value)} {zs : Array Value} (h : seqAt place 0 ps) (hz : zs.size = (cellsOfP ps).length) : Instr.fill place zs ps = some (cellsOfP ps).toArray := by
  obtain ⟨r, hr, hl⟩ := fill_seq ps 0 zs h (by omega)
  rw [hr]
  congr 1
  apply Array.ext'
  rw [hl]
  simp only [List.take_zero, List.nil_append, Nat.zero_add]
  rw [List.drop_of_length_le (by rw [Array.length_toList]; omega), List.append_nil]
/-- a struct's literal: all its fields -/
theorem built_struct {t : TypeId} {fields : Array Field} {places : List (Nat × Nat)} {n : Nat} (hu : Tryd.prog.underlying t = some (.struct fields)) (hn : (Tryd.prog.info? t).map (fun i => i.zero.map (·.cells.size)) = some (some n))
    (hp : fields.toList.mapM (fun f => (Tryd.prog.info? f.type).map fun i => (f.offset, i.size)) = some places) {ps : List (Nat × Value)} (h : seqAt (places.toArray[·]?) 0 ps) (hz : n = (cellsOfP ps).length) : Tryd.prog.built t ps = some (cellsOfP ps).toArray := by
  cases hq : Tryd.prog.info? t with
  | none => rw [hq] at hn; cases hn
  | some it =>
    rw [hq] at hn
    simp only [Option.map_some, Option.some.injEq] at hn
    cases hzz : it.zero with
    | none => rw [hzz] at hn; cases hn
    | some z =>
      rw [hzz] at hn
      simp only [Option.map_some, Option.some.injEq] at hn
      unfold Program.built
      simp only [hq, hu, hzz, hp]
      exact fill_all h (by omega)
end Go.Proofs.YtbmiecogjmbciaaDoor

namespace Go.Proofs.YtbmiecogjmbciaaDoor
set_option maxRecDepth 8000
open Go.RowKit

def InI (r : Int) : Prop := -9223372036854775808 ≤ r ∧ r ≤ 9223372036854775807
theorem wrap64_in {r : Int} (h : InI r) : IntKind.i64.wrap r = r := by unfold InI at h; rw [IntKind.wrap_i64]; omega
theorem oneInt : ∀ w, (isAgg 3).run Tryd.prog w = .ok false w := fun w => by simp [isAgg, run_underlying Tryd.underlying3]
section
variable {a : Act} {dst : Option Tmp} {x y : Operand} {ty : TypeId} {pos : String} {after : Array Edge} {gd : Option (Nat × Bool)}
theorem sub_op {m k r : Int} (u : World) (hr : m - k = r) (hb : InI r) (hx : a.eval x = .int .i64 m) (hy : a.eval y = .int .i64 k) :
    (execOp a.eval ⟨dst, .binOp .sub 3 x y 3, ty, pos, after, gd⟩).run Tryd.prog u = .ok (.value (.int .i64 r)) u := by
  have hw := wrap64_in hb
  subst hr
  unfold execOp
  simp only [hx, hy]
  go_simp
theorem add_op {m k r : Int} (u : World) (hr : m + k = r) (hb : InI r) (hx : a.eval x = .int .i64 m) (hy : a.eval y = .int .i64 k) :
    (execOp a.eval ⟨dst, .binOp .add 3 x y 3, ty, pos, after, gd⟩).run Tryd.prog u = .ok (.value (.int .i64 r)) u := by
  have hw := wrap64_in hb
  subst hr
  unfold execOp
  simp only [hx, hy]
  go_simp
theorem geq_op {m k : Int} {b : Bool} (u : World) (hb : decide (k ≤ m) = b) (hx : a.eval x = .int .i64 m) (hy : a.eval y = .int .i64 k) :
    (execOp a.eval ⟨dst, .binOp .geq 3 x y 3, ty, pos, after, gd⟩).run Tryd.prog u = .ok (.value (.bool b)) u := by
  subst hb
  unfold execOp
  simp only [hx, hy]
  go_simp
theorem eqlI_op {m k : Int} {b : Bool} (u : World) (hb : decide (m = k) = b) (hx : a.eval x = .int .i64 m) (hy : a.eval y = .int .i64 k) :
    (execOp a.eval ⟨dst, .binOp .eql 3 x y 3, ty, pos, after, gd⟩).run Tryd.prog u = .ok (.value (.bool b)) u := by
  subst hb
  unfold execOp
  simp only [hx, hy]
  go_simp
  rfl
theorem buildA_op {t : TypeId} {parts : Array (Nat × Operand)} {cs : Array Value} (u : World) (hb : Tryd.prog.built t (parts.toList.map fun x => (x.1, a.eval x.2)) = some cs) :
    (execOp a.eval ⟨dst, .build t parts, ty, pos, after, gd⟩).run Tryd.prog u = .ok (.value (.agg cs)) u := by
  have hb' : Tryd.prog.built t (parts.map fun (i, x) => (i, a.eval x)).toList = some cs := by
    rw [Array.toList_map]
    exact hb
  unfold execOp
  simp only [Sem.run_bind, Sem.run_pure, run_build u t _ _ hb', Result.andThen_ok]
end
end Go.Proofs.YtbmiecogjmbciaaDoor

namespace Go.Proofs.YtbmiecogjmbciaaDoor
set_option maxRecDepth 8000
open Go.RowKit

def totC (t : Tot) : List Value := (arrB 32 t.h).toList ++ ((wcs t.w).toList ++ [.int .i64 t.n])
def okT (t : Tot) : Prop := (t.h.length = 32 ∧ ∀ b ∈ t.h, 0 ≤ b ∧ b ≤ 255) ∧ t.w < Big ∧ -9223372036854775808 ≤ t.n ∧ t.n ≤ 9223372036854775807
def totA (t : Tot) : Array Value := (totC t).toArray
def totV (t : Tot) : Value := .agg (totA t)
def len32 (t : Tot) : Prop := t.h.length = 32
theorem idA_list {h : List Int} (hh : h.length = 32) : (arrB 32 h).toList.length = 32 := by rw [Array.length_toList]; exact arrB_size _ _ (by omega)
theorem wcs_list (w : Nat) : (wcs w).toList.length = 4 := by rw [Array.length_toList]; exact wc_size w
theorem totC_len {t : Tot} (h : len32 t) : (totC t).length = 37 := by
  unfold totC
  rw [List.length_append, List.length_append, idA_list h, wcs_list]
  rfl
theorem totA_size {t : Tot} (h : len32 t) : (totA t).size = 37 := by unfold totA; rw [List.size_toArray, totC_len h]
theorem cell_of_all {a : Array Value} (h : a.all (·.oneCell') = true) : ∀ u ∈ a.toList, u.oneCell' = true := fun u hu => by
  obtain ⟨i, hi, rfl⟩ := Array.mem_iff_getElem.1 (Array.mem_toList_iff.1 hu)
  exact Array.all_eq_true.1 h i hi
theorem totC_one (t : Tot) : ∀ u ∈ totC t, u.oneCell' = true := by
  intro u hu
  unfold totC at hu
  rcases List.mem_append.1 hu with h | h
  · exact cell_of_all (arrB_one 32 _) u h
  · rcases List.mem_append.1 h with h | h
    · exact cell_of_all (wc_one _) u h
    · cases List.mem_singleton.1 h
      rfl
theorem totA_one (t : Tot) : (totA t).all (·.oneCell') = true := by
  rw [Array.all_eq_true]
  intro i hi
  exact totC_one t _ (show (totA t)[i] ∈ (totA t).toList from Array.mem_toList_iff.2 (Array.getElem_mem hi))
theorem aggTot : AggT 29 37 := ⟨fun w => by simp [isAgg, run_underlying Tryd.underlying29], by kernel_rfl⟩
theorem aggWd : AggT 27 4 := ⟨fun w => by simp [isAgg, run_underlying Tryd.underlying27], by kernel_rfl⟩
theorem aggIdT : AggT 24 32 := ⟨fun w => by simp [isAgg, run_underlying Tryd.underlying24], by kernel_rfl⟩
def zTot : Tot := ⟨[], 0, 0⟩
theorem elTot : ElemT 22 29 37 72 (totV zTot) := ⟨Tryd.underlying22, by kernel_rfl, by decide +kernel, by decide, by decide, by decide⟩
/-- the cells of the parts -/
theorem totC_H {t : Tot} (h : len32 t) : ((totA t).toList.drop 0).take 32 = (arrB 32 t.h).toList := by
  unfold totA totC
  rw [List.drop_zero, List.take_left' (idA_list h)]
theorem totC_W {t : Tot} (h : len32 t) : ((totA t).toList.drop 32).take 4 = (wcs t.w).toList := by
  unfold totA totC
  rw [List.drop_left' (idA_list h), List.take_left' (wcs_list _)]
theorem totC_N {t : Tot} (h : len32 t) : (totA t)[36]? = some (.int .i64 t.n) := by
  unfold totA totC
  rw [List.getElem?_toArray, List.getElem?_append_right (by rw [idA_list h]; omega), idA_list h, List.getElem?_append_right (by rw [wcs_list]; omega), wcs_list]
  rfl
theorem agg_list (a : Array Value) : Value.agg a.toList.toArray = .agg a := by rw [Array.toArray_toList]
section
variable {w0 u : World} {M : Boxes} {g : Nat} {ty : TypeId} {t : Tot}
theorem box_tot (hu : EnvC w0 M u) (hm : (g, Obj.cells (totA t) ty (0, 0)) ∈ M) (h : len32 t) : (loadVar 29 ⟨g, 0, none⟩).run Tryd.prog u = .ok (totV t) u := by
  have := box_agg aggTot (k := 0) hu hm (totC t) (totC_len h) (by unfold totA; rw [List.drop_zero, List.take_of_length_le (by rw [totC_len h]; omega)])
  exact this
theorem box_totW (hu : EnvC w0 M u) (hm : (g, Obj.cells (totA t) ty (0, 0)) ∈ M) (h : len32 t) : (loadVar 27 ⟨g, 32, none⟩).run Tryd.prog u = .ok (.agg (wcs t.w)) u := by
  have := box_agg aggWd (k := 32) hu hm _ (wcs_list _) (totC_W h)
  rwa [agg_list] at this
theorem box_totN (hu : EnvC w0 M u) (hm : (g, Obj.cells (totA t) ty (0, 0)) ∈ M) (h : len32 t) : (loadVar 3 ⟨g, 36, none⟩).run Tryd.prog u = .ok (.int .i64 t.n) u :=
  run_load_one oneInt u (box_cell hu hm (totC_N h))
end
/-- a literal of a total -/
theorem built_tot {h : List Int} {w : Nat} {n : Int} (hh : h.length = 32) : Tryd.prog.built 29 [(0, idv h), (1, .agg (wcs w)), (2, .int .i64 n)] = some (totA ⟨h, w, n⟩) := by
  have hs : (arrB 32 h).size = 32 := arrB_size _ _ (by omega)
  have hw := wc_size w
  have e : cellsOfP [(0, idv h), (1, .agg (wcs w)), (2, .int .i64 n)] = totC ⟨h, w, n⟩ := by simp [cellsOfP, totC, idv, Value.cells]
  have := built_struct (t := 29) (n := 37) Tryd.underlying29 (by kernel_rfl) (places := [(0, 32), (32, 4), (36, 1)]) (by kernel_rfl) (ps := [(0, idv h), (1, .agg (wcs w)), (2, .int .i64 n)]) (by
    refine ⟨?_, ?_, ?_, trivial⟩
    · show some (0, 32) = some (0, (arrB 32 h).size)
      rw [hs]
    · show some (32, 4) = some (0 + (arrB 32 h).size, (wcs w).size)
      rw [hs, hw]
    · show some (36, 1) = some (0 + (arrB 32 h).size + (wcs w).size, 1)
      rw [hs, hw]) (by rw [e, totC_len (t := ⟨h, w, n⟩) hh])
  rw [this, e]
  rfl
def TotsIn (w : World) (B : Nat) (A : Option Addr) (l : List Tot) : Prop := CellsIn w B A (l.map totC).flatten
def okTs (l : List Tot) : Prop := ∀ t ∈ l, okT t
theorem okT.len {t : Tot} (h : okT t) : len32 t := h.1.1
theorem rowsT {l : List Tot} (h : okTs l) : isRows 37 (l.map totC) := fun x hx => by
  obtain ⟨t, ht, rfl⟩ := List.mem_map.1 hx
  exact totC_len (h t ht).len
theorem okTs.get {l : List Tot} (h : okTs l) {i : Nat} (hi : i < l.length) : okT (l.getD i noTot) := by
  rw [List.getD_eq_getElem?_getD, List.getElem?_eq_getElem hi]
  exact h _ (List.getElem_mem hi)
theorem okTs.take {l : List Tot} (h : okTs l) (k : Nat) : okTs (l.take k) := fun x hx => h x (List.mem_of_mem_take hx)
theorem okTs.drop {l : List Tot} (h : okTs l) (k : Nat) : okTs (l.drop k) := fun x hx => h x (List.mem_of_mem_drop hx)
theorem tots_cells {w : World} {B : Nat} {A : Option Addr} {l : List Tot} (h : TotsIn w B A l) (hl : okTs l) {i : Nat} (hi : i < l.length) :
    ∃ ad, A = some ad ∧ ad.block < B ∧ ∀ j v, (totC (l.getD i noTot))[j]? = some v → w.cell? ((ad.add (i * 37)).add j) = some v := by
  have hR := rowsT hl
  have hfl := hR.flat_len
  rw [List.length_map] at hfl
  obtain ⟨ad, e, hb, hc⟩ := h (by rw [hfl]; omega)
  refine ⟨ad, e, hb, fun j v hv => ?_⟩
  rw [add_addN]
  refine hc (i * 37 + j) v ?_
  have hj : j < 37 := by
    rcases Nat.lt_or_ge j 37 with h' | h'
    · exact h'
    · rw [List.getElem?_eq_none (by rw [totC_len (hl.get hi).len]; exact h')] at hv
      cases hv
  rw [hR.flat_get i j (by rw [List.length_map]; exact hi) hj]
  rw [List.getD_eq_getElem?_getD, List.getElem?_map, List.getElem?_eq_getElem hi]
  rw [List.getD_eq_getElem?_getD, List.getElem?_eq_getElem hi] at hv
  exact hv
/-- one out of a list, and its parts -/
theorem TotsIn.loads {w : World} {A : Option Addr} {l : List Tot} (h : TotsIn w w.heap.size A l) (hl : okTs l) {k : Nat} (hk : k < l.length) : ∃ ad, A = some ad ∧ ∀ u, EnvX w u [] →
    (loadVar 29 (ad.add (k * 37))).run Tryd.prog u = .ok (totV (l.getD k noTot)) u ∧
    (loadVar 24 (ad.add (k * 37))).run Tryd.prog u = .ok (idv (l.getD k noTot).h) u ∧
    (loadVar 27 ((ad.add (k * 37)).add 32)).run Tryd.prog u = .ok (.agg (wcs (l.getD k noTot).w)) u ∧
    (loadVar 3 ((ad.add (k * 37)).add 36)).run Tryd.prog u = .ok (.int .i64 (l.getD k noTot).n) u := by
  obtain ⟨ad, e, hb, hc⟩ := tots_cells h hl hk
  refine ⟨ad, e, fun u hu => ?_⟩
  have h32 := (hl.get hk).len
  have hbl : ∀ (a : Addr) (j : Nat), (a.add j).block = a.block := fun a j => by unfold Addr.add; split <;> rfl
  have hcu : ∀ j v, (totC (l.getD k noTot))[j]? = some v → u.cell? ((ad.add (k * 37)).add j) = some v := fun j v hv => by
    rw [← hc j v hv]
    exact (EnvX.bel hu).cell (by rw [hbl, hbl]; exact hb)
  have hadd0 : ∀ a : Addr, a.add 0 = a := fun a => by unfold Addr.add; rfl
  generalize l.getD k noTot = t at *
  refine ⟨run_loadAgg aggTot (totC t) (totC_len h32) hcu, ?_, ?_, ?_⟩
  · have := run_loadAgg aggIdT (w := u) (ad := ad.add (k * 37)) _ (idA_list h32) (fun j v hv => hcu j v (by
      unfold totC
      rw [List.getElem?_append_left (by
        rcases Nat.lt_or_ge j (arrB 32 t.h).toList.length with h' | h'
        · exact h'
        · rw [List.getElem?_eq_none h'] at hv; cases hv)]
      exact hv))
    rwa [agg_list] at this
  · have := run_loadAgg aggWd (w := u) (ad := (ad.add (k * 37)).add 32) _ (wcs_list t.w) (fun j v hv => by
      rw [add_addN]
      refine hcu (32 + j) v ?_
      unfold totC
      have hj : j < (wcs t.w).toList.length := by
        rcases Nat.lt_or_ge j (wcs t.w).toList.length with h' | h'
        · exact h'
        · rw [List.getElem?_eq_none h'] at hv; cases hv
      rw [List.getElem?_append_right (by rw [idA_list h32]; omega), idA_list h32, List.getElem?_append_left (by omega), show 32 + j - 32 = j by omega]
      exact hv)
    rwa [agg_list] at this
  · refine run_load_one oneInt u (hcu 36 _ ?_)
    have := totC_N h32
    unfold totA at this
    rwa [List.getElem?_toArray] at this
theorem run_equalIn_id (d : Nat) (xs ys : List Int) (hx : xs.length = 32) (hy : ys.length = 32) (w : World) : (Op.equalIn (d + 2) 24 (.agg (arrB 32 xs)) (.agg (arrB 32 ys))).run Tryd.prog w = .ok (eqL xs ys) w := by
  cases hq : Tryd.prog.info? 5 with
  | none => have := infoB; rw [hq] at this; cases this
  | some i =>
    have h := run_equalIn_array (P := Tryd.prog) w (d + 1) (arrB 32 xs) (arrB 32 ys) Tryd.underlying24 hq
    rw [cellsB, run_items d xs ys hx hy w (List.range 32) (by simp)] at h
    have e : decide (∀ i ∈ List.range 32, xs.getD i 0 = ys.getD i 0) = eqL xs ys := decide_eq_decide.2 (list_eq_iff xs ys hx hy)
    rw [e] at h
    exact h
theorem run_equalIn_wide (d : Nat) (m n : Nat) (hm : m < Big) (hn : n < Big) (w : World) : (Op.equalIn (d + 2) 27 (.agg (wcs m)) (.agg (wcs n))).run Tryd.prog w = .ok (eqN m n) w := by
  cases hq : Tryd.prog.info? 25 with
  | none =>
    have : (Tryd.prog.info? 25).isSome = true := by kernel_rfl
    rw [hq] at this
    cases this
  | some i =>
    have h := run_equalIn_array (P := Tryd.prog) w (d + 1) (wcs m) (wcs n) Tryd.underlying27 hq
    rw [cellsU64, run_itemsW d m n w (List.range 4) (by simp)] at h
    have e : decide (∀ i ∈ List.range 4, W m i = W n i) = eqN m n := decide_eq_decide.2 (words_eq_iff m n hm hn)
    rw [e] at h
    exact h
theorem fieldsTot : (Tryd.prog.fieldsOf 29).toList.map (fun f => (f.name == "_", f.type, f.offset)) = [(false, 24, 0), (false, 27, 32), (false, 3, 36)] := by kernel_rfl
def eqT (a b : Tot) : Bool := decide (a = b)
theorem run_part_agg {e : TypeId} {z : Nat} (D : AggT e z) {cs v : Array Value} {off : Nat} (hv : cs.extract off (off + z) = v) (w : World) : (part e cs off).run Tryd.prog w = .ok (.agg v) w := by
  have hs := D.size
  cases hq : Tryd.prog.info? e with
  | none => rw [hq] at hs; cases hs
  | some k =>
    rw [hq] at hs
    simp only [Option.map_some, Option.some.injEq] at hs
    have hsz : (sizeOf e).run Tryd.prog w = .ok z w := by simp [sizeOf, typeInfo, hq, hs]
    simp [part, D.agg, hsz, hv]
theorem ext_list {a : Array Value} {k z : Nat} {l : List Value} (h : (a.toList.drop k).take z = l) : a.extract k (k + z) = l.toArray := by
  apply Array.ext'
  rw [Array.toList_extract, ← h]
  simp [List.extract_eq_take_drop]
theorem eqFields_step {d : Nat} {xs ys : Array Value} {f : Field} {fs : List Field} {w : World} {a b : Value} {r : Bool} (hn : f.name ≠ "_") (pa : (part f.type xs f.offset).run Tryd.prog w = .ok a w) (pb : (part f.type ys f.offset).run Tryd.prog w = .ok b w)
    (hr : (Op.equalIn d f.type a b).run Tryd.prog w = .ok r w) : (Op.eqFields d xs ys (f :: fs)).run Tryd.prog w = if r = true then (Op.eqFields d xs ys fs).run Tryd.prog w else .ok false w := by
  rw [Op.eqFields, if_pos hn]
  simp only [Sem.run_bind, pa, pb, hr, Result.andThen_ok]
  cases r with
  | false => rfl
  | true => rfl
theorem run_equal_tot (a b : Tot) (ha : okT a) (hb : okT b) (w : World) : (Op.equal 29 (totV a) (totV b)).run Tryd.prog w = .ok (eqT a b) w := by
  unfold Op.equal totV
  have h := run_equalIn_struct (P := Tryd.prog) w 9999 29 (totA a) (totA b) (by kernel_rfl) (by kernel_rfl)
  refine Eq.trans h ?_
  have hf := fieldsTot
  generalize (Tryd.prog.fieldsOf 29).toList = fs at hf ⊢
  have hl : fs.length = 3 := by simpa using congrArg List.length hf
  obtain ⟨f1, f2, f3, rfl⟩ : ∃ f1 f2 f3, fs = [f1, f2, f3] := by
    match fs, hl with
    | [a, b, c], _ => exact ⟨a, b, c, rfl⟩
  simp only [List.map_cons, List.map_nil, List.cons.injEq, Prod.mk.injEq, beq_eq_false_iff_ne, and_true] at hf
  obtain ⟨⟨n1, t1, o1⟩, ⟨n2, t2, o2⟩, n3, t3, o3⟩ := hf
  have pH : ∀ t : Tot, len32 t → (part 24 (totA t) 0).run Tryd.prog w = .ok (.agg (arrB 32 t.h)) w := fun t ht => run_part_agg aggIdT (by have := ext_list (totC_H ht); rwa [Array.toArray_toList] at this) w
  have pW : ∀ t : Tot, len32 t → (part 27 (totA t) 32).run Tryd.prog w = .ok (.agg (wcs t.w)) w := fun t ht => run_part_agg aggWd (by have := ext_list (totC_W ht); rwa [Array.toArray_toList] at this) w
  have pN : ∀ t : Tot, len32 t → (part 3 (totA t) 36).run Tryd.prog w = .ok (.int .i64 t.n) w := fun t ht => run_part_plain (P := Tryd.prog) w (by kernel_rfl) (totC_N ht)
  have e1 := run_equalIn_id 9997 a.h b.h ha.1.1 hb.1.1 w
  have e2 := run_equalIn_wide 9997 a.w b.w ha.2.1 hb.2.1 w
  have e3 := run_equalIn_int (P := Tryd.prog) w 9998 3 .i64 .i64 a.n b.n Tryd.underlying3
  have hd : eqT a b = (eqL a.h b.h && (eqN a.w b.w && (a.n == b.n))) := by
    unfold eqT eqL eqN
    rw [Bool.eq_iff_iff]
    simp only [decide_eq_true_eq, Bool.and_eq_true, beq_iff_eq]
    exact ⟨fun h => by subst h; exact ⟨rfl, rfl, rfl⟩, fun h => Tot.ext' h.1 h.2.1 h.2.2⟩
  rw [hd]
  rw [eqFields_step (a := .agg (arrB 32 a.h)) (b := .agg (arrB 32 b.h)) n1 (by rw [t1, o1]; exact pH a ha.len) (by rw [t1, o1]; exact pH b hb.len) (by rw [t1]; exact e1)]
  cases eqL a.h b.h with
  | false => rfl
  | true =>
    rw [if_pos rfl, eqFields_step (a := .agg (wcs a.w)) (b := .agg (wcs b.w)) n2 (by rw [t2, o2]; exact pW a ha.len) (by rw [t2, o2]; exact pW b hb.len) (by rw [t2]; exact e2)]
    cases eqN a.w b.w with
    | false => rfl
    | true =>
      rw [if_pos rfl, eqFields_step (a := .int .i64 a.n) (b := .int .i64 b.n) n3 (by rw [t3, o3]; exact pN a ha.len) (by rw [t3, o3]; exact pN b hb.len) (by rw [t3]; exact e3)]
      cases hab : (a.n == b.n) with
      | false => rfl
      | true => rfl
end Go.Proofs.YtbmiecogjmbciaaDoor

namespace Go.Proofs.YtbmiecogjmbciaaDoor
set_option maxRecDepth 8000
open Go.RowKit

section
variable {st e : TypeId} {z bytes : Nat} {zero : Value}
/-- the cells of a source -/
def SrcAt (u : World) (ad : Addr) (ys : List Value) : Prop := ∀ j c, ys[j]? = some c → u.cell? (ad.add j) = some c
theorem src_box {w0 u : World} {M : Boxes} {g : Nat} {t : TypeId} {cs : Array Value} {ys : List Value} (hu : EnvC w0 M u) (hm : (g, Obj.cells cs t (0, 0)) ∈ M) {k : Nat} (h : (cs.toList.drop k).take ys.length = ys) : SrcAt u ⟨g, k, none⟩ ys := by
  intro j c hc
  rw [Addr.add_mid]
  refine box_cell hu hm ?_
  have hj : j < ys.length := by
    rcases Nat.lt_or_ge j ys.length with h' | h'
    · exact h'
    · rw [List.getElem?_eq_none h'] at hc; cases hc
  rw [← h, List.getElem?_take_of_lt hj, List.getElem?_drop, Array.getElem?_toList] at hc
  exact hc
theorem appX_op (T : ElemT st e z bytes zero) {w0 u : World} {M : Boxes} (M0 : Boxes) {N : Boxes} {n m c : Nat} {xs : List Value} {v : Value} {ys : List Value} {ad : Addr} {a : Act} {dst : Option Tmp} {y x : Operand} {pos : String} {after : Array Edge} {gd : Option (Nat × Bool)}
    (hu : EnvX w0 u M) (hl : xs.length = n * z) (hy : ys.length = m * z) (h1 : ∀ u ∈ ys, u.oneCell' = true) (hF : FreshR e z n xs v N) (hN : ∀ y ∈ N, y ∈ M ∧ w0.heap.size ≤ y.1) (hc : SrcAt u ad ys) (hM0 : ∀ z ∈ M0, z ∈ M ∧ ∀ y ∈ N, z.1 ≠ y.1) (hs : n + m ≤ 2000000)
    (hyv : a.eval y = v) (hx : a.eval x = .slice (some ad) m c) :
    ∃ v' u' M', (execOp a.eval ⟨dst, .call { callee := .builtin .append, args := #[y, x], argTypes := #[st, st] }, st, pos, after, gd⟩).run Tryd.prog u = .ok (.value v') u' ∧ EnvX w0 u' M' ∧ GrownR w0 e z (n + m) (xs ++ ys) M0 v' M' := by
  have hown : u.ownsRow w0.heap.size e z v n xs := hF.own hl (fun y hy => ⟨(hN y hy).2, hu.box _ _ (hN y hy).1⟩)
  obtain ⟨v', u', hrun, hown', hgr, hob⟩ := appendR T (c := c) hown hy hc h1 hs hu.bel.size
  obtain ⟨N', hF', hN'⟩ := fresh_of_own hown'
  refine ⟨v', u', N' ++ M0, ?_, ?_, N', rfl, hF', ?_⟩
  · unfold execOp
    simp only [resolve, invoke, builtin, Sem.run_bind, Sem.run_pure, Result.andThen_ok, List.map_toArray, List.map_cons, List.map_nil, hyv, hx, hrun]
  · have hbel : Below w0.heap.size u u' := below_of_grown hgr (fun r hr => (hown.lt r hr).1) hu.bel.size
    refine ⟨hu.bel.trans hbel, fun g' o hm => ?_⟩
    rcases List.mem_append.1 hm with e | e
    · exact (hN' _ e).2.1
    · have hin := hM0 _ e
      rw [hgr.block g' (hu.lt hin.1) (fun e2 => by
        obtain ⟨o2, ho2⟩ := hF.block g' e2.symm
        exact hin.2 _ ho2 rfl)]
      exact hu.box _ _ hin.1
  · intro y hy
    refine ⟨(hN' y hy).1, fun z hz e => ?_⟩
    have hb := (hN' y hy).2.2
    have hin := hM0 z hz
    rcases hob with h | h
    · obtain ⟨o2, ho2⟩ := hF.block y.1 (h.symm.trans hb)
      exact hin.2 _ ho2 e
    · have h1 := hu.lt (g := z.1) (o := z.2) hin.1
      have h2 : u.heap.size = y.1 := Option.some.inj (h.symm.trans hb)
      omega
/-- an append to nothing makes memory -/
theorem FAt_appX (T : ElemT st e z bytes zero) {u : World} {m c : Nat} {ys : List Value} {ad : Addr} {a : Act} {dst : Option Tmp} {x : Operand} {pos : String} {after : Array Edge} {gd : Option (Nat × Bool)}
    (hy : ys.length = m * z) (h1 : ∀ u ∈ ys, u.oneCell' = true) (hc : SrcAt u ad ys) (hs : m ≤ 2000000) (hx : a.eval x = .slice (some ad) m c) :
    FAt Tryd.prog ⟨dst, .call { callee := .builtin .append, args := #[.const (.slice none 0 0), x], argTypes := #[st, st] }, st, pos, after, gd⟩ a (FreshR e z m ys) u := by
  have he : a.eval (.const (.slice none 0 0)) = .slice none 0 0 := rfl
  obtain ⟨v', u', hrun, hown, hgr, _⟩ := appendR T (c := c) (World.ownsRow_nil u u.heap.size e z) hy hc h1 (by omega) (Nat.le_refl _)
  rw [Nat.zero_add, List.nil_append] at hown
  obtain ⟨N, hF', hN'⟩ := fresh_of_own hown
  unfold FAt execOp
  simp only [resolve, invoke, builtin, Sem.run_bind, Sem.run_pure, Result.andThen_ok, List.map_toArray, List.map_cons, List.map_nil, he, hx, hrun]
  exact ⟨below_of_grown hgr (fun g hg => by cases hg) (Nat.le_refl _), N, hF', fun y hy => ⟨(hN' y hy).1, (hN' y hy).2.1⟩⟩
end
end Go.Proofs.YtbmiecogjmbciaaDoor

namespace Go.Proofs.YtbmiecogjmbciaaDoor
set_option maxRecDepth 8000
open Go.RowKit

theorem isIds.flat_take {l : List (List Int)} (h : isIds l) (k : Nat) : (l.take k).flatten = l.flatten.take (k * 32) := by
  induction l generalizing k with
  | nil => simp
  | cons x l ih =>
    have hx := (h x (List.mem_cons_self ..)).1
    cases k with
    | zero => simp
    | succ k =>
      rw [List.take_succ_cons, List.flatten_cons, List.flatten_cons, ih (fun y hy => h y (List.mem_cons_of_mem _ hy)), List.take_append, List.take_of_length_le (by omega : x.length ≤ (k + 1) * 32), hx, show (k + 1) * 32 - 32 = k * 32 by omega]
theorem isIds.flat_drop {l : List (List Int)} (h : isIds l) (k : Nat) : (l.drop k).flatten = l.flatten.drop (k * 32) := by
  induction l generalizing k with
  | nil => simp
  | cons x l ih =>
    have hx := (h x (List.mem_cons_self ..)).1
    cases k with
    | zero => simp
    | succ k =>
      rw [List.drop_succ_cons, List.flatten_cons, ih (fun y hy => h y (List.mem_cons_of_mem _ hy)), List.drop_append, List.drop_of_length_le (by omega : x.length ≤ (k + 1) * 32), hx, show (k + 1) * 32 - 32 = k * 32 by omega, List.nil_append]
theorem IdsIn.take {w : World} {B : Nat} {A : Option Addr} {l : List (List Int)} (h : IdsIn w B A l) (hl : isIds l) (k : Nat) : IdsIn w B A (l.take k) := by
  unfold IdsIn
  rw [hl.flat_take k]
  exact Bytes.take h _
/-- where a cut slice of ids begins -/
def cutI' (A : Option Addr) (l c : Nat) : Option Addr := if c = l then A else A.map (·.add (l * 32))
theorem add_add32 (a : Addr) (l j : Nat) : (a.add l).add j = a.add (l + j) := by
  unfold Addr.add
  by_cases h : l = 0
  · simp [h]
  · by_cases h2 : j = 0
    · simp [h, h2]
    · simp [h, h2, Nat.add_assoc]
theorem IdsIn.drop {w : World} {B : Nat} {A : Option Addr} {l : List (List Int)} (h : IdsIn w B A l) (hl : isIds l) (k c : Nat) (hc : l.length ≤ c) : IdsIn w B (cutI' A k c) (l.drop k) := by
  intro hp
  have e := hl.flat_drop k
  have hfl := hl.flat_len
  rw [e, List.length_drop] at hp
  obtain ⟨ad, rfl, hlt, hcell⟩ := h (by omega)
  have hne : ¬ c = k := by omega
  refine ⟨ad.add (k * 32), by simp [cutI', hne], by rw [block_of_add]; exact hlt, fun j v hv => ?_⟩
  rw [add_add32]
  refine hcell (k * 32 + j) v ?_
  rw [e, List.map_drop, List.getElem?_drop] at hv
  exact hv
section
variable {a : Act} {dst : Option Tmp} {x l h : Operand} {ty : TypeId} {pos : String} {after : Array Edge} {gd : Option (Nat × Bool)}
end
end Go.Proofs.YtbmiecogjmbciaaDoor

namespace Go.Proofs.YtbmiecogjmbciaaDoor
set_option maxRecDepth 8000
open Go.RowKit

theorem own_of_row {w : World} {g B n : Nat} {xs : List Int} (h : Row w g 5 (arrB n xs)) (hl : xs.length = n) (hB : B ≤ g) (hn : n ≤ maxLen) : OwnB w B (.slice (some ⟨g, 0, none⟩) n n) xs := by
  subst hl
  refine ⟨by simp, .inr ⟨g, xs.length, arrB xs.length xs, rfl, hB, h, Nat.le_refl _, hn, by rw [arrB_size _ _ (Nat.le_refl _)]; omega, ?_⟩⟩
  rw [List.take_of_length_le (by rw [Array.length_toList, arrB_size _ _ (Nat.le_refl _)]; omega)]
  simp [arrB]
theorem OwnB.cap {w : World} {B n c : Nat} {A : Option Addr} {xs : List Int} (h : OwnB w B (.slice A n c) xs) : n ≤ c ∧ c ≤ maxLen := by
  rcases h.2 with ⟨e, e2⟩ | ⟨g, cap, cur, e, _, _, h1, h2, _⟩
  · injection e with e1 e3 e4
    subst e3 e4
    exact ⟨Nat.le_refl _, Nat.zero_le _⟩
  · injection e with e1 e3 e4
    subst e3 e4
    exact ⟨h1, h2⟩
theorem OwnB.row {w : World} {B : Nat} {v : Value} {xs : List Int} (h : OwnB w B v xs) (hp : 0 < xs.length) : ∃ g cap, v = .slice (some ⟨g, 0, none⟩) xs.length cap ∧ xs.length ≤ cap ∧ cap ≤ maxLen ∧ B ≤ g ∧ g < w.heap.size ∧ ∀ j, j < xs.length → w.cell? ⟨g, j, none⟩ = some (.int .u8 (xs.getD j 0)) := by
  rcases h.2 with ⟨_, e2⟩ | ⟨g, cap, cur, rfl, h1, hg, h2, h3, _⟩
  · omega
  · refine ⟨g, cap, rfl, h2, h3, h1, Row.lt (t := 5) hg, fun j hj => ?_⟩
    have := h.cells (g := g) rfl j (.int .u8 (xs.getD j 0)) (by simp [List.getD, List.getElem?_eq_getElem hj, u8v])
    rwa [Addr.add_mid, Nat.zero_add] at this
theorem OwnB.up {w : World} {B n c : Nat} {A : Option Addr} {xs : List Int} (h : OwnB w B (.slice A n c) xs) : Bytes w w.heap.size A xs := h.bytes.2
/-- the zero id's cells, as the model writes them -/
theorem zero_cells : (#[Value.int .u8 0, Value.int .u8 0, Value.int .u8 0, Value.int .u8 0, Value.int .u8 0, Value.int .u8 0, Value.int .u8 0, Value.int .u8 0, Value.int .u8 0, Value.int .u8 0, Value.int .u8 0, Value.int .u8 0, Value.int .u8 0, Value.int .u8 0, Value.int .u8 0, Value.int .u8 0, Value.int .u8 0, Value.int .u8 0, Value.int .u8 0, Value.int .u8 0, Value.int .u8 0, Value.int .u8 0, Value.int .u8 0, Value.int .u8 0, Value.int .u8 0, Value.int .u8 0, Value.int .u8 0, Value.int .u8 0, Value.int .u8 0, Value.int .u8 0, Value.int .u8 0, Value.int .u8 0] : Array Value) = arrB 32 [] := rfl
end Go.Proofs.YtbmiecogjmbciaaDoor

namespace Go.Proofs.YtbmiecogjmbciaaDoor
set_option maxRecDepth 8000
open Go.RowKit

def OwnI (w : World) (B : Nat) (v : Value) (l : List (List Int)) : Prop := w.ownsRow B 24 32 v l.length (l.flatten.map u8v)
theorem OwnI.nil (w : World) (B : Nat) : OwnI w B (.slice none 0 0) [] := World.ownsRow_nil _ _ _ _
theorem OwnI.form {w : World} {B : Nat} {v : Value} {l : List (List Int)} (h : OwnI w B v l) : ∃ A c, v = .slice A l.length c ∧ l.length ≤ c ∧ c ≤ maxLen := by
  rcases h.2 with ⟨rfl, e⟩ | ⟨g, cap, cur, rfl, _, _, h1, h2, _⟩
  · exact ⟨none, 0, by rw [e], by omega, Nat.zero_le _⟩
  · exact ⟨_, cap, rfl, h1, h2⟩
theorem OwnI.ids {w : World} {B n c : Nat} {A : Option Addr} {l : List (List Int)} (h : OwnI w B (.slice A n c) l) : IdsIn w w.heap.size A l := by
  intro hp
  have hl := h.1
  rcases h.2 with ⟨e, e2⟩ | ⟨g, cap, cur, e, _, hg, _⟩
  · rw [List.length_map, e2] at hl
    omega
  · injection e with e1 e2 e3
    subst e1
    refine ⟨_, rfl, ?_, fun j v hv => h.cells (g := g) rfl j v hv⟩
    exact Row.lt (t := 24) hg
theorem OwnI.below {w w' : World} {B : Nat} {v : Value} {l : List (List Int)} (h : OwnI w B v l) (hb : Below w.heap.size w w') : OwnI w' B v l := by
  refine ⟨h.1, ?_⟩
  rcases h.2 with h0 | ⟨g, cap, cur, e, hg, hh, h1⟩
  · exact .inl h0
  · exact .inr ⟨g, cap, cur, e, hg, (hb.block g (Row.lt (t := 24) hh)).trans hh, h1⟩
theorem OwnI.less {w : World} {B B' : Nat} {v : Value} {l : List (List Int)} (h : OwnI w B v l) (hB : B' ≤ B) : OwnI w B' v l := by
  refine ⟨h.1, ?_⟩
  rcases h.2 with h0 | ⟨g, cap, cur, e, hg, hh, h1⟩
  · exact .inl h0
  · exact .inr ⟨g, cap, cur, e, by omega, hh, h1⟩
theorem infoIz : (Tryd.prog.info? 24).map (fun i => (i.zero, i.size, i.bytes)) = some (some (.agg (arrB 32 [])), 32, 32) := by kernel_rfl
/-- an append of one id -/
theorem OwnI.append {w : World} {B : Nat} {v : Value} {l : List (List Int)} (h : OwnI w B v l) {x : List Int} {ad : Addr} (hx : x.length = 32) (hc : ∀ j, j < 32 → w.cell? (ad.add j) = some (.int .u8 (x.getD j 0))) (hs : l.length ≤ 1000000) (hB : B ≤ w.heap.size) :
    ∃ v' w', (Builtin.append_ #[41, 41] 41 #[v, .slice (some ad) 1 1]).run Tryd.prog w = .ok v' w' ∧ OwnI w' B v' (l ++ [x]) ∧ w.grownBy w' v.ownBlock ∧ (v'.ownBlock = v.ownBlock ∨ v'.ownBlock = some w.heap.size) := by
  cases hq : Tryd.prog.info? 24 with
  | none => have := infoIz; rw [hq] at this; cases this
  | some i =>
    have hi := infoIz
    rw [hq] at hi
    simp only [Option.map_some, Option.some.injEq, Prod.mk.injEq] at hi
    obtain ⟨h1, h2, h3⟩ := hi
    obtain ⟨v', w', hrun, hown', hg, _, ho⟩ := run_append_own_at (P := Tryd.prog) w B 41 41 24 i (.agg (arrB 32 [])) 32 32 Tryd.underlying41 hq h1 h2 h3 (arrB_size _ _ (by simp)) (by decide) v l.length (l.flatten.map u8v) h
      ad 1 1 (x.map u8v) (by simp [hx]) (fun j u hu => by
        have hj : j < x.length := by
          rcases Nat.lt_or_ge j x.length with h' | h'
          · exact h'
          · rw [List.getElem?_eq_none (by simpa using h')] at hu
            cases hu
        rw [hc j (by omega)]
        rw [List.getElem?_map, List.getElem?_eq_getElem hj] at hu
        simp only [Option.map_some] at hu
        rw [← hu]
        simp [u8v, List.getD, List.getElem?_eq_getElem hj]) (by intro u hu; obtain ⟨z, _, rfl⟩ := List.mem_map.1 hu; rfl) (by unfold maxLen; omega) (by omega) hB
    refine ⟨v', w', hrun, ?_, hg, ho⟩
    unfold OwnI
    rw [List.length_append, List.flatten_append, List.map_append]
    simpa using hown'
/-- ids of one's own, as boxes -/
def FreshI (l : List (List Int)) (x : Value) (N : Boxes) : Prop :=
  (∃ g cap cur, x = .slice (some ⟨g, 0, none⟩) l.length cap ∧ N = [(g, Obj.cells cur 24 (0, 0))] ∧ l.length ≤ cap ∧ cap ≤ maxLen ∧ cur.size = cap * 32 ∧ cur.toList.take (l.length * 32) = l.flatten.map u8v) ∨
  (x = .slice none 0 0 ∧ N = [] ∧ l = [])
theorem FreshI.own {w : World} {B : Nat} {v : Value} {l : List (List Int)} {N : Boxes} (h : FreshI l v N) (hl : isIds l) (hN : ∀ y ∈ N, B ≤ y.1 ∧ w.heap[y.1]? = some y.2) : OwnI w B v l := by
  refine ⟨by rw [List.length_map]; exact hl.flat_len, ?_⟩
  rcases h with ⟨g, cap, cur, rfl, rfl, h3⟩ | ⟨rfl, rfl, rfl⟩
  · obtain ⟨k1, k2⟩ := hN _ (List.mem_singleton.2 rfl)
    exact .inr ⟨g, cap, cur, rfl, k1, k2, h3⟩
  · exact .inl ⟨rfl, rfl⟩
theorem FreshI.full {v : Value} {l : List (List Int)} {N : Boxes} (h : FreshI l v N) (hp : 0 < l.length) : ∃ g cap cur, v = .slice (some ⟨g, 0, none⟩) l.length cap ∧ N = [(g, Obj.cells cur 24 (0, 0))] ∧ l.length ≤ cap ∧ cap ≤ maxLen ∧ cur.size = cap * 32 ∧ cur.toList.take (l.length * 32) = l.flatten.map u8v := by
  rcases h with h | ⟨_, _, rfl⟩
  · exact h
  · cases hp
theorem FreshI.block {v : Value} {l : List (List Int)} {N : Boxes} (h : FreshI l v N) : ∀ g, v.ownBlock = some g → ∃ o, (g, o) ∈ N := by
  intro g hg
  rcases h with ⟨g', cap, cur, rfl, rfl, h3⟩ | ⟨rfl, rfl, rfl⟩
  · cases hg
    exact ⟨_, List.mem_singleton.2 rfl⟩
  · cases hg
end Go.Proofs.YtbmiecogjmbciaaDoor

namespace Go.Proofs.YtbmiecogjmbciaaDoor
set_option maxRecDepth 8000
open Go.RowKit

section
variable {a : Act} {dst : Option Tmp} {x : Operand} {ty : TypeId} {pos : String} {after : Array Edge} {gd : Option (Nat × Bool)}
theorem new_id (a : Act) : NewAt Tryd.prog ⟨dst, .alloc 24, ty, pos, after, gd⟩ a (.cells (arrB 32 []) 24 (0, 0)) := fun u => by
  rw [← zero_cells]
  go_simp
theorem load_run_op {ad : Addr} {v : Value} (u : World) (hr : (loadVar 24 ad).run Tryd.prog u = .ok v u) (hx : a.eval x = .pointer (some ad)) :
    (execOp a.eval ⟨dst, .load 24 x, ty, pos, after, gd⟩).run Tryd.prog u = .ok (.value v) u := by
  unfold execOp
  simp only [hx, Instr.loadAt, Instr.sureAddr, Sem.run_bind, Sem.run_pure, Result.andThen_ok, hr]
theorem neq_id_op {y : Operand} {xs ys : List Int} (hxl : xs.length = 32) (hyl : ys.length = 32) (u : World) (hx : a.eval x = idv xs) (hy : a.eval y = idv ys) :
    (execOp a.eval ⟨dst, .binOp .neq 24 x y 24, ty, pos, after, gd⟩).run Tryd.prog u = .ok (.value (.bool (!eqL xs ys))) u := by
  unfold idv at hx hy
  have h : (Op.equalIn 10000 24 (.agg (arrB 32 xs)) (.agg (arrB 32 ys))).run Tryd.prog u = .ok (eqL xs ys) u := run_equal_id xs ys hxl hyl u
  unfold execOp
  simp only [hx, hy]
  go_simp
theorem neqb_op {y : Operand} {xs ys : List Int} {b : Bool} (hxl : xs.length = 32) (hyl : ys.length = 32) (hb : (!eqL xs ys) = b) (u : World) (hx : a.eval x = idv xs) (hy : a.eval y = idv ys) :
    (execOp a.eval ⟨dst, .binOp .neq 24 x y 24, ty, pos, after, gd⟩).run Tryd.prog u = .ok (.value (.bool b)) u := by
  rw [← hb]
  exact neq_id_op hxl hyl u hx hy
/-- an id in a box -/
theorem box_load {w0 u : World} {M : Boxes} {g : Nat} {t : TypeId} {r : List Int} (hu : EnvC w0 M u) (hm : (g, Obj.cells (arrB 32 r) t (0, 0)) ∈ M) (hr : r.length = 32) : (loadVar 24 ⟨g, 0, none⟩).run Tryd.prog u = .ok (idv r) u :=
  run_loadId hr fun j hj => by
    have hj' : j < r.length := by omega
    rw [Addr.add_mid, Nat.zero_add, Row.cell (EnvX.row hu hm)]
    simp [arrB, hr, hj', u8v, List.getElem?_eq_getElem hj']
end
end Go.Proofs.YtbmiecogjmbciaaDoor

namespace Go.Proofs.YtbmiecogjmbciaaDoor
set_option maxRecDepth 8000
open Go.RowKit

section
variable {a : Act} {dst : Option Tmp} {x l h : Operand} {ty : TypeId} {pos : String} {after : Array Edge} {gd : Option (Nat × Bool)}
end
/-- the bytes of a box -/
theorem box_bytes {w0 u : World} {M : Boxes} {g cap : Nat} {cur : Array Value} {xs : List Int} (hu : EnvC w0 M u) (hm : (g, Obj.cells cur 5 (0, 0)) ∈ M) (h : xs.length ≤ cap ∧ cap ≤ maxLen ∧ cur.size = cap * 1 ∧ cur.toList.take (xs.length * 1) = xs.map u8v) : Bytes u u.heap.size (some ⟨g, 0, none⟩) xs := by
  have : OwnB u 0 (.slice (some ⟨g, 0, none⟩) xs.length cap) xs := ⟨by simp, .inr ⟨g, cap, cur, rfl, Nat.zero_le _, EnvX.box hu g _ hm, h.1, h.2.1, h.2.2.1, h.2.2.2⟩⟩
  exact this.bytes.2
end Go.Proofs.YtbmiecogjmbciaaDoor
