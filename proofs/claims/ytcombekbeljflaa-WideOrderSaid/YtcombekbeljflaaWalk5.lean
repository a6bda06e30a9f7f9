/- The walk of Div. -/
import Derived.Test.YtcombekbeljflaaWalk4
import Derived.Deep.RegionHeld3
import Derived.Deep.DrawnRows
import Derived.Deep.RegionLaw
import Derived.Deep.DeepCutAuto
namespace Go.Proofs.Ytcombekbeljflaa
open Go.RowKit
attribute [local go_sem ↓] Go.wp_at_zero Go.wp_at_succ

/-- the first k bits of a number -/
def topN (a k : Nat) : Nat := a / 2 ^ (256 - k)
theorem top_zero (a : Nat) (h : a < Big) : topN a 0 = 0 := by
  unfold topN
  rw [Big_eq] at h
  exact Nat.div_eq_of_lt h
theorem top_all (a : Nat) : topN a 256 = a := by
  unfold topN
  simp
theorem top_step (a k : Nat) (h : k < 256) : topN a (k + 1) = 2 * topN a k + bitN a (255 - k) := by
  unfold topN bitN
  have e : 256 - k = (256 - (k + 1)) + 1 := by omega
  rw [e, Nat.pow_succ, ← Nat.div_div_eq_div_mul, show 255 - k = 256 - (k + 1) by omega]
  omega
theorem top_lt (a k : Nat) (h : a < Big) (hk : k ≤ 256) : topN a k < 2 ^ k := by
  unfold topN
  rw [Big_eq] at h
  rw [Nat.div_lt_iff_lt_mul (Nat.two_pow_pos _), ← Nat.pow_add, show k + (256 - k) = 256 by omega]
  exact h
theorem bitN_lt (a i : Nat) : bitN a i < 2 := Nat.mod_lt _ (by omega)
/-- the last bit of an even number set -/
theorem or_even (v b : Nat) (hv : v < 18446744073709551616) (h2 : v % 2 = 0) (hb : b < 2) : bits .or .u64 (v : Int) (b : Int) = ((v + b : Nat) : Int) := by
  rw [bits_or_u64_nat v b hv (by omega)]
  congr 1
  have h := Nat.shiftLeft_add_eq_or_of_lt (a := v / 2) (b := b) (i := 1) (by omega)
  rw [Nat.shiftLeft_eq] at h
  rw [show v / 2 * 2 ^ 1 = v by omega] at h
  exact h.symm
theorem W0 (m : Nat) : W m 0 = m % 18446744073709551616 := by
  unfold W
  simp
/-- the first word of an even number gets a bit -/
theorem wc_set_bit (v b : Nat) (hv : v < Big) (h2 : v % 2 = 0) (hb : b < 2) : (wcs v).setIfInBounds 0 (.int .u64 (bits .or .u64 (W v 0) b)) = wcs (v + b) := by
  obtain ⟨x, y, z, u, rfl, hx, hy, hz, hu⟩ := split4 v hv
  have e : mk4 x y z u + b = mk4 (x + b) y z u := by unfold mk4; omega
  have hx2 : x % 2 = 0 := by unfold mk4 at h2; omega
  have ew : W (mk4 x y z u) 0 = x := by rw [W0]; unfold mk4; omega
  rw [e, ew, or_even x b hx hx2 hb]
  unfold wcs
  rw [wl_mk4 x y z u hx hy hz hu, wl_mk4 (x + b) y z u (by omega) hy hz hu]
  rfl
theorem div_round (a b k : Nat) (hb : 0 < b) (hB : b < Big) (l v : Nat) (hl : l = topN a k % b) (hv : v = 2 * l + bitN a (255 - k)) (hk : k < 256) :
    (b ≤ v → topN a (k + 1) / b = 2 * (topN a k / b) + 1 ∧ topN a (k + 1) % b = v - b) ∧ (v < b → topN a (k + 1) / b = 2 * (topN a k / b) ∧ topN a (k + 1) % b = v) := by
  have ht := top_step a k hk
  have hlb : l < b := hl ▸ Nat.mod_lt _ hb
  have hbit := bitN_lt a (255 - k)
  have e : topN a (k + 1) = b * (2 * (topN a k / b)) + v := by
    rw [ht, hv, hl]
    have := Nat.div_add_mod (topN a k) b
    generalize topN a k / b = q at *
    rw [show b * (2 * q) = 2 * (b * q) by rw [Nat.mul_left_comm]]
    omega
  constructor
  · intro h
    have e2 : topN a (k + 1) = (v - b) + b * (2 * (topN a k / b) + 1) := by
      rw [e, Nat.mul_add, Nat.mul_one]; omega
    have hlt : v - b < b := by omega
    rw [e2, Nat.add_mul_div_left _ _ hb, Nat.add_mul_mod_self_left, Nat.div_eq_of_lt hlt, Nat.mod_eq_of_lt hlt]
    exact ⟨by omega, rfl⟩
  · intro h
    rw [e, Nat.mul_add_div hb, Nat.mul_add_mod, Nat.div_eq_of_lt h, Nat.mod_eq_of_lt h]
    exact ⟨by omega, rfl⟩
/-- what lies in memory at the head of a round -/
structure DivAt (w u : World) (g a b q l : Nat) : Prop where
  a : u.heap[g]? = some (.cells (wcs a) 24 (0, 0))
  b : u.heap[g + 1]? = some (.cells (wcs b) 24 (0, 0))
  r : u.heap[g + 1 + 1]? = some (.cells (wcs 0) 24 (0, 0))
  s : u.heap[g + 1 + 1 + 1]? = some (.cells (wcs 0) 24 (0, 0))
  q : u.heap[g + 1 + 1 + 1 + 1]? = some (.cells (wcs q) 24 (0, 0))
  l : u.heap[g + 1 + 1 + 1 + 1 + 1]? = some (.cells (wcs l) 24 (0, 0))
  lt : g + 1 + 1 + 1 + 1 + 1 < u.heap.size
  bel : Below g w u
theorem DivAt.below {w u v : World} {g a b q l : Nat} (h : DivAt w u g a b q l) (hb : Below u.heap.size u v) : DivAt w v g a b q l := by
  have := h.lt
  exact ⟨(hb.block _ (by omega)).trans h.a, (hb.block _ (by omega)).trans h.b, (hb.block _ (by omega)).trans h.r, (hb.block _ (by omega)).trans h.s, (hb.block _ (by omega)).trans h.q, (hb.block _ (by omega)).trans h.l, Nat.lt_of_lt_of_le h.lt hb.size, h.bel.trans (hb.mono (by omega))⟩
theorem DivAt.setL {w u : World} {g a b q l l' : Nat} (h : DivAt w u g a b q l) : DivAt w (u.setRow (g + 1 + 1 + 1 + 1 + 1) (wcs l')) g a b q l' := by
  have := h.lt
  exact ⟨(setRow_other _ _ _ _ (by omega)).trans h.a, (setRow_other _ _ _ _ (by omega)).trans h.b, (setRow_other _ _ _ _ (by omega)).trans h.r, (setRow_other _ _ _ _ (by omega)).trans h.s, (setRow_other _ _ _ _ (by omega)).trans h.q, setRow_heap _ _ (wcs l) _ _ _ h.l, by rw [size_setRow]; exact h.lt, below_setRow h.bel (by omega) _⟩
theorem DivAt.setQ {w u : World} {g a b q l q' : Nat} (h : DivAt w u g a b q l) : DivAt w (u.setRow (g + 1 + 1 + 1 + 1) (wcs q')) g a b q' l := by
  have := h.lt
  exact ⟨(setRow_other _ _ _ _ (by omega)).trans h.a, (setRow_other _ _ _ _ (by omega)).trans h.b, (setRow_other _ _ _ _ (by omega)).trans h.r, (setRow_other _ _ _ _ (by omega)).trans h.s, setRow_heap _ _ (wcs q) _ _ _ h.q, (setRow_other _ _ _ _ (by omega)).trans h.l, by rw [size_setRow]; exact h.lt, below_setRow h.bel (by omega) _⟩
theorem DivAt.drew {w u : World} {g a b q l : Nat} (h : DivAt w u g a b q l) : DivAt w u.drew g a b q l := ⟨h.a, h.b, h.r, h.s, h.q, h.l, h.lt, h.bel.drew⟩
theorem DivAt.alloc {w u : World} {g a b q l : Nat} (h : DivAt w u g a b q l) (o : Obj) : DivAt w (u.alloc o) g a b q l := h.below ((Below.refl _ _).alloc (Nat.le_refl _) _)
/-- the first word of what is left gets its bit -/
theorem DivAt.bitL {w u : World} {g a b q l c : Nat} (h : DivAt w u g a b q l) (hl : l < Big) (h2 : l % 2 = 0) (hc : c < 2) : DivAt w (u.setCell ⟨g + 1 + 1 + 1 + 1 + 1, 0, none⟩ (.int .u64 (bits .or .u64 (W l 0) c))) g a b q (l + c) := by
  have := h.lt
  have ra : Row u g 24 (wcs a) := h.a
  have rb : Row u (g + 1) 24 (wcs b) := h.b
  have rr : Row u (g + 1 + 1) 24 (wcs 0) := h.r
  have rs : Row u (g + 1 + 1 + 1) 24 (wcs 0) := h.s
  have rq : Row u (g + 1 + 1 + 1 + 1) 24 (wcs q) := h.q
  have rl : Row u (g + 1 + 1 + 1 + 1 + 1) 24 (wcs l) := h.l
  exact ⟨ra.farAt (by omega) _, rb.farAt (by omega) _, rr.farAt (by omega) _, rs.farAt (by omega) _, rq.farAt (by omega) _, by rw [← wc_set_bit l c hl h2 hc]; exact rl.put 0 _, by simpa using h.lt, h.bel.setCell (by simp; omega) _⟩
theorem DivAt.bitQ {w u : World} {g a b q l c : Nat} (h : DivAt w u g a b q l) (hl : q < Big) (h2 : q % 2 = 0) (hc : c < 2) : DivAt w (u.setCell ⟨g + 1 + 1 + 1 + 1, 0, none⟩ (.int .u64 (bits .or .u64 (W q 0) c))) g a b (q + c) l := by
  have := h.lt
  have ra : Row u g 24 (wcs a) := h.a
  have rb : Row u (g + 1) 24 (wcs b) := h.b
  have rr : Row u (g + 1 + 1) 24 (wcs 0) := h.r
  have rs : Row u (g + 1 + 1 + 1) 24 (wcs 0) := h.s
  have rq : Row u (g + 1 + 1 + 1 + 1) 24 (wcs q) := h.q
  have rl : Row u (g + 1 + 1 + 1 + 1 + 1) 24 (wcs l) := h.l
  exact ⟨ra.farAt (by omega) _, rb.farAt (by omega) _, rr.farAt (by omega) _, rs.farAt (by omega) _, by rw [← wc_set_bit q c hl h2 hc]; exact rq.put 0 _, rl.farAt (by omega) _, by simpa using h.lt, h.bel.setCell (by simp; omega) _⟩
end Go.Proofs.Ytcombekbeljflaa
