/- The walk of Split. -/
import Derived.Test.YthgjfmdbipmhoaaB7
import Derived.Test.YthgjfmdbipmhoaaRound
namespace Go.Proofs.Ythgjfmdbipmhoaa
open Go.RowKit Go.Shelf

theorem parts_any (A : Option Addr) (n c : Nat) (i k : Int) (w : World) :
    Calls Try.prog 18 #[.slice A n c, .int .i64 i, .int .i64 k] w fun e w' => e = .returned (.func (.func 21) #[] #[.pointer (some ⟨w.heap.size + 1, 0, none⟩), .pointer (some ⟨w.heap.size + 1 + 1, 0, none⟩), .pointer (some ⟨w.heap.size, 0, none⟩)]) ∧
      w' = ((w.alloc (.cells #[.slice A n c] 23)).alloc (.cells #[.int .i64 i] 3)).alloc (.cells #[.int .i64 k] 3) := by
  go_enter Try.func18, Try.ntmps18
  go_wp2
  go_ret
  exact ⟨rfl, rfl⟩
theorem parts_stops (n : Nat) (h1n : 1 ≤ n) (Ba Bc Bb n₀ : Nat) (A : Option Addr) (m c cnt at0 : Nat) (xs : List Int) (hl : xs.length = m) (hc : m ≤ c) (hn : c ≤ maxLen) (hB : isB xs) (hcnt : cnt ≤ 255) (hat : at0 ≤ m) (w : World)
    (hBa : Boxed w Ba 3 (.int .i64 (at0 : Int))) (hBc : Boxed w Bc 3 (.int .i64 (cnt : Int))) (hBb : Boxed w Bb 23 (.slice A m c)) (hx : Bytes w n₀ A xs) (hn₀ : n₀ ≤ w.heap.size) :
    SeqStopsK Fence.wide n Try.prog 21 #[.pointer (some ⟨Ba, 0, none⟩), .pointer (some ⟨Bc, 0, none⟩), .pointer (some ⟨Bb, 0, none⟩)] (fun p : Pt xs => encP A p) (KpB n₀ Bb) (fun ys => ys = partsG xs cnt at0) (fun _ => True) cnt w := fun l J Jx W hW _ _ hY h0 =>
  parts1_in n h1n l Ba Bc Bb n₀ A m c cnt at0 xs hl hc hn hB hcnt hat J Jx hY W ((hW.cell (p := ⟨Ba, 0, none⟩) hBa.lt).trans hBa.cell) ((hW.cell (p := ⟨Bc, 0, none⟩) hBc.lt).trans hBc.cell) ((hW.block Bb hBb.lt).trans hBb) (hx.below (hW.mono hn₀)) h0 (Nat.le_trans hn₀ hW.size)
theorem load_rows (u : World) {g : Nat} {v : Value} (h : u.cell? ⟨g, 0, none⟩ = some v) {a : Act} {dst : Option Tmp} {x : Operand} {ty : TypeId} {pos : String} {after : Array Edge} {gd : Option (Nat × Bool)} (hx : a.eval x = .pointer (some ⟨g, 0, none⟩)) :
    (execOp a.eval ⟨dst, .load 29 x, ty, pos, after, gd⟩).run Try.prog u = .ok (.value v) u := by
  unfold execOp
  simp only [hx]
  go_simp
theorem store_rows (u : World) {g g' k c : Nat} {v : Value} (h : u.cell? ⟨g, 0, none⟩ = some v) (hf : u.frozen? ⟨g, 0, none⟩ = false) {a : Act} {dst : Option Tmp} {x y : Operand} {ty : TypeId} {pos : String} {after : Array Edge} {gd : Option (Nat × Bool)} (hx : a.eval x = .pointer (some ⟨g, 0, none⟩)) (hy : a.eval y = .slice (some ⟨g', 0, none⟩) k c) :
    (execOp a.eval ⟨dst, .store 29 x y, ty, pos, after, gd⟩).run Try.prog u = .ok .skip (u.setCell ⟨g, 0, none⟩ (.slice (some ⟨g', 0, none⟩) k c)) := by
  unfold execOp
  simp only [hx, hy]
  go_simp
theorem store_int (u : World) {g : Nat} {i : Int} {v : Value} (h : u.cell? ⟨g, 0, none⟩ = some v) (hf : u.frozen? ⟨g, 0, none⟩ = false) {a : Act} {dst : Option Tmp} {x y : Operand} {ty : TypeId} {pos : String} {after : Array Edge} {gd : Option (Nat × Bool)} (hx : a.eval x = .pointer (some ⟨g, 0, none⟩)) (hy : a.eval y = .int .i64 i) :
    (execOp a.eval ⟨dst, .store 3 x y, ty, pos, after, gd⟩).run Try.prog u = .ok .skip (u.setCell ⟨g, 0, none⟩ (.int .i64 i)) := by
  unfold execOp
  simp only [hx, hy]
  go_simp
theorem build_one (u : World) {A : Option Addr} {n c : Nat} {a : Act} {dst : Option Tmp} {x : Operand} {ty : TypeId} {pos : String} {after : Array Edge} {gd : Option (Nat × Bool)} (hx : a.eval x = .slice A n c) :
    (execOp a.eval ⟨dst, .buildSlice 29 1 #[(0, x)], ty, pos, after, gd⟩).run Try.prog u = .ok (.value (.slice (some ⟨u.heap.size, 0, none⟩) 1 1)) (u.alloc (.cells #[.slice A n c] 23)) := by
  unfold execOp
  simp only [List.map_toArray, List.map_cons, List.map_nil, hx]
  go_simp
theorem yields_move {P : Program} {ops : Array Oper} {a : Act} {dst : Option Tmp} {x : Operand} {v : Value} {ty : TypeId} {pos : String} {after : Array Edge} (hx : a.eval x = v) : Yields P ops ⟨dst, .move x, ty, pos, after, none⟩ v a :=
  .inl ⟨rfl, fun w => by unfold execOp; simp only [hx, Sem.run_pure]⟩
theorem split_start (A : Option Addr) (n c cnt : Nat) (hcnt : cnt ≤ 255) (w W0 : World) (hW : W0 = (((((w.alloc (.cells (madeCells #[.slice none 0 0] cnt) 23)).alloc (.cells #[.slice (some ⟨w.heap.size, 0, none⟩) 0 cnt] 29)).alloc (.cells #[.int .i64 1] 3)).alloc (.cells #[.slice A n c] 23)).alloc (.cells #[.int .i64 1] 3)).alloc (.cells #[.int .i64 cnt] 3)) :
    W0.heap.size = w.heap.size + 6 ∧ Below w.heap.size w W0 ∧ Boxed W0 (w.heap.size + 1) 29 (.slice (some ⟨w.heap.size, 0, none⟩) 0 cnt) ∧ Boxed W0 (w.heap.size + 1 + 1) 3 (.int .i64 1) ∧ Boxed W0 (w.heap.size + 1 + 1 + 1) 23 (.slice A n c) ∧ Boxed W0 (w.heap.size + 1 + 1 + 1 + 1) 3 (.int .i64 1) ∧ Boxed W0 (w.heap.size + 1 + 1 + 1 + 1 + 1) 3 (.int .i64 cnt) ∧
      W0.ownsRow w.heap.size 23 1 (.slice (some ⟨w.heap.size, 0, none⟩) 0 cnt) 0 [] := by
  obtain ⟨v1, h1⟩ : ∃ v, v = w.alloc (.cells (madeCells #[.slice none 0 0] cnt) 23) := ⟨_, rfl⟩
  obtain ⟨v2, h2⟩ : ∃ v, v = v1.alloc (.cells #[.slice (some ⟨w.heap.size, 0, none⟩) 0 cnt] 29) := ⟨_, rfl⟩
  obtain ⟨v3, h3⟩ : ∃ v, v = v2.alloc (.cells #[.int .i64 1] 3) := ⟨_, rfl⟩
  obtain ⟨v4, h4⟩ : ∃ v, v = v3.alloc (.cells #[.slice A n c] 23) := ⟨_, rfl⟩
  obtain ⟨v5, h5⟩ : ∃ v, v = v4.alloc (.cells #[.int .i64 1] 3) := ⟨_, rfl⟩
  have s1 : v1.heap.size = w.heap.size + 1 := by rw [h1, World.size_alloc]
  have s2 : v2.heap.size = w.heap.size + 1 + 1 := by rw [h2, World.size_alloc, s1]
  have s3 : v3.heap.size = w.heap.size + 1 + 1 + 1 := by rw [h3, World.size_alloc, s2]
  have s4 : v4.heap.size = w.heap.size + 1 + 1 + 1 + 1 := by rw [h4, World.size_alloc, s3]
  have s5 : v5.heap.size = w.heap.size + 1 + 1 + 1 + 1 + 1 := by rw [h5, World.size_alloc, s4]
  rw [← h1, ← h2, ← h3, ← h4, ← h5] at hW
  have o1 : v1.ownsRow w.heap.size 23 1 (.slice (some ⟨w.heap.size, 0, none⟩) 0 cnt) 0 [] := by
    rw [h1]
    exact World.ownsRow_made w _ cnt (Nat.le_refl _) (by unfold maxLen; omega) (by rw [size_madeCells]; omega)
  have b2 := Boxed.new v1 29 (.slice (some ⟨w.heap.size, 0, none⟩) 0 cnt)
  have b3 := Boxed.new v2 3 (.int .i64 1)
  have b4 := Boxed.new v3 23 (.slice A n c)
  have b5 := Boxed.new v4 3 (.int .i64 1)
  have b6 := Boxed.new v5 3 (.int .i64 cnt)
  rw [← h2, s1] at b2
  rw [← h3, s2] at b3
  rw [← h4, s3] at b4
  rw [← h5, s4] at b5
  rw [← hW, s5] at b6
  have o2 := o1.alloc (.cells #[.slice (some ⟨w.heap.size, 0, none⟩) 0 cnt] 29)
  rw [← h2] at o2
  have o3 := o2.alloc (.cells #[.int .i64 1] 3)
  rw [← h3] at o3
  have o4 := o3.alloc (.cells #[.slice A n c] 23)
  rw [← h4] at o4
  have o5 := o4.alloc (.cells #[.int .i64 1] 3)
  rw [← h5] at o5
  have o6 := o5.alloc (.cells #[.int .i64 cnt] 3)
  rw [← hW] at o6
  have k2 : ∀ {B t v}, Boxed v2 B t v → Boxed v3 B t v := fun h => by rw [h3]; exact h.alloc _
  have k3 : ∀ {B t v}, Boxed v3 B t v → Boxed v4 B t v := fun h => by rw [h4]; exact h.alloc _
  have k4 : ∀ {B t v}, Boxed v4 B t v → Boxed v5 B t v := fun h => by rw [h5]; exact h.alloc _
  have k5 : ∀ {B t v}, Boxed v5 B t v → Boxed W0 B t v := fun h => by rw [hW]; exact h.alloc _
  refine ⟨by rw [hW, World.size_alloc, s5], ?_, k5 (k4 (k3 (k2 b2))), k5 (k4 (k3 b3)), k5 (k4 b4), k5 b5, b6, o6⟩
  have q1 : Below w.heap.size w v1 := by rw [h1]; exact (Below.refl _ _).alloc (Nat.le_refl _) _
  have q2 : Below w.heap.size w v2 := by rw [h2]; exact q1.alloc (by omega) _
  have q3 : Below w.heap.size w v3 := by rw [h3]; exact q2.alloc (by omega) _
  have q4 : Below w.heap.size w v4 := by rw [h4]; exact q3.alloc (by omega) _
  have q5 : Below w.heap.size w v5 := by rw [h5]; exact q4.alloc (by omega) _
  rw [hW]
  exact q5.alloc (by omega) _
theorem si_own (W0 : World) (m0 n1 Bl Ba Bb : Nat) (xs : List Int) (h1 : m0 ≤ W0.heap.size) (hBb : Bb < W0.heap.size) : OwnFrom W0.heap.size (fun (pre : List (Pt xs)) W => ∃ lv vs, SI W0 m0 n1 Bl Ba Bb pre lv vs W) := by
  rintro pre X Y row ⟨lv, vs, h⟩ hg hr
  have hx := h.kp.1.size
  have nc : ∀ {B : Nat} {t : TypeId} {v : Value}, Boxed X B t v → some B ≠ row := fun hb e => by
    obtain ⟨_, o, ho, hc⟩ := hr _ e.symm
    rw [show X.heap[_]? = _ from hb] at ho
    cases ho
    cases hc
  have nr : ∀ {base size k : Nat} {e : TypeId} {v : Value} {us : List Value}, X.ownsRow base e size v k us → v.ownBlock = none ∨ v.ownBlock ≠ row := fun hb => by
    rename_i v us
    cases hv : v.ownBlock with
    | none => exact .inl rfl
    | some g =>
      refine .inr fun e => ?_
      obtain ⟨_, o, ho, hc⟩ := hr g e.symm
      rw [row_cells hb g o hv ho] at hc
      cases hc
  refine ⟨lv, vs, h.bl.kept hg (nc h.bl), h.ba.kept hg (nc h.ba), h.own.kept hg (nr h.own), h.nb, ?_, ?_, Nat.le_trans h.sz hg.size⟩
  · intro k p hp
    obtain ⟨v, hv, ho⟩ := h.el k p hp
    exact ⟨v, hv, ownB_kept ho hg (nr ho)⟩
  · refine h.kp.trans ⟨below_of_grown hg (fun r e => Nat.le_trans h1 (hr r e).1) (by omega), fun o ho => ?_⟩
    refine (hg.block Bb (Array.getElem?_eq_some_iff.1 ho).1 (fun e => ?_)).trans ho
    have := (hr Bb e.symm).1
    omega
end Go.Proofs.Ythgjfmdbipmhoaa
