/- Numbers that lie in boxes of their own, whatever is made beside them. -/
import Derived.Test.YtcombekbeljflaaWalk6
namespace Go.Proofs.Ytcombekbeljflaa
open Go.RowKit

/-- w has grown to u, and each block of the list holds its number. -/
structure Env (w u : World) (l : List (Nat × Nat)) : Prop where
  bel : Below w.heap.size w u
  box : ∀ g n, (g, n) ∈ l → u.heap[g]? = some (.cells (wcs n) 24 (0, 0))
theorem Env.lt {w u : World} {l : List (Nat × Nat)} (h : Env w u l) {g n : Nat} (hm : (g, n) ∈ l) : g < u.heap.size := by
  have r : Row u g 24 (wcs n) := h.box g n hm
  exact r.lt
theorem Env.below {w u v : World} {l : List (Nat × Nat)} (h : Env w u l) (hb : Below u.heap.size u v) : Env w v l :=
  ⟨h.bel.trans (hb.mono h.bel.size), fun g n hm => (hb.block g (h.lt hm)).trans (h.box g n hm)⟩
theorem Env.drew {w u : World} {l : List (Nat × Nat)} (h : Env w u l) : Env w u.drew l := ⟨h.bel.drew, h.box⟩
theorem Env.drewN {w u : World} {l : List (Nat × Nat)} (h : Env w u l) (n : Nat) : Env w (u.drewN n) l := ⟨below_drewN h.bel n, h.box⟩
theorem Env.new {w u : World} {l : List (Nat × Nat)} (h : Env w u l) (n : Nat) : Env w (u.alloc (.cells (wcs n) 24)) ((u.heap.size, n) :: l) := by
  refine ⟨h.bel.alloc h.bel.size _, fun g m hm => ?_⟩
  rcases List.mem_cons.1 hm with e | e
  · cases e
    exact Row.new u 24 _
  · have r : Row u g 24 (wcs m) := h.box g m e
    exact r.alloc _
theorem Env.two {w u : World} {l : List (Nat × Nat)} (h : Env w u l) {g n g' n' : Nat} (h1 : (g, n) ∈ l) (h2 : (g', n') ∈ l) : Env w u [(g, n), (g', n')] := by
  refine ⟨h.bel, fun x y hm => ?_⟩
  rcases List.mem_cons.1 hm with e | hm
  · cases e; exact h.box _ _ h1
  · rcases List.mem_cons.1 hm with e | hm
    · cases e; exact h.box _ _ h2
    · cases hm
theorem Env.start (w : World) : Env w w [] := ⟨Below.refl _ _, fun _ _ h => by cases h⟩
theorem Env.cell {w u : World} {l : List (Nat × Nat)} (h : Env w u l) {g n : Nat} (hm : (g, n) ∈ l) (i : Nat) (hi : i < 4) : u.cell? ⟨g, i, none⟩ = some (.int .u64 (W n i)) := by
  have r : Row u g 24 (wcs n) := h.box g n hm
  exact (r.cell i).trans (wc_get n i hi)
theorem fold4 (n : Nat) : (#[.int .u64 (W n 0), .int .u64 (W n 1), .int .u64 (W n 2), .int .u64 (W n 3)] : Array Value) = wcs n := (wc_cells n).symm
theorem wpList_load_guarded {P : Program} {ops : Array Oper} {rest : List Oper} {o : Oper} {a : Act} {w : World} {Q : Exit → Act → World → Prop} (hw : Region.wanted o (yielded ops a.tmps) = true) (ty : TypeId) (x : Operand) (ho : o.op = .load ty x)
    (g : Nat) (hx : a.eval x = .pointer (some ⟨g, 0, none⟩)) (t : TypeId) (cs : Array Value) (fr : Nat × Nat) (d : TypeDesc) (hg : w.heap[g]? = some (.cells cs t fr))
    (hu : P.underlying ty = some d) (hd : (match d with | .struct _ | .array _ _ => true | _ => false) = true) (hi : (P.info? ty).map (·.size) = some cs.size)
    (h : wpList P ops Q rest (a.put o.dst (.agg cs)) w) : wpList P ops Q (o :: rest) a w := by
  simp only [wpList, hw, if_true]
  exact .inl (wp_load_row ty x ho g hx t cs fr d hg hu hd hi h)
theorem setRow_two1 (w : World) (z cs : Array Value) (t : TypeId) (o : Obj) : ((w.alloc (.cells z t)).alloc o).setRow w.heap.size cs = (w.alloc (.cells cs t)).alloc o := by
  unfold World.setRow World.alloc
  congr 1
  apply Array.ext_getElem?
  intro i
  simp only [Array.getElem?_modify, Array.getElem?_push, Array.size_push]
  by_cases h1 : i = w.heap.size + 1
  · subst h1; simp
  · by_cases h2 : w.heap.size = i
    · subst h2; simp
    · simp [h1, h2, Ne.symm h2]
theorem setRow_two2 (w : World) (z cs : Array Value) (t : TypeId) (o : Obj) : ((w.alloc o).alloc (.cells z t)).setRow (w.heap.size + 1) cs = (w.alloc o).alloc (.cells cs t) := by
  have h := World.setRow_alloc_new (w.alloc o) z cs t
  rw [World.size_alloc] at h
  exact h
/-- The same, each block below a bound. -/
structure EnvB (w u : World) (l : List (Nat × Nat)) (G : Nat) : Prop where
  env : Env w u l
  lt : ∀ g n, (g, n) ∈ l → g < G
  le : w.heap.size ≤ G
theorem EnvB.start {w u : World} {l : List (Nat × Nat)} (h : Env w u l) : EnvB w u l u.heap.size := ⟨h, fun _ _ hm => h.lt hm, h.bel.size⟩
theorem EnvB.below {w u v : World} {l : List (Nat × Nat)} {G : Nat} (h : EnvB w u l G) (hb : Below u.heap.size u v) : EnvB w v l G := ⟨h.env.below hb, h.lt, h.le⟩
theorem EnvB.drew {w u : World} {l : List (Nat × Nat)} {G : Nat} (h : EnvB w u l G) : EnvB w u.drew l G := ⟨h.env.drew, h.lt, h.le⟩
theorem EnvB.alloc {w u : World} {l : List (Nat × Nat)} {G : Nat} (h : EnvB w u l G) (o : Obj) : EnvB w (u.alloc o) l G := h.below ((Below.refl _ _).alloc (Nat.le_refl _) _)
theorem EnvB.set {w u : World} {l : List (Nat × Nat)} {G : Nat} (h : EnvB w u l G) {b i : Nat} (hb : G ≤ b) (v : Value) : EnvB w (u.setCell ⟨b, i, none⟩ v) l G := by
  refine ⟨⟨h.env.bel.setCell (Nat.le_trans h.le hb) _, fun g n hm => ?_⟩, h.lt, h.le⟩
  have r : Row u g 24 (wcs n) := h.env.box g n hm
  exact r.farAt (by have := h.lt g n hm; omega) _
theorem EnvB.cells {w u : World} {l : List (Nat × Nat)} {G : Nat} (h : EnvB w u l G) {g n : Nat} (hm : (g, n) ∈ l) :
    u.cell? ⟨g, 0, none⟩ = some (.int .u64 (W n 0)) ∧ u.cell? ⟨g, 1, none⟩ = some (.int .u64 (W n 1)) ∧ u.cell? ⟨g, 2, none⟩ = some (.int .u64 (W n 2)) ∧ u.cell? ⟨g, 3, none⟩ = some (.int .u64 (W n 3)) :=
  ⟨h.env.cell hm 0 (by decide), h.env.cell hm 1 (by decide), h.env.cell hm 2 (by decide), h.env.cell hm 3 (by decide)⟩
theorem Env.cons {w u : World} {l : List (Nat × Nat)} (h : Env w u l) {g n : Nat} (r : Row u g 24 (wcs n)) : Env w u ((g, n) :: l) := by
  refine ⟨h.bel, fun x y hm => ?_⟩
  rcases List.mem_cons.1 hm with e | e
  · cases e; exact r
  · exact h.box _ _ e
/-- a new variable's four noughts, behind a call -/
theorem row_zero {u : World} {b : Nat} (r : Row u b 24 #[.int .u64 0, .int .u64 0, .int .u64 0, .int .u64 0]) :
    u.cell? ⟨b, 0, none⟩ = some (.int .u64 0) ∧ u.cell? ⟨b, 1, none⟩ = some (.int .u64 0) ∧ u.cell? ⟨b, 2, none⟩ = some (.int .u64 0) ∧ u.cell? ⟨b, 3, none⟩ = some (.int .u64 0) ∧
    u.frozen? ⟨b, 0, none⟩ = false ∧ u.frozen? ⟨b, 1, none⟩ = false ∧ u.frozen? ⟨b, 2, none⟩ = false ∧ u.frozen? ⟨b, 3, none⟩ = false :=
  ⟨(r.cell 0).trans rfl, (r.cell 1).trans rfl, (r.cell 2).trans rfl, (r.cell 3).trans rfl, r.frozen 0, r.frozen 1, r.frozen 2, r.frozen 3⟩
theorem Row.put4 {u : World} {b : Nat} {t : TypeId} {a0 a1 a2 a3 x0 x1 x2 x3 : Value} (r : Row u b t #[a0, a1, a2, a3]) :
    Row ((((u.setCell ⟨b, 0, none⟩ x0).setCell ⟨b, 1, none⟩ x1).setCell ⟨b, 2, none⟩ x2).setCell ⟨b, 3, none⟩ x3) b t #[x0, x1, x2, x3] := (((r.put 0 x0).put 1 x1).put 2 x2).put 3 x3
/-- row k behind a call -/
theorem Row.kept {u v : World} {b : Nat} {t : TypeId} {z : Array Value} (r : Row u b t z) (hb : Below u.heap.size u v) : Row v b t z := r.below hb r.lt
theorem size_two (u : World) (a b : Obj) : ((u.alloc a).alloc b).heap.size = u.heap.size + 1 + 1 := by rw [World.size_alloc, World.size_alloc]
theorem of_x (n : Nat) (w : World) :
    Calls Try.prog 25 #[.int .u64 n] w fun e w' => e = .returned (.agg #[.int .u64 n, .int .u64 0, .int .u64 0, .int .u64 0]) ∧ w' = w.alloc (.cells #[.int .u64 n, .int .u64 0, .int .u64 0, .int .u64 0] 24) := by
  go_enter Try.func25, Try.ntmps25
  go_wp2
  go_returns
  exact ⟨rfl, rfl⟩
theorem rof_x (n : Nat) (w : World) :
    Calls Try.prog 26 #[.int .u64 n] w fun e w' => e = .returned (.agg #[.int .u64 n, .int .u64 0, .int .u64 0, .int .u64 0]) ∧ w' = w.alloc (.cells #[.int .u64 n, .int .u64 0, .int .u64 0, .int .u64 0] 24) := by
  go_enter Try.func26, Try.ntmps26
  go_wp2
  go_returns
  exact ⟨rfl, rfl⟩
theorem of_1 (w : World) :
    Calls Try.prog 25 #[.int .u64 1] w fun e w' => e = .returned (.agg #[.int .u64 1, .int .u64 0, .int .u64 0, .int .u64 0]) ∧ w' = w.alloc (.cells #[.int .u64 1, .int .u64 0, .int .u64 0, .int .u64 0] 24) := of_x 1 w
theorem of_2 (w : World) :
    Calls Try.prog 25 #[.int .u64 2] w fun e w' => e = .returned (.agg #[.int .u64 2, .int .u64 0, .int .u64 0, .int .u64 0]) ∧ w' = w.alloc (.cells #[.int .u64 2, .int .u64 0, .int .u64 0, .int .u64 0] 24) := of_x 2 w
theorem rof_1 (w : World) :
    Calls Try.prog 26 #[.int .u64 1] w fun e w' => e = .returned (.agg #[.int .u64 1, .int .u64 0, .int .u64 0, .int .u64 0]) ∧ w' = w.alloc (.cells #[.int .u64 1, .int .u64 0, .int .u64 0, .int .u64 0] 24) := rof_x 1 w
theorem fold_1 : (#[.int .u64 1, .int .u64 0, .int .u64 0, .int .u64 0] : Array Value) = wcs 1 := rfl
theorem fold_2 : (#[.int .u64 2, .int .u64 0, .int .u64 0, .int .u64 0] : Array Value) = wcs 2 := rfl
end Go.Proofs.Ytcombekbeljflaa
