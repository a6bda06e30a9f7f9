/- Regions that draw their order, walked once: boxes of whatever content, whatever is made beside them. -/
import Derived.Test.YthgjfmdbipmhoaaMem
import Derived.WalkKit
import Derived.Deep.QuietTactic
import Derived.BigQuiet
namespace Go.Proofs.Ythgjfmdbipmhoaa
open Go.RowKit

/-- w has grown to u, and each block of the list is as told. -/
structure EnvX (w u : World) (l : List (Nat × Obj)) : Prop where
  bel : Below w.heap.size w u
  box : ∀ g o, (g, o) ∈ l → u.heap[g]? = some o
theorem EnvX.lt {w u : World} {l : List (Nat × Obj)} (h : EnvX w u l) {g : Nat} {o : Obj} (hm : (g, o) ∈ l) : g < u.heap.size := by
  have h1 := h.box g o hm
  rcases Nat.lt_or_ge g u.heap.size with h2 | h2
  · exact h2
  · rw [Array.getElem?_eq_none h2] at h1
    cases h1
theorem EnvX.start (w : World) : EnvX w w [] := ⟨Below.refl _ _, fun _ _ h => by cases h⟩
theorem EnvX.below {w u v : World} {l : List (Nat × Obj)} (h : EnvX w u l) (hb : Below u.heap.size u v) : EnvX w v l :=
  ⟨h.bel.trans (hb.mono h.bel.size), fun g o hm => (hb.block g (h.lt hm)).trans (h.box g o hm)⟩
theorem EnvX.drew {w u : World} {l : List (Nat × Obj)} (h : EnvX w u l) : EnvX w u.drew l := ⟨h.bel.drew, h.box⟩
theorem EnvX.new {w u : World} {l : List (Nat × Obj)} (h : EnvX w u l) (o : Obj) : EnvX w (u.alloc o) ((u.heap.size, o) :: l) := by
  refine ⟨h.bel.alloc h.bel.size _, fun g o' hm => ?_⟩
  rcases List.mem_cons.1 hm with e | e
  · cases e
    exact heap_alloc_new u o
  · exact (Below.heap_alloc u o g (h.lt e)).trans (h.box g o' e)
theorem EnvX.two {w u : World} {l : List (Nat × Obj)} (h : EnvX w u l) (o o' : Obj) : EnvX w ((u.alloc o).alloc o') ((u.heap.size + 1, o') :: (u.heap.size, o) :: l) := by
  have h1 := (h.new o).new o'
  rwa [World.size_alloc] at h1
theorem EnvX.sub {w u : World} {l l' : List (Nat × Obj)} (h : EnvX w u l) (hs : ∀ x ∈ l', x ∈ l) : EnvX w u l' := ⟨h.bel, fun g o hm => h.box g o (hs _ hm)⟩
theorem EnvX.row {w u : World} {l : List (Nat × Obj)} (h : EnvX w u l) {g : Nat} {cs : Array Value} {t : TypeId} (hm : (g, Obj.cells cs t (0, 0)) ∈ l) : Row u g t cs := h.box g _ hm
/-- the class of worlds -/
def EnvC (w : World) (l : List (Nat × Obj)) (u : World) : Prop := EnvX w u l
theorem EnvC.box {w u : World} {l : List (Nat × Obj)} (h : EnvC w l u) (g : Nat) (o : Obj) (hm : (g, o) ∈ l) : u.heap[g]? = some o := EnvX.box h g o hm
theorem EnvC.call {w u : World} {l : List (Nat × Obj)} {P : Program} {f : FuncId} {args : Array Value} {v : Value} (hu : EnvC w l u)
    (h : Calls P f args u fun e w' => e = .returned v ∧ Below u.heap.size u w') : Calls P f args u fun e w' => e = .returned v ∧ EnvC w l w' :=
  h.mono fun _ _ ⟨he, hb⟩ => ⟨he, EnvX.below hu hb⟩
theorem EnvC.callW {w u : World} {l : List (Nat × Obj)} {P : Program} {f : FuncId} {args : Array Value} {v : Value} (hu : EnvC w l u)
    (h : Calls P f args u fun e w' => e = .returned v ∧ ∃ o, w' = u.alloc o) : Calls P f args u fun e w' => e = .returned v ∧ EnvC w l w' :=
  h.mono fun _ _ ⟨he, o, hb⟩ => ⟨he, by subst hb; exact EnvX.below hu ((Below.refl _ _).alloc (Nat.le_refl _) o)⟩
/-- what holds in each world of a class that has one, whatever that is, holds -/
theorem EnvC.one {w u : World} {l : List (Nat × Obj)} (h : EnvX w u l) (x y : Value) : (∀ v, EnvC w l v → x = y) ↔ x = y := ⟨fun k => k u h, fun e _ _ => e⟩

theorem wp_region_env {P : Program} {id : Nat} {Q : Exit → Act → World → Prop} {a : Act} {w u : World} {l : List Oper} {L : List (Nat × Obj)} (hm : P.follows .mixedOrders = true) (hB : Region.lexB .any l.toArray = true) (hE : EnvX w u L)
    (h : wpQuiet P l.toArray (EnvC w L) (fun a' => ∀ u', EnvC w L u' → Q .normal a' u') l a) : (Code.region id l.toArray true).wp P Q a u :=
  wp_region_quiet (C := EnvC w L) hm hB hE.drew (by simpa using h)

section
variable {P : Program} {C : World → Prop} {a : Act} {o : Oper} {K : Act → Prop}
theorem quiet_load (ty : TypeId) (x : Operand) (ho : o.op = .load ty x) (g : Nat) (hx : a.eval x = .pointer (some ⟨g, 0, none⟩)) (t : TypeId) (cs : Array Value) (fr : Nat × Nat) (d : TypeDesc)
    (hC : ∀ u, C u → u.heap[g]? = some (.cells cs t fr)) (hu : P.underlying ty = some d) (hd : (match d with | .struct _ | .array _ _ => true | _ => false) = true) (hi : (P.info? ty).map (·.size) = some cs.size)
    (hk : K (a.put o.dst (.agg cs))) : o.quiet P a C K :=
  ⟨_, fun u hu' => by
    unfold Oper.quietAt execOp
    simp only [ho, hx, Instr.loadAt, Instr.sureAddr, Sem.run_bind, Sem.run_pure, Result.andThen_ok, run_loadVar_row u g t ty cs fr d (hC u hu') hu hd hi]
    exact ⟨rfl, rfl⟩, hk⟩
theorem quiet_run (v : Value) (hr : ∀ u, C u → (execOp a.eval o).run P u = .ok (.value v) u) (hk : K (a.put o.dst v)) : o.quiet P a C K :=
  ⟨v, fun u hu' => by unfold Oper.quietAt; rw [hr u hu']; exact ⟨rfl, rfl⟩, hk⟩
end
end Go.Proofs.Ythgjfmdbipmhoaa
