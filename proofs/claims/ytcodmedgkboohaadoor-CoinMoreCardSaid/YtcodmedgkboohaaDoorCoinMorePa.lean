/- Part of a proof. -/
import Derived.Test.YtcodmedgkboohaaDoorCn
import Derived.Laws.OwnMore
import Derived.Deep.Strs
namespace Go.Proofs.YtcodmedgkboohaaDoor
set_option maxRecDepth 8000
open Go.RowKit

section
variable {P : Program} {ops : Array Oper} {md : Region.Mode} {w0 : World}
variable {Γ : HP}
section
variable {Q : Act → Boxes → Prop} {f : Nat} {listed : Array Bool} {a : Act} {M : Boxes} {K : Act → Boxes → Prop} {i : Nat} {dst : Option Tmp} {op : Op} {ty : TypeId} {pos : String} {after : Array Edge}
theorem anyH_two {j : Nat} (hr : Region.ready md ops listed = [i, j]) (h : hOp (Γ := Γ) P ops w0 i (anyH (Γ := Γ) P md ops w0 Q f (listed.setIfInBounds i true)) a M)
    (h' : hOp (Γ := Γ) P ops w0 j (anyH (Γ := Γ) P md ops w0 Q f (listed.setIfInBounds j true)) a M) : anyH (Γ := Γ) P md ops w0 Q (f + 1) listed a M :=
  ⟨(fun h0 => by rw [hr] at h0; cases h0), (fun k hk => by
    rw [hr] at hk
    rcases List.mem_cons.1 hk with e | e
    · cases e; exact h
    · cases List.mem_singleton.1 e; exact h')⟩
theorem hOp_perm {M M' : Boxes} (hK : ∀ a (M M' : Boxes), (∀ x, x ∈ M ↔ x ∈ M') → K a M → K a M') (hM : ∀ x, x ∈ M ↔ x ∈ M') (hh : hOp (Γ := Γ) P ops w0 i K a M) : hOp (Γ := Γ) P ops w0 i K a M' := by
  unfold hOp at *
  split
  · rename_i h; simp only [h] at hh; exact hK _ _ _ hM hh
  · rename_i o ho
    simp only [ho] at hh
    split
    · rename_i hw
      simp only [hw, if_true] at hh
      rcases hh with ⟨v, M0, h0, hv, h⟩ | ⟨R, M0, h0, hv, h⟩ | ⟨hs, g, old, cs, t, N, hg, hm, hp, hN, hk, h⟩ | ⟨hs, R, hv, hk, h⟩ | ⟨M0, h0, hv⟩
      · exact .inl ⟨v, M0, fun x hx => (hM x).1 (h0 x hx), hv, hK _ _ _ hM h⟩
      · exact .inr (.inl ⟨R, M0, fun x hx => (hM x).1 (h0 x hx), hv, fun x N hR hf hE => hK _ _ _ (fun y => by simp only [List.mem_append, hM y])
          (h x N hR (fun y hy => ⟨(hf y hy).1, fun z hz => (hf y hy).2 z ((hM z).1 hz)⟩) (hE.imp fun u hu => hu.sub (fun y hy => by simp only [List.mem_append, hM y] at hy ⊢; exact hy)))⟩)
      · exact .inr (.inr (.inl ⟨hs, g, old, cs, t, N, hg, (hM _).1 hm, hp, fun x hx => (hN x hx).imp id (fun ⟨k1, k2⟩ => ⟨(hM _).1 k1, k2⟩), fun x hx hm' => hk x hx ((hM x).2 hm'), h⟩))
      · exact .inr (.inr (.inr (.inl ⟨hs, R, fun u hu => hv u (hu.sub fun x hx => (hM x).1 hx), fun x M' hR y hy hm' => hk x M' hR y hy ((hM y).2 hm'), h⟩)))
      · exact .inr (.inr (.inr (.inr ⟨M0, fun x hx => (hM x).1 (h0 x hx), hv⟩)))
    · rename_i hw; simp only [hw] at hh; exact hK _ _ _ hM hh
theorem anyH_perm (hQ : ∀ a (M M' : Boxes), (∀ x, x ∈ M ↔ x ∈ M') → Q a M → Q a M') : ∀ (f : Nat) (listed : Array Bool) (a : Act) (M M' : Boxes), (∀ x, x ∈ M ↔ x ∈ M') →
    anyH (Γ := Γ) P md ops w0 Q f listed a M → anyH (Γ := Γ) P md ops w0 Q f listed a M'
  | 0, _, _, _, _, hM, h => ⟨h.1, hQ _ _ _ hM h.2⟩
  | f + 1, _, _, _, _, hM, h => ⟨fun h0 => hQ _ _ _ hM (h.1 h0), fun i hi => hOp_perm (fun a' M1 M2 h12 h' => anyH_perm hQ f _ a' M1 M2 h12 h') hM (h.2 i hi)⟩
theorem env_perm {Q' : Exit → Act → World → Prop} (a : Act) (M M' : Boxes) (hM : ∀ x, x ∈ M ↔ x ∈ M') (h : ∀ u, EnvX w0 u M → Q' .normal a u) : ∀ u, EnvX w0 u M' → Q' .normal a u :=
  fun u hu => h u (hu.sub (fun x hx => (hM x).1 hx))
end
end
end Go.Proofs.YtcodmedgkboohaaDoor

namespace Go.Proofs.YtcodmedgkboohaaDoor
set_option maxRecDepth 8000
open Go.RowKit

section
variable {st e : TypeId} {z bytes : Nat} {zero : Value}
/-- an append to nothing makes memory -/
theorem FAt_appX (T : ElemT st e z bytes zero) {u : World} {m c : Nat} {ys : List Value} {ad : Addr} {a : Act} {dst : Option Tmp} {x : Operand} {pos : String} {after : Array Edge} {gd : Option (Nat × Bool)}
    (hy : ys.length = m * z) (h1 : ∀ u ∈ ys, u.oneCell' = true) (hc : SrcAt u ad ys) (hs : m ≤ 2000000) (hx : a.eval x = .slice (some ad) m c) :
    FAt Tryd.prog ⟨dst, .call { callee := .builtin .append, args := #[.const (.slice none 0 0), x], argTypes := #[st, st] }, st, pos, after, gd⟩ a (FreshR e z m ys) u := by
  have he : a.eval (.const (.slice none 0 0)) = .slice none 0 0 := rfl
  obtain ⟨v', u', hrun, hown, hgr, _⟩ := appendR T (c := c) (World.ownsRow_nil u u.heap.size e z) hy hc h1 (by omega) (Nat.le_refl _)
  rw [Nat.zero_add, List.nil_append] at hown
  obtain ⟨N, hF', hN'⟩ := fresh_of_own hown
  unfold FAt execOp
  simp only [resolve, invoke, builtin, Sem.run_bind, Sem.run_pure, Result.andThen_ok, List.map_toArray, List.map_cons, List.map_nil, he, hx, hrun]
  exact ⟨below_of_grown hgr (fun g hg => by cases hg) (Nat.le_refl _), N, hF', fun y hy => ⟨(hN' y hy).1, (hN' y hy).2.1⟩⟩
end
end Go.Proofs.YtcodmedgkboohaaDoor

namespace Go.Proofs.YtcodmedgkboohaaDoor
set_option maxRecDepth 8000
open Go.RowKit

section
variable {st e : TypeId} {z bytes : Nat} {zero : Value}
/-- an append to nothing out of a slice that came in -/
theorem FAt_appC (T : ElemT st e z bytes zero) {u : World} {B m c : Nat} {A : Option Addr} {ys : List Value} {a : Act} {dst : Option Tmp} {x : Operand} {pos : String} {after : Array Edge} {gd : Option (Nat × Bool)}
    (hy : ys.length = m * z) (h1 : ∀ u ∈ ys, u.oneCell' = true) (hc : CellsIn u B A ys) (hs : m ≤ 2000000) (hx : a.eval x = .slice A m c) :
    FAt Tryd.prog ⟨dst, .call { callee := .builtin .append, args := #[.const (.slice none 0 0), x], argTypes := #[st, st] }, st, pos, after, gd⟩ a (FreshR e z m ys) u := by
  cases A with
  | none =>
    have h0 : ys = [] := by
      refine List.eq_nil_of_length_eq_zero (Nat.eq_zero_of_not_pos fun hp => ?_)
      obtain ⟨ad, e, _⟩ := hc hp
      cases e
    subst h0
    have hm : m = 0 := by
      rcases Nat.eq_zero_or_pos m with h | h
      · exact h
      · have := Nat.mul_pos h T.pos
        simp at hy
        omega
    subst hm
    have he : a.eval (.const (.slice none 0 0)) = .slice none 0 0 := rfl
    cases hi : Tryd.prog.info? e with
    | none => have := T.info; rw [hi] at this; cases this
    | some i =>
      have hrun : (Builtin.append_ #[st, st] st #[.slice none 0 0, .slice none 0 c]).run Tryd.prog u = .ok (.slice none 0 0) u := by
        simp [Builtin.append_, run_underlying T.und, sizeOf, typeInfo, hi, Builtin.lenOf, Builtin.firstCells]
      unfold FAt execOp
      simp only [resolve, invoke, builtin, Sem.run_bind, Sem.run_pure, Result.andThen_ok, List.map_toArray, List.map_cons, List.map_nil, he, hx, hrun]
      exact ⟨Below.refl _ _, [], .inr ⟨rfl, rfl, rfl, rfl⟩, fun y hy => by cases hy⟩
  | some ad =>
    refine FAt_appX T (c := c) hy h1 (fun j v hv => ?_) hs hx
    have hp : 0 < ys.length := by
      rcases Nat.eq_zero_or_pos ys.length with h0 | h0
      · rw [List.eq_nil_of_length_eq_zero h0] at hv
        simp at hv
      · exact h0
    obtain ⟨ad', e, _, hcc⟩ := hc hp
    obtain rfl := Option.some.inj e
    exact hcc j v hv
end
end Go.Proofs.YtcodmedgkboohaaDoor

namespace Go.Proofs.YtcodmedgkboohaaDoor
set_option maxRecDepth 8000
open Go.RowKit

section
variable {w0 u : World} {M : Boxes} {g : Nat} {ty : TypeId} {x : InR} {o : OutR}
theorem box_out (hu : EnvC w0 M u) (hm : (g, Obj.cells (outA o) ty (0, 0)) ∈ M) : (loadVar 49 ⟨g, 0, none⟩).run Tryd.prog u = .ok (outV o) u := by
  have := box_agg aggOut (k := 0) hu hm (outC o) rfl rfl
  exact this
end
section
variable {a : Act} {dst : Option Tmp} {x y : Operand} {ty : TypeId} {pos : String} {after : Array Edge} {gd : Option (Nat × Bool)}
end
section
variable {w0 u : World} {M : Boxes} {g : Nat} {ty : TypeId} {t : TxM}
end
section
variable {dst : Option Tmp} {ty : TypeId} {pos : String} {after : Array Edge} {gd : Option (Nat × Bool)}
end
end Go.Proofs.YtcodmedgkboohaaDoor

namespace Go.Proofs.YtcodmedgkboohaaDoor
set_option maxRecDepth 8000
open Go.ChangeShapes Go.WideShapes Go.ChangeAt Go.RowKit Go.Deep

section
variable {H : Type} {enc : TypeId × Value → H} {W : World} {base : Nat} {spare : Nat → Bool} {held : Bool} {fuel : Nat} {cs : List Value} {x : DataW H × List MemPlace}
end
section
variable {H : Type} {enc : TypeId × Value → H} {W : World} {base : Nat} {v : Value} {d : DataW H} {p : List MemPlace} {fuel : Nat} {cs : List Value} {x : DataW H × List MemPlace}
theorem open_out (hok : Value.okWide Tryd.prog W .any base 49 v) (h : DataW.Trod enc Tryd.prog W 0 (fun _ => true) true 49 v d p) : ∃ t : OutR, v = outV t ∧ okOut t := by
  obtain ⟨cs, rfl, hsz, _⟩ : ∃ cs, v = .agg cs ∧ cs.size = Tryd.prog.cellsOf 49 ∧ Row.okWide Tryd.prog W .any base 49 cs := by
    simpa [Value.okWide, Tryd.underlying49] using hok
  obtain ⟨fuel, hf⟩ := h
  obtain ⟨t, ht, hc⟩ := out_cells hf
  refine ⟨t, ?_, ht⟩
  have : cs.toList = outC t := hc
  unfold outV outA
  rw [← this]
end
def zeroO : Value := .agg #[.int .i64 0, .int .i64 0]
def zeroOD {H : Type} : DataW H := .agg [.lit (.int .i64 0), .lit (.int .i64 0)]
end Go.Proofs.YtcodmedgkboohaaDoor

namespace Go.Proofs.YtcodmedgkboohaaDoor
set_option maxRecDepth 8000
open Go.RowKit

section
variable {P : Program} {Γ : HP} {ops : Array Oper} {md : Region.Mode} {w0 : World} {Q : Act → Boxes → Prop} {f i : Nat} {listed : Array Bool} {a : Act} {M : Boxes}
theorem anyH_twoFreshG {j : Nat} {di dj : Option Tmp} {opi opj : Op} {ti tj : TypeId} {pi pj : String} {afi afj : Array Edge} {gi gj : Option (Nat × Bool)} (hQ : ∀ a (M M' : Boxes), (∀ x, x ∈ M ↔ x ∈ M') → Q a M → Q a M')
    (hr : Region.ready md ops listed = [i, j]) (hri : Region.ready md ops (listed.setIfInBounds i true) = [j]) (hrj : Region.ready md ops (listed.setIfInBounds j true) = [i])
    (hi : ops[i]? = some ⟨di, opi, ti, pi, afi, gi⟩) (hj : ops[j]? = some ⟨dj, opj, tj, pj, afj, gj⟩) (hij : i ≠ j)
    (hap : (Oper.apart ops ⟨di, opi, ti, pi, afi, gi⟩ ⟨dj, opj, tj, pj, afj, gj⟩ && Region.noSelect ops) = true)
    (hwi : Region.wanted ⟨di, opi, ti, pi, afi, gi⟩ (yielded ops a.tmps) = true) (hwj : Region.wanted ⟨dj, opj, tj, pj, afj, gj⟩ (yielded ops a.tmps) = true)
    (Ri Rj : Value → Boxes → Prop) (Mi Mj : Boxes) (hMi : ∀ x ∈ Mi, x ∈ M) (hMj : ∀ x ∈ Mj, x ∈ M) (hvi : ∀ u, EnvX w0 u Mi → FAt P ⟨di, opi, ti, pi, afi, gi⟩ a Ri u) (hvj : ∀ u, EnvX w0 u Mj → FAt P ⟨dj, opj, tj, pj, afj, gj⟩ a Rj u)
    (h : ∀ x Nx y Ny, Ri x Nx → Rj y Ny → freshN w0 Nx M → freshN w0 Ny (Nx ++ M) → (∃ u, EnvX w0 u (Ny ++ (Nx ++ M))) →
      ∀ K1 : Act → Prop, (∀ a1, (∀ K2 : Act → Prop, (∀ a2, anyH (Γ := Γ) P md ops w0 Q f ((listed.setIfInBounds i true).setIfInBounds j true) a2 (Ny ++ (Nx ++ M)) → K2 a2) → Oper.quiet P ⟨dj, .move (.const y), tj, pj, afj, none⟩ a1 (fun _ => True) K2) → K1 a1) →
        Oper.quiet P ⟨di, .move (.const x), ti, pi, afi, none⟩ a (fun _ => True) K1) :
    anyH (Γ := Γ) P md ops w0 Q (f + 2) listed a M := by
  simp only [Bool.and_eq_true] at hap
  obtain ⟨q1, q2, q3⟩ := Oper.apart_spec hap.1
  have hsel := Region.noSelect_spec hap.2
  have H : ∀ x Nx y Ny, Ri x Nx → Rj y Ny → freshN w0 Nx M → freshN w0 Ny (Nx ++ M) → (∃ u, EnvX w0 u (Ny ++ (Nx ++ M))) →
      anyH (Γ := Γ) P md ops w0 Q f ((listed.setIfInBounds i true).setIfInBounds j true) ((a.put di x).put dj y) (Ny ++ (Nx ++ M)) := fun x Nx y Ny a1 a2 a3 a4 a5 =>
    put_told w0 (put_told (K := fun a1 => ∀ K2 : Act → Prop, (∀ a2, anyH (Γ := Γ) P md ops w0 Q f ((listed.setIfInBounds i true).setIfInBounds j true) a2 (Ny ++ (Nx ++ M)) → K2 a2) → Oper.quiet P ⟨dj, .move (.const y), tj, pj, afj, none⟩ a1 (fun _ => True) K2) w0 (h x Nx y Ny a1 a2 a3 a4 a5))
  refine anyH_two hr ?_ ?_
  · unfold hOp
    simp only [hi, hwi, if_true]
    refine .inr (.inl ⟨Ri, Mi, hMi, hvi, fun x Nx hx hfx _ => ?_⟩)
    refine anyH_one hri ?_
    unfold hOp
    simp only [hj]
    rw [wanted_put _ a di x q1]
    simp only [hwj, if_true]
    refine .inr (.inl ⟨Rj, Mj, fun z hz => List.mem_append_right _ (hMj z hz), fun u hu => ?_, fun y Ny hy hfy hE => H x Nx y Ny hx hy hfx hfy hE⟩)
    have h1 := hvj u hu
    unfold FAt at *
    rw [execOp_put (ops := ops) _ (fun cs b => hsel j _ cs b hj) a di x q1]
    exact h1
  · unfold hOp
    simp only [hj, hwj, if_true]
    refine .inr (.inl ⟨Rj, Mj, hMj, hvj, fun y Ny hy hfy _ => ?_⟩)
    refine anyH_one hrj ?_
    unfold hOp
    simp only [hi]
    rw [wanted_put _ a dj y q3]
    simp only [hwi, if_true]
    refine .inr (.inl ⟨Ri, Mi, fun z hz => List.mem_append_right _ (hMi z hz), fun u hu => ?_, fun x Nx hx hfx hE => ?_⟩)
    · have h1 := hvi u hu
      unfold FAt at *
      rw [execOp_put (ops := ops) _ (fun cs b => hsel i _ cs b hi) a dj y q3]
      exact h1
    · have hp : ∀ z, z ∈ Ny ++ (Nx ++ M) ↔ z ∈ Nx ++ (Ny ++ M) := fun z => by
        simp only [List.mem_append]
        exact or_left_comm
      have h1 := H x Nx y Ny hx hy (fun z hz => ⟨(hfx z hz).1, fun t ht => (hfx z hz).2 t (List.mem_append_right _ ht)⟩)
        (fun z hz => ⟨(hfy z hz).1, fun t ht => by
          rcases List.mem_append.1 ht with e | e
          · exact Ne.symm ((hfx t e).2 z (List.mem_append_left _ hz))
          · exact (hfy z hz).2 t e⟩) (hE.imp fun u hu => hu.sub (fun z hz => (hp z).1 hz))
      rw [Act.put_comm a _ _ q2, Array.setIfInBounds_comm _ _ hij] at h1
      exact anyH_perm hQ _ _ _ _ _ hp h1
end
end Go.Proofs.YtcodmedgkboohaaDoor

namespace Go.Proofs.YtcodmedgkboohaaDoor
set_option maxRecDepth 8000
open Go.RowKit

theorem mayX_more {t : TxR} (h : mayX t = true) (o : OutR) : mayX ⟨t.ins, t.outs ++ [o]⟩ = (decide (t.outs.length < 3) && mayOut o) := by
  unfold mayX at h
  rw [decide_eq_true_eq] at h
  obtain ⟨h1, h2, h3, h4, h5, h6⟩ := h
  unfold mayX
  rw [Bool.eq_iff_iff, decide_eq_true_eq, Bool.and_eq_true, decide_eq_true_eq]
  simp only [List.length_append, List.length_singleton]
  constructor
  · rintro ⟨_, _, k3, _, _, k6⟩
    exact ⟨by omega, k6 o (by simp)⟩
  · rintro ⟨k1, k2⟩
    refine ⟨h1, by omega, by omega, h4, h5, fun p hp => ?_⟩
    rcases List.mem_append.1 hp with hp | hp
    · exact h6 p hp
    · cases List.mem_singleton.1 hp
      exact k2
theorem mayX_less {t : TxR} (h : mayX t = true) : mayX ⟨t.ins, t.outs.take (t.outs.length - 1)⟩ = decide (1 < t.outs.length) := by
  unfold mayX at h
  rw [decide_eq_true_eq] at h
  obtain ⟨h1, h2, h3, h4, h5, h6⟩ := h
  unfold mayX
  rw [Bool.eq_iff_iff, decide_eq_true_eq, decide_eq_true_eq]
  simp only [List.length_take]
  constructor
  · rintro ⟨_, k2, _⟩
    omega
  · intro k
    exact ⟨h1, by omega, by omega, h4, h5, fun p hp => h6 p (List.mem_of_mem_take hp)⟩
theorem mayX_twice {t : TxR} {x : InR} (hx : x ∈ t.ins) : mayX ⟨t.ins ++ [x], t.outs⟩ = false := by
  unfold mayX
  rw [decide_eq_false_iff_not]
  rintro ⟨_, _, _, _, k, _⟩
  rw [List.nodup_append] at k
  exact k.2.2 x hx x (List.mem_singleton.2 rfl) rfl
def moreX (t : TxM) (o : OutR) (g cap : Nat) : TxM := ⟨⟨t.r.ins, t.r.outs ++ [o]⟩, t.A1, t.n1, t.c1, some ⟨g, 0, none⟩, t.n2 + 1, cap⟩
def lessX (t : TxM) : TxM := ⟨⟨t.r.ins, t.r.outs.take (t.n2 - 1)⟩, t.A1, t.n1, t.c1, t.A2, t.n2 - 1, t.c2⟩
def twiceX (t : TxM) (x : InR) (g cap : Nat) : TxM := ⟨⟨t.r.ins ++ [x], t.r.outs⟩, some ⟨g, 0, none⟩, t.n1 + 1, cap, t.A2, t.n2, t.c2⟩
theorem CellsIn.left {w : World} {B : Nat} {A : Option Addr} {xs ys : List Value} (h : CellsIn w B A (xs ++ ys)) : CellsIn w B A xs := fun hp => by
  obtain ⟨ad, e, hlt, hc⟩ := h (by rw [List.length_append]; omega)
  refine ⟨ad, e, hlt, fun j v hv => hc j v ?_⟩
  rw [List.getElem?_append_left (by
    rcases Nat.lt_or_ge j xs.length with h' | h'
    · exact h'
    · rw [List.getElem?_eq_none h'] at hv; cases hv)]
  exact hv
theorem cells_boxT {w0 u : World} {M : Boxes} {g m : Nat} {t : TypeId} {cs : Array Value} {L : List Value} (hu : EnvC w0 M u) (hm : (g, Obj.cells cs t (0, 0)) ∈ M) (h : cs.toList.take m = L) : CellsIn u u.heap.size (some ⟨g, 0, none⟩) L :=
  CellsIn.left (ys := cs.toList.drop m) (cells_box hu hm (by rw [← h, List.take_append_drop]))
section
variable {w0 u : World} {M : Boxes} {g cap : Nat} {ty : TypeId} {cur : Array Value} {t : TxM}
theorem more_ok {o : OutR} (hk : TxOk u t) (ho : okOut o) (hu : EnvC w0 M u) (hm : (g, Obj.cells cur ty (0, 0)) ∈ M) (hc : t.n2 + 1 ≤ cap ∧ cap ≤ maxLen ∧ cur.size = cap * 2 ∧ cur.toList.take ((t.n2 + 1) * 2) = (t.r.outs.map outC).flatten ++ outC o) : TxOk u (moreX t o g cap) :=
  ⟨hk.l1, hk.b1, hk.o1, hk.m1, by show (t.r.outs ++ [o]).length = _; rw [List.length_append, hk.l2]; rfl, ⟨hc.1, hc.2.1⟩, fun p hp => by
    rcases List.mem_append.1 hp with hp | hp
    · exact hk.o2 p hp
    · cases List.mem_singleton.1 hp; exact ho, cells_boxT hu hm (by rw [hc.2.2.2]; show _ = ((t.r.outs ++ [o]).map outC).flatten; rw [List.map_append, List.flatten_append, List.map_singleton, List.flatten_singleton])⟩
theorem twice_ok {x : InR} (hk : TxOk u t) (hx : okIn x) (hu : EnvC w0 M u) (hm : (g, Obj.cells cur ty (0, 0)) ∈ M) (hc : t.n1 + 1 ≤ cap ∧ cap ≤ maxLen ∧ cur.size = cap * 33 ∧ cur.toList.take ((t.n1 + 1) * 33) = (t.r.ins.map inC).flatten ++ inC x) : TxOk u (twiceX t x g cap) :=
  ⟨by show (t.r.ins ++ [x]).length = _; rw [List.length_append, hk.l1]; rfl, ⟨hc.1, hc.2.1⟩, fun p hp => by
    rcases List.mem_append.1 hp with hp | hp
    · exact hk.o1 p hp
    · cases List.mem_singleton.1 hp; exact hx, cells_boxT hu hm (by rw [hc.2.2.2]; show _ = ((t.r.ins ++ [x]).map inC).flatten; rw [List.map_append, List.flatten_append, List.map_singleton, List.flatten_singleton]), hk.l2, hk.b2, hk.o2, hk.m2⟩
end
theorem less_ok {u : World} {t : TxM} (hk : TxOk u t) : TxOk u (lessX t) := by
  have h2 := hk.b2
  refine ⟨hk.l1, hk.b1, hk.o1, hk.m1, ?_, ⟨by show t.n2 - 1 ≤ t.c2; omega, h2.2⟩, hk.o2.take _, ?_⟩
  · show (t.r.outs.take (t.n2 - 1)).length = t.n2 - 1
    rw [List.length_take, hk.l2]
    omega
  · show CellsIn u u.heap.size t.A2 ((t.r.outs.take (t.n2 - 1)).map outC).flatten
    refine CellsIn.left (ys := ((t.r.outs.drop (t.n2 - 1)).map outC).flatten) ?_
    rw [← List.flatten_append, ← List.map_append, List.take_append_drop]
    exact hk.m2
theorem insX_len {u : World} {t : TxM} (hk : TxOk u t) : ((t.r.ins.map inC).flatten).length = t.n1 * 33 := by rw [(rowsIn hk.o1).flat_len, List.length_map, hk.l1]
theorem outsX_len {u : World} {t : TxM} (hk : TxOk u t) : ((t.r.outs.map outC).flatten).length = t.n2 * 2 := by rw [(rowsOut t.r.outs).flat_len, List.length_map, hk.l2]
theorem insX_one (l : List InR) : ∀ u ∈ (l.map inC).flatten, u.oneCell' = true := fun u hu => by
  obtain ⟨r, hr, hu⟩ := List.mem_flatten.1 hu
  obtain ⟨x, _, rfl⟩ := List.mem_map.1 hr
  exact inC_one x u hu
theorem outsX_one (l : List OutR) : ∀ u ∈ (l.map outC).flatten, u.oneCell' = true := fun u hu => by
  obtain ⟨r, hr, hu⟩ := List.mem_flatten.1 hu
  obtain ⟨x, _, rfl⟩ := List.mem_map.1 hr
  exact outC_one x u hu
set_option maxRecDepth 20000 in
set_option maxHeartbeats 8000000 in
theorem law_moreX_few (H : CoinC) (t : TxM) (o : OutR) (q : Int) (w : World) (kt : TxOk w t) (ko : okOut o) (hq : I64 q) (ht : Tables w) (k1 : fewX t.r = false) :
    Calls Tryd.prog 8 #[txV t, outV o, .int .i64 q] w fun e w' => e = .returned (.bool true) ∧ Below w.heap.size w w' := by
  have HF_t : Hid (fewX t.r = false) := k1
  clear k1
  have E0 : Hid (EnvX w ((w.alloc (.cells (txA t) 25)).alloc (.cells (outA o) 49)) [(w.heap.size + 1, Obj.cells (outA o) 49 (0, 0)), (w.heap.size, Obj.cells (txA t) 25 (0, 0))]) := (EnvX.start w).two _ _
  have HAW := Lib.hid (cawake_any H ((w.alloc (.cells (txA t) 25)).alloc (.cells (outA o) 49)) (ht.below (EnvX.bel E0.out)))
  have HT := Lib.hid ht
  have HH := Lib.hid H
  have J_kt := Lib.hid kt
  clear ht H kt ko hq
  unfold txV outV
  go_enter Tryd.func8, Tryd.ntmps8
  go_upto_region 1 with (fail)
  generalize ((w.alloc (.cells (txA t) 25)).alloc (.cells (outA o) 49)) = W at *
  go_wp2_with fail
  refine HAW.out.mono ?_
  rintro e w1 ⟨rfl, hb1⟩
  have HB1 := Lib.hid (EnvX.below E0.out hb1).bel
  have E1 : Hid (EnvX w1 w1 [(w.heap.size + 1, Obj.cells (outA o) 49 (0, 0)), (w.heap.size, Obj.cells (txA t) 25 (0, 0))]) := ⟨Below.refl _ _, (EnvX.below E0.out hb1).box⟩
  have HT1 := Lib.hid (HT.out.below HB1.out)
  have K_kt := Lib.hid (J_kt.out.up HB1.out)
  clear hb1 E0 HAW HT J_kt
  go_upto_region 2 with (fail)
  refine wp_region_Hx (w0 := w1) [0, 1, 2] [(w.heap.size + 1, Obj.cells (outA o) 49 (0, 0)), (w.heap.size, Obj.cells (txA t) 25 (0, 0))] rfl E1.out ?_
  refine lexH_phase [0, 1, 2] [] ?_
  have hw1 : EnvX w1 _ [(w.heap.size + 1, Obj.cells (outA o) 49 (0, 0)), (w.heap.size, Obj.cells (txA t) 25 (0, 0))] := E1.out
  have hone := @EnvC.one _ _ _ hw1
  (refine wpG_val (v := txV t) rfl rfl (fun u hu => load_any_op u (box_tx hu (List.Mem.tail _ (List.Mem.head _))) rfl) ?_ hw1; intro K hK; go_big_quiet_op; go_big_quiet_on)
  (refine wpG_call (f := 10) (args := #[txV t]) (v := .bool false) rfl rfl rfl Tryd.func10 rfl rfl (fun u hu => by have h1 := few_any t u (K_kt.out.up (EnvX.bel hu)); rwa [HF_t.out] at h1) ?_ hw1; intro K hK; go_big_quiet_op; go_big_quiet_on)
  (refine wpG_op rfl rfl rfl ?_; intro K hK; go_big_quiet_op; go_big_quiet_on)
  clear hone hw1
  refine wpG_nil ?_
  intro u3 E2'
  have EX2 := Lib.hid E2'
  clear E2'
  go_upto_region 3 with (fail)
  refine wp_region_Hx (w0 := w1) [0, 1, 2, 3, 4, 5, 6, 7, 8, 9, 10] [(w.heap.size + 1, Obj.cells (outA o) 49 (0, 0)), (w.heap.size, Obj.cells (txA t) 25 (0, 0))] rfl EX2.out ?_
  refine lexH_phase [0, 1, 2, 3, 4, 5, 6, 7, 8, 9, 10] [] ?_
  have hw4 : EnvX w1 _ [(w.heap.size + 1, Obj.cells (outA o) 49 (0, 0)), (w.heap.size, Obj.cells (txA t) 25 (0, 0))] := EX2.out
  have hone := @EnvC.one _ _ _ hw4
  (refine wpG_op rfl rfl rfl ?_; intro K hK; go_big_quiet_op; go_big_quiet_on)
  (refine wpG_op rfl rfl rfl ?_; intro K hK; go_big_quiet_op; go_big_quiet_on)
  (refine wpG_op rfl rfl rfl ?_; intro K hK; go_big_quiet_op; go_big_quiet_on)
  (refine wpG_op rfl rfl rfl ?_; intro K hK; go_big_quiet_op; go_big_quiet_on)
  (refine wpG_op rfl rfl rfl ?_; intro K hK; go_big_quiet_op; go_big_quiet_on)
  (refine wpG_op rfl rfl rfl ?_; intro K hK; go_big_quiet_op; go_big_quiet_on)
  (refine wpG_op rfl rfl rfl ?_; intro K hK; go_big_quiet_op; go_big_quiet_on)
  (refine wpG_skip rfl rfl ?_ hw4; intro K hK; go_big_quiet_op; go_big_quiet_on)
  (refine wpG_skip rfl rfl ?_ hw4; intro K hK; go_big_quiet_op; go_big_quiet_on)
  (refine wpG_skip rfl rfl ?_ hw4; intro K hK; go_big_quiet_op; go_big_quiet_on)
  (refine wpG_op rfl rfl rfl ?_; intro K hK; go_big_quiet_op; go_big_quiet_on)
  clear hone hw4
  refine wpG_nil ?_
  intro u6 E2'
  have EX5 := Lib.hid E2'
  clear E2'
  have HBE := Lib.hid (HB1.out.trans ((EnvX.bel EX5.out).mono HB1.out.size))
  go_wp2
  go_ret
  exact ⟨rfl, HBE.out⟩
set_option maxRecDepth 20000 in
set_option maxHeartbeats 8000000 in
theorem law_moreX_may (H : CoinC) (t : TxM) (o : OutR) (q : Int) (w : World) (kt : TxOk w t) (ko : okOut o) (hq : I64 q) (ht : Tables w) (k1 : fewX t.r = true) (k2 : mayX t.r = false) :
    Calls Tryd.prog 8 #[txV t, outV o, .int .i64 q] w fun e w' => e = .returned (.bool true) ∧ Below w.heap.size w w' := by
  have HF_t : Hid (fewX t.r = true) := k1
  have HM_t : Hid (mayX t.r = false) := k2
  clear k1 k2
  have E0 : Hid (EnvX w ((w.alloc (.cells (txA t) 25)).alloc (.cells (outA o) 49)) [(w.heap.size + 1, Obj.cells (outA o) 49 (0, 0)), (w.heap.size, Obj.cells (txA t) 25 (0, 0))]) := (EnvX.start w).two _ _
  have HAW := Lib.hid (cawake_any H ((w.alloc (.cells (txA t) 25)).alloc (.cells (outA o) 49)) (ht.below (EnvX.bel E0.out)))
  have HT := Lib.hid ht
  have HH := Lib.hid H
  have J_kt := Lib.hid kt
  clear ht H kt ko hq
  unfold txV outV
  go_enter Tryd.func8, Tryd.ntmps8
  go_upto_region 1 with (fail)
  generalize ((w.alloc (.cells (txA t) 25)).alloc (.cells (outA o) 49)) = W at *
  go_wp2_with fail
  refine HAW.out.mono ?_
  rintro e w1 ⟨rfl, hb1⟩
  have HB1 := Lib.hid (EnvX.below E0.out hb1).bel
  have E1 : Hid (EnvX w1 w1 [(w.heap.size + 1, Obj.cells (outA o) 49 (0, 0)), (w.heap.size, Obj.cells (txA t) 25 (0, 0))]) := ⟨Below.refl _ _, (EnvX.below E0.out hb1).box⟩
  have HT1 := Lib.hid (HT.out.below HB1.out)
  have K_kt := Lib.hid (J_kt.out.up HB1.out)
  clear hb1 E0 HAW HT J_kt
  go_upto_region 2 with (fail)
  refine wp_region_Hx (w0 := w1) [0, 1, 2] [(w.heap.size + 1, Obj.cells (outA o) 49 (0, 0)), (w.heap.size, Obj.cells (txA t) 25 (0, 0))] rfl E1.out ?_
  refine lexH_phase [0, 1, 2] [] ?_
  have hw1 : EnvX w1 _ [(w.heap.size + 1, Obj.cells (outA o) 49 (0, 0)), (w.heap.size, Obj.cells (txA t) 25 (0, 0))] := E1.out
  have hone := @EnvC.one _ _ _ hw1
  (refine wpG_val (v := txV t) rfl rfl (fun u hu => load_any_op u (box_tx hu (List.Mem.tail _ (List.Mem.head _))) rfl) ?_ hw1; intro K hK; go_big_quiet_op; go_big_quiet_on)
  (refine wpG_call (f := 10) (args := #[txV t]) (v := .bool true) rfl rfl rfl Tryd.func10 rfl rfl (fun u hu => by have h1 := few_any t u (K_kt.out.up (EnvX.bel hu)); rwa [HF_t.out] at h1) ?_ hw1; intro K hK; go_big_quiet_op; go_big_quiet_on)
  (refine wpG_op rfl rfl rfl ?_; intro K hK; go_big_quiet_op; go_big_quiet_on)
  clear hone hw1
  refine wpG_nil ?_
  intro u3 E2'
  have EX2 := Lib.hid E2'
  clear E2'
  go_upto_region 3 with (fail)
  refine wp_region_Hx (w0 := w1) [0, 1, 2, 3, 4, 5, 6, 7, 8, 9, 10] [(w.heap.size + 1, Obj.cells (outA o) 49 (0, 0)), (w.heap.size, Obj.cells (txA t) 25 (0, 0))] rfl EX2.out ?_
  refine lexH_phase [0, 1, 2, 3, 4, 5, 6, 7, 8, 9, 10] [] ?_
  have hw4 : EnvX w1 _ [(w.heap.size + 1, Obj.cells (outA o) 49 (0, 0)), (w.heap.size, Obj.cells (txA t) 25 (0, 0))] := EX2.out
  have hone := @EnvC.one _ _ _ hw4
  (refine wpG_op rfl rfl rfl ?_; intro K hK; go_big_quiet_op; go_big_quiet_on)
  (refine wpG_op rfl rfl rfl ?_; intro K hK; go_big_quiet_op; go_big_quiet_on)
  (refine wpG_op rfl rfl rfl ?_; intro K hK; go_big_quiet_op; go_big_quiet_on)
  (refine wpG_op rfl rfl rfl ?_; intro K hK; go_big_quiet_op; go_big_quiet_on)
  (refine wpG_op rfl rfl rfl ?_; intro K hK; go_big_quiet_op; go_big_quiet_on)
  (refine wpG_op rfl rfl rfl ?_; intro K hK; go_big_quiet_op; go_big_quiet_on)
  (refine wpG_op rfl rfl rfl ?_; intro K hK; go_big_quiet_op; go_big_quiet_on)
  (refine wpG_val (v := txV t) rfl rfl (fun u hu => load_any_op u (box_tx hu (List.Mem.tail _ (List.Mem.head _))) rfl) ?_ hw4; intro K hK; go_big_quiet_op; go_big_quiet_on)
  (refine wpG_call (f := 18) (args := #[txV t]) (v := .bool false) rfl rfl rfl Tryd.func18 rfl rfl (fun u hu => by have h1 := HH.out.may t u (K_kt.out.up (EnvX.bel hu)) (HT1.out.below (EnvX.bel hu)); rwa [HM_t.out] at h1) ?_ hw4; intro K hK; go_big_quiet_op; go_big_quiet_on)
  (refine wpG_op rfl rfl rfl ?_; intro K hK; go_big_quiet_op; go_big_quiet_on)
  (refine wpG_op rfl rfl rfl ?_; intro K hK; go_big_quiet_op; go_big_quiet_on)
  clear hone hw4
  refine wpG_nil ?_
  intro u6 E2'
  have EX5 := Lib.hid E2'
  clear E2'
  have HBE := Lib.hid (HB1.out.trans ((EnvX.bel EX5.out).mono HB1.out.size))
  go_wp2
  go_ret
  exact ⟨rfl, HBE.out⟩
end Go.Proofs.YtcodmedgkboohaaDoor

namespace Go.Proofs.YtcodmedgkboohaaDoor
set_option maxRecDepth 8000
open Go.RowKit

set_option maxRecDepth 20000 in
set_option maxHeartbeats 8000000 in
theorem law_moreX_0t (H : CoinC) (t : TxM) (o : OutR) (q : Int) (w : World) (kt : TxOk w t) (ko : okOut o) (hq : I64 q) (ht : Tables w) (k1 : fewX t.r = true) (k2 : mayX t.r = true) (k3 : t.n2 < 3) (f0 : ¬ (1 ≤ o.v)) :
    Calls Tryd.prog 8 #[txV t, outV o, .int .i64 q] w fun e w' => e = .returned (.bool true) ∧ Below w.heap.size w w' := by
  have HF_t : Hid (fewX t.r = true) := k1
  have HM_t : Hid (mayX t.r = true) := k2
  have V0 : Hid (decide (1 ≤ o.v) = false) := decide_eq_false f0
  have hmo : mayOut o = false := by unfold mayOut; rw [decide_eq_false_iff_not]; omega
  have hmx := mayX_iff.1 k2
  have hn2 : 1 ≤ t.n2 ∧ t.n2 ≤ 3 := by rw [← kt.l2]; omega
  have HN2 := Lib.hid hn2
  have HN63 := Lib.hid kt.n63
  have C3 : Hid (decide ((t.n2 : Int) < 3) = true) := decide_eq_true (by omega)
  obtain ⟨d1, hd1⟩ : ∃ d1, decide (1 < (t.n2 : Int)) = d1 := ⟨_, rfl⟩
  have HD1 := Lib.hid hd1
  have HMM : Hid (∀ g cap, mayX (moreX t o g cap).r = false) := fun g cap => by
    show mayX ⟨t.r.ins, t.r.outs ++ [o]⟩ = _
    rw [mayX_more k2, hmo, kt.l2, show decide (t.n2 < 3) = true from decide_eq_true k3]
    rfl
  have HML : Hid (mayX (lessX t).r = d1) := by
    show mayX ⟨t.r.ins, t.r.outs.take (t.n2 - 1)⟩ = _
    rw [← kt.l2, mayX_less k2, ← hd1, kt.l2, decide_eq_decide]
    omega
  have HMT : Hid (∀ x g cap, x ∈ t.r.ins → mayX (twiceX t x g cap).r = false) := fun x g cap hx => mayX_twice hx
  have HKO := Lib.hid ko
  have HLO := Lib.hid (outsX_len kt)
  have HLI := Lib.hid (insX_len kt)
  have HKI := Lib.hid kt.o1
  have HL1 := Lib.hid kt.l1
  have HS1 : Hid ((t.n2 : Int) - 1 = ((t.n2 - 1 : Nat) : Int) ∧ InI ((t.n2 - 1 : Nat) : Int)) := ⟨by omega, by unfold InI; omega⟩
  have HC1 : Hid (t.n2 - 1 ≤ t.c2) := by show _ ≤ _; have := kt.b2.1; omega
  have HNI : Hid (t.n1 ≤ 3) := by show _ ≤ _; rw [← kt.l1]; exact hmx.1
  have HNB : Hid (∀ b : Bool, (b != b) = false) := fun b => by cases b <;> rfl
  have HQ := Lib.hid hq
  clear k1 k2 k3 hmo hmx hn2 hd1 f0
  have E0 : Hid (EnvX w ((w.alloc (.cells (txA t) 25)).alloc (.cells (outA o) 49)) [(w.heap.size + 1, Obj.cells (outA o) 49 (0, 0)), (w.heap.size, Obj.cells (txA t) 25 (0, 0))]) := (EnvX.start w).two _ _
  have HAW := Lib.hid (cawake_any H ((w.alloc (.cells (txA t) 25)).alloc (.cells (outA o) 49)) (ht.below (EnvX.bel E0.out)))
  have HT := Lib.hid ht
  have HH := Lib.hid H
  have J_kt := Lib.hid kt
  clear ht H kt ko hq
  unfold txV outV
  go_enter Tryd.func8, Tryd.ntmps8
  go_upto_region 1 with (fail)
  generalize ((w.alloc (.cells (txA t) 25)).alloc (.cells (outA o) 49)) = W at *
  go_wp2_with fail
  refine HAW.out.mono ?_
  rintro e w1 ⟨rfl, hb1⟩
  have HB1 := Lib.hid (EnvX.below E0.out hb1).bel
  have E1 : Hid (EnvX w1 w1 [(w.heap.size + 1, Obj.cells (outA o) 49 (0, 0)), (w.heap.size, Obj.cells (txA t) 25 (0, 0))]) := ⟨Below.refl _ _, (EnvX.below E0.out hb1).box⟩
  have HT1 := Lib.hid (HT.out.below HB1.out)
  have K_kt := Lib.hid (J_kt.out.up HB1.out)
  clear hb1 E0 HAW HT J_kt
  go_upto_region 2 with (fail)
  refine wp_region_Hx (w0 := w1) [0, 1, 2] [(w.heap.size + 1, Obj.cells (outA o) 49 (0, 0)), (w.heap.size, Obj.cells (txA t) 25 (0, 0))] rfl E1.out ?_
  refine lexH_phase [0, 1, 2] [] ?_
  have hw1 : EnvX w1 _ [(w.heap.size + 1, Obj.cells (outA o) 49 (0, 0)), (w.heap.size, Obj.cells (txA t) 25 (0, 0))] := E1.out
  have hone := @EnvC.one _ _ _ hw1
  (refine wpG_val (v := txV t) rfl rfl (fun u hu => load_any_op u (box_tx hu (List.Mem.tail _ (List.Mem.head _))) rfl) ?_ hw1; intro K hK; go_big_quiet_op; go_big_quiet_on)
  (refine wpG_call (f := 10) (args := #[txV t]) (v := .bool true) rfl rfl rfl Tryd.func10 rfl rfl (fun u hu => by have h1 := few_any t u (K_kt.out.up (EnvX.bel hu)); rwa [HF_t.out] at h1) ?_ hw1; intro K hK; go_big_quiet_op; go_big_quiet_on)
  (refine wpG_op rfl rfl rfl ?_; intro K hK; go_big_quiet_op; go_big_quiet_on)
  clear hone hw1
  refine wpG_nil ?_
  intro u3 E2'
  have EX2 := Lib.hid E2'
  clear E2'
  go_upto_region 3 with (fail)
  refine wp_region_Hx (w0 := w1) [0, 1, 2, 3, 4, 5, 6, 7, 8, 9, 10] [(w.heap.size + 1, Obj.cells (outA o) 49 (0, 0)), (w.heap.size, Obj.cells (txA t) 25 (0, 0))] rfl EX2.out ?_
  refine lexH_phase [0, 1, 2, 3, 4, 5, 6, 7, 8, 9, 10] [] ?_
  have hw4 : EnvX w1 _ [(w.heap.size + 1, Obj.cells (outA o) 49 (0, 0)), (w.heap.size, Obj.cells (txA t) 25 (0, 0))] := EX2.out
  have hone := @EnvC.one _ _ _ hw4
  (refine wpG_op rfl rfl rfl ?_; intro K hK; go_big_quiet_op; go_big_quiet_on)
  (refine wpG_op rfl rfl rfl ?_; intro K hK; go_big_quiet_op; go_big_quiet_on)
  (refine wpG_op rfl rfl rfl ?_; intro K hK; go_big_quiet_op; go_big_quiet_on)
  (refine wpG_op rfl rfl rfl ?_; intro K hK; go_big_quiet_op; go_big_quiet_on)
  (refine wpG_op rfl rfl rfl ?_; intro K hK; go_big_quiet_op; go_big_quiet_on)
  (refine wpG_op rfl rfl rfl ?_; intro K hK; go_big_quiet_op; go_big_quiet_on)
  (refine wpG_op rfl rfl rfl ?_; intro K hK; go_big_quiet_op; go_big_quiet_on)
  (refine wpG_val (v := txV t) rfl rfl (fun u hu => load_any_op u (box_tx hu (List.Mem.tail _ (List.Mem.head _))) rfl) ?_ hw4; intro K hK; go_big_quiet_op; go_big_quiet_on)
  (refine wpG_call (f := 18) (args := #[txV t]) (v := .bool true) rfl rfl rfl Tryd.func18 rfl rfl (fun u hu => by have h1 := HH.out.may t u (K_kt.out.up (EnvX.bel hu)) (HT1.out.below (EnvX.bel hu)); rwa [HM_t.out] at h1) ?_ hw4; intro K hK; go_big_quiet_op; go_big_quiet_on)
  (refine wpG_op rfl rfl rfl ?_; intro K hK; go_big_quiet_op; go_big_quiet_on)
  (refine wpG_op rfl rfl rfl ?_; intro K hK; go_big_quiet_op; go_big_quiet_on)
  clear hone hw4
  refine wpG_nil ?_
  intro u6 E2'
  have EX5 := Lib.hid E2'
  clear E2'
  go_upto_region 5 with (fail)
  refine wp_region_Hx (w0 := w1) [0, 1, 2] [(w.heap.size + 1, Obj.cells (outA o) 49 (0, 0)), (w.heap.size, Obj.cells (txA t) 25 (0, 0))] rfl EX5.out ?_
  refine lexH_phase [0] [1, 2] ?_
  have hw7 : EnvX w1 _ [(w.heap.size + 1, Obj.cells (outA o) 49 (0, 0)), (w.heap.size, Obj.cells (txA t) 25 (0, 0))] := EX5.out
  have hone := @EnvC.one _ _ _ hw7
  (refine wpG_val (v := txV t) rfl rfl (fun u hu => load_any_op u (box_tx hu (List.Mem.tail _ (List.Mem.head _))) rfl) ?_ hw7; intro K hK; go_big_quiet_op; go_big_quiet_on)
  clear hone hw7
  refine wpG_nil ?_
  refine (hOp_fresh (R := fun x N => ∃ g, x = .pointer (some ⟨g, 0, none⟩) ∧ N = [(g, Obj.cells (txA noTxM) 25 (0, 0))]) (M0 := [(w.heap.size + 1, Obj.cells (outA o) 49 (0, 0)), (w.heap.size, Obj.cells (txA t) 25 (0, 0))]) rfl rfl (fun _ h => h) (fun u hu => FAt_new (new_tx _) u) ?_)
  rintro _ _ ⟨gm, rfl, rfl⟩ hf he8; intro K' hK'; go_big_quiet_op; go_big_quiet_on
  have HGM := Lib.hid (hf _ (List.mem_singleton.2 rfl))
  clear hf
  change lexH _ _ _ _ _ _ [(gm, Obj.cells (txA noTxM) 25 (0, 0)), (w.heap.size + 1, Obj.cells (outA o) 49 (0, 0)), (w.heap.size, Obj.cells (txA t) 25 (0, 0))]
  refine (hOp_store rfl (gm) (txA t) rfl rfl HGM.out.1 25 ((txA noTxM)) (List.Mem.head _) (infoTx _ rfl) rfl (txA_one _) [(gm, Obj.cells (txA t) 25 (0, 0)), (w.heap.size + 1, Obj.cells (outA o) 49 (0, 0)), (w.heap.size, Obj.cells (txA t) 25 (0, 0))] (List.forall_mem_cons.2 ⟨.inl rfl, fun y hy => .inr ⟨List.mem_cons_of_mem _ hy, HGM.out.2 y hy⟩⟩) ?_)
  intro he9
  intro u11 E2'
  have EX10 := Lib.hid E2'
  clear E2'
  have N_ob_gm : Hid (w.heap.size + 1 ≠ gm) := HGM.out.2 _ (List.Mem.head _)
  have N_tb_gm : Hid (w.heap.size ≠ gm) := HGM.out.2 _ (List.Mem.tail _ (List.Mem.head _))
  go_upto_region 6 with (fail)
  refine wp_region_H (w0 := w1) [(gm, Obj.cells (txA t) 25 (0, 0)), (w.heap.size + 1, Obj.cells (outA o) 49 (0, 0)), (w.heap.size, Obj.cells (txA t) 25 (0, 0))] (by kernel_rfl) EX10.out ?_
  refine anyH_phaseN [0, 1, 3] 5 rfl (by kernel_rfl) ?_
  have hw12 : EnvX w1 _ [] := EnvX.sub (EnvX.drew EX10.out) (fun _ h => by cases h)
  have hone := @EnvC.one _ _ _ hw12
  (refine wpG_op rfl rfl rfl ?_; intro K hK; go_big_quiet_op; go_big_quiet_on)
  (refine wpG_val (v := .slice t.A2 t.n2 t.c2) rfl rfl (fun u hu => load_any_op u (box_tx_outs (EnvX.below E1.out (EnvX.bel hu)) (List.Mem.tail _ (List.Mem.head _))) rfl) ?_ hw12; intro K hK; go_big_quiet_op; go_big_quiet_on)
  (refine wpG_val (v := outV o) rfl rfl (fun u hu => load_any_op u (box_out (EnvX.below E1.out (EnvX.bel hu)) (List.Mem.head _)) rfl) ?_ hw12; intro K hK; go_big_quiet_op; go_big_quiet_on)
  clear hone hw12
  refine wpG_nil ?_
  refine anyH_twoFreshG (i := 2) (j := 4) (fun _ _ _ hM hh => env_perm _ _ _ hM hh) (by kernel_rfl) (by kernel_rfl) (by kernel_rfl) rfl rfl (by decide) (by kernel_rfl) rfl rfl (FreshR 49 2 t.n2 ((t.r.outs.map outC).flatten)) (BuiltR 49 (outC o)) [(gm, Obj.cells (txA t) 25 (0, 0)), (w.heap.size + 1, Obj.cells (outA o) 49 (0, 0)), (w.heap.size, Obj.cells (txA t) 25 (0, 0))] [(gm, Obj.cells (txA t) 25 (0, 0)), (w.heap.size + 1, Obj.cells (outA o) 49 (0, 0)), (w.heap.size, Obj.cells (txA t) 25 (0, 0))] (fun _ h => h) (fun _ h => h) (fun u hu => FAt_appC elOut HLO.out (outsX_one _) (K_kt.out.up (EnvX.bel hu)).m2 (by have := HN2.out; omega) rfl) (fun u hu => FAt_buildR elOut rfl (outC_one _) rfl u) ?_
  rintro x1 N1 x2 N2 hF1 ⟨gs, rfl, rfl⟩ hf1 hf2 he13 K1 hK1; go_big_quiet_op; go_big_quiet_on; intro K' hK'; go_big_quiet_op; go_big_quiet_on
  obtain ⟨ga, capga, curga, rfl, rfl, hcga⟩ | ⟨_, _, h0, _⟩ := hF1
  case inr => have := HN2.out; omega
  have HCga := Lib.hid hcga
  have HGA := Lib.hid (hf1 _ (List.mem_singleton.2 rfl))
  clear hcga
  clear hf1 hf2
  change anyH _ _ _ _ _ _ _ _ [(gs, Obj.cells (outA o) 49 (0, 0)), (ga, Obj.cells curga 49 (0, 0)), (gm, Obj.cells (txA t) 25 (0, 0)), (w.heap.size + 1, Obj.cells (outA o) 49 (0, 0)), (w.heap.size, Obj.cells (txA t) 25 (0, 0))]
  refine anyH_one (i := 5) (by kernel_rfl) (hOp_own (gd := none) (R := GrownR w1 49 2 (t.n2 + 1) (((t.r.outs.map outC).flatten) ++ outC o) [(gm, Obj.cells (txA t) 25 (0, 0)), (w.heap.size + 1, Obj.cells (outA o) 49 (0, 0)), (w.heap.size, Obj.cells (txA t) 25 (0, 0))]) rfl rfl rfl rfl (fun u hu => appX_op elOut [(gm, Obj.cells (txA t) 25 (0, 0)), (w.heap.size + 1, Obj.cells (outA o) 49 (0, 0)), (w.heap.size, Obj.cells (txA t) 25 (0, 0))] hu (n := t.n2) (m := 1) HLO.out rfl (outC_one _) (.inl ⟨ga, capga, curga, rfl, rfl, HCga.out⟩) (List.forall_mem_cons.2 ⟨⟨(List.Mem.tail _ (List.Mem.head _)), HGA.out.1⟩, (fun _ h => by cases h)⟩) (src_box hu (List.Mem.head _) rfl) (List.forall_mem_cons.2 ⟨⟨(List.Mem.tail _ (List.Mem.tail _ (List.Mem.head _))), fun y hy => by cases List.mem_singleton.1 hy; exact HGA.out.2 _ (List.Mem.head _)⟩, (List.forall_mem_cons.2 ⟨⟨(List.Mem.tail _ (List.Mem.tail _ (List.Mem.tail _ (List.Mem.head _)))), fun y hy => by cases List.mem_singleton.1 hy; exact HGA.out.2 _ (List.Mem.tail _ (List.Mem.head _))⟩, (List.forall_mem_cons.2 ⟨⟨(List.Mem.tail _ (List.Mem.tail _ (List.Mem.tail _ (List.Mem.tail _ (List.Mem.head _))))), fun y hy => by cases List.mem_singleton.1 hy; exact HGA.out.2 _ (List.Mem.tail _ (List.Mem.tail _ (List.Mem.head _)))⟩, (fun _ h => by cases h)⟩)⟩)⟩) (by have := HN2.out; omega) rfl rfl) ?_)
  rintro x M' ⟨N, rfl, hF, hn⟩ he14; intro K' hK'; go_big_quiet_op; go_big_quiet_on
  obtain ⟨gb, capgb, curgb, rfl, rfl, hcgb⟩ | ⟨_, _, h0, _⟩ := hF
  case inr => omega
  have HCgb := Lib.hid hcgb
  have HGB := Lib.hid (hn _ (List.mem_singleton.2 rfl))
  have N_gb_gm : Hid (gb ≠ gm) := fun e => HGB.out.2 _ (List.Mem.head _) e.symm
  clear hcgb hn
  change anyH _ _ _ _ _ _ _ _ [(gb, Obj.cells curgb 49 (0, 0)), (gm, Obj.cells (txA t) 25 (0, 0)), (w.heap.size + 1, Obj.cells (outA o) 49 (0, 0)), (w.heap.size, Obj.cells (txA t) 25 (0, 0))]
  refine anyH_phaseN [6] 1 rfl (by kernel_rfl) ?_
  have hw15 : EnvX w1 _ [] := EnvX.sub he14.choose_spec (fun _ h => by cases h)
  have hone := @EnvC.one _ _ _ hw15
  (refine wpG_op rfl rfl rfl ?_; intro K hK; go_big_quiet_op; go_big_quiet_on)
  clear hone hw15
  refine wpG_nil ?_
  refine anyH_one (i := 7) (by kernel_rfl) (hOp_putAt rfl (gm) (1) (.slice (some ⟨gb, 0, none⟩) (t.n2 + 1) capgb) rfl rfl HGM.out.1 25 ((txA t)) (txA (moreX t o gb capgb)) (List.Mem.tail _ (List.Mem.head _)) infoOuts (by show 1 + 1 ≤ 2; decide) (by simp [Value.cells]; rfl) rfl [(gm, Obj.cells (txA (moreX t o gb capgb)) 25 (0, 0)), (gb, Obj.cells curgb 49 (0, 0)), (w.heap.size + 1, Obj.cells (outA o) 49 (0, 0)), (w.heap.size, Obj.cells (txA t) 25 (0, 0))] (List.forall_mem_cons.2 ⟨.inl rfl, (List.forall_mem_cons.2 ⟨.inr ⟨(List.Mem.head _), N_gb_gm.out⟩, (List.forall_mem_cons.2 ⟨.inr ⟨(List.Mem.tail _ (List.Mem.tail _ (List.Mem.head _))), N_ob_gm.out⟩, (List.forall_mem_cons.2 ⟨.inr ⟨(List.Mem.tail _ (List.Mem.tail _ (List.Mem.tail _ (List.Mem.head _)))), N_tb_gm.out⟩, (fun _ h => by cases h)⟩)⟩)⟩)⟩) ?_)
  intro he16
  refine anyH_done (by kernel_rfl) ?_
  intro u18 E2'
  have EX17 := Lib.hid E2'
  clear E2'
  go_upto_region 7 with (fail)
  refine wp_region_Hx (w0 := w1) [0, 1, 2] [(gm, Obj.cells (txA (moreX t o gb capgb)) 25 (0, 0)), (gb, Obj.cells curgb 49 (0, 0)), (w.heap.size + 1, Obj.cells (outA o) 49 (0, 0)), (w.heap.size, Obj.cells (txA t) 25 (0, 0))] rfl EX17.out ?_
  refine lexH_phase [0] [1, 2] ?_
  have hw19 : EnvX w1 _ [(gm, Obj.cells (txA (moreX t o gb capgb)) 25 (0, 0)), (gb, Obj.cells curgb 49 (0, 0)), (w.heap.size + 1, Obj.cells (outA o) 49 (0, 0)), (w.heap.size, Obj.cells (txA t) 25 (0, 0))] := EX17.out
  have hone := @EnvC.one _ _ _ hw19
  (refine wpG_val (v := txV t) rfl rfl (fun u hu => load_any_op u (box_tx hu (List.Mem.tail _ (List.Mem.tail _ (List.Mem.tail _ (List.Mem.head _))))) rfl) ?_ hw19; intro K hK; go_big_quiet_op; go_big_quiet_on)
  clear hone hw19
  refine wpG_nil ?_
  refine (hOp_fresh (R := fun x N => ∃ g, x = .pointer (some ⟨g, 0, none⟩) ∧ N = [(g, Obj.cells (txA noTxM) 25 (0, 0))]) (M0 := [(gm, Obj.cells (txA (moreX t o gb capgb)) 25 (0, 0)), (gb, Obj.cells curgb 49 (0, 0)), (w.heap.size + 1, Obj.cells (outA o) 49 (0, 0)), (w.heap.size, Obj.cells (txA t) 25 (0, 0))]) rfl rfl (fun _ h => h) (fun u hu => FAt_new (new_tx _) u) ?_)
  rintro _ _ ⟨gl, rfl, rfl⟩ hf he20; intro K' hK'; go_big_quiet_op; go_big_quiet_on
  have HGL := Lib.hid (hf _ (List.mem_singleton.2 rfl))
  clear hf
  change lexH _ _ _ _ _ _ [(gl, Obj.cells (txA noTxM) 25 (0, 0)), (gm, Obj.cells (txA (moreX t o gb capgb)) 25 (0, 0)), (gb, Obj.cells curgb 49 (0, 0)), (w.heap.size + 1, Obj.cells (outA o) 49 (0, 0)), (w.heap.size, Obj.cells (txA t) 25 (0, 0))]
  refine (hOp_store rfl (gl) (txA t) rfl rfl HGL.out.1 25 ((txA noTxM)) (List.Mem.head _) (infoTx _ rfl) rfl (txA_one _) [(gl, Obj.cells (txA t) 25 (0, 0)), (gm, Obj.cells (txA (moreX t o gb capgb)) 25 (0, 0)), (gb, Obj.cells curgb 49 (0, 0)), (w.heap.size + 1, Obj.cells (outA o) 49 (0, 0)), (w.heap.size, Obj.cells (txA t) 25 (0, 0))] (List.forall_mem_cons.2 ⟨.inl rfl, fun y hy => .inr ⟨List.mem_cons_of_mem _ hy, HGL.out.2 y hy⟩⟩) ?_)
  intro he21
  intro u23 E2'
  have EX22 := Lib.hid E2'
  clear E2'
  go_upto_region 8 with (fail)
  refine wp_region_Hx (w0 := w1) [0, 1, 2, 3, 4, 5, 6, 7, 8] [(gl, Obj.cells (txA t) 25 (0, 0)), (gm, Obj.cells (txA (moreX t o gb capgb)) 25 (0, 0)), (gb, Obj.cells curgb 49 (0, 0)), (w.heap.size + 1, Obj.cells (outA o) 49 (0, 0)), (w.heap.size, Obj.cells (txA t) 25 (0, 0))] rfl EX22.out ?_
  refine lexH_phase [0, 1, 2, 3, 4, 5, 6, 7] [8] ?_
  have hw24 : EnvX w1 _ [(gl, Obj.cells (txA t) 25 (0, 0)), (gm, Obj.cells (txA (moreX t o gb capgb)) 25 (0, 0)), (gb, Obj.cells curgb 49 (0, 0)), (w.heap.size + 1, Obj.cells (outA o) 49 (0, 0)), (w.heap.size, Obj.cells (txA t) 25 (0, 0))] := EX22.out
  have hone := @EnvC.one _ _ _ hw24
  (refine wpG_op rfl rfl rfl ?_; intro K hK; go_big_quiet_op; go_big_quiet_on)
  (refine wpG_val (v := .slice t.A2 t.n2 t.c2) rfl rfl (fun u hu => load_any_op u (box_tx_outs hu (List.Mem.tail _ (List.Mem.tail _ (List.Mem.tail _ (List.Mem.tail _ (List.Mem.head _)))))) rfl) ?_ hw24; intro K hK; go_big_quiet_op; go_big_quiet_on)
  (refine wpG_op rfl rfl rfl ?_; intro K hK; go_big_quiet_op; go_big_quiet_on)
  (refine wpG_val (v := .slice t.A2 t.n2 t.c2) rfl rfl (fun u hu => load_any_op u (box_tx_outs hu (List.Mem.tail _ (List.Mem.tail _ (List.Mem.tail _ (List.Mem.tail _ (List.Mem.head _)))))) rfl) ?_ hw24; intro K hK; go_big_quiet_op; go_big_quiet_on)
  (refine wpG_val (v := .int .i64 (t.n2 : Int)) rfl rfl (fun u hu => len_op Tryd.underlying23 HN63.out.2 u rfl) ?_ hw24; intro K hK; go_big_quiet_op; go_big_quiet_on)
  (refine wpG_val (v := .int .i64 ((t.n2 - 1 : Nat) : Int)) rfl rfl (fun u hu => sub_op u HS1.out.1 HS1.out.2 rfl rfl) ?_ hw24; intro K hK; go_big_quiet_op; go_big_quiet_on)
  (refine wpG_val (v := .slice t.A2 (t.n2 - 1) t.c2) rfl rfl (fun u hu => cutXh_op elOut u HC1.out rfl rfl) ?_ hw24; intro K hK; go_big_quiet_op; go_big_quiet_on)
  (refine wpG_op rfl rfl rfl ?_; intro K hK; go_big_quiet_op; go_big_quiet_on)
  clear hone hw24
  refine wpG_nil ?_
  refine (hOp_putAt rfl (gl) (1) (.slice t.A2 (t.n2 - 1) t.c2) rfl rfl HGL.out.1 25 ((txA t)) (txA (lessX t)) (List.Mem.head _) infoOuts (by show 1 + 1 ≤ 2; decide) (by simp [Value.cells]; rfl) rfl [(gl, Obj.cells (txA (lessX t)) 25 (0, 0)), (gm, Obj.cells (txA (moreX t o gb capgb)) 25 (0, 0)), (gb, Obj.cells curgb 49 (0, 0)), (w.heap.size + 1, Obj.cells (outA o) 49 (0, 0)), (w.heap.size, Obj.cells (txA t) 25 (0, 0))] (List.forall_mem_cons.2 ⟨.inl rfl, fun y hy => .inr ⟨List.mem_cons_of_mem _ hy, HGL.out.2 y hy⟩⟩) ?_)
  intro he25
  intro u27 E2'
  have EX26 := Lib.hid E2'
  clear E2'
  go_upto_region 9 with (fail)
  refine wp_region_Hx (w0 := w1) [0, 1, 2, 3, 4, 5, 6, 7, 8, 9, 10, 11, 12, 13, 14, 15, 16, 17, 18] [(gl, Obj.cells (txA (lessX t)) 25 (0, 0)), (gm, Obj.cells (txA (moreX t o gb capgb)) 25 (0, 0)), (gb, Obj.cells curgb 49 (0, 0)), (w.heap.size + 1, Obj.cells (outA o) 49 (0, 0)), (w.heap.size, Obj.cells (txA t) 25 (0, 0))] rfl EX26.out ?_
  refine lexH_phase [0, 1, 2, 3, 4, 5, 6, 7, 8, 9, 10, 11, 12, 13, 14, 15, 16, 17, 18] [] ?_
  have hw28 : EnvX w1 _ [(gl, Obj.cells (txA (lessX t)) 25 (0, 0)), (gm, Obj.cells (txA (moreX t o gb capgb)) 25 (0, 0)), (gb, Obj.cells curgb 49 (0, 0)), (w.heap.size + 1, Obj.cells (outA o) 49 (0, 0)), (w.heap.size, Obj.cells (txA t) 25 (0, 0))] := EX26.out
  have hone := @EnvC.one _ _ _ hw28
  (refine wpG_op rfl rfl rfl ?_; intro K hK; go_big_quiet_op; go_big_quiet_on)
  (refine wpG_val (v := .int .i64 o.v) rfl rfl (fun u hu => load_any_op u (box_out_v hu (List.Mem.tail _ (List.Mem.tail _ (List.Mem.tail _ (List.Mem.head _))))) rfl) ?_ hw28; intro K hK; go_big_quiet_op; go_big_quiet_on)
  (refine wpG_val (v := .bool false) rfl rfl (fun u hu => geZ_op u V0.out rfl rfl) ?_ hw28; intro K hK; go_big_quiet_op; go_big_quiet_on)
  (refine wpG_op rfl rfl rfl ?_; intro K hK; go_big_quiet_op; go_big_quiet_on)
  (refine wpG_skip rfl rfl ?_ hw28; intro K hK; go_big_quiet_op; go_big_quiet_on)
  (refine wpG_skip rfl rfl ?_ hw28; intro K hK; go_big_quiet_op; go_big_quiet_on)
  (refine wpG_skip rfl rfl ?_ hw28; intro K hK; go_big_quiet_op; go_big_quiet_on)
  (refine wpG_op rfl rfl rfl ?_; intro K hK; go_big_quiet_op; go_big_quiet_on)
  (refine wpG_op rfl rfl rfl ?_; intro K hK; go_big_quiet_op; go_big_quiet_on)
  (refine wpG_skip rfl rfl ?_ hw28; intro K hK; go_big_quiet_op; go_big_quiet_on)
  (refine wpG_skip rfl rfl ?_ hw28; intro K hK; go_big_quiet_op; go_big_quiet_on)
  (refine wpG_skip rfl rfl ?_ hw28; intro K hK; go_big_quiet_op; go_big_quiet_on)
  (refine wpG_op rfl rfl rfl ?_; intro K hK; go_big_quiet_op; go_big_quiet_on)
  (refine wpG_op rfl rfl rfl ?_; intro K hK; go_big_quiet_op; go_big_quiet_on)
  (refine wpG_skip rfl rfl ?_ hw28; intro K hK; go_big_quiet_op; go_big_quiet_on)
  (refine wpG_skip rfl rfl ?_ hw28; intro K hK; go_big_quiet_op; go_big_quiet_on)
  (refine wpG_skip rfl rfl ?_ hw28; intro K hK; go_big_quiet_op; go_big_quiet_on)
  (refine wpG_op rfl rfl rfl ?_; intro K hK; go_big_quiet_op; go_big_quiet_on)
  (refine wpG_op rfl rfl rfl ?_; intro K hK; go_big_quiet_op; go_big_quiet_on)
  clear hone hw28
  refine wpG_nil ?_
  intro u30 E2'
  have EX29 := Lib.hid E2'
  clear E2'
  go_upto_region 10 with (fail)
  refine wp_region_H (w0 := w1) [(gl, Obj.cells (txA (lessX t)) 25 (0, 0)), (gm, Obj.cells (txA (moreX t o gb capgb)) 25 (0, 0)), (gb, Obj.cells curgb 49 (0, 0)), (w.heap.size + 1, Obj.cells (outA o) 49 (0, 0)), (w.heap.size, Obj.cells (txA t) 25 (0, 0))] (by kernel_rfl) EX29.out ?_
  refine anyH_phase [0, 1, 2, 3, 4, 5, 6, 7, 8, 9, 10, 11, 12, 13, 14, 15, 16, 17, 18] 0 rfl ⟨_, (EnvX.drew EX29.out)⟩ (by kernel_rfl) ?_
  have hw31 : EnvX w1 _ [(gl, Obj.cells (txA (lessX t)) 25 (0, 0)), (gm, Obj.cells (txA (moreX t o gb capgb)) 25 (0, 0)), (gb, Obj.cells curgb 49 (0, 0)), (w.heap.size + 1, Obj.cells (outA o) 49 (0, 0)), (w.heap.size, Obj.cells (txA t) 25 (0, 0))] := (EnvX.drew EX29.out)
  have hone := @EnvC.one _ _ _ hw31
  (refine wpG_val (v := txV (moreX t o gb capgb)) rfl rfl (fun u hu => load_any_op u (box_tx hu (List.Mem.tail _ (List.Mem.head _))) rfl) ?_ hw31; intro K hK; go_big_quiet_op; go_big_quiet_on)
  (refine wpG_call (f := 18) (args := #[txV (moreX t o gb capgb)]) (v := .bool false) rfl rfl rfl Tryd.func18 rfl rfl (fun u hu => by have h1 := HH.out.may (moreX t o gb capgb) u (more_ok (K_kt.out.up (EnvX.bel hu)) HKO.out hu (List.Mem.tail _ (List.Mem.tail _ (List.Mem.head _))) HCgb.out) (HT1.out.below (EnvX.bel hu)); rwa [HMM.out] at h1) ?_ hw31; intro K hK; go_big_quiet_op; go_big_quiet_on)
  (refine wpG_op rfl rfl rfl ?_; intro K hK; go_big_quiet_op; go_big_quiet_on)
  (refine wpG_val (v := .slice t.A2 t.n2 t.c2) rfl rfl (fun u hu => load_any_op u (box_tx_outs hu (List.Mem.tail _ (List.Mem.tail _ (List.Mem.tail _ (List.Mem.tail _ (List.Mem.head _)))))) rfl) ?_ hw31; intro K hK; go_big_quiet_op; go_big_quiet_on)
  (refine wpG_val (v := .int .i64 (t.n2 : Int)) rfl rfl (fun u hu => len_op Tryd.underlying23 HN63.out.2 u rfl) ?_ hw31; intro K hK; go_big_quiet_op; go_big_quiet_on)
  (refine wpG_val (v := .bool true) rfl rfl (fun u hu => ltZ_op u C3.out rfl rfl) ?_ hw31; intro K hK; go_big_quiet_op; go_big_quiet_on)
  (refine wpG_op rfl rfl rfl ?_; intro K hK; go_big_quiet_op; go_big_quiet_on)
  (refine wpG_op rfl rfl rfl ?_; intro K hK; go_big_quiet_op; go_big_quiet_on)
  (refine wpG_op rfl rfl rfl ?_; intro K hK; go_big_quiet_op; go_big_quiet_on)
  (refine wpG_val (v := .bool false) rfl rfl (fun u hu => neqBc_op u rfl rfl rfl) ?_ hw31; intro K hK; go_big_quiet_op; go_big_quiet_on)
  (refine wpG_op rfl rfl rfl ?_; intro K hK; go_big_quiet_op; go_big_quiet_on)
  (refine wpG_val (v := txV (lessX t)) rfl rfl (fun u hu => load_any_op u (box_tx hu (List.Mem.head _)) rfl) ?_ hw31; intro K hK; go_big_quiet_op; go_big_quiet_on)
  (refine wpG_call (f := 18) (args := #[txV (lessX t)]) (v := .bool d1) rfl rfl rfl Tryd.func18 rfl rfl (fun u hu => by have h1 := HH.out.may (lessX t) u (less_ok (K_kt.out.up (EnvX.bel hu))) (HT1.out.below (EnvX.bel hu)); rwa [HML.out] at h1) ?_ hw31; intro K hK; go_big_quiet_op; go_big_quiet_on)
  (refine wpG_op rfl rfl rfl ?_; intro K hK; go_big_quiet_op; go_big_quiet_on)
  (refine wpG_val (v := .slice t.A2 t.n2 t.c2) rfl rfl (fun u hu => load_any_op u (box_tx_outs hu (List.Mem.tail _ (List.Mem.tail _ (List.Mem.tail _ (List.Mem.tail _ (List.Mem.head _)))))) rfl) ?_ hw31; intro K hK; go_big_quiet_op; go_big_quiet_on)
  (refine wpG_val (v := .int .i64 (t.n2 : Int)) rfl rfl (fun u hu => len_op Tryd.underlying23 HN63.out.2 u rfl) ?_ hw31; intro K hK; go_big_quiet_op; go_big_quiet_on)
  (refine wpG_val (v := .bool d1) rfl rfl (fun u hu => gtZ_op u HD1.out rfl rfl) ?_ hw31; intro K hK; go_big_quiet_op; go_big_quiet_on)
  (refine wpG_val (v := .bool false) rfl rfl (fun u hu => neqBc_op u (HNB.out _) rfl rfl) ?_ hw31; intro K hK; go_big_quiet_op; go_big_quiet_on)
  (refine wpG_op rfl rfl rfl ?_; intro K hK; go_big_quiet_op; go_big_quiet_on)
  clear hone hw31
  refine wpG_nil ?_
  refine anyH_done (by kernel_rfl) ?_
  intro u33 E2'
  have EX32 := Lib.hid E2'
  clear E2'
  by_cases d : q < 0
  · have D1 : Hid (decide (q < 0) = true) := decide_eq_true d
    clear d
    go_upto_region 12 with (fail)
    refine wp_region_Hx (w0 := w1) [0, 1, 2, 3, 4, 5, 6, 7, 8] [(gl, Obj.cells (txA (lessX t)) 25 (0, 0)), (gm, Obj.cells (txA (moreX t o gb capgb)) 25 (0, 0)), (gb, Obj.cells curgb 49 (0, 0)), (w.heap.size + 1, Obj.cells (outA o) 49 (0, 0)), (w.heap.size, Obj.cells (txA t) 25 (0, 0))] rfl EX32.out ?_
    refine lexH_phase [0, 1, 2, 3, 4, 5, 6, 7, 8] [] ?_
    have hw34 : EnvX w1 _ [(gl, Obj.cells (txA (lessX t)) 25 (0, 0)), (gm, Obj.cells (txA (moreX t o gb capgb)) 25 (0, 0)), (gb, Obj.cells curgb 49 (0, 0)), (w.heap.size + 1, Obj.cells (outA o) 49 (0, 0)), (w.heap.size, Obj.cells (txA t) 25 (0, 0))] := EX32.out
    have hone := @EnvC.one _ _ _ hw34
    (refine wpG_op rfl rfl rfl ?_; intro K hK; go_big_quiet_op; go_big_quiet_on)
    (refine wpG_val (v := .bool true) rfl rfl (fun u hu => ltZ_op u D1.out rfl rfl) ?_ hw34; intro K hK; go_big_quiet_op; go_big_quiet_on)
    (refine wpG_op rfl rfl rfl ?_; intro K hK; go_big_quiet_op; go_big_quiet_on)
    (refine wpG_skip rfl rfl ?_ hw34; intro K hK; go_big_quiet_op; go_big_quiet_on)
    (refine wpG_skip rfl rfl ?_ hw34; intro K hK; go_big_quiet_op; go_big_quiet_on)
    (refine wpG_skip rfl rfl ?_ hw34; intro K hK; go_big_quiet_op; go_big_quiet_on)
    (refine wpG_skip rfl rfl ?_ hw34; intro K hK; go_big_quiet_op; go_big_quiet_on)
    (refine wpG_skip rfl rfl ?_ hw34; intro K hK; go_big_quiet_op; go_big_quiet_on)
    (refine wpG_op rfl rfl rfl ?_; intro K hK; go_big_quiet_op; go_big_quiet_on)
    clear hone hw34
    refine wpG_nil ?_
    intro u36 E2'
    have EX35 := Lib.hid E2'
    clear E2'
    have HBE := Lib.hid (HB1.out.trans ((EnvX.bel EX35.out).mono HB1.out.size))
    go_wp2
    go_ret
    exact ⟨rfl, HBE.out⟩
  have D1 : Hid (decide (q < 0) = false) := decide_eq_false d
  by_cases d7 : (t.n1 : Int) ≤ q
  · have D7 : Hid (decide ((t.n1 : Int) ≤ q) = true) := decide_eq_true d7
    clear d d7
    go_upto_region 12 with (fail)
    refine wp_region_Hx (w0 := w1) [0, 1, 2, 3, 4, 5, 6, 7, 8] [(gl, Obj.cells (txA (lessX t)) 25 (0, 0)), (gm, Obj.cells (txA (moreX t o gb capgb)) 25 (0, 0)), (gb, Obj.cells curgb 49 (0, 0)), (w.heap.size + 1, Obj.cells (outA o) 49 (0, 0)), (w.heap.size, Obj.cells (txA t) 25 (0, 0))] rfl EX32.out ?_
    refine lexH_phase [0, 1, 2, 3, 4, 5, 6, 7, 8] [] ?_
    have hw34 : EnvX w1 _ [(gl, Obj.cells (txA (lessX t)) 25 (0, 0)), (gm, Obj.cells (txA (moreX t o gb capgb)) 25 (0, 0)), (gb, Obj.cells curgb 49 (0, 0)), (w.heap.size + 1, Obj.cells (outA o) 49 (0, 0)), (w.heap.size, Obj.cells (txA t) 25 (0, 0))] := EX32.out
    have hone := @EnvC.one _ _ _ hw34
    (refine wpG_op rfl rfl rfl ?_; intro K hK; go_big_quiet_op; go_big_quiet_on)
    (refine wpG_val (v := .bool false) rfl rfl (fun u hu => ltZ_op u D1.out rfl rfl) ?_ hw34; intro K hK; go_big_quiet_op; go_big_quiet_on)
    (refine wpG_op rfl rfl rfl ?_; intro K hK; go_big_quiet_op; go_big_quiet_on)
    (refine wpG_op rfl rfl rfl ?_; intro K hK; go_big_quiet_op; go_big_quiet_on)
    (refine wpG_op rfl rfl rfl ?_; intro K hK; go_big_quiet_op; go_big_quiet_on)
    (refine wpG_val (v := .slice t.A1 t.n1 t.c1) rfl rfl (fun u hu => load_any_op u (box_tx_ins hu (List.Mem.tail _ (List.Mem.tail _ (List.Mem.tail _ (List.Mem.tail _ (List.Mem.head _)))))) rfl) ?_ hw34; intro K hK; go_big_quiet_op; go_big_quiet_on)
    (refine wpG_val (v := .int .i64 (t.n1 : Int)) rfl rfl (fun u hu => len_op Tryd.underlying22 HN63.out.1 u rfl) ?_ hw34; intro K hK; go_big_quiet_op; go_big_quiet_on)
    (refine wpG_val (v := .bool true) rfl rfl (fun u hu => geZ_op u D7.out rfl rfl) ?_ hw34; intro K hK; go_big_quiet_op; go_big_quiet_on)
    (refine wpG_op rfl rfl rfl ?_; intro K hK; go_big_quiet_op; go_big_quiet_on)
    clear hone hw34
    refine wpG_nil ?_
    intro u36 E2'
    have EX35 := Lib.hid E2'
    clear E2'
    have HBE := Lib.hid (HB1.out.trans ((EnvX.bel EX35.out).mono HB1.out.size))
    go_wp2
    go_ret
    exact ⟨rfl, HBE.out⟩
  have D7 : Hid (decide ((t.n1 : Int) ≤ q) = false) := decide_eq_false d7
  obtain ⟨j, rfl⟩ := Int.eq_ofNat_of_zero_le (show 0 ≤ q by omega)
  have HJN : Hid (j < t.n1) := by show _ < _; omega
  have hjl : j < t.r.ins.length := by rw [HL1.out]; exact HJN.out
  obtain ⟨ad, ha1, -, hld⟩ := K_kt.out.m1.loads HKI.out hjl
  have HA1 := Lib.hid ha1
  have HLD : Hid (∀ u, EnvX w1 u [] → (loadVar 51 (ad.add (j * 33))).run Tryd.prog u = .ok (inV (t.r.ins.getD j noIn)) u) := fun u hu => (hld u hu).1
  have HXI : Hid (t.r.ins.getD j noIn ∈ t.r.ins ∧ okIn (t.r.ins.getD j noIn)) := ⟨by rw [List.getD_eq_getElem?_getD, List.getElem?_eq_getElem hjl]; exact List.getElem_mem hjl, okIns.get HKI.out hjl⟩
  have HNI1 : Hid (1 ≤ t.n1 ∧ t.n1 ≤ 3) := ⟨by have := HJN.out; omega, HNI.out⟩
  clear d d7 ha1 hld hjl
  generalize t.r.ins.getD j noIn = x at *
  go_upto_region 12 with (fail)
  refine wp_region_Hx (w0 := w1) [0, 1, 2, 3, 4, 5, 6, 7, 8] [(gl, Obj.cells (txA (lessX t)) 25 (0, 0)), (gm, Obj.cells (txA (moreX t o gb capgb)) 25 (0, 0)), (gb, Obj.cells curgb 49 (0, 0)), (w.heap.size + 1, Obj.cells (outA o) 49 (0, 0)), (w.heap.size, Obj.cells (txA t) 25 (0, 0))] rfl EX32.out ?_
  refine lexH_phase [0, 1, 2, 3, 4, 5, 6, 7, 8] [] ?_
  have hw34 : EnvX w1 _ [(gl, Obj.cells (txA (lessX t)) 25 (0, 0)), (gm, Obj.cells (txA (moreX t o gb capgb)) 25 (0, 0)), (gb, Obj.cells curgb 49 (0, 0)), (w.heap.size + 1, Obj.cells (outA o) 49 (0, 0)), (w.heap.size, Obj.cells (txA t) 25 (0, 0))] := EX32.out
  have hone := @EnvC.one _ _ _ hw34
  (refine wpG_op rfl rfl rfl ?_; intro K hK; go_big_quiet_op; go_big_quiet_on)
  (refine wpG_val (v := .bool false) rfl rfl (fun u hu => ltZ_op u D1.out rfl rfl) ?_ hw34; intro K hK; go_big_quiet_op; go_big_quiet_on)
  (refine wpG_op rfl rfl rfl ?_; intro K hK; go_big_quiet_op; go_big_quiet_on)
  (refine wpG_op rfl rfl rfl ?_; intro K hK; go_big_quiet_op; go_big_quiet_on)
  (refine wpG_op rfl rfl rfl ?_; intro K hK; go_big_quiet_op; go_big_quiet_on)
  (refine wpG_val (v := .slice t.A1 t.n1 t.c1) rfl rfl (fun u hu => load_any_op u (box_tx_ins hu (List.Mem.tail _ (List.Mem.tail _ (List.Mem.tail _ (List.Mem.tail _ (List.Mem.head _)))))) rfl) ?_ hw34; intro K hK; go_big_quiet_op; go_big_quiet_on)
  (refine wpG_val (v := .int .i64 (t.n1 : Int)) rfl rfl (fun u hu => len_op Tryd.underlying22 HN63.out.1 u rfl) ?_ hw34; intro K hK; go_big_quiet_op; go_big_quiet_on)
  (refine wpG_val (v := .bool false) rfl rfl (fun u hu => geZ_op u D7.out rfl rfl) ?_ hw34; intro K hK; go_big_quiet_op; go_big_quiet_on)
  (refine wpG_op rfl rfl rfl ?_; intro K hK; go_big_quiet_op; go_big_quiet_on)
  clear hone hw34
  refine wpG_nil ?_
  intro u36 E2'
  have EX35 := Lib.hid E2'
  clear E2'
  go_upto_region 14 with (fail)
  refine wp_region_Hx (w0 := w1) [0, 1, 2] [(gl, Obj.cells (txA (lessX t)) 25 (0, 0)), (gm, Obj.cells (txA (moreX t o gb capgb)) 25 (0, 0)), (gb, Obj.cells curgb 49 (0, 0)), (w.heap.size + 1, Obj.cells (outA o) 49 (0, 0)), (w.heap.size, Obj.cells (txA t) 25 (0, 0))] rfl EX35.out ?_
  refine lexH_phase [0] [1, 2] ?_
  have hw37 : EnvX w1 _ [(gl, Obj.cells (txA (lessX t)) 25 (0, 0)), (gm, Obj.cells (txA (moreX t o gb capgb)) 25 (0, 0)), (gb, Obj.cells curgb 49 (0, 0)), (w.heap.size + 1, Obj.cells (outA o) 49 (0, 0)), (w.heap.size, Obj.cells (txA t) 25 (0, 0))] := EX35.out
  have hone := @EnvC.one _ _ _ hw37
  (refine wpG_val (v := txV t) rfl rfl (fun u hu => load_any_op u (box_tx hu (List.Mem.tail _ (List.Mem.tail _ (List.Mem.tail _ (List.Mem.tail _ (List.Mem.head _)))))) rfl) ?_ hw37; intro K hK; go_big_quiet_op; go_big_quiet_on)
  clear hone hw37
  refine wpG_nil ?_
  refine (hOp_fresh (R := fun x N => ∃ g, x = .pointer (some ⟨g, 0, none⟩) ∧ N = [(g, Obj.cells (txA noTxM) 25 (0, 0))]) (M0 := [(gl, Obj.cells (txA (lessX t)) 25 (0, 0)), (gm, Obj.cells (txA (moreX t o gb capgb)) 25 (0, 0)), (gb, Obj.cells curgb 49 (0, 0)), (w.heap.size + 1, Obj.cells (outA o) 49 (0, 0)), (w.heap.size, Obj.cells (txA t) 25 (0, 0))]) rfl rfl (fun _ h => h) (fun u hu => FAt_new (new_tx _) u) ?_)
  rintro _ _ ⟨gt, rfl, rfl⟩ hf he38; intro K' hK'; go_big_quiet_op; go_big_quiet_on
  have HGT := Lib.hid (hf _ (List.mem_singleton.2 rfl))
  clear hf
  change lexH _ _ _ _ _ _ [(gt, Obj.cells (txA noTxM) 25 (0, 0)), (gl, Obj.cells (txA (lessX t)) 25 (0, 0)), (gm, Obj.cells (txA (moreX t o gb capgb)) 25 (0, 0)), (gb, Obj.cells curgb 49 (0, 0)), (w.heap.size + 1, Obj.cells (outA o) 49 (0, 0)), (w.heap.size, Obj.cells (txA t) 25 (0, 0))]
  refine (hOp_store rfl (gt) (txA t) rfl rfl HGT.out.1 25 ((txA noTxM)) (List.Mem.head _) (infoTx _ rfl) rfl (txA_one _) [(gt, Obj.cells (txA t) 25 (0, 0)), (gl, Obj.cells (txA (lessX t)) 25 (0, 0)), (gm, Obj.cells (txA (moreX t o gb capgb)) 25 (0, 0)), (gb, Obj.cells curgb 49 (0, 0)), (w.heap.size + 1, Obj.cells (outA o) 49 (0, 0)), (w.heap.size, Obj.cells (txA t) 25 (0, 0))] (List.forall_mem_cons.2 ⟨.inl rfl, fun y hy => .inr ⟨List.mem_cons_of_mem _ hy, HGT.out.2 y hy⟩⟩) ?_)
  intro he39
  intro u41 E2'
  have EX40 := Lib.hid E2'
  clear E2'
  have N_tb_gt : Hid (w.heap.size ≠ gt) := HGT.out.2 _ (List.Mem.tail _ (List.Mem.tail _ (List.Mem.tail _ (List.Mem.tail _ (List.Mem.head _)))))
  have E15 : Hid (EnvX w1 u41 [(gt, Obj.cells (txA t) 25 (0, 0)), (w.heap.size, Obj.cells (txA t) 25 (0, 0))]) := EnvX.sub EX40.out (fun y hy => by
    rcases List.mem_cons.1 hy with rfl | hy
    · exact (List.Mem.head _)
    · cases List.mem_singleton.1 hy
      exact (List.Mem.tail _ (List.Mem.tail _ (List.Mem.tail _ (List.Mem.tail _ (List.Mem.tail _ (List.Mem.head _)))))))
  go_upto_region 15 with (fail)
  refine wp_region_H (w0 := w1) [(gt, Obj.cells (txA t) 25 (0, 0)), (w.heap.size, Obj.cells (txA t) 25 (0, 0))] (by kernel_rfl) E15.out ?_
  refine anyH_phaseN [0, 1, 3, 4, 5, 6, 7] 5 rfl (by kernel_rfl) ?_
  have hw42 : EnvX w1 _ [] := EnvX.sub (EnvX.drew E15.out) (fun _ h => by cases h)
  have hone := @EnvC.one _ _ _ hw42
  (refine wpG_op rfl rfl rfl ?_; intro K hK; go_big_quiet_op; go_big_quiet_on)
  (refine wpG_val (v := .slice t.A1 t.n1 t.c1) rfl rfl (fun u hu => load_any_op u (box_tx_ins (EnvX.below E1.out (EnvX.bel hu)) (List.Mem.tail _ (List.Mem.head _))) rfl) ?_ hw42; intro K hK; go_big_quiet_op; go_big_quiet_on)
  (refine wpG_op rfl rfl rfl ?_; intro K hK; go_big_quiet_op; go_big_quiet_on)
  (refine wpG_val (v := .slice (some ad) t.n1 t.c1) rfl rfl (fun u hu => by have h1 := box_tx_ins (EnvX.below E1.out (EnvX.bel hu)) (List.Mem.tail _ (List.Mem.head _)); rw [HA1.out] at h1; exact load_any_op u h1 rfl) ?_ hw42; intro K hK; go_big_quiet_op; go_big_quiet_on)
  (refine wpG_op rfl rfl rfl ?_; intro K hK; go_big_quiet_op; go_big_quiet_on)
  (refine wpG_val (v := .pointer (some (ad.add (j * 33)))) rfl rfl (fun u hu => idxSl_op (i := j) Tryd.underlying22 aggIn.size HJN.out u rfl rfl) ?_ hw42; intro K hK; go_big_quiet_op; go_big_quiet_on)
  (refine wpG_val (v := inV x) rfl rfl (fun u hu => load_any_op u (HLD.out u (EnvX.sub hu (fun _ h => by cases h))) rfl) ?_ hw42; intro K hK; go_big_quiet_op; go_big_quiet_on)
  clear hone hw42
  refine wpG_nil ?_
  refine anyH_twoFreshG (i := 2) (j := 8) (fun _ _ _ hM hh => env_perm _ _ _ hM hh) (by kernel_rfl) (by kernel_rfl) (by kernel_rfl) rfl rfl (by decide) (by kernel_rfl) rfl rfl (FreshR 51 33 t.n1 ((t.r.ins.map inC).flatten)) (BuiltR 51 (inC x)) [(gt, Obj.cells (txA t) 25 (0, 0)), (w.heap.size, Obj.cells (txA t) 25 (0, 0))] [(gt, Obj.cells (txA t) 25 (0, 0)), (w.heap.size, Obj.cells (txA t) 25 (0, 0))] (fun _ h => h) (fun _ h => h) (fun u hu => FAt_appC elIn HLI.out (insX_one _) (K_kt.out.up (EnvX.bel hu)).m1 (by have := HNI1.out; omega) rfl) (fun u hu => FAt_buildR elIn (inC_len HXI.out.2.len) (inC_one _) rfl u) ?_
  rintro x1 N1 x2 N2 hF1 ⟨gd, rfl, rfl⟩ hf1 hf2 he43 K1 hK1; go_big_quiet_op; go_big_quiet_on; intro K' hK'; go_big_quiet_op; go_big_quiet_on
  obtain ⟨gc, capgc, curgc, rfl, rfl, hcgc⟩ | ⟨_, _, h0, _⟩ := hF1
  case inr => have := HNI1.out; omega
  have HCgc := Lib.hid hcgc
  have HGC := Lib.hid (hf1 _ (List.mem_singleton.2 rfl))
  clear hcgc
  clear hf1 hf2
  change anyH _ _ _ _ _ _ _ _ [(gd, Obj.cells (inA x) 51 (0, 0)), (gc, Obj.cells curgc 51 (0, 0)), (gt, Obj.cells (txA t) 25 (0, 0)), (w.heap.size, Obj.cells (txA t) 25 (0, 0))]
  refine anyH_one (i := 9) (by kernel_rfl) (hOp_own (gd := none) (R := GrownR w1 51 33 (t.n1 + 1) (((t.r.ins.map inC).flatten) ++ inC x) [(gt, Obj.cells (txA t) 25 (0, 0)), (w.heap.size, Obj.cells (txA t) 25 (0, 0))]) rfl rfl rfl rfl (fun u hu => appX_op elIn [(gt, Obj.cells (txA t) 25 (0, 0)), (w.heap.size, Obj.cells (txA t) 25 (0, 0))] hu (n := t.n1) (m := 1) HLI.out (by rw [inC_len HXI.out.2.len]) (inC_one _) (.inl ⟨gc, capgc, curgc, rfl, rfl, HCgc.out⟩) (List.forall_mem_cons.2 ⟨⟨(List.Mem.tail _ (List.Mem.head _)), HGC.out.1⟩, (fun _ h => by cases h)⟩) (src_box hu (List.Mem.head _) (by rw [List.drop_zero]; exact List.take_length)) (List.forall_mem_cons.2 ⟨⟨(List.Mem.tail _ (List.Mem.tail _ (List.Mem.head _))), fun y hy => by cases List.mem_singleton.1 hy; exact HGC.out.2 _ (List.Mem.head _)⟩, (List.forall_mem_cons.2 ⟨⟨(List.Mem.tail _ (List.Mem.tail _ (List.Mem.tail _ (List.Mem.head _)))), fun y hy => by cases List.mem_singleton.1 hy; exact HGC.out.2 _ (List.Mem.tail _ (List.Mem.head _))⟩, (fun _ h => by cases h)⟩)⟩) (by have := HNI1.out; omega) rfl rfl) ?_)
  rintro x M' ⟨N, rfl, hF, hn⟩ he44; intro K' hK'; go_big_quiet_op; go_big_quiet_on
  obtain ⟨ge, capge, curge, rfl, rfl, hcge⟩ | ⟨_, _, h0, _⟩ := hF
  case inr => omega
  have HCge := Lib.hid hcge
  have HGE := Lib.hid (hn _ (List.mem_singleton.2 rfl))
  have N_ge_gt : Hid (ge ≠ gt) := fun e => HGE.out.2 _ (List.Mem.head _) e.symm
  clear hcge hn
  change anyH _ _ _ _ _ _ _ _ [(ge, Obj.cells curge 51 (0, 0)), (gt, Obj.cells (txA t) 25 (0, 0)), (w.heap.size, Obj.cells (txA t) 25 (0, 0))]
  refine anyH_phaseN [10] 1 rfl (by kernel_rfl) ?_
  have hw45 : EnvX w1 _ [] := EnvX.sub he44.choose_spec (fun _ h => by cases h)
  have hone := @EnvC.one _ _ _ hw45
  (refine wpG_op rfl rfl rfl ?_; intro K hK; go_big_quiet_op; go_big_quiet_on)
  clear hone hw45
  refine wpG_nil ?_
  refine anyH_one (i := 11) (by kernel_rfl) (hOp_putAt rfl (gt) (0) (.slice (some ⟨ge, 0, none⟩) (t.n1 + 1) capge) rfl rfl HGT.out.1 25 ((txA t)) (txA (twiceX t x ge capge)) (List.Mem.tail _ (List.Mem.head _)) infoIns (by show 0 + 1 ≤ 2; decide) (by simp [Value.cells]; rfl) rfl [(gt, Obj.cells (txA (twiceX t x ge capge)) 25 (0, 0)), (ge, Obj.cells curge 51 (0, 0)), (w.heap.size, Obj.cells (txA t) 25 (0, 0))] (List.forall_mem_cons.2 ⟨.inl rfl, (List.forall_mem_cons.2 ⟨.inr ⟨(List.Mem.head _), N_ge_gt.out⟩, (List.forall_mem_cons.2 ⟨.inr ⟨(List.Mem.tail _ (List.Mem.tail _ (List.Mem.head _))), N_tb_gt.out⟩, (fun _ h => by cases h)⟩)⟩)⟩) ?_)
  intro he46
  refine anyH_done (by kernel_rfl) ?_
  intro u48 E2'
  have EX47 := Lib.hid E2'
  clear E2'
  go_upto_region 16 with (fail)
  refine wp_region_Hx (w0 := w1) [0, 1, 2, 3] [(gt, Obj.cells (txA (twiceX t x ge capge)) 25 (0, 0)), (ge, Obj.cells curge 51 (0, 0)), (w.heap.size, Obj.cells (txA t) 25 (0, 0))] rfl EX47.out ?_
  refine lexH_phase [0, 1, 2, 3] [] ?_
  have hw49 : EnvX w1 _ [(gt, Obj.cells (txA (twiceX t x ge capge)) 25 (0, 0)), (ge, Obj.cells curge 51 (0, 0)), (w.heap.size, Obj.cells (txA t) 25 (0, 0))] := EX47.out
  have hone := @EnvC.one _ _ _ hw49
  (refine wpG_val (v := txV (twiceX t x ge capge)) rfl rfl (fun u hu => load_any_op u (box_tx hu (List.Mem.head _)) rfl) ?_ hw49; intro K hK; go_big_quiet_op; go_big_quiet_on)
  (refine wpG_call (f := 18) (args := #[txV (twiceX t x ge capge)]) (v := .bool false) rfl rfl rfl Tryd.func18 rfl rfl (fun u hu => by have h1 := HH.out.may (twiceX t x ge capge) u (twice_ok (K_kt.out.up (EnvX.bel hu)) HXI.out.2 hu (List.Mem.tail _ (List.Mem.head _)) HCge.out) (HT1.out.below (EnvX.bel hu)); rwa [HMT.out _ _ _ HXI.out.1] at h1) ?_ hw49; intro K hK; go_big_quiet_op; go_big_quiet_on)
  (refine wpG_op rfl rfl rfl ?_; intro K hK; go_big_quiet_op; go_big_quiet_on)
  (refine wpG_op rfl rfl rfl ?_; intro K hK; go_big_quiet_op; go_big_quiet_on)
  clear hone hw49
  refine wpG_nil ?_
  intro u51 E2'
  have EX50 := Lib.hid E2'
  clear E2'
  have HBE := Lib.hid (HB1.out.trans ((EnvX.bel EX50.out).mono HB1.out.size))
  go_wp2
  go_ret
  exact ⟨rfl, HBE.out⟩
set_option maxRecDepth 20000 in
set_option maxHeartbeats 8000000 in
theorem law_moreX_0f (H : CoinC) (t : TxM) (o : OutR) (q : Int) (w : World) (kt : TxOk w t) (ko : okOut o) (hq : I64 q) (ht : Tables w) (k1 : fewX t.r = true) (k2 : mayX t.r = true) (k3 : ¬ t.n2 < 3) (f0 : ¬ (1 ≤ o.v)) :
    Calls Tryd.prog 8 #[txV t, outV o, .int .i64 q] w fun e w' => e = .returned (.bool true) ∧ Below w.heap.size w w' := by
  have HF_t : Hid (fewX t.r = true) := k1
  have HM_t : Hid (mayX t.r = true) := k2
  have V0 : Hid (decide (1 ≤ o.v) = false) := decide_eq_false f0
  have hmo : mayOut o = false := by unfold mayOut; rw [decide_eq_false_iff_not]; omega
  have hmx := mayX_iff.1 k2
  have hn2 : 1 ≤ t.n2 ∧ t.n2 ≤ 3 := by rw [← kt.l2]; omega
  have HN2 := Lib.hid hn2
  have HN63 := Lib.hid kt.n63
  have C3 : Hid (decide ((t.n2 : Int) < 3) = false) := decide_eq_false (by omega)
  obtain ⟨d1, hd1⟩ : ∃ d1, decide (1 < (t.n2 : Int)) = d1 := ⟨_, rfl⟩
  have HD1 := Lib.hid hd1
  have HMM : Hid (∀ g cap, mayX (moreX t o g cap).r = false) := fun g cap => by
    show mayX ⟨t.r.ins, t.r.outs ++ [o]⟩ = _
    rw [mayX_more k2, hmo, kt.l2, show decide (t.n2 < 3) = false from decide_eq_false k3]
    rfl
  have HML : Hid (mayX (lessX t).r = d1) := by
    show mayX ⟨t.r.ins, t.r.outs.take (t.n2 - 1)⟩ = _
    rw [← kt.l2, mayX_less k2, ← hd1, kt.l2, decide_eq_decide]
    omega
  have HMT : Hid (∀ x g cap, x ∈ t.r.ins → mayX (twiceX t x g cap).r = false) := fun x g cap hx => mayX_twice hx
  have HKO := Lib.hid ko
  have HLO := Lib.hid (outsX_len kt)
  have HLI := Lib.hid (insX_len kt)
  have HKI := Lib.hid kt.o1
  have HL1 := Lib.hid kt.l1
  have HS1 : Hid ((t.n2 : Int) - 1 = ((t.n2 - 1 : Nat) : Int) ∧ InI ((t.n2 - 1 : Nat) : Int)) := ⟨by omega, by unfold InI; omega⟩
  have HC1 : Hid (t.n2 - 1 ≤ t.c2) := by show _ ≤ _; have := kt.b2.1; omega
  have HNI : Hid (t.n1 ≤ 3) := by show _ ≤ _; rw [← kt.l1]; exact hmx.1
  have HNB : Hid (∀ b : Bool, (b != b) = false) := fun b => by cases b <;> rfl
  have HQ := Lib.hid hq
  clear k1 k2 k3 hmo hmx hn2 hd1 f0
  have E0 : Hid (EnvX w ((w.alloc (.cells (txA t) 25)).alloc (.cells (outA o) 49)) [(w.heap.size + 1, Obj.cells (outA o) 49 (0, 0)), (w.heap.size, Obj.cells (txA t) 25 (0, 0))]) := (EnvX.start w).two _ _
  have HAW := Lib.hid (cawake_any H ((w.alloc (.cells (txA t) 25)).alloc (.cells (outA o) 49)) (ht.below (EnvX.bel E0.out)))
  have HT := Lib.hid ht
  have HH := Lib.hid H
  have J_kt := Lib.hid kt
  clear ht H kt ko hq
  unfold txV outV
  go_enter Tryd.func8, Tryd.ntmps8
  go_upto_region 1 with (fail)
  generalize ((w.alloc (.cells (txA t) 25)).alloc (.cells (outA o) 49)) = W at *
  go_wp2_with fail
  refine HAW.out.mono ?_
  rintro e w1 ⟨rfl, hb1⟩
  have HB1 := Lib.hid (EnvX.below E0.out hb1).bel
  have E1 : Hid (EnvX w1 w1 [(w.heap.size + 1, Obj.cells (outA o) 49 (0, 0)), (w.heap.size, Obj.cells (txA t) 25 (0, 0))]) := ⟨Below.refl _ _, (EnvX.below E0.out hb1).box⟩
  have HT1 := Lib.hid (HT.out.below HB1.out)
  have K_kt := Lib.hid (J_kt.out.up HB1.out)
  clear hb1 E0 HAW HT J_kt
  go_upto_region 2 with (fail)
  refine wp_region_Hx (w0 := w1) [0, 1, 2] [(w.heap.size + 1, Obj.cells (outA o) 49 (0, 0)), (w.heap.size, Obj.cells (txA t) 25 (0, 0))] rfl E1.out ?_
  refine lexH_phase [0, 1, 2] [] ?_
  have hw1 : EnvX w1 _ [(w.heap.size + 1, Obj.cells (outA o) 49 (0, 0)), (w.heap.size, Obj.cells (txA t) 25 (0, 0))] := E1.out
  have hone := @EnvC.one _ _ _ hw1
  (refine wpG_val (v := txV t) rfl rfl (fun u hu => load_any_op u (box_tx hu (List.Mem.tail _ (List.Mem.head _))) rfl) ?_ hw1; intro K hK; go_big_quiet_op; go_big_quiet_on)
  (refine wpG_call (f := 10) (args := #[txV t]) (v := .bool true) rfl rfl rfl Tryd.func10 rfl rfl (fun u hu => by have h1 := few_any t u (K_kt.out.up (EnvX.bel hu)); rwa [HF_t.out] at h1) ?_ hw1; intro K hK; go_big_quiet_op; go_big_quiet_on)
  (refine wpG_op rfl rfl rfl ?_; intro K hK; go_big_quiet_op; go_big_quiet_on)
  clear hone hw1
  refine wpG_nil ?_
  intro u3 E2'
  have EX2 := Lib.hid E2'
  clear E2'
  go_upto_region 3 with (fail)
  refine wp_region_Hx (w0 := w1) [0, 1, 2, 3, 4, 5, 6, 7, 8, 9, 10] [(w.heap.size + 1, Obj.cells (outA o) 49 (0, 0)), (w.heap.size, Obj.cells (txA t) 25 (0, 0))] rfl EX2.out ?_
  refine lexH_phase [0, 1, 2, 3, 4, 5, 6, 7, 8, 9, 10] [] ?_
  have hw4 : EnvX w1 _ [(w.heap.size + 1, Obj.cells (outA o) 49 (0, 0)), (w.heap.size, Obj.cells (txA t) 25 (0, 0))] := EX2.out
  have hone := @EnvC.one _ _ _ hw4
  (refine wpG_op rfl rfl rfl ?_; intro K hK; go_big_quiet_op; go_big_quiet_on)
  (refine wpG_op rfl rfl rfl ?_; intro K hK; go_big_quiet_op; go_big_quiet_on)
  (refine wpG_op rfl rfl rfl ?_; intro K hK; go_big_quiet_op; go_big_quiet_on)
  (refine wpG_op rfl rfl rfl ?_; intro K hK; go_big_quiet_op; go_big_quiet_on)
  (refine wpG_op rfl rfl rfl ?_; intro K hK; go_big_quiet_op; go_big_quiet_on)
  (refine wpG_op rfl rfl rfl ?_; intro K hK; go_big_quiet_op; go_big_quiet_on)
  (refine wpG_op rfl rfl rfl ?_; intro K hK; go_big_quiet_op; go_big_quiet_on)
  (refine wpG_val (v := txV t) rfl rfl (fun u hu => load_any_op u (box_tx hu (List.Mem.tail _ (List.Mem.head _))) rfl) ?_ hw4; intro K hK; go_big_quiet_op; go_big_quiet_on)
  (refine wpG_call (f := 18) (args := #[txV t]) (v := .bool true) rfl rfl rfl Tryd.func18 rfl rfl (fun u hu => by have h1 := HH.out.may t u (K_kt.out.up (EnvX.bel hu)) (HT1.out.below (EnvX.bel hu)); rwa [HM_t.out] at h1) ?_ hw4; intro K hK; go_big_quiet_op; go_big_quiet_on)
  (refine wpG_op rfl rfl rfl ?_; intro K hK; go_big_quiet_op; go_big_quiet_on)
  (refine wpG_op rfl rfl rfl ?_; intro K hK; go_big_quiet_op; go_big_quiet_on)
  clear hone hw4
  refine wpG_nil ?_
  intro u6 E2'
  have EX5 := Lib.hid E2'
  clear E2'
  go_upto_region 5 with (fail)
  refine wp_region_Hx (w0 := w1) [0, 1, 2] [(w.heap.size + 1, Obj.cells (outA o) 49 (0, 0)), (w.heap.size, Obj.cells (txA t) 25 (0, 0))] rfl EX5.out ?_
  refine lexH_phase [0] [1, 2] ?_
  have hw7 : EnvX w1 _ [(w.heap.size + 1, Obj.cells (outA o) 49 (0, 0)), (w.heap.size, Obj.cells (txA t) 25 (0, 0))] := EX5.out
  have hone := @EnvC.one _ _ _ hw7
  (refine wpG_val (v := txV t) rfl rfl (fun u hu => load_any_op u (box_tx hu (List.Mem.tail _ (List.Mem.head _))) rfl) ?_ hw7; intro K hK; go_big_quiet_op; go_big_quiet_on)
  clear hone hw7
  refine wpG_nil ?_
  refine (hOp_fresh (R := fun x N => ∃ g, x = .pointer (some ⟨g, 0, none⟩) ∧ N = [(g, Obj.cells (txA noTxM) 25 (0, 0))]) (M0 := [(w.heap.size + 1, Obj.cells (outA o) 49 (0, 0)), (w.heap.size, Obj.cells (txA t) 25 (0, 0))]) rfl rfl (fun _ h => h) (fun u hu => FAt_new (new_tx _) u) ?_)
  rintro _ _ ⟨gm, rfl, rfl⟩ hf he8; intro K' hK'; go_big_quiet_op; go_big_quiet_on
  have HGM := Lib.hid (hf _ (List.mem_singleton.2 rfl))
  clear hf
  change lexH _ _ _ _ _ _ [(gm, Obj.cells (txA noTxM) 25 (0, 0)), (w.heap.size + 1, Obj.cells (outA o) 49 (0, 0)), (w.heap.size, Obj.cells (txA t) 25 (0, 0))]
  refine (hOp_store rfl (gm) (txA t) rfl rfl HGM.out.1 25 ((txA noTxM)) (List.Mem.head _) (infoTx _ rfl) rfl (txA_one _) [(gm, Obj.cells (txA t) 25 (0, 0)), (w.heap.size + 1, Obj.cells (outA o) 49 (0, 0)), (w.heap.size, Obj.cells (txA t) 25 (0, 0))] (List.forall_mem_cons.2 ⟨.inl rfl, fun y hy => .inr ⟨List.mem_cons_of_mem _ hy, HGM.out.2 y hy⟩⟩) ?_)
  intro he9
  intro u11 E2'
  have EX10 := Lib.hid E2'
  clear E2'
  have N_ob_gm : Hid (w.heap.size + 1 ≠ gm) := HGM.out.2 _ (List.Mem.head _)
  have N_tb_gm : Hid (w.heap.size ≠ gm) := HGM.out.2 _ (List.Mem.tail _ (List.Mem.head _))
  go_upto_region 6 with (fail)
  refine wp_region_H (w0 := w1) [(gm, Obj.cells (txA t) 25 (0, 0)), (w.heap.size + 1, Obj.cells (outA o) 49 (0, 0)), (w.heap.size, Obj.cells (txA t) 25 (0, 0))] (by kernel_rfl) EX10.out ?_
  refine anyH_phaseN [0, 1, 3] 5 rfl (by kernel_rfl) ?_
  have hw12 : EnvX w1 _ [] := EnvX.sub (EnvX.drew EX10.out) (fun _ h => by cases h)
  have hone := @EnvC.one _ _ _ hw12
  (refine wpG_op rfl rfl rfl ?_; intro K hK; go_big_quiet_op; go_big_quiet_on)
  (refine wpG_val (v := .slice t.A2 t.n2 t.c2) rfl rfl (fun u hu => load_any_op u (box_tx_outs (EnvX.below E1.out (EnvX.bel hu)) (List.Mem.tail _ (List.Mem.head _))) rfl) ?_ hw12; intro K hK; go_big_quiet_op; go_big_quiet_on)
  (refine wpG_val (v := outV o) rfl rfl (fun u hu => load_any_op u (box_out (EnvX.below E1.out (EnvX.bel hu)) (List.Mem.head _)) rfl) ?_ hw12; intro K hK; go_big_quiet_op; go_big_quiet_on)
  clear hone hw12
  refine wpG_nil ?_
  refine anyH_twoFreshG (i := 2) (j := 4) (fun _ _ _ hM hh => env_perm _ _ _ hM hh) (by kernel_rfl) (by kernel_rfl) (by kernel_rfl) rfl rfl (by decide) (by kernel_rfl) rfl rfl (FreshR 49 2 t.n2 ((t.r.outs.map outC).flatten)) (BuiltR 49 (outC o)) [(gm, Obj.cells (txA t) 25 (0, 0)), (w.heap.size + 1, Obj.cells (outA o) 49 (0, 0)), (w.heap.size, Obj.cells (txA t) 25 (0, 0))] [(gm, Obj.cells (txA t) 25 (0, 0)), (w.heap.size + 1, Obj.cells (outA o) 49 (0, 0)), (w.heap.size, Obj.cells (txA t) 25 (0, 0))] (fun _ h => h) (fun _ h => h) (fun u hu => FAt_appC elOut HLO.out (outsX_one _) (K_kt.out.up (EnvX.bel hu)).m2 (by have := HN2.out; omega) rfl) (fun u hu => FAt_buildR elOut rfl (outC_one _) rfl u) ?_
  rintro x1 N1 x2 N2 hF1 ⟨gs, rfl, rfl⟩ hf1 hf2 he13 K1 hK1; go_big_quiet_op; go_big_quiet_on; intro K' hK'; go_big_quiet_op; go_big_quiet_on
  obtain ⟨ga, capga, curga, rfl, rfl, hcga⟩ | ⟨_, _, h0, _⟩ := hF1
  case inr => have := HN2.out; omega
  have HCga := Lib.hid hcga
  have HGA := Lib.hid (hf1 _ (List.mem_singleton.2 rfl))
  clear hcga
  clear hf1 hf2
  change anyH _ _ _ _ _ _ _ _ [(gs, Obj.cells (outA o) 49 (0, 0)), (ga, Obj.cells curga 49 (0, 0)), (gm, Obj.cells (txA t) 25 (0, 0)), (w.heap.size + 1, Obj.cells (outA o) 49 (0, 0)), (w.heap.size, Obj.cells (txA t) 25 (0, 0))]
  refine anyH_one (i := 5) (by kernel_rfl) (hOp_own (gd := none) (R := GrownR w1 49 2 (t.n2 + 1) (((t.r.outs.map outC).flatten) ++ outC o) [(gm, Obj.cells (txA t) 25 (0, 0)), (w.heap.size + 1, Obj.cells (outA o) 49 (0, 0)), (w.heap.size, Obj.cells (txA t) 25 (0, 0))]) rfl rfl rfl rfl (fun u hu => appX_op elOut [(gm, Obj.cells (txA t) 25 (0, 0)), (w.heap.size + 1, Obj.cells (outA o) 49 (0, 0)), (w.heap.size, Obj.cells (txA t) 25 (0, 0))] hu (n := t.n2) (m := 1) HLO.out rfl (outC_one _) (.inl ⟨ga, capga, curga, rfl, rfl, HCga.out⟩) (List.forall_mem_cons.2 ⟨⟨(List.Mem.tail _ (List.Mem.head _)), HGA.out.1⟩, (fun _ h => by cases h)⟩) (src_box hu (List.Mem.head _) rfl) (List.forall_mem_cons.2 ⟨⟨(List.Mem.tail _ (List.Mem.tail _ (List.Mem.head _))), fun y hy => by cases List.mem_singleton.1 hy; exact HGA.out.2 _ (List.Mem.head _)⟩, (List.forall_mem_cons.2 ⟨⟨(List.Mem.tail _ (List.Mem.tail _ (List.Mem.tail _ (List.Mem.head _)))), fun y hy => by cases List.mem_singleton.1 hy; exact HGA.out.2 _ (List.Mem.tail _ (List.Mem.head _))⟩, (List.forall_mem_cons.2 ⟨⟨(List.Mem.tail _ (List.Mem.tail _ (List.Mem.tail _ (List.Mem.tail _ (List.Mem.head _))))), fun y hy => by cases List.mem_singleton.1 hy; exact HGA.out.2 _ (List.Mem.tail _ (List.Mem.tail _ (List.Mem.head _)))⟩, (fun _ h => by cases h)⟩)⟩)⟩) (by have := HN2.out; omega) rfl rfl) ?_)
  rintro x M' ⟨N, rfl, hF, hn⟩ he14; intro K' hK'; go_big_quiet_op; go_big_quiet_on
  obtain ⟨gb, capgb, curgb, rfl, rfl, hcgb⟩ | ⟨_, _, h0, _⟩ := hF
  case inr => omega
  have HCgb := Lib.hid hcgb
  have HGB := Lib.hid (hn _ (List.mem_singleton.2 rfl))
  have N_gb_gm : Hid (gb ≠ gm) := fun e => HGB.out.2 _ (List.Mem.head _) e.symm
  clear hcgb hn
  change anyH _ _ _ _ _ _ _ _ [(gb, Obj.cells curgb 49 (0, 0)), (gm, Obj.cells (txA t) 25 (0, 0)), (w.heap.size + 1, Obj.cells (outA o) 49 (0, 0)), (w.heap.size, Obj.cells (txA t) 25 (0, 0))]
  refine anyH_phaseN [6] 1 rfl (by kernel_rfl) ?_
  have hw15 : EnvX w1 _ [] := EnvX.sub he14.choose_spec (fun _ h => by cases h)
  have hone := @EnvC.one _ _ _ hw15
  (refine wpG_op rfl rfl rfl ?_; intro K hK; go_big_quiet_op; go_big_quiet_on)
  clear hone hw15
  refine wpG_nil ?_
  refine anyH_one (i := 7) (by kernel_rfl) (hOp_putAt rfl (gm) (1) (.slice (some ⟨gb, 0, none⟩) (t.n2 + 1) capgb) rfl rfl HGM.out.1 25 ((txA t)) (txA (moreX t o gb capgb)) (List.Mem.tail _ (List.Mem.head _)) infoOuts (by show 1 + 1 ≤ 2; decide) (by simp [Value.cells]; rfl) rfl [(gm, Obj.cells (txA (moreX t o gb capgb)) 25 (0, 0)), (gb, Obj.cells curgb 49 (0, 0)), (w.heap.size + 1, Obj.cells (outA o) 49 (0, 0)), (w.heap.size, Obj.cells (txA t) 25 (0, 0))] (List.forall_mem_cons.2 ⟨.inl rfl, (List.forall_mem_cons.2 ⟨.inr ⟨(List.Mem.head _), N_gb_gm.out⟩, (List.forall_mem_cons.2 ⟨.inr ⟨(List.Mem.tail _ (List.Mem.tail _ (List.Mem.head _))), N_ob_gm.out⟩, (List.forall_mem_cons.2 ⟨.inr ⟨(List.Mem.tail _ (List.Mem.tail _ (List.Mem.tail _ (List.Mem.head _)))), N_tb_gm.out⟩, (fun _ h => by cases h)⟩)⟩)⟩)⟩) ?_)
  intro he16
  refine anyH_done (by kernel_rfl) ?_
  intro u18 E2'
  have EX17 := Lib.hid E2'
  clear E2'
  go_upto_region 7 with (fail)
  refine wp_region_Hx (w0 := w1) [0, 1, 2] [(gm, Obj.cells (txA (moreX t o gb capgb)) 25 (0, 0)), (gb, Obj.cells curgb 49 (0, 0)), (w.heap.size + 1, Obj.cells (outA o) 49 (0, 0)), (w.heap.size, Obj.cells (txA t) 25 (0, 0))] rfl EX17.out ?_
  refine lexH_phase [0] [1, 2] ?_
  have hw19 : EnvX w1 _ [(gm, Obj.cells (txA (moreX t o gb capgb)) 25 (0, 0)), (gb, Obj.cells curgb 49 (0, 0)), (w.heap.size + 1, Obj.cells (outA o) 49 (0, 0)), (w.heap.size, Obj.cells (txA t) 25 (0, 0))] := EX17.out
  have hone := @EnvC.one _ _ _ hw19
  (refine wpG_val (v := txV t) rfl rfl (fun u hu => load_any_op u (box_tx hu (List.Mem.tail _ (List.Mem.tail _ (List.Mem.tail _ (List.Mem.head _))))) rfl) ?_ hw19; intro K hK; go_big_quiet_op; go_big_quiet_on)
  clear hone hw19
  refine wpG_nil ?_
  refine (hOp_fresh (R := fun x N => ∃ g, x = .pointer (some ⟨g, 0, none⟩) ∧ N = [(g, Obj.cells (txA noTxM) 25 (0, 0))]) (M0 := [(gm, Obj.cells (txA (moreX t o gb capgb)) 25 (0, 0)), (gb, Obj.cells curgb 49 (0, 0)), (w.heap.size + 1, Obj.cells (outA o) 49 (0, 0)), (w.heap.size, Obj.cells (txA t) 25 (0, 0))]) rfl rfl (fun _ h => h) (fun u hu => FAt_new (new_tx _) u) ?_)
  rintro _ _ ⟨gl, rfl, rfl⟩ hf he20; intro K' hK'; go_big_quiet_op; go_big_quiet_on
  have HGL := Lib.hid (hf _ (List.mem_singleton.2 rfl))
  clear hf
  change lexH _ _ _ _ _ _ [(gl, Obj.cells (txA noTxM) 25 (0, 0)), (gm, Obj.cells (txA (moreX t o gb capgb)) 25 (0, 0)), (gb, Obj.cells curgb 49 (0, 0)), (w.heap.size + 1, Obj.cells (outA o) 49 (0, 0)), (w.heap.size, Obj.cells (txA t) 25 (0, 0))]
  refine (hOp_store rfl (gl) (txA t) rfl rfl HGL.out.1 25 ((txA noTxM)) (List.Mem.head _) (infoTx _ rfl) rfl (txA_one _) [(gl, Obj.cells (txA t) 25 (0, 0)), (gm, Obj.cells (txA (moreX t o gb capgb)) 25 (0, 0)), (gb, Obj.cells curgb 49 (0, 0)), (w.heap.size + 1, Obj.cells (outA o) 49 (0, 0)), (w.heap.size, Obj.cells (txA t) 25 (0, 0))] (List.forall_mem_cons.2 ⟨.inl rfl, fun y hy => .inr ⟨List.mem_cons_of_mem _ hy, HGL.out.2 y hy⟩⟩) ?_)
  intro he21
  intro u23 E2'
  have EX22 := Lib.hid E2'
  clear E2'
  go_upto_region 8 with (fail)
  refine wp_region_Hx (w0 := w1) [0, 1, 2, 3, 4, 5, 6, 7, 8] [(gl, Obj.cells (txA t) 25 (0, 0)), (gm, Obj.cells (txA (moreX t o gb capgb)) 25 (0, 0)), (gb, Obj.cells curgb 49 (0, 0)), (w.heap.size + 1, Obj.cells (outA o) 49 (0, 0)), (w.heap.size, Obj.cells (txA t) 25 (0, 0))] rfl EX22.out ?_
  refine lexH_phase [0, 1, 2, 3, 4, 5, 6, 7] [8] ?_
  have hw24 : EnvX w1 _ [(gl, Obj.cells (txA t) 25 (0, 0)), (gm, Obj.cells (txA (moreX t o gb capgb)) 25 (0, 0)), (gb, Obj.cells curgb 49 (0, 0)), (w.heap.size + 1, Obj.cells (outA o) 49 (0, 0)), (w.heap.size, Obj.cells (txA t) 25 (0, 0))] := EX22.out
  have hone := @EnvC.one _ _ _ hw24
  (refine wpG_op rfl rfl rfl ?_; intro K hK; go_big_quiet_op; go_big_quiet_on)
  (refine wpG_val (v := .slice t.A2 t.n2 t.c2) rfl rfl (fun u hu => load_any_op u (box_tx_outs hu (List.Mem.tail _ (List.Mem.tail _ (List.Mem.tail _ (List.Mem.tail _ (List.Mem.head _)))))) rfl) ?_ hw24; intro K hK; go_big_quiet_op; go_big_quiet_on)
  (refine wpG_op rfl rfl rfl ?_; intro K hK; go_big_quiet_op; go_big_quiet_on)
  (refine wpG_val (v := .slice t.A2 t.n2 t.c2) rfl rfl (fun u hu => load_any_op u (box_tx_outs hu (List.Mem.tail _ (List.Mem.tail _ (List.Mem.tail _ (List.Mem.tail _ (List.Mem.head _)))))) rfl) ?_ hw24; intro K hK; go_big_quiet_op; go_big_quiet_on)
  (refine wpG_val (v := .int .i64 (t.n2 : Int)) rfl rfl (fun u hu => len_op Tryd.underlying23 HN63.out.2 u rfl) ?_ hw24; intro K hK; go_big_quiet_op; go_big_quiet_on)
  (refine wpG_val (v := .int .i64 ((t.n2 - 1 : Nat) : Int)) rfl rfl (fun u hu => sub_op u HS1.out.1 HS1.out.2 rfl rfl) ?_ hw24; intro K hK; go_big_quiet_op; go_big_quiet_on)
  (refine wpG_val (v := .slice t.A2 (t.n2 - 1) t.c2) rfl rfl (fun u hu => cutXh_op elOut u HC1.out rfl rfl) ?_ hw24; intro K hK; go_big_quiet_op; go_big_quiet_on)
  (refine wpG_op rfl rfl rfl ?_; intro K hK; go_big_quiet_op; go_big_quiet_on)
  clear hone hw24
  refine wpG_nil ?_
  refine (hOp_putAt rfl (gl) (1) (.slice t.A2 (t.n2 - 1) t.c2) rfl rfl HGL.out.1 25 ((txA t)) (txA (lessX t)) (List.Mem.head _) infoOuts (by show 1 + 1 ≤ 2; decide) (by simp [Value.cells]; rfl) rfl [(gl, Obj.cells (txA (lessX t)) 25 (0, 0)), (gm, Obj.cells (txA (moreX t o gb capgb)) 25 (0, 0)), (gb, Obj.cells curgb 49 (0, 0)), (w.heap.size + 1, Obj.cells (outA o) 49 (0, 0)), (w.heap.size, Obj.cells (txA t) 25 (0, 0))] (List.forall_mem_cons.2 ⟨.inl rfl, fun y hy => .inr ⟨List.mem_cons_of_mem _ hy, HGL.out.2 y hy⟩⟩) ?_)
  intro he25
  intro u27 E2'
  have EX26 := Lib.hid E2'
  clear E2'
  go_upto_region 9 with (fail)
  refine wp_region_Hx (w0 := w1) [0, 1, 2, 3, 4, 5, 6, 7, 8, 9, 10, 11, 12, 13, 14, 15, 16, 17, 18] [(gl, Obj.cells (txA (lessX t)) 25 (0, 0)), (gm, Obj.cells (txA (moreX t o gb capgb)) 25 (0, 0)), (gb, Obj.cells curgb 49 (0, 0)), (w.heap.size + 1, Obj.cells (outA o) 49 (0, 0)), (w.heap.size, Obj.cells (txA t) 25 (0, 0))] rfl EX26.out ?_
  refine lexH_phase [0, 1, 2, 3, 4, 5, 6, 7, 8, 9, 10, 11, 12, 13, 14, 15, 16, 17, 18] [] ?_
  have hw28 : EnvX w1 _ [(gl, Obj.cells (txA (lessX t)) 25 (0, 0)), (gm, Obj.cells (txA (moreX t o gb capgb)) 25 (0, 0)), (gb, Obj.cells curgb 49 (0, 0)), (w.heap.size + 1, Obj.cells (outA o) 49 (0, 0)), (w.heap.size, Obj.cells (txA t) 25 (0, 0))] := EX26.out
  have hone := @EnvC.one _ _ _ hw28
  (refine wpG_op rfl rfl rfl ?_; intro K hK; go_big_quiet_op; go_big_quiet_on)
  (refine wpG_val (v := .int .i64 o.v) rfl rfl (fun u hu => load_any_op u (box_out_v hu (List.Mem.tail _ (List.Mem.tail _ (List.Mem.tail _ (List.Mem.head _))))) rfl) ?_ hw28; intro K hK; go_big_quiet_op; go_big_quiet_on)
  (refine wpG_val (v := .bool false) rfl rfl (fun u hu => geZ_op u V0.out rfl rfl) ?_ hw28; intro K hK; go_big_quiet_op; go_big_quiet_on)
  (refine wpG_op rfl rfl rfl ?_; intro K hK; go_big_quiet_op; go_big_quiet_on)
  (refine wpG_skip rfl rfl ?_ hw28; intro K hK; go_big_quiet_op; go_big_quiet_on)
  (refine wpG_skip rfl rfl ?_ hw28; intro K hK; go_big_quiet_op; go_big_quiet_on)
  (refine wpG_skip rfl rfl ?_ hw28; intro K hK; go_big_quiet_op; go_big_quiet_on)
  (refine wpG_op rfl rfl rfl ?_; intro K hK; go_big_quiet_op; go_big_quiet_on)
  (refine wpG_op rfl rfl rfl ?_; intro K hK; go_big_quiet_op; go_big_quiet_on)
  (refine wpG_skip rfl rfl ?_ hw28; intro K hK; go_big_quiet_op; go_big_quiet_on)
  (refine wpG_skip rfl rfl ?_ hw28; intro K hK; go_big_quiet_op; go_big_quiet_on)
  (refine wpG_skip rfl rfl ?_ hw28; intro K hK; go_big_quiet_op; go_big_quiet_on)
  (refine wpG_op rfl rfl rfl ?_; intro K hK; go_big_quiet_op; go_big_quiet_on)
  (refine wpG_op rfl rfl rfl ?_; intro K hK; go_big_quiet_op; go_big_quiet_on)
  (refine wpG_skip rfl rfl ?_ hw28; intro K hK; go_big_quiet_op; go_big_quiet_on)
  (refine wpG_skip rfl rfl ?_ hw28; intro K hK; go_big_quiet_op; go_big_quiet_on)
  (refine wpG_skip rfl rfl ?_ hw28; intro K hK; go_big_quiet_op; go_big_quiet_on)
  (refine wpG_op rfl rfl rfl ?_; intro K hK; go_big_quiet_op; go_big_quiet_on)
  (refine wpG_op rfl rfl rfl ?_; intro K hK; go_big_quiet_op; go_big_quiet_on)
  clear hone hw28
  refine wpG_nil ?_
  intro u30 E2'
  have EX29 := Lib.hid E2'
  clear E2'
  go_upto_region 10 with (fail)
  refine wp_region_H (w0 := w1) [(gl, Obj.cells (txA (lessX t)) 25 (0, 0)), (gm, Obj.cells (txA (moreX t o gb capgb)) 25 (0, 0)), (gb, Obj.cells curgb 49 (0, 0)), (w.heap.size + 1, Obj.cells (outA o) 49 (0, 0)), (w.heap.size, Obj.cells (txA t) 25 (0, 0))] (by kernel_rfl) EX29.out ?_
  refine anyH_phase [0, 1, 2, 3, 4, 5, 6, 7, 8, 9, 10, 11, 12, 13, 14, 15, 16, 17, 18] 0 rfl ⟨_, (EnvX.drew EX29.out)⟩ (by kernel_rfl) ?_
  have hw31 : EnvX w1 _ [(gl, Obj.cells (txA (lessX t)) 25 (0, 0)), (gm, Obj.cells (txA (moreX t o gb capgb)) 25 (0, 0)), (gb, Obj.cells curgb 49 (0, 0)), (w.heap.size + 1, Obj.cells (outA o) 49 (0, 0)), (w.heap.size, Obj.cells (txA t) 25 (0, 0))] := (EnvX.drew EX29.out)
  have hone := @EnvC.one _ _ _ hw31
  (refine wpG_val (v := txV (moreX t o gb capgb)) rfl rfl (fun u hu => load_any_op u (box_tx hu (List.Mem.tail _ (List.Mem.head _))) rfl) ?_ hw31; intro K hK; go_big_quiet_op; go_big_quiet_on)
  (refine wpG_call (f := 18) (args := #[txV (moreX t o gb capgb)]) (v := .bool false) rfl rfl rfl Tryd.func18 rfl rfl (fun u hu => by have h1 := HH.out.may (moreX t o gb capgb) u (more_ok (K_kt.out.up (EnvX.bel hu)) HKO.out hu (List.Mem.tail _ (List.Mem.tail _ (List.Mem.head _))) HCgb.out) (HT1.out.below (EnvX.bel hu)); rwa [HMM.out] at h1) ?_ hw31; intro K hK; go_big_quiet_op; go_big_quiet_on)
  (refine wpG_op rfl rfl rfl ?_; intro K hK; go_big_quiet_op; go_big_quiet_on)
  (refine wpG_val (v := .slice t.A2 t.n2 t.c2) rfl rfl (fun u hu => load_any_op u (box_tx_outs hu (List.Mem.tail _ (List.Mem.tail _ (List.Mem.tail _ (List.Mem.tail _ (List.Mem.head _)))))) rfl) ?_ hw31; intro K hK; go_big_quiet_op; go_big_quiet_on)
  (refine wpG_val (v := .int .i64 (t.n2 : Int)) rfl rfl (fun u hu => len_op Tryd.underlying23 HN63.out.2 u rfl) ?_ hw31; intro K hK; go_big_quiet_op; go_big_quiet_on)
  (refine wpG_val (v := .bool false) rfl rfl (fun u hu => ltZ_op u C3.out rfl rfl) ?_ hw31; intro K hK; go_big_quiet_op; go_big_quiet_on)
  (refine wpG_op rfl rfl rfl ?_; intro K hK; go_big_quiet_op; go_big_quiet_on)
  (refine wpG_skip rfl rfl ?_ hw31; intro K hK; go_big_quiet_op; go_big_quiet_on)
  (refine wpG_op rfl rfl rfl ?_; intro K hK; go_big_quiet_op; go_big_quiet_on)
  (refine wpG_val (v := .bool false) rfl rfl (fun u hu => neqBc_op u rfl rfl rfl) ?_ hw31; intro K hK; go_big_quiet_op; go_big_quiet_on)
  (refine wpG_op rfl rfl rfl ?_; intro K hK; go_big_quiet_op; go_big_quiet_on)
  (refine wpG_val (v := txV (lessX t)) rfl rfl (fun u hu => load_any_op u (box_tx hu (List.Mem.head _)) rfl) ?_ hw31; intro K hK; go_big_quiet_op; go_big_quiet_on)
  (refine wpG_call (f := 18) (args := #[txV (lessX t)]) (v := .bool d1) rfl rfl rfl Tryd.func18 rfl rfl (fun u hu => by have h1 := HH.out.may (lessX t) u (less_ok (K_kt.out.up (EnvX.bel hu))) (HT1.out.below (EnvX.bel hu)); rwa [HML.out] at h1) ?_ hw31; intro K hK; go_big_quiet_op; go_big_quiet_on)
  (refine wpG_op rfl rfl rfl ?_; intro K hK; go_big_quiet_op; go_big_quiet_on)
  (refine wpG_val (v := .slice t.A2 t.n2 t.c2) rfl rfl (fun u hu => load_any_op u (box_tx_outs hu (List.Mem.tail _ (List.Mem.tail _ (List.Mem.tail _ (List.Mem.tail _ (List.Mem.head _)))))) rfl) ?_ hw31; intro K hK; go_big_quiet_op; go_big_quiet_on)
  (refine wpG_val (v := .int .i64 (t.n2 : Int)) rfl rfl (fun u hu => len_op Tryd.underlying23 HN63.out.2 u rfl) ?_ hw31; intro K hK; go_big_quiet_op; go_big_quiet_on)
  (refine wpG_val (v := .bool d1) rfl rfl (fun u hu => gtZ_op u HD1.out rfl rfl) ?_ hw31; intro K hK; go_big_quiet_op; go_big_quiet_on)
  (refine wpG_val (v := .bool false) rfl rfl (fun u hu => neqBc_op u (HNB.out _) rfl rfl) ?_ hw31; intro K hK; go_big_quiet_op; go_big_quiet_on)
  (refine wpG_op rfl rfl rfl ?_; intro K hK; go_big_quiet_op; go_big_quiet_on)
  clear hone hw31
  refine wpG_nil ?_
  refine anyH_done (by kernel_rfl) ?_
  intro u33 E2'
  have EX32 := Lib.hid E2'
  clear E2'
  by_cases d : q < 0
  · have D1 : Hid (decide (q < 0) = true) := decide_eq_true d
    clear d
    go_upto_region 12 with (fail)
    refine wp_region_Hx (w0 := w1) [0, 1, 2, 3, 4, 5, 6, 7, 8] [(gl, Obj.cells (txA (lessX t)) 25 (0, 0)), (gm, Obj.cells (txA (moreX t o gb capgb)) 25 (0, 0)), (gb, Obj.cells curgb 49 (0, 0)), (w.heap.size + 1, Obj.cells (outA o) 49 (0, 0)), (w.heap.size, Obj.cells (txA t) 25 (0, 0))] rfl EX32.out ?_
    refine lexH_phase [0, 1, 2, 3, 4, 5, 6, 7, 8] [] ?_
    have hw34 : EnvX w1 _ [(gl, Obj.cells (txA (lessX t)) 25 (0, 0)), (gm, Obj.cells (txA (moreX t o gb capgb)) 25 (0, 0)), (gb, Obj.cells curgb 49 (0, 0)), (w.heap.size + 1, Obj.cells (outA o) 49 (0, 0)), (w.heap.size, Obj.cells (txA t) 25 (0, 0))] := EX32.out
    have hone := @EnvC.one _ _ _ hw34
    (refine wpG_op rfl rfl rfl ?_; intro K hK; go_big_quiet_op; go_big_quiet_on)
    (refine wpG_val (v := .bool true) rfl rfl (fun u hu => ltZ_op u D1.out rfl rfl) ?_ hw34; intro K hK; go_big_quiet_op; go_big_quiet_on)
    (refine wpG_op rfl rfl rfl ?_; intro K hK; go_big_quiet_op; go_big_quiet_on)
    (refine wpG_skip rfl rfl ?_ hw34; intro K hK; go_big_quiet_op; go_big_quiet_on)
    (refine wpG_skip rfl rfl ?_ hw34; intro K hK; go_big_quiet_op; go_big_quiet_on)
    (refine wpG_skip rfl rfl ?_ hw34; intro K hK; go_big_quiet_op; go_big_quiet_on)
    (refine wpG_skip rfl rfl ?_ hw34; intro K hK; go_big_quiet_op; go_big_quiet_on)
    (refine wpG_skip rfl rfl ?_ hw34; intro K hK; go_big_quiet_op; go_big_quiet_on)
    (refine wpG_op rfl rfl rfl ?_; intro K hK; go_big_quiet_op; go_big_quiet_on)
    clear hone hw34
    refine wpG_nil ?_
    intro u36 E2'
    have EX35 := Lib.hid E2'
    clear E2'
    have HBE := Lib.hid (HB1.out.trans ((EnvX.bel EX35.out).mono HB1.out.size))
    go_wp2
    go_ret
    exact ⟨rfl, HBE.out⟩
  have D1 : Hid (decide (q < 0) = false) := decide_eq_false d
  by_cases d7 : (t.n1 : Int) ≤ q
  · have D7 : Hid (decide ((t.n1 : Int) ≤ q) = true) := decide_eq_true d7
    clear d d7
    go_upto_region 12 with (fail)
    refine wp_region_Hx (w0 := w1) [0, 1, 2, 3, 4, 5, 6, 7, 8] [(gl, Obj.cells (txA (lessX t)) 25 (0, 0)), (gm, Obj.cells (txA (moreX t o gb capgb)) 25 (0, 0)), (gb, Obj.cells curgb 49 (0, 0)), (w.heap.size + 1, Obj.cells (outA o) 49 (0, 0)), (w.heap.size, Obj.cells (txA t) 25 (0, 0))] rfl EX32.out ?_
    refine lexH_phase [0, 1, 2, 3, 4, 5, 6, 7, 8] [] ?_
    have hw34 : EnvX w1 _ [(gl, Obj.cells (txA (lessX t)) 25 (0, 0)), (gm, Obj.cells (txA (moreX t o gb capgb)) 25 (0, 0)), (gb, Obj.cells curgb 49 (0, 0)), (w.heap.size + 1, Obj.cells (outA o) 49 (0, 0)), (w.heap.size, Obj.cells (txA t) 25 (0, 0))] := EX32.out
    have hone := @EnvC.one _ _ _ hw34
    (refine wpG_op rfl rfl rfl ?_; intro K hK; go_big_quiet_op; go_big_quiet_on)
    (refine wpG_val (v := .bool false) rfl rfl (fun u hu => ltZ_op u D1.out rfl rfl) ?_ hw34; intro K hK; go_big_quiet_op; go_big_quiet_on)
    (refine wpG_op rfl rfl rfl ?_; intro K hK; go_big_quiet_op; go_big_quiet_on)
    (refine wpG_op rfl rfl rfl ?_; intro K hK; go_big_quiet_op; go_big_quiet_on)
    (refine wpG_op rfl rfl rfl ?_; intro K hK; go_big_quiet_op; go_big_quiet_on)
    (refine wpG_val (v := .slice t.A1 t.n1 t.c1) rfl rfl (fun u hu => load_any_op u (box_tx_ins hu (List.Mem.tail _ (List.Mem.tail _ (List.Mem.tail _ (List.Mem.tail _ (List.Mem.head _)))))) rfl) ?_ hw34; intro K hK; go_big_quiet_op; go_big_quiet_on)
    (refine wpG_val (v := .int .i64 (t.n1 : Int)) rfl rfl (fun u hu => len_op Tryd.underlying22 HN63.out.1 u rfl) ?_ hw34; intro K hK; go_big_quiet_op; go_big_quiet_on)
    (refine wpG_val (v := .bool true) rfl rfl (fun u hu => geZ_op u D7.out rfl rfl) ?_ hw34; intro K hK; go_big_quiet_op; go_big_quiet_on)
    (refine wpG_op rfl rfl rfl ?_; intro K hK; go_big_quiet_op; go_big_quiet_on)
    clear hone hw34
    refine wpG_nil ?_
    intro u36 E2'
    have EX35 := Lib.hid E2'
    clear E2'
    have HBE := Lib.hid (HB1.out.trans ((EnvX.bel EX35.out).mono HB1.out.size))
    go_wp2
    go_ret
    exact ⟨rfl, HBE.out⟩
  have D7 : Hid (decide ((t.n1 : Int) ≤ q) = false) := decide_eq_false d7
  obtain ⟨j, rfl⟩ := Int.eq_ofNat_of_zero_le (show 0 ≤ q by omega)
  have HJN : Hid (j < t.n1) := by show _ < _; omega
  have hjl : j < t.r.ins.length := by rw [HL1.out]; exact HJN.out
  obtain ⟨ad, ha1, -, hld⟩ := K_kt.out.m1.loads HKI.out hjl
  have HA1 := Lib.hid ha1
  have HLD : Hid (∀ u, EnvX w1 u [] → (loadVar 51 (ad.add (j * 33))).run Tryd.prog u = .ok (inV (t.r.ins.getD j noIn)) u) := fun u hu => (hld u hu).1
  have HXI : Hid (t.r.ins.getD j noIn ∈ t.r.ins ∧ okIn (t.r.ins.getD j noIn)) := ⟨by rw [List.getD_eq_getElem?_getD, List.getElem?_eq_getElem hjl]; exact List.getElem_mem hjl, okIns.get HKI.out hjl⟩
  have HNI1 : Hid (1 ≤ t.n1 ∧ t.n1 ≤ 3) := ⟨by have := HJN.out; omega, HNI.out⟩
  clear d d7 ha1 hld hjl
  generalize t.r.ins.getD j noIn = x at *
  go_upto_region 12 with (fail)
  refine wp_region_Hx (w0 := w1) [0, 1, 2, 3, 4, 5, 6, 7, 8] [(gl, Obj.cells (txA (lessX t)) 25 (0, 0)), (gm, Obj.cells (txA (moreX t o gb capgb)) 25 (0, 0)), (gb, Obj.cells curgb 49 (0, 0)), (w.heap.size + 1, Obj.cells (outA o) 49 (0, 0)), (w.heap.size, Obj.cells (txA t) 25 (0, 0))] rfl EX32.out ?_
  refine lexH_phase [0, 1, 2, 3, 4, 5, 6, 7, 8] [] ?_
  have hw34 : EnvX w1 _ [(gl, Obj.cells (txA (lessX t)) 25 (0, 0)), (gm, Obj.cells (txA (moreX t o gb capgb)) 25 (0, 0)), (gb, Obj.cells curgb 49 (0, 0)), (w.heap.size + 1, Obj.cells (outA o) 49 (0, 0)), (w.heap.size, Obj.cells (txA t) 25 (0, 0))] := EX32.out
  have hone := @EnvC.one _ _ _ hw34
  (refine wpG_op rfl rfl rfl ?_; intro K hK; go_big_quiet_op; go_big_quiet_on)
  (refine wpG_val (v := .bool false) rfl rfl (fun u hu => ltZ_op u D1.out rfl rfl) ?_ hw34; intro K hK; go_big_quiet_op; go_big_quiet_on)
  (refine wpG_op rfl rfl rfl ?_; intro K hK; go_big_quiet_op; go_big_quiet_on)
  (refine wpG_op rfl rfl rfl ?_; intro K hK; go_big_quiet_op; go_big_quiet_on)
  (refine wpG_op rfl rfl rfl ?_; intro K hK; go_big_quiet_op; go_big_quiet_on)
  (refine wpG_val (v := .slice t.A1 t.n1 t.c1) rfl rfl (fun u hu => load_any_op u (box_tx_ins hu (List.Mem.tail _ (List.Mem.tail _ (List.Mem.tail _ (List.Mem.tail _ (List.Mem.head _)))))) rfl) ?_ hw34; intro K hK; go_big_quiet_op; go_big_quiet_on)
  (refine wpG_val (v := .int .i64 (t.n1 : Int)) rfl rfl (fun u hu => len_op Tryd.underlying22 HN63.out.1 u rfl) ?_ hw34; intro K hK; go_big_quiet_op; go_big_quiet_on)
  (refine wpG_val (v := .bool false) rfl rfl (fun u hu => geZ_op u D7.out rfl rfl) ?_ hw34; intro K hK; go_big_quiet_op; go_big_quiet_on)
  (refine wpG_op rfl rfl rfl ?_; intro K hK; go_big_quiet_op; go_big_quiet_on)
  clear hone hw34
  refine wpG_nil ?_
  intro u36 E2'
  have EX35 := Lib.hid E2'
  clear E2'
  go_upto_region 14 with (fail)
  refine wp_region_Hx (w0 := w1) [0, 1, 2] [(gl, Obj.cells (txA (lessX t)) 25 (0, 0)), (gm, Obj.cells (txA (moreX t o gb capgb)) 25 (0, 0)), (gb, Obj.cells curgb 49 (0, 0)), (w.heap.size + 1, Obj.cells (outA o) 49 (0, 0)), (w.heap.size, Obj.cells (txA t) 25 (0, 0))] rfl EX35.out ?_
  refine lexH_phase [0] [1, 2] ?_
  have hw37 : EnvX w1 _ [(gl, Obj.cells (txA (lessX t)) 25 (0, 0)), (gm, Obj.cells (txA (moreX t o gb capgb)) 25 (0, 0)), (gb, Obj.cells curgb 49 (0, 0)), (w.heap.size + 1, Obj.cells (outA o) 49 (0, 0)), (w.heap.size, Obj.cells (txA t) 25 (0, 0))] := EX35.out
  have hone := @EnvC.one _ _ _ hw37
  (refine wpG_val (v := txV t) rfl rfl (fun u hu => load_any_op u (box_tx hu (List.Mem.tail _ (List.Mem.tail _ (List.Mem.tail _ (List.Mem.tail _ (List.Mem.head _)))))) rfl) ?_ hw37; intro K hK; go_big_quiet_op; go_big_quiet_on)
  clear hone hw37
  refine wpG_nil ?_
  refine (hOp_fresh (R := fun x N => ∃ g, x = .pointer (some ⟨g, 0, none⟩) ∧ N = [(g, Obj.cells (txA noTxM) 25 (0, 0))]) (M0 := [(gl, Obj.cells (txA (lessX t)) 25 (0, 0)), (gm, Obj.cells (txA (moreX t o gb capgb)) 25 (0, 0)), (gb, Obj.cells curgb 49 (0, 0)), (w.heap.size + 1, Obj.cells (outA o) 49 (0, 0)), (w.heap.size, Obj.cells (txA t) 25 (0, 0))]) rfl rfl (fun _ h => h) (fun u hu => FAt_new (new_tx _) u) ?_)
  rintro _ _ ⟨gt, rfl, rfl⟩ hf he38; intro K' hK'; go_big_quiet_op; go_big_quiet_on
  have HGT := Lib.hid (hf _ (List.mem_singleton.2 rfl))
  clear hf
  change lexH _ _ _ _ _ _ [(gt, Obj.cells (txA noTxM) 25 (0, 0)), (gl, Obj.cells (txA (lessX t)) 25 (0, 0)), (gm, Obj.cells (txA (moreX t o gb capgb)) 25 (0, 0)), (gb, Obj.cells curgb 49 (0, 0)), (w.heap.size + 1, Obj.cells (outA o) 49 (0, 0)), (w.heap.size, Obj.cells (txA t) 25 (0, 0))]
  refine (hOp_store rfl (gt) (txA t) rfl rfl HGT.out.1 25 ((txA noTxM)) (List.Mem.head _) (infoTx _ rfl) rfl (txA_one _) [(gt, Obj.cells (txA t) 25 (0, 0)), (gl, Obj.cells (txA (lessX t)) 25 (0, 0)), (gm, Obj.cells (txA (moreX t o gb capgb)) 25 (0, 0)), (gb, Obj.cells curgb 49 (0, 0)), (w.heap.size + 1, Obj.cells (outA o) 49 (0, 0)), (w.heap.size, Obj.cells (txA t) 25 (0, 0))] (List.forall_mem_cons.2 ⟨.inl rfl, fun y hy => .inr ⟨List.mem_cons_of_mem _ hy, HGT.out.2 y hy⟩⟩) ?_)
  intro he39
  intro u41 E2'
  have EX40 := Lib.hid E2'
  clear E2'
  have N_tb_gt : Hid (w.heap.size ≠ gt) := HGT.out.2 _ (List.Mem.tail _ (List.Mem.tail _ (List.Mem.tail _ (List.Mem.tail _ (List.Mem.head _)))))
  have E15 : Hid (EnvX w1 u41 [(gt, Obj.cells (txA t) 25 (0, 0)), (w.heap.size, Obj.cells (txA t) 25 (0, 0))]) := EnvX.sub EX40.out (fun y hy => by
    rcases List.mem_cons.1 hy with rfl | hy
    · exact (List.Mem.head _)
    · cases List.mem_singleton.1 hy
      exact (List.Mem.tail _ (List.Mem.tail _ (List.Mem.tail _ (List.Mem.tail _ (List.Mem.tail _ (List.Mem.head _)))))))
  go_upto_region 15 with (fail)
  refine wp_region_H (w0 := w1) [(gt, Obj.cells (txA t) 25 (0, 0)), (w.heap.size, Obj.cells (txA t) 25 (0, 0))] (by kernel_rfl) E15.out ?_
  refine anyH_phaseN [0, 1, 3, 4, 5, 6, 7] 5 rfl (by kernel_rfl) ?_
  have hw42 : EnvX w1 _ [] := EnvX.sub (EnvX.drew E15.out) (fun _ h => by cases h)
  have hone := @EnvC.one _ _ _ hw42
  (refine wpG_op rfl rfl rfl ?_; intro K hK; go_big_quiet_op; go_big_quiet_on)
  (refine wpG_val (v := .slice t.A1 t.n1 t.c1) rfl rfl (fun u hu => load_any_op u (box_tx_ins (EnvX.below E1.out (EnvX.bel hu)) (List.Mem.tail _ (List.Mem.head _))) rfl) ?_ hw42; intro K hK; go_big_quiet_op; go_big_quiet_on)
  (refine wpG_op rfl rfl rfl ?_; intro K hK; go_big_quiet_op; go_big_quiet_on)
  (refine wpG_val (v := .slice (some ad) t.n1 t.c1) rfl rfl (fun u hu => by have h1 := box_tx_ins (EnvX.below E1.out (EnvX.bel hu)) (List.Mem.tail _ (List.Mem.head _)); rw [HA1.out] at h1; exact load_any_op u h1 rfl) ?_ hw42; intro K hK; go_big_quiet_op; go_big_quiet_on)
  (refine wpG_op rfl rfl rfl ?_; intro K hK; go_big_quiet_op; go_big_quiet_on)
  (refine wpG_val (v := .pointer (some (ad.add (j * 33)))) rfl rfl (fun u hu => idxSl_op (i := j) Tryd.underlying22 aggIn.size HJN.out u rfl rfl) ?_ hw42; intro K hK; go_big_quiet_op; go_big_quiet_on)
  (refine wpG_val (v := inV x) rfl rfl (fun u hu => load_any_op u (HLD.out u (EnvX.sub hu (fun _ h => by cases h))) rfl) ?_ hw42; intro K hK; go_big_quiet_op; go_big_quiet_on)
  clear hone hw42
  refine wpG_nil ?_
  refine anyH_twoFreshG (i := 2) (j := 8) (fun _ _ _ hM hh => env_perm _ _ _ hM hh) (by kernel_rfl) (by kernel_rfl) (by kernel_rfl) rfl rfl (by decide) (by kernel_rfl) rfl rfl (FreshR 51 33 t.n1 ((t.r.ins.map inC).flatten)) (BuiltR 51 (inC x)) [(gt, Obj.cells (txA t) 25 (0, 0)), (w.heap.size, Obj.cells (txA t) 25 (0, 0))] [(gt, Obj.cells (txA t) 25 (0, 0)), (w.heap.size, Obj.cells (txA t) 25 (0, 0))] (fun _ h => h) (fun _ h => h) (fun u hu => FAt_appC elIn HLI.out (insX_one _) (K_kt.out.up (EnvX.bel hu)).m1 (by have := HNI1.out; omega) rfl) (fun u hu => FAt_buildR elIn (inC_len HXI.out.2.len) (inC_one _) rfl u) ?_
  rintro x1 N1 x2 N2 hF1 ⟨gd, rfl, rfl⟩ hf1 hf2 he43 K1 hK1; go_big_quiet_op; go_big_quiet_on; intro K' hK'; go_big_quiet_op; go_big_quiet_on
  obtain ⟨gc, capgc, curgc, rfl, rfl, hcgc⟩ | ⟨_, _, h0, _⟩ := hF1
  case inr => have := HNI1.out; omega
  have HCgc := Lib.hid hcgc
  have HGC := Lib.hid (hf1 _ (List.mem_singleton.2 rfl))
  clear hcgc
  clear hf1 hf2
  change anyH _ _ _ _ _ _ _ _ [(gd, Obj.cells (inA x) 51 (0, 0)), (gc, Obj.cells curgc 51 (0, 0)), (gt, Obj.cells (txA t) 25 (0, 0)), (w.heap.size, Obj.cells (txA t) 25 (0, 0))]
  refine anyH_one (i := 9) (by kernel_rfl) (hOp_own (gd := none) (R := GrownR w1 51 33 (t.n1 + 1) (((t.r.ins.map inC).flatten) ++ inC x) [(gt, Obj.cells (txA t) 25 (0, 0)), (w.heap.size, Obj.cells (txA t) 25 (0, 0))]) rfl rfl rfl rfl (fun u hu => appX_op elIn [(gt, Obj.cells (txA t) 25 (0, 0)), (w.heap.size, Obj.cells (txA t) 25 (0, 0))] hu (n := t.n1) (m := 1) HLI.out (by rw [inC_len HXI.out.2.len]) (inC_one _) (.inl ⟨gc, capgc, curgc, rfl, rfl, HCgc.out⟩) (List.forall_mem_cons.2 ⟨⟨(List.Mem.tail _ (List.Mem.head _)), HGC.out.1⟩, (fun _ h => by cases h)⟩) (src_box hu (List.Mem.head _) (by rw [List.drop_zero]; exact List.take_length)) (List.forall_mem_cons.2 ⟨⟨(List.Mem.tail _ (List.Mem.tail _ (List.Mem.head _))), fun y hy => by cases List.mem_singleton.1 hy; exact HGC.out.2 _ (List.Mem.head _)⟩, (List.forall_mem_cons.2 ⟨⟨(List.Mem.tail _ (List.Mem.tail _ (List.Mem.tail _ (List.Mem.head _)))), fun y hy => by cases List.mem_singleton.1 hy; exact HGC.out.2 _ (List.Mem.tail _ (List.Mem.head _))⟩, (fun _ h => by cases h)⟩)⟩) (by have := HNI1.out; omega) rfl rfl) ?_)
  rintro x M' ⟨N, rfl, hF, hn⟩ he44; intro K' hK'; go_big_quiet_op; go_big_quiet_on
  obtain ⟨ge, capge, curge, rfl, rfl, hcge⟩ | ⟨_, _, h0, _⟩ := hF
  case inr => omega
  have HCge := Lib.hid hcge
  have HGE := Lib.hid (hn _ (List.mem_singleton.2 rfl))
  have N_ge_gt : Hid (ge ≠ gt) := fun e => HGE.out.2 _ (List.Mem.head _) e.symm
  clear hcge hn
  change anyH _ _ _ _ _ _ _ _ [(ge, Obj.cells curge 51 (0, 0)), (gt, Obj.cells (txA t) 25 (0, 0)), (w.heap.size, Obj.cells (txA t) 25 (0, 0))]
  refine anyH_phaseN [10] 1 rfl (by kernel_rfl) ?_
  have hw45 : EnvX w1 _ [] := EnvX.sub he44.choose_spec (fun _ h => by cases h)
  have hone := @EnvC.one _ _ _ hw45
  (refine wpG_op rfl rfl rfl ?_; intro K hK; go_big_quiet_op; go_big_quiet_on)
  clear hone hw45
  refine wpG_nil ?_
  refine anyH_one (i := 11) (by kernel_rfl) (hOp_putAt rfl (gt) (0) (.slice (some ⟨ge, 0, none⟩) (t.n1 + 1) capge) rfl rfl HGT.out.1 25 ((txA t)) (txA (twiceX t x ge capge)) (List.Mem.tail _ (List.Mem.head _)) infoIns (by show 0 + 1 ≤ 2; decide) (by simp [Value.cells]; rfl) rfl [(gt, Obj.cells (txA (twiceX t x ge capge)) 25 (0, 0)), (ge, Obj.cells curge 51 (0, 0)), (w.heap.size, Obj.cells (txA t) 25 (0, 0))] (List.forall_mem_cons.2 ⟨.inl rfl, (List.forall_mem_cons.2 ⟨.inr ⟨(List.Mem.head _), N_ge_gt.out⟩, (List.forall_mem_cons.2 ⟨.inr ⟨(List.Mem.tail _ (List.Mem.tail _ (List.Mem.head _))), N_tb_gt.out⟩, (fun _ h => by cases h)⟩)⟩)⟩) ?_)
  intro he46
  refine anyH_done (by kernel_rfl) ?_
  intro u48 E2'
  have EX47 := Lib.hid E2'
  clear E2'
  go_upto_region 16 with (fail)
  refine wp_region_Hx (w0 := w1) [0, 1, 2, 3] [(gt, Obj.cells (txA (twiceX t x ge capge)) 25 (0, 0)), (ge, Obj.cells curge 51 (0, 0)), (w.heap.size, Obj.cells (txA t) 25 (0, 0))] rfl EX47.out ?_
  refine lexH_phase [0, 1, 2, 3] [] ?_
  have hw49 : EnvX w1 _ [(gt, Obj.cells (txA (twiceX t x ge capge)) 25 (0, 0)), (ge, Obj.cells curge 51 (0, 0)), (w.heap.size, Obj.cells (txA t) 25 (0, 0))] := EX47.out
  have hone := @EnvC.one _ _ _ hw49
  (refine wpG_val (v := txV (twiceX t x ge capge)) rfl rfl (fun u hu => load_any_op u (box_tx hu (List.Mem.head _)) rfl) ?_ hw49; intro K hK; go_big_quiet_op; go_big_quiet_on)
  (refine wpG_call (f := 18) (args := #[txV (twiceX t x ge capge)]) (v := .bool false) rfl rfl rfl Tryd.func18 rfl rfl (fun u hu => by have h1 := HH.out.may (twiceX t x ge capge) u (twice_ok (K_kt.out.up (EnvX.bel hu)) HXI.out.2 hu (List.Mem.tail _ (List.Mem.head _)) HCge.out) (HT1.out.below (EnvX.bel hu)); rwa [HMT.out _ _ _ HXI.out.1] at h1) ?_ hw49; intro K hK; go_big_quiet_op; go_big_quiet_on)
  (refine wpG_op rfl rfl rfl ?_; intro K hK; go_big_quiet_op; go_big_quiet_on)
  (refine wpG_op rfl rfl rfl ?_; intro K hK; go_big_quiet_op; go_big_quiet_on)
  clear hone hw49
  refine wpG_nil ?_
  intro u51 E2'
  have EX50 := Lib.hid E2'
  clear E2'
  have HBE := Lib.hid (HB1.out.trans ((EnvX.bel EX50.out).mono HB1.out.size))
  go_wp2
  go_ret
  exact ⟨rfl, HBE.out⟩
end Go.Proofs.YtcodmedgkboohaaDoor
