/- Part of a proof. -/
import Derived.Test.YtabhhbdbkeeblaaDoorZb
import Derived.Great.BuildSlice
import Derived.Maps.AppendAt
import Derived.Laws.MakeOwn
import Derived.Laws.Cells
import Derived.WalkKit
import Derived.ProofKit
import Derived.OpenShut
import Derived.Deep.DeepHandedRow
import Derived.Deep.Slices
import Derived.Handy
import Derived.Laws.BytesArg
import Derived.ChangeKeysEq
import Derived.Lib.SlBytesConst
import Derived.Deep.MidRow
import Derived.Laws.CopyOwn
import Derived.Deep.WholeRow
import Derived.Deep.Cut
import Derived.Deep.QuietTactic
import Derived.BigQuiet
import Derived.StillTailTactics
import Derived.Lib.Hide
import Derived.Laws.BitsAllLaws
import Derived.Deep.RegionHeld3
import Derived.Deep.RegionLaw
import Derived.Deep.RegionHeld
namespace Go.Proofs.YtabhhbdbkeeblaaDoor
set_option maxRecDepth 8000
open Go.RowKit
section
variable {P : Program} {ops : Array Oper} {md : Region.Mode} {w0 : World}
abbrev Boxes := List (Nat × Obj)
/-- what an operation that makes memory yields: a value, and the new boxes -/
def FUpon (P : Program) (u : World) (R : Value → Boxes → Prop) : Result Next → Prop
  | .ok (.value x) u' => Below u.heap.size u u' ∧ ∃ N, R x N ∧ ∀ y ∈ N, u.heap.size ≤ y.1 ∧ u'.heap[y.1]? = some y.2
  | .ok (.enter f args) u' => u' = u ∧ Calls P f args u (fun e w'' => ∃ x N, e = .returned x ∧ R x N ∧ Below u.heap.size u w'' ∧ ∀ y ∈ N, u.heap.size ≤ y.1 ∧ w''.heap[y.1]? = some y.2)
  | _ => False
/-- what an operation that turns boxes (an append to one's own, a store at a place, a call of a closure) yields: a value, and the boxes behind it -/
def OUpon (P : Program) (w0 : World) (R : Value → Boxes → Prop) : Result Next → Prop
  | .ok (.value x) u' => ∃ M', EnvX w0 u' M' ∧ R x M'
  | .ok .skip u' => ∃ M', EnvX w0 u' M' ∧ R undef M'
  | .ok (.enter f args) u' => Calls P f args u' (fun e w'' => ∃ x M', e = .returned x ∧ EnvX w0 w'' M' ∧ R x M')
  | _ => False
def FAt (P : Program) (o : Oper) (a : Act) (R : Value → Boxes → Prop) (u : World) : Prop := FUpon P u R ((execOp a.eval o).run P u)
def freshN (w0 : World) (N M : Boxes) : Prop := ∀ y ∈ N, w0.heap.size ≤ y.1 ∧ ∀ z ∈ M, z.1 ≠ y.1
/-- what an operation that panics yields -/
def PUpon (P : Program) (u : World) (E : List PanicEntry → World → Prop) : Result Next → Prop
  | .ok (.enter f args) u' => u' = u ∧ Calls P f args u (fun e w'' => ∃ c, e = .panicked c ∧ E c w'')
  | .halt (.panic v) u' => E [{ v, recovered := false }] u'
  | _ => False
/-- of a region: what holds where it panics, and which boxes an operation that turns boxes leaves as they are -/
structure HP where
  post : List PanicEntry → World → Prop
  keep : Nat → Boxes
def HP.no : HP := ⟨fun _ _ => False, fun _ => []⟩
theorem no_keep {i : Nat} {M M' : Boxes} : ∀ x ∈ HP.no.keep i, x ∈ M → x ∈ M' := fun x h => absurd (show x ∈ ([] : Boxes) from h) List.not_mem_nil
theorem no_keepR {i : Nat} {M : Boxes} {R : Value → Boxes → Prop} : ∀ x M', R x M' → ∀ y ∈ HP.no.keep i, y ∈ M → y ∈ M' := fun _ _ _ x h => absurd (show x ∈ ([] : Boxes) from h) List.not_mem_nil
/-- One operation, over boxes that are known. -/
def hOp {Γ : HP} (P : Program) (ops : Array Oper) (w0 : World) (i : Nat) (K : Act → Boxes → Prop) (a : Act) (M : Boxes) : Prop :=
  match ops[i]? with
  | none => K a M
  | some o => if Region.wanted o (yielded ops a.tmps) then
      ((∃ v M0, (∀ x ∈ M0, x ∈ M) ∧ (∀ u, EnvX w0 u M0 → GAt P o a v u) ∧ K (a.put o.dst v) M) ∨
       (∃ R M0, (∀ x ∈ M0, x ∈ M) ∧ (∀ u, EnvX w0 u M0 → FAt P o a R u) ∧ ∀ x N, R x N → freshN w0 N M → (∃ u, EnvX w0 u (N ++ M)) → K (a.put o.dst x) (N ++ M)) ∨
       (storeB o = true ∧ ∃ g old cs t M', w0.heap.size ≤ g ∧ (g, Obj.cells old t (0, 0)) ∈ M ∧ PutAt P o a g old cs t ∧ (∀ x ∈ M', x = (g, Obj.cells cs t (0, 0)) ∨ (x ∈ M ∧ x.1 ≠ g)) ∧ (∀ x ∈ Γ.keep i, x ∈ M → x ∈ M') ∧ ((∃ u, EnvX w0 u M') → K (a.put o.dst undef) M')) ∨
       (storeB o = true ∧ ∃ R : Value → Boxes → Prop, (∀ u, EnvX w0 u M → OUpon P w0 R ((execOp a.eval o).run P u)) ∧ (∀ x M', R x M' → ∀ y ∈ Γ.keep i, y ∈ M → y ∈ M') ∧ ∀ x M', R x M' → (∃ u, EnvX w0 u M') → K (a.put o.dst x) M') ∨
       (∃ M0, (∀ x ∈ M0, x ∈ M) ∧ ∀ u, EnvX w0 u M0 → PUpon P u Γ.post ((execOp a.eval o).run P u)))
    else K (a.put o.dst undef) M
def anyH {Γ : HP} (P : Program) (md : Region.Mode) (ops : Array Oper) (w0 : World) (Q : Act → Boxes → Prop) : Nat → Array Bool → Act → Boxes → Prop
  | 0, listed, a, M => Region.ready md ops listed = [] ∧ Q a M
  | f + 1, listed, a, M => (Region.ready md ops listed = [] → Q a M) ∧ ∀ i ∈ Region.ready md ops listed, hOp (Γ := Γ) P ops w0 i (anyH (Γ := Γ) P md ops w0 Q f (listed.setIfInBounds i true)) a M
variable {Γ : HP}
theorem EnvX.app {w u v : World} {l N : Boxes} (h : EnvX w u l) (hb : Below u.heap.size u v) (hN : ∀ y ∈ N, u.heap.size ≤ y.1 ∧ v.heap[y.1]? = some y.2) : EnvX w v (N ++ l) := by
  have h1 := h.below hb
  refine ⟨h1.bel, fun g o hm => ?_⟩
  rcases List.mem_append.1 hm with e | e
  · exact (hN _ e).2
  · exact h1.box g o e
theorem freshN_of {w u : World} {l N : Boxes} (h : EnvX w u l) (hN : ∀ y ∈ N, u.heap.size ≤ y.1) : freshN w N l := fun y hy =>
  ⟨Nat.le_trans h.bel.size (hN y hy), fun z hz e => by
    have h1 := h.lt (g := z.1) (o := z.2) hz
    have h2 := hN y hy
    omega⟩
theorem wpOp_of_hOp {i : Nat} {a : Act} {M : Boxes} {K : Act → Boxes → Prop} {K' : Act → World → Prop} {Q' : Exit → Act → World → Prop} {u : World}
    (hu : EnvX w0 u M) (Z : Act → Prop) (hz : Z a) (hZ : ∀ o, ops[i]? = some o → ∀ v, Z (a.put o.dst v)) (hP : ∀ c u, Γ.post c u → Q' (.panic c) a u) (h : ∀ a M u, Z a → EnvX w0 u M → K a M → K' a u) (hh : hOp (Γ := Γ) P ops w0 i K a M) : wpOp P ops Q' i K' a u := by
  unfold hOp at hh
  unfold wpOp
  split
  · rename_i ho; simp only [ho] at hh; exact h _ _ _ hz hu hh
  · rename_i o ho
    simp only [ho] at hh
    split
    · rename_i hw
      simp only [hw, if_true] at hh
      refine .inl ?_
      rcases hh with ⟨v, M0, hM0, hv, hK⟩ | ⟨R, M0, hM0, hv, hK⟩ | ⟨_, g, old, cs, t, M', hg, hm, hp, hM', _, hK⟩ | ⟨_, R, hv, _, hK⟩ | ⟨M0, hM0, hv⟩
      · have h3 := hv u (hu.sub hM0)
        unfold GAt at h3
        unfold Oper.wp
        generalize (execOp a.eval o).run P u = r at *
        cases r with
        | ok n w' =>
          cases n <;> simp only [GUpon] at h3 <;> simp only [Oper.upon]
          case value x =>
            obtain ⟨e1, e2⟩ := h3
            rw [e1, e2]
            exact h _ _ _ (hZ o ho _) hu hK
          case skip =>
            obtain ⟨e1, e2⟩ := h3
            rw [e1, ← e2]
            exact h _ _ _ (hZ o ho _) hu hK
          case enter f args =>
            obtain ⟨e1, hc⟩ := h3
            rw [e1]
            exact hc.mono fun e w'' ⟨he, hb⟩ => by subst he; exact h _ _ _ (hZ o ho _) (hu.below hb) hK
        | halt x w' => simp only [GUpon] at h3
      · have h3 := hv u (hu.sub hM0)
        unfold FAt at h3
        unfold Oper.wp
        generalize (execOp a.eval o).run P u = r at *
        cases r with
        | ok n w' =>
          cases n <;> simp only [FUpon] at h3 <;> simp only [Oper.upon]
          case value x =>
            obtain ⟨hb, N, hR, hN⟩ := h3
            have hE := hu.app hb hN
            exact h _ _ _ (hZ o ho _) hE (hK x N hR (freshN_of hu (fun y hy => (hN y hy).1)) ⟨_, hE⟩)
          case enter f args =>
            obtain ⟨e1, hc⟩ := h3
            rw [e1]
            exact hc.mono fun e w'' ⟨x, N, he, hR, hb, hN⟩ => by
              subst he
              have hE := hu.app hb hN
              exact h _ _ _ (hZ o ho _) hE (hK x N hR (freshN_of hu (fun y hy => (hN y hy).1)) ⟨_, hE⟩)
        | halt x w' => simp only [FUpon] at h3
      · unfold Oper.wp
        rw [hp u (hu.box g _ hm)]
        simp only [Oper.upon]
        have hE := hu.put hg hm hM'
        exact h _ _ _ (hZ o ho _) hE (hK ⟨_, hE⟩)
      · have h3 := hv u hu
        unfold Oper.wp
        generalize (execOp a.eval o).run P u = r at *
        cases r with
        | ok n w' =>
          cases n <;> simp only [OUpon] at h3 <;> simp only [Oper.upon]
          case value x =>
            obtain ⟨M', hE, hR⟩ := h3
            exact h _ _ _ (hZ o ho _) hE (hK x M' hR ⟨_, hE⟩)
          case skip =>
            obtain ⟨M', hE, hR⟩ := h3
            exact h _ _ _ (hZ o ho _) hE (hK undef M' hR ⟨_, hE⟩)
          case enter f args =>
            exact h3.mono fun e w'' ⟨x, M', he, hE, hR⟩ => by
              subst he
              exact h _ _ _ (hZ o ho _) hE (hK x M' hR ⟨_, hE⟩)
        | halt x w' => simp only [OUpon] at h3
      · have h3 := hv u (hu.sub hM0)
        unfold Oper.wp
        generalize (execOp a.eval o).run P u = r at *
        cases r with
        | ok n w' =>
          cases n <;> simp only [PUpon] at h3 <;> simp only [Oper.upon]
          case enter f args =>
            obtain ⟨e1, hc⟩ := h3
            rw [e1]
            exact hc.mono fun e w'' ⟨c, he, hE⟩ => by
              subst he
              exact hP _ _ hE
        | halt x w' =>
          cases x <;> simp only [PUpon] at h3 <;> simp only [Oper.upon]
          case panic v => exact hP _ _ h3
    · rename_i hw; simp only [hw] at hh; exact h _ _ _ (hZ o ho _) hu hh
/-- a frame that differs by what a region's operations have written -/
def AlikeA (ops : Array Oper) (a a' : Act) : Prop := a'.defers = a.defers ∧ ∀ t, (ops.all fun o => o.dst != some t) = true → a'.tmps[t]? = a.tmps[t]?
theorem AlikeA.refl (a : Act) : AlikeA ops a a := ⟨rfl, fun _ _ => rfl⟩
theorem AlikeA.put {a a' : Act} (h : AlikeA ops a a') {i : Nat} {o : Oper} (ho : ops[i]? = some o) (v : Value) : AlikeA ops a (a'.put o.dst v) := by
  refine ⟨?_, fun t ht => ?_⟩
  · rw [← h.1]
    cases o.dst <;> rfl
  · rw [← h.2 t ht]
    have h1 := Array.all_eq_true_iff_forall_mem.1 ht o (Array.mem_of_getElem? ho)
    cases hd : o.dst with
    | none => rfl
    | some d =>
      rw [hd] at h1
      have hne : d ≠ t := fun e => by subst e; simp at h1
      simp [Act.put, Array.getElem?_setIfInBounds_ne hne]
theorem wpAny_of_HP {Q : Act → Boxes → Prop} {Q' : Exit → Act → World → Prop} {a0 : Act} (hP : ∀ a, AlikeA ops a0 a → ∀ c u, Γ.post c u → Q' (.panic c) a u) (hQ : ∀ a M u, EnvX w0 u M → Q a M → Q' .normal a u) :
    ∀ (f : Nat) (listed : Array Bool) (a : Act) (M : Boxes) (u : World), AlikeA ops a0 a → EnvX w0 u M → anyH (Γ := Γ) P md ops w0 Q f listed a M → wpAny P md ops Q' f listed a u
  | 0, _, _, _, _, _, hu, h => ⟨h.1, hQ _ _ _ hu h.2⟩
  | f + 1, _, _, _, _, hz, hu, h => ⟨fun h0 => hQ _ _ _ hu (h.1 h0), fun i hi => wpOp_of_hOp hu (AlikeA ops a0) hz (fun _ ho v => hz.put ho v) (hP _ hz) (fun a' M' u' hz' hu' => wpAny_of_HP hP hQ f _ a' M' u' hz' hu') (h.2 i hi)⟩
theorem wpAny_of_H {Q : Act → Boxes → Prop} {Q' : Exit → Act → World → Prop} (hQ : ∀ a M u, EnvX w0 u M → Q a M → Q' .normal a u)
    (f : Nat) (listed : Array Bool) (a : Act) (M : Boxes) (u : World) (hu : EnvX w0 u M) (h : anyH (Γ := HP.no) P md ops w0 Q f listed a M) : wpAny P md ops Q' f listed a u :=
  wpAny_of_HP (Γ := HP.no) (fun _ _ _ _ h => False.elim h) hQ f listed a M u (AlikeA.refl a) hu h
/-- operation i yields v now, over the boxes M0 (none: wherever) -/
def YieldsH (P : Program) (ops : Array Oper) (w0 : World) (M0 : Boxes) (o : Oper) (v : Value) (a : Act) : Prop :=
  (Region.wanted o (yielded ops a.tmps) = true ∧ ∀ u, EnvX w0 u M0 → GAt P o a v u) ∨
  (Region.wanted o (yielded ops a.tmps) = false ∧ v = undef)
theorem YieldsH.hOp {i : Nat} {o : Oper} {v : Value} {a : Act} {M0 M : Boxes} (hi : ops[i]? = some o) (hM : ∀ x ∈ M0, x ∈ M) (hy : YieldsH P ops w0 M0 o v a) {K : Act → Boxes → Prop} (h : K (a.put o.dst v) M) : hOp (Γ := Γ) P ops w0 i K a M := by
  unfold Go.Proofs.YtabhhbdbkeeblaaDoor.hOp
  simp only [hi]
  rcases hy with ⟨hw, hv⟩ | ⟨hw, rfl⟩
  · simp only [hw, if_true]; exact .inl ⟨v, M0, hM, hv, h⟩
  · simp only [hw, Bool.false_eq_true, if_false]; exact h
theorem YieldsH.of_same {o : Oper} {v : Value} {a a' : Act} {M0 : Boxes} (hy : YieldsH P ops w0 M0 o v a) (he : execOp a'.eval o = execOp a.eval o)
    (hw : Region.wanted o (yielded ops a'.tmps) = Region.wanted o (yielded ops a.tmps)) : YieldsH P ops w0 M0 o v a' := by
  unfold YieldsH GAt at *
  rw [he, hw]
  exact hy
theorem hOp_mono {i : Nat} {a : Act} {M : Boxes} {K K' : Act → Boxes → Prop} (h : ∀ a M, K a M → K' a M) (hh : hOp (Γ := Γ) P ops w0 i K a M) : hOp (Γ := Γ) P ops w0 i K' a M := by
  unfold hOp at *
  split
  · exact h _ _ (by simpa [*] using hh)
  · rename_i o ho
    simp only [ho] at hh
    split
    · rename_i hw
      simp only [hw, if_true] at hh
      rcases hh with ⟨v, M0, hM0, hv, hK⟩ | ⟨R, M0, hM0, hv, hK⟩ | ⟨hs, g, old, cs, t, M', hg, hm, hp, hM', hk, hK⟩ | ⟨hs, R, hv, hk, hK⟩ | h5
      · exact .inl ⟨v, M0, hM0, hv, h _ _ hK⟩
      · exact .inr (.inl ⟨R, M0, hM0, hv, fun x N hR hf hE => h _ _ (hK x N hR hf hE)⟩)
      · exact .inr (.inr (.inl ⟨hs, g, old, cs, t, M', hg, hm, hp, hM', hk, fun hE => h _ _ (hK hE)⟩))
      · exact .inr (.inr (.inr (.inl ⟨hs, R, hv, hk, fun x M' hR hE => h _ _ (hK x M' hR hE)⟩)))
      · exact .inr (.inr (.inr (.inr h5)))
    · rename_i hw; simp only [hw] at hh; exact h _ _ hh
theorem hOp_put {j : Nat} {oi oj : Oper} {v : Value} {M0 M : Boxes} (hj : ops[j]? = some oj) (hap : oi.apart ops oj = true)
    (hsi : ∀ cs b, oi.op ≠ .select cs b) (hsj : ∀ cs b, oj.op ≠ .select cs b) {K : Act → Boxes → Prop} {a : Act}
    (hy : YieldsH P ops w0 M0 oi v a) (hM : ∀ x ∈ M0, x ∈ M) (hst : storeB oj = true → ∀ x ∈ M0, x ∈ Γ.keep j) (h : hOp (Γ := Γ) P ops w0 j K (a.put oi.dst v) M) :
    hOp (Γ := Γ) P ops w0 j (fun a' M' => YieldsH P ops w0 M0 oi v a' ∧ (∀ x ∈ M0, x ∈ M') ∧ K (a'.put oi.dst v) M') a M := by
  obtain ⟨h1, h2, h3⟩ := Oper.apart_spec hap
  have keep : ∀ (a : Act), YieldsH P ops w0 M0 oi v a → ∀ u, YieldsH P ops w0 M0 oi v (a.put oj.dst u) := fun a hy u =>
    hy.of_same (execOp_put oi hsi a oj.dst u h3) (wanted_put oi a oj.dst u h3)
  have hex := execOp_put (ops := ops) oj hsj a oi.dst v h1
  unfold hOp at *
  simp only [hj] at *
  rw [wanted_put oj a oi.dst v h1] at h
  split
  · rename_i hw
    simp only [hw, if_true] at h
    rcases h with ⟨x, M1, hM1, hx, hK⟩ | ⟨R, M1, hM1, hx, hK⟩ | ⟨hs, g, old, cs, t, M', hg, hm, hp, hM', hk, hK⟩ | ⟨hs, R, hx, hk, hK⟩ | ⟨M1, hM1, hx⟩
    · refine .inl ⟨x, M1, hM1, ?_, keep a hy x, hM, by rw [← Act.put_comm a v x h2]; exact hK⟩
      unfold GAt at *
      rw [hex] at hx
      exact hx
    · refine .inr (.inl ⟨R, M1, hM1, ?_, fun x N hR hf hE => ⟨keep a hy _, fun y hy' => List.mem_append_right _ (hM y hy'), by rw [← Act.put_comm a v _ h2]; exact hK x N hR hf hE⟩⟩)
      unfold FAt at *
      rw [hex] at hx
      exact hx
    · refine .inr (.inr (.inl ⟨hs, g, old, cs, t, M', hg, hm, ?_, hM', hk, fun hE => ⟨keep a hy _, fun y hy' => hk y (hst hs y hy') (hM y hy'), by rw [← Act.put_comm a v _ h2]; exact hK hE⟩⟩))
      unfold PutAt at *
      rw [hex] at hp
      exact hp
    · refine .inr (.inr (.inr (.inl ⟨hs, R, fun u hu => ?_, hk, fun x M' hR hE => ⟨keep a hy _, fun y hy' => hk x M' hR y (hst hs y hy') (hM y hy'), by rw [← Act.put_comm a v _ h2]; exact hK x M' hR hE⟩⟩)))
      have hr := hx u hu
      rw [hex] at hr
      exact hr
    · refine .inr (.inr (.inr (.inr ⟨M1, hM1, fun u hu => ?_⟩)))
      have hr := hx u hu
      rw [hex] at hr
      exact hr
  · rename_i hw
    simp only [hw] at h
    exact ⟨keep a hy _, hM, by rw [← Act.put_comm a v undef h2]; exact h⟩
theorem anyH_first {Q : Act → Boxes → Prop} {i : Nat} {oi : Oper} {v : Value} {M0 : Boxes} (hi : ops[i]? = some oi) (hsel : ∀ (j : Nat) (o : Oper) cs b, ops[j]? = some o → o.op ≠ .select cs b) :
    ∀ (fuel : Nat) (listed : Array Bool) (a : Act) (M : Boxes), closedL md ops listed → (∀ x ∈ M0, x ∈ M) →
      (∀ j oj, ops[j]? = some oj → j ≠ i → listed.getD j true = false → ancB md ops ops.size j i = true ∨ (oi.apart ops oj = true ∧ (M0 = [] ∨ storeB oj = false ∨ ∀ x ∈ M0, x ∈ Γ.keep j))) →
      i ∈ Region.ready md ops listed → YieldsH P ops w0 M0 oi v a →
      anyH (Γ := Γ) P md ops w0 Q fuel (listed.setIfInBounds i true) (a.put oi.dst v) M → anyH (Γ := Γ) P md ops w0 Q (fuel + 1) listed a M := by
  intro fuel
  induction fuel with
  | zero =>
    intro listed a M _ hM _ hr hy H
    refine ⟨fun h => (by rw [h] at hr; cases hr), fun j hj => ?_⟩
    by_cases hji : j = i
    · subst hji; exact hy.hOp hi hM H
    · have := ready_mono hj hji
      rw [H.1] at this
      cases this
  | succ fuel ih =>
    intro listed a M hcl hM hfree hr hy H
    refine ⟨fun h => (by rw [h] at hr; cases hr), fun j hj => ?_⟩
    by_cases hji : j = i
    · subst hji; exact hy.hOp hi hM H
    · have h1 := H.2 j (ready_mono hj hji)
      obtain ⟨hjun, oj, hoj, hall⟩ := mem_ready.1 hj
      have h0 := (mem_ready.1 hr).1
      have hno : ¬ ancB md ops ops.size j i = true := fun ha => by
        have hl := anc_listed hcl (i := i) ops.size j (fun o ho e he hb => by
          have : o = oj := Option.some.inj (ho.symm.trans hoj)
          subst this
          exact hall e he hb) ha
        rcases Nat.lt_or_ge i listed.size with h' | h'
        · simp [h'] at h0 hl; rw [h0] at hl; cases hl
        · simp [Array.getElem?_eq_none h'] at hl
      rcases hfree j oj hoj hji hjun with hf | ⟨hap, hps⟩
      · exact absurd hf hno
      · have hst : storeB oj = true → ∀ x ∈ M0, x ∈ Γ.keep j := fun hs => by
          rcases hps with hp' | hn | hn
          · rw [hp']; exact fun _ h => (by cases h)
          · rw [hn] at hs; cases hs
          · exact hn
        have h2 := hOp_put hoj hap (fun cs b => hsel i oi cs b hi) (fun cs b => hsel j oj cs b hoj) hy hM hst h1
        have hfree' : ∀ k ok, ops[k]? = some ok → k ≠ i → (listed.setIfInBounds j true).getD k true = false → ancB md ops ops.size k i = true ∨ (oi.apart ops ok = true ∧ (M0 = [] ∨ storeB ok = false ∨ ∀ x ∈ M0, x ∈ Γ.keep k)) := fun k ok hk hki hun => by
          refine hfree k ok hk hki ?_
          by_cases hjk : j = k
          · subst hjk; exact hjun
          · rw [getD_set_ne true hjk] at hun; exact hun
        refine hOp_mono (fun a' M' h3 => ih (listed.setIfInBounds j true) a' M' (closedL_set hcl hj) h3.2.1 hfree' (ready_mono hr (Ne.symm hji)) h3.1 ?_) h2
        rw [Array.setIfInBounds_comm _ _ hji]
        exact h3.2.2
/-- one phase: the quiet operations of 'ord', over the boxes L -/
theorem anyH_phase0 {Q : Act → Boxes → Prop} {l : List Oper} (hs : Region.noSelect l.toArray = true) {L : Boxes} {s0 : World} (h0 : EnvX w0 s0 L) : ∀ (ord : List Nat) (f : Nat) (listed : Array Bool) (a : Act), closedL md l.toArray listed →
    lexG md l.toArray ord listed = true → wpG0 P l (EnvC w0 L) (fun a' => anyH (Γ := Γ) P md l.toArray w0 Q f (listedBy ord listed) a' L) ord a → anyH (Γ := Γ) P md l.toArray w0 Q (ord.length + f) listed a L
  | [], f, listed, a, _, _, h => by simpa [wpG0, listedBy] using h
  | i :: ord, f, listed, a, hcl, hB, h => by
    simp only [lexG, Bool.and_eq_true] at hB
    obtain ⟨⟨hr, hf⟩, hB'⟩ := hB
    have hr' : i ∈ Region.ready md l.toArray listed := by simpa using hr
    unfold wpG0 at h
    cases hl : l[i]? with
    | none => simp only [hl] at h
    | some o =>
      simp only [hl] at h
      have ho : l.toArray[i]? = some o := by simpa using hl
      have hpp : (l.toArray[i]?.map pureB).getD false = pureB o := by rw [ho]; rfl
      rw [hpp] at hf
      have hlen : (i :: ord).length + f = (ord.length + f) + 1 := by simp only [List.length_cons]; omega
      rw [hlen]
      have hfr := gfree_spec ho hf
      by_cases hw : Region.wanted o (yielded l.toArray a.tmps) = true
      · simp only [hw, if_true] at h
        obtain ⟨v, hv, hK⟩ := h
        by_cases hpu : pureB o = true
        · exact anyH_first (M0 := []) ho (Region.noSelect_spec hs) _ listed a L hcl (fun _ h => by cases h) (fun j oj h1 h2 h3 => (hfr j oj h1 h2 h3).imp id (fun k => ⟨k.1, .inl rfl⟩)) hr' (.inl ⟨hw, fun u _ => pure_any hpu (hv s0 h0) u⟩)
            (anyH_phase0 hs h0 ord f _ _ (closedL_set hcl hr') hB' hK)
        · exact anyH_first (M0 := L) ho (Region.noSelect_spec hs) _ listed a L hcl (fun _ h => h) (fun j oj h1 h2 h3 => (hfr j oj h1 h2 h3).imp id (fun k => ⟨k.1, .inr (.inl (k.2.resolve_left hpu))⟩)) hr' (.inl ⟨hw, hv⟩)
            (anyH_phase0 hs h0 ord f _ _ (closedL_set hcl hr') hB' hK)
      · simp only [hw, Bool.false_eq_true, if_false] at h
        have hw' : Region.wanted o (yielded l.toArray a.tmps) = false := by simpa using hw
        exact anyH_first (M0 := []) ho (Region.noSelect_spec hs) _ listed a L hcl (fun _ h => by cases h) (fun j oj h1 h2 h3 => (hfr j oj h1 h2 h3).imp id (fun k => ⟨k.1, .inl rfl⟩)) hr' (.inr ⟨hw', rfl⟩)
            (anyH_phase0 hs h0 ord f _ _ (closedL_set hcl hr') hB' h)
/-- what has been listed is closed: as a Bool -/
def closedB (md : Region.Mode) (ops : Array Oper) (listed : Array Bool) : Bool :=
  (List.range ops.size).all fun j => !listed.getD j false || match ops[j]? with
    | some oj => oj.after.all fun e => !Region.binds md e || listed.getD e.on false
    | none => true
theorem closedL_of {listed : Array Bool} (h : closedB md ops listed = true) : closedL md ops listed := by
  intro j oj hj hl e he hb
  simp only [closedB, List.all_eq_true, List.mem_range] at h
  have h1 := h j (Array.getElem?_eq_some_iff.1 hj).1
  simp only [hl, hj, Bool.not_true, Bool.false_or] at h1
  have h2 := Array.all_eq_true_iff_forall_mem.1 h1 e he
  simpa [hb] using h2
theorem anyH_phase {Q : Act → Boxes → Prop} {l : List Oper} {F : Nat} (ord : List Nat) (f : Nat) {L : Boxes} {listed : Array Bool} {a : Act} (hF : F = ord.length + f) (h0 : ∃ u, EnvX w0 u L)
    (hB : (Region.noSelect l.toArray && closedB md l.toArray listed && lexG md l.toArray ord listed) = true)
    (h : wpG P l (EnvC w0 L) (fun a' => anyH (Γ := Γ) P md l.toArray w0 Q f (listedBy ord listed) a' L) ord a) : anyH (Γ := Γ) P md l.toArray w0 Q F listed a L := by
  subst hF
  simp only [Bool.and_eq_true] at hB
  obtain ⟨s0, hs0⟩ := h0
  exact anyH_phase0 hB.1.1 hs0 ord f listed a (closedL_of hB.1.2) hB.2 h.out
/-- A REGION THAT DRAWS ITS ORDER -/
theorem wp_region_H {id : Nat} {Q : Exit → Act → World → Prop} {a : Act} {w : World} {l : List Oper} (L : Boxes) (hm : P.follows .mixedOrders = true) (hE : EnvX w0 w L)
    (h : anyH (Γ := HP.no) P .any l.toArray w0 (fun a M => ∀ u, EnvX w0 u M → Q .normal a u) l.toArray.size (Array.replicate l.toArray.size false) a L) :
    (Code.region id l.toArray true).wp P Q a w :=
  wp_region_any hm (wpAny_of_H (w0 := w0) (Q := fun a M => ∀ u, EnvX w0 u M → Q .normal a u) (fun _ _ u hu hh => hh u hu) _ _ _ L _ hE.drew h)
/-- A PLAIN REGION, in the text's order -/
def lexH {Γ : HP} (P : Program) (ops : Array Oper) (w0 : World) (Q : Act → Boxes → Prop) : List Nat → Act → Boxes → Prop
  | [], a, M => Q a M
  | i :: rest, a, M => hOp (Γ := Γ) P ops w0 i (lexH (Γ := Γ) P ops w0 Q rest) a M
theorem wpOps_of_lexHP {Q : Act → Boxes → Prop} {Q' : Exit → Act → World → Prop} {a0 : Act} (hP : ∀ a, AlikeA ops a0 a → ∀ c u, Γ.post c u → Q' (.panic c) a u) (hQ : ∀ a M u, EnvX w0 u M → Q a M → Q' .normal a u) :
    ∀ (l : List Nat) (a : Act) (M : Boxes) (u : World), AlikeA ops a0 a → EnvX w0 u M → lexH (Γ := Γ) P ops w0 Q l a M → wpOps P ops Q' l a u
  | [], _, _, _, _, hu, h => hQ _ _ _ hu h
  | i :: l, _, _, _, hz, hu, h => by
    rw [wpOps_cons]
    exact wpOp_of_hOp hu (AlikeA ops a0) hz (fun _ ho v => hz.put ho v) (hP _ hz) (fun a' M' u' hz' hu' => wpOps_of_lexHP hP hQ l a' M' u' hz' hu') h
theorem lexH_phase0 {l : List Oper} {Q : Act → Boxes → Prop} {L : Boxes} (rest : List Nat) : ∀ (ord : List Nat) (a : Act), wpG0 P l (EnvC w0 L) (fun a' => lexH (Γ := Γ) P l.toArray w0 Q rest a' L) ord a → lexH (Γ := Γ) P l.toArray w0 Q (ord ++ rest) a L
  | [], a, h => h
  | i :: ord, a, h => by
    unfold wpG0 at h
    show hOp (Γ := Γ) P l.toArray w0 i (lexH (Γ := Γ) P l.toArray w0 Q (ord ++ rest)) a L
    unfold hOp
    cases hl : l[i]? with
    | none => simp only [hl] at h
    | some o =>
      simp only [hl] at h
      have ho : l.toArray[i]? = some o := by simpa using hl
      simp only [ho]
      split
      · rename_i hw
        simp only [hw, if_true] at h
        obtain ⟨v, hv, hK⟩ := h
        exact .inl ⟨v, L, fun _ h => h, hv, lexH_phase0 rest ord _ hK⟩
      · rename_i hw
        simp only [hw] at h
        exact lexH_phase0 rest ord _ h
theorem lexH_phase {l : List Oper} {Q : Act → Boxes → Prop} {L : Boxes} (ord rest : List Nat) {a : Act} (h : wpG P l (EnvC w0 L) (fun a' => lexH (Γ := Γ) P l.toArray w0 Q rest a' L) ord a) : lexH (Γ := Γ) P l.toArray w0 Q (ord ++ rest) a L :=
  lexH_phase0 rest ord a h.out
theorem wp_region_Hx {id : Nat} {Q : Exit → Act → World → Prop} {a : Act} {w : World} {l : List Oper} (all : List Nat) (L : Boxes) (hr : List.range l.toArray.size = all) (hE : EnvX w0 w L)
    (h : lexH (Γ := HP.no) P l.toArray w0 (fun a M => ∀ u, EnvX w0 u M → Q .normal a u) all a L) : (Code.region id l.toArray false).wp P Q a w :=
  wp_region (by rw [hr]; exact wpOps_of_lexHP (Γ := HP.no) (w0 := w0) (Q := fun a M => ∀ u, EnvX w0 u M → Q .normal a u) (fun _ _ _ _ h => False.elim h) (fun _ _ u hu hh => hh u hu) _ a L w (AlikeA.refl a) hE h)
section
variable {Q : Act → Boxes → Prop} {f : Nat} {listed : Array Bool} {a : Act} {M : Boxes} {K : Act → Boxes → Prop} {i : Nat} {dst : Option Tmp} {op : Op} {ty : TypeId} {pos : String} {after : Array Edge}
theorem anyH_done (hr : Region.ready md ops listed = []) (h : Q a M) : anyH (Γ := Γ) P md ops w0 Q 0 listed a M := ⟨hr, h⟩
theorem anyH_one (hr : Region.ready md ops listed = [i]) (h : hOp (Γ := Γ) P ops w0 i (anyH (Γ := Γ) P md ops w0 Q f (listed.setIfInBounds i true)) a M) : anyH (Γ := Γ) P md ops w0 Q (f + 1) listed a M :=
  ⟨(fun h0 => by rw [hr] at h0; cases h0), (fun j hj => by rw [hr] at hj; cases List.mem_singleton.1 hj; exact h)⟩
/-- an operation that makes memory: the frame behind it is written out by '.move (.const x)' -/
theorem hOp_fresh {o : Oper} (R : Value → Boxes → Prop) (M0 : Boxes) (ho : ops[i]? = some o) (heq : o = ⟨dst, op, ty, pos, after, none⟩) (hM : ∀ x ∈ M0, x ∈ M) (hv : ∀ u, EnvX w0 u M0 → FAt P ⟨dst, op, ty, pos, after, none⟩ a R u)
    (h : ∀ x N, R x N → freshN w0 N M → (∃ u, EnvX w0 u (N ++ M)) → ∀ K' : Act → Prop, (∀ a', K a' (N ++ M) → K' a') → Oper.quiet P ⟨dst, .move (.const x), ty, pos, after, none⟩ a (fun _ => True) K') : hOp (Γ := Γ) P ops w0 i K a M := by
  subst heq
  unfold hOp
  simp only [ho, Region.wanted, if_true]
  exact .inr (.inl ⟨R, M0, hM, hv, fun x N hR hf hE => put_told (K := fun a' => K a' (N ++ M)) w0 (h x N hR hf hE)⟩)
/-- an append to one's own: boxes as they are told by R behind it -/
theorem hOp_own {o : Oper} {gd : Option (Nat × Bool)} (R : Value → Boxes → Prop) (ho : ops[i]? = some o) (heq : o = ⟨dst, op, ty, pos, after, gd⟩) (hst : storeB o = true) (hw : Region.wanted ⟨dst, op, ty, pos, after, gd⟩ (yielded ops a.tmps) = true)
    (hv : ∀ u, EnvX w0 u M → ∃ x u' M', (execOp a.eval ⟨dst, op, ty, pos, after, gd⟩).run P u = .ok (.value x) u' ∧ EnvX w0 u' M' ∧ R x M')
    (h : ∀ x M', R x M' → (∃ u, EnvX w0 u M') → ∀ K' : Act → Prop, (∀ a', K a' M' → K' a') → Oper.quiet P ⟨dst, .move (.const x), ty, pos, after, none⟩ a (fun _ => True) K') (hkeep : ∀ x M', R x M' → ∀ y ∈ Γ.keep i, y ∈ M → y ∈ M' := by exact no_keepR) : hOp (Γ := Γ) P ops w0 i K a M := by
  subst heq
  unfold hOp
  simp only [ho, hw, if_true]
  exact .inr (.inr (.inr (.inl ⟨hst, R, fun u hu => (by
    obtain ⟨x, u', M', hr, hE⟩ := hv u hu
    rw [hr]
    exact ⟨M', hE⟩), hkeep, fun x M' hR hE => put_told (K := fun a' => K a' M') w0 (h x M' hR hE)⟩)))
/-- an operation that turns boxes, whatever it is -/
theorem hOp_turn {o : Oper} {gd : Option (Nat × Bool)} (R : Value → Boxes → Prop) (ho : ops[i]? = some o) (heq : o = ⟨dst, op, ty, pos, after, gd⟩) (hst : storeB o = true) (hw : Region.wanted ⟨dst, op, ty, pos, after, gd⟩ (yielded ops a.tmps) = true)
    (hv : ∀ u, EnvX w0 u M → OUpon P w0 R ((execOp a.eval ⟨dst, op, ty, pos, after, gd⟩).run P u))
    (h : ∀ x M', R x M' → (∃ u, EnvX w0 u M') → ∀ K' : Act → Prop, (∀ a', K a' M' → K' a') → Oper.quiet P ⟨dst, .move (.const x), ty, pos, after, none⟩ a (fun _ => True) K') (hkeep : ∀ x M', R x M' → ∀ y ∈ Γ.keep i, y ∈ M → y ∈ M' := by exact no_keepR) : hOp (Γ := Γ) P ops w0 i K a M := by
  subst heq
  unfold hOp
  simp only [ho, hw, if_true]
  exact .inr (.inr (.inr (.inl ⟨hst, R, hv, hkeep, fun x M' hR hE => put_told (K := fun a' => K a' M') w0 (h x M' hR hE)⟩)))
theorem FAt_new {z : Obj} {o : Oper} (hz : NewAt P o a z) (u : World) : FAt P o a (fun x N => ∃ g, x = .pointer (some ⟨g, 0, none⟩) ∧ N = [(g, z)]) u := by
  unfold FAt
  rw [hz u]
  refine ⟨(Below.refl _ _).alloc (Nat.le_refl _) _, _, ⟨_, rfl, rfl⟩, fun y hy => ?_⟩
  cases List.mem_singleton.1 hy
  exact ⟨Nat.le_refl _, heap_alloc_new u z⟩
/-- a call that hands back new memory -/
theorem FAt_call {fn : Func} {c : Code} {fid : FuncId} {xs : Array Operand} {ats : Array TypeId} {args : Array Value} {R : Value → Boxes → Prop} {gd : Option (Nat × Bool)} (hargs : xs.toList.map a.eval = args.toList) (hfn : P.funcs[fid]? = some fn) (hname : (fn.name == "runtime.NumGoroutine") = false) (hb : fn.body = some c) (u : World)
    (hc : Calls P fid args u (fun e w'' => ∃ x N, e = .returned x ∧ R x N ∧ Below u.heap.size u w'' ∧ ∀ y ∈ N, u.heap.size ≤ y.1 ∧ w''.heap[y.1]? = some y.2)) :
    FAt P ⟨dst, .call { callee := .value (.func fid), args := xs, argTypes := ats }, ty, pos, after, gd⟩ a R u := by
  have hrun : (execOp a.eval ⟨dst, .call { callee := .value (.func fid), args := xs, argTypes := ats }, ty, pos, after, gd⟩).run P u = .ok (.enter fid args) u := by
    have ha : xs.map a.eval = args := by
      apply Array.ext'
      rw [Array.toList_map]
      exact hargs
    rw [execOp_call_go]
    simp only [Array.empty_append, Array.append_empty, ha]
    exact run_enter hfn hname hb _ u
  unfold FAt
  rw [hrun]
  exact ⟨rfl, hc⟩
theorem OUpon_call {fn : Func} {c : Code} {fid : FuncId} {xs : Array Operand} {ats : Array TypeId} {args : Array Value} {R : Value → Boxes → Prop} {gd : Option (Nat × Bool)} (hargs : xs.toList.map a.eval = args.toList) (hfn : P.funcs[fid]? = some fn) (hname : (fn.name == "runtime.NumGoroutine") = false) (hb : fn.body = some c) (u : World)
    (hc : Calls P fid args u (fun e w'' => ∃ x M', e = .returned x ∧ EnvX w0 w'' M' ∧ R x M')) :
    OUpon P w0 R ((execOp a.eval ⟨dst, .call { callee := .value (.func fid), args := xs, argTypes := ats }, ty, pos, after, gd⟩).run P u) := by
  have hrun : (execOp a.eval ⟨dst, .call { callee := .value (.func fid), args := xs, argTypes := ats }, ty, pos, after, gd⟩).run P u = .ok (.enter fid args) u := by
    have ha : xs.map a.eval = args := by
      apply Array.ext'
      rw [Array.toList_map]
      exact hargs
    rw [execOp_call_go]
    simp only [Array.empty_append, Array.append_empty, ha]
    exact run_enter hfn hname hb _ u
  rw [hrun]
  exact hc
/-- a store of a whole row -/
theorem hOp_store {ty' : TypeId} {x y : Operand} (ho : ops[i]? = some ⟨none, .store ty' x y, ty, pos, after, none⟩)
    (g : Nat) (cs : Array Value) (hx : a.eval x = .pointer (some ⟨g, 0, none⟩)) (hy : a.eval y = .agg cs) (hg : w0.heap.size ≤ g) (t : TypeId) (old : Array Value) (hm : (g, Obj.cells old t (0, 0)) ∈ M)
    (hi : (P.info? ty').map (·.size) = some cs.size) (hold : old.size = cs.size) (h1 : cs.all (·.oneCell') = true) (M' : Boxes) (hM' : ∀ x ∈ M', x = (g, Obj.cells cs t (0, 0)) ∨ (x ∈ M ∧ x.1 ≠ g))
    (h : (∃ u, EnvX w0 u M') → K a M') (hkeep : ∀ x ∈ Γ.keep i, x ∈ M → x ∈ M' := by exact no_keep) : hOp (Γ := Γ) P ops w0 i K a M := by
  unfold hOp
  simp only [ho, Region.wanted, if_true]
  refine .inr (.inr (.inl ⟨rfl, g, old, cs, t, M', hg, hm, fun u hu => ?_, hM', hkeep, h⟩))
  unfold execOp
  simp only [hx, hy, Instr.storeAt, Instr.sureAddr, Sem.run_bind, Sem.run_pure, Result.andThen_ok, run_storeVar_row u g t ty' old cs hu hi hold h1]
end
end
/-- rows: each of so many cells -/
def isRows (z : Nat) (L : List (List Value)) : Prop := ∀ x ∈ L, x.length = z
theorem isRows.flat_len {z : Nat} {L : List (List Value)} (h : isRows z L) : L.flatten.length = L.length * z := by
  induction L with
  | nil => simp
  | cons x L ih =>
    rw [List.flatten_cons, List.length_append, h x (List.mem_cons_self ..), ih (fun y hy => h y (List.mem_cons_of_mem _ hy)), List.length_cons, Nat.succ_mul]
    omega
theorem isRows.flat_get {z : Nat} {L : List (List Value)} (h : isRows z L) : ∀ (i j : Nat), i < L.length → j < z → L.flatten[i * z + j]? = (L.getD i [])[j]? := by
  induction L with
  | nil => intro i j hi; simp at hi
  | cons x L ih =>
    intro i j hi hj
    have hx := h x (List.mem_cons_self ..)
    rw [List.flatten_cons]
    cases i with
    | zero =>
      rw [Nat.zero_mul, Nat.zero_add, List.getElem?_append_left (by omega)]
      rfl
    | succ i =>
      rw [List.getElem?_append_right (by rw [hx, Nat.succ_mul]; omega), hx, show (i + 1) * z + j - z = i * z + j by rw [Nat.succ_mul]; omega, ih (fun y hy => h y (List.mem_cons_of_mem _ hy)) i j (by simpa using hi) hj]
      simp
theorem isRows.get {z : Nat} {L : List (List Value)} (h : isRows z L) {i : Nat} (hi : i < L.length) : (L.getD i []).length = z := by
  rw [List.getD_eq_getElem?_getD, List.getElem?_eq_getElem hi]
  exact h _ (List.getElem_mem hi)
/-- cells that are read from a slice's address -/
def CellsIn (w : World) (B : Nat) (A : Option Addr) (xs : List Value) : Prop := 0 < xs.length → ∃ ad, A = some ad ∧ ad.block < B ∧ ∀ j v, xs[j]? = some v → w.cell? (ad.add j) = some v
theorem CellsIn.below {w w' : World} {B : Nat} {A : Option Addr} {xs : List Value} (h : CellsIn w B A xs) (hb : Below B w w') : CellsIn w' B A xs := by
  intro hp
  obtain ⟨ad, e, hlt, hc⟩ := h hp
  refine ⟨ad, e, hlt, fun j v hv => ?_⟩
  have hbl : (ad.add j).block = ad.block := by unfold Addr.add; split <;> rfl
  exact (hb.cell (p := ad.add j) (by rw [hbl]; exact hlt)).trans (hc j v hv)
theorem CellsIn.more {w : World} {B B' : Nat} {A : Option Addr} {xs : List Value} (h : CellsIn w B A xs) (hB : B ≤ B') : CellsIn w B' A xs := fun hp => by
  obtain ⟨ad, e, hlt, hc⟩ := h hp
  exact ⟨ad, e, Nat.lt_of_lt_of_le hlt hB, hc⟩
theorem CellsIn.up {w w' : World} {A : Option Addr} {xs : List Value} (h : CellsIn w w.heap.size A xs) (hb : Below w.heap.size w w') : CellsIn w' w'.heap.size A xs := (h.below hb).more hb.size
theorem add_addN (a : Addr) (l j : Nat) : (a.add l).add j = a.add (l + j) := by
  unfold Addr.add
  by_cases h : l = 0
  · simp [h]
  · by_cases h2 : j = 0
    · simp [h, h2]
    · simp [h, h2, Nat.add_assoc]
/-- an aggregate's type -/
structure AggT (ty : TypeId) (z : Nat) : Prop where
  agg : ∀ w, (isAgg ty).run Tryd.prog w = .ok true w
  size : (Tryd.prog.info? ty).map (·.size) = some z
theorem run_loadAgg {ty : TypeId} {z : Nat} (D : AggT ty z) {w : World} {ad : Addr} (xs : List Value) (hx : xs.length = z) (h : ∀ j v, xs[j]? = some v → w.cell? (ad.add j) = some v) : (loadVar ty ad).run Tryd.prog w = .ok (.agg xs.toArray) w := by
  have hc := run_loadCells_list (P := Tryd.prog) w ad xs h
  have hs := D.size
  rw [hx] at hc
  cases hq : Tryd.prog.info? ty with
  | none => rw [hq] at hs; cases hs
  | some i =>
    rw [hq] at hs
    simp only [Option.map_some, Option.some.injEq] at hs
    simp [loadVar, D.agg, sizeOf, typeInfo, hq, hs, hc]
theorem CellsIn.load {ty : TypeId} {z : Nat} (D : AggT ty z) {w : World} {B : Nat} {A : Option Addr} {L : List (List Value)} (h : CellsIn w B A L.flatten) (hL : isRows z L) (hz : 0 < z) {i : Nat} (hi : i < L.length) :
    ∃ ad, A = some ad ∧ (loadVar ty (ad.add (i * z))).run Tryd.prog w = .ok (.agg (L.getD i []).toArray) w := by
  have hfl := hL.flat_len
  have hp : 0 < L.length * z := Nat.mul_pos (by omega) hz
  obtain ⟨ad, e, _, hc⟩ := h (by omega)
  refine ⟨ad, e, run_loadAgg D _ (hL.get hi) (fun j v hv => ?_)⟩
  rw [add_addN]
  refine hc (i * z + j) v ?_
  have hj : j < z := by
    rcases Nat.lt_or_ge j z with h' | h'
    · exact h'
    · rw [List.getElem?_eq_none (by rw [hL.get hi]; exact h')] at hv
      cases hv
  rw [hL.flat_get i j hi hj]
  exact hv
/-- cells of a box, at a place -/
theorem box_cell {w0 u : World} {M : Boxes} {g k : Nat} {t : TypeId} {cs : Array Value} {v : Value} (hu : EnvC w0 M u) (hm : (g, Obj.cells cs t (0, 0)) ∈ M) (h : cs[k]? = some v) : u.cell? ⟨g, k, none⟩ = some v := by
  rw [Row.cell (EnvX.row hu hm)]
  exact h
theorem box_agg {ty : TypeId} {z : Nat} (D : AggT ty z) {w0 u : World} {M : Boxes} {g k : Nat} {t : TypeId} {cs : Array Value} (hu : EnvC w0 M u) (hm : (g, Obj.cells cs t (0, 0)) ∈ M) (xs : List Value) (hx : xs.length = z) (h : (cs.toList.drop k).take z = xs) : (loadVar ty ⟨g, k, none⟩).run Tryd.prog u = .ok (.agg xs.toArray) u := by
  refine run_loadAgg D xs hx fun j v hv => ?_
  rw [Addr.add_mid]
  refine box_cell hu hm ?_
  subst h
  have hj : j < z := by
    rcases Nat.lt_or_ge j z with h' | h'
    · exact h'
    · rw [List.getElem?_eq_none (by omega)] at hv
      cases hv
  rw [List.getElem?_take_of_lt hj, List.getElem?_drop, Array.getElem?_toList] at hv
  exact hv
section
variable {a : Act} {dst : Option Tmp} {x : Operand} {ty ty' : TypeId} {pos : String} {after : Array Edge} {gd : Option (Nat × Bool)}
theorem load_any_op {ad : Addr} {v : Value} (u : World) (hr : (loadVar ty' ad).run Tryd.prog u = .ok v u) (hx : a.eval x = .pointer (some ad)) :
    (execOp a.eval ⟨dst, .load ty' x, ty, pos, after, gd⟩).run Tryd.prog u = .ok (.value v) u := by
  unfold execOp
  simp only [hx, Instr.loadAt, Instr.sureAddr, Sem.run_bind, Sem.run_pure, Result.andThen_ok, hr]
/-- a load of one cell (an int, a slice, a function) -/
theorem run_load_one {ad : Addr} {v : Value} (ha : ∀ w, (isAgg ty').run Tryd.prog w = .ok false w) (u : World) (h : u.cell? ad = some v) : (loadVar ty' ad).run Tryd.prog u = .ok v u := by
  have h' : (load ad).run Tryd.prog u = .ok v u := by rw [run_load, h]
  simp only [loadVar, Sem.run_bind, ha, Result.andThen_ok, Bool.false_eq_true, if_false, h']
end
/-- an element's type: its slice's type, its own, its cells, its bytes -/
structure ElemT (st e : TypeId) (z bytes : Nat) (zero : Value) : Prop where
  und : Tryd.prog.underlying st = some (.slice e)
  info : (Tryd.prog.info? e).map (fun i => (i.zero, i.size, i.bytes)) = some (some zero, z, bytes)
  zs : zero.cells.size = z
  pos : 0 < z
  small : bytes ≤ 1000
  smallz : z ≤ 1000
def FreshR (e : TypeId) (z n : Nat) (xs : List Value) (x : Value) (N : Boxes) : Prop :=
  (∃ g cap cur, x = .slice (some ⟨g, 0, none⟩) n cap ∧ N = [(g, Obj.cells cur e (0, 0))] ∧ n ≤ cap ∧ cap ≤ maxLen ∧ cur.size = cap * z ∧ cur.toList.take (n * z) = xs) ∨
  (x = .slice none 0 0 ∧ N = [] ∧ n = 0 ∧ xs = [])
theorem fresh_of_own {w : World} {B z n : Nat} {e : TypeId} {v : Value} {xs : List Value} (h : w.ownsRow B e z v n xs) : ∃ N, FreshR e z n xs v N ∧ ∀ y ∈ N, B ≤ y.1 ∧ w.heap[y.1]? = some y.2 ∧ v.ownBlock = some y.1 := by
  rcases h.2 with ⟨e1, e0⟩ | ⟨g, cap, cur, rfl, h1, h2, h3, h4, h5, h6⟩
  · subst e0
    exact ⟨[], .inr ⟨e1, rfl, rfl, List.eq_nil_of_length_eq_zero (by rw [h.1, Nat.zero_mul])⟩, fun y hy => by cases hy⟩
  · refine ⟨_, .inl ⟨g, cap, cur, rfl, rfl, h3, h4, h5, h6⟩, fun y hy => ?_⟩
    cases List.mem_singleton.1 hy
    exact ⟨h1, h2, rfl⟩
theorem FreshR.own {w : World} {B z n : Nat} {e : TypeId} {v : Value} {xs : List Value} {N : Boxes} (h : FreshR e z n xs v N) (hl : xs.length = n * z) (hN : ∀ y ∈ N, B ≤ y.1 ∧ w.heap[y.1]? = some y.2) : w.ownsRow B e z v n xs := by
  refine ⟨hl, ?_⟩
  rcases h with ⟨g, cap, cur, rfl, rfl, h3⟩ | ⟨rfl, rfl, rfl, rfl⟩
  · obtain ⟨k1, k2⟩ := hN _ (List.mem_singleton.2 rfl)
    exact .inr ⟨g, cap, cur, rfl, k1, k2, h3⟩
  · exact .inl ⟨rfl, rfl⟩
theorem FreshR.block {z n : Nat} {e : TypeId} {v : Value} {xs : List Value} {N : Boxes} (h : FreshR e z n xs v N) : ∀ g, v.ownBlock = some g → ∃ o, (g, o) ∈ N := by
  intro g hg
  rcases h with ⟨g', cap, cur, rfl, rfl, h3⟩ | ⟨rfl, rfl, rfl, rfl⟩
  · cases hg
    exact ⟨_, List.mem_singleton.2 rfl⟩
  · cases hg
theorem own_cells {w : World} {B z n c : Nat} {e : TypeId} {A : Option Addr} {xs : List Value} (h : w.ownsRow B e z (.slice A n c) n xs) : CellsIn w w.heap.size A xs := by
  intro hp
  rcases h.2 with ⟨e1, e2⟩ | ⟨g, cap, cur, e1, _, hg, _⟩
  · have := h.1
    rw [e2, Nat.zero_mul] at this
    omega
  · injection e1 with e1 e2 e3
    subst e1
    exact ⟨_, rfl, Row.lt (t := e) hg, fun j v hv => h.cells (g := g) rfl j v hv⟩
theorem ownR_form {w : World} {B z n : Nat} {e : TypeId} {v : Value} {xs : List Value} (h : w.ownsRow B e z v n xs) : ∃ A c, v = .slice A n c ∧ n ≤ c ∧ c ≤ maxLen := by
  rcases h.2 with ⟨rfl, e⟩ | ⟨g, cap, cur, rfl, _, _, h1, h2, _⟩
  · exact ⟨none, 0, by rw [e], by omega, Nat.zero_le _⟩
  · exact ⟨_, cap, rfl, h1, h2⟩
/-- a call that hands back a new row -/
theorem callsR_fresh {f : FuncId} {args : Array Value} {u : World} {e : TypeId} {z n : Nat} {xs : List Value} (h : Calls Tryd.prog f args u fun en w' => (∃ v, en = .returned v ∧ w'.ownsRow u.heap.size e z v n xs) ∧ Below u.heap.size u w') :
    Calls Tryd.prog f args u fun en w'' => ∃ x N, en = .returned x ∧ FreshR e z n xs x N ∧ Below u.heap.size u w'' ∧ ∀ y ∈ N, u.heap.size ≤ y.1 ∧ w''.heap[y.1]? = some y.2 :=
  h.mono fun en w' ⟨⟨v, he, hv⟩, hb⟩ => by
    obtain ⟨N, hF, hN⟩ := fresh_of_own hv
    exact ⟨v, N, he, hF, hb, fun y hy => ⟨(hN y hy).1, (hN y hy).2.1⟩⟩
section
variable {st e : TypeId} {z bytes : Nat} {zero : Value}
theorem appendR (T : ElemT st e z bytes zero) {w : World} {B n : Nat} {v : Value} {xs : List Value} (h : w.ownsRow B e z v n xs) {ys : List Value} {ad : Addr} {m c : Nat} (hy : ys.length = m * z) (hc : ∀ j u, ys[j]? = some u → w.cell? (ad.add j) = some u) (h1 : ∀ u ∈ ys, u.oneCell' = true) (hs : n + m ≤ 2000000) (hB : B ≤ w.heap.size) :
    ∃ v' w', (Builtin.append_ #[st, st] st #[v, .slice (some ad) m c]).run Tryd.prog w = .ok v' w' ∧ w'.ownsRow B e z v' (n + m) (xs ++ ys) ∧ w.grownBy w' v.ownBlock ∧ (v'.ownBlock = v.ownBlock ∨ v'.ownBlock = some w.heap.size) := by
  cases hq : Tryd.prog.info? e with
  | none => have := T.info; rw [hq] at this; cases this
  | some i =>
    have hi := T.info
    rw [hq] at hi
    simp only [Option.map_some, Option.some.injEq, Prod.mk.injEq] at hi
    obtain ⟨k1, k2, k3⟩ := hi
    have hsm := T.small
    have hmul : (n + m) * bytes ≤ 2000000 * 1000 := Nat.mul_le_mul hs hsm
    obtain ⟨v', w', hrun, hown', hg, _, ho⟩ := run_append_own_at (P := Tryd.prog) w B st st e i zero z bytes T.und hq k1 k2 k3 T.zs T.pos v n xs h ad m c ys hy hc h1 (by unfold maxLen; omega) (by omega) hB
    exact ⟨v', w', hrun, hown', hg, ho⟩
/-- a literal of one element -/
def BuiltR (e : TypeId) (ys : List Value) (v : Value) (N : Boxes) : Prop := ∃ g, v = .slice (some ⟨g, 0, none⟩) 1 1 ∧ N = [(g, Obj.cells ys.toArray e (0, 0))]
theorem run_buildR (T : ElemT st e z bytes zero) (ys : List Value) (hy : ys.length = z) (h1 : ∀ u ∈ ys, u.oneCell' = true) (u : World) : (Instr.buildSlice st 1 #[(0, .agg ys.toArray)]).run Tryd.prog u = .ok (.slice (some ⟨u.heap.size, 0, none⟩) 1 1) (u.alloc (.cells ys.toArray e)) := by
  cases hq : Tryd.prog.info? e with
  | none => have := T.info; rw [hq] at this; cases this
  | some i =>
    have hi := T.info
    rw [hq] at hi
    simp only [Option.map_some, Option.some.injEq, Prod.mk.injEq] at hi
    obtain ⟨k1, k2, k3⟩ := hi
    have hsm := T.small
    have hsz2 := T.smallz
    have hpz := T.pos
    refine run_buildSlice u st e 1 _ ys.toArray i zero T.und hq k1 (by omega) (by omega) ?_
    have hsz : (Value.agg ys.toArray).cells.size = z := by simp [Value.cells, hy]
    rw [k2]
    have hf := Great.fill_whole (s := z) T.pos [.agg ys.toArray] ((Array.range (1 * z)).map (zero.cells[· % zero.cells.size]!)) (by intro v hv; cases List.mem_singleton.1 hv; exact hsz) (by simp)
    simpa [Value.cells] using hf
theorem FAt_buildR (T : ElemT st e z bytes zero) {ys : List Value} (hy : ys.length = z) (h1 : ∀ u ∈ ys, u.oneCell' = true) {a : Act} {dst : Option Tmp} {x : Operand} {ty : TypeId} {pos : String} {after : Array Edge} {gd : Option (Nat × Bool)} (hx : a.eval x = .agg ys.toArray) (u : World) :
    FAt Tryd.prog ⟨dst, .buildSlice st 1 #[(0, x)], ty, pos, after, gd⟩ a (BuiltR e ys) u := by
  unfold FAt execOp
  simp only [List.map_toArray, List.map_cons, List.map_nil, hx, Sem.run_bind, Sem.run_pure, run_buildR T ys hy h1 u, Result.andThen_ok]
  refine ⟨(Below.refl _ _).alloc (Nat.le_refl _) _, _, ⟨_, rfl, rfl⟩, fun y hy => ?_⟩
  cases List.mem_singleton.1 hy
  exact ⟨Nat.le_refl _, heap_alloc_new u _⟩
/-- an append of one element in a region over boxes: what it leaves -/
def GrownR (w0 : World) (e : TypeId) (z n : Nat) (xs : List Value) (M0 : Boxes) (v : Value) (M' : Boxes) : Prop := ∃ N, M' = N ++ M0 ∧ FreshR e z n xs v N ∧ freshN w0 N M0
theorem appR_op (T : ElemT st e z bytes zero) {w0 u : World} {M : Boxes} (M0 : Boxes) {N : Boxes} {n m c : Nat} {xs : List Value} {v : Value} {ys : List Value} {g : Nat} {t : TypeId} {a : Act} {dst : Option Tmp} {y x : Operand} {pos : String} {after : Array Edge} {gd : Option (Nat × Bool)}
    (hu : EnvX w0 u M) (hl : xs.length = n * z) (hy : ys.length = m * z) (h1 : ∀ u ∈ ys, u.oneCell' = true) (hF : FreshR e z n xs v N) (hN : ∀ y ∈ N, y ∈ M ∧ w0.heap.size ≤ y.1) (hg : (g, Obj.cells ys.toArray t (0, 0)) ∈ M) (hM0 : ∀ z ∈ M0, z ∈ M ∧ ∀ y ∈ N, z.1 ≠ y.1) (hs : n + m ≤ 2000000)
    (hyv : a.eval y = v) (hx : a.eval x = .slice (some ⟨g, 0, none⟩) m c) :
    ∃ v' u' M', (execOp a.eval ⟨dst, .call { callee := .builtin .append, args := #[y, x], argTypes := #[st, st] }, st, pos, after, gd⟩).run Tryd.prog u = .ok (.value v') u' ∧ EnvX w0 u' M' ∧ GrownR w0 e z (n + m) (xs ++ ys) M0 v' M' := by
  have hown : u.ownsRow w0.heap.size e z v n xs := hF.own hl (fun y hy => ⟨(hN y hy).2, hu.box _ _ (hN y hy).1⟩)
  have hcell : ∀ j c, ys[j]? = some c → u.cell? ((⟨g, 0, none⟩ : Addr).add j) = some c := by
    intro j c hc
    rw [Addr.add_mid, Nat.zero_add]
    exact box_cell hu hg (by simpa using hc)
  obtain ⟨v', u', hrun, hown', hgr, hob⟩ := appendR T (c := c) hown hy hcell h1 hs hu.bel.size
  obtain ⟨N', hF', hN'⟩ := fresh_of_own hown'
  refine ⟨v', u', N' ++ M0, ?_, ?_, N', rfl, hF', ?_⟩
  · unfold execOp
    simp only [resolve, invoke, builtin, Sem.run_bind, Sem.run_pure, Result.andThen_ok, List.map_toArray, List.map_cons, List.map_nil, hyv, hx, hrun]
  · have hbel : Below w0.heap.size u u' := below_of_grown hgr (fun r hr => (hown.lt r hr).1) hu.bel.size
    refine ⟨hu.bel.trans hbel, fun g' o hm => ?_⟩
    rcases List.mem_append.1 hm with e | e
    · exact (hN' _ e).2.1
    · have hin := hM0 _ e
      rw [hgr.block g' (hu.lt hin.1) (fun e2 => by
        obtain ⟨o2, ho2⟩ := hF.block g' e2.symm
        exact hin.2 _ ho2 rfl)]
      exact hu.box _ _ hin.1
  · intro y hy
    refine ⟨(hN' y hy).1, fun z hz e => ?_⟩
    have hb := (hN' y hy).2.2
    have hin := hM0 z hz
    rcases hob with h | h
    · obtain ⟨o2, ho2⟩ := hF.block y.1 (h.symm.trans hb)
      exact hin.2 _ ho2 e
    · have h1 := hu.lt (g := z.1) (o := z.2) hin.1
      have h2 : u.heap.size = y.1 := Option.some.inj (h.symm.trans hb)
      omega
/-- make([]T, 0, n) -/
theorem FAt_makeR (T : ElemT st e z bytes zero) {n : Nat} (hn : n ≤ 10000) {a : Act} {dst : Option Tmp} {x : Operand} {ty : TypeId} {pos : String} {after : Array Edge} {gd : Option (Nat × Bool)} (hx : a.eval x = .int .i64 (n : Int)) (u : World) :
    FAt Tryd.prog ⟨dst, .makeSlice st (.const (.int .i64 0)) x, ty, pos, after, gd⟩ a (fun v N => ∃ g cur, v = .slice (some ⟨g, 0, none⟩) 0 n ∧ N = [(g, Obj.cells cur e (0, 0))] ∧ cur.size = n * z) u := by
  cases hq : Tryd.prog.info? e with
  | none => have := T.info; rw [hq] at this; cases this
  | some i =>
    have hi := T.info
    rw [hq] at hi
    simp only [Option.map_some, Option.some.injEq, Prod.mk.injEq] at hi
    obtain ⟨k1, k2, k3⟩ := hi
    have hsm := T.small
    have hmul : bytes * n ≤ 1000 * 10000 := Nat.mul_le_mul hsm hn
    have hr := run_make (P := Tryd.prog) u st e i zero T.und hq k1 .i64 .i64 0 (n : Int) (by omega) (by omega) (by rw [k3, ← Int.natCast_mul]; omega) (by omega)
    have ha0 : a.eval (.const (.int .i64 0)) = .int .i64 0 := rfl
    unfold FAt execOp
    simp only [hx, ha0, Sem.run_bind, Sem.run_pure, hr, Result.andThen_ok]
    refine ⟨(Below.refl _ _).alloc (Nat.le_refl _) _, [(u.heap.size, Obj.cells (madeCells zero.cells ((n : Int).toNat * i.size)) e (0, 0))], ⟨u.heap.size, madeCells zero.cells ((n : Int).toNat * i.size), rfl, rfl, ?_⟩, fun y hy => ?_⟩
    · rw [size_madeCells, k2]
      simp
    · cases List.mem_singleton.1 hy
      exact ⟨Nat.le_refl _, heap_alloc_new u _⟩
end
open Go.ChangeShapes Go.WideShapes Go.ChangeAt Go.RowKit Go.Deep
theorem addr_add_add (a : Addr) (x y : Nat) : (a.add x).add y = a.add (x + y) := by
  unfold Addr.add
  by_cases h0 : x = 0
  · subst h0
    simp
  · by_cases h2 : y = 0
    · subst h2
      simp [h0]
    · simp [h0, h2, Nat.add_assoc]
/-- the same, told by the cells -/
theorem open_elemsC {α : Type} {ok : α → Prop} {C : α → List Value} {st e : TypeId} {z : Nat} {H : Type} {enc : TypeId × Value → H} {W : World} {fuel0 : Nat} {cs0 : List Value} {x0 : DataW H × List MemPlace}
    (hs : Tryd.prog.underlying st = some (.slice e)) (hz : Tryd.prog.cellsOf e = z) (z0 : 0 < z) (hlen : ∀ t, ok t → (C t).length = z)
    (hC : ∀ (fuel : Nat) (cs : List Value) (x : DataW H × List MemPlace), DataW.trod enc Tryd.prog W 0 (fun _ => true) true fuel e cs = some x → ∃ t, ok t ∧ cs = C t)
    (hf : DataW.trod enc Tryd.prog W 0 (fun _ => true) true fuel0 st cs0 = some x0) :
    ∃ (a : Option Addr) (n c : Nat) (l : List α), cs0 = [.slice a n c] ∧ l.length = n ∧ n ≤ c ∧ c ≤ maxLen ∧ (∀ t ∈ l, ok t) ∧ CellsIn W W.heap.size a (l.map C).flatten := by
  rcases open_slice hs hf with ⟨hcs, _⟩ | ⟨a, len, cap, m, n, D, Pl, hcs, _, hl, hm, hmm, _, hx⟩
  · exact ⟨none, 0, 0, [], hcs, rfl, Nat.le_refl _, Nat.zero_le _, (fun x h => by cases h), (fun h => absurd h (Nat.lt_irrefl 0))⟩
  · have hmc : m = cap := by simpa using hmm
    subst hmc
    have hl' : ∀ k, k ≤ len → ∃ l : List α, l.length = k ∧ (∀ t ∈ l, ok t) ∧ ∀ i, i < k → ∀ j, j < z → W.cell? ((a.add (i * z)).add j) = ((l.map C).getD i [])[j]? := by
      intro k
      induction k with
      | zero => intro _; exact ⟨[], rfl, (fun x h => by cases h), (fun i hi => absurd hi (by omega))⟩
      | succ k ih =>
        intro hk
        obtain ⟨l, h1, h2, h3⟩ := ih (by omega)
        obtain ⟨cs', g1, g2⟩ := hx k (by omega)
        rw [hz] at g1
        obtain ⟨t, ht, rfl⟩ := hC _ _ _ g2
        obtain ⟨_, _, g4⟩ := World.cells?_some g1
        refine ⟨l ++ [t], by rw [List.length_append, h1]; rfl, (fun y hy => ?_), (fun i hi j hj => ?_)⟩
        · rcases List.mem_append.1 hy with e | e
          · exact h2 y e
          · cases List.mem_singleton.1 e; exact ht
        · rw [List.map_append, List.getD_eq_getElem?_getD]
          rcases Nat.lt_or_ge i k with h' | h'
          · rw [List.getElem?_append_left (by rw [List.length_map]; omega), ← List.getD_eq_getElem?_getD]
            exact h3 i h' j hj
          · obtain rfl : i = k := by omega
            rw [List.getElem?_append_right (by rw [List.length_map]; omega), List.length_map, h1, Nat.sub_self]
            exact g4 j hj
    obtain ⟨l, h1, h2, h3⟩ := hl' len (Nat.le_refl _)
    have hR : isRows z (l.map C) := fun x hx => by
      obtain ⟨t, ht, rfl⟩ := List.mem_map.1 hx
      exact hlen t (h2 t ht)
    refine ⟨some a, len, m, l, hcs, h1, by omega, by omega, h2, ?_⟩
    intro hp
    have hfl := hR.flat_len
    rw [List.length_map, h1] at hfl
    have hpl : 0 < len := by
      rcases Nat.eq_zero_or_pos len with h0 | h0
      · rw [hfl, h0, Nat.zero_mul] at hp
        exact absurd hp (by omega)
      · exact h0
    have hlt : a.block < W.heap.size := by
      have h0 := h3 0 hpl 0 z0
      rcases Nat.lt_or_ge a.block W.heap.size with hl' | hl'
      · exact hl'
      · skip
        have hn : ((l.map C).getD 0 [])[0]? = none := by
          rw [← h0, addr_add_add, Nat.zero_mul, Nat.add_zero]
          have hb0 : (a.add 0).block = a.block := block_of_add _ _
          simp [World.cell?, hb0, Array.getElem?_eq_none hl']
        have hg : ((l.map C).getD 0 []).length = z := by
          rw [List.getD_eq_getElem?_getD, List.getElem?_eq_getElem (by rw [List.length_map]; omega)]
          exact hR _ (List.getElem_mem _)
        rw [List.getElem?_eq_none_iff] at hn
        omega
    refine ⟨a, rfl, hlt, fun j u hu => ?_⟩
    have hj : j < len * z := by
      rcases Nat.lt_or_ge j (len * z) with h' | h'
      · exact h'
      · rw [List.getElem?_eq_none (by rw [hfl]; exact h')] at hu
        cases hu
    have hi : j / z < len := Nat.div_lt_of_lt_mul (by rw [Nat.mul_comm]; exact hj)
    have hm2 : j % z < z := Nat.mod_lt _ z0
    have hj2 : (j / z) * z + j % z = j := by rw [Nat.mul_comm]; exact Nat.div_add_mod j z
    have hg := hR.flat_get (j / z) (j % z) (by rw [List.length_map]; omega) hm2
    rw [hj2] at hg
    have hc := h3 _ hi _ hm2
    rw [addr_add_add, hj2] at hc
    rw [hc, ← hg, hu]
theorem open_elems {α : Type} {ok : α → Prop} {C : α → List Value} {st e : TypeId} {z : Nat} {H : Type} {enc : TypeId × Value → H} {W : World} {base : Nat} {v : Value} {d : DataW H} {p : List MemPlace}
    (hs : Tryd.prog.underlying st = some (.slice e)) (hz : Tryd.prog.cellsOf e = z) (z0 : 0 < z) (hlen : ∀ t, ok t → (C t).length = z)
    (hC : ∀ (fuel : Nat) (cs : List Value) (x : DataW H × List MemPlace), DataW.trod enc Tryd.prog W 0 (fun _ => true) true fuel e cs = some x → ∃ t, ok t ∧ cs = C t)
    (hok : Value.okWide Tryd.prog W .any base st v) (h : DataW.Trod enc Tryd.prog W 0 (fun _ => true) true st v d p) :
    ∃ (a : Option Addr) (n c : Nat) (l : List α), v = .slice a n c ∧ l.length = n ∧ n ≤ c ∧ c ≤ maxLen ∧ (∀ t ∈ l, ok t) ∧ CellsIn W W.heap.size a (l.map C).flatten := by
  obtain ⟨a0, len, cap, rfl⟩ := okWide_slice hs hok
  obtain ⟨fuel, hf⟩ := h
  obtain ⟨a, n, c, l, h1, h2, h3, h4, h5, h6⟩ := open_elemsC hs hz z0 hlen hC hf
  exact ⟨a, n, c, l, by simpa [Value.cells] using h1, h2, h3, h4, h5, h6⟩
set_option maxRecDepth 20000 in
set_option maxHeartbeats 1000000 in
theorem shaof_any (A : Option Addr) (n c : Nat) (xss : List (List Int)) (w : World) (hl : xss.length = n) (hx : Parts w w.heap.size A xss) (hn : n ≤ 9223372036854775807) (hs : xss.flatten.length ≤ 70368744177664) (ht : Tables w) :
    Calls Tryd.prog 42 #[.slice A n c] w fun e w' => e = .returned (.agg (arrB 32 (sumL xss.flatten))) ∧ Below w.heap.size w w' := by
  have HL := Lib.hid hl
  have HX := Lib.hid hx
  clear hl hx
  go_enter Tryd.func42, Tryd.ntmps42
  go_wp2_with fail
  go_loopw [3, 8] (fun v i u => ∃ k : Nat, k ≤ n ∧ i = .int .i64 k ∧ Below w.heap.size w u ∧ Hid (Row u w.heap.size 40 (arrB 32 []) ∧ u.ownsRow (w.heap.size + 1) 5 1 v (xss.take k).flatten.length ((xss.take k).flatten.map u8v))) (fun _ i _ => n - (intOf i).toNat)
  case atStart => exact ⟨0, by omega, rfl, by go_grown, Row.new w 40 _, World.ownsRow_nil _ _ _ _⟩
  case round =>
    obtain ⟨k, hk, rfl, hbl, hrows⟩ := hrel
    obtain ⟨r0, hown⟩ := hrows.out
    have s0 := r0.lt
    by_cases hlt : k < n
    · have hg := List.getElem?_eq_getElem (by rw [HL.out]; exact hlt : k < xss.length)
      have hst := Lib.hid (flat_step xss k _ hg)
      obtain ⟨b, o, a, c1, rfl, hb, hc, hy, hr⟩ := HX.out k _ hg
      have hle : (xss.take k).flatten.length + (xss[k]'(by rw [HL.out]; exact hlt)).length ≤ xss.flatten.length := by
        have e := congrArg List.length hst.out
        rw [List.length_append] at e
        have h2 : (xss.take (k + 1)).flatten.length ≤ xss.flatten.length := by
          conv => rhs; rw [← List.take_append_drop (k + 1) xss, List.flatten_append, List.length_append]
          omega
        omega
      generalize xss[k]'(by rw [HL.out]; exact hlt) = ys at *
      obtain ⟨v', w', hrun, hown', hgr⟩ := append_bytes _ _ _ _ wr hown a ys.length c1 w.heap.size ys rfl (hy.below hbl) (by omega) (by omega)
      have hcell := (hbl.cell (p := ⟨b, o + k, none⟩) hb).trans hc
      have hb2 := below_of_grown (B := w.heap.size + 1) hgr (fun g hg => (hown.lt g hg).1) (by omega)
      have R0 := Lib.hid (r0.below hb2 (by omega))
      have BB := Lib.hid (hbl.trans (hb2.mono (by omega)))
      have OO := Lib.hid hown'
      clear r0 hown hrows hg hc hy hr hgr hb2 hown' hle
      have hk2 : (k : Int) < (n : Int) := by omega
      have HRUN := Lib.hid hrun
      clear hrun
      go_wp2_with (at_builtin; (with_reducible refine wpList_append_run (o := ⟨some 14, _, _, _, _, _⟩) ?_ (.tmp 12) (.tmp 13) ?_ ?_ ?_ ?_ HRUN.out ?_); (rfl); (rfl); (rfl); (rfl); (rfl))
      go_roundw
      case rel =>
        refine ⟨k + 1, by omega, by go_num, BB.out, R0.out, ?_⟩
        rw [hst.out, List.length_append, List.map_append]
        exact OO.out
      case measure => simp [intOf]; omega
    · obtain rfl : k = n := by omega
      have hT : xss.take k = xss := List.take_of_length_le (by rw [HL.out]; exact Nat.le_refl _)
      rw [hT] at hown
      obtain ⟨A1, c1, rfl⟩ := own_form hown
      have hr : ∀ x ∈ xss.flatten, 0 ≤ x ∧ x ≤ 255 := by
        intro x hx
        obtain ⟨l, hl, hxl⟩ := List.mem_flatten.1 hx
        obtain ⟨j, hj, rfl⟩ := List.getElem_of_mem hl
        obtain ⟨_, _, _, _, _, _, _, _, hr⟩ := HX.out j _ (List.getElem?_eq_getElem hj)
        exact hr x hxl
      have hby := own_bytes hown
      have R0 := Lib.hid r0
      clear hown r0 hrows hT
      have HRR := Lib.hid hr
      have HBY := Lib.hid hby
      clear hr hby
      generalize hFL : xss.flatten = fl at *
      have HFL := Lib.hid hFL
      clear hFL
      obtain ⟨q, hq⟩ : ∃ q, fl.length = q := ⟨_, rfl⟩
      rw [hq]
      have HQ := Lib.hid hq
      have hs2 : q ≤ 70368744177664 := by omega
      clear hq
      go_wp2_with fail
      refine (sum_any A1 q c1 fl wr HQ.out hs2 HBY.out HRR.out (ht.below hbl)).mono ?_
      rintro e w3 ⟨rfl, hb3⟩
      have hsz : Hid ((arrB 32 (sumL fl)).size = 32 ∧ (arrB 32 []).size = (arrB 32 (sumL fl)).size ∧ (arrB 32 (sumL fl)).all (·.oneCell') = true) :=
        Lib.hid ⟨arrB_size _ _ (by rw [sumL_len]; omega), by rw [arrB_size 32 (sumL fl) (by rw [sumL_len]; omega), arrB_size 32 [] (by simp)], arrB_one _ _⟩
      have Q0 : Hid (w3.heap[w.heap.size]? = some (.cells (arrB 32 []) 40 (0, 0))) := R0.out.below hb3 R0.out.lt
      have bl3 : Below w.heap.size w w3 := hbl.trans (hb3.mono hbl.size)
      clear hb3 R0
      generalize hE : arrB 32 (sumL fl) = cs at *
      have HE := Lib.hid hE
      clear hE
      generalize arrB 32 [] = zs at *
      go_wp2_with (first
        | ((with_reducible refine wpList_store_row (o := ⟨none, .store 40 _ _, _, _, _, _⟩) ?_ 40 (.tmp 2) (.tmp 17) ?_ w.heap.size cs ?_ ?_ 40 zs Q0.out (info26 cs hsz.out.1) hsz.out.2.1 hsz.out.2.2 ?_); (rfl); (rfl); (rfl); (rfl))
        | ((with_reducible refine bodyPost_ret (v := .agg cs) ?_ ?_ ?_); (exact results_cell_row (p := 2) (ty := 40) Tryd.results42 _ _ w.heap.size 40 cs (0, 0) _ rfl (setRow_heap _ _ zs cs 40 (0, 0) Q0.out) Tryd.underlying40 rfl (info26 cs hsz.out.1)); (rfl)))
      exact ⟨by rw [HFL.out, HE.out], below_setRow bl3 (Nat.le_refl _) _⟩
open Go
def InW (x : Int) : Prop := 0 ≤ x ∧ x < 4294967296
theorem InW.mod (x : Int) : InW (x % 4294967296) := ⟨by omega, by omega⟩
theorem InW.getD (l : List Int) (h : ∀ x ∈ l, InW x) (i : Nat) : InW (l.getD i 0) := by
  by_cases hi : i < l.length
  · have e : l.getD i 0 = l[i] := by simp [List.getD, List.getElem?_eq_getElem hi]
    rw [e]
    exact h _ (List.getElem_mem hi)
  · have e : l.getD i 0 = 0 := by simp [List.getD, List.getElem?_eq_none (by omega : l.length ≤ i)]
    rw [e]
    exact ⟨by omega, by omega⟩
structure S8.In (s : S8) : Prop where
  a : InW s.a
  b : InW s.b
  c : InW s.c
  d : InW s.d
  e : InW s.e
  f : InW s.f
  g : InW s.g
  h : InW s.h
theorem S8.In.step {s : S8} (h : s.In) (k x : Int) : (s.step k x).In := ⟨InW.mod _, h.a, h.b, h.c, InW.mod _, h.e, h.f, h.g⟩
theorem S8.In.add (s t : S8) : (s.add t).In := ⟨InW.mod _, InW.mod _, InW.mod _, InW.mod _, InW.mod _, InW.mod _, InW.mod _, InW.mod _⟩
/-- What stays in the rounds: the words at first, the numbers, the words of the bytes. -/
structure Keep (w : World) (hcs : Array Value) (gh gk : Nat) (ws : List Int) (gw : Nat) (u : World) : Prop where
  b : Below w.heap.size w u
  h : Row u gh 87 hcs
  k : Row u gk 87 (roundNs.map u32v).toArray
  w : ∀ i, i < 64 → u.cell? ⟨gw, i, none⟩ = some (.int .u32 (ws.getD i 0))
  lw : gw < u.heap.size
theorem Keep.drewN {w : World} {s : Array Value} {gh gk : Nat} {ws : List Int} {gw : Nat} {u : World} (h : Keep w s gh gk ws gw u) (n : Nat) : Keep w s gh gk ws gw (u.drewN n) := ⟨below_drewN h.b n, h.h, h.k, h.w, h.lw⟩
theorem Keep.below {w : World} {s : Array Value} {gh gk : Nat} {ws : List Int} {gw : Nat} {u x : World} (h : Keep w s gh gk ws gw u) (hb : Below u.heap.size u x) : Keep w s gh gk ws gw x :=
  ⟨h.b.trans (hb.mono h.b.size), h.h.below hb h.h.lt, h.k.below hb h.k.lt, fun i hi => (hb.cell (p := ⟨gw, i, none⟩) h.lw).trans (h.w i hi), Nat.lt_of_lt_of_le h.lw hb.size⟩
/-- A slice of eight words that lies above a mark, in a block of its own. -/
def V8 (B : Nat) (v : Value) (st : S8) (u : World) : Prop := ∃ g cap cur, v = .slice (some ⟨g, 0, none⟩) 8 cap ∧ B ≤ g ∧ Row u g 87 cur ∧ ∀ i, i < 8 → cur[i]? = some (.int .u32 (st.get i))
theorem S8.In.get {s : S8} (h : s.In) (k : Nat) (hk : k < 8) : InW (s.get k) := by
  rcases k with _ | _ | _ | _ | _ | _ | _ | _ | k
  · exact h.a
  · exact h.b
  · exact h.c
  · exact h.d
  · exact h.e
  · exact h.f
  · exact h.g
  · exact h.h
  · omega
theorem V8.below {B : Nat} {v : Value} {st : S8} {u x : World} (h : V8 B v st u) (hb : Below u.heap.size u x) : V8 B v st x := by
  obtain ⟨g, cap, cur, e, hg, hr, hc⟩ := h
  exact ⟨g, cap, cur, e, hg, hr.below hb hr.lt, hc⟩
theorem V8.mono {B B' : Nat} {v : Value} {st : S8} {u : World} (h : V8 B v st u) (hB : B' ≤ B) : V8 B' v st u := by
  obtain ⟨g, cap, cur, e, hg, hr, hc⟩ := h
  exact ⟨g, cap, cur, e, by omega, hr, hc⟩
/-- What stays while the reference sums: what bytes became, the place of the answer. -/
structure Sums (w : World) (v : Value) (m : Nat) (pp : List Int) (u : World) : Prop where
  b : Below w.heap.size w u
  z : Row u w.heap.size 40 (arrB 32 [])
  p : u.ownsRow (w.heap.size + 1) 5 1 v m (pp.map u8v)
theorem Sums.below {w : World} {v : Value} {m : Nat} {pp : List Int} {u x : World} (h : Sums w v m pp u) (hb : Below u.heap.size u x) : Sums w v m pp x :=
  ⟨h.b.trans (hb.mono h.b.size), h.z.below hb h.z.lt, own_below h.p hb⟩
end Go.Proofs.YtabhhbdbkeeblaaDoor
