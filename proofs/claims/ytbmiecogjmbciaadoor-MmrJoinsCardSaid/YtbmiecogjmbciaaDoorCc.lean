/- Part of a proof. -/
import Derived.Test.YtbmiecogjmbciaaDoorCb
import Derived.Great.BuildSlice
import Derived.Maps.AppendAt
import Derived.Laws.MakeOwn
import Derived.Laws.Cells
import Derived.WalkKit
import Derived.ProofKit
import Derived.OpenShut
import Derived.Deep.DeepHandedRow
import Derived.Deep.Slices
import Derived.Test.YtbmiecogjmbciaaDoorProg
import Derived.Handy
import Derived.Laws.Externs
import Derived.Laws.BitsAllLaws
import Derived.Deep.WholeRow
import Derived.Deep.Cut
import Derived.Deep.QuietTactic
import Derived.BigQuiet
import Derived.StillTailTactics
import Derived.Lib.Hide
import Derived.Deep.RegionHeld3
import Derived.Deep.DrawnRows
import Derived.RegionTactic
namespace Go.Proofs.YtbmiecogjmbciaaDoor
set_option maxRecDepth 8000
open Go.RowKit

section
variable {P : Program} {ops : Array Oper} {md : Region.Mode} {w0 : World}
abbrev Boxes := List (Nat × Obj)
/-- what an operation that makes memory yields: a value, and the new boxes -/
def FUpon (P : Program) (u : World) (R : Value → Boxes → Prop) : Result Next → Prop
  | .ok (.value x) u' => Below u.heap.size u u' ∧ ∃ N, R x N ∧ ∀ y ∈ N, u.heap.size ≤ y.1 ∧ u'.heap[y.1]? = some y.2
  | .ok (.enter f args) u' => u' = u ∧ Calls P f args u (fun e w'' => ∃ x N, e = .returned x ∧ R x N ∧ Below u.heap.size u w'' ∧ ∀ y ∈ N, u.heap.size ≤ y.1 ∧ w''.heap[y.1]? = some y.2)
  | _ => False
/-- what an operation that turns boxes (an append to one's own, a store at a place, a call of a closure) yields: a value, and the boxes behind it -/
def OUpon (P : Program) (w0 : World) (R : Value → Boxes → Prop) : Result Next → Prop
  | .ok (.value x) u' => ∃ M', EnvX w0 u' M' ∧ R x M'
  | .ok .skip u' => ∃ M', EnvX w0 u' M' ∧ R undef M'
  | .ok (.enter f args) u' => Calls P f args u' (fun e w'' => ∃ x M', e = .returned x ∧ EnvX w0 w'' M' ∧ R x M')
  | _ => False
def FAt (P : Program) (o : Oper) (a : Act) (R : Value → Boxes → Prop) (u : World) : Prop := FUpon P u R ((execOp a.eval o).run P u)
def freshN (w0 : World) (N M : Boxes) : Prop := ∀ y ∈ N, w0.heap.size ≤ y.1 ∧ ∀ z ∈ M, z.1 ≠ y.1

/-- One operation, over boxes that are known. -/
def hOp (P : Program) (ops : Array Oper) (w0 : World) (i : Nat) (K : Act → Boxes → Prop) (a : Act) (M : Boxes) : Prop :=
  match ops[i]? with
  | none => K a M
  | some o => if Region.wanted o (yielded ops a.tmps) then
      ((∃ v M0, (∀ x ∈ M0, x ∈ M) ∧ (∀ u, EnvX w0 u M0 → GAt P o a v u) ∧ K (a.put o.dst v) M) ∨
       (∃ R M0, (∀ x ∈ M0, x ∈ M) ∧ (∀ u, EnvX w0 u M0 → FAt P o a R u) ∧ ∀ x N, R x N → freshN w0 N M → (∃ u, EnvX w0 u (N ++ M)) → K (a.put o.dst x) (N ++ M)) ∨
       (storeB o = true ∧ ∃ g old cs t M', w0.heap.size ≤ g ∧ (g, Obj.cells old t (0, 0)) ∈ M ∧ PutAt P o a g old cs t ∧ (∀ x ∈ M', x = (g, Obj.cells cs t (0, 0)) ∨ (x ∈ M ∧ x.1 ≠ g)) ∧ ((∃ u, EnvX w0 u M') → K (a.put o.dst undef) M')) ∨
       (storeB o = true ∧ ∃ R : Value → Boxes → Prop, (∀ u, EnvX w0 u M → OUpon P w0 R ((execOp a.eval o).run P u)) ∧ ∀ x M', R x M' → (∃ u, EnvX w0 u M') → K (a.put o.dst x) M'))
    else K (a.put o.dst undef) M
def anyH (P : Program) (md : Region.Mode) (ops : Array Oper) (w0 : World) (Q : Act → Boxes → Prop) : Nat → Array Bool → Act → Boxes → Prop
  | 0, listed, a, M => Region.ready md ops listed = [] ∧ Q a M
  | f + 1, listed, a, M => (Region.ready md ops listed = [] → Q a M) ∧ ∀ i ∈ Region.ready md ops listed, hOp P ops w0 i (anyH P md ops w0 Q f (listed.setIfInBounds i true)) a M

theorem EnvX.app {w u v : World} {l N : Boxes} (h : EnvX w u l) (hb : Below u.heap.size u v) (hN : ∀ y ∈ N, u.heap.size ≤ y.1 ∧ v.heap[y.1]? = some y.2) : EnvX w v (N ++ l) := by
  have h1 := h.below hb
  refine ⟨h1.bel, fun g o hm => ?_⟩
  rcases List.mem_append.1 hm with e | e
  · exact (hN _ e).2
  · exact h1.box g o e
theorem freshN_of {w u : World} {l N : Boxes} (h : EnvX w u l) (hN : ∀ y ∈ N, u.heap.size ≤ y.1) : freshN w N l := fun y hy =>
  ⟨Nat.le_trans h.bel.size (hN y hy), fun z hz e => by
    have h1 := h.lt (g := z.1) (o := z.2) hz
    have h2 := hN y hy
    omega⟩
theorem wpOp_of_hOp {i : Nat} {a : Act} {M : Boxes} {K : Act → Boxes → Prop} {K' : Act → World → Prop} {Q' : Exit → Act → World → Prop} {u : World}
    (hu : EnvX w0 u M) (h : ∀ a M u, EnvX w0 u M → K a M → K' a u) (hh : hOp P ops w0 i K a M) : wpOp P ops Q' i K' a u := by
  unfold hOp at hh
  unfold wpOp
  split
  · rename_i ho; simp only [ho] at hh; exact h _ _ _ hu hh
  · rename_i o ho
    simp only [ho] at hh
    split
    · rename_i hw
      simp only [hw, if_true] at hh
      refine .inl ?_
      rcases hh with ⟨v, M0, hM0, hv, hK⟩ | ⟨R, M0, hM0, hv, hK⟩ | ⟨_, g, old, cs, t, M', hg, hm, hp, hM', hK⟩ | ⟨_, R, hv, hK⟩
      · have h3 := hv u (hu.sub hM0)
        unfold GAt at h3
        unfold Oper.wp
        generalize (execOp a.eval o).run P u = r at *
        cases r with
        | ok n w' =>
          cases n <;> simp only [GUpon] at h3 <;> simp only [Oper.upon]
          case value x =>
            obtain ⟨e1, e2⟩ := h3
            rw [e1, e2]
            exact h _ _ _ hu hK
          case skip =>
            obtain ⟨e1, e2⟩ := h3
            rw [e1, ← e2]
            exact h _ _ _ hu hK
          case enter f args =>
            obtain ⟨e1, hc⟩ := h3
            rw [e1]
            exact hc.mono fun e w'' ⟨he, hb⟩ => by subst he; exact h _ _ _ (hu.below hb) hK
        | halt x w' => simp only [GUpon] at h3
      · have h3 := hv u (hu.sub hM0)
        unfold FAt at h3
        unfold Oper.wp
        generalize (execOp a.eval o).run P u = r at *
        cases r with
        | ok n w' =>
          cases n <;> simp only [FUpon] at h3 <;> simp only [Oper.upon]
          case value x =>
            obtain ⟨hb, N, hR, hN⟩ := h3
            have hE := hu.app hb hN
            exact h _ _ _ hE (hK x N hR (freshN_of hu (fun y hy => (hN y hy).1)) ⟨_, hE⟩)
          case enter f args =>
            obtain ⟨e1, hc⟩ := h3
            rw [e1]
            exact hc.mono fun e w'' ⟨x, N, he, hR, hb, hN⟩ => by
              subst he
              have hE := hu.app hb hN
              exact h _ _ _ hE (hK x N hR (freshN_of hu (fun y hy => (hN y hy).1)) ⟨_, hE⟩)
        | halt x w' => simp only [FUpon] at h3
      · unfold Oper.wp
        rw [hp u (hu.box g _ hm)]
        simp only [Oper.upon]
        have hE := hu.put hg hm hM'
        exact h _ _ _ hE (hK ⟨_, hE⟩)
      · have h3 := hv u hu
        unfold Oper.wp
        generalize (execOp a.eval o).run P u = r at *
        cases r with
        | ok n w' =>
          cases n <;> simp only [OUpon] at h3 <;> simp only [Oper.upon]
          case value x =>
            obtain ⟨M', hE, hR⟩ := h3
            exact h _ _ _ hE (hK x M' hR ⟨_, hE⟩)
          case skip =>
            obtain ⟨M', hE, hR⟩ := h3
            exact h _ _ _ hE (hK undef M' hR ⟨_, hE⟩)
          case enter f args =>
            exact h3.mono fun e w'' ⟨x, M', he, hE, hR⟩ => by
              subst he
              exact h _ _ _ hE (hK x M' hR ⟨_, hE⟩)
        | halt x w' => simp only [OUpon] at h3
    · rename_i hw; simp only [hw] at hh; exact h _ _ _ hu hh
theorem wpAny_of_H {Q : Act → Boxes → Prop} {Q' : Exit → Act → World → Prop} (hQ : ∀ a M u, EnvX w0 u M → Q a M → Q' .normal a u) :
    ∀ (f : Nat) (listed : Array Bool) (a : Act) (M : Boxes) (u : World), EnvX w0 u M → anyH P md ops w0 Q f listed a M → wpAny P md ops Q' f listed a u
  | 0, _, _, _, _, hu, h => ⟨h.1, hQ _ _ _ hu h.2⟩
  | f + 1, _, _, _, _, hu, h => ⟨fun h0 => hQ _ _ _ hu (h.1 h0), fun i hi => wpOp_of_hOp hu (fun a' M' u' hu' => wpAny_of_H hQ f _ a' M' u' hu') (h.2 i hi)⟩

/-- operation i yields v now, over the boxes M0 (none: wherever) -/
def YieldsH (P : Program) (ops : Array Oper) (w0 : World) (M0 : Boxes) (o : Oper) (v : Value) (a : Act) : Prop :=
  (Region.wanted o (yielded ops a.tmps) = true ∧ ∀ u, EnvX w0 u M0 → GAt P o a v u) ∨
  (Region.wanted o (yielded ops a.tmps) = false ∧ v = undef)
theorem YieldsH.hOp {i : Nat} {o : Oper} {v : Value} {a : Act} {M0 M : Boxes} (hi : ops[i]? = some o) (hM : ∀ x ∈ M0, x ∈ M) (hy : YieldsH P ops w0 M0 o v a) {K : Act → Boxes → Prop} (h : K (a.put o.dst v) M) : hOp P ops w0 i K a M := by
  unfold Go.Proofs.YtbmiecogjmbciaaDoor.hOp
  simp only [hi]
  rcases hy with ⟨hw, hv⟩ | ⟨hw, rfl⟩
  · simp only [hw, if_true]; exact .inl ⟨v, M0, hM, hv, h⟩
  · simp only [hw, Bool.false_eq_true, if_false]; exact h
theorem YieldsH.of_same {o : Oper} {v : Value} {a a' : Act} {M0 : Boxes} (hy : YieldsH P ops w0 M0 o v a) (he : execOp a'.eval o = execOp a.eval o)
    (hw : Region.wanted o (yielded ops a'.tmps) = Region.wanted o (yielded ops a.tmps)) : YieldsH P ops w0 M0 o v a' := by
  unfold YieldsH GAt at *
  rw [he, hw]
  exact hy
theorem hOp_mono {i : Nat} {a : Act} {M : Boxes} {K K' : Act → Boxes → Prop} (h : ∀ a M, K a M → K' a M) (hh : hOp P ops w0 i K a M) : hOp P ops w0 i K' a M := by
  unfold hOp at *
  split
  · exact h _ _ (by simpa [*] using hh)
  · rename_i o ho
    simp only [ho] at hh
    split
    · rename_i hw
      simp only [hw, if_true] at hh
      rcases hh with ⟨v, M0, hM0, hv, hK⟩ | ⟨R, M0, hM0, hv, hK⟩ | ⟨hs, g, old, cs, t, M', hg, hm, hp, hM', hK⟩ | ⟨hs, R, hv, hK⟩
      · exact .inl ⟨v, M0, hM0, hv, h _ _ hK⟩
      · exact .inr (.inl ⟨R, M0, hM0, hv, fun x N hR hf hE => h _ _ (hK x N hR hf hE)⟩)
      · exact .inr (.inr (.inl ⟨hs, g, old, cs, t, M', hg, hm, hp, hM', fun hE => h _ _ (hK hE)⟩))
      · exact .inr (.inr (.inr ⟨hs, R, hv, fun x M' hR hE => h _ _ (hK x M' hR hE)⟩))
    · rename_i hw; simp only [hw] at hh; exact h _ _ hh
theorem hOp_put {j : Nat} {oi oj : Oper} {v : Value} {M0 M : Boxes} (hj : ops[j]? = some oj) (hap : oi.apart ops oj = true)
    (hsi : ∀ cs b, oi.op ≠ .select cs b) (hsj : ∀ cs b, oj.op ≠ .select cs b) {K : Act → Boxes → Prop} {a : Act}
    (hy : YieldsH P ops w0 M0 oi v a) (hM : ∀ x ∈ M0, x ∈ M) (hst : storeB oj = true → M0 = []) (h : hOp P ops w0 j K (a.put oi.dst v) M) :
    hOp P ops w0 j (fun a' M' => YieldsH P ops w0 M0 oi v a' ∧ (∀ x ∈ M0, x ∈ M') ∧ K (a'.put oi.dst v) M') a M := by
  obtain ⟨h1, h2, h3⟩ := Oper.apart_spec hap
  have keep : ∀ (a : Act), YieldsH P ops w0 M0 oi v a → ∀ u, YieldsH P ops w0 M0 oi v (a.put oj.dst u) := fun a hy u =>
    hy.of_same (execOp_put oi hsi a oj.dst u h3) (wanted_put oi a oj.dst u h3)
  have hex := execOp_put (ops := ops) oj hsj a oi.dst v h1
  unfold hOp at *
  simp only [hj] at *
  rw [wanted_put oj a oi.dst v h1] at h
  split
  · rename_i hw
    simp only [hw, if_true] at h
    rcases h with ⟨x, M1, hM1, hx, hK⟩ | ⟨R, M1, hM1, hx, hK⟩ | ⟨hs, g, old, cs, t, M', hg, hm, hp, hM', hK⟩ | ⟨hs, R, hx, hK⟩
    · refine .inl ⟨x, M1, hM1, ?_, keep a hy x, hM, by rw [← Act.put_comm a v x h2]; exact hK⟩
      unfold GAt at *
      rw [hex] at hx
      exact hx
    · refine .inr (.inl ⟨R, M1, hM1, ?_, fun x N hR hf hE => ⟨keep a hy _, fun y hy' => List.mem_append_right _ (hM y hy'), by rw [← Act.put_comm a v _ h2]; exact hK x N hR hf hE⟩⟩)
      unfold FAt at *
      rw [hex] at hx
      exact hx
    · refine .inr (.inr (.inl ⟨hs, g, old, cs, t, M', hg, hm, ?_, hM', fun hE => ⟨keep a hy _, by rw [hst hs]; exact fun _ h => (by cases h), by rw [← Act.put_comm a v _ h2]; exact hK hE⟩⟩))
      unfold PutAt at *
      rw [hex] at hp
      exact hp
    · refine .inr (.inr (.inr ⟨hs, R, fun u hu => ?_, fun x M' hR hE => ⟨keep a hy _, by rw [hst hs]; exact fun _ h => (by cases h), by rw [← Act.put_comm a v _ h2]; exact hK x M' hR hE⟩⟩))
      have hr := hx u hu
      rw [hex] at hr
      exact hr
  · rename_i hw
    simp only [hw] at h
    exact ⟨keep a hy _, hM, by rw [← Act.put_comm a v undef h2]; exact h⟩
theorem anyH_first {Q : Act → Boxes → Prop} {i : Nat} {oi : Oper} {v : Value} {M0 : Boxes} (hi : ops[i]? = some oi) (hsel : ∀ (j : Nat) (o : Oper) cs b, ops[j]? = some o → o.op ≠ .select cs b) :
    ∀ (fuel : Nat) (listed : Array Bool) (a : Act) (M : Boxes), closedL md ops listed → (∀ x ∈ M0, x ∈ M) →
      (∀ j oj, ops[j]? = some oj → j ≠ i → listed.getD j true = false → ancB md ops ops.size j i = true ∨ (oi.apart ops oj = true ∧ (M0 = [] ∨ storeB oj = false))) →
      i ∈ Region.ready md ops listed → YieldsH P ops w0 M0 oi v a →
      anyH P md ops w0 Q fuel (listed.setIfInBounds i true) (a.put oi.dst v) M → anyH P md ops w0 Q (fuel + 1) listed a M := by
  intro fuel
  induction fuel with
  | zero =>
    intro listed a M _ hM _ hr hy H
    refine ⟨fun h => (by rw [h] at hr; cases hr), fun j hj => ?_⟩
    by_cases hji : j = i
    · subst hji; exact hy.hOp hi hM H
    · have := ready_mono hj hji
      rw [H.1] at this
      cases this
  | succ fuel ih =>
    intro listed a M hcl hM hfree hr hy H
    refine ⟨fun h => (by rw [h] at hr; cases hr), fun j hj => ?_⟩
    by_cases hji : j = i
    · subst hji; exact hy.hOp hi hM H
    · have h1 := H.2 j (ready_mono hj hji)
      obtain ⟨hjun, oj, hoj, hall⟩ := mem_ready.1 hj
      have h0 := (mem_ready.1 hr).1
      have hno : ¬ ancB md ops ops.size j i = true := fun ha => by
        have hl := anc_listed hcl (i := i) ops.size j (fun o ho e he hb => by
          have : o = oj := Option.some.inj (ho.symm.trans hoj)
          subst this
          exact hall e he hb) ha
        rcases Nat.lt_or_ge i listed.size with h' | h'
        · simp [h'] at h0 hl; rw [h0] at hl; cases hl
        · simp [Array.getElem?_eq_none h'] at hl
      rcases hfree j oj hoj hji hjun with hf | ⟨hap, hps⟩
      · exact absurd hf hno
      · have hst : storeB oj = true → M0 = [] := fun hs => by
          rcases hps with hp' | hn
          · exact hp'
          · rw [hn] at hs; cases hs
        have h2 := hOp_put hoj hap (fun cs b => hsel i oi cs b hi) (fun cs b => hsel j oj cs b hoj) hy hM hst h1
        have hfree' : ∀ k ok, ops[k]? = some ok → k ≠ i → (listed.setIfInBounds j true).getD k true = false → ancB md ops ops.size k i = true ∨ (oi.apart ops ok = true ∧ (M0 = [] ∨ storeB ok = false)) := fun k ok hk hki hun => by
          refine hfree k ok hk hki ?_
          by_cases hjk : j = k
          · subst hjk; exact hjun
          · rw [getD_set_ne true hjk] at hun; exact hun
        refine hOp_mono (fun a' M' h3 => ih (listed.setIfInBounds j true) a' M' (closedL_set hcl hj) h3.2.1 hfree' (ready_mono hr (Ne.symm hji)) h3.1 ?_) h2
        rw [Array.setIfInBounds_comm _ _ hji]
        exact h3.2.2
/-- one phase: the quiet operations of 'ord', over the boxes L -/
theorem anyH_phase0 {Q : Act → Boxes → Prop} {l : List Oper} (hs : Region.noSelect l.toArray = true) {L : Boxes} {s0 : World} (h0 : EnvX w0 s0 L) : ∀ (ord : List Nat) (f : Nat) (listed : Array Bool) (a : Act), closedL md l.toArray listed →
    lexG md l.toArray ord listed = true → wpG0 P l (EnvC w0 L) (fun a' => anyH P md l.toArray w0 Q f (listedBy ord listed) a' L) ord a → anyH P md l.toArray w0 Q (ord.length + f) listed a L
  | [], f, listed, a, _, _, h => by simpa [wpG0, listedBy] using h
  | i :: ord, f, listed, a, hcl, hB, h => by
    simp only [lexG, Bool.and_eq_true] at hB
    obtain ⟨⟨hr, hf⟩, hB'⟩ := hB
    have hr' : i ∈ Region.ready md l.toArray listed := by simpa using hr
    unfold wpG0 at h
    cases hl : l[i]? with
    | none => simp only [hl] at h
    | some o =>
      simp only [hl] at h
      have ho : l.toArray[i]? = some o := by simpa using hl
      have hpp : (l.toArray[i]?.map pureB).getD false = pureB o := by rw [ho]; rfl
      rw [hpp] at hf
      have hlen : (i :: ord).length + f = (ord.length + f) + 1 := by simp only [List.length_cons]; omega
      rw [hlen]
      have hfr := gfree_spec ho hf
      by_cases hw : Region.wanted o (yielded l.toArray a.tmps) = true
      · simp only [hw, if_true] at h
        obtain ⟨v, hv, hK⟩ := h
        by_cases hpu : pureB o = true
        · exact anyH_first (M0 := []) ho (Region.noSelect_spec hs) _ listed a L hcl (fun _ h => by cases h) (fun j oj h1 h2 h3 => (hfr j oj h1 h2 h3).imp id (fun k => ⟨k.1, .inl rfl⟩)) hr' (.inl ⟨hw, fun u _ => pure_any hpu (hv s0 h0) u⟩)
            (anyH_phase0 hs h0 ord f _ _ (closedL_set hcl hr') hB' hK)
        · exact anyH_first (M0 := L) ho (Region.noSelect_spec hs) _ listed a L hcl (fun _ h => h) (fun j oj h1 h2 h3 => (hfr j oj h1 h2 h3).imp id (fun k => ⟨k.1, .inr (k.2.resolve_left hpu)⟩)) hr' (.inl ⟨hw, hv⟩)
            (anyH_phase0 hs h0 ord f _ _ (closedL_set hcl hr') hB' hK)
      · simp only [hw, Bool.false_eq_true, if_false] at h
        have hw' : Region.wanted o (yielded l.toArray a.tmps) = false := by simpa using hw
        exact anyH_first (M0 := []) ho (Region.noSelect_spec hs) _ listed a L hcl (fun _ h => by cases h) (fun j oj h1 h2 h3 => (hfr j oj h1 h2 h3).imp id (fun k => ⟨k.1, .inl rfl⟩)) hr' (.inr ⟨hw', rfl⟩)
            (anyH_phase0 hs h0 ord f _ _ (closedL_set hcl hr') hB' h)
/-- what has been listed is closed: as a Bool -/
def closedB (md : Region.Mode) (ops : Array Oper) (listed : Array Bool) : Bool :=
  (List.range ops.size).all fun j => !listed.getD j false || match ops[j]? with
    | some oj => oj.after.all fun e => !Region.binds md e || listed.getD e.on false
    | none => true
theorem closedL_of {listed : Array Bool} (h : closedB md ops listed = true) : closedL md ops listed := by
  intro j oj hj hl e he hb
  simp only [closedB, List.all_eq_true, List.mem_range] at h
  have h1 := h j (Array.getElem?_eq_some_iff.1 hj).1
  simp only [hl, hj, Bool.not_true, Bool.false_or] at h1
  have h2 := Array.all_eq_true_iff_forall_mem.1 h1 e he
  simpa [hb] using h2
theorem anyH_phase {Q : Act → Boxes → Prop} {l : List Oper} {F : Nat} (ord : List Nat) (f : Nat) {L : Boxes} {listed : Array Bool} {a : Act} (hF : F = ord.length + f) (h0 : ∃ u, EnvX w0 u L)
    (hB : (Region.noSelect l.toArray && closedB md l.toArray listed && lexG md l.toArray ord listed) = true)
    (h : wpG P l (EnvC w0 L) (fun a' => anyH P md l.toArray w0 Q f (listedBy ord listed) a' L) ord a) : anyH P md l.toArray w0 Q F listed a L := by
  subst hF
  simp only [Bool.and_eq_true] at hB
  obtain ⟨s0, hs0⟩ := h0
  exact anyH_phase0 hB.1.1 hs0 ord f listed a (closedL_of hB.1.2) hB.2 h.out
/-- A REGION THAT DRAWS ITS ORDER -/
theorem wp_region_H {id : Nat} {Q : Exit → Act → World → Prop} {a : Act} {w : World} {l : List Oper} (L : Boxes) (hm : P.follows .mixedOrders = true) (hE : EnvX w0 w L)
    (h : anyH P .any l.toArray w0 (fun a M => ∀ u, EnvX w0 u M → Q .normal a u) l.toArray.size (Array.replicate l.toArray.size false) a L) :
    (Code.region id l.toArray true).wp P Q a w :=
  wp_region_any hm (wpAny_of_H (w0 := w0) (Q := fun a M => ∀ u, EnvX w0 u M → Q .normal a u) (fun _ _ u hu hh => hh u hu) _ _ _ L _ hE.drew h)
/-- A PLAIN REGION, in the text's order -/
def lexH (P : Program) (ops : Array Oper) (w0 : World) (Q : Act → Boxes → Prop) : List Nat → Act → Boxes → Prop
  | [], a, M => Q a M
  | i :: rest, a, M => hOp P ops w0 i (lexH P ops w0 Q rest) a M
theorem wpOps_of_lexH {Q : Act → Boxes → Prop} {Q' : Exit → Act → World → Prop} (hQ : ∀ a M u, EnvX w0 u M → Q a M → Q' .normal a u) :
    ∀ (l : List Nat) (a : Act) (M : Boxes) (u : World), EnvX w0 u M → lexH P ops w0 Q l a M → wpOps P ops Q' l a u
  | [], _, _, _, hu, h => hQ _ _ _ hu h
  | i :: l, _, _, _, hu, h => by
    rw [wpOps_cons]
    exact wpOp_of_hOp hu (fun a' M' u' hu' => wpOps_of_lexH hQ l a' M' u' hu') h
theorem lexH_phase0 {l : List Oper} {Q : Act → Boxes → Prop} {L : Boxes} (rest : List Nat) : ∀ (ord : List Nat) (a : Act), wpG0 P l (EnvC w0 L) (fun a' => lexH P l.toArray w0 Q rest a' L) ord a → lexH P l.toArray w0 Q (ord ++ rest) a L
  | [], a, h => h
  | i :: ord, a, h => by
    unfold wpG0 at h
    show hOp P l.toArray w0 i (lexH P l.toArray w0 Q (ord ++ rest)) a L
    unfold hOp
    cases hl : l[i]? with
    | none => simp only [hl] at h
    | some o =>
      simp only [hl] at h
      have ho : l.toArray[i]? = some o := by simpa using hl
      simp only [ho]
      split
      · rename_i hw
        simp only [hw, if_true] at h
        obtain ⟨v, hv, hK⟩ := h
        exact .inl ⟨v, L, fun _ h => h, hv, lexH_phase0 rest ord _ hK⟩
      · rename_i hw
        simp only [hw] at h
        exact lexH_phase0 rest ord _ h
theorem lexH_phase {l : List Oper} {Q : Act → Boxes → Prop} {L : Boxes} (ord rest : List Nat) {a : Act} (h : wpG P l (EnvC w0 L) (fun a' => lexH P l.toArray w0 Q rest a' L) ord a) : lexH P l.toArray w0 Q (ord ++ rest) a L :=
  lexH_phase0 rest ord a h.out
theorem wp_region_Hx {id : Nat} {Q : Exit → Act → World → Prop} {a : Act} {w : World} {l : List Oper} (all : List Nat) (L : Boxes) (hr : List.range l.toArray.size = all) (hE : EnvX w0 w L)
    (h : lexH P l.toArray w0 (fun a M => ∀ u, EnvX w0 u M → Q .normal a u) all a L) : (Code.region id l.toArray false).wp P Q a w :=
  wp_region (by rw [hr]; exact wpOps_of_lexH (w0 := w0) (Q := fun a M => ∀ u, EnvX w0 u M → Q .normal a u) (fun _ _ u hu hh => hh u hu) _ a L w hE h)

section
variable {Q : Act → Boxes → Prop} {f : Nat} {listed : Array Bool} {a : Act} {M : Boxes} {K : Act → Boxes → Prop} {i : Nat} {dst : Option Tmp} {op : Op} {ty : TypeId} {pos : String} {after : Array Edge}
theorem anyH_done (hr : Region.ready md ops listed = []) (h : Q a M) : anyH P md ops w0 Q 0 listed a M := ⟨hr, h⟩
theorem anyH_one (hr : Region.ready md ops listed = [i]) (h : hOp P ops w0 i (anyH P md ops w0 Q f (listed.setIfInBounds i true)) a M) : anyH P md ops w0 Q (f + 1) listed a M :=
  ⟨(fun h0 => by rw [hr] at h0; cases h0), (fun j hj => by rw [hr] at hj; cases List.mem_singleton.1 hj; exact h)⟩
theorem anyH_two {j : Nat} (hr : Region.ready md ops listed = [i, j]) (h : hOp P ops w0 i (anyH P md ops w0 Q f (listed.setIfInBounds i true)) a M)
    (h' : hOp P ops w0 j (anyH P md ops w0 Q f (listed.setIfInBounds j true)) a M) : anyH P md ops w0 Q (f + 1) listed a M :=
  ⟨(fun h0 => by rw [hr] at h0; cases h0), (fun k hk => by
    rw [hr] at hk
    rcases List.mem_cons.1 hk with e | e
    · cases e; exact h
    · cases List.mem_singleton.1 e; exact h')⟩
/-- an operation that makes memory: the frame behind it is written out by '.move (.const x)' -/
theorem hOp_fresh {o : Oper} (R : Value → Boxes → Prop) (M0 : Boxes) (ho : ops[i]? = some o) (heq : o = ⟨dst, op, ty, pos, after, none⟩) (hM : ∀ x ∈ M0, x ∈ M) (hv : ∀ u, EnvX w0 u M0 → FAt P ⟨dst, op, ty, pos, after, none⟩ a R u)
    (h : ∀ x N, R x N → freshN w0 N M → (∃ u, EnvX w0 u (N ++ M)) → ∀ K' : Act → Prop, (∀ a', K a' (N ++ M) → K' a') → Oper.quiet P ⟨dst, .move (.const x), ty, pos, after, none⟩ a (fun _ => True) K') : hOp P ops w0 i K a M := by
  subst heq
  unfold hOp
  simp only [ho, Region.wanted, if_true]
  exact .inr (.inl ⟨R, M0, hM, hv, fun x N hR hf hE => put_told (K := fun a' => K a' (N ++ M)) w0 (h x N hR hf hE)⟩)
/-- an append to one's own: boxes as they are told by R behind it -/
theorem hOp_own {o : Oper} {gd : Option (Nat × Bool)} (R : Value → Boxes → Prop) (ho : ops[i]? = some o) (heq : o = ⟨dst, op, ty, pos, after, gd⟩) (hst : storeB o = true) (hw : Region.wanted ⟨dst, op, ty, pos, after, gd⟩ (yielded ops a.tmps) = true)
    (hv : ∀ u, EnvX w0 u M → ∃ x u' M', (execOp a.eval ⟨dst, op, ty, pos, after, gd⟩).run P u = .ok (.value x) u' ∧ EnvX w0 u' M' ∧ R x M')
    (h : ∀ x M', R x M' → (∃ u, EnvX w0 u M') → ∀ K' : Act → Prop, (∀ a', K a' M' → K' a') → Oper.quiet P ⟨dst, .move (.const x), ty, pos, after, none⟩ a (fun _ => True) K') : hOp P ops w0 i K a M := by
  subst heq
  unfold hOp
  simp only [ho, hw, if_true]
  exact .inr (.inr (.inr ⟨hst, R, fun u hu => (by
    obtain ⟨x, u', M', hr, hE⟩ := hv u hu
    rw [hr]
    exact ⟨M', hE⟩), fun x M' hR hE => put_told (K := fun a' => K a' M') w0 (h x M' hR hE)⟩))
/-- an operation that turns boxes, whatever it is -/
theorem hOp_turn {o : Oper} {gd : Option (Nat × Bool)} (R : Value → Boxes → Prop) (ho : ops[i]? = some o) (heq : o = ⟨dst, op, ty, pos, after, gd⟩) (hst : storeB o = true) (hw : Region.wanted ⟨dst, op, ty, pos, after, gd⟩ (yielded ops a.tmps) = true)
    (hv : ∀ u, EnvX w0 u M → OUpon P w0 R ((execOp a.eval ⟨dst, op, ty, pos, after, gd⟩).run P u))
    (h : ∀ x M', R x M' → (∃ u, EnvX w0 u M') → ∀ K' : Act → Prop, (∀ a', K a' M' → K' a') → Oper.quiet P ⟨dst, .move (.const x), ty, pos, after, none⟩ a (fun _ => True) K') : hOp P ops w0 i K a M := by
  subst heq
  unfold hOp
  simp only [ho, hw, if_true]
  exact .inr (.inr (.inr ⟨hst, R, hv, fun x M' hR hE => put_told (K := fun a' => K a' M') w0 (h x M' hR hE)⟩))
/-- a store at a place of a box -/
theorem hOp_storeAt {ty' : TypeId} {x y : Operand} (ho : ops[i]? = some ⟨none, .store ty' x y, ty, pos, after, none⟩)
    (g k : Nat) (v : Value) (hx : a.eval x = .pointer (some ⟨g, k, none⟩)) (hy : a.eval y = v) (hg : w0.heap.size ≤ g) (t : TypeId) (old cs : Array Value) (hm : (g, Obj.cells old t (0, 0)) ∈ M)
    (hi : (P.info? ty').map (·.size) = some v.cells.size) (hk : k + v.cells.size ≤ old.size) (h1 : v.cells.all (·.oneCell') = true) (hcs : old.toList.take k ++ v.cells.toList ++ old.toList.drop (k + v.cells.size) = cs.toList) (M' : Boxes) (hM' : ∀ x ∈ M', x = (g, Obj.cells cs t (0, 0)) ∨ (x ∈ M ∧ x.1 ≠ g))
    (h : (∃ u, EnvX w0 u M') → K (a.put none undef) M') : hOp P ops w0 i K a M := by
  unfold hOp
  simp only [ho, Region.wanted, if_true]
  refine .inr (.inr (.inl ⟨rfl, g, old, cs, t, M', hg, hm, fun u hu => ?_, hM', h⟩))
  have hst := run_storeCells_at P g k t v.cells.toList 0 old u hu (by simpa using hk) (fun z hz => (Array.all_eq_true_iff_forall_mem.1 h1) z (by simpa using hz))
  have hsv : (storeVar ty' ⟨g, k, none⟩ v).run P u = .ok () (u.setRow g cs) := by
    have e : (old.toList.take (k + 0) ++ v.cells.toList ++ old.toList.drop (k + 0 + v.cells.toList.length)).toArray = cs := by
      rw [Nat.add_zero, Array.length_toList, hcs, Array.toArray_toList]
    rw [e] at hst
    cases hq : P.info? ty' with
    | none => simp [hq] at hi
    | some i =>
      have hs : v.cells.size = i.size := by simp [hq] at hi; omega
      simp [storeVar, sizeOf, typeInfo, hq, hs, hst]
  unfold execOp
  simp only [hx, hy, Instr.storeAt, Instr.sureAddr, Sem.run_bind, Sem.run_pure, Result.andThen_ok, hsv]
theorem FAt_new {z : Obj} {o : Oper} (hz : NewAt P o a z) (u : World) : FAt P o a (fun x N => ∃ g, x = .pointer (some ⟨g, 0, none⟩) ∧ N = [(g, z)]) u := by
  unfold FAt
  rw [hz u]
  refine ⟨(Below.refl _ _).alloc (Nat.le_refl _) _, _, ⟨_, rfl, rfl⟩, fun y hy => ?_⟩
  cases List.mem_singleton.1 hy
  exact ⟨Nat.le_refl _, heap_alloc_new u z⟩
/-- a call that hands back new memory -/
theorem FAt_call {fn : Func} {c : Code} {fid : FuncId} {xs : Array Operand} {ats : Array TypeId} {args : Array Value} {R : Value → Boxes → Prop} {gd : Option (Nat × Bool)} (hargs : xs.toList.map a.eval = args.toList) (hfn : P.funcs[fid]? = some fn) (hname : (fn.name == "runtime.NumGoroutine") = false) (hb : fn.body = some c) (u : World)
    (hc : Calls P fid args u (fun e w'' => ∃ x N, e = .returned x ∧ R x N ∧ Below u.heap.size u w'' ∧ ∀ y ∈ N, u.heap.size ≤ y.1 ∧ w''.heap[y.1]? = some y.2)) :
    FAt P ⟨dst, .call { callee := .value (.func fid), args := xs, argTypes := ats }, ty, pos, after, gd⟩ a R u := by
  have hrun : (execOp a.eval ⟨dst, .call { callee := .value (.func fid), args := xs, argTypes := ats }, ty, pos, after, gd⟩).run P u = .ok (.enter fid args) u := by
    have ha : xs.map a.eval = args := by
      apply Array.ext'
      rw [Array.toList_map]
      exact hargs
    rw [execOp_call_go]
    simp only [Array.empty_append, Array.append_empty, ha]
    exact run_enter hfn hname hb _ u
  unfold FAt
  rw [hrun]
  exact ⟨rfl, hc⟩
theorem OUpon_call {fn : Func} {c : Code} {fid : FuncId} {xs : Array Operand} {ats : Array TypeId} {args : Array Value} {R : Value → Boxes → Prop} {gd : Option (Nat × Bool)} (hargs : xs.toList.map a.eval = args.toList) (hfn : P.funcs[fid]? = some fn) (hname : (fn.name == "runtime.NumGoroutine") = false) (hb : fn.body = some c) (u : World)
    (hc : Calls P fid args u (fun e w'' => ∃ x M', e = .returned x ∧ EnvX w0 w'' M' ∧ R x M')) :
    OUpon P w0 R ((execOp a.eval ⟨dst, .call { callee := .value (.func fid), args := xs, argTypes := ats }, ty, pos, after, gd⟩).run P u) := by
  have hrun : (execOp a.eval ⟨dst, .call { callee := .value (.func fid), args := xs, argTypes := ats }, ty, pos, after, gd⟩).run P u = .ok (.enter fid args) u := by
    have ha : xs.map a.eval = args := by
      apply Array.ext'
      rw [Array.toList_map]
      exact hargs
    rw [execOp_call_go]
    simp only [Array.empty_append, Array.append_empty, ha]
    exact run_enter hfn hname hb _ u
  rw [hrun]
  exact hc
/-- a store of a whole row -/
theorem hOp_store {ty' : TypeId} {x y : Operand} (ho : ops[i]? = some ⟨none, .store ty' x y, ty, pos, after, none⟩)
    (g : Nat) (cs : Array Value) (hx : a.eval x = .pointer (some ⟨g, 0, none⟩)) (hy : a.eval y = .agg cs) (hg : w0.heap.size ≤ g) (t : TypeId) (old : Array Value) (hm : (g, Obj.cells old t (0, 0)) ∈ M)
    (hi : (P.info? ty').map (·.size) = some cs.size) (hold : old.size = cs.size) (h1 : cs.all (·.oneCell') = true) (M' : Boxes) (hM' : ∀ x ∈ M', x = (g, Obj.cells cs t (0, 0)) ∨ (x ∈ M ∧ x.1 ≠ g))
    (h : (∃ u, EnvX w0 u M') → K a M') : hOp P ops w0 i K a M := by
  unfold hOp
  simp only [ho, Region.wanted, if_true]
  refine .inr (.inr (.inl ⟨rfl, g, old, cs, t, M', hg, hm, fun u hu => ?_, hM', h⟩))
  unfold execOp
  simp only [hx, hy, Instr.storeAt, Instr.sureAddr, Sem.run_bind, Sem.run_pure, Result.andThen_ok, run_storeVar_row u g t ty' old cs hu hi hold h1]
theorem hOp_perm {M M' : Boxes} (hK : ∀ a (M M' : Boxes), (∀ x, x ∈ M ↔ x ∈ M') → K a M → K a M') (hM : ∀ x, x ∈ M ↔ x ∈ M') (hh : hOp P ops w0 i K a M) : hOp P ops w0 i K a M' := by
  unfold hOp at *
  split
  · rename_i h; simp only [h] at hh; exact hK _ _ _ hM hh
  · rename_i o ho
    simp only [ho] at hh
    split
    · rename_i hw
      simp only [hw, if_true] at hh
      rcases hh with ⟨v, M0, h0, hv, h⟩ | ⟨R, M0, h0, hv, h⟩ | ⟨hs, g, old, cs, t, N, hg, hm, hp, hN, h⟩ | ⟨hs, R, hv, h⟩
      · exact .inl ⟨v, M0, fun x hx => (hM x).1 (h0 x hx), hv, hK _ _ _ hM h⟩
      · exact .inr (.inl ⟨R, M0, fun x hx => (hM x).1 (h0 x hx), hv, fun x N hR hf hE => hK _ _ _ (fun y => by simp only [List.mem_append, hM y])
          (h x N hR (fun y hy => ⟨(hf y hy).1, fun z hz => (hf y hy).2 z ((hM z).1 hz)⟩) (hE.imp fun u hu => hu.sub (fun y hy => by simp only [List.mem_append, hM y] at hy ⊢; exact hy)))⟩)
      · exact .inr (.inr (.inl ⟨hs, g, old, cs, t, N, hg, (hM _).1 hm, hp, fun x hx => (hN x hx).imp id (fun ⟨k1, k2⟩ => ⟨(hM _).1 k1, k2⟩), h⟩))
      · exact .inr (.inr (.inr ⟨hs, R, fun u hu => hv u (hu.sub fun x hx => (hM x).1 hx), h⟩))
    · rename_i hw; simp only [hw] at hh; exact hK _ _ _ hM hh
theorem anyH_perm (hQ : ∀ a (M M' : Boxes), (∀ x, x ∈ M ↔ x ∈ M') → Q a M → Q a M') : ∀ (f : Nat) (listed : Array Bool) (a : Act) (M M' : Boxes), (∀ x, x ∈ M ↔ x ∈ M') →
    anyH P md ops w0 Q f listed a M → anyH P md ops w0 Q f listed a M'
  | 0, _, _, _, _, hM, h => ⟨h.1, hQ _ _ _ hM h.2⟩
  | f + 1, _, _, _, _, hM, h => ⟨fun h0 => hQ _ _ _ hM (h.1 h0), fun i hi => hOp_perm (fun a' M1 M2 h12 h' => anyH_perm hQ f _ a' M1 M2 h12 h') hM (h.2 i hi)⟩
theorem env_perm {Q' : Exit → Act → World → Prop} (a : Act) (M M' : Boxes) (hM : ∀ x, x ∈ M ↔ x ∈ M') (h : ∀ u, EnvX w0 u M → Q' .normal a u) : ∀ u, EnvX w0 u M' → Q' .normal a u :=
  fun u hu => h u (hu.sub (fun x hx => (hM x).1 hx))
end
end
end Go.Proofs.YtbmiecogjmbciaaDoor

namespace Go.Proofs.YtbmiecogjmbciaaDoor
set_option maxRecDepth 8000
open Go.RowKit

/-- rows: each of so many cells -/
def isRows (z : Nat) (L : List (List Value)) : Prop := ∀ x ∈ L, x.length = z
theorem isRows.flat_len {z : Nat} {L : List (List Value)} (h : isRows z L) : L.flatten.length = L.length * z := by
  induction L with
  | nil => simp
  | cons x L ih =>
    rw [List.flatten_cons, List.length_append, h x (List.mem_cons_self ..), ih (fun y hy => h y (List.mem_cons_of_mem _ hy)), List.length_cons, Nat.succ_mul]
    omega
theorem isRows.flat_get {z : Nat} {L : List (List Value)} (h : isRows z L) : ∀ (i j : Nat), i < L.length → j < z → L.flatten[i * z + j]? = (L.getD i [])[j]? := by
  induction L with
  | nil => intro i j hi; simp at hi
  | cons x L ih =>
    intro i j hi hj
    have hx := h x (List.mem_cons_self ..)
    rw [List.flatten_cons]
    cases i with
    | zero =>
      rw [Nat.zero_mul, Nat.zero_add, List.getElem?_append_left (by omega)]
      rfl
    | succ i =>
      rw [List.getElem?_append_right (by rw [hx, Nat.succ_mul]; omega), hx, show (i + 1) * z + j - z = i * z + j by rw [Nat.succ_mul]; omega, ih (fun y hy => h y (List.mem_cons_of_mem _ hy)) i j (by simpa using hi) hj]
      simp
theorem isRows.get {z : Nat} {L : List (List Value)} (h : isRows z L) {i : Nat} (hi : i < L.length) : (L.getD i []).length = z := by
  rw [List.getD_eq_getElem?_getD, List.getElem?_eq_getElem hi]
  exact h _ (List.getElem_mem hi)
/-- cells that are read from a slice's address -/
def CellsIn (w : World) (B : Nat) (A : Option Addr) (xs : List Value) : Prop := 0 < xs.length → ∃ ad, A = some ad ∧ ad.block < B ∧ ∀ j v, xs[j]? = some v → w.cell? (ad.add j) = some v
theorem CellsIn.below {w w' : World} {B : Nat} {A : Option Addr} {xs : List Value} (h : CellsIn w B A xs) (hb : Below B w w') : CellsIn w' B A xs := by
  intro hp
  obtain ⟨ad, e, hlt, hc⟩ := h hp
  refine ⟨ad, e, hlt, fun j v hv => ?_⟩
  have hbl : (ad.add j).block = ad.block := by unfold Addr.add; split <;> rfl
  exact (hb.cell (p := ad.add j) (by rw [hbl]; exact hlt)).trans (hc j v hv)
theorem CellsIn.more {w : World} {B B' : Nat} {A : Option Addr} {xs : List Value} (h : CellsIn w B A xs) (hB : B ≤ B') : CellsIn w B' A xs := fun hp => by
  obtain ⟨ad, e, hlt, hc⟩ := h hp
  exact ⟨ad, e, Nat.lt_of_lt_of_le hlt hB, hc⟩
theorem CellsIn.up {w w' : World} {A : Option Addr} {xs : List Value} (h : CellsIn w w.heap.size A xs) (hb : Below w.heap.size w w') : CellsIn w' w'.heap.size A xs := (h.below hb).more hb.size
theorem add_addN (a : Addr) (l j : Nat) : (a.add l).add j = a.add (l + j) := by
  unfold Addr.add
  by_cases h : l = 0
  · simp [h]
  · by_cases h2 : j = 0
    · simp [h, h2]
    · simp [h, h2, Nat.add_assoc]
/-- an aggregate's type -/
structure AggT (ty : TypeId) (z : Nat) : Prop where
  agg : ∀ w, (isAgg ty).run Tryd.prog w = .ok true w
  size : (Tryd.prog.info? ty).map (·.size) = some z
theorem run_loadAgg {ty : TypeId} {z : Nat} (D : AggT ty z) {w : World} {ad : Addr} (xs : List Value) (hx : xs.length = z) (h : ∀ j v, xs[j]? = some v → w.cell? (ad.add j) = some v) : (loadVar ty ad).run Tryd.prog w = .ok (.agg xs.toArray) w := by
  have hc := run_loadCells_list (P := Tryd.prog) w ad xs h
  have hs := D.size
  rw [hx] at hc
  cases hq : Tryd.prog.info? ty with
  | none => rw [hq] at hs; cases hs
  | some i =>
    rw [hq] at hs
    simp only [Option.map_some, Option.some.injEq] at hs
    simp [loadVar, D.agg, sizeOf, typeInfo, hq, hs, hc]
theorem CellsIn.load {ty : TypeId} {z : Nat} (D : AggT ty z) {w : World} {B : Nat} {A : Option Addr} {L : List (List Value)} (h : CellsIn w B A L.flatten) (hL : isRows z L) (hz : 0 < z) {i : Nat} (hi : i < L.length) :
    ∃ ad, A = some ad ∧ (loadVar ty (ad.add (i * z))).run Tryd.prog w = .ok (.agg (L.getD i []).toArray) w := by
  have hfl := hL.flat_len
  have hp : 0 < L.length * z := Nat.mul_pos (by omega) hz
  obtain ⟨ad, e, _, hc⟩ := h (by omega)
  refine ⟨ad, e, run_loadAgg D _ (hL.get hi) (fun j v hv => ?_)⟩
  rw [add_addN]
  refine hc (i * z + j) v ?_
  have hj : j < z := by
    rcases Nat.lt_or_ge j z with h' | h'
    · exact h'
    · rw [List.getElem?_eq_none (by rw [hL.get hi]; exact h')] at hv
      cases hv
  rw [hL.flat_get i j hi hj]
  exact hv
/-- cells of a box, at a place -/
theorem box_cell {w0 u : World} {M : Boxes} {g k : Nat} {t : TypeId} {cs : Array Value} {v : Value} (hu : EnvC w0 M u) (hm : (g, Obj.cells cs t (0, 0)) ∈ M) (h : cs[k]? = some v) : u.cell? ⟨g, k, none⟩ = some v := by
  rw [Row.cell (EnvX.row hu hm)]
  exact h
theorem box_agg {ty : TypeId} {z : Nat} (D : AggT ty z) {w0 u : World} {M : Boxes} {g k : Nat} {t : TypeId} {cs : Array Value} (hu : EnvC w0 M u) (hm : (g, Obj.cells cs t (0, 0)) ∈ M) (xs : List Value) (hx : xs.length = z) (h : (cs.toList.drop k).take z = xs) : (loadVar ty ⟨g, k, none⟩).run Tryd.prog u = .ok (.agg xs.toArray) u := by
  refine run_loadAgg D xs hx fun j v hv => ?_
  rw [Addr.add_mid]
  refine box_cell hu hm ?_
  subst h
  have hj : j < z := by
    rcases Nat.lt_or_ge j z with h' | h'
    · exact h'
    · rw [List.getElem?_eq_none (by omega)] at hv
      cases hv
  rw [List.getElem?_take_of_lt hj, List.getElem?_drop, Array.getElem?_toList] at hv
  exact hv
section
variable {a : Act} {dst : Option Tmp} {x : Operand} {ty ty' : TypeId} {pos : String} {after : Array Edge} {gd : Option (Nat × Bool)}
theorem load_any_op {ad : Addr} {v : Value} (u : World) (hr : (loadVar ty' ad).run Tryd.prog u = .ok v u) (hx : a.eval x = .pointer (some ad)) :
    (execOp a.eval ⟨dst, .load ty' x, ty, pos, after, gd⟩).run Tryd.prog u = .ok (.value v) u := by
  unfold execOp
  simp only [hx, Instr.loadAt, Instr.sureAddr, Sem.run_bind, Sem.run_pure, Result.andThen_ok, hr]
/-- a load of one cell (an int, a slice, a function) -/
theorem run_load_one {ad : Addr} {v : Value} (ha : ∀ w, (isAgg ty').run Tryd.prog w = .ok false w) (u : World) (h : u.cell? ad = some v) : (loadVar ty' ad).run Tryd.prog u = .ok v u := by
  have h' : (load ad).run Tryd.prog u = .ok v u := by rw [run_load, h]
  simp only [loadVar, Sem.run_bind, ha, Result.andThen_ok, Bool.false_eq_true, if_false, h']
end
/-- an element's type: its slice's type, its own, its cells, its bytes -/
structure ElemT (st e : TypeId) (z bytes : Nat) (zero : Value) : Prop where
  und : Tryd.prog.underlying st = some (.slice e)
  info : (Tryd.prog.info? e).map (fun i => (i.zero, i.size, i.bytes)) = some (some zero, z, bytes)
  zs : zero.cells.size = z
  pos : 0 < z
  small : bytes ≤ 1000
  smallz : z ≤ 1000
def FreshR (e : TypeId) (z n : Nat) (xs : List Value) (x : Value) (N : Boxes) : Prop :=
  (∃ g cap cur, x = .slice (some ⟨g, 0, none⟩) n cap ∧ N = [(g, Obj.cells cur e (0, 0))] ∧ n ≤ cap ∧ cap ≤ maxLen ∧ cur.size = cap * z ∧ cur.toList.take (n * z) = xs) ∨
  (x = .slice none 0 0 ∧ N = [] ∧ n = 0 ∧ xs = [])
theorem fresh_of_own {w : World} {B z n : Nat} {e : TypeId} {v : Value} {xs : List Value} (h : w.ownsRow B e z v n xs) : ∃ N, FreshR e z n xs v N ∧ ∀ y ∈ N, B ≤ y.1 ∧ w.heap[y.1]? = some y.2 ∧ v.ownBlock = some y.1 := by
  rcases h.2 with ⟨e1, e0⟩ | ⟨g, cap, cur, rfl, h1, h2, h3, h4, h5, h6⟩
  · subst e0
    exact ⟨[], .inr ⟨e1, rfl, rfl, List.eq_nil_of_length_eq_zero (by rw [h.1, Nat.zero_mul])⟩, fun y hy => by cases hy⟩
  · refine ⟨_, .inl ⟨g, cap, cur, rfl, rfl, h3, h4, h5, h6⟩, fun y hy => ?_⟩
    cases List.mem_singleton.1 hy
    exact ⟨h1, h2, rfl⟩
theorem FreshR.own {w : World} {B z n : Nat} {e : TypeId} {v : Value} {xs : List Value} {N : Boxes} (h : FreshR e z n xs v N) (hl : xs.length = n * z) (hN : ∀ y ∈ N, B ≤ y.1 ∧ w.heap[y.1]? = some y.2) : w.ownsRow B e z v n xs := by
  refine ⟨hl, ?_⟩
  rcases h with ⟨g, cap, cur, rfl, rfl, h3⟩ | ⟨rfl, rfl, rfl, rfl⟩
  · obtain ⟨k1, k2⟩ := hN _ (List.mem_singleton.2 rfl)
    exact .inr ⟨g, cap, cur, rfl, k1, k2, h3⟩
  · exact .inl ⟨rfl, rfl⟩
theorem FreshR.block {z n : Nat} {e : TypeId} {v : Value} {xs : List Value} {N : Boxes} (h : FreshR e z n xs v N) : ∀ g, v.ownBlock = some g → ∃ o, (g, o) ∈ N := by
  intro g hg
  rcases h with ⟨g', cap, cur, rfl, rfl, h3⟩ | ⟨rfl, rfl, rfl, rfl⟩
  · cases hg
    exact ⟨_, List.mem_singleton.2 rfl⟩
  · cases hg
theorem own_cells {w : World} {B z n c : Nat} {e : TypeId} {A : Option Addr} {xs : List Value} (h : w.ownsRow B e z (.slice A n c) n xs) : CellsIn w w.heap.size A xs := by
  intro hp
  rcases h.2 with ⟨e1, e2⟩ | ⟨g, cap, cur, e1, _, hg, _⟩
  · have := h.1
    rw [e2, Nat.zero_mul] at this
    omega
  · injection e1 with e1 e2 e3
    subst e1
    exact ⟨_, rfl, Row.lt (t := e) hg, fun j v hv => h.cells (g := g) rfl j v hv⟩
theorem ownR_below {w w' : World} {B z n : Nat} {e : TypeId} {v : Value} {xs : List Value} (h : w.ownsRow B e z v n xs) (hb : Below w.heap.size w w') : w'.ownsRow B e z v n xs := by
  refine ⟨h.1, ?_⟩
  rcases h.2 with h0 | ⟨g, cap, cur, e1, hg, hh, h1⟩
  · exact .inl h0
  · exact .inr ⟨g, cap, cur, e1, hg, (hb.block g (Row.lt (t := e) hh)).trans hh, h1⟩
theorem ownR_form {w : World} {B z n : Nat} {e : TypeId} {v : Value} {xs : List Value} (h : w.ownsRow B e z v n xs) : ∃ A c, v = .slice A n c ∧ n ≤ c ∧ c ≤ maxLen := by
  rcases h.2 with ⟨rfl, e⟩ | ⟨g, cap, cur, rfl, _, _, h1, h2, _⟩
  · exact ⟨none, 0, by rw [e], by omega, Nat.zero_le _⟩
  · exact ⟨_, cap, rfl, h1, h2⟩
/-- a call that hands back a new row -/
theorem callsR_fresh {f : FuncId} {args : Array Value} {u : World} {e : TypeId} {z n : Nat} {xs : List Value} (h : Calls Tryd.prog f args u fun en w' => (∃ v, en = .returned v ∧ w'.ownsRow u.heap.size e z v n xs) ∧ Below u.heap.size u w') :
    Calls Tryd.prog f args u fun en w'' => ∃ x N, en = .returned x ∧ FreshR e z n xs x N ∧ Below u.heap.size u w'' ∧ ∀ y ∈ N, u.heap.size ≤ y.1 ∧ w''.heap[y.1]? = some y.2 :=
  h.mono fun en w' ⟨⟨v, he, hv⟩, hb⟩ => by
    obtain ⟨N, hF, hN⟩ := fresh_of_own hv
    exact ⟨v, N, he, hF, hb, fun y hy => ⟨(hN y hy).1, (hN y hy).2.1⟩⟩
section
variable {st e : TypeId} {z bytes : Nat} {zero : Value}
theorem appendR (T : ElemT st e z bytes zero) {w : World} {B n : Nat} {v : Value} {xs : List Value} (h : w.ownsRow B e z v n xs) {ys : List Value} {ad : Addr} {m c : Nat} (hy : ys.length = m * z) (hc : ∀ j u, ys[j]? = some u → w.cell? (ad.add j) = some u) (h1 : ∀ u ∈ ys, u.oneCell' = true) (hs : n + m ≤ 2000000) (hB : B ≤ w.heap.size) :
    ∃ v' w', (Builtin.append_ #[st, st] st #[v, .slice (some ad) m c]).run Tryd.prog w = .ok v' w' ∧ w'.ownsRow B e z v' (n + m) (xs ++ ys) ∧ w.grownBy w' v.ownBlock ∧ (v'.ownBlock = v.ownBlock ∨ v'.ownBlock = some w.heap.size) := by
  cases hq : Tryd.prog.info? e with
  | none => have := T.info; rw [hq] at this; cases this
  | some i =>
    have hi := T.info
    rw [hq] at hi
    simp only [Option.map_some, Option.some.injEq, Prod.mk.injEq] at hi
    obtain ⟨k1, k2, k3⟩ := hi
    have hsm := T.small
    have hmul : (n + m) * bytes ≤ 2000000 * 1000 := Nat.mul_le_mul hs hsm
    obtain ⟨v', w', hrun, hown', hg, _, ho⟩ := run_append_own_at (P := Tryd.prog) w B st st e i zero z bytes T.und hq k1 k2 k3 T.zs T.pos v n xs h ad m c ys hy hc h1 (by unfold maxLen; omega) (by omega) hB
    exact ⟨v', w', hrun, hown', hg, ho⟩
/-- a literal of one element -/
def BuiltR (e : TypeId) (ys : List Value) (v : Value) (N : Boxes) : Prop := ∃ g, v = .slice (some ⟨g, 0, none⟩) 1 1 ∧ N = [(g, Obj.cells ys.toArray e (0, 0))]
theorem run_buildR (T : ElemT st e z bytes zero) (ys : List Value) (hy : ys.length = z) (h1 : ∀ u ∈ ys, u.oneCell' = true) (u : World) : (Instr.buildSlice st 1 #[(0, .agg ys.toArray)]).run Tryd.prog u = .ok (.slice (some ⟨u.heap.size, 0, none⟩) 1 1) (u.alloc (.cells ys.toArray e)) := by
  cases hq : Tryd.prog.info? e with
  | none => have := T.info; rw [hq] at this; cases this
  | some i =>
    have hi := T.info
    rw [hq] at hi
    simp only [Option.map_some, Option.some.injEq, Prod.mk.injEq] at hi
    obtain ⟨k1, k2, k3⟩ := hi
    have hsm := T.small
    have hsz2 := T.smallz
    have hpz := T.pos
    refine run_buildSlice u st e 1 _ ys.toArray i zero T.und hq k1 (by omega) (by omega) ?_
    have hsz : (Value.agg ys.toArray).cells.size = z := by simp [Value.cells, hy]
    rw [k2]
    have hf := Great.fill_whole (s := z) T.pos [.agg ys.toArray] ((Array.range (1 * z)).map (zero.cells[· % zero.cells.size]!)) (by intro v hv; cases List.mem_singleton.1 hv; exact hsz) (by simp)
    simpa [Value.cells] using hf
theorem FAt_buildR (T : ElemT st e z bytes zero) {ys : List Value} (hy : ys.length = z) (h1 : ∀ u ∈ ys, u.oneCell' = true) {a : Act} {dst : Option Tmp} {x : Operand} {ty : TypeId} {pos : String} {after : Array Edge} {gd : Option (Nat × Bool)} (hx : a.eval x = .agg ys.toArray) (u : World) :
    FAt Tryd.prog ⟨dst, .buildSlice st 1 #[(0, x)], ty, pos, after, gd⟩ a (BuiltR e ys) u := by
  unfold FAt execOp
  simp only [List.map_toArray, List.map_cons, List.map_nil, hx, Sem.run_bind, Sem.run_pure, run_buildR T ys hy h1 u, Result.andThen_ok]
  refine ⟨(Below.refl _ _).alloc (Nat.le_refl _) _, _, ⟨_, rfl, rfl⟩, fun y hy => ?_⟩
  cases List.mem_singleton.1 hy
  exact ⟨Nat.le_refl _, heap_alloc_new u _⟩
/-- an append of one element in a region over boxes: what it leaves -/
def GrownR (w0 : World) (e : TypeId) (z n : Nat) (xs : List Value) (M0 : Boxes) (v : Value) (M' : Boxes) : Prop := ∃ N, M' = N ++ M0 ∧ FreshR e z n xs v N ∧ freshN w0 N M0
end
end Go.Proofs.YtbmiecogjmbciaaDoor

namespace Go.Proofs.YtbmiecogjmbciaaDoor
set_option maxRecDepth 8000
open Go.ChangeShapes Go.WideShapes Go.ChangeAt Go.RowKit Go.Deep

theorem addr_add_add (a : Addr) (x y : Nat) : (a.add x).add y = a.add (x + y) := by
  unfold Addr.add
  by_cases h0 : x = 0
  · subst h0
    simp
  · by_cases h2 : y = 0
    · subst h2
      simp [h0]
    · simp [h0, h2, Nat.add_assoc]
theorem open_elems {α : Type} {ok : α → Prop} {C : α → List Value} {st e : TypeId} {z : Nat} {H : Type} {enc : TypeId × Value → H} {W : World} {base : Nat} {v : Value} {d : DataW H} {p : List MemPlace}
    (hs : Tryd.prog.underlying st = some (.slice e)) (hz : Tryd.prog.cellsOf e = z) (z0 : 0 < z) (hlen : ∀ t, ok t → (C t).length = z)
    (hC : ∀ (fuel : Nat) (cs : List Value) (x : DataW H × List MemPlace), DataW.trod enc Tryd.prog W 0 (fun _ => true) true fuel e cs = some x → ∃ t, ok t ∧ cs = C t)
    (hok : Value.okWide Tryd.prog W .any base st v) (h : DataW.Trod enc Tryd.prog W 0 (fun _ => true) true st v d p) :
    ∃ (a : Option Addr) (n c : Nat) (l : List α), v = .slice a n c ∧ l.length = n ∧ n ≤ c ∧ c ≤ maxLen ∧ (∀ t ∈ l, ok t) ∧ CellsIn W W.heap.size a (l.map C).flatten := by
  obtain ⟨a0, len, cap, rfl⟩ := okWide_slice hs hok
  obtain ⟨fuel, hf⟩ := h
  rcases open_slice hs hf with ⟨hcs, _⟩ | ⟨a, len', cap', m, n, D, Pl, hcs, _, hl, hm, hmm, _, hx⟩
  · simp [Value.cells] at hcs
    obtain ⟨rfl, rfl, rfl⟩ := hcs
    exact ⟨none, 0, 0, [], rfl, rfl, Nat.le_refl _, Nat.zero_le _, (fun x h => by cases h), (fun h => absurd h (Nat.lt_irrefl 0))⟩
  · simp [Value.cells] at hcs
    obtain ⟨rfl, rfl, rfl⟩ := hcs
    have hmc : m = cap := by simpa using hmm
    subst hmc
    have hl' : ∀ k, k ≤ len → ∃ l : List α, l.length = k ∧ (∀ t ∈ l, ok t) ∧ ∀ i, i < k → ∀ j, j < z → W.cell? ((a.add (i * z)).add j) = ((l.map C).getD i [])[j]? := by
      intro k
      induction k with
      | zero => intro _; exact ⟨[], rfl, (fun x h => by cases h), (fun i hi => absurd hi (by omega))⟩
      | succ k ih =>
        intro hk
        obtain ⟨l, h1, h2, h3⟩ := ih (by omega)
        obtain ⟨cs', g1, g2⟩ := hx k (by omega)
        rw [hz] at g1
        obtain ⟨t, ht, rfl⟩ := hC _ _ _ g2
        obtain ⟨_, _, g4⟩ := World.cells?_some g1
        refine ⟨l ++ [t], by rw [List.length_append, h1]; rfl, (fun y hy => ?_), (fun i hi j hj => ?_)⟩
        · rcases List.mem_append.1 hy with e | e
          · exact h2 y e
          · cases List.mem_singleton.1 e; exact ht
        · rw [List.map_append, List.getD_eq_getElem?_getD]
          rcases Nat.lt_or_ge i k with h' | h'
          · rw [List.getElem?_append_left (by rw [List.length_map]; omega), ← List.getD_eq_getElem?_getD]
            exact h3 i h' j hj
          · obtain rfl : i = k := by omega
            rw [List.getElem?_append_right (by rw [List.length_map]; omega), List.length_map, h1, Nat.sub_self]
            exact g4 j hj
    obtain ⟨l, h1, h2, h3⟩ := hl' len (Nat.le_refl _)
    have hR : isRows z (l.map C) := fun x hx => by
      obtain ⟨t, ht, rfl⟩ := List.mem_map.1 hx
      exact hlen t (h2 t ht)
    refine ⟨some a, len, m, l, rfl, h1, by omega, by omega, h2, ?_⟩
    intro hp
    have hfl := hR.flat_len
    rw [List.length_map, h1] at hfl
    have hpl : 0 < len := by
      rcases Nat.eq_zero_or_pos len with h0 | h0
      · rw [hfl, h0, Nat.zero_mul] at hp
        exact absurd hp (by omega)
      · exact h0
    have hlt : a.block < W.heap.size := by
      have h0 := h3 0 hpl 0 z0
      rcases Nat.lt_or_ge a.block W.heap.size with hl' | hl'
      · exact hl'
      · skip
        have hn : ((l.map C).getD 0 [])[0]? = none := by
          rw [← h0, addr_add_add, Nat.zero_mul, Nat.add_zero]
          have hb0 : (a.add 0).block = a.block := block_of_add _ _
          simp [World.cell?, hb0, Array.getElem?_eq_none hl']
        have hg : ((l.map C).getD 0 []).length = z := by
          rw [List.getD_eq_getElem?_getD, List.getElem?_eq_getElem (by rw [List.length_map]; omega)]
          exact hR _ (List.getElem_mem _)
        rw [List.getElem?_eq_none_iff] at hn
        omega
    refine ⟨a, rfl, hlt, fun j u hu => ?_⟩
    have hj : j < len * z := by
      rcases Nat.lt_or_ge j (len * z) with h' | h'
      · exact h'
      · rw [List.getElem?_eq_none (by rw [hfl]; exact h')] at hu
        cases hu
    have hi : j / z < len := Nat.div_lt_of_lt_mul (by rw [Nat.mul_comm]; exact hj)
    have hm2 : j % z < z := Nat.mod_lt _ z0
    have hj2 : (j / z) * z + j % z = j := by rw [Nat.mul_comm]; exact Nat.div_add_mod j z
    have hg := hR.flat_get (j / z) (j % z) (by rw [List.length_map]; omega) hm2
    rw [hj2] at hg
    have hc := h3 _ hi _ hm2
    rw [addr_add_add, hj2] at hc
    rw [hc, ← hg, hu]
end Go.Proofs.YtbmiecogjmbciaaDoor

namespace Go.Proofs.YtbmiecogjmbciaaDoor
set_option maxRecDepth 8000

/-- the greatest power of two that is less than n (n above 1) -/
def halfGo (n : Nat) : Nat → Nat → Nat
  | 0, k => k
  | f + 1, k => if 2 * k < n then halfGo n f (2 * k) else k
def halfT (n : Nat) : Nat := halfGo n n 1
theorem halfGo_spec (n : Nat) : ∀ (f k : Nat), 1 ≤ k → k < n → n ≤ k * 2 ^ f → k ≤ halfGo n f k ∧ halfGo n f k < n ∧ n ≤ 2 * halfGo n f k ∧ ∃ e, halfGo n f k = k * 2 ^ e
  | 0, k, _, hkn, hf => by
    rw [Nat.pow_zero, Nat.mul_one] at hf
    omega
  | f + 1, k, hk, hkn, hf => by
    unfold halfGo
    by_cases h : 2 * k < n
    · rw [if_pos h]
      obtain ⟨h1, h2, h3, e, h4⟩ := halfGo_spec n f (2 * k) (by omega) h (by rw [Nat.pow_succ] at hf; rw [Nat.mul_comm 2 k, Nat.mul_assoc, Nat.mul_comm 2]; exact hf)
      exact ⟨by omega, h2, h3, e + 1, by rw [h4, Nat.pow_succ, Nat.mul_comm 2 k, Nat.mul_assoc, Nat.mul_comm 2]⟩
    · rw [if_neg h]
      exact ⟨Nat.le_refl _, hkn, by omega, 0, by simp⟩
theorem half_spec {n : Nat} (h : 2 ≤ n) : 1 ≤ halfT n ∧ halfT n < n ∧ n ≤ 2 * halfT n ∧ ∃ e, halfT n = 2 ^ e := by
  have h0 : n ≤ 1 * 2 ^ n := by rw [Nat.one_mul]; exact Nat.le_of_lt Nat.lt_two_pow_self
  obtain ⟨h1, h2, h3, e, h4⟩ := halfGo_spec n n 1 (Nat.le_refl _) (by omega) h0
  exact ⟨h1, h2, h3, e, by unfold halfT; rw [h4, Nat.one_mul]⟩
theorem pow_unique {a b n : Nat} (h1 : 2 ^ a < n) (h2 : n ≤ 2 * 2 ^ a) (h3 : 2 ^ b < n) (h4 : n ≤ 2 * 2 ^ b) : a = b := by
  have e1 : 2 * 2 ^ a = 2 ^ (a + 1) := by rw [Nat.pow_succ, Nat.mul_comm]
  have e2 : 2 * 2 ^ b = 2 ^ (b + 1) := by rw [Nat.pow_succ, Nat.mul_comm]
  rw [e1] at h2
  rw [e2] at h4
  have k1 : 2 ^ a < 2 ^ (b + 1) := Nat.lt_of_lt_of_le h1 h4
  have k2 : 2 ^ b < 2 ^ (a + 1) := Nat.lt_of_lt_of_le h3 h2
  have := (Nat.pow_lt_pow_iff_right (by decide : 1 < 2)).1 k1
  have := (Nat.pow_lt_pow_iff_right (by decide : 1 < 2)).1 k2
  omega
theorem half_unique {n e : Nat} (h1 : 2 ^ e < n) (h2 : n ≤ 2 * 2 ^ e) : halfT n = 2 ^ e := by
  have hp : 0 < 2 ^ e := Nat.pow_pos (by decide)
  obtain ⟨_, k2, k3, e', k4⟩ := half_spec (n := n) (by omega)
  rw [k4] at k2 k3 ⊢
  rw [pow_unique k2 k3 h1 h2]
/-- does the leaf stand on the left side: from the least tree on -/
def sidesF : Nat → Nat → Nat → List Bool
  | 0, _, _ => []
  | f + 1, n, i => if n ≤ 1 then [] else if i < halfT n then sidesF f (halfT n) i ++ [true] else sidesF f (n - halfT n) (i - halfT n) ++ [false]
def sidesT (n i : Nat) : List Bool := sidesF n n i
theorem sidesF_more : ∀ (f g n i : Nat), n ≤ f → n ≤ g → sidesF f n i = sidesF g n i
  | 0, 0, _, _, _, _ => rfl
  | 0, g + 1, n, i, h, _ => by
    unfold sidesF
    rw [if_pos (by omega)]
  | f + 1, 0, n, i, _, h => by
    unfold sidesF
    rw [if_pos (by omega)]
  | f + 1, g + 1, n, i, h1, h2 => by
    unfold sidesF
    by_cases h : n ≤ 1
    · rw [if_pos h, if_pos h]
    · rw [if_neg h, if_neg h]
      obtain ⟨a, b, _, _⟩ := half_spec (n := n) (by omega)
      rw [sidesF_more f g _ i (by omega) (by omega), sidesF_more f g (n - _) _ (by omega) (by omega)]
theorem sides_low {n i : Nat} (h : 2 ≤ n) (hi : i < halfT n) : sidesT n i = sidesT (halfT n) i ++ [true] := by
  obtain ⟨a, b, _, _⟩ := half_spec h
  unfold sidesT
  obtain ⟨m, rfl⟩ : ∃ m, n = m + 1 := ⟨n - 1, by omega⟩
  rw [sidesF, if_neg (by omega), if_pos hi, sidesF_more m _ _ i (by omega) (Nat.le_refl _)]
theorem sides_high {n i : Nat} (h : 2 ≤ n) (hi : ¬ i < halfT n) : sidesT n i = sidesT (n - halfT n) (i - halfT n) ++ [false] := by
  obtain ⟨a, b, _, _⟩ := half_spec h
  unfold sidesT
  obtain ⟨m, rfl⟩ : ∃ m, n = m + 1 := ⟨n - 1, by omega⟩
  rw [sidesF, if_neg (by omega), if_neg hi, sidesF_more m _ _ _ (by omega) (Nat.le_refl _)]
/-- a path is no longer than the tree is high -/
theorem sides_le : ∀ (h n i : Nat), n ≤ 2 ^ h → (sidesT n i).length ≤ h := by
  intro h
  induction h with
  | zero =>
    intro n i hn
    have e : sidesT n i = [] := by
      rw [Nat.pow_zero] at hn
      rcases n with _ | _ | n
      · rfl
      · rfl
      · omega
    rw [e]
    exact Nat.le_refl _
  | succ h ih =>
    intro n i hn
    by_cases h1 : n ≤ 1
    · have e : sidesT n i = [] := by
        rcases n with _ | _ | n
        · rfl
        · rfl
        · omega
      rw [e]
      exact Nat.zero_le _
    · obtain ⟨a, b, c, e, he⟩ := half_spec (n := n) (by omega)
      have hh : halfT n ≤ 2 ^ h := by
        rw [he] at b ⊢
        have : 2 ^ e < 2 ^ (h + 1) := Nat.lt_of_lt_of_le b hn
        have := (Nat.pow_lt_pow_iff_right (by decide : 1 < 2)).1 this
        exact Nat.pow_le_pow_right (by decide) (by omega)
      by_cases hi : i < halfT n
      · rw [sides_low (by omega) hi, List.length_append]
        have := ih _ i hh
        simp only [List.length_singleton]
        omega
      · rw [sides_high (by omega) hi, List.length_append]
        have := ih (n - halfT n) (i - halfT n) (by omega)
        simp only [List.length_singleton]
        omega
end Go.Proofs.YtbmiecogjmbciaaDoor

namespace Go.Proofs.YtbmiecogjmbciaaDoor
set_option maxRecDepth 8000
open Go.RowKit

def adc (x y c : Int) : Int := (x + y + c) % 18446744073709551616
def adk (x y c : Int) : Int := (x + y + c) / 18446744073709551616
theorem add64 (x y c : Int) (hx : 0 ≤ x) (hy : 0 ≤ y) (hc0 : 0 ≤ c) (hc : c ≤ 1) (w : World) : (callFunc 49 #[.int .u64 x, .int .u64 y, .int .u64 c]).run Tryd.prog w =
    .ok (.value (.tuple #[.int .u64 (adc x y c), .int .u64 (adk x y c)])) w := by
  rw [run_callFunc_extern Tryd.func49 (by kernel_rfl) (by kernel_rfl) (by kernel_rfl) (e := add64Entry) (by kernel_rfl), run_add64 x y c hx hy hc0 hc]
  rfl
theorem ofbyte_any (i : Int) (w : World) (h0 : 0 ≤ i) (h1 : i < 32) :
    Calls Tryd.prog 74 #[.int .i64 i] w fun e w' => e = .returned (.int .i64 (3 - i / 8)) ∧ w = w' := by
  go_enter Tryd.func74, Tryd.ntmps74
  go_wp2
  go_ret
  exact ⟨rfl, rfl⟩
theorem of_any (n : Int) (w : World) :
    Calls Tryd.prog 26 #[.int .u64 n] w fun e w' => e = .returned (.agg (arrW 4 [n, 0, 0, 0])) ∧ Below w.heap.size w w' := by
  go_enter Tryd.func26, Tryd.ntmps26
  go_wp2
  go_returns
  exact ⟨rfl, by go_grown⟩
end Go.Proofs.YtbmiecogjmbciaaDoor

namespace Go.Proofs.YtbmiecogjmbciaaDoor
set_option maxRecDepth 8000
open Go.RowKit
attribute [local go_sem ↓] Go.wp_at_zero Go.wp_at_succ

/-- the carry ahead of word k -/
def addC (xs ys : List Int) : Nat → Int
  | 0 => 0
  | k + 1 => adk (xs.getD k 0) (ys.getD k 0) (addC xs ys k)
/-- the first k words of a sum -/
def addL (xs ys : List Int) : Nat → List Int
  | 0 => []
  | k + 1 => addL xs ys k ++ [adc (xs.getD k 0) (ys.getD k 0) (addC xs ys k)]
theorem addL_len (xs ys : List Int) (k : Nat) : (addL xs ys k).length = k := by
  induction k with
  | zero => rfl
  | succ k ih => simp [addL, ih]
/-- every word of a list is one of 64 bits -/
def Words (xs : List Int) : Prop := ∀ k, 0 ≤ xs.getD k 0 ∧ xs.getD k 0 < 18446744073709551616
theorem addC_bit (xs ys : List Int) (hx : Words xs) (hy : Words ys) (k : Nat) : 0 ≤ addC xs ys k ∧ addC xs ys k ≤ 1 := by
  induction k with
  | zero => simp [addC]
  | succ k ih =>
    have := hx k
    have := hy k
    simp only [addC, adk]
    omega
theorem infoW (cs : Array Value) (h : cs.size = 4) : (Tryd.prog.info? 27).map (·.size) = some cs.size := by rw [h]; kernel_rfl

set_option maxHeartbeats 4000000 in
theorem addw_any (xs ys : List Int) (w : World) (hx : xs.length = 4) (hy : ys.length = 4) (bx : Words xs) (bY : Words ys) :
    Calls Tryd.prog 27 #[.agg (arrW 4 xs), .agg (arrW 4 ys)] w fun e w' => e = .returned (.tuple #[.agg (arrW 4 (addL xs ys 4)), .bool (addC xs ys 4 == 0)]) ∧ Below w.heap.size w w' := by
  have HX := Lib.hid hx
  have HY := Lib.hid hy
  clear hx hy
  go_enter Tryd.func27, Tryd.ntmps27
  go_wp2_with fail
  go_loopw [7, 9] (fun c i u => ∃ k : Nat, k ≤ 4 ∧ i = .int .i64 k ∧ c = .int .u64 (addC xs ys k) ∧ Below w.heap.size w u ∧ Hid (Row u w.heap.size 27 (arrW 4 xs) ∧ Row u (w.heap.size + 1) 27 (arrW 4 ys) ∧ Row u (w.heap.size + 1 + 1) 27 (arrW 4 []) ∧ Row u (w.heap.size + 1 + 1 + 1) 27 (arrW 4 (addL xs ys k)))) (fun _ i _ => 4 - (intOf i).toNat)
  case atStart => exact ⟨0, by omega, rfl, rfl, by go_grown, (((Row.new w 27 _).alloc _).alloc _).alloc _, ((Row.newAt (by simp) 27 _).alloc _).alloc _, (Row.newAt (by simp) 27 _).alloc _, Row.newAt (by simp) 27 _⟩
  case round =>
    obtain ⟨k, hk, rfl, rfl, hbl, hrows⟩ := hrel
    obtain ⟨r0, r1, r2, r3⟩ := hrows.out
    by_cases hlt : k < 4
    · have e0 : wr.cell? ⟨w.heap.size, k, none⟩ = some (.int .u64 (xs.getD k 0)) := (r0.cell k).trans (arrW_get 4 _ k (by rw [HX.out]; omega) hlt)
      have e1 : wr.cell? ⟨w.heap.size + 1, k, none⟩ = some (.int .u64 (ys.getD k 0)) := (r1.cell k).trans (arrW_get 4 _ k (by rw [HY.out]; omega) hlt)
      have e3 := (r3.cell k).trans (arrW_get 4 _ k (by rw [addL_len]; omega) hlt)
      have f3 := r3.frozen k
      have R0 := Lib.hid r0
      have R1 := Lib.hid r1
      have R2 := Lib.hid r2
      have R3 := Lib.hid r3
      have hc := addC_bit xs ys bx bY k
      have hcall := add64 (xs.getD k 0) (ys.getD k 0) (addC xs ys k) (bx k).1 (bY k).1 hc.1 hc.2
      have hput := Lib.hid (arrW_put_at 4 (addL xs ys k) (adc (xs.getD k 0) (ys.getD k 0) (addC xs ys k)) k (addL_len _ _ _) hlt)
      have hL : Hid (addL xs ys (k + 1) = addL xs ys k ++ [adc (xs.getD k 0) (ys.getD k 0) (addC xs ys k)]) := rfl
      have hC : Hid (addC xs ys (k + 1) = adk (xs.getD k 0) (ys.getD k 0) (addC xs ys k)) := rfl
      clear r0 r1 r2 r3 hrows hc
      have hk0 : (0 : Int) ≤ (k : Int) := by omega
      have hk4 : (k : Int) < 4 := by omega
      generalize xs.getD k 0 = x at *
      generalize ys.getD k 0 = y at *
      generalize addC xs ys k = c at *
      generalize adc x y c = s at *
      generalize adk x y c = d at *
      generalize (addL xs ys k).getD k 0 = z at *
      have e0' : (wr.setCell ⟨w.heap.size + 1 + 1 + 1, k, none⟩ (.int .u64 s)).cell? ⟨w.heap.size, k, none⟩ = some (.int .u64 x) := ((R0.out.farAt (by omega) _).cell k).trans ((R0.out.cell k).symm.trans e0)
      have e1' : (wr.setCell ⟨w.heap.size + 1 + 1 + 1, k, none⟩ (.int .u64 s)).cell? ⟨w.heap.size + 1, k, none⟩ = some (.int .u64 y) := ((R1.out.farAt (by omega) _).cell k).trans ((R1.out.cell k).symm.trans e1)
      go_wp2_with fail
      go_region_held3 (fun u => u.cell? ⟨w.heap.size, k, none⟩ = some (.int .u64 x) ∧ u.cell? ⟨w.heap.size + 1, k, none⟩ = some (.int .u64 y)) (first | exact ⟨e0, e1⟩ | exact ⟨e0', e1'⟩) (fail)
      clear e0' e1' hcall
      go_wp2
      go_roundw
      case rel =>
        refine ⟨k + 1, by omega, by go_num, ?_, (hbl.setCell (by simp; omega) _).drew, R0.out.farAt (by omega) _, R1.out.farAt (by omega) _, R2.out.farAt (by omega) _, ?_⟩
        · rw [hC.out]
        · rw [hL.out, ← hput.out]
          exact R3.out.put k _
      case measure => simp [intOf]; omega
    · obtain rfl : k = 4 := by omega
      have hsz := Lib.hid (arrW_size 4 (addL xs ys 4) (by rw [addL_len]; omega))
      have hz0 := Lib.hid (arrW_size 4 [] (by simp))
      have ho := Lib.hid (arrW_one 4 (addL xs ys 4))
      have R2 : Hid (wr.heap[w.heap.size + 1 + 1]? = some (.cells (arrW 4 []) 27 (0, 0))) := r2
      have R3 : Hid (wr.heap[w.heap.size + 1 + 1 + 1]? = some (.cells (arrW 4 (addL xs ys 4)) 27 (0, 0))) := r3
      clear r0 r1 r2 r3 hrows
      generalize hE : arrW 4 (addL xs ys 4) = cs at *
      have HE := Lib.hid hE
      clear hE
      generalize arrW 4 [] = zs at *
      generalize hC : addC xs ys 4 = c at *
      have HC := Lib.hid hC
      clear hC
      go_wp2_with (first
        | ((with_reducible refine wpList_load_row (o := ⟨some 26, _, _, _, _, _⟩) ?_ 27 (.tmp 6) ?_ (w.heap.size + 1 + 1 + 1) ?_ 27 cs (0, 0) _ R3.out Tryd.underlying27 ?_ (infoW cs hsz.out) ?_); (rfl); (rfl); (rfl); (rfl))
        | ((with_reducible refine wpList_store_row (o := ⟨none, .store 27 _ _, _, _, _, _⟩) ?_ 27 (.tmp 4) (.tmp 26) ?_ (w.heap.size + 1 + 1) cs ?_ ?_ 27 zs R2.out (infoW cs hsz.out) (by rw [hz0.out, hsz.out]) ho.out ?_); (rfl); (rfl); (rfl); (rfl))
        | ((with_reducible refine bodyPost_ret (v := .tuple #[.agg cs, .bool (c == 0)]) ?_ ?_ ?_); (exact results_row_slot (p := 4) (q := 5) (ty := 27) Tryd.results27 _ _ (w.heap.size + 1 + 1) 27 cs (0, 0) _ rfl _ rfl (setRow_heap _ _ zs cs 27 (0, 0) R2.out) Tryd.underlying27 rfl (infoW cs hsz.out)); (rfl)))
      exact ⟨by rw [HE.out, HC.out], below_setRow hbl (by omega) _⟩
end Go.Proofs.YtbmiecogjmbciaaDoor
