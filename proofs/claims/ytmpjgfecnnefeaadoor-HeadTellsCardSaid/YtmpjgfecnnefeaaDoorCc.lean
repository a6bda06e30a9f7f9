/- Part of a proof. -/
import Derived.Test.YtmpjgfecnnefeaaDoorCb
import Derived.StillTailTactics
import Derived.Great.BuildSlice
namespace Go.Proofs.YtmpjgfecnnefeaaDoor
set_option maxRecDepth 8000
open Go.RowKit

section
variable {P : Program} {ops : Array Oper} {md : Region.Mode} {S : World → Prop} {w0 : World}

/-- what an operation that makes no memory, or a call told by Below, yields -/
def GUpon (P : Program) (u : World) (v : Value) : Result Next → Prop
  | .ok (.value x) u' => u' = u ∧ x = v
  | .ok .skip u' => u' = u ∧ v = undef
  | .ok (.enter f args) u' => u' = u ∧ Calls P f args u (fun e w'' => e = .returned v ∧ Below u.heap.size u w'')
  | _ => False
def GAt (P : Program) (o : Oper) (a : Act) (v : Value) (u : World) : Prop := GUpon P u v ((execOp a.eval o).run P u)
/-- the same in every world -/
def pureB (o : Oper) : Bool := match o.op with | .move _ | .assign _ | .extract _ _ => true | _ => false
/-- functions that write to what they are handed -/
def turnsB (f : FuncId) : Bool := f == 99999999 || f == 99999999
def storeB (o : Oper) : Bool := match o.op with | .store _ _ _ => true | .call c => (match c.callee with | .builtin .append => true | .value (.tmp _) => true | .value (.func f) => turnsB f | _ => false) | _ => false
theorem pure_any {o : Oper} (h : pureB o = true) {a : Act} {v : Value} {u : World} (hq : GAt P o a v u) (u' : World) : GAt P o a v u' := by
  unfold GAt at *
  unfold pureB at h
  unfold execOp at *
  cases hop : o.op <;> simp only [hop] at h hq ⊢ <;> first | (cases h; done) | skip
  case move x => exact ⟨rfl, hq.2⟩
  case assign x => exact ⟨rfl, hq.2⟩
  case extract x i =>
    cases hx : a.eval x with
    | tuple vs =>
      simp only [hx, Instr.extract] at hq ⊢
      cases hv : vs[i]? with
      | none => simp only [hv] at hq; exact hq.elim
      | some y => simp only [hv] at hq ⊢; exact ⟨rfl, hq.2⟩
    | _ => simp only [hx, Instr.extract] at hq; exact hq.elim

/-- a new block of its own -/
def NewAt (P : Program) (o : Oper) (a : Act) (z : Obj) : Prop := ∀ u, (execOp a.eval o).run P u = .ok (.value (.pointer (some ⟨u.heap.size, 0, none⟩))) (u.alloc z)
/-- a store of a whole row -/
def PutAt (P : Program) (o : Oper) (a : Act) (g : Nat) (old cs : Array Value) (t : TypeId) : Prop := ∀ u, u.heap[g]? = some (.cells old t (0, 0)) → (execOp a.eval o).run P u = .ok .skip (u.setRow g cs)

/-- One operation, over boxes that are known: quiet, the same everywhere, a new block, a store. -/
def gOp (P : Program) (ops : Array Oper) (S : World → Prop) (w0 : World) (i : Nat) (K : Act → Bool → List (Nat × Obj) → Prop) (a : Act) (b : Bool) (M : List (Nat × Obj)) : Prop :=
  match ops[i]? with
  | none => K a b M
  | some o => if Region.wanted o (yielded ops a.tmps) then
      ((∃ v, ((b = true ∧ ∀ u, S u → GAt P o a v u) ∨ ∀ u, GAt P o a v u) ∧ K (a.put o.dst v) b M) ∨
       (∃ z, NewAt P o a z ∧ ∀ g, w0.heap.size ≤ g → (∀ x ∈ M, x.1 ≠ g) → K (a.put o.dst (.pointer (some ⟨g, 0, none⟩))) b ((g, z) :: M)) ∨
       (storeB o = true ∧ ∃ g old cs t M', w0.heap.size ≤ g ∧ (g, Obj.cells old t (0, 0)) ∈ M ∧ PutAt P o a g old cs t ∧ (∀ x ∈ M', x = (g, Obj.cells cs t (0, 0)) ∨ (x ∈ M ∧ x.1 ≠ g)) ∧ K (a.put o.dst undef) false M'))
    else K (a.put o.dst undef) b M
/-- whatever order is picked -/
def wpAnyG (P : Program) (md : Region.Mode) (ops : Array Oper) (S : World → Prop) (w0 : World) (Q : Act → Bool → List (Nat × Obj) → Prop) : Nat → Array Bool → Act → Bool → List (Nat × Obj) → Prop
  | 0, listed, a, b, M => Region.ready md ops listed = [] ∧ Q a b M
  | f + 1, listed, a, b, M => (Region.ready md ops listed = [] → Q a b M) ∧ ∀ i ∈ Region.ready md ops listed, gOp P ops S w0 i (wpAnyG P md ops S w0 Q f (listed.setIfInBounds i true)) a b M
/-- the worlds spoken of -/
def GT (S : World → Prop) (w0 : World) (b : Bool) (M : List (Nat × Obj)) (u : World) : Prop := (b = true → S u) ∧ EnvX w0 u M

theorem EnvX.put {w u : World} {l l' : List (Nat × Obj)} (h : EnvX w u l) {g : Nat} {old cs : Array Value} {t : TypeId} (hg : w.heap.size ≤ g) (hm : (g, Obj.cells old t (0, 0)) ∈ l)
    (hl : ∀ x ∈ l', x = (g, Obj.cells cs t (0, 0)) ∨ (x ∈ l ∧ x.1 ≠ g)) : EnvX w (u.setRow g cs) l' := by
  refine ⟨below_setRow h.bel hg _, fun k o hk => ?_⟩
  rcases hl _ hk with e | ⟨hk', hne⟩
  · cases e
    exact setRow_heap u g old cs t (0, 0) (h.box g _ hm)
  · exact (setRow_other u g k cs hne).trans (h.box k o hk')

theorem wpOp_of_gOp {i : Nat} {a : Act} {b : Bool} {M : List (Nat × Obj)} {K : Act → Bool → List (Nat × Obj) → Prop} {K' : Act → World → Prop} {Q' : Exit → Act → World → Prop} {u : World}
    (hS : ∀ u v, S u → Below u.heap.size u v → S v) (hu : GT S w0 b M u) (h : ∀ a b M u, GT S w0 b M u → K a b M → K' a u) (hh : gOp P ops S w0 i K a b M) : wpOp P ops Q' i K' a u := by
  unfold gOp at hh
  unfold wpOp
  split
  · rename_i ho; simp only [ho] at hh; exact h _ _ _ _ hu hh
  · rename_i o ho
    simp only [ho] at hh
    split
    · rename_i hw
      simp only [hw, if_true] at hh
      refine .inl ?_
      rcases hh with ⟨v, hv, hK⟩ | ⟨z, hz, hK⟩ | ⟨_, g, old, cs, t, M', hg, hm, hp, hM', hK⟩
      · have h3 : GAt P o a v u := by
          rcases hv with ⟨hb, hv⟩ | hv
          · exact hv u (hu.1 hb)
          · exact hv u
        unfold GAt at h3
        unfold Oper.wp
        generalize (execOp a.eval o).run P u = r at *
        cases r with
        | ok n w' =>
          cases n <;> simp only [GUpon] at h3 <;> simp only [Oper.upon]
          case value x =>
            obtain ⟨e1, e2⟩ := h3
            rw [e1, e2]
            exact h _ _ _ _ hu hK
          case skip =>
            obtain ⟨e1, e2⟩ := h3
            rw [e1, ← e2]
            exact h _ _ _ _ hu hK
          case enter f args =>
            obtain ⟨e1, hc⟩ := h3
            rw [e1]
            exact hc.mono fun e w'' ⟨he, hb⟩ => by subst he; exact h _ _ _ _ ⟨fun hb' => hS _ _ (hu.1 hb') hb, hu.2.below hb⟩ hK
        | halt x w' => simp only [GUpon] at h3
      · unfold Oper.wp
        rw [hz u]
        simp only [Oper.upon]
        have hfresh : ∀ x ∈ M, x.1 ≠ u.heap.size := fun x hx he => by
          have := hu.2.lt (g := x.1) (o := x.2) hx
          omega
        exact h _ _ _ _ ⟨fun hb => hS _ _ (hu.1 hb) ((Below.refl _ _).alloc (Nat.le_refl _) _), hu.2.new z⟩ (hK _ hu.2.bel.size hfresh)
      · unfold Oper.wp
        rw [hp u (hu.2.box g _ hm)]
        simp only [Oper.upon]
        exact h _ _ _ _ ⟨(fun hb => by cases hb), hu.2.put hg hm hM'⟩ hK
    · rename_i hw; simp only [hw] at hh; exact h _ _ _ _ hu hh
theorem wpAny_of_G (hS : ∀ u v, S u → Below u.heap.size u v → S v) {Q : Act → Bool → List (Nat × Obj) → Prop} {Q' : Exit → Act → World → Prop} (hQ : ∀ a b M u, GT S w0 b M u → Q a b M → Q' .normal a u) :
    ∀ (f : Nat) (listed : Array Bool) (a : Act) (b : Bool) (M : List (Nat × Obj)) (u : World), GT S w0 b M u → wpAnyG P md ops S w0 Q f listed a b M → wpAny P md ops Q' f listed a u
  | 0, _, _, _, _, _, hu, h => ⟨h.1, hQ _ _ _ _ hu h.2⟩
  | f + 1, _, _, _, _, _, hu, h => ⟨fun h0 => hQ _ _ _ _ hu (h.1 h0), fun i hi => wpOp_of_gOp hS hu (fun a' b' M' u' hu' => wpAny_of_G hS hQ f _ a' b' M' u' hu') (h.2 i hi)⟩

def ancB (md : Region.Mode) (ops : Array Oper) : Nat → Nat → Nat → Bool
  | 0, _, _ => false
  | f + 1, j, i => match ops[j]? with
    | some o => o.after.any fun e => Region.binds md e && (e.on == i || ancB md ops f e.on i)
    | none => false
def closedL (md : Region.Mode) (ops : Array Oper) (listed : Array Bool) : Prop :=
  ∀ j oj, ops[j]? = some oj → listed.getD j false = true → ∀ e ∈ oj.after, Region.binds md e = true → listed.getD e.on false = true
theorem anc_listed {listed : Array Bool} (hc : closedL md ops listed) {i : Nat} : ∀ (f j : Nat), (∀ oj, ops[j]? = some oj → ∀ e ∈ oj.after, Region.binds md e = true → listed.getD e.on false = true) → ancB md ops f j i = true → listed.getD i false = true
  | 0, _, _, h => by simp [ancB] at h
  | f + 1, j, hj, h => by
    unfold ancB at h
    split at h
    · rename_i o ho
      obtain ⟨e, he, hb⟩ := Array.any_eq_true'.1 h
      simp only [Bool.and_eq_true, Bool.or_eq_true, beq_iff_eq] at hb
      have hl := hj o ho e he hb.1
      rcases hb.2 with h1 | h1
      · rw [← h1]; exact hl
      · exact anc_listed hc f e.on (fun oj hoj e' he' hb' => hc e.on oj hoj hl e' he' hb') h1
    · cases h
theorem closedL_set {listed : Array Bool} {i : Nat} (hc : closedL md ops listed) (hi : i ∈ Region.ready md ops listed) : closedL md ops (listed.setIfInBounds i true) := by
  obtain ⟨_, oi, hoi, hall⟩ := mem_ready.1 hi
  intro j oj hj hl e he hb
  by_cases hij : i = j
  · subst hij
    have : oj = oi := Option.some.inj (hj.symm.trans hoi)
    subst this
    exact getD_set_true (hall e he hb)
  · rw [getD_set_ne false hij] at hl
    exact getD_set_true (hc j oj hj hl e he hb)

/-- operation i yields v now -/
def YieldsG (P : Program) (ops : Array Oper) (S : World → Prop) (o : Oper) (v : Value) (b : Bool) (a : Act) : Prop :=
  (Region.wanted o (yielded ops a.tmps) = true ∧ ((b = true ∧ ∀ u, S u → GAt P o a v u) ∨ ∀ u, GAt P o a v u)) ∨
  (Region.wanted o (yielded ops a.tmps) = false ∧ v = undef)
theorem YieldsG.gOp {i : Nat} {o : Oper} {v : Value} {a : Act} {b : Bool} {M : List (Nat × Obj)} (hi : ops[i]? = some o) (hy : YieldsG P ops S o v b a) {K : Act → Bool → List (Nat × Obj) → Prop} (h : K (a.put o.dst v) b M) : gOp P ops S w0 i K a b M := by
  unfold Go.Proofs.YtmpjgfecnnefeaaDoor.gOp
  simp only [hi]
  rcases hy with ⟨hw, hv⟩ | ⟨hw, rfl⟩
  · simp only [hw, if_true]; exact .inl ⟨v, hv, h⟩
  · simp only [hw, Bool.false_eq_true, if_false]; exact h
theorem YieldsG.of_same {o : Oper} {v : Value} {a a' : Act} {b : Bool} (hy : YieldsG P ops S o v b a) (he : execOp a'.eval o = execOp a.eval o)
    (hw : Region.wanted o (yielded ops a'.tmps) = Region.wanted o (yielded ops a.tmps)) : YieldsG P ops S o v b a' := by
  unfold YieldsG GAt at *
  rw [he, hw]
  exact hy
theorem gOp_put {j : Nat} {oi oj : Oper} {v : Value} {b : Bool} {M : List (Nat × Obj)} (hj : ops[j]? = some oj) (hap : oi.apart ops oj = true)
    (hsi : ∀ cs b, oi.op ≠ .select cs b) (hsj : ∀ cs b, oj.op ≠ .select cs b) {K : Act → Bool → List (Nat × Obj) → Prop} {a : Act}
    (hy : YieldsG P ops S oi v b a) (hst : storeB oj = true → YieldsG P ops S oi v false a) (h : gOp P ops S w0 j K (a.put oi.dst v) b M) :
    gOp P ops S w0 j (fun a' b' M' => YieldsG P ops S oi v b' a' ∧ (b' = b ∨ storeB oj = true) ∧ K (a'.put oi.dst v) b' M') a b M := by
  obtain ⟨h1, h2, h3⟩ := Oper.apart_spec hap
  have keep : ∀ (a : Act) (b : Bool), YieldsG P ops S oi v b a → ∀ u, YieldsG P ops S oi v b (a.put oj.dst u) := fun a b hy u =>
    hy.of_same (execOp_put oi hsi a oj.dst u h3) (wanted_put oi a oj.dst u h3)
  have hex := execOp_put (ops := ops) oj hsj a oi.dst v h1
  unfold gOp at *
  simp only [hj] at *
  rw [wanted_put oj a oi.dst v h1] at h
  split
  · rename_i hw
    simp only [hw, if_true] at h
    rcases h with ⟨x, hx, hK⟩ | ⟨z, hz, hK⟩ | ⟨hs, g, old, cs, t, M', hg, hm, hp, hM', hK⟩
    · refine .inl ⟨x, ?_, keep a b hy x, by simp, by rw [← Act.put_comm a v x h2]; exact hK⟩
      unfold GAt at *
      rw [hex] at hx
      exact hx
    · refine .inr (.inl ⟨z, ?_, fun g hg hf => ⟨keep a b hy _, by simp, by rw [← Act.put_comm a v _ h2]; exact hK g hg hf⟩⟩)
      unfold NewAt at *
      rw [hex] at hz
      exact hz
    · refine .inr (.inr ⟨hs, g, old, cs, t, M', hg, hm, ?_, hM', keep a false (hst hs) _, by simp [hs], by rw [← Act.put_comm a v _ h2]; exact hK⟩)
      unfold PutAt at *
      rw [hex] at hp
      exact hp
  · rename_i hw
    simp only [hw] at h
    exact ⟨keep a b hy _, by simp, by rw [← Act.put_comm a v undef h2]; exact h⟩
theorem gOp_mono {i : Nat} {a : Act} {b : Bool} {M : List (Nat × Obj)} {K K' : Act → Bool → List (Nat × Obj) → Prop} (h : ∀ a b M, K a b M → K' a b M) (hh : gOp P ops S w0 i K a b M) : gOp P ops S w0 i K' a b M := by
  unfold gOp at *
  split
  · exact h _ _ _ (by simpa [*] using hh)
  · rename_i o ho
    simp only [ho] at hh
    split
    · rename_i hw
      simp only [hw, if_true] at hh
      rcases hh with ⟨v, hv, hK⟩ | ⟨z, hz, hK⟩ | ⟨hs, g, old, cs, t, M', hg, hm, hp, hM', hK⟩
      · exact .inl ⟨v, hv, h _ _ _ hK⟩
      · exact .inr (.inl ⟨z, hz, fun g hg hf => h _ _ _ (hK g hg hf)⟩)
      · exact .inr (.inr ⟨hs, g, old, cs, t, M', hg, hm, hp, hM', h _ _ _ hK⟩)
    · rename_i hw; simp only [hw] at hh; exact h _ _ _ hh

/-- operation i may be taken first -/
def gfree (md : Region.Mode) (ops : Array Oper) (listed : Array Bool) (i : Nat) (p : Bool) : Bool :=
  match ops[i]? with
  | none => false
  | some oi => (List.range ops.size).all fun j => j == i || listed.getD j true || match ops[j]? with
      | some oj => (oi.apart ops oj && (p || !storeB oj)) || oj.after.any (fun e => Region.binds md e && e.on == i) || ancB md ops ops.size j i
      | none => true
/-- every operation that waits for i, in the end, waits while i does -/
theorem wpAnyG_first {Q : Act → Bool → List (Nat × Obj) → Prop} {i : Nat} {oi : Oper} {v : Value} (hi : ops[i]? = some oi) (hsel : ∀ (j : Nat) (o : Oper) cs b, ops[j]? = some o → o.op ≠ .select cs b) (p : Bool)
    (hp : p = true → ∀ b b' a, YieldsG P ops S oi v b a → YieldsG P ops S oi v b' a) :
    ∀ (fuel : Nat) (listed : Array Bool) (a : Act) (b : Bool) (M : List (Nat × Obj)), closedL md ops listed →
      (∀ j oj, ops[j]? = some oj → j ≠ i → listed.getD j true = false → ancB md ops ops.size j i = true ∨ (oi.apart ops oj = true ∧ (p = true ∨ storeB oj = false))) →
      i ∈ Region.ready md ops listed → YieldsG P ops S oi v b a →
      wpAnyG P md ops S w0 Q fuel (listed.setIfInBounds i true) (a.put oi.dst v) b M → wpAnyG P md ops S w0 Q (fuel + 1) listed a b M := by
  intro fuel
  induction fuel with
  | zero =>
    intro listed a b M _ _ hr hy H
    refine ⟨fun h => (by rw [h] at hr; cases hr), fun j hj => ?_⟩
    by_cases hji : j = i
    · subst hji; exact hy.gOp hi H
    · have := ready_mono hj hji
      rw [H.1] at this
      cases this
  | succ fuel ih =>
    intro listed a b M hcl hfree hr hy H
    refine ⟨fun h => (by rw [h] at hr; cases hr), fun j hj => ?_⟩
    by_cases hji : j = i
    · subst hji; exact hy.gOp hi H
    · have h1 := H.2 j (ready_mono hj hji)
      obtain ⟨hjun, oj, hoj, hall⟩ := mem_ready.1 hj
      have h0 := (mem_ready.1 hr).1
      have hno : ¬ ancB md ops ops.size j i = true := fun ha => by
        have hl := anc_listed hcl (i := i) ops.size j (fun o ho e he hb => by
          have : o = oj := Option.some.inj (ho.symm.trans hoj)
          subst this
          exact hall e he hb) ha
        rcases Nat.lt_or_ge i listed.size with h' | h'
        · simp [h'] at h0 hl; rw [h0] at hl; cases hl
        · simp [Array.getElem?_eq_none h'] at hl
      rcases hfree j oj hoj hji hjun with hf | ⟨hap, hps⟩
      · exact absurd hf hno
      · have hst : storeB oj = true → YieldsG P ops S oi v false a := fun hs => by
          rcases hps with hp' | hn
          · exact hp hp' _ _ _ hy
          · rw [hn] at hs; cases hs
        have h2 := gOp_put hoj hap (fun cs b => hsel i oi cs b hi) (fun cs b => hsel j oj cs b hoj) hy hst h1
        have hfree' : ∀ k ok, ops[k]? = some ok → k ≠ i → (listed.setIfInBounds j true).getD k true = false → ancB md ops ops.size k i = true ∨ (oi.apart ops ok = true ∧ (p = true ∨ storeB ok = false)) := fun k ok hk hki hun => by
          refine hfree k ok hk hki ?_
          by_cases hjk : j = k
          · subst hjk; exact hjun
          · rw [getD_set_ne true hjk] at hun; exact hun
        refine gOp_mono (fun a' b' M' h3 => ih (listed.setIfInBounds j true) a' b' M' (closedL_set hcl hj) hfree' (ready_mono hr (Ne.symm hji)) h3.1 ?_) h2
        rw [Array.setIfInBounds_comm _ _ hji]
        exact h3.2.2

/-- The walk of the quiet ones, in the order that is given. -/
def wpG0 (P : Program) (l : List Oper) (S : World → Prop) (Q : Act → Prop) : List Nat → Act → Prop
  | [], a => Q a
  | i :: rest, a => match l[i]? with
    | none => False
    | some o => if Region.wanted o (yielded l.toArray a.tmps) then ∃ v, (∀ u, S u → GAt P o a v u) ∧ wpG0 P l S Q rest (a.put o.dst v) else wpG0 P l S Q rest (a.put o.dst undef)
structure wpG (P : Program) (l : List Oper) (S : World → Prop) (Q : Act → Prop) (ord : List Nat) (a : Act) : Prop where
  out : wpG0 P l S Q ord a
def lexG (md : Region.Mode) (ops : Array Oper) : List Nat → Array Bool → Bool
  | [], _ => true
  | i :: rest, listed => (Region.ready md ops listed).contains i && gfree md ops listed i ((ops[i]?.map pureB).getD false) && lexG md ops rest (listed.setIfInBounds i true)
def listedBy : List Nat → Array Bool → Array Bool
  | [], l => l
  | i :: rest, l => listedBy rest (l.setIfInBounds i true)
theorem gfree_spec {i : Nat} {oi : Oper} {listed : Array Bool} {p : Bool} (hi : ops[i]? = some oi) (h : gfree md ops listed i p = true) (j : Nat) (oj : Oper) (hj : ops[j]? = some oj) (hne : j ≠ i) (hun : listed.getD j true = false) :
    ancB md ops ops.size j i = true ∨ (oi.apart ops oj = true ∧ (p = true ∨ storeB oj = false)) := by
  simp only [gfree, hi, List.all_eq_true, List.mem_range] at h
  have hsz := (Array.getElem?_eq_some_iff.1 hj).1
  have h1 := h j hsz
  simp only [hj, Bool.or_eq_true, beq_iff_eq, hne, false_or, hun, Bool.false_eq_true, Bool.and_eq_true, Bool.not_eq_true'] at h1
  rcases h1 with (h1 | h1) | h1
  · exact .inr h1
  · left
    obtain ⟨n, hn⟩ : ∃ n, ops.size = n + 1 := ⟨ops.size - 1, by omega⟩
    rw [hn]
    unfold ancB
    simp only [hj]
    obtain ⟨e, he, hb⟩ := Array.any_eq_true'.1 h1
    simp only [Bool.and_eq_true, beq_iff_eq] at hb
    exact Array.any_eq_true'.2 ⟨e, he, by simp [hb.1, hb.2]⟩
  · exact .inl h1
theorem wpAnyG_lex {Q : Act → Bool → List (Nat × Obj) → Prop} {l : List Oper} (hs : Region.noSelect l.toArray = true) {s0 : World} (h0 : S s0) {M : List (Nat × Obj)} : ∀ (ord : List Nat) (f : Nat) (listed : Array Bool) (a : Act), closedL md l.toArray listed →
    lexG md l.toArray ord listed = true → wpG0 P l S (fun a' => wpAnyG P md l.toArray S w0 Q f (listedBy ord listed) a' true M) ord a → wpAnyG P md l.toArray S w0 Q (ord.length + f) listed a true M
  | [], f, listed, a, _, _, h => by simpa [wpG0, listedBy] using h
  | i :: ord, f, listed, a, hcl, hB, h => by
    simp only [lexG, Bool.and_eq_true] at hB
    obtain ⟨⟨hr, hf⟩, hB'⟩ := hB
    have hr' : i ∈ Region.ready md l.toArray listed := by simpa using hr
    unfold wpG0 at h
    cases hl : l[i]? with
    | none => simp only [hl] at h
    | some o =>
      simp only [hl] at h
      have ho : l.toArray[i]? = some o := by simpa using hl
      have hpp : (l.toArray[i]?.map pureB).getD false = pureB o := by rw [ho]; rfl
      rw [hpp] at hf
      have hlen : (i :: ord).length + f = (ord.length + f) + 1 := by simp only [List.length_cons]; omega
      rw [hlen]
      have hpy : pureB o = true → ∀ v b b' a, YieldsG P l.toArray S o v b a → YieldsG P l.toArray S o v b' a := fun hpu v b b' a hy => by
        rcases hy with ⟨hw, hv⟩ | hy
        · refine .inl ⟨hw, .inr ?_⟩
          rcases hv with ⟨_, hv⟩ | hv
          · exact fun u => pure_any hpu (hv s0 h0) u
          · exact hv
        · exact .inr hy
      by_cases hw : Region.wanted o (yielded l.toArray a.tmps) = true
      · simp only [hw, if_true] at h
        obtain ⟨v, hv, hK⟩ := h
        exact wpAnyG_first ho (Region.noSelect_spec hs) (pureB o) (fun hpu => hpy hpu v) _ listed a true M hcl (gfree_spec ho hf) hr' (.inl ⟨hw, .inl ⟨rfl, hv⟩⟩)
          (wpAnyG_lex hs h0 ord f _ _ (closedL_set hcl hr') hB' hK)
      · simp only [hw, Bool.false_eq_true, if_false] at h
        exact wpAnyG_first ho (Region.noSelect_spec hs) (pureB o) (fun hpu => hpy hpu undef) _ listed a true M hcl (gfree_spec ho hf) hr' (.inr ⟨by simpa using hw, rfl⟩)
          (wpAnyG_lex hs h0 ord f _ _ (closedL_set hcl hr') hB' h)

/-- A REGION THAT DRAWS ITS ORDER: the quiet operations in the order 'ord', then the rest as it comes. -/
theorem wp_region_G {id : Nat} {Q : Exit → Act → World → Prop} {a : Act} {w : World} {l : List Oper} (ord : List Nat) (L : List (Nat × Obj)) (f : Nat) (hm : P.follows .mixedOrders = true)
    (hB : (Region.noSelect l.toArray && lexG .any l.toArray ord (Array.replicate l.toArray.size false)) = true) (hf : l.toArray.size = ord.length + f) (hE : EnvX w0 w L)
    (h : wpG P l (EnvC w0 L) (fun a' => wpAnyG P .any l.toArray (EnvC w0 L) w0 (fun a b M => ∀ u, GT (EnvC w0 L) w0 b M u → Q .normal a u) f (listedBy ord (Array.replicate l.toArray.size false)) a' true L) ord a) :
    (Code.region id l.toArray true).wp P Q a w := by
  simp only [Bool.and_eq_true] at hB
  have hcl : closedL .any l.toArray (Array.replicate l.toArray.size false) := fun j oj _ hl => by
    rw [getD_replicate_false] at hl
    cases hl
  refine wp_region_any hm (wpAny_of_G (S := EnvC w0 L) (w0 := w0) (fun u v hu hb => EnvX.below hu hb) (Q := fun a b M => ∀ u, GT (EnvC w0 L) w0 b M u → Q .normal a u) (fun a b M u hu hh => hh u hu) _ _ _ true L _ ⟨fun _ => hE.drew, hE.drew⟩ ?_)
  have h2 := wpAnyG_lex (w0 := w0) hB.1 (s0 := w.drew) (S := EnvC w0 L) hE.drew ord f _ a hcl hB.2 h.out
  rw [← hf] at h2
  exact h2

/-- a plain region: in the text's order -/
def wpLex (P : Program) (ops : Array Oper) (S : World → Prop) (w0 : World) (Q : Act → Bool → List (Nat × Obj) → Prop) : List Nat → Act → Bool → List (Nat × Obj) → Prop
  | [], a, b, M => Q a b M
  | i :: rest, a, b, M => gOp P ops S w0 i (wpLex P ops S w0 Q rest) a b M
theorem wpOps_of_lex (hS : ∀ u v, S u → Below u.heap.size u v → S v) {Q : Act → Bool → List (Nat × Obj) → Prop} {Q' : Exit → Act → World → Prop} (hQ : ∀ a b M u, GT S w0 b M u → Q a b M → Q' .normal a u) :
    ∀ (l : List Nat) (a : Act) (b : Bool) (M : List (Nat × Obj)) (u : World), GT S w0 b M u → wpLex P ops S w0 Q l a b M → wpOps P ops Q' l a u
  | [], _, _, _, _, hu, h => hQ _ _ _ _ hu h
  | i :: l, _, _, _, _, hu, h => by
    rw [wpOps_cons]
    exact wpOp_of_gOp hS hu (fun a' b' M' u' hu' => wpOps_of_lex hS hQ l a' b' M' u' hu') h
theorem wpLex_of_G {l : List Oper} {Q : Act → Bool → List (Nat × Obj) → Prop} {M : List (Nat × Obj)} (rest : List Nat) : ∀ (ord : List Nat) (a : Act), wpG0 P l S (fun a' => wpLex P l.toArray S w0 Q rest a' true M) ord a → wpLex P l.toArray S w0 Q (ord ++ rest) a true M
  | [], a, h => h
  | i :: ord, a, h => by
    unfold wpG0 at h
    show gOp P l.toArray S w0 i (wpLex P l.toArray S w0 Q (ord ++ rest)) a true M
    unfold gOp
    cases hl : l[i]? with
    | none => simp only [hl] at h
    | some o =>
      simp only [hl] at h
      have ho : l.toArray[i]? = some o := by simpa using hl
      simp only [ho]
      split
      · rename_i hw
        simp only [hw, if_true] at h
        obtain ⟨v, hv, hK⟩ := h
        exact .inl ⟨v, .inl ⟨by trivial, hv⟩, wpLex_of_G rest ord _ hK⟩
      · rename_i hw
        simp only [hw] at h
        exact wpLex_of_G rest ord _ h
theorem wp_region_Gx {id : Nat} {Q : Exit → Act → World → Prop} {a : Act} {w : World} {l : List Oper} (ord rest : List Nat) (L : List (Nat × Obj)) (hr : List.range l.toArray.size = ord ++ rest) (hE : EnvX w0 w L)
    (h : wpG P l (EnvC w0 L) (fun a' => wpLex P l.toArray (EnvC w0 L) w0 (fun a b M => ∀ u, GT (EnvC w0 L) w0 b M u → Q .normal a u) rest a' true L) ord a) :
    (Code.region id l.toArray false).wp P Q a w := by
  refine wp_region ?_
  rw [hr]
  exact wpOps_of_lex (S := EnvC w0 L) (w0 := w0) (fun u v hu hb => EnvX.below hu hb) (Q := fun a b M => ∀ u, GT (EnvC w0 L) w0 b M u → Q .normal a u) (fun a b M u hu hh => hh u hu) _ a true L w ⟨fun _ => hE, hE⟩ (wpLex_of_G rest ord a h.out)

theorem run_enter {f : FuncId} {fn : Func} {c : Code} (hf : P.funcs[f]? = some fn) (hname : (fn.name == "runtime.NumGoroutine") = false) (hb : fn.body = some c) (args : Array Value) (w : World) :
    (callFunc f args).run P w = .ok (.enter f args) w := by
  have h1 : fn.name ≠ "runtime.NumGoroutine" := by simpa using hname
  simp [callFunc, hf, h1, hb]
section
variable {l : List Oper} {C : World → Prop} {Q : Act → Prop} {a : Act} {i : Nat} {rest : List Nat} {dst : Option Tmp} {op : Op} {ty : TypeId} {pos : String} {after : Array Edge} {gd : Option (Nat × Bool)}
theorem wpG_nil (h : Q a) : wpG P l C Q [] a := ⟨h⟩
/-- an operation that is not wanted -/
theorem wpG_skip (ho : l[i]? = some ⟨dst, op, ty, pos, after, gd⟩) (hw : Region.wanted ⟨dst, op, ty, pos, after, gd⟩ (yielded l.toArray a.tmps) = false)
    (h : ∀ K : Act → Prop, (∀ a, wpG P l C Q rest a → K a) → Oper.quiet P ⟨dst, .move (.const undef), ty, pos, after, gd⟩ a C K) {u0 : World} (h0 : C u0) : wpG P l C Q (i :: rest) a := by
  refine ⟨?_⟩
  unfold wpG0
  simp only [ho]
  rw [if_neg (by rw [hw]; exact Bool.false_ne_true)]
  obtain ⟨v, hv, hK⟩ := h (wpG0 P l C Q rest) (fun _ h => h.out)
  have h1 := hv u0 h0
  have e : v = undef := by
    unfold Oper.quietAt execOp at h1
    exact h1.2.symm
  rw [e] at hK
  exact hK
theorem quietAt_GAt {o : Oper} {v : Value} {u : World} (h : ∀ f args u', (execOp a.eval o).run P u ≠ .ok (.enter f args) u') (hq : Oper.quietAt P o a C u v) : GAt P o a v u := by
  unfold Oper.quietAt at hq
  unfold GAt
  generalize (execOp a.eval o).run P u = r at *
  cases r with
  | ok n w' =>
    cases n <;> simp only [Oper.quietUpon] at hq <;> simp only [GUpon]
    case value x => exact hq
    case skip => exact hq
    case enter f args => exact absurd rfl (h f args w')
  | halt x w' => simp only [Oper.quietUpon] at hq
def valueB (op : Op) : Bool := match op with | .move _ | .assign _ | .pick _ _ _ | .build _ _ | .load _ _ | .binOp _ _ _ _ _ | .unOp _ _ _ | .convert _ _ _ | .indexAddr _ _ _ | .fieldAddr _ _ _ | .field _ _ _ | .index _ _ _ | .extract _ _ => true | _ => false
theorem value_stays {α : Type} (s : Sem α) (g : α → Value) (u : World) (f : FuncId) (args : Array Value) (u' : World) : (s >>= fun x => (pure (Next.value (g x)) : Sem Next)).run P u ≠ .ok (.enter f args) u' := by
  rw [Sem.run_bind]
  cases s.run P u with
  | ok x w => intro h; simp [Result.andThen] at h
  | halt x w => intro h; simp [Result.andThen] at h
theorem value_noEnter (hv : valueB op = true) (u : World) (f : FuncId) (args : Array Value) (u' : World) : (execOp a.eval ⟨dst, op, ty, pos, after, gd⟩).run P u ≠ .ok (.enter f args) u' := by
  unfold valueB at hv
  cases op <;> first | (cases hv; done) | (unfold execOp; exact value_stays _ id u f args u') | (unfold execOp; intro h; simp at h; done) | skip
  case pick c x y => exact value_stays (asBool (a.eval c)) (fun b => if b then a.eval x else a.eval y) u f args u'
/-- an operation that calls nothing -/
theorem wpG_op (ho : l[i]? = some ⟨dst, op, ty, pos, after, gd⟩) (hw : Region.wanted ⟨dst, op, ty, pos, after, gd⟩ (yielded l.toArray a.tmps) = true) (hv : valueB op = true)
    (h : ∀ K : Act → Prop, (∀ a, wpG P l C Q rest a → K a) → Oper.quiet P ⟨dst, op, ty, pos, after, gd⟩ a C K) : wpG P l C Q (i :: rest) a := by
  refine ⟨?_⟩
  unfold wpG0
  simp only [ho]
  rw [if_pos hw]
  obtain ⟨v, hq, hK⟩ := h (wpG0 P l C Q rest) (fun _ h => h.out)
  exact ⟨v, fun u hu => quietAt_GAt (value_noEnter hv u) (hq u hu), hK⟩
/-- an operation whose value is told -/
theorem wpG_val {v : Value} (ho : l[i]? = some ⟨dst, op, ty, pos, after, gd⟩) (hw : Region.wanted ⟨dst, op, ty, pos, after, gd⟩ (yielded l.toArray a.tmps) = true)
    (hv : ∀ u, C u → (execOp a.eval ⟨dst, op, ty, pos, after, gd⟩).run P u = .ok (.value v) u)
    (h : ∀ K : Act → Prop, (∀ a, wpG P l C Q rest a → K a) → Oper.quiet P ⟨dst, .move (.const v), ty, pos, after, gd⟩ a C K) {u0 : World} (h0 : C u0) : wpG P l C Q (i :: rest) a := by
  refine ⟨?_⟩
  unfold wpG0
  simp only [ho]
  rw [if_pos hw]
  obtain ⟨v', hq, hK⟩ := h (wpG0 P l C Q rest) (fun _ h => h.out)
  have e : v' = v := by
    have h1 := hq u0 h0
    unfold Oper.quietAt execOp at h1
    exact h1.2.symm
  rw [e] at hK
  exact ⟨v, fun u hu => by unfold GAt; rw [hv u hu]; exact ⟨rfl, rfl⟩, hK⟩
/-- a load of a whole row -/
theorem wpG_load {ty' : TypeId} {x : Operand} (ho : l[i]? = some ⟨dst, .load ty' x, ty, pos, after, gd⟩) (hw : Region.wanted ⟨dst, .load ty' x, ty, pos, after, gd⟩ (yielded l.toArray a.tmps) = true)
    (g : Nat) (hx : a.eval x = .pointer (some ⟨g, 0, none⟩)) (t : TypeId) (cs : Array Value) (d : TypeDesc) (hC : ∀ u, C u → u.heap[g]? = some (.cells cs t (0, 0)))
    (hu : P.underlying ty' = some d) (hd : (match d with | .struct _ | .array _ _ => true | _ => false) = true) (hi : (P.info? ty').map (·.size) = some cs.size)
    (h : ∀ K : Act → Prop, (∀ a, wpG P l C Q rest a → K a) → Oper.quiet P ⟨dst, .move (.const (.agg cs)), ty, pos, after, gd⟩ a C K) {u0 : World} (h0 : C u0) : wpG P l C Q (i :: rest) a :=
  wpG_val ho hw (fun u hu' => by
    unfold execOp
    simp only [hx, Instr.loadAt, Instr.sureAddr, Sem.run_bind, Sem.run_pure, Result.andThen_ok, run_loadVar_row u g t ty' cs (0, 0) d (hC u hu') hu hd hi]) h h0
/-- a call -/
theorem wpG_call {f : FuncId} {xs : Array Operand} {ats : Array TypeId} {fn : Func} {c : Code} {v : Value} {args : Array Value} (ho : l[i]? = some ⟨dst, .call { callee := .value (.func f), args := xs, argTypes := ats }, ty, pos, after, gd⟩)
    (hw : Region.wanted ⟨dst, .call { callee := .value (.func f), args := xs, argTypes := ats }, ty, pos, after, gd⟩ (yielded l.toArray a.tmps) = true)
    (hargs : xs.toList.map a.eval = args.toList) (hfn : P.funcs[f]? = some fn) (hname : (fn.name == "runtime.NumGoroutine") = false) (hb : fn.body = some c)
    (hcall : ∀ u, C u → Calls P f args u (fun e w'' => e = .returned v ∧ Below u.heap.size u w''))
    (h : ∀ K : Act → Prop, (∀ a, wpG P l C Q rest a → K a) → Oper.quiet P ⟨dst, .move (.const v), ty, pos, after, gd⟩ a C K) {u0 : World} (h0 : C u0) : wpG P l C Q (i :: rest) a := by
  refine ⟨?_⟩
  unfold wpG0
  simp only [ho]
  rw [if_pos hw]
  obtain ⟨v', hv, hK⟩ := h (wpG0 P l C Q rest) (fun _ h => h.out)
  have e : v' = v := by
    have h1 := hv u0 h0
    unfold Oper.quietAt execOp at h1
    exact h1.2.symm
  rw [e] at hK
  refine ⟨v, fun u hu => ?_, hK⟩
  have hrun : (execOp a.eval ⟨dst, .call { callee := .value (.func f), args := xs, argTypes := ats }, ty, pos, after, gd⟩).run P u = .ok (.enter f args) u := by
    have ha : xs.map a.eval = args := by
      apply Array.ext'
      rw [Array.toList_map]
      exact hargs
    rw [execOp_call_go]
    simp only [Array.empty_append, Array.append_empty, ha]
    exact run_enter hfn hname hb _ u
  unfold GAt
  rw [hrun]
  exact ⟨rfl, hcall u hu⟩
end
section
variable {Q : Act → Bool → List (Nat × Obj) → Prop} {f : Nat} {listed : Array Bool} {a : Act} {b : Bool} {M : List (Nat × Obj)}
theorem anyG_done (hr : Region.ready md ops listed = []) (h : Q a b M) : wpAnyG P md ops S w0 Q 0 listed a b M := ⟨hr, h⟩
theorem gOp_new {i : Nat} {K : Act → Bool → List (Nat × Obj) → Prop} {dst : Option Tmp} {op : Op} {ty : TypeId} {pos : String} {after : Array Edge} (z : Obj) (ho : ops[i]? = some ⟨dst, op, ty, pos, after, none⟩) (hz : NewAt P ⟨dst, op, ty, pos, after, none⟩ a z)
    (h : ∀ g, w0.heap.size ≤ g → (∀ x ∈ M, x.1 ≠ g) → ∀ K' : Act → Prop, (∀ a', K a' b ((g, z) :: M) → K' a') → Oper.quiet P ⟨dst, .move (.const (.pointer (some ⟨g, 0, none⟩))), ty, pos, after, none⟩ a (fun _ => True) K') : gOp P ops S w0 i K a b M := by
  unfold gOp
  simp only [ho, Region.wanted, if_true]
  refine .inr (.inl ⟨z, hz, fun g hg hf => ?_⟩)
  obtain ⟨v, hv, hK⟩ := h g hg hf (fun a' => K a' b ((g, z) :: M)) (fun _ h => h)
  have e : v = .pointer (some ⟨g, 0, none⟩) := by
    have h1 := hv w0 trivial
    unfold Oper.quietAt execOp at h1
    exact h1.2.symm
  rw [e] at hK
  exact hK
/-- an operation that reads no memory -/
theorem gOp_pure {i : Nat} {K : Act → Bool → List (Nat × Obj) → Prop} {dst : Option Tmp} {op : Op} {ty : TypeId} {pos : String} {after : Array Edge} (ho : ops[i]? = some ⟨dst, op, ty, pos, after, none⟩) (hop : valueB op = true)
    (h : ∀ K' : Act → Prop, (∀ a', K a' b M → K' a') → Oper.quiet P ⟨dst, op, ty, pos, after, none⟩ a (fun _ => True) K') : gOp P ops S w0 i K a b M := by
  unfold gOp
  simp only [ho, Region.wanted, if_true]
  obtain ⟨v, hv, hK⟩ := h (fun a' => K a' b M) (fun _ h => h)
  exact .inl ⟨v, .inr (fun u => quietAt_GAt (value_noEnter hop u) (hv u trivial)), hK⟩
theorem gOp_store {i : Nat} {K : Act → Bool → List (Nat × Obj) → Prop} {ty ty' : TypeId} {pos : String} {after : Array Edge} {x y : Operand} (ho : ops[i]? = some ⟨none, .store ty' x y, ty, pos, after, none⟩)
    (g : Nat) (cs : Array Value) (hx : a.eval x = .pointer (some ⟨g, 0, none⟩)) (hy : a.eval y = .agg cs) (hg : w0.heap.size ≤ g) (t : TypeId) (old : Array Value) (hm : (g, Obj.cells old t (0, 0)) ∈ M)
    (hi : (P.info? ty').map (·.size) = some cs.size) (hold : old.size = cs.size) (h1 : cs.all (·.oneCell') = true) (M' : List (Nat × Obj)) (hM' : ∀ x ∈ M', x = (g, Obj.cells cs t (0, 0)) ∨ (x ∈ M ∧ x.1 ≠ g))
    (h : K a false M') : gOp P ops S w0 i K a b M := by
  unfold gOp
  simp only [ho, Region.wanted, if_true]
  refine .inr (.inr ⟨rfl, g, old, cs, t, M', hg, hm, fun u hu => ?_, hM', h⟩)
  unfold execOp
  simp only [hx, hy, Instr.storeAt, Instr.sureAddr, Sem.run_bind, Sem.run_pure, Result.andThen_ok, run_storeVar_row u g t ty' old cs hu hi hold h1]
theorem put_told {dst : Option Tmp} {v : Value} {ty : TypeId} {pos : String} {after : Array Edge} {K : Act → Prop} (w0 : World)
    (h : ∀ K' : Act → Prop, (∀ a', K a' → K' a') → Oper.quiet P ⟨dst, .move (.const v), ty, pos, after, none⟩ a (fun _ => True) K') : K (a.put dst v) := by
  obtain ⟨v', hv, hK⟩ := h K (fun _ h => h)
  have e : v' = v := by
    have h1 := hv w0 trivial
    unfold Oper.quietAt execOp at h1
    exact h1.2.symm
  rw [e] at hK
  exact hK
end
end
end Go.Proofs.YtmpjgfecnnefeaaDoor

namespace Go.Proofs.YtmpjgfecnnefeaaDoor
set_option maxRecDepth 8000
open Go.RowKit

section
variable {P : Program} {ops : Array Oper} {md : Region.Mode} {w0 : World}
abbrev Boxes := List (Nat × Obj)
/-- what an operation that makes memory yields: a value, and the new boxes -/
def FUpon (P : Program) (u : World) (R : Value → Boxes → Prop) : Result Next → Prop
  | .ok (.value x) u' => Below u.heap.size u u' ∧ ∃ N, R x N ∧ ∀ y ∈ N, u.heap.size ≤ y.1 ∧ u'.heap[y.1]? = some y.2
  | .ok (.enter f args) u' => u' = u ∧ Calls P f args u (fun e w'' => ∃ x N, e = .returned x ∧ R x N ∧ Below u.heap.size u w'' ∧ ∀ y ∈ N, u.heap.size ≤ y.1 ∧ w''.heap[y.1]? = some y.2)
  | _ => False
/-- what an operation that turns boxes (an append to one's own, a store at a place, a call of a closure) yields: a value, and the boxes behind it -/
def OUpon (P : Program) (w0 : World) (R : Value → Boxes → Prop) : Result Next → Prop
  | .ok (.value x) u' => ∃ M', EnvX w0 u' M' ∧ R x M'
  | .ok .skip u' => ∃ M', EnvX w0 u' M' ∧ R undef M'
  | .ok (.enter f args) u' => Calls P f args u' (fun e w'' => ∃ x M', e = .returned x ∧ EnvX w0 w'' M' ∧ R x M')
  | _ => False
def FAt (P : Program) (o : Oper) (a : Act) (R : Value → Boxes → Prop) (u : World) : Prop := FUpon P u R ((execOp a.eval o).run P u)
def freshN (w0 : World) (N M : Boxes) : Prop := ∀ y ∈ N, w0.heap.size ≤ y.1 ∧ ∀ z ∈ M, z.1 ≠ y.1

/-- One operation, over boxes that are known. -/
def hOp (P : Program) (ops : Array Oper) (w0 : World) (i : Nat) (K : Act → Boxes → Prop) (a : Act) (M : Boxes) : Prop :=
  match ops[i]? with
  | none => K a M
  | some o => if Region.wanted o (yielded ops a.tmps) then
      ((∃ v M0, (∀ x ∈ M0, x ∈ M) ∧ (∀ u, EnvX w0 u M0 → GAt P o a v u) ∧ K (a.put o.dst v) M) ∨
       (∃ R M0, (∀ x ∈ M0, x ∈ M) ∧ (∀ u, EnvX w0 u M0 → FAt P o a R u) ∧ ∀ x N, R x N → freshN w0 N M → (∃ u, EnvX w0 u (N ++ M)) → K (a.put o.dst x) (N ++ M)) ∨
       (storeB o = true ∧ ∃ g old cs t M', w0.heap.size ≤ g ∧ (g, Obj.cells old t (0, 0)) ∈ M ∧ PutAt P o a g old cs t ∧ (∀ x ∈ M', x = (g, Obj.cells cs t (0, 0)) ∨ (x ∈ M ∧ x.1 ≠ g)) ∧ ((∃ u, EnvX w0 u M') → K (a.put o.dst undef) M')) ∨
       (storeB o = true ∧ ∃ R : Value → Boxes → Prop, (∀ u, EnvX w0 u M → OUpon P w0 R ((execOp a.eval o).run P u)) ∧ ∀ x M', R x M' → (∃ u, EnvX w0 u M') → K (a.put o.dst x) M'))
    else K (a.put o.dst undef) M
def anyH (P : Program) (md : Region.Mode) (ops : Array Oper) (w0 : World) (Q : Act → Boxes → Prop) : Nat → Array Bool → Act → Boxes → Prop
  | 0, listed, a, M => Region.ready md ops listed = [] ∧ Q a M
  | f + 1, listed, a, M => (Region.ready md ops listed = [] → Q a M) ∧ ∀ i ∈ Region.ready md ops listed, hOp P ops w0 i (anyH P md ops w0 Q f (listed.setIfInBounds i true)) a M

theorem EnvX.app {w u v : World} {l N : Boxes} (h : EnvX w u l) (hb : Below u.heap.size u v) (hN : ∀ y ∈ N, u.heap.size ≤ y.1 ∧ v.heap[y.1]? = some y.2) : EnvX w v (N ++ l) := by
  have h1 := h.below hb
  refine ⟨h1.bel, fun g o hm => ?_⟩
  rcases List.mem_append.1 hm with e | e
  · exact (hN _ e).2
  · exact h1.box g o e
theorem freshN_of {w u : World} {l N : Boxes} (h : EnvX w u l) (hN : ∀ y ∈ N, u.heap.size ≤ y.1) : freshN w N l := fun y hy =>
  ⟨Nat.le_trans h.bel.size (hN y hy), fun z hz e => by
    have h1 := h.lt (g := z.1) (o := z.2) hz
    have h2 := hN y hy
    omega⟩
theorem wpOp_of_hOp {i : Nat} {a : Act} {M : Boxes} {K : Act → Boxes → Prop} {K' : Act → World → Prop} {Q' : Exit → Act → World → Prop} {u : World}
    (hu : EnvX w0 u M) (h : ∀ a M u, EnvX w0 u M → K a M → K' a u) (hh : hOp P ops w0 i K a M) : wpOp P ops Q' i K' a u := by
  unfold hOp at hh
  unfold wpOp
  split
  · rename_i ho; simp only [ho] at hh; exact h _ _ _ hu hh
  · rename_i o ho
    simp only [ho] at hh
    split
    · rename_i hw
      simp only [hw, if_true] at hh
      refine .inl ?_
      rcases hh with ⟨v, M0, hM0, hv, hK⟩ | ⟨R, M0, hM0, hv, hK⟩ | ⟨_, g, old, cs, t, M', hg, hm, hp, hM', hK⟩ | ⟨_, R, hv, hK⟩
      · have h3 := hv u (hu.sub hM0)
        unfold GAt at h3
        unfold Oper.wp
        generalize (execOp a.eval o).run P u = r at *
        cases r with
        | ok n w' =>
          cases n <;> simp only [GUpon] at h3 <;> simp only [Oper.upon]
          case value x =>
            obtain ⟨e1, e2⟩ := h3
            rw [e1, e2]
            exact h _ _ _ hu hK
          case skip =>
            obtain ⟨e1, e2⟩ := h3
            rw [e1, ← e2]
            exact h _ _ _ hu hK
          case enter f args =>
            obtain ⟨e1, hc⟩ := h3
            rw [e1]
            exact hc.mono fun e w'' ⟨he, hb⟩ => by subst he; exact h _ _ _ (hu.below hb) hK
        | halt x w' => simp only [GUpon] at h3
      · have h3 := hv u (hu.sub hM0)
        unfold FAt at h3
        unfold Oper.wp
        generalize (execOp a.eval o).run P u = r at *
        cases r with
        | ok n w' =>
          cases n <;> simp only [FUpon] at h3 <;> simp only [Oper.upon]
          case value x =>
            obtain ⟨hb, N, hR, hN⟩ := h3
            have hE := hu.app hb hN
            exact h _ _ _ hE (hK x N hR (freshN_of hu (fun y hy => (hN y hy).1)) ⟨_, hE⟩)
          case enter f args =>
            obtain ⟨e1, hc⟩ := h3
            rw [e1]
            exact hc.mono fun e w'' ⟨x, N, he, hR, hb, hN⟩ => by
              subst he
              have hE := hu.app hb hN
              exact h _ _ _ hE (hK x N hR (freshN_of hu (fun y hy => (hN y hy).1)) ⟨_, hE⟩)
        | halt x w' => simp only [FUpon] at h3
      · unfold Oper.wp
        rw [hp u (hu.box g _ hm)]
        simp only [Oper.upon]
        have hE := hu.put hg hm hM'
        exact h _ _ _ hE (hK ⟨_, hE⟩)
      · have h3 := hv u hu
        unfold Oper.wp
        generalize (execOp a.eval o).run P u = r at *
        cases r with
        | ok n w' =>
          cases n <;> simp only [OUpon] at h3 <;> simp only [Oper.upon]
          case value x =>
            obtain ⟨M', hE, hR⟩ := h3
            exact h _ _ _ hE (hK x M' hR ⟨_, hE⟩)
          case skip =>
            obtain ⟨M', hE, hR⟩ := h3
            exact h _ _ _ hE (hK undef M' hR ⟨_, hE⟩)
          case enter f args =>
            exact h3.mono fun e w'' ⟨x, M', he, hE, hR⟩ => by
              subst he
              exact h _ _ _ hE (hK x M' hR ⟨_, hE⟩)
        | halt x w' => simp only [OUpon] at h3
    · rename_i hw; simp only [hw] at hh; exact h _ _ _ hu hh
theorem wpAny_of_H {Q : Act → Boxes → Prop} {Q' : Exit → Act → World → Prop} (hQ : ∀ a M u, EnvX w0 u M → Q a M → Q' .normal a u) :
    ∀ (f : Nat) (listed : Array Bool) (a : Act) (M : Boxes) (u : World), EnvX w0 u M → anyH P md ops w0 Q f listed a M → wpAny P md ops Q' f listed a u
  | 0, _, _, _, _, hu, h => ⟨h.1, hQ _ _ _ hu h.2⟩
  | f + 1, _, _, _, _, hu, h => ⟨fun h0 => hQ _ _ _ hu (h.1 h0), fun i hi => wpOp_of_hOp hu (fun a' M' u' hu' => wpAny_of_H hQ f _ a' M' u' hu') (h.2 i hi)⟩

/-- operation i yields v now, over the boxes M0 (none: wherever) -/
def YieldsH (P : Program) (ops : Array Oper) (w0 : World) (M0 : Boxes) (o : Oper) (v : Value) (a : Act) : Prop :=
  (Region.wanted o (yielded ops a.tmps) = true ∧ ∀ u, EnvX w0 u M0 → GAt P o a v u) ∨
  (Region.wanted o (yielded ops a.tmps) = false ∧ v = undef)
theorem YieldsH.hOp {i : Nat} {o : Oper} {v : Value} {a : Act} {M0 M : Boxes} (hi : ops[i]? = some o) (hM : ∀ x ∈ M0, x ∈ M) (hy : YieldsH P ops w0 M0 o v a) {K : Act → Boxes → Prop} (h : K (a.put o.dst v) M) : hOp P ops w0 i K a M := by
  unfold Go.Proofs.YtmpjgfecnnefeaaDoor.hOp
  simp only [hi]
  rcases hy with ⟨hw, hv⟩ | ⟨hw, rfl⟩
  · simp only [hw, if_true]; exact .inl ⟨v, M0, hM, hv, h⟩
  · simp only [hw, Bool.false_eq_true, if_false]; exact h
theorem YieldsH.of_same {o : Oper} {v : Value} {a a' : Act} {M0 : Boxes} (hy : YieldsH P ops w0 M0 o v a) (he : execOp a'.eval o = execOp a.eval o)
    (hw : Region.wanted o (yielded ops a'.tmps) = Region.wanted o (yielded ops a.tmps)) : YieldsH P ops w0 M0 o v a' := by
  unfold YieldsH GAt at *
  rw [he, hw]
  exact hy
theorem hOp_mono {i : Nat} {a : Act} {M : Boxes} {K K' : Act → Boxes → Prop} (h : ∀ a M, K a M → K' a M) (hh : hOp P ops w0 i K a M) : hOp P ops w0 i K' a M := by
  unfold hOp at *
  split
  · exact h _ _ (by simpa [*] using hh)
  · rename_i o ho
    simp only [ho] at hh
    split
    · rename_i hw
      simp only [hw, if_true] at hh
      rcases hh with ⟨v, M0, hM0, hv, hK⟩ | ⟨R, M0, hM0, hv, hK⟩ | ⟨hs, g, old, cs, t, M', hg, hm, hp, hM', hK⟩ | ⟨hs, R, hv, hK⟩
      · exact .inl ⟨v, M0, hM0, hv, h _ _ hK⟩
      · exact .inr (.inl ⟨R, M0, hM0, hv, fun x N hR hf hE => h _ _ (hK x N hR hf hE)⟩)
      · exact .inr (.inr (.inl ⟨hs, g, old, cs, t, M', hg, hm, hp, hM', fun hE => h _ _ (hK hE)⟩))
      · exact .inr (.inr (.inr ⟨hs, R, hv, fun x M' hR hE => h _ _ (hK x M' hR hE)⟩))
    · rename_i hw; simp only [hw] at hh; exact h _ _ hh
theorem hOp_put {j : Nat} {oi oj : Oper} {v : Value} {M0 M : Boxes} (hj : ops[j]? = some oj) (hap : oi.apart ops oj = true)
    (hsi : ∀ cs b, oi.op ≠ .select cs b) (hsj : ∀ cs b, oj.op ≠ .select cs b) {K : Act → Boxes → Prop} {a : Act}
    (hy : YieldsH P ops w0 M0 oi v a) (hM : ∀ x ∈ M0, x ∈ M) (hst : storeB oj = true → M0 = []) (h : hOp P ops w0 j K (a.put oi.dst v) M) :
    hOp P ops w0 j (fun a' M' => YieldsH P ops w0 M0 oi v a' ∧ (∀ x ∈ M0, x ∈ M') ∧ K (a'.put oi.dst v) M') a M := by
  obtain ⟨h1, h2, h3⟩ := Oper.apart_spec hap
  have keep : ∀ (a : Act), YieldsH P ops w0 M0 oi v a → ∀ u, YieldsH P ops w0 M0 oi v (a.put oj.dst u) := fun a hy u =>
    hy.of_same (execOp_put oi hsi a oj.dst u h3) (wanted_put oi a oj.dst u h3)
  have hex := execOp_put (ops := ops) oj hsj a oi.dst v h1
  unfold hOp at *
  simp only [hj] at *
  rw [wanted_put oj a oi.dst v h1] at h
  split
  · rename_i hw
    simp only [hw, if_true] at h
    rcases h with ⟨x, M1, hM1, hx, hK⟩ | ⟨R, M1, hM1, hx, hK⟩ | ⟨hs, g, old, cs, t, M', hg, hm, hp, hM', hK⟩ | ⟨hs, R, hx, hK⟩
    · refine .inl ⟨x, M1, hM1, ?_, keep a hy x, hM, by rw [← Act.put_comm a v x h2]; exact hK⟩
      unfold GAt at *
      rw [hex] at hx
      exact hx
    · refine .inr (.inl ⟨R, M1, hM1, ?_, fun x N hR hf hE => ⟨keep a hy _, fun y hy' => List.mem_append_right _ (hM y hy'), by rw [← Act.put_comm a v _ h2]; exact hK x N hR hf hE⟩⟩)
      unfold FAt at *
      rw [hex] at hx
      exact hx
    · refine .inr (.inr (.inl ⟨hs, g, old, cs, t, M', hg, hm, ?_, hM', fun hE => ⟨keep a hy _, by rw [hst hs]; exact fun _ h => (by cases h), by rw [← Act.put_comm a v _ h2]; exact hK hE⟩⟩))
      unfold PutAt at *
      rw [hex] at hp
      exact hp
    · refine .inr (.inr (.inr ⟨hs, R, fun u hu => ?_, fun x M' hR hE => ⟨keep a hy _, by rw [hst hs]; exact fun _ h => (by cases h), by rw [← Act.put_comm a v _ h2]; exact hK x M' hR hE⟩⟩))
      have hr := hx u hu
      rw [hex] at hr
      exact hr
  · rename_i hw
    simp only [hw] at h
    exact ⟨keep a hy _, hM, by rw [← Act.put_comm a v undef h2]; exact h⟩
theorem anyH_first {Q : Act → Boxes → Prop} {i : Nat} {oi : Oper} {v : Value} {M0 : Boxes} (hi : ops[i]? = some oi) (hsel : ∀ (j : Nat) (o : Oper) cs b, ops[j]? = some o → o.op ≠ .select cs b) :
    ∀ (fuel : Nat) (listed : Array Bool) (a : Act) (M : Boxes), closedL md ops listed → (∀ x ∈ M0, x ∈ M) →
      (∀ j oj, ops[j]? = some oj → j ≠ i → listed.getD j true = false → ancB md ops ops.size j i = true ∨ (oi.apart ops oj = true ∧ (M0 = [] ∨ storeB oj = false))) →
      i ∈ Region.ready md ops listed → YieldsH P ops w0 M0 oi v a →
      anyH P md ops w0 Q fuel (listed.setIfInBounds i true) (a.put oi.dst v) M → anyH P md ops w0 Q (fuel + 1) listed a M := by
  intro fuel
  induction fuel with
  | zero =>
    intro listed a M _ hM _ hr hy H
    refine ⟨fun h => (by rw [h] at hr; cases hr), fun j hj => ?_⟩
    by_cases hji : j = i
    · subst hji; exact hy.hOp hi hM H
    · have := ready_mono hj hji
      rw [H.1] at this
      cases this
  | succ fuel ih =>
    intro listed a M hcl hM hfree hr hy H
    refine ⟨fun h => (by rw [h] at hr; cases hr), fun j hj => ?_⟩
    by_cases hji : j = i
    · subst hji; exact hy.hOp hi hM H
    · have h1 := H.2 j (ready_mono hj hji)
      obtain ⟨hjun, oj, hoj, hall⟩ := mem_ready.1 hj
      have h0 := (mem_ready.1 hr).1
      have hno : ¬ ancB md ops ops.size j i = true := fun ha => by
        have hl := anc_listed hcl (i := i) ops.size j (fun o ho e he hb => by
          have : o = oj := Option.some.inj (ho.symm.trans hoj)
          subst this
          exact hall e he hb) ha
        rcases Nat.lt_or_ge i listed.size with h' | h'
        · simp [h'] at h0 hl; rw [h0] at hl; cases hl
        · simp [Array.getElem?_eq_none h'] at hl
      rcases hfree j oj hoj hji hjun with hf | ⟨hap, hps⟩
      · exact absurd hf hno
      · have hst : storeB oj = true → M0 = [] := fun hs => by
          rcases hps with hp' | hn
          · exact hp'
          · rw [hn] at hs; cases hs
        have h2 := hOp_put hoj hap (fun cs b => hsel i oi cs b hi) (fun cs b => hsel j oj cs b hoj) hy hM hst h1
        have hfree' : ∀ k ok, ops[k]? = some ok → k ≠ i → (listed.setIfInBounds j true).getD k true = false → ancB md ops ops.size k i = true ∨ (oi.apart ops ok = true ∧ (M0 = [] ∨ storeB ok = false)) := fun k ok hk hki hun => by
          refine hfree k ok hk hki ?_
          by_cases hjk : j = k
          · subst hjk; exact hjun
          · rw [getD_set_ne true hjk] at hun; exact hun
        refine hOp_mono (fun a' M' h3 => ih (listed.setIfInBounds j true) a' M' (closedL_set hcl hj) h3.2.1 hfree' (ready_mono hr (Ne.symm hji)) h3.1 ?_) h2
        rw [Array.setIfInBounds_comm _ _ hji]
        exact h3.2.2
/-- one phase: the quiet operations of 'ord', over the boxes L -/
theorem anyH_phase0 {Q : Act → Boxes → Prop} {l : List Oper} (hs : Region.noSelect l.toArray = true) {L : Boxes} {s0 : World} (h0 : EnvX w0 s0 L) : ∀ (ord : List Nat) (f : Nat) (listed : Array Bool) (a : Act), closedL md l.toArray listed →
    lexG md l.toArray ord listed = true → wpG0 P l (EnvC w0 L) (fun a' => anyH P md l.toArray w0 Q f (listedBy ord listed) a' L) ord a → anyH P md l.toArray w0 Q (ord.length + f) listed a L
  | [], f, listed, a, _, _, h => by simpa [wpG0, listedBy] using h
  | i :: ord, f, listed, a, hcl, hB, h => by
    simp only [lexG, Bool.and_eq_true] at hB
    obtain ⟨⟨hr, hf⟩, hB'⟩ := hB
    have hr' : i ∈ Region.ready md l.toArray listed := by simpa using hr
    unfold wpG0 at h
    cases hl : l[i]? with
    | none => simp only [hl] at h
    | some o =>
      simp only [hl] at h
      have ho : l.toArray[i]? = some o := by simpa using hl
      have hpp : (l.toArray[i]?.map pureB).getD false = pureB o := by rw [ho]; rfl
      rw [hpp] at hf
      have hlen : (i :: ord).length + f = (ord.length + f) + 1 := by simp only [List.length_cons]; omega
      rw [hlen]
      have hfr := gfree_spec ho hf
      by_cases hw : Region.wanted o (yielded l.toArray a.tmps) = true
      · simp only [hw, if_true] at h
        obtain ⟨v, hv, hK⟩ := h
        by_cases hpu : pureB o = true
        · exact anyH_first (M0 := []) ho (Region.noSelect_spec hs) _ listed a L hcl (fun _ h => by cases h) (fun j oj h1 h2 h3 => (hfr j oj h1 h2 h3).imp id (fun k => ⟨k.1, .inl rfl⟩)) hr' (.inl ⟨hw, fun u _ => pure_any hpu (hv s0 h0) u⟩)
            (anyH_phase0 hs h0 ord f _ _ (closedL_set hcl hr') hB' hK)
        · exact anyH_first (M0 := L) ho (Region.noSelect_spec hs) _ listed a L hcl (fun _ h => h) (fun j oj h1 h2 h3 => (hfr j oj h1 h2 h3).imp id (fun k => ⟨k.1, .inr (k.2.resolve_left hpu)⟩)) hr' (.inl ⟨hw, hv⟩)
            (anyH_phase0 hs h0 ord f _ _ (closedL_set hcl hr') hB' hK)
      · simp only [hw, Bool.false_eq_true, if_false] at h
        have hw' : Region.wanted o (yielded l.toArray a.tmps) = false := by simpa using hw
        exact anyH_first (M0 := []) ho (Region.noSelect_spec hs) _ listed a L hcl (fun _ h => by cases h) (fun j oj h1 h2 h3 => (hfr j oj h1 h2 h3).imp id (fun k => ⟨k.1, .inl rfl⟩)) hr' (.inr ⟨hw', rfl⟩)
            (anyH_phase0 hs h0 ord f _ _ (closedL_set hcl hr') hB' h)
/-- what has been listed is closed: as a Bool -/
def closedB (md : Region.Mode) (ops : Array Oper) (listed : Array Bool) : Bool :=
  (List.range ops.size).all fun j => !listed.getD j false || match ops[j]? with
    | some oj => oj.after.all fun e => !Region.binds md e || listed.getD e.on false
    | none => true
theorem closedL_of {listed : Array Bool} (h : closedB md ops listed = true) : closedL md ops listed := by
  intro j oj hj hl e he hb
  simp only [closedB, List.all_eq_true, List.mem_range] at h
  have h1 := h j (Array.getElem?_eq_some_iff.1 hj).1
  simp only [hl, hj, Bool.not_true, Bool.false_or] at h1
  have h2 := Array.all_eq_true_iff_forall_mem.1 h1 e he
  simpa [hb] using h2
theorem anyH_phase {Q : Act → Boxes → Prop} {l : List Oper} {F : Nat} (ord : List Nat) (f : Nat) {L : Boxes} {listed : Array Bool} {a : Act} (hF : F = ord.length + f) (h0 : ∃ u, EnvX w0 u L)
    (hB : (Region.noSelect l.toArray && closedB md l.toArray listed && lexG md l.toArray ord listed) = true)
    (h : wpG P l (EnvC w0 L) (fun a' => anyH P md l.toArray w0 Q f (listedBy ord listed) a' L) ord a) : anyH P md l.toArray w0 Q F listed a L := by
  subst hF
  simp only [Bool.and_eq_true] at hB
  obtain ⟨s0, hs0⟩ := h0
  exact anyH_phase0 hB.1.1 hs0 ord f listed a (closedL_of hB.1.2) hB.2 h.out
/-- A REGION THAT DRAWS ITS ORDER -/
theorem wp_region_H {id : Nat} {Q : Exit → Act → World → Prop} {a : Act} {w : World} {l : List Oper} (L : Boxes) (hm : P.follows .mixedOrders = true) (hE : EnvX w0 w L)
    (h : anyH P .any l.toArray w0 (fun a M => ∀ u, EnvX w0 u M → Q .normal a u) l.toArray.size (Array.replicate l.toArray.size false) a L) :
    (Code.region id l.toArray true).wp P Q a w :=
  wp_region_any hm (wpAny_of_H (w0 := w0) (Q := fun a M => ∀ u, EnvX w0 u M → Q .normal a u) (fun _ _ u hu hh => hh u hu) _ _ _ L _ hE.drew h)
/-- A PLAIN REGION, in the text's order -/
def lexH (P : Program) (ops : Array Oper) (w0 : World) (Q : Act → Boxes → Prop) : List Nat → Act → Boxes → Prop
  | [], a, M => Q a M
  | i :: rest, a, M => hOp P ops w0 i (lexH P ops w0 Q rest) a M
theorem wpOps_of_lexH {Q : Act → Boxes → Prop} {Q' : Exit → Act → World → Prop} (hQ : ∀ a M u, EnvX w0 u M → Q a M → Q' .normal a u) :
    ∀ (l : List Nat) (a : Act) (M : Boxes) (u : World), EnvX w0 u M → lexH P ops w0 Q l a M → wpOps P ops Q' l a u
  | [], _, _, _, hu, h => hQ _ _ _ hu h
  | i :: l, _, _, _, hu, h => by
    rw [wpOps_cons]
    exact wpOp_of_hOp hu (fun a' M' u' hu' => wpOps_of_lexH hQ l a' M' u' hu') h
theorem lexH_phase0 {l : List Oper} {Q : Act → Boxes → Prop} {L : Boxes} (rest : List Nat) : ∀ (ord : List Nat) (a : Act), wpG0 P l (EnvC w0 L) (fun a' => lexH P l.toArray w0 Q rest a' L) ord a → lexH P l.toArray w0 Q (ord ++ rest) a L
  | [], a, h => h
  | i :: ord, a, h => by
    unfold wpG0 at h
    show hOp P l.toArray w0 i (lexH P l.toArray w0 Q (ord ++ rest)) a L
    unfold hOp
    cases hl : l[i]? with
    | none => simp only [hl] at h
    | some o =>
      simp only [hl] at h
      have ho : l.toArray[i]? = some o := by simpa using hl
      simp only [ho]
      split
      · rename_i hw
        simp only [hw, if_true] at h
        obtain ⟨v, hv, hK⟩ := h
        exact .inl ⟨v, L, fun _ h => h, hv, lexH_phase0 rest ord _ hK⟩
      · rename_i hw
        simp only [hw] at h
        exact lexH_phase0 rest ord _ h
theorem lexH_phase {l : List Oper} {Q : Act → Boxes → Prop} {L : Boxes} (ord rest : List Nat) {a : Act} (h : wpG P l (EnvC w0 L) (fun a' => lexH P l.toArray w0 Q rest a' L) ord a) : lexH P l.toArray w0 Q (ord ++ rest) a L :=
  lexH_phase0 rest ord a h.out
theorem wp_region_Hx {id : Nat} {Q : Exit → Act → World → Prop} {a : Act} {w : World} {l : List Oper} (all : List Nat) (L : Boxes) (hr : List.range l.toArray.size = all) (hE : EnvX w0 w L)
    (h : lexH P l.toArray w0 (fun a M => ∀ u, EnvX w0 u M → Q .normal a u) all a L) : (Code.region id l.toArray false).wp P Q a w :=
  wp_region (by rw [hr]; exact wpOps_of_lexH (w0 := w0) (Q := fun a M => ∀ u, EnvX w0 u M → Q .normal a u) (fun _ _ u hu hh => hh u hu) _ a L w hE h)

section
variable {Q : Act → Boxes → Prop} {f : Nat} {listed : Array Bool} {a : Act} {M : Boxes} {K : Act → Boxes → Prop} {i : Nat} {dst : Option Tmp} {op : Op} {ty : TypeId} {pos : String} {after : Array Edge}
theorem anyH_done (hr : Region.ready md ops listed = []) (h : Q a M) : anyH P md ops w0 Q 0 listed a M := ⟨hr, h⟩
theorem anyH_one (hr : Region.ready md ops listed = [i]) (h : hOp P ops w0 i (anyH P md ops w0 Q f (listed.setIfInBounds i true)) a M) : anyH P md ops w0 Q (f + 1) listed a M :=
  ⟨(fun h0 => by rw [hr] at h0; cases h0), (fun j hj => by rw [hr] at hj; cases List.mem_singleton.1 hj; exact h)⟩
/-- an operation that makes memory: the frame behind it is written out by '.move (.const x)' -/
theorem hOp_fresh {o : Oper} (R : Value → Boxes → Prop) (M0 : Boxes) (ho : ops[i]? = some o) (heq : o = ⟨dst, op, ty, pos, after, none⟩) (hM : ∀ x ∈ M0, x ∈ M) (hv : ∀ u, EnvX w0 u M0 → FAt P ⟨dst, op, ty, pos, after, none⟩ a R u)
    (h : ∀ x N, R x N → freshN w0 N M → (∃ u, EnvX w0 u (N ++ M)) → ∀ K' : Act → Prop, (∀ a', K a' (N ++ M) → K' a') → Oper.quiet P ⟨dst, .move (.const x), ty, pos, after, none⟩ a (fun _ => True) K') : hOp P ops w0 i K a M := by
  subst heq
  unfold hOp
  simp only [ho, Region.wanted, if_true]
  exact .inr (.inl ⟨R, M0, hM, hv, fun x N hR hf hE => put_told (K := fun a' => K a' (N ++ M)) w0 (h x N hR hf hE)⟩)
/-- an append to one's own: boxes as they are told by R behind it -/
theorem hOp_own {o : Oper} {gd : Option (Nat × Bool)} (R : Value → Boxes → Prop) (ho : ops[i]? = some o) (heq : o = ⟨dst, op, ty, pos, after, gd⟩) (hst : storeB o = true) (hw : Region.wanted ⟨dst, op, ty, pos, after, gd⟩ (yielded ops a.tmps) = true)
    (hv : ∀ u, EnvX w0 u M → ∃ x u' M', (execOp a.eval ⟨dst, op, ty, pos, after, gd⟩).run P u = .ok (.value x) u' ∧ EnvX w0 u' M' ∧ R x M')
    (h : ∀ x M', R x M' → (∃ u, EnvX w0 u M') → ∀ K' : Act → Prop, (∀ a', K a' M' → K' a') → Oper.quiet P ⟨dst, .move (.const x), ty, pos, after, none⟩ a (fun _ => True) K') : hOp P ops w0 i K a M := by
  subst heq
  unfold hOp
  simp only [ho, hw, if_true]
  exact .inr (.inr (.inr ⟨hst, R, fun u hu => (by
    obtain ⟨x, u', M', hr, hE⟩ := hv u hu
    rw [hr]
    exact ⟨M', hE⟩), fun x M' hR hE => put_told (K := fun a' => K a' M') w0 (h x M' hR hE)⟩))
/-- a store at a place of a box -/
theorem hOp_storeAt {ty' : TypeId} {x y : Operand} (ho : ops[i]? = some ⟨none, .store ty' x y, ty, pos, after, none⟩)
    (g k : Nat) (v : Value) (hx : a.eval x = .pointer (some ⟨g, k, none⟩)) (hy : a.eval y = v) (hg : w0.heap.size ≤ g) (t : TypeId) (old cs : Array Value) (hm : (g, Obj.cells old t (0, 0)) ∈ M)
    (hi : (P.info? ty').map (·.size) = some v.cells.size) (hk : k + v.cells.size ≤ old.size) (h1 : v.cells.all (·.oneCell') = true) (hcs : old.toList.take k ++ v.cells.toList ++ old.toList.drop (k + v.cells.size) = cs.toList) (M' : Boxes) (hM' : ∀ x ∈ M', x = (g, Obj.cells cs t (0, 0)) ∨ (x ∈ M ∧ x.1 ≠ g))
    (h : (∃ u, EnvX w0 u M') → K (a.put none undef) M') : hOp P ops w0 i K a M := by
  unfold hOp
  simp only [ho, Region.wanted, if_true]
  refine .inr (.inr (.inl ⟨rfl, g, old, cs, t, M', hg, hm, fun u hu => ?_, hM', h⟩))
  have hst := run_storeCells_at P g k t v.cells.toList 0 old u hu (by simpa using hk) (fun z hz => (Array.all_eq_true_iff_forall_mem.1 h1) z (by simpa using hz))
  have hsv : (storeVar ty' ⟨g, k, none⟩ v).run P u = .ok () (u.setRow g cs) := by
    have e : (old.toList.take (k + 0) ++ v.cells.toList ++ old.toList.drop (k + 0 + v.cells.toList.length)).toArray = cs := by
      rw [Nat.add_zero, Array.length_toList, hcs, Array.toArray_toList]
    rw [e] at hst
    cases hq : P.info? ty' with
    | none => simp [hq] at hi
    | some i =>
      have hs : v.cells.size = i.size := by simp [hq] at hi; omega
      simp [storeVar, sizeOf, typeInfo, hq, hs, hst]
  unfold execOp
  simp only [hx, hy, Instr.storeAt, Instr.sureAddr, Sem.run_bind, Sem.run_pure, Result.andThen_ok, hsv]
theorem FAt_new {z : Obj} {o : Oper} (hz : NewAt P o a z) (u : World) : FAt P o a (fun x N => ∃ g, x = .pointer (some ⟨g, 0, none⟩) ∧ N = [(g, z)]) u := by
  unfold FAt
  rw [hz u]
  refine ⟨(Below.refl _ _).alloc (Nat.le_refl _) _, _, ⟨_, rfl, rfl⟩, fun y hy => ?_⟩
  cases List.mem_singleton.1 hy
  exact ⟨Nat.le_refl _, heap_alloc_new u z⟩
/-- a call that hands back new memory -/
theorem FAt_call {fn : Func} {c : Code} {fid : FuncId} {xs : Array Operand} {ats : Array TypeId} {args : Array Value} {R : Value → Boxes → Prop} {gd : Option (Nat × Bool)} (hargs : xs.toList.map a.eval = args.toList) (hfn : P.funcs[fid]? = some fn) (hname : (fn.name == "runtime.NumGoroutine") = false) (hb : fn.body = some c) (u : World)
    (hc : Calls P fid args u (fun e w'' => ∃ x N, e = .returned x ∧ R x N ∧ Below u.heap.size u w'' ∧ ∀ y ∈ N, u.heap.size ≤ y.1 ∧ w''.heap[y.1]? = some y.2)) :
    FAt P ⟨dst, .call { callee := .value (.func fid), args := xs, argTypes := ats }, ty, pos, after, gd⟩ a R u := by
  have hrun : (execOp a.eval ⟨dst, .call { callee := .value (.func fid), args := xs, argTypes := ats }, ty, pos, after, gd⟩).run P u = .ok (.enter fid args) u := by
    have ha : xs.map a.eval = args := by
      apply Array.ext'
      rw [Array.toList_map]
      exact hargs
    rw [execOp_call_go]
    simp only [Array.empty_append, Array.append_empty, ha]
    exact run_enter hfn hname hb _ u
  unfold FAt
  rw [hrun]
  exact ⟨rfl, hc⟩
/-- a store of a whole row -/
theorem hOp_store {ty' : TypeId} {x y : Operand} (ho : ops[i]? = some ⟨none, .store ty' x y, ty, pos, after, none⟩)
    (g : Nat) (cs : Array Value) (hx : a.eval x = .pointer (some ⟨g, 0, none⟩)) (hy : a.eval y = .agg cs) (hg : w0.heap.size ≤ g) (t : TypeId) (old : Array Value) (hm : (g, Obj.cells old t (0, 0)) ∈ M)
    (hi : (P.info? ty').map (·.size) = some cs.size) (hold : old.size = cs.size) (h1 : cs.all (·.oneCell') = true) (M' : Boxes) (hM' : ∀ x ∈ M', x = (g, Obj.cells cs t (0, 0)) ∨ (x ∈ M ∧ x.1 ≠ g))
    (h : (∃ u, EnvX w0 u M') → K a M') : hOp P ops w0 i K a M := by
  unfold hOp
  simp only [ho, Region.wanted, if_true]
  refine .inr (.inr (.inl ⟨rfl, g, old, cs, t, M', hg, hm, fun u hu => ?_, hM', h⟩))
  unfold execOp
  simp only [hx, hy, Instr.storeAt, Instr.sureAddr, Sem.run_bind, Sem.run_pure, Result.andThen_ok, run_storeVar_row u g t ty' old cs hu hi hold h1]
end
end
end Go.Proofs.YtmpjgfecnnefeaaDoor

namespace Go.Proofs.YtmpjgfecnnefeaaDoor
set_option maxRecDepth 8000
open Go.RowKit

theorem isIds.flat_take {l : List (List Int)} (h : isIds l) (k : Nat) : (l.take k).flatten = l.flatten.take (k * 32) := by
  induction l generalizing k with
  | nil => simp
  | cons x l ih =>
    have hx := (h x (List.mem_cons_self ..)).1
    cases k with
    | zero => simp
    | succ k =>
      rw [List.take_succ_cons, List.flatten_cons, List.flatten_cons, ih (fun y hy => h y (List.mem_cons_of_mem _ hy)), List.take_append, List.take_of_length_le (by omega : x.length ≤ (k + 1) * 32), hx, show (k + 1) * 32 - 32 = k * 32 by omega]
theorem isIds.flat_drop {l : List (List Int)} (h : isIds l) (k : Nat) : (l.drop k).flatten = l.flatten.drop (k * 32) := by
  induction l generalizing k with
  | nil => simp
  | cons x l ih =>
    have hx := (h x (List.mem_cons_self ..)).1
    cases k with
    | zero => simp
    | succ k =>
      rw [List.drop_succ_cons, List.flatten_cons, ih (fun y hy => h y (List.mem_cons_of_mem _ hy)), List.drop_append, List.drop_of_length_le (by omega : x.length ≤ (k + 1) * 32), hx, show (k + 1) * 32 - 32 = k * 32 by omega, List.nil_append]
theorem IdsIn.take {w : World} {B : Nat} {A : Option Addr} {l : List (List Int)} (h : IdsIn w B A l) (hl : isIds l) (k : Nat) : IdsIn w B A (l.take k) := by
  unfold IdsIn
  rw [hl.flat_take k]
  exact Bytes.take h _
/-- where a cut slice of ids begins -/
def cutI' (A : Option Addr) (l c : Nat) : Option Addr := if c = l then A else A.map (·.add (l * 32))
theorem add_add32 (a : Addr) (l j : Nat) : (a.add l).add j = a.add (l + j) := by
  unfold Addr.add
  by_cases h : l = 0
  · simp [h]
  · by_cases h2 : j = 0
    · simp [h, h2]
    · simp [h, h2, Nat.add_assoc]
theorem IdsIn.drop {w : World} {B : Nat} {A : Option Addr} {l : List (List Int)} (h : IdsIn w B A l) (hl : isIds l) (k c : Nat) (hc : l.length ≤ c) : IdsIn w B (cutI' A k c) (l.drop k) := by
  intro hp
  have e := hl.flat_drop k
  have hfl := hl.flat_len
  rw [e, List.length_drop] at hp
  obtain ⟨ad, rfl, hlt, hcell⟩ := h (by omega)
  have hne : ¬ c = k := by omega
  refine ⟨ad.add (k * 32), by simp [cutI', hne], by rw [block_of_add]; exact hlt, fun j v hv => ?_⟩
  rw [add_add32]
  refine hcell (k * 32 + j) v ?_
  rw [e, List.map_drop, List.getElem?_drop] at hv
  exact hv
section
variable {a : Act} {dst : Option Tmp} {x l h : Operand} {ty : TypeId} {pos : String} {after : Array Edge} {gd : Option (Nat × Bool)}
end
end Go.Proofs.YtmpjgfecnnefeaaDoor

namespace Go.Proofs.YtmpjgfecnnefeaaDoor
set_option maxRecDepth 8000
open Go.RowKit

theorem sumL_byte (xs : List Int) : ∀ x ∈ sumL xs, 0 ≤ x ∧ x ≤ 255 := by
  have h : ∀ (s : S8) (k : Nat), ∀ x ∈ idPre s k, 0 ≤ x ∧ x ≤ 255 := by
    intro s k
    induction k with
    | zero => intro x hx; cases hx
    | succ k ih =>
      intro x hx
      unfold idPre at hx
      rcases List.mem_append.1 hx with h | h
      · exact ih x h
      · unfold bytes4 at h
        simp at h
        omega
  unfold sumL
  exact h _ _
theorem wpList_load_run {P : Program} {ops : Array Oper} {rest : List Oper} {o : Oper} {a : Act} {w : World} {Q : Exit → Act → World → Prop} {v : Value} (hgd : o.guard = none) (ty : TypeId) (x : Operand) (ho : o.op = .load ty x) (ad : Addr) (hx : a.eval x = .pointer (some ad))
    (hrun : (loadVar ty ad).run P w = .ok v w) (h : wpList P ops Q rest (a.put o.dst v) w) : wpList P ops Q (o :: rest) a w :=
  wpList_plain hgd fun _ hK => by
    unfold Oper.wp execOp
    simp only [ho, hx, Instr.loadAt, Instr.sureAddr, Sem.run_bind, Sem.run_pure, Result.andThen_ok, hrun]
    exact hK _ _ h
end Go.Proofs.YtmpjgfecnnefeaaDoor

namespace Go.Proofs.YtmpjgfecnnefeaaDoor
set_option maxRecDepth 8000
open Go.RowKit

def OwnI (w : World) (B : Nat) (v : Value) (l : List (List Int)) : Prop := w.ownsRow B 23 32 v l.length (l.flatten.map u8v)
theorem OwnI.nil (w : World) (B : Nat) : OwnI w B (.slice none 0 0) [] := World.ownsRow_nil _ _ _ _
theorem OwnI.form {w : World} {B : Nat} {v : Value} {l : List (List Int)} (h : OwnI w B v l) : ∃ A c, v = .slice A l.length c ∧ l.length ≤ c ∧ c ≤ maxLen := by
  rcases h.2 with ⟨rfl, e⟩ | ⟨g, cap, cur, rfl, _, _, h1, h2, _⟩
  · exact ⟨none, 0, by rw [e], by omega, Nat.zero_le _⟩
  · exact ⟨_, cap, rfl, h1, h2⟩
theorem OwnI.below {w w' : World} {B : Nat} {v : Value} {l : List (List Int)} (h : OwnI w B v l) (hb : Below w.heap.size w w') : OwnI w' B v l := by
  refine ⟨h.1, ?_⟩
  rcases h.2 with h0 | ⟨g, cap, cur, e, hg, hh, h1⟩
  · exact .inl h0
  · exact .inr ⟨g, cap, cur, e, hg, (hb.block g (Row.lt (t := 23) hh)).trans hh, h1⟩
/-- ids of one's own, as boxes -/
def FreshI (l : List (List Int)) (x : Value) (N : Boxes) : Prop :=
  (∃ g cap cur, x = .slice (some ⟨g, 0, none⟩) l.length cap ∧ N = [(g, Obj.cells cur 23 (0, 0))] ∧ l.length ≤ cap ∧ cap ≤ maxLen ∧ cur.size = cap * 32 ∧ cur.toList.take (l.length * 32) = l.flatten.map u8v) ∨
  (x = .slice none 0 0 ∧ N = [] ∧ l = [])
theorem FreshI.own {w : World} {B : Nat} {v : Value} {l : List (List Int)} {N : Boxes} (h : FreshI l v N) (hl : isIds l) (hN : ∀ y ∈ N, B ≤ y.1 ∧ w.heap[y.1]? = some y.2) : OwnI w B v l := by
  refine ⟨by rw [List.length_map]; exact hl.flat_len, ?_⟩
  rcases h with ⟨g, cap, cur, rfl, rfl, h3⟩ | ⟨rfl, rfl, rfl⟩
  · obtain ⟨k1, k2⟩ := hN _ (List.mem_singleton.2 rfl)
    exact .inr ⟨g, cap, cur, rfl, k1, k2, h3⟩
  · exact .inl ⟨rfl, rfl⟩
theorem FreshI.block {v : Value} {l : List (List Int)} {N : Boxes} (h : FreshI l v N) : ∀ g, v.ownBlock = some g → ∃ o, (g, o) ∈ N := by
  intro g hg
  rcases h with ⟨g', cap, cur, rfl, rfl, h3⟩ | ⟨rfl, rfl, rfl⟩
  · cases hg
    exact ⟨_, List.mem_singleton.2 rfl⟩
  · cases hg
end Go.Proofs.YtmpjgfecnnefeaaDoor
