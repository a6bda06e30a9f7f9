/- Regions that draw their order and hold loads, calls told by Below, new variables, and stores into them: walked once. -/
import Derived.Test.YtgiacilkecoenaaDoorCc
import Derived.StillTailTactics
namespace Go.Proofs.YtgiacilkecoenaaDoor
open Go.RowKit

section
variable {P : Program} {ops : Array Oper} {md : Region.Mode} {S : World → Prop} {w0 : World}

/-- what an operation that makes no memory, or a call told by Below, yields -/
def GUpon (P : Program) (u : World) (v : Value) : Result Next → Prop
  | .ok (.value x) u' => u' = u ∧ x = v
  | .ok .skip u' => u' = u ∧ v = undef
  | .ok (.enter f args) u' => u' = u ∧ Calls P f args u (fun e w'' => e = .returned v ∧ Below u.heap.size u w'')
  | _ => False
def GAt (P : Program) (o : Oper) (a : Act) (v : Value) (u : World) : Prop := GUpon P u v ((execOp a.eval o).run P u)
/-- the same in every world -/
def pureB (o : Oper) : Bool := match o.op with | .move _ | .assign _ | .extract _ _ => true | _ => false
def storeB (o : Oper) : Bool := match o.op with | .store _ _ _ => true | .call c => (match c.callee with | .builtin .append => true | .value (.tmp _) => true | _ => false) | _ => false
theorem pure_any {o : Oper} (h : pureB o = true) {a : Act} {v : Value} {u : World} (hq : GAt P o a v u) (u' : World) : GAt P o a v u' := by
  unfold GAt at *
  unfold pureB at h
  unfold execOp at *
  cases hop : o.op <;> simp only [hop] at h hq ⊢ <;> first | (cases h; done) | skip
  case move x => exact ⟨rfl, hq.2⟩
  case assign x => exact ⟨rfl, hq.2⟩
  case extract x i =>
    cases hx : a.eval x with
    | tuple vs =>
      simp only [hx, Instr.extract] at hq ⊢
      cases hv : vs[i]? with
      | none => simp only [hv] at hq; exact hq.elim
      | some y => simp only [hv] at hq ⊢; exact ⟨rfl, hq.2⟩
    | _ => simp only [hx, Instr.extract] at hq; exact hq.elim

/-- a new block of its own -/
def NewAt (P : Program) (o : Oper) (a : Act) (z : Obj) : Prop := ∀ u, (execOp a.eval o).run P u = .ok (.value (.pointer (some ⟨u.heap.size, 0, none⟩))) (u.alloc z)
/-- a store of a whole row -/
def PutAt (P : Program) (o : Oper) (a : Act) (g : Nat) (old cs : Array Value) (t : TypeId) : Prop := ∀ u, u.heap[g]? = some (.cells old t (0, 0)) → (execOp a.eval o).run P u = .ok .skip (u.setRow g cs)

/-- One operation, over boxes that are known: quiet, the same everywhere, a new block, a store. -/
def gOp (P : Program) (ops : Array Oper) (S : World → Prop) (w0 : World) (i : Nat) (K : Act → Bool → List (Nat × Obj) → Prop) (a : Act) (b : Bool) (M : List (Nat × Obj)) : Prop :=
  match ops[i]? with
  | none => K a b M
  | some o => if Region.wanted o (yielded ops a.tmps) then
      ((∃ v, ((b = true ∧ ∀ u, S u → GAt P o a v u) ∨ ∀ u, GAt P o a v u) ∧ K (a.put o.dst v) b M) ∨
       (∃ z, NewAt P o a z ∧ ∀ g, w0.heap.size ≤ g → (∀ x ∈ M, x.1 ≠ g) → K (a.put o.dst (.pointer (some ⟨g, 0, none⟩))) b ((g, z) :: M)) ∨
       (storeB o = true ∧ ∃ g old cs t M', w0.heap.size ≤ g ∧ (g, Obj.cells old t (0, 0)) ∈ M ∧ PutAt P o a g old cs t ∧ (∀ x ∈ M', x = (g, Obj.cells cs t (0, 0)) ∨ (x ∈ M ∧ x.1 ≠ g)) ∧ K (a.put o.dst undef) false M'))
    else K (a.put o.dst undef) b M
/-- whatever order is picked -/
def wpAnyG (P : Program) (md : Region.Mode) (ops : Array Oper) (S : World → Prop) (w0 : World) (Q : Act → Bool → List (Nat × Obj) → Prop) : Nat → Array Bool → Act → Bool → List (Nat × Obj) → Prop
  | 0, listed, a, b, M => Region.ready md ops listed = [] ∧ Q a b M
  | f + 1, listed, a, b, M => (Region.ready md ops listed = [] → Q a b M) ∧ ∀ i ∈ Region.ready md ops listed, gOp P ops S w0 i (wpAnyG P md ops S w0 Q f (listed.setIfInBounds i true)) a b M
/-- the worlds spoken of -/
def GT (S : World → Prop) (w0 : World) (b : Bool) (M : List (Nat × Obj)) (u : World) : Prop := (b = true → S u) ∧ EnvX w0 u M

theorem EnvX.put {w u : World} {l l' : List (Nat × Obj)} (h : EnvX w u l) {g : Nat} {old cs : Array Value} {t : TypeId} (hg : w.heap.size ≤ g) (hm : (g, Obj.cells old t (0, 0)) ∈ l)
    (hl : ∀ x ∈ l', x = (g, Obj.cells cs t (0, 0)) ∨ (x ∈ l ∧ x.1 ≠ g)) : EnvX w (u.setRow g cs) l' := by
  refine ⟨below_setRow h.bel hg _, fun k o hk => ?_⟩
  rcases hl _ hk with e | ⟨hk', hne⟩
  · cases e
    exact setRow_heap u g old cs t (0, 0) (h.box g _ hm)
  · exact (setRow_other u g k cs hne).trans (h.box k o hk')

theorem wpOp_of_gOp {i : Nat} {a : Act} {b : Bool} {M : List (Nat × Obj)} {K : Act → Bool → List (Nat × Obj) → Prop} {K' : Act → World → Prop} {Q' : Exit → Act → World → Prop} {u : World}
    (hS : ∀ u v, S u → Below u.heap.size u v → S v) (hu : GT S w0 b M u) (h : ∀ a b M u, GT S w0 b M u → K a b M → K' a u) (hh : gOp P ops S w0 i K a b M) : wpOp P ops Q' i K' a u := by
  unfold gOp at hh
  unfold wpOp
  split
  · rename_i ho; simp only [ho] at hh; exact h _ _ _ _ hu hh
  · rename_i o ho
    simp only [ho] at hh
    split
    · rename_i hw
      simp only [hw, if_true] at hh
      refine .inl ?_
      rcases hh with ⟨v, hv, hK⟩ | ⟨z, hz, hK⟩ | ⟨_, g, old, cs, t, M', hg, hm, hp, hM', hK⟩
      · have h3 : GAt P o a v u := by
          rcases hv with ⟨hb, hv⟩ | hv
          · exact hv u (hu.1 hb)
          · exact hv u
        unfold GAt at h3
        unfold Oper.wp
        generalize (execOp a.eval o).run P u = r at *
        cases r with
        | ok n w' =>
          cases n <;> simp only [GUpon] at h3 <;> simp only [Oper.upon]
          case value x =>
            obtain ⟨e1, e2⟩ := h3
            rw [e1, e2]
            exact h _ _ _ _ hu hK
          case skip =>
            obtain ⟨e1, e2⟩ := h3
            rw [e1, ← e2]
            exact h _ _ _ _ hu hK
          case enter f args =>
            obtain ⟨e1, hc⟩ := h3
            rw [e1]
            exact hc.mono fun e w'' ⟨he, hb⟩ => by subst he; exact h _ _ _ _ ⟨fun hb' => hS _ _ (hu.1 hb') hb, hu.2.below hb⟩ hK
        | halt x w' => simp only [GUpon] at h3
      · unfold Oper.wp
        rw [hz u]
        simp only [Oper.upon]
        have hfresh : ∀ x ∈ M, x.1 ≠ u.heap.size := fun x hx he => by
          have := hu.2.lt (g := x.1) (o := x.2) hx
          omega
        exact h _ _ _ _ ⟨fun hb => hS _ _ (hu.1 hb) ((Below.refl _ _).alloc (Nat.le_refl _) _), hu.2.new z⟩ (hK _ hu.2.bel.size hfresh)
      · unfold Oper.wp
        rw [hp u (hu.2.box g _ hm)]
        simp only [Oper.upon]
        exact h _ _ _ _ ⟨(fun hb => by cases hb), hu.2.put hg hm hM'⟩ hK
    · rename_i hw; simp only [hw] at hh; exact h _ _ _ _ hu hh
theorem wpAny_of_G (hS : ∀ u v, S u → Below u.heap.size u v → S v) {Q : Act → Bool → List (Nat × Obj) → Prop} {Q' : Exit → Act → World → Prop} (hQ : ∀ a b M u, GT S w0 b M u → Q a b M → Q' .normal a u) :
    ∀ (f : Nat) (listed : Array Bool) (a : Act) (b : Bool) (M : List (Nat × Obj)) (u : World), GT S w0 b M u → wpAnyG P md ops S w0 Q f listed a b M → wpAny P md ops Q' f listed a u
  | 0, _, _, _, _, _, hu, h => ⟨h.1, hQ _ _ _ _ hu h.2⟩
  | f + 1, _, _, _, _, _, hu, h => ⟨fun h0 => hQ _ _ _ _ hu (h.1 h0), fun i hi => wpOp_of_gOp hS hu (fun a' b' M' u' hu' => wpAny_of_G hS hQ f _ a' b' M' u' hu') (h.2 i hi)⟩

/-! ### what waits -/
def ancB (md : Region.Mode) (ops : Array Oper) : Nat → Nat → Nat → Bool
  | 0, _, _ => false
  | f + 1, j, i => match ops[j]? with
    | some o => o.after.any fun e => Region.binds md e && (e.on == i || ancB md ops f e.on i)
    | none => false
def closedL (md : Region.Mode) (ops : Array Oper) (listed : Array Bool) : Prop :=
  ∀ j oj, ops[j]? = some oj → listed.getD j false = true → ∀ e ∈ oj.after, Region.binds md e = true → listed.getD e.on false = true
theorem anc_listed {listed : Array Bool} (hc : closedL md ops listed) {i : Nat} : ∀ (f j : Nat), (∀ oj, ops[j]? = some oj → ∀ e ∈ oj.after, Region.binds md e = true → listed.getD e.on false = true) → ancB md ops f j i = true → listed.getD i false = true
  | 0, _, _, h => by simp [ancB] at h
  | f + 1, j, hj, h => by
    unfold ancB at h
    split at h
    · rename_i o ho
      obtain ⟨e, he, hb⟩ := Array.any_eq_true'.1 h
      simp only [Bool.and_eq_true, Bool.or_eq_true, beq_iff_eq] at hb
      have hl := hj o ho e he hb.1
      rcases hb.2 with h1 | h1
      · rw [← h1]; exact hl
      · exact anc_listed hc f e.on (fun oj hoj e' he' hb' => hc e.on oj hoj hl e' he' hb') h1
    · cases h
theorem closedL_set {listed : Array Bool} {i : Nat} (hc : closedL md ops listed) (hi : i ∈ Region.ready md ops listed) : closedL md ops (listed.setIfInBounds i true) := by
  obtain ⟨_, oi, hoi, hall⟩ := mem_ready.1 hi
  intro j oj hj hl e he hb
  by_cases hij : i = j
  · subst hij
    have : oj = oi := Option.some.inj (hj.symm.trans hoi)
    subst this
    exact getD_set_true (hall e he hb)
  · rw [getD_set_ne false hij] at hl
    exact getD_set_true (hc j oj hj hl e he hb)

/-- operation i yields v now -/
def YieldsG (P : Program) (ops : Array Oper) (S : World → Prop) (o : Oper) (v : Value) (b : Bool) (a : Act) : Prop :=
  (Region.wanted o (yielded ops a.tmps) = true ∧ ((b = true ∧ ∀ u, S u → GAt P o a v u) ∨ ∀ u, GAt P o a v u)) ∨
  (Region.wanted o (yielded ops a.tmps) = false ∧ v = undef)
theorem YieldsG.gOp {i : Nat} {o : Oper} {v : Value} {a : Act} {b : Bool} {M : List (Nat × Obj)} (hi : ops[i]? = some o) (hy : YieldsG P ops S o v b a) {K : Act → Bool → List (Nat × Obj) → Prop} (h : K (a.put o.dst v) b M) : gOp P ops S w0 i K a b M := by
  unfold Go.Proofs.YtgiacilkecoenaaDoor.gOp
  simp only [hi]
  rcases hy with ⟨hw, hv⟩ | ⟨hw, rfl⟩
  · simp only [hw, if_true]; exact .inl ⟨v, hv, h⟩
  · simp only [hw, Bool.false_eq_true, if_false]; exact h
theorem YieldsG.of_same {o : Oper} {v : Value} {a a' : Act} {b : Bool} (hy : YieldsG P ops S o v b a) (he : execOp a'.eval o = execOp a.eval o)
    (hw : Region.wanted o (yielded ops a'.tmps) = Region.wanted o (yielded ops a.tmps)) : YieldsG P ops S o v b a' := by
  unfold YieldsG GAt at *
  rw [he, hw]
  exact hy
/-- one that does not lean on the class may be taken whatever the mark -/
def lone (P : Program) (ops : Array Oper) (o : Oper) (v : Value) (a : Act) : Prop :=
  (Region.wanted o (yielded ops a.tmps) = true ∧ ∀ u, GAt P o a v u) ∨ (Region.wanted o (yielded ops a.tmps) = false ∧ v = undef)

theorem gOp_put {j : Nat} {oi oj : Oper} {v : Value} {b : Bool} {M : List (Nat × Obj)} (hj : ops[j]? = some oj) (hap : oi.apart ops oj = true)
    (hsi : ∀ cs b, oi.op ≠ .select cs b) (hsj : ∀ cs b, oj.op ≠ .select cs b) {K : Act → Bool → List (Nat × Obj) → Prop} {a : Act}
    (hy : YieldsG P ops S oi v b a) (hst : storeB oj = true → YieldsG P ops S oi v false a) (h : gOp P ops S w0 j K (a.put oi.dst v) b M) :
    gOp P ops S w0 j (fun a' b' M' => YieldsG P ops S oi v b' a' ∧ (b' = b ∨ storeB oj = true) ∧ K (a'.put oi.dst v) b' M') a b M := by
  obtain ⟨h1, h2, h3⟩ := Oper.apart_spec hap
  have keep : ∀ (a : Act) (b : Bool), YieldsG P ops S oi v b a → ∀ u, YieldsG P ops S oi v b (a.put oj.dst u) := fun a b hy u =>
    hy.of_same (execOp_put oi hsi a oj.dst u h3) (wanted_put oi a oj.dst u h3)
  have hex := execOp_put (ops := ops) oj hsj a oi.dst v h1
  unfold gOp at *
  simp only [hj] at *
  rw [wanted_put oj a oi.dst v h1] at h
  split
  · rename_i hw
    simp only [hw, if_true] at h
    rcases h with ⟨x, hx, hK⟩ | ⟨z, hz, hK⟩ | ⟨hs, g, old, cs, t, M', hg, hm, hp, hM', hK⟩
    · refine .inl ⟨x, ?_, keep a b hy x, by simp, by rw [← Act.put_comm a v x h2]; exact hK⟩
      unfold GAt at *
      rw [hex] at hx
      exact hx
    · refine .inr (.inl ⟨z, ?_, fun g hg hf => ⟨keep a b hy _, by simp, by rw [← Act.put_comm a v _ h2]; exact hK g hg hf⟩⟩)
      unfold NewAt at *
      rw [hex] at hz
      exact hz
    · refine .inr (.inr ⟨hs, g, old, cs, t, M', hg, hm, ?_, hM', keep a false (hst hs) _, by simp [hs], by rw [← Act.put_comm a v _ h2]; exact hK⟩)
      unfold PutAt at *
      rw [hex] at hp
      exact hp
  · rename_i hw
    simp only [hw] at h
    exact ⟨keep a b hy _, by simp, by rw [← Act.put_comm a v undef h2]; exact h⟩
theorem gOp_mono {i : Nat} {a : Act} {b : Bool} {M : List (Nat × Obj)} {K K' : Act → Bool → List (Nat × Obj) → Prop} (h : ∀ a b M, K a b M → K' a b M) (hh : gOp P ops S w0 i K a b M) : gOp P ops S w0 i K' a b M := by
  unfold gOp at *
  split
  · exact h _ _ _ (by simpa [*] using hh)
  · rename_i o ho
    simp only [ho] at hh
    split
    · rename_i hw
      simp only [hw, if_true] at hh
      rcases hh with ⟨v, hv, hK⟩ | ⟨z, hz, hK⟩ | ⟨hs, g, old, cs, t, M', hg, hm, hp, hM', hK⟩
      · exact .inl ⟨v, hv, h _ _ _ hK⟩
      · exact .inr (.inl ⟨z, hz, fun g hg hf => h _ _ _ (hK g hg hf)⟩)
      · exact .inr (.inr ⟨hs, g, old, cs, t, M', hg, hm, hp, hM', h _ _ _ hK⟩)
    · rename_i hw; simp only [hw] at hh; exact h _ _ _ hh

/-- operation i may be taken first -/
def gfree (md : Region.Mode) (ops : Array Oper) (listed : Array Bool) (i : Nat) (p : Bool) : Bool :=
  match ops[i]? with
  | none => false
  | some oi => (List.range ops.size).all fun j => j == i || listed.getD j true || match ops[j]? with
      | some oj => (oi.apart ops oj && (p || !storeB oj)) || oj.after.any (fun e => Region.binds md e && e.on == i) || ancB md ops ops.size j i
      | none => true
/-- every operation that waits for i, in the end, waits while i does -/
theorem wpAnyG_first {Q : Act → Bool → List (Nat × Obj) → Prop} {i : Nat} {oi : Oper} {v : Value} (hi : ops[i]? = some oi) (hsel : ∀ (j : Nat) (o : Oper) cs b, ops[j]? = some o → o.op ≠ .select cs b) (p : Bool)
    (hp : p = true → ∀ b b' a, YieldsG P ops S oi v b a → YieldsG P ops S oi v b' a) :
    ∀ (fuel : Nat) (listed : Array Bool) (a : Act) (b : Bool) (M : List (Nat × Obj)), closedL md ops listed →
      (∀ j oj, ops[j]? = some oj → j ≠ i → listed.getD j true = false → ancB md ops ops.size j i = true ∨ (oi.apart ops oj = true ∧ (p = true ∨ storeB oj = false))) →
      i ∈ Region.ready md ops listed → YieldsG P ops S oi v b a →
      wpAnyG P md ops S w0 Q fuel (listed.setIfInBounds i true) (a.put oi.dst v) b M → wpAnyG P md ops S w0 Q (fuel + 1) listed a b M := by
  intro fuel
  induction fuel with
  | zero =>
    intro listed a b M _ _ hr hy H
    refine ⟨fun h => (by rw [h] at hr; cases hr), fun j hj => ?_⟩
    by_cases hji : j = i
    · subst hji; exact hy.gOp hi H
    · have := ready_mono hj hji
      rw [H.1] at this
      cases this
  | succ fuel ih =>
    intro listed a b M hcl hfree hr hy H
    refine ⟨fun h => (by rw [h] at hr; cases hr), fun j hj => ?_⟩
    by_cases hji : j = i
    · subst hji; exact hy.gOp hi H
    · have h1 := H.2 j (ready_mono hj hji)
      obtain ⟨hjun, oj, hoj, hall⟩ := mem_ready.1 hj
      have h0 := (mem_ready.1 hr).1
      have hno : ¬ ancB md ops ops.size j i = true := fun ha => by
        have hl := anc_listed hcl (i := i) ops.size j (fun o ho e he hb => by
          have : o = oj := Option.some.inj (ho.symm.trans hoj)
          subst this
          exact hall e he hb) ha
        rcases Nat.lt_or_ge i listed.size with h' | h'
        · simp [h'] at h0 hl; rw [h0] at hl; cases hl
        · simp [Array.getElem?_eq_none h'] at hl
      rcases hfree j oj hoj hji hjun with hf | ⟨hap, hps⟩
      · exact absurd hf hno
      · have hst : storeB oj = true → YieldsG P ops S oi v false a := fun hs => by
          rcases hps with hp' | hn
          · exact hp hp' _ _ _ hy
          · rw [hn] at hs; cases hs
        have h2 := gOp_put hoj hap (fun cs b => hsel i oi cs b hi) (fun cs b => hsel j oj cs b hoj) hy hst h1
        have hfree' : ∀ k ok, ops[k]? = some ok → k ≠ i → (listed.setIfInBounds j true).getD k true = false → ancB md ops ops.size k i = true ∨ (oi.apart ops ok = true ∧ (p = true ∨ storeB ok = false)) := fun k ok hk hki hun => by
          refine hfree k ok hk hki ?_
          by_cases hjk : j = k
          · subst hjk; exact hjun
          · rw [getD_set_ne true hjk] at hun; exact hun
        refine gOp_mono (fun a' b' M' h3 => ih (listed.setIfInBounds j true) a' b' M' (closedL_set hcl hj) hfree' (ready_mono hr (Ne.symm hji)) h3.1 ?_) h2
        rw [Array.setIfInBounds_comm _ _ hji]
        exact h3.2.2

/-- The walk of the quiet ones, in the order that is given. -/
def wpG0 (P : Program) (l : List Oper) (S : World → Prop) (Q : Act → Prop) : List Nat → Act → Prop
  | [], a => Q a
  | i :: rest, a => match l[i]? with
    | none => False
    | some o => if Region.wanted o (yielded l.toArray a.tmps) then ∃ v, (∀ u, S u → GAt P o a v u) ∧ wpG0 P l S Q rest (a.put o.dst v) else wpG0 P l S Q rest (a.put o.dst undef)
structure wpG (P : Program) (l : List Oper) (S : World → Prop) (Q : Act → Prop) (ord : List Nat) (a : Act) : Prop where
  out : wpG0 P l S Q ord a
def lexG (md : Region.Mode) (ops : Array Oper) : List Nat → Array Bool → Bool
  | [], _ => true
  | i :: rest, listed => (Region.ready md ops listed).contains i && gfree md ops listed i ((ops[i]?.map pureB).getD false) && lexG md ops rest (listed.setIfInBounds i true)
def listedBy : List Nat → Array Bool → Array Bool
  | [], l => l
  | i :: rest, l => listedBy rest (l.setIfInBounds i true)
theorem gfree_spec {i : Nat} {oi : Oper} {listed : Array Bool} {p : Bool} (hi : ops[i]? = some oi) (h : gfree md ops listed i p = true) (j : Nat) (oj : Oper) (hj : ops[j]? = some oj) (hne : j ≠ i) (hun : listed.getD j true = false) :
    ancB md ops ops.size j i = true ∨ (oi.apart ops oj = true ∧ (p = true ∨ storeB oj = false)) := by
  simp only [gfree, hi, List.all_eq_true, List.mem_range] at h
  have hsz := (Array.getElem?_eq_some_iff.1 hj).1
  have h1 := h j hsz
  simp only [hj, Bool.or_eq_true, beq_iff_eq, hne, false_or, hun, Bool.false_eq_true, Bool.and_eq_true, Bool.not_eq_true'] at h1
  rcases h1 with (h1 | h1) | h1
  · exact .inr h1
  · left
    obtain ⟨n, hn⟩ : ∃ n, ops.size = n + 1 := ⟨ops.size - 1, by omega⟩
    rw [hn]
    unfold ancB
    simp only [hj]
    obtain ⟨e, he, hb⟩ := Array.any_eq_true'.1 h1
    simp only [Bool.and_eq_true, beq_iff_eq] at hb
    exact Array.any_eq_true'.2 ⟨e, he, by simp [hb.1, hb.2]⟩
  · exact .inl h1
theorem wpAnyG_lex {Q : Act → Bool → List (Nat × Obj) → Prop} {l : List Oper} (hs : Region.noSelect l.toArray = true) {s0 : World} (h0 : S s0) {M : List (Nat × Obj)} : ∀ (ord : List Nat) (f : Nat) (listed : Array Bool) (a : Act), closedL md l.toArray listed →
    lexG md l.toArray ord listed = true → wpG0 P l S (fun a' => wpAnyG P md l.toArray S w0 Q f (listedBy ord listed) a' true M) ord a → wpAnyG P md l.toArray S w0 Q (ord.length + f) listed a true M
  | [], f, listed, a, _, _, h => by simpa [wpG0, listedBy] using h
  | i :: ord, f, listed, a, hcl, hB, h => by
    simp only [lexG, Bool.and_eq_true] at hB
    obtain ⟨⟨hr, hf⟩, hB'⟩ := hB
    have hr' : i ∈ Region.ready md l.toArray listed := by simpa using hr
    unfold wpG0 at h
    cases hl : l[i]? with
    | none => simp only [hl] at h
    | some o =>
      simp only [hl] at h
      have ho : l.toArray[i]? = some o := by simpa using hl
      have hpp : (l.toArray[i]?.map pureB).getD false = pureB o := by rw [ho]; rfl
      rw [hpp] at hf
      have hlen : (i :: ord).length + f = (ord.length + f) + 1 := by simp only [List.length_cons]; omega
      rw [hlen]
      have hpy : pureB o = true → ∀ v b b' a, YieldsG P l.toArray S o v b a → YieldsG P l.toArray S o v b' a := fun hpu v b b' a hy => by
        rcases hy with ⟨hw, hv⟩ | hy
        · refine .inl ⟨hw, .inr ?_⟩
          rcases hv with ⟨_, hv⟩ | hv
          · exact fun u => pure_any hpu (hv s0 h0) u
          · exact hv
        · exact .inr hy
      by_cases hw : Region.wanted o (yielded l.toArray a.tmps) = true
      · simp only [hw, if_true] at h
        obtain ⟨v, hv, hK⟩ := h
        exact wpAnyG_first ho (Region.noSelect_spec hs) (pureB o) (fun hpu => hpy hpu v) _ listed a true M hcl (gfree_spec ho hf) hr' (.inl ⟨hw, .inl ⟨rfl, hv⟩⟩)
          (wpAnyG_lex hs h0 ord f _ _ (closedL_set hcl hr') hB' hK)
      · simp only [hw, Bool.false_eq_true, if_false] at h
        exact wpAnyG_first ho (Region.noSelect_spec hs) (pureB o) (fun hpu => hpy hpu undef) _ listed a true M hcl (gfree_spec ho hf) hr' (.inr ⟨by simpa using hw, rfl⟩)
          (wpAnyG_lex hs h0 ord f _ _ (closedL_set hcl hr') hB' h)

/-- A REGION THAT DRAWS ITS ORDER: the quiet operations in the order 'ord', then the rest as it comes. -/
theorem wp_region_G {id : Nat} {Q : Exit → Act → World → Prop} {a : Act} {w : World} {l : List Oper} (ord : List Nat) (L : List (Nat × Obj)) (f : Nat) (hm : P.follows .mixedOrders = true)
    (hB : (Region.noSelect l.toArray && lexG .any l.toArray ord (Array.replicate l.toArray.size false)) = true) (hf : l.toArray.size = ord.length + f) (hE : EnvX w0 w L)
    (h : wpG P l (EnvC w0 L) (fun a' => wpAnyG P .any l.toArray (EnvC w0 L) w0 (fun a b M => ∀ u, GT (EnvC w0 L) w0 b M u → Q .normal a u) f (listedBy ord (Array.replicate l.toArray.size false)) a' true L) ord a) :
    (Code.region id l.toArray true).wp P Q a w := by
  simp only [Bool.and_eq_true] at hB
  have hcl : closedL .any l.toArray (Array.replicate l.toArray.size false) := fun j oj _ hl => by
    rw [getD_replicate_false] at hl
    cases hl
  refine wp_region_any hm (wpAny_of_G (S := EnvC w0 L) (w0 := w0) (fun u v hu hb => EnvX.below hu hb) (Q := fun a b M => ∀ u, GT (EnvC w0 L) w0 b M u → Q .normal a u) (fun a b M u hu hh => hh u hu) _ _ _ true L _ ⟨fun _ => hE.drew, hE.drew⟩ ?_)
  have h2 := wpAnyG_lex (w0 := w0) hB.1 (s0 := w.drew) (S := EnvC w0 L) hE.drew ord f _ a hcl hB.2 h.out
  rw [← hf] at h2
  exact h2

/-- a plain region is walked as one that draws -/
def lexOk (md : Region.Mode) (ops : Array Oper) : Nat → Nat → Array Bool → Bool
  | 0, _, _ => true
  | f + 1, k, listed => (Region.ready md ops listed).contains k && lexOk md ops f (k + 1) (listed.setIfInBounds k true)
theorem wpOps_of_any {Q : Exit → Act → World → Prop} : ∀ (f k : Nat) (listed : Array Bool) (a : Act) (w : World), lexOk md ops f k listed = true → wpAny P md ops Q f listed a w → wpOps P ops Q (List.range' k f) a w
  | 0, _, _, _, _, _, h => h.2
  | f + 1, k, listed, a, w, hB, h => by
    simp only [lexOk, Bool.and_eq_true] at hB
    rw [List.range'_succ, wpOps_cons]
    exact wpOp_mono (fun a' w' h' => wpOps_of_any f (k + 1) _ a' w' hB.2 h') (h.2 k (by simpa using hB.1))
theorem wp_region_Gp {id : Nat} {Q : Exit → Act → World → Prop} {a : Act} {w : World} {l : List Oper} (ord : List Nat) (L : List (Nat × Obj)) (f : Nat)
    (hB : (Region.noSelect l.toArray && lexG .any l.toArray ord (Array.replicate l.toArray.size false) && lexOk .any l.toArray l.toArray.size 0 (Array.replicate l.toArray.size false)) = true) (hf : l.toArray.size = ord.length + f) (hE : EnvX w0 w L)
    (h : wpG P l (EnvC w0 L) (fun a' => wpAnyG P .any l.toArray (EnvC w0 L) w0 (fun a b M => ∀ u, GT (EnvC w0 L) w0 b M u → Q .normal a u) f (listedBy ord (Array.replicate l.toArray.size false)) a' true L) ord a) :
    (Code.region id l.toArray false).wp P Q a w := by
  simp only [Bool.and_eq_true] at hB
  have hcl : closedL .any l.toArray (Array.replicate l.toArray.size false) := fun j oj _ hl => by
    rw [getD_replicate_false] at hl
    cases hl
  have h2 := wpAnyG_lex (w0 := w0) hB.1.1 (s0 := w) (S := EnvC w0 L) hE ord f _ a hcl hB.1.2 h.out
  rw [← hf] at h2
  refine wp_region ?_
  rw [List.range_eq_range']
  exact wpOps_of_any _ 0 _ a w hB.2 (wpAny_of_G (S := EnvC w0 L) (w0 := w0) (fun u v hu hb => EnvX.below hu hb) (Q := fun a b M => ∀ u, GT (EnvC w0 L) w0 b M u → Q .normal a u) (fun a b M u hu hh => hh u hu) _ _ _ true L _ ⟨fun _ => hE, hE⟩ h2)

/-- a plain region: in the text's order -/
def wpLex (P : Program) (ops : Array Oper) (S : World → Prop) (w0 : World) (Q : Act → Bool → List (Nat × Obj) → Prop) : List Nat → Act → Bool → List (Nat × Obj) → Prop
  | [], a, b, M => Q a b M
  | i :: rest, a, b, M => gOp P ops S w0 i (wpLex P ops S w0 Q rest) a b M
theorem wpOps_of_lex (hS : ∀ u v, S u → Below u.heap.size u v → S v) {Q : Act → Bool → List (Nat × Obj) → Prop} {Q' : Exit → Act → World → Prop} (hQ : ∀ a b M u, GT S w0 b M u → Q a b M → Q' .normal a u) :
    ∀ (l : List Nat) (a : Act) (b : Bool) (M : List (Nat × Obj)) (u : World), GT S w0 b M u → wpLex P ops S w0 Q l a b M → wpOps P ops Q' l a u
  | [], _, _, _, _, hu, h => hQ _ _ _ _ hu h
  | i :: l, _, _, _, _, hu, h => by
    rw [wpOps_cons]
    exact wpOp_of_gOp hS hu (fun a' b' M' u' hu' => wpOps_of_lex hS hQ l a' b' M' u' hu') h
theorem wpLex_of_G {l : List Oper} {Q : Act → Bool → List (Nat × Obj) → Prop} {M : List (Nat × Obj)} (rest : List Nat) : ∀ (ord : List Nat) (a : Act), wpG0 P l S (fun a' => wpLex P l.toArray S w0 Q rest a' true M) ord a → wpLex P l.toArray S w0 Q (ord ++ rest) a true M
  | [], a, h => h
  | i :: ord, a, h => by
    unfold wpG0 at h
    show gOp P l.toArray S w0 i (wpLex P l.toArray S w0 Q (ord ++ rest)) a true M
    unfold gOp
    cases hl : l[i]? with
    | none => simp only [hl] at h
    | some o =>
      simp only [hl] at h
      have ho : l.toArray[i]? = some o := by simpa using hl
      simp only [ho]
      split
      · rename_i hw
        simp only [hw, if_true] at h
        obtain ⟨v, hv, hK⟩ := h
        exact .inl ⟨v, .inl ⟨by trivial, hv⟩, wpLex_of_G rest ord _ hK⟩
      · rename_i hw
        simp only [hw] at h
        exact wpLex_of_G rest ord _ h
theorem wp_region_Gx {id : Nat} {Q : Exit → Act → World → Prop} {a : Act} {w : World} {l : List Oper} (ord rest : List Nat) (L : List (Nat × Obj)) (hr : List.range l.toArray.size = ord ++ rest) (hE : EnvX w0 w L)
    (h : wpG P l (EnvC w0 L) (fun a' => wpLex P l.toArray (EnvC w0 L) w0 (fun a b M => ∀ u, GT (EnvC w0 L) w0 b M u → Q .normal a u) rest a' true L) ord a) :
    (Code.region id l.toArray false).wp P Q a w := by
  refine wp_region ?_
  rw [hr]
  exact wpOps_of_lex (S := EnvC w0 L) (w0 := w0) (fun u v hu hb => EnvX.below hu hb) (Q := fun a b M => ∀ u, GT (EnvC w0 L) w0 b M u → Q .normal a u) (fun a b M u hu hh => hh u hu) _ a true L w ⟨fun _ => hE, hE⟩ (wpLex_of_G rest ord a h.out)

theorem run_enter {f : FuncId} {fn : Func} {c : Code} (hf : P.funcs[f]? = some fn) (hname : (fn.name == "runtime.NumGoroutine") = false) (hb : fn.body = some c) (args : Array Value) (w : World) :
    (callFunc f args).run P w = .ok (.enter f args) w := by
  have h1 : fn.name ≠ "runtime.NumGoroutine" := by simpa using hname
  simp [callFunc, hf, h1, hb]
/-! ### the steps -/
section
variable {l : List Oper} {C : World → Prop} {Q : Act → Prop} {a : Act} {i : Nat} {rest : List Nat} {dst : Option Tmp} {op : Op} {ty : TypeId} {pos : String} {after : Array Edge} {gd : Option (Nat × Bool)}
theorem wpG_nil (h : Q a) : wpG P l C Q [] a := ⟨h⟩
/-- an operation that is not wanted -/
theorem wpG_skip (ho : l[i]? = some ⟨dst, op, ty, pos, after, gd⟩) (hw : Region.wanted ⟨dst, op, ty, pos, after, gd⟩ (yielded l.toArray a.tmps) = false)
    (h : ∀ K : Act → Prop, (∀ a, wpG P l C Q rest a → K a) → Oper.quiet P ⟨dst, .move (.const undef), ty, pos, after, gd⟩ a C K) {u0 : World} (h0 : C u0) : wpG P l C Q (i :: rest) a := by
  refine ⟨?_⟩
  unfold wpG0
  simp only [ho]
  rw [if_neg (by rw [hw]; exact Bool.false_ne_true)]
  obtain ⟨v, hv, hK⟩ := h (wpG0 P l C Q rest) (fun _ h => h.out)
  have h1 := hv u0 h0
  have e : v = undef := by
    unfold Oper.quietAt execOp at h1
    exact h1.2.symm
  rw [e] at hK
  exact hK
def notCall (op : Op) : Bool := match op with | .call _ => false | _ => true
theorem quietAt_GAt {o : Oper} {v : Value} {u : World} (h : ∀ f args u', (execOp a.eval o).run P u ≠ .ok (.enter f args) u') (hq : Oper.quietAt P o a C u v) : GAt P o a v u := by
  unfold Oper.quietAt at hq
  unfold GAt
  generalize (execOp a.eval o).run P u = r at *
  cases r with
  | ok n w' =>
    cases n <;> simp only [Oper.quietUpon] at hq <;> simp only [GUpon]
    case value x => exact hq
    case skip => exact hq
    case enter f args => exact absurd rfl (h f args w')
  | halt x w' => simp only [Oper.quietUpon] at hq
def valueB (op : Op) : Bool := match op with | .move _ | .assign _ | .pick _ _ _ | .build _ _ | .load _ _ | .binOp _ _ _ _ _ | .unOp _ _ _ | .convert _ _ _ | .indexAddr _ _ _ | .fieldAddr _ _ _ | .field _ _ _ | .index _ _ _ | .extract _ _ => true | _ => false
theorem value_stays {α : Type} (s : Sem α) (g : α → Value) (u : World) (f : FuncId) (args : Array Value) (u' : World) : (s >>= fun x => (pure (Next.value (g x)) : Sem Next)).run P u ≠ .ok (.enter f args) u' := by
  rw [Sem.run_bind]
  cases s.run P u with
  | ok x w => intro h; simp [Result.andThen] at h
  | halt x w => intro h; simp [Result.andThen] at h
theorem value_noEnter (hv : valueB op = true) (u : World) (f : FuncId) (args : Array Value) (u' : World) : (execOp a.eval ⟨dst, op, ty, pos, after, gd⟩).run P u ≠ .ok (.enter f args) u' := by
  unfold valueB at hv
  cases op <;> first | (cases hv; done) | (unfold execOp; exact value_stays _ id u f args u') | (unfold execOp; intro h; simp at h; done) | skip
  case pick c x y => exact value_stays (asBool (a.eval c)) (fun b => if b then a.eval x else a.eval y) u f args u'
/-- an operation that calls nothing -/
theorem wpG_op (ho : l[i]? = some ⟨dst, op, ty, pos, after, gd⟩) (hw : Region.wanted ⟨dst, op, ty, pos, after, gd⟩ (yielded l.toArray a.tmps) = true) (hv : valueB op = true)
    (h : ∀ K : Act → Prop, (∀ a, wpG P l C Q rest a → K a) → Oper.quiet P ⟨dst, op, ty, pos, after, gd⟩ a C K) : wpG P l C Q (i :: rest) a := by
  refine ⟨?_⟩
  unfold wpG0
  simp only [ho]
  rw [if_pos hw]
  obtain ⟨v, hq, hK⟩ := h (wpG0 P l C Q rest) (fun _ h => h.out)
  exact ⟨v, fun u hu => quietAt_GAt (value_noEnter hv u) (hq u hu), hK⟩
/-- an operation whose value is told -/
theorem wpG_val {v : Value} (ho : l[i]? = some ⟨dst, op, ty, pos, after, gd⟩) (hw : Region.wanted ⟨dst, op, ty, pos, after, gd⟩ (yielded l.toArray a.tmps) = true)
    (hv : ∀ u, C u → (execOp a.eval ⟨dst, op, ty, pos, after, gd⟩).run P u = .ok (.value v) u)
    (h : ∀ K : Act → Prop, (∀ a, wpG P l C Q rest a → K a) → Oper.quiet P ⟨dst, .move (.const v), ty, pos, after, gd⟩ a C K) {u0 : World} (h0 : C u0) : wpG P l C Q (i :: rest) a := by
  refine ⟨?_⟩
  unfold wpG0
  simp only [ho]
  rw [if_pos hw]
  obtain ⟨v', hq, hK⟩ := h (wpG0 P l C Q rest) (fun _ h => h.out)
  have e : v' = v := by
    have h1 := hq u0 h0
    unfold Oper.quietAt execOp at h1
    exact h1.2.symm
  rw [e] at hK
  exact ⟨v, fun u hu => by unfold GAt; rw [hv u hu]; exact ⟨rfl, rfl⟩, hK⟩
/-- a load of a whole row -/
theorem wpG_load {ty' : TypeId} {x : Operand} (ho : l[i]? = some ⟨dst, .load ty' x, ty, pos, after, gd⟩) (hw : Region.wanted ⟨dst, .load ty' x, ty, pos, after, gd⟩ (yielded l.toArray a.tmps) = true)
    (g : Nat) (hx : a.eval x = .pointer (some ⟨g, 0, none⟩)) (t : TypeId) (cs : Array Value) (d : TypeDesc) (hC : ∀ u, C u → u.heap[g]? = some (.cells cs t (0, 0)))
    (hu : P.underlying ty' = some d) (hd : (match d with | .struct _ | .array _ _ => true | _ => false) = true) (hi : (P.info? ty').map (·.size) = some cs.size)
    (h : ∀ K : Act → Prop, (∀ a, wpG P l C Q rest a → K a) → Oper.quiet P ⟨dst, .move (.const (.agg cs)), ty, pos, after, gd⟩ a C K) {u0 : World} (h0 : C u0) : wpG P l C Q (i :: rest) a :=
  wpG_val ho hw (fun u hu' => by
    unfold execOp
    simp only [hx, Instr.loadAt, Instr.sureAddr, Sem.run_bind, Sem.run_pure, Result.andThen_ok, run_loadVar_row u g t ty' cs (0, 0) d (hC u hu') hu hd hi]) h h0
/-- a call -/
theorem wpG_call {f : FuncId} {xs : Array Operand} {ats : Array TypeId} {fn : Func} {c : Code} {v : Value} {args : Array Value} (ho : l[i]? = some ⟨dst, .call { callee := .value (.func f), args := xs, argTypes := ats }, ty, pos, after, gd⟩)
    (hw : Region.wanted ⟨dst, .call { callee := .value (.func f), args := xs, argTypes := ats }, ty, pos, after, gd⟩ (yielded l.toArray a.tmps) = true)
    (hargs : xs.toList.map a.eval = args.toList) (hfn : P.funcs[f]? = some fn) (hname : (fn.name == "runtime.NumGoroutine") = false) (hb : fn.body = some c)
    (hcall : ∀ u, C u → Calls P f args u (fun e w'' => e = .returned v ∧ Below u.heap.size u w''))
    (h : ∀ K : Act → Prop, (∀ a, wpG P l C Q rest a → K a) → Oper.quiet P ⟨dst, .move (.const v), ty, pos, after, gd⟩ a C K) {u0 : World} (h0 : C u0) : wpG P l C Q (i :: rest) a := by
  refine ⟨?_⟩
  unfold wpG0
  simp only [ho]
  rw [if_pos hw]
  obtain ⟨v', hv, hK⟩ := h (wpG0 P l C Q rest) (fun _ h => h.out)
  have e : v' = v := by
    have h1 := hv u0 h0
    unfold Oper.quietAt execOp at h1
    exact h1.2.symm
  rw [e] at hK
  refine ⟨v, fun u hu => ?_, hK⟩
  have hrun : (execOp a.eval ⟨dst, .call { callee := .value (.func f), args := xs, argTypes := ats }, ty, pos, after, gd⟩).run P u = .ok (.enter f args) u := by
    have ha : xs.map a.eval = args := by
      apply Array.ext'
      rw [Array.toList_map]
      exact hargs
    rw [execOp_call_go]
    simp only [Array.empty_append, Array.append_empty, ha]
    exact run_enter hfn hname hb _ u
  unfold GAt
  rw [hrun]
  exact ⟨rfl, hcall u hu⟩
end
section
variable {Q : Act → Bool → List (Nat × Obj) → Prop} {f : Nat} {listed : Array Bool} {a : Act} {b : Bool} {M : List (Nat × Obj)}
theorem anyG_done (hr : Region.ready md ops listed = []) (h : Q a b M) : wpAnyG P md ops S w0 Q 0 listed a b M := ⟨hr, h⟩
theorem anyG_one {i : Nat} (hr : Region.ready md ops listed = [i]) (h : gOp P ops S w0 i (wpAnyG P md ops S w0 Q f (listed.setIfInBounds i true)) a b M) : wpAnyG P md ops S w0 Q (f + 1) listed a b M :=
  ⟨(fun h0 => by rw [hr] at h0; cases h0), (fun j hj => by rw [hr] at hj; cases List.mem_singleton.1 hj; exact h)⟩
theorem anyG_two {i j : Nat} (hr : Region.ready md ops listed = [i, j]) (h : gOp P ops S w0 i (wpAnyG P md ops S w0 Q f (listed.setIfInBounds i true)) a b M)
    (h' : gOp P ops S w0 j (wpAnyG P md ops S w0 Q f (listed.setIfInBounds j true)) a b M) : wpAnyG P md ops S w0 Q (f + 1) listed a b M :=
  ⟨(fun h0 => by rw [hr] at h0; cases h0), (fun k hk => by
    rw [hr] at hk
    rcases List.mem_cons.1 hk with e | e
    · cases e; exact h
    · cases List.mem_singleton.1 e; exact h')⟩
theorem gOp_new {i : Nat} {K : Act → Bool → List (Nat × Obj) → Prop} {dst : Option Tmp} {op : Op} {ty : TypeId} {pos : String} {after : Array Edge} (z : Obj) (ho : ops[i]? = some ⟨dst, op, ty, pos, after, none⟩) (hz : NewAt P ⟨dst, op, ty, pos, after, none⟩ a z)
    (h : ∀ g, w0.heap.size ≤ g → (∀ x ∈ M, x.1 ≠ g) → ∀ K' : Act → Prop, (∀ a', K a' b ((g, z) :: M) → K' a') → Oper.quiet P ⟨dst, .move (.const (.pointer (some ⟨g, 0, none⟩))), ty, pos, after, none⟩ a (fun _ => True) K') : gOp P ops S w0 i K a b M := by
  unfold gOp
  simp only [ho, Region.wanted, if_true]
  refine .inr (.inl ⟨z, hz, fun g hg hf => ?_⟩)
  obtain ⟨v, hv, hK⟩ := h g hg hf (fun a' => K a' b ((g, z) :: M)) (fun _ h => h)
  have e : v = .pointer (some ⟨g, 0, none⟩) := by
    have h1 := hv w0 trivial
    unfold Oper.quietAt execOp at h1
    exact h1.2.symm
  rw [e] at hK
  exact hK
/-- an operation that reads no memory -/
theorem gOp_pure {i : Nat} {K : Act → Bool → List (Nat × Obj) → Prop} {dst : Option Tmp} {op : Op} {ty : TypeId} {pos : String} {after : Array Edge} (ho : ops[i]? = some ⟨dst, op, ty, pos, after, none⟩) (hop : valueB op = true)
    (h : ∀ K' : Act → Prop, (∀ a', K a' b M → K' a') → Oper.quiet P ⟨dst, op, ty, pos, after, none⟩ a (fun _ => True) K') : gOp P ops S w0 i K a b M := by
  unfold gOp
  simp only [ho, Region.wanted, if_true]
  obtain ⟨v, hv, hK⟩ := h (fun a' => K a' b M) (fun _ h => h)
  exact .inl ⟨v, .inr (fun u => quietAt_GAt (value_noEnter hop u) (hv u trivial)), hK⟩
theorem gOp_store {i : Nat} {K : Act → Bool → List (Nat × Obj) → Prop} {ty ty' : TypeId} {pos : String} {after : Array Edge} {x y : Operand} (ho : ops[i]? = some ⟨none, .store ty' x y, ty, pos, after, none⟩)
    (g : Nat) (cs : Array Value) (hx : a.eval x = .pointer (some ⟨g, 0, none⟩)) (hy : a.eval y = .agg cs) (hg : w0.heap.size ≤ g) (t : TypeId) (old : Array Value) (hm : (g, Obj.cells old t (0, 0)) ∈ M)
    (hi : (P.info? ty').map (·.size) = some cs.size) (hold : old.size = cs.size) (h1 : cs.all (·.oneCell') = true) (M' : List (Nat × Obj)) (hM' : ∀ x ∈ M', x = (g, Obj.cells cs t (0, 0)) ∨ (x ∈ M ∧ x.1 ≠ g))
    (h : K a false M') : gOp P ops S w0 i K a b M := by
  unfold gOp
  simp only [ho, Region.wanted, if_true]
  refine .inr (.inr ⟨rfl, g, old, cs, t, M', hg, hm, fun u hu => ?_, hM', h⟩)
  unfold execOp
  simp only [hx, hy, Instr.storeAt, Instr.sureAddr, Sem.run_bind, Sem.run_pure, Result.andThen_ok, run_storeVar_row u g t ty' old cs hu hi hold h1]
/-! ### two new variables, in either order -/
theorem gOp_perm {i : Nat} {a : Act} {b : Bool} {M M' : List (Nat × Obj)} {K : Act → Bool → List (Nat × Obj) → Prop} (hK : ∀ a b (M M' : List (Nat × Obj)), (∀ x, x ∈ M ↔ x ∈ M') → K a b M → K a b M') (hM : ∀ x, x ∈ M ↔ x ∈ M') (hh : gOp P ops S w0 i K a b M) : gOp P ops S w0 i K a b M' := by
  unfold gOp at *
  split
  · rename_i h; simp only [h] at hh; exact hK _ _ _ _ hM hh
  · rename_i o ho
    simp only [ho] at hh
    split
    · rename_i hw
      simp only [hw, if_true] at hh
      rcases hh with ⟨v, hv, h⟩ | ⟨z, hz, h⟩ | ⟨hs, g, old, cs, t, N, hg, hm, hp, hN, h⟩
      · exact .inl ⟨v, hv, hK _ _ _ _ hM h⟩
      · exact .inr (.inl ⟨z, hz, fun g hg hf => hK _ _ _ _ (fun x => by simp only [List.mem_cons, hM x]) (h g hg (fun x hx => hf x ((hM x).1 hx)))⟩)
      · exact .inr (.inr ⟨hs, g, old, cs, t, N, hg, (hM _).1 hm, hp, fun x hx => (hN x hx).imp id (fun ⟨k1, k2⟩ => ⟨(hM _).1 k1, k2⟩), h⟩)
    · rename_i hw; simp only [hw] at hh; exact hK _ _ _ _ hM hh
theorem wpAnyG_perm (hQ : ∀ a b (M M' : List (Nat × Obj)), (∀ x, x ∈ M ↔ x ∈ M') → Q a b M → Q a b M') : ∀ (f : Nat) (listed : Array Bool) (a : Act) (b : Bool) (M M' : List (Nat × Obj)), (∀ x, x ∈ M ↔ x ∈ M') →
    wpAnyG P md ops S w0 Q f listed a b M → wpAnyG P md ops S w0 Q f listed a b M'
  | 0, _, _, _, _, _, hM, h => ⟨h.1, hQ _ _ _ _ hM h.2⟩
  | f + 1, _, _, _, _, _, hM, h => ⟨fun h0 => hQ _ _ _ _ hM (h.1 h0), fun i hi => gOp_perm (fun a' b' M1 M2 h12 h' => wpAnyG_perm hQ f _ a' b' M1 M2 h12 h') hM (h.2 i hi)⟩
theorem put_told {dst : Option Tmp} {v : Value} {ty : TypeId} {pos : String} {after : Array Edge} {K : Act → Prop} (w0 : World)
    (h : ∀ K' : Act → Prop, (∀ a', K a' → K' a') → Oper.quiet P ⟨dst, .move (.const v), ty, pos, after, none⟩ a (fun _ => True) K') : K (a.put dst v) := by
  obtain ⟨v', hv, hK⟩ := h K (fun _ h => h)
  have e : v' = v := by
    have h1 := hv w0 trivial
    unfold Oper.quietAt execOp at h1
    exact h1.2.symm
  rw [e] at hK
  exact hK
theorem anyG_twoNew {i j : Nat} {di dj : Tmp} {opi opj : Op} {ti tj : TypeId} {pi pj : String} {afi afj : Array Edge} (zi zj : Obj) (hQ : ∀ a b (M M' : List (Nat × Obj)), (∀ x, x ∈ M ↔ x ∈ M') → Q a b M → Q a b M')
    (hr : Region.ready md ops listed = [i, j]) (hri : Region.ready md ops (listed.setIfInBounds i true) = [j]) (hrj : Region.ready md ops (listed.setIfInBounds j true) = [i])
    (hi : ops[i]? = some ⟨some di, opi, ti, pi, afi, none⟩) (hj : ops[j]? = some ⟨some dj, opj, tj, pj, afj, none⟩) (hij : i ≠ j) (hd : di ≠ dj)
    (hzi : ∀ a, NewAt P ⟨some di, opi, ti, pi, afi, none⟩ a zi) (hzj : ∀ a, NewAt P ⟨some dj, opj, tj, pj, afj, none⟩ a zj)
    (h : ∀ g g', w0.heap.size ≤ g → w0.heap.size ≤ g' → (∀ x ∈ M, x.1 ≠ g) → (∀ x ∈ M, x.1 ≠ g') → g ≠ g' →
      ∀ K1 : Act → Prop, (∀ a1, (∀ K2 : Act → Prop, (∀ a2, wpAnyG P md ops S w0 Q f ((listed.setIfInBounds i true).setIfInBounds j true) a2 b ((g', zj) :: (g, zi) :: M) → K2 a2) → Oper.quiet P ⟨some dj, .move (.const (.pointer (some ⟨g', 0, none⟩))), tj, pj, afj, none⟩ a1 (fun _ => True) K2) → K1 a1) →
        Oper.quiet P ⟨some di, .move (.const (.pointer (some ⟨g, 0, none⟩))), ti, pi, afi, none⟩ a (fun _ => True) K1) :
    wpAnyG P md ops S w0 Q (f + 2) listed a b M := by
  have H : ∀ g g', w0.heap.size ≤ g → w0.heap.size ≤ g' → (∀ x ∈ M, x.1 ≠ g) → (∀ x ∈ M, x.1 ≠ g') → g ≠ g' →
      wpAnyG P md ops S w0 Q f ((listed.setIfInBounds i true).setIfInBounds j true) ((a.put (some di) (.pointer (some ⟨g, 0, none⟩))).put (some dj) (.pointer (some ⟨g', 0, none⟩))) b ((g', zj) :: (g, zi) :: M) := fun g g' a1 a2 a3 a4 a5 =>
    put_told w0 (put_told (K := fun a1 => ∀ K2 : Act → Prop, (∀ a2, wpAnyG P md ops S w0 Q f ((listed.setIfInBounds i true).setIfInBounds j true) a2 b ((g', zj) :: (g, zi) :: M) → K2 a2) → Oper.quiet P ⟨some dj, .move (.const (.pointer (some ⟨g', 0, none⟩))), tj, pj, afj, none⟩ a1 (fun _ => True) K2) w0 (h g g' a1 a2 a3 a4 a5))
  refine anyG_two hr ?_ ?_
  · unfold gOp
    simp only [hi, Region.wanted, if_true]
    refine .inr (.inl ⟨zi, hzi a, fun g hg hf => ?_⟩)
    refine anyG_one hri ?_
    unfold gOp
    simp only [hj, Region.wanted, if_true]
    refine .inr (.inl ⟨zj, hzj _, fun g' hg' hf' => ?_⟩)
    exact H g g' hg hg' hf (fun x hx => hf' x (List.mem_cons_of_mem _ hx)) (hf' (g, zi) (List.mem_cons_self ..))
  · unfold gOp
    simp only [hj, Region.wanted, if_true]
    refine .inr (.inl ⟨zj, hzj a, fun g' hg' hf' => ?_⟩)
    refine anyG_one hrj ?_
    unfold gOp
    simp only [hi, Region.wanted, if_true]
    refine .inr (.inl ⟨zi, hzi _, fun g hg hf => ?_⟩)
    have hne := hf (g', zj) (List.mem_cons_self ..)
    have h1 := H g g' hg hg' (fun x hx => hf x (List.mem_cons_of_mem _ hx)) hf' (Ne.symm hne)
    rw [Act.put_comm a _ _ (fun d e => by cases e; intro e2; cases e2; exact hd rfl), Array.setIfInBounds_comm _ _ hij] at h1
    have hp : ∀ x, x ∈ (g', zj) :: (g, zi) :: M ↔ x ∈ (g, zi) :: (g', zj) :: M := fun x => by
      simp only [List.mem_cons]
      exact or_left_comm
    exact wpAnyG_perm hQ _ _ _ _ _ _ hp h1
theorem GT_perm {Q' : Exit → Act → World → Prop} (a : Act) (b : Bool) (M M' : List (Nat × Obj)) (hM : ∀ x, x ∈ M ↔ x ∈ M') (h : ∀ u, GT S w0 b M u → Q' .normal a u) : ∀ u, GT S w0 b M' u → Q' .normal a u :=
  fun u hu => h u ⟨hu.1, hu.2.sub (fun x hx => (hM x).1 hx)⟩
end
end
end Go.Proofs.YtgiacilkecoenaaDoor
