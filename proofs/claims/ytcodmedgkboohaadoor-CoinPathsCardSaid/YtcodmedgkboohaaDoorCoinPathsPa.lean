/- Part of a proof. -/
import Derived.Test.YtcodmedgkboohaaDoorCn
import Derived.Test.YtcodmedgkboohaaDoorProg
import Derived.WalkKit
import Derived.ProofKit
import Derived.Handy
import Derived.Maps.AppendAt
import Derived.Laws.BytesArg
import Derived.Laws.StructEq
import Derived.ChangeKeysEq
import Derived.Lib.SlBytesConst
import Derived.Deep.MidRow
import Derived.Laws.CopyOwn
import Derived.Laws.MakeOwn
import Derived.Deep.WholeRow
import Derived.Deep.Cut
import Derived.Deep.QuietTactic
import Derived.BigQuiet
import Derived.StillTailTactics
import Derived.Lib.Hide
import Derived.Great.BuildSlice
import Derived.Laws.Cells
import Derived.Lib.Strings
import Derived.Lib.Slices
import Derived.Lib.Small
import Derived.Lib.Walk
import Derived.Lib.BitFns
namespace Go.Proofs.YtcodmedgkboohaaDoor
set_option maxRecDepth 8000
open Go.RowKit

theorem OwnB.less {w : World} {B B' : Nat} {v : Value} {xs : List Int} (h : OwnB w B v xs) (hB : B' ≤ B) : OwnB w B' v xs := by
  refine ⟨h.1, ?_⟩
  rcases h.2 with h0 | ⟨g, cap, cur, e, hg, hh, h1⟩
  · exact .inl h0
  · exact .inr ⟨g, cap, cur, e, by omega, hh, h1⟩
end Go.Proofs.YtcodmedgkboohaaDoor

namespace Go.Proofs.YtcodmedgkboohaaDoor
set_option maxRecDepth 8000
open Go.RowKit

section
variable {a : Act} {dst : Option Tmp} {x : Operand} {ty ty' : TypeId} {pos : String} {after : Array Edge} {gd : Option (Nat × Bool)}
end
section
variable {st e : TypeId} {z bytes : Nat} {zero : Value}
/-- make([]T, 0, n) -/
theorem FAt_makeR (T : ElemT st e z bytes zero) {n : Nat} (hn : n ≤ 10000) {a : Act} {dst : Option Tmp} {x : Operand} {ty : TypeId} {pos : String} {after : Array Edge} {gd : Option (Nat × Bool)} (hx : a.eval x = .int .i64 (n : Int)) (u : World) :
    FAt Tryd.prog ⟨dst, .makeSlice st (.const (.int .i64 0)) x, ty, pos, after, gd⟩ a (fun v N => ∃ g cur, v = .slice (some ⟨g, 0, none⟩) 0 n ∧ N = [(g, Obj.cells cur e (0, 0))] ∧ cur.size = n * z) u := by
  cases hq : Tryd.prog.info? e with
  | none => have := T.info; rw [hq] at this; cases this
  | some i =>
    have hi := T.info
    rw [hq] at hi
    simp only [Option.map_some, Option.some.injEq, Prod.mk.injEq] at hi
    obtain ⟨k1, k2, k3⟩ := hi
    have hsm := T.small
    have hmul : bytes * n ≤ 1000 * 10000 := Nat.mul_le_mul hsm hn
    have hr := run_make (P := Tryd.prog) u st e i zero T.und hq k1 .i64 .i64 0 (n : Int) (by omega) (by omega) (by rw [k3, ← Int.natCast_mul]; omega) (by omega)
    have ha0 : a.eval (.const (.int .i64 0)) = .int .i64 0 := rfl
    unfold FAt execOp
    simp only [hx, ha0, Sem.run_bind, Sem.run_pure, hr, Result.andThen_ok]
    refine ⟨(Below.refl _ _).alloc (Nat.le_refl _) _, [(u.heap.size, Obj.cells (madeCells zero.cells ((n : Int).toNat * i.size)) e (0, 0))], ⟨u.heap.size, madeCells zero.cells ((n : Int).toNat * i.size), rfl, rfl, ?_⟩, fun y hy => ?_⟩
    · rw [size_madeCells, k2]
      simp
    · cases List.mem_singleton.1 hy
      exact ⟨Nat.le_refl _, heap_alloc_new u _⟩
end
end Go.Proofs.YtcodmedgkboohaaDoor

namespace Go.Proofs.YtcodmedgkboohaaDoor
set_option maxRecDepth 8000

theorem pathF_more : ∀ (f g : Nat) (l : List (List Int)) (i : Nat), l.length ≤ f → l.length ≤ g → pathF f l i = pathF g l i
  | 0, 0, _, _, _, _ => rfl
  | 0, g + 1, l, i, h, _ => by
    unfold pathF
    rw [if_pos (by omega)]
  | f + 1, 0, l, i, _, h => by
    unfold pathF
    rw [if_pos (by omega)]
  | f + 1, g + 1, l, i, h1, h2 => by
    unfold pathF
    by_cases h : l.length ≤ 1
    · rw [if_pos h, if_pos h]
    · rw [if_neg h, if_neg h]
      obtain ⟨a, b, _, _⟩ := half_spec (n := l.length) (by omega)
      rw [pathF_more f g (l.take _) i (by rw [List.length_take]; omega) (by rw [List.length_take]; omega), pathF_more f g (l.drop _) _ (by rw [List.length_drop]; omega) (by rw [List.length_drop]; omega)]
theorem path_low {l : List (List Int)} {i : Nat} (h : 2 ≤ l.length) (hi : i < halfT l.length) : pathT l i = pathT (l.take (halfT l.length)) i ++ [rootT (l.drop (halfT l.length))] := by
  obtain ⟨a, b, _, _⟩ := half_spec h
  unfold pathT
  obtain ⟨n, hn⟩ : ∃ n, l.length = n + 1 := ⟨l.length - 1, by omega⟩
  rw [pathF_more l.length (n + 1) l i (Nat.le_refl _) (by omega), pathF, if_neg (by omega), if_pos hi, pathF_more n _ (l.take _) i (by rw [List.length_take]; omega) (Nat.le_refl _)]
theorem path_high {l : List (List Int)} {i : Nat} (h : 2 ≤ l.length) (hi : ¬ i < halfT l.length) : pathT l i = pathT (l.drop (halfT l.length)) (i - halfT l.length) ++ [rootT (l.take (halfT l.length))] := by
  obtain ⟨a, b, _, _⟩ := half_spec h
  unfold pathT
  obtain ⟨n, hn⟩ : ∃ n, l.length = n + 1 := ⟨l.length - 1, by omega⟩
  rw [pathF_more l.length (n + 1) l i (Nat.le_refl _) (by omega), pathF, if_neg (by omega), if_neg hi, pathF_more n _ (l.drop _) _ (by rw [List.length_drop]; omega) (Nat.le_refl _)]
theorem sidesF_more : ∀ (f g n i : Nat), n ≤ f → n ≤ g → sidesF f n i = sidesF g n i
  | 0, 0, _, _, _, _ => rfl
  | 0, g + 1, n, i, h, _ => by
    unfold sidesF
    rw [if_pos (by omega)]
  | f + 1, 0, n, i, _, h => by
    unfold sidesF
    rw [if_pos (by omega)]
  | f + 1, g + 1, n, i, h1, h2 => by
    unfold sidesF
    by_cases h : n ≤ 1
    · rw [if_pos h, if_pos h]
    · rw [if_neg h, if_neg h]
      obtain ⟨a, b, _, _⟩ := half_spec (n := n) (by omega)
      rw [sidesF_more f g _ i (by omega) (by omega), sidesF_more f g (n - _) _ (by omega) (by omega)]
theorem sides_low {n i : Nat} (h : 2 ≤ n) (hi : i < halfT n) : sidesT n i = sidesT (halfT n) i ++ [true] := by
  obtain ⟨a, b, _, _⟩ := half_spec h
  unfold sidesT
  obtain ⟨m, rfl⟩ : ∃ m, n = m + 1 := ⟨n - 1, by omega⟩
  rw [sidesF, if_neg (by omega), if_pos hi, sidesF_more m _ _ i (by omega) (Nat.le_refl _)]
theorem sides_high {n i : Nat} (h : 2 ≤ n) (hi : ¬ i < halfT n) : sidesT n i = sidesT (n - halfT n) (i - halfT n) ++ [false] := by
  obtain ⟨a, b, _, _⟩ := half_spec h
  unfold sidesT
  obtain ⟨m, rfl⟩ : ∃ m, n = m + 1 := ⟨n - 1, by omega⟩
  rw [sidesF, if_neg (by omega), if_neg hi, sidesF_more m _ _ _ (by omega) (Nat.le_refl _)]
theorem path_len : ∀ (n : Nat) (l : List (List Int)) (i : Nat), l.length = n → (pathT l i).length = (sidesT n i).length := by
  intro n
  induction n using Nat.strongRecOn with
  | _ n ih =>
    intro l i hl
    by_cases h : n ≤ 1
    · have e1 : sidesT n i = [] := by
        rcases n with _ | _ | n
        · rfl
        · rfl
        · omega
      have e2 : pathT l i = [] := by
        unfold pathT
        rw [hl]
        rcases n with _ | _ | n
        · rfl
        · unfold pathF; rw [if_pos (by omega)]
        · omega
      rw [e1, e2]; rfl
    · have h2 : 2 ≤ n := by omega
      obtain ⟨a, b, _, _⟩ := half_spec h2
      by_cases hi : i < halfT n
      · rw [path_low (by omega) (by rw [hl]; exact hi), sides_low h2 hi, List.length_append, List.length_append, hl, ih (halfT n) b _ i (by rw [List.length_take]; omega)]
        rfl
      · rw [path_high (by omega) (by rw [hl]; exact hi), sides_high h2 hi, List.length_append, List.length_append, hl, ih (n - halfT n) (by omega) _ _ (by rw [List.length_drop]; omega)]
        rfl
theorem climbK_ahead {s s' : List Bool} {x : List Int} {p p' : List (List Int)} : ∀ (k : Nat), k ≤ s.length → k ≤ p.length → climbK (s ++ s') x (p ++ p') k = climbK s x p k
  | 0, _, _ => rfl
  | k + 1, h1, h2 => by
    unfold climbK
    rw [climbK_ahead k (by omega) (by omega)]
    simp only [List.getD_eq_getElem?_getD, List.getElem?_append_left (show k < s.length by omega), List.getElem?_append_left (show k < p.length by omega)]
theorem top_snoc {s : List Bool} {b : Bool} {x y : List Int} {p : List (List Int)} (h : p.length = s.length) : topT (s ++ [b]) x (p ++ [y]) = stepT b (topT s x p) y := by
  unfold topT
  rw [List.length_append, List.length_singleton]
  show stepT _ (climbK _ _ _ s.length) _ = _
  rw [climbK_ahead s.length (Nat.le_refl _) (by omega)]
  simp only [List.getD_eq_getElem?_getD]
  congr 1
  · simp
  · rw [← h]; simp
/-- each path leads to the root -/
theorem path_top : ∀ (n : Nat) (l : List (List Int)) (i : Nat), l.length = n → i < n → topT (sidesT n i) (l.getD i []) (pathT l i) = rootT l := by
  intro n
  induction n using Nat.strongRecOn with
  | _ n ih =>
    intro l i hl hi
    by_cases h : n = 1
    · subst h
      obtain rfl : i = 0 := by omega
      match l, hl with
      | [x], _ => rfl
    · have h2 : 2 ≤ n := by omega
      obtain ⟨a, b, _, _⟩ := half_spec h2
      rw [root_cut (by omega), hl]
      by_cases hlow : i < halfT n
      · rw [path_low (by omega) (by rw [hl]; exact hlow), sides_low h2 hlow, hl, top_snoc (path_len _ _ _ (by rw [List.length_take]; omega))]
        have := ih (halfT n) b (l.take (halfT n)) i (by rw [List.length_take]; omega) hlow
        rw [show (l.take (halfT n)).getD i [] = l.getD i [] by simp only [List.getD_eq_getElem?_getD, List.getElem?_take_of_lt hlow]] at this
        rw [this]
        rfl
      · rw [path_high (by omega) (by rw [hl]; exact hlow), sides_high h2 hlow, hl, top_snoc (path_len _ _ _ (by rw [List.length_drop]; omega))]
        have := ih (n - halfT n) (by omega) (l.drop (halfT n)) (i - halfT n) (by rw [List.length_drop]; omega) (by omega)
        rw [show (l.drop (halfT n)).getD (i - halfT n) [] = l.getD i [] by simp only [List.getD_eq_getElem?_getD, List.getElem?_drop]; rw [show halfT n + (i - halfT n) = i by omega]] at this
        rw [this]
        rfl
theorem check_path {l : List (List Int)} {i : Nat} (h64 : l.length ≤ 64) (hi : i < l.length) : checkT (rootT l) l.length i (l.getD i []) (pathT l i) = true := by
  unfold checkT
  simp only [decide_eq_true_eq, Int.toNat_natCast]
  exact ⟨by omega, by omega, by omega, by omega, path_len _ _ _ rfl, path_top _ _ _ rfl hi⟩
theorem check_len {root leaf : List Int} {n i : Nat} {path : List (List Int)} (h : path.length ≠ (sidesT n i).length) : checkT root n i leaf path = false := by
  unfold checkT
  simp only [decide_eq_false_iff_not, Int.toNat_natCast]
  exact fun hh => h hh.2.2.2.2.1
/-- a path is no longer than the tree is high -/
theorem sides_le : ∀ (h n i : Nat), n ≤ 2 ^ h → (sidesT n i).length ≤ h := by
  intro h
  induction h with
  | zero =>
    intro n i hn
    have e : sidesT n i = [] := by
      rw [Nat.pow_zero] at hn
      rcases n with _ | _ | n
      · rfl
      · rfl
      · omega
    rw [e]
    exact Nat.le_refl _
  | succ h ih =>
    intro n i hn
    by_cases h1 : n ≤ 1
    · have e : sidesT n i = [] := by
        rcases n with _ | _ | n
        · rfl
        · rfl
        · omega
      rw [e]
      exact Nat.zero_le _
    · obtain ⟨a, b, c, e, he⟩ := half_spec (n := n) (by omega)
      have hh : halfT n ≤ 2 ^ h := by
        rw [he] at b ⊢
        have : 2 ^ e < 2 ^ (h + 1) := Nat.lt_of_lt_of_le b hn
        have := (Nat.pow_lt_pow_iff_right (by decide : 1 < 2)).1 this
        exact Nat.pow_le_pow_right (by decide) (by omega)
      by_cases hi : i < halfT n
      · rw [sides_low (by omega) hi, List.length_append]
        have := ih _ i hh
        simp only [List.length_singleton]
        omega
      · rw [sides_high (by omega) hi, List.length_append]
        have := ih (n - halfT n) (i - halfT n) (by omega)
        simp only [List.length_singleton]
        omega
end Go.Proofs.YtcodmedgkboohaaDoor

namespace Go.Proofs.YtcodmedgkboohaaDoor
set_option maxRecDepth 8000
open Go.RowKit

theorem OwnF.less {w : World} {B B' : Nat} {v : Value} {l : List Bool} (h : OwnF w B v l) (hB : B' ≤ B) : OwnF w B' v l := by
  refine ⟨h.1, ?_⟩
  rcases h.2 with h0 | ⟨g, cap, cur, e, hg, hh, h1⟩
  · exact .inl h0
  · exact .inr ⟨g, cap, cur, e, by omega, hh, h1⟩
end Go.Proofs.YtcodmedgkboohaaDoor

namespace Go.Proofs.YtcodmedgkboohaaDoor
set_option maxRecDepth 8000
open Go.RowKit

theorem OwnI.less {w : World} {B B' : Nat} {v : Value} {l : List (List Int)} (h : OwnI w B v l) (hB : B' ≤ B) : OwnI w B' v l := by
  refine ⟨h.1, ?_⟩
  rcases h.2 with h0 | ⟨g, cap, cur, e, hg, hh, h1⟩
  · exact .inl h0
  · exact .inr ⟨g, cap, cur, e, by omega, hh, h1⟩
end Go.Proofs.YtcodmedgkboohaaDoor

namespace Go.Proofs.YtcodmedgkboohaaDoor
set_option maxRecDepth 8000
open Go.RowKit

theorem path_ids : ∀ (n : Nat) (l : List (List Int)) (i : Nat), l.length = n → isIds l → isIds (pathT l i) := by
  intro n
  induction n using Nat.strongRecOn with
  | _ n ih =>
    intro l i hl hI
    by_cases h : n ≤ 1
    · have e : pathT l i = [] := by
        have h1 := path_len n l i hl
        have h2 := sides_le 0 n i (by simpa using h)
        exact List.eq_nil_of_length_eq_zero (by omega)
      rw [e]
      intro x hx
      cases hx
    · obtain ⟨a, b, _, _⟩ := half_spec (n := n) (by omega)
      have key : ∀ (p q : List (List Int)), isIds p → isIds q → isIds (p ++ [rootT q]) := fun p q hp hq x hx => by
        rcases List.mem_append.1 hx with h | h
        · exact hp x h
        · cases List.mem_singleton.1 h
          exact root_id hq
      by_cases hi : i < halfT n
      · rw [path_low (by omega) (by rw [hl]; exact hi), hl]
        exact key _ _ (ih (halfT n) b _ i (by rw [List.length_take]; omega) (hI.take _)) (hI.drop _)
      · rw [path_high (by omega) (by rw [hl]; exact hi), hl]
        exact key _ _ (ih (n - halfT n) (by omega) _ _ (by rw [List.length_drop]; omega) (hI.drop _)) (hI.take _)
theorem path_short {l : List (List Int)} (i : Nat) (h : l.length ≤ 1000000) : (pathT l i).length ≤ 1000000 := by
  rw [path_len _ l i rfl]
  exact Nat.le_trans (sides_le l.length l.length i (Nat.le_of_lt Nat.lt_two_pow_self)) h
end Go.Proofs.YtcodmedgkboohaaDoor

namespace Go.Proofs.YtcodmedgkboohaaDoor
set_option maxRecDepth 8000
open Go.RowKit

theorem climb_id (s : List Bool) (x : List Int) (p : List (List Int)) (hx : x.length = 32 ∧ ∀ b ∈ x, 0 ≤ b ∧ b ≤ 255) : ∀ k, (climbK s x p k).length = 32 ∧ ∀ b ∈ climbK s x p k, 0 ≤ b ∧ b ≤ 255
  | 0 => hx
  | k + 1 => by
    show (stepT _ _ _).length = 32 ∧ ∀ b ∈ stepT _ _ _, _
    unfold stepT
    split
    · exact node_id _ _
    · exact node_id _ _
end Go.Proofs.YtcodmedgkboohaaDoor

namespace Go.Proofs.YtcodmedgkboohaaDoor
set_option maxRecDepth 8000
open Go.RowKit

def pathR (l : List (List Int)) (i : Int) : List (List Int) × Bool := if 0 ≤ i ∧ i < l.length ∧ l.length ≤ 64 then (pathT l i.toNat, true) else ([], false)
end Go.Proofs.YtcodmedgkboohaaDoor

namespace Go.Proofs.YtcodmedgkboohaaDoor
set_option maxRecDepth 8000
open Go.RowKit

section
variable {a : Act} {dst : Option Tmp} {x y : Operand} {ty : TypeId} {pos : String} {after : Array Edge} {gd : Option (Nat × Bool)}
theorem geq_op {m k : Int} {b : Bool} (u : World) (hb : decide (k ≤ m) = b) (hx : a.eval x = .int .i64 m) (hy : a.eval y = .int .i64 k) :
    (execOp a.eval ⟨dst, .binOp .geq 3 x y 3, ty, pos, after, gd⟩).run Tryd.prog u = .ok (.value (.bool b)) u := by
  subst hb
  unfold execOp
  simp only [hx, hy]
  go_simp
end
end Go.Proofs.YtcodmedgkboohaaDoor

namespace Go.Proofs.YtcodmedgkboohaaDoor
set_option maxRecDepth 8000
open Go.RowKit

section
variable {P : Program} {Γ : HP} {l : List Oper} {C : World → Prop} {Q : Act → Prop} {a : Act} {i : Nat} {rest : List Nat} {dst : Option Tmp} {ty : TypeId} {pos : String} {after : Array Edge} {gd : Option (Nat × Bool)}
theorem OUpon_callV {w0 : World} {R : Value → Boxes → Prop} {f : FuncId} {x : Operand} {xs : Array Operand} {ats : Array TypeId} {fn : Func} {c : Code} {args caps all : Array Value}
    (hx : a.eval x = .func (.func f) #[] caps) (hargs : xs.toList.map a.eval = args.toList) (hall : args.toList ++ caps.toList = all.toList) (hfn : P.funcs[f]? = some fn) (hname : (fn.name == "runtime.NumGoroutine") = false) (hb : fn.body = some c) (u : World)
    (hcall : Calls P f all u (fun e w'' => ∃ x M', e = .returned x ∧ EnvX w0 w'' M' ∧ R x M')) :
    OUpon P w0 R ((execOp a.eval ⟨dst, .call { callee := .value x, args := xs, argTypes := ats }, ty, pos, after, gd⟩).run P u) := by
  rw [run_callV hx hargs hall hfn hname hb u]
  exact hcall
end
section
variable {a : Act} {dst : Option Tmp} {x y : Operand} {ty : TypeId} {pos : String} {after : Array Edge} {gd : Option (Nat × Bool)}
end
end Go.Proofs.YtcodmedgkboohaaDoor

namespace Go.Proofs.YtcodmedgkboohaaDoor
set_option maxRecDepth 8000

def forkF : Nat → Nat → Nat → Nat → List (Nat × Nat × Bool)
  | 0, _, _, _ => []
  | m + 1, f, n, i => if n ≤ 1 then [] else if i < f + halfT n then forkF m f (halfT n) i ++ [(f, n, false)] else forkF m (f + halfT n) (n - halfT n) i ++ [(f, n, true)]
def forksT (f n i : Nat) : List (Nat × Nat × Bool) := forkF n f n i
theorem forkF_more : ∀ (a b f n i : Nat), n ≤ a → n ≤ b → forkF a f n i = forkF b f n i
  | 0, 0, _, _, _, _, _ => rfl
  | 0, b + 1, f, n, i, ha, _ => by
    obtain rfl : n = 0 := by omega
    unfold forkF
    rfl
  | a + 1, 0, f, n, i, _, hb => by
    obtain rfl : n = 0 := by omega
    unfold forkF
    rfl
  | a + 1, b + 1, f, n, i, ha, hb => by
    unfold forkF
    by_cases h1 : n ≤ 1
    · rw [if_pos h1, if_pos h1]
    · obtain ⟨b1, b2, b3, -⟩ := half_spec (n := n) (by omega)
      rw [if_neg h1, if_neg h1]
      by_cases h2 : i < f + halfT n
      · rw [if_pos h2, if_pos h2, forkF_more a b f (halfT n) i (by omega) (by omega)]
      · rw [if_neg h2, if_neg h2, forkF_more a b (f + halfT n) (n - halfT n) i (by omega) (by omega)]
theorem forks_one (f i : Nat) : forksT f 1 i = [] := rfl
theorem forks_low {f n i : Nat} (h : 2 ≤ n) (hi : i < f + halfT n) : forksT f n i = forksT f (halfT n) i ++ [(f, n, false)] := by
  obtain ⟨b1, b2, b3, -⟩ := half_spec h
  obtain ⟨m, rfl⟩ : ∃ m, n = m + 1 := ⟨n - 1, by omega⟩
  unfold forksT
  rw [forkF, if_neg (by omega), if_pos hi, forkF_more m (halfT (m + 1)) f (halfT (m + 1)) i (by omega) (by omega)]
theorem forks_high {f n i : Nat} (h : 2 ≤ n) (hi : ¬ i < f + halfT n) : forksT f n i = forksT (f + halfT n) (n - halfT n) i ++ [(f, n, true)] := by
  obtain ⟨b1, b2, b3, -⟩ := half_spec h
  obtain ⟨m, rfl⟩ : ∃ m, n = m + 1 := ⟨n - 1, by omega⟩
  unfold forksT
  rw [forkF, if_neg (by omega), if_neg hi, forkF_more m (m + 1 - halfT (m + 1)) _ (m + 1 - halfT (m + 1)) i (by omega) (by omega)]
theorem forks_len : ∀ (n f i : Nat), (forksT f n i).length ≤ n := by
  intro n
  induction n using Nat.strongRecOn with
  | _ n ih =>
    intro f i
    by_cases h : 2 ≤ n
    · obtain ⟨b1, b2, b3, -⟩ := half_spec h
      by_cases hi : i < f + halfT n
      · rw [forks_low h hi, List.length_append]
        have := ih (halfT n) b2 f i
        simp
        omega
      · rw [forks_high h hi, List.length_append]
        have := ih (n - halfT n) (by omega) (f + halfT n) i
        simp
        omega
    · match n with
      | 0 => exact Nat.le_refl _
      | 1 => exact Nat.zero_le _
      | n + 2 => omega
theorem fork_sides : ∀ (n f i : Nat), i < n → (forksT f n (f + i)).map (fun x => !x.2.2) = sidesT n i := by
  intro n
  induction n using Nat.strongRecOn with
  | _ n ih =>
    intro f i hi
    by_cases h : 2 ≤ n
    · obtain ⟨b1, b2, b3, -⟩ := half_spec h
      by_cases hl : i < halfT n
      · rw [forks_low h (by omega), sides_low h hl, List.map_append, ih (halfT n) b2 f i hl]
        rfl
      · rw [forks_high h (by omega), sides_high h hl, List.map_append]
        have := ih (n - halfT n) (by omega) (f + halfT n) (i - halfT n) (by omega)
        rw [show f + halfT n + (i - halfT n) = f + i by omega] at this
        rw [this]
        rfl
    · obtain rfl : n = 1 := by omega
      rfl
theorem fork_in : ∀ (n f i : Nat), ∀ x ∈ forksT f n i, 2 ≤ x.2.1 ∧ x.1 + x.2.1 ≤ f + n := by
  intro n
  induction n using Nat.strongRecOn with
  | _ n ih =>
    intro f i x hx
    by_cases h : 2 ≤ n
    · obtain ⟨b1, b2, b3, -⟩ := half_spec h
      by_cases hl : i < f + halfT n
      · rw [forks_low h hl] at hx
        rcases List.mem_append.1 hx with h1 | h1
        · have := ih (halfT n) b2 f i x h1
          omega
        · cases List.mem_singleton.1 h1
          exact ⟨h, Nat.le_refl _⟩
      · rw [forks_high h hl] at hx
        rcases List.mem_append.1 hx with h1 | h1
        · have := ih (n - halfT n) (by omega) (f + halfT n) i x h1
          omega
        · cases List.mem_singleton.1 h1
          exact ⟨h, Nat.le_refl _⟩
    · match n, hx with
      | 0, hx => cases hx
      | 1, hx => cases hx
      | n + 2, _ => omega
theorem map_getD {α β : Type} (F : List α) (g : α → β) (d : α) (e : β) {k : Nat} (hk : k < F.length) : (F.map g).getD k e = g (F.getD k d) := by
  rw [List.getD_eq_getElem?_getD, List.getD_eq_getElem?_getD, List.getElem?_map, List.getElem?_eq_getElem hk]
  rfl
end Go.Proofs.YtcodmedgkboohaaDoor

namespace Go.Proofs.YtcodmedgkboohaaDoor
set_option maxRecDepth 8000
open Go.RowKit

section
variable {P : Program} {Γ : HP} {md : Region.Mode} {w0 : World}
end
/-- two stretches of a way -/
theorem EnvX.comb {w w5 u : World} {M N : Boxes} (h : EnvX w w5 M) (k : EnvX w5 u N) : EnvX w u (N ++ M) := by
  have h1 := h.below k.bel
  refine ⟨h1.bel, fun g o hm => ?_⟩
  rcases List.mem_append.1 hm with e | e
  · exact k.box g o e
  · exact h1.box g o e
end Go.Proofs.YtcodmedgkboohaaDoor

namespace Go.Proofs.YtcodmedgkboohaaDoor
set_option maxRecDepth 8000
open Go.RowKit

def standT (n i : Int) : Bool := decide (n ≤ 64 ∧ 0 ≤ i ∧ i < n)
set_option maxHeartbeats 1000000 in
theorem stand_any (n i : Int) (w : World) (hn0 : -9223372036854775808 ≤ n) (hn1 : n ≤ 9223372036854775807) (hi0 : -9223372036854775808 ≤ i) (hi1 : i ≤ 9223372036854775807) :
    Calls Tryd.prog 61 #[.int .i64 n, .int .i64 i] w fun e w' => e = .returned (.bool (standT n i)) ∧ Below w.heap.size w w' := by
  by_cases h1 : n ≤ 64
  · by_cases h2 : 0 ≤ i
    · by_cases h3 : i < n
      · have hs : standT n i = true := by unfold standT; simp only [decide_eq_true_eq]; omega
        rw [hs]
        go_enter Tryd.func61, Tryd.ntmps61
        go_wp2
        go_ret
        exact ⟨rfl, Below.refl _ _⟩
      · have hs : standT n i = false := by unfold standT; simp only [decide_eq_false_iff_not]; omega
        rw [hs]
        go_enter Tryd.func61, Tryd.ntmps61
        go_wp2
        go_ret
        exact ⟨rfl, Below.refl _ _⟩
    · have hs : standT n i = false := by unfold standT; simp only [decide_eq_false_iff_not]; omega
      rw [hs]
      go_enter Tryd.func61, Tryd.ntmps61
      go_wp2
      go_ret
      exact ⟨rfl, Below.refl _ _⟩
  · have hs : standT n i = false := by unfold standT; simp only [decide_eq_false_iff_not]; omega
    rw [hs]
    go_enter Tryd.func61, Tryd.ntmps61
    go_wp2
    go_ret
    exact ⟨rfl, Below.refl _ _⟩
end Go.Proofs.YtcodmedgkboohaaDoor

namespace Go.Proofs.YtcodmedgkboohaaDoor
set_option maxRecDepth 8000
open Go.RowKit

theorem aggFork : AggT 101 5 := ⟨fun w => by simp [isAgg, run_underlying Tryd.underlying101], by kernel_rfl⟩
theorem aggStep : AggT 107 96 := ⟨fun w => by simp [isAgg, run_underlying Tryd.underlying107], by kernel_rfl⟩
section
variable {a : Act} {dst : Option Tmp} {x y : Operand} {ty : TypeId} {pos : String} {after : Array Edge} {gd : Option (Nat × Bool)}
end
end Go.Proofs.YtcodmedgkboohaaDoor

namespace Go.Proofs.YtcodmedgkboohaaDoor
set_option maxRecDepth 8000
open Go.RowKit

/-- a fork's cells -/
def fkV (x : Nat × Nat × Bool) : List Value := cutC x.1 x.2.1 ++ [ii (if x.2.2 then 1 else 0)]
theorem fk_len (x : Nat × Nat × Bool) : (fkV x).length = 5 := rfl
theorem fk_rows (l : List (Nat × Nat × Bool)) : isRows 5 (l.map fkV) := by
  intro x hx
  obtain ⟨y, _, rfl⟩ := List.mem_map.1 hx
  exact fk_len y
theorem fk_one (x : Nat × Nat × Bool) : ∀ u ∈ fkV x, u.oneCell' = true := by
  intro u hu
  unfold fkV cutC ii at hu
  simp only [List.mem_append, List.mem_cons, List.not_mem_nil, or_false] at hu
  rcases hu with (rfl | rfl | rfl | rfl) | rfl <;> rfl
theorem elF : ElemT 95 101 5 40 (.agg #[ii 0, ii 0, ii 0, ii 0, ii 0]) := ⟨Tryd.underlying95, by kernel_rfl, rfl, by decide, by decide, by decide⟩
theorem oneFks : ∀ w, (isAgg 95).run Tryd.prog w = .ok false w := fun w => by simp [isAgg, run_underlying Tryd.underlying95]
theorem oneFnF : ∀ w, (isAgg 119).run Tryd.prog w = .ok false w := fun w => by simp [isAgg, run_underlying Tryd.underlying119]
theorem new_fork {dst : Option Tmp} {ty : TypeId} {pos : String} {after : Array Edge} {gd : Option (Nat × Bool)} (a : Act) : NewAt Tryd.prog ⟨dst, .alloc 101, ty, pos, after, gd⟩ a (.cells #[ii 0, ii 0, ii 0, ii 0, ii 0] 101 (0, 0)) :=
  new_of (z := .agg #[ii 0, ii 0, ii 0, ii 0, ii 0]) (n := 5) (by kernel_rfl) a
theorem info_fork : (Tryd.prog.info? 101).map (·.size) = some 5 := by kernel_rfl
theorem info_fks : (Tryd.prog.info? 95).map (·.size) = some 1 := by kernel_rfl
theorem info_fnF : (Tryd.prog.info? 119).map (·.size) = some 1 := by kernel_rfl
theorem info_int : (Tryd.prog.info? 3).map (·.size) = some 1 := by kernel_rfl
def fsV (bi bw bu : Nat) : Value := .func (.func 77) #[] #[ptr bi, ptr bw, ptr bu]
def bxI (i : Nat) : Obj := .cells #[ii i] 3 (0, 0)
def bxF (bi bw bu : Nat) : Obj := .cells #[fsV bi bw bu] 119 (0, 0)
def bxU (v : Value) : Obj := .cells #[v] 95 (0, 0)
def bxK (x : Nat × Nat × Bool) : Obj := .cells (fkV x).toArray 101 (0, 0)
theorem FreshR.one {e : TypeId} {z n : Nat} {xs : List Value} {v : Value} {N : Boxes} (h : FreshR e z n xs v N) : v.cells = #[v] ∧ v.oneCell' = true := by
  rcases h with ⟨g, cap, cur, rfl, _⟩ | ⟨rfl, _⟩ <;> exact ⟨rfl, rfl⟩
/-- what the list is, and where it lies -/
def ForkR (w0 : World) (bu : Nat) (M : Boxes) (L : List (List Value)) (M' : Boxes) : Prop :=
  ∃ v N, M' = (bu, bxU v) :: (N ++ M) ∧ FreshR 101 5 L.length L.flatten v N ∧ freshN w0 N ((bu, bxU v) :: M)
theorem put_one {v v' : Value} (h : v'.cells = #[v']) : (#[v] : Array Value).toList.take 0 ++ v'.cells.toList ++ (#[v] : Array Value).toList.drop (0 + v'.cells.size) = (#[v'] : Array Value).toList := by
  rw [h]
  rfl
set_option maxRecDepth 20000 in
set_option maxHeartbeats 4000000 in
theorem forks1_any (i bi bw bu : Nat) (hi : i ≤ 1000000) : ∀ (n f : Nat) (w0 w : World) (M : Boxes) (L : List (List Value)) (v : Value) (N : Boxes), 1 ≤ n → f + n ≤ 1000000 → L.length + n ≤ 1000000 →
    (bi, bxI i) ∈ M → (bw, bxF bi bw bu) ∈ M → w0.heap.size ≤ bu → (∀ y ∈ M, y.1 ≠ bu) → isRows 5 L → FreshR 101 5 L.length L.flatten v N → freshN w0 N ((bu, bxU v) :: M) → EnvX w0 w ((bu, bxU v) :: (N ++ M)) →
    Calls Tryd.prog 77 #[.agg (spanC f n).toArray, ptr bi, ptr bw, ptr bu] w fun e w' => ∃ x M', e = .returned x ∧ EnvX w0 w' M' ∧ ForkR w0 bu M (L ++ (forksT f n i).map fkV) M' := by
  intro n
  induction n using Nat.strongRecOn with
  | _ n ih =>
    intro f w0 w M L v N h1 hfn hLn hMi hMw hbu hbM hR hF hN hE
    have E1 : Hid (EnvX w0 (w.alloc (.cells (spanC f n).toArray 98)) ((w.heap.size, Obj.cells (spanC f n).toArray 98 (0, 0)) :: (bu, bxU v) :: (N ++ M))) := hE.new _
    have q1 : Hid (((f + n : Nat) : Int) - (f : Int) = (n : Int) ∧ InI (n : Int)) := by show _ ∧ _; unfold InI; omega
    by_cases hn1 : n = 1
    · have HB : Hid (decide ((n : Int) = 1) = true) := decide_eq_true (by omega)
      have HFK : Hid (forksT f n i = []) := by show _ = _; rw [hn1]; exact forks_one f i
      have HRES : Hid (∀ u, EnvX w0 u ((w.heap.size, Obj.cells (spanC f n).toArray 98 (0, 0)) :: (bu, bxU v) :: (N ++ M)) → ∃ M', EnvX w0 u M' ∧ ForkR w0 bu M (L ++ (forksT f n i).map fkV) M') := fun u hu => by
        rw [HFK.out, List.map_nil, List.append_nil]
        exact ⟨_, EnvX.sub hu (fun y hy => List.mem_cons_of_mem _ hy), v, N, rfl, hF, hN⟩
      clear ih hE hN hF hR hbM hMi hMw hn1
      unfold ptr
      go_enter Tryd.func77, Tryd.ntmps77
      go_upto_region 1 with (fail)
      generalize w.alloc (.cells (spanC f n).toArray 98) = W at *
      refine wp_region_Hx (w0 := w0) [0, 1, 2, 3, 4, 5] ((w.heap.size, Obj.cells (spanC f n).toArray 98 (0, 0)) :: ((bu, bxU v) :: (N ++ M))) rfl E1.out ?_
      refine lexH_phase [0, 1, 2, 3, 4, 5] [] ?_
      have hw1 : EnvX w0 _ ((w.heap.size, Obj.cells (spanC f n).toArray 98 (0, 0)) :: ((bu, bxU v) :: (N ++ M))) := E1.out
      have hone := @EnvC.one _ _ _ hw1
      (refine wpG_op rfl rfl rfl ?_; intro K hK; go_big_quiet_op; go_big_quiet_on)
      (refine wpG_val (v := ii (f + n)) rfl rfl (fun u hu => load_any_op u (run_load_one oneInt u (box_cell (k := 1) hu (List.Mem.head _) rfl)) rfl) ?_ hw1; intro K hK; go_big_quiet_op; go_big_quiet_on)
      (refine wpG_op rfl rfl rfl ?_; intro K hK; go_big_quiet_op; go_big_quiet_on)
      (refine wpG_val (v := ii f) rfl rfl (fun u hu => load_any_op u (run_load_one oneInt u (box_cell (k := 0) hu (List.Mem.head _) rfl)) rfl) ?_ hw1; intro K hK; go_big_quiet_op; go_big_quiet_on)
      (refine wpG_val (v := ii n) rfl rfl (fun u hu => sub_op u q1.out.1 q1.out.2 rfl rfl) ?_ hw1; intro K hK; go_big_quiet_op; go_big_quiet_on)
      (refine wpG_val (v := .bool true) rfl rfl (fun u hu => eqlI_op u HB.out rfl rfl) ?_ hw1; intro K hK; go_big_quiet_op; go_big_quiet_on)
      clear hone hw1
      refine wpG_nil ?_
      intro u3 E2'
      have EX2 := Lib.hid E2'
      clear E2'
      have HR2 := Lib.hid (HRES.out u3 EX2.out)
      clear EX2 HRES
      go_wp2_with fail
      refine bodyPost_ret (results_none rfl _ _ _) rfl ?_
      obtain ⟨M', e1, e2⟩ := HR2.out
      exact ⟨_, M', rfl, e1, e2⟩
    · have h2 : 2 ≤ n := by omega
      obtain ⟨b1, b2, b3, -⟩ := half_spec h2
      have HB : Hid (decide ((n : Int) = 1) = false) := decide_eq_false (by omega)
      have HCUT := Lib.hid (fun u => cut_any f n u h2 (by omega))
      have hwb : bu < w.heap.size := EnvX.lt hE (List.Mem.head _)
      have HW0 : Hid (w0.heap.size ≤ bu) := hbu
      have HBM := Lib.hid hbM
      have HMI := Lib.hid hMi
      have HMW := Lib.hid hMw
      by_cases hlow : i < f + halfT n
      · have HGE : Hid (decide (((f + halfT n : Nat) : Int) ≤ (i : Int)) = false) := decide_eq_false (by omega)
        have HFK := Lib.hid (forks_low h2 hlow)
        have HCALL : Hid (∀ g, w0.heap.size ≤ g → (∀ z ∈ ((bu, bxU v) :: (N ++ M)), z.1 ≠ g) → ∀ u, EnvX w0 u ((g, bxK (f, n, false)) :: (bu, bxU v) :: (N ++ M)) →
            Calls Tryd.prog 77 #[.agg (spanC f (halfT n)).toArray, ptr bi, ptr bw, ptr bu] u fun e w' => ∃ x M', e = .returned x ∧ EnvX w0 w' M' ∧ ForkR w0 bu ((g, bxK (f, n, false)) :: M) (L ++ (forksT f (halfT n) i).map fkV) M') := fun g hg hz u hu =>
          ih (halfT n) b2 f w0 u ((g, bxK (f, n, false)) :: M) L v N b1 (by omega) (by omega) (List.mem_cons_of_mem _ hMi) (List.mem_cons_of_mem _ hMw) hbu
            (List.forall_mem_cons.2 ⟨fun e => hz _ (List.Mem.head _) e.symm, hbM⟩) hR hF
            (fun y hy => ⟨(hN y hy).1, List.forall_mem_cons.2 ⟨(hN y hy).2 _ (List.Mem.head _), List.forall_mem_cons.2 ⟨fun e => hz y (List.mem_cons_of_mem _ (List.mem_append_left _ hy)) e.symm, fun z hz2 => (hN y hy).2 z (List.mem_cons_of_mem _ hz2)⟩⟩⟩)
            (EnvX.sub hu (List.forall_mem_cons.2 ⟨List.mem_cons_of_mem _ (List.Mem.head _), fun y hy => by
              rcases List.mem_append.1 hy with h | h
              · exact List.mem_cons_of_mem _ (List.mem_cons_of_mem _ (List.mem_append_left _ h))
              · rcases List.mem_cons.1 h with h | h
                · rw [h]; exact List.Mem.head _
                · exact List.mem_cons_of_mem _ (List.mem_cons_of_mem _ (List.mem_append_right _ h))⟩))
        have HRR : Hid (isRows 5 (L ++ (forksT f (halfT n) i).map fkV) ∧ (L ++ (forksT f (halfT n) i).map fkV).length ≤ 1000000) := ⟨fun x hx => (List.mem_append.1 hx).elim (hR x) (fk_rows _ x), by rw [List.length_append, List.length_map]; have := forks_len (halfT n) f i; omega⟩
        clear ih hE hN hF hR hbM hMi hMw hn1 hlow
        unfold ptr
        go_enter Tryd.func77, Tryd.ntmps77
        go_upto_region 1 with (fail)
        generalize w.alloc (.cells (spanC f n).toArray 98) = W at *
        refine wp_region_Hx (w0 := w0) [0, 1, 2, 3, 4, 5] ((w.heap.size, Obj.cells (spanC f n).toArray 98 (0, 0)) :: ((bu, bxU v) :: (N ++ M))) rfl E1.out ?_
        refine lexH_phase [0, 1, 2, 3, 4, 5] [] ?_
        have hw1 : EnvX w0 _ ((w.heap.size, Obj.cells (spanC f n).toArray 98 (0, 0)) :: ((bu, bxU v) :: (N ++ M))) := E1.out
        have hone := @EnvC.one _ _ _ hw1
        (refine wpG_op rfl rfl rfl ?_; intro K hK; go_big_quiet_op; go_big_quiet_on)
        (refine wpG_val (v := ii (f + n)) rfl rfl (fun u hu => load_any_op u (run_load_one oneInt u (box_cell (k := 1) hu (List.Mem.head _) rfl)) rfl) ?_ hw1; intro K hK; go_big_quiet_op; go_big_quiet_on)
        (refine wpG_op rfl rfl rfl ?_; intro K hK; go_big_quiet_op; go_big_quiet_on)
        (refine wpG_val (v := ii f) rfl rfl (fun u hu => load_any_op u (run_load_one oneInt u (box_cell (k := 0) hu (List.Mem.head _) rfl)) rfl) ?_ hw1; intro K hK; go_big_quiet_op; go_big_quiet_on)
        (refine wpG_val (v := ii n) rfl rfl (fun u hu => sub_op u q1.out.1 q1.out.2 rfl rfl) ?_ hw1; intro K hK; go_big_quiet_op; go_big_quiet_on)
        (refine wpG_val (v := .bool false) rfl rfl (fun u hu => eqlI_op u HB.out rfl rfl) ?_ hw1; intro K hK; go_big_quiet_op; go_big_quiet_on)
        clear hone hw1
        refine wpG_nil ?_
        intro u3 E2'
        have EX2 := Lib.hid E2'
        clear E2'
        go_upto_region 2 with (fail)
        refine wp_region_Hx (w0 := w0) [0, 1, 2, 3, 4] ((w.heap.size, Obj.cells (spanC f n).toArray 98 (0, 0)) :: ((bu, bxU v) :: (N ++ M))) rfl EX2.out ?_
        refine lexH_phase [0, 1, 2] [3, 4] ?_
        have hw4 : EnvX w0 _ ((w.heap.size, Obj.cells (spanC f n).toArray 98 (0, 0)) :: ((bu, bxU v) :: (N ++ M))) := EX2.out
        have hone := @EnvC.one _ _ _ hw4
        (refine wpG_val (v := .agg (spanC f n).toArray) rfl rfl (fun u hu => load_any_op u (box_agg aggSpan (k := 0) hu (List.Mem.head _) (spanC f n) rfl rfl) rfl) ?_ hw4; intro K hK; go_big_quiet_op; go_big_quiet_on)
        (refine wpG_call (f := 73) (args := #[.agg (spanC f n).toArray]) (v := .agg (cutC f n).toArray) rfl rfl rfl Tryd.func73 rfl rfl (fun u hu => HCUT.out u) ?_ hw4; intro K hK; go_big_quiet_op; go_big_quiet_on)
        (refine wpG_val (v := .agg (fkV (f, n, false)).toArray) rfl rfl (fun u hu => buildA_op u (by kernel_rfl)) ?_ hw4; intro K hK; go_big_quiet_op; go_big_quiet_on)
        clear hone hw4
        refine wpG_nil ?_
        refine (hOp_fresh (R := fun x N => ∃ g, x = .pointer (some ⟨g, 0, none⟩) ∧ N = [(g, Obj.cells #[ii 0, ii 0, ii 0, ii 0, ii 0] 101 (0, 0))]) (M0 := ((w.heap.size, Obj.cells (spanC f n).toArray 98 (0, 0)) :: ((bu, bxU v) :: (N ++ M)))) rfl rfl (fun _ h => h) (fun u hu => FAt_new (new_fork _) u) ?_)
        rintro x N ⟨g5, rfl, rfl⟩ hf he5; intro K' hK'; go_big_quiet_op; go_big_quiet_on
        have HG5 := Lib.hid (And.intro (hf _ (List.mem_singleton.2 rfl)).1 (fun z hz => (hf _ (List.mem_singleton.2 rfl)).2 z (List.mem_cons_of_mem _ hz)))
        clear hf
        change lexH _ _ _ _ _ _ ((g5, Obj.cells #[ii 0, ii 0, ii 0, ii 0, ii 0] 101 (0, 0)) :: ((w.heap.size, Obj.cells (spanC f n).toArray 98 (0, 0)) :: ((bu, bxU v) :: (N ++ M))))
        refine (hOp_putAt rfl (g5) (0) (.agg (fkV (f, n, false)).toArray) rfl rfl HG5.out.1 101 (#[ii 0, ii 0, ii 0, ii 0, ii 0]) ((fkV (f, n, false)).toArray) (List.Mem.head _) info_fork (Nat.le_refl 5) (by kernel_rfl) rfl ((g5, Obj.cells ((fkV (f, n, false)).toArray) 101 (0, 0)) :: ((bu, bxU v) :: (N ++ M))) (List.forall_mem_cons.2 ⟨.inl rfl, fun y hy => .inr ⟨List.mem_cons_of_mem _ (List.mem_cons_of_mem _ hy), HG5.out.2 y hy⟩⟩) ?_)
        intro he6
        intro u8 E2'
        have EX7 := Lib.hid E2'
        clear E2'
        go_upto_region 3 with (fail)
        refine wp_region_Hx (w0 := w0) [0, 1, 2, 3, 4, 5] ((g5, bxK (f, n, false)) :: ((bu, bxU v) :: (N ++ M))) rfl EX7.out ?_
        refine lexH_phase [0, 1, 2, 3, 4, 5] [] ?_
        have hw9 : EnvX w0 _ ((g5, bxK (f, n, false)) :: ((bu, bxU v) :: (N ++ M))) := EX7.out
        have hone := @EnvC.one _ _ _ hw9
        (refine wpG_val (v := ii i) rfl rfl (fun u hu => load_any_op u (run_load_one oneInt u (box_cell (k := 0) hu (List.mem_cons_of_mem _ (List.mem_cons_of_mem _ (List.mem_append_right _ HMI.out))) rfl)) rfl) ?_ hw9; intro K hK; go_big_quiet_op; go_big_quiet_on)
        (refine wpG_op rfl rfl rfl ?_; intro K hK; go_big_quiet_op; go_big_quiet_on)
        (refine wpG_val (v := .pointer (some ⟨g5, 0 + 1 * 2, none⟩)) rfl rfl (fun u hu => idxArr_op (i := 1) Tryd.underlying99 aggSpan.size (by decide) u rfl rfl) ?_ hw9; intro K hK; go_big_quiet_op; go_big_quiet_on)
        (refine wpG_op rfl rfl rfl ?_; intro K hK; go_big_quiet_op; go_big_quiet_on)
        (refine wpG_val (v := ii (f + halfT n)) rfl rfl (fun u hu => load_any_op u (run_load_one oneInt u (box_cell (k := 2) hu (List.Mem.head _) rfl)) rfl) ?_ hw9; intro K hK; go_big_quiet_op; go_big_quiet_on)
        (refine wpG_val (v := .bool false) rfl rfl (fun u hu => geq_op u HGE.out rfl rfl) ?_ hw9; intro K hK; go_big_quiet_op; go_big_quiet_on)
        clear hone hw9
        refine wpG_nil ?_
        intro u11 E2'
        have EX10 := Lib.hid E2'
        clear E2'
        go_upto_region 5 with (fail)
        refine wp_region_H (w0 := w0) ((g5, bxK (f, n, false)) :: ((bu, bxU v) :: (N ++ M))) (by kernel_rfl) EX10.out ?_
        refine anyH_phase [0, 1, 2, 3, 4, 5] 1 rfl ⟨_, (EnvX.drew EX10.out)⟩ (by kernel_rfl) ?_
        have hw12 : EnvX w0 _ ((g5, bxK (f, n, false)) :: ((bu, bxU v) :: (N ++ M))) := (EnvX.drew EX10.out)
        have hone := @EnvC.one _ _ _ hw12
        (refine wpG_val (v := fsV bi bw bu) rfl rfl (fun u hu => load_any_op u (run_load_one oneFnF u (box_cell (k := 0) hu (List.mem_cons_of_mem _ (List.mem_cons_of_mem _ (List.mem_append_right _ HMW.out))) rfl)) rfl) ?_ hw12; intro K hK; go_big_quiet_op; go_big_quiet_on)
        (refine wpG_op rfl rfl rfl ?_; intro K hK; go_big_quiet_op; go_big_quiet_on)
        (refine wpG_val (v := ii 0) rfl rfl (fun u hu => load_any_op u (run_load_one oneInt u (box_cell (k := 4) hu (List.Mem.head _) rfl)) rfl) ?_ hw12; intro K hK; go_big_quiet_op; go_big_quiet_on)
        (refine wpG_op rfl rfl rfl ?_; intro K hK; go_big_quiet_op; go_big_quiet_on)
        (refine wpG_val (v := .pointer (some ⟨g5, 0 + 0 * 2, none⟩)) rfl rfl (fun u hu => idxArr_op (i := 0) Tryd.underlying99 aggSpan.size (by decide) u rfl rfl) ?_ hw12; intro K hK; go_big_quiet_op; go_big_quiet_on)
        (refine wpG_val (v := .agg (spanC f (halfT n)).toArray) rfl rfl (fun u hu => load_any_op u (box_agg aggSpan (k := 0) hu (List.Mem.head _) (spanC f (halfT n)) rfl (by first | rfl | (rw [HSP.out]; rfl))) rfl) ?_ hw12; intro K hK; go_big_quiet_op; go_big_quiet_on)
        clear hone hw12
        refine wpG_nil ?_
        refine anyH_one (i := 6) (by kernel_rfl) (hOp_turn (gd := none) (R := fun _ M3 => ForkR w0 bu ((g5, bxK (f, n, false)) :: M) (L ++ (forksT f (halfT n) i).map fkV) M3) rfl rfl rfl rfl (fun u hu => OUpon_callV (f := 77) (args := #[.agg (spanC f (halfT n)).toArray]) (caps := #[ptr bi, ptr bw, ptr bu]) (all := #[.agg (spanC f (halfT n)).toArray, ptr bi, ptr bw, ptr bu]) rfl rfl rfl Tryd.func77 rfl rfl u (HCALL.out g5 HG5.out.1 HG5.out.2 u hu)) ?_)
        rintro x M' ⟨v1, N1, rfl, hF1, hN1⟩ he13; intro K' hK'; go_big_quiet_op; go_big_quiet_on
        have HF1 := Lib.hid hF1
        have HN1 := Lib.hid hN1
        clear hF1 hN1
        change anyH _ _ _ _ _ _ _ _ ((bu, bxU v1) :: (N1 ++ ((g5, bxK (f, n, false)) :: M)))
        refine anyH_done (by kernel_rfl) ?_
        intro u15 E2'
        have EX14 := Lib.hid E2'
        clear E2'
        go_upto_region 6 with (fail)
        refine wp_region_Hx (w0 := w0) [0, 1, 2, 3, 4] ((bu, bxU v1) :: (N1 ++ ((g5, bxK (f, n, false)) :: M))) rfl EX14.out ?_
        refine lexH_phase [0, 1] [2, 3, 4] ?_
        have hw16 : EnvX w0 _ ((bu, bxU v1) :: (N1 ++ ((g5, bxK (f, n, false)) :: M))) := EX14.out
        have hone := @EnvC.one _ _ _ hw16
        (refine wpG_val (v := v1) rfl rfl (fun u hu => load_any_op u (run_load_one oneFks u (box_cell (k := 0) hu (List.Mem.head _) rfl)) rfl) ?_ hw16; intro K hK; go_big_quiet_op; go_big_quiet_on)
        (refine wpG_val (v := .agg (fkV (f, n, false)).toArray) rfl rfl (fun u hu => load_any_op u (box_agg aggFork (k := 0) hu (List.mem_cons_of_mem _ (List.mem_append_right _ (List.Mem.head _))) (fkV (f, n, false)) rfl rfl) rfl) ?_ hw16; intro K hK; go_big_quiet_op; go_big_quiet_on)
        clear hone hw16
        refine wpG_nil ?_
        refine (hOp_fresh (R := BuiltR 101 (fkV (f, n, false))) (M0 := ((bu, bxU v1) :: (N1 ++ ((g5, bxK (f, n, false)) :: M)))) rfl rfl (fun _ h => h) (fun u hu => FAt_buildR elF (fk_len (f, n, false)) (fk_one (f, n, false)) rfl u) ?_)
        rintro x N ⟨gb, rfl, rfl⟩ hf he17; intro K' hK'; go_big_quiet_op; go_big_quiet_on
        clear hf
        change lexH _ _ _ _ _ _ ((gb, Obj.cells (fkV (f, n, false)).toArray 101 (0, 0)) :: ((bu, bxU v1) :: (N1 ++ ((g5, bxK (f, n, false)) :: M))))
        refine (hOp_own (gd := none) (R := GrownR w0 101 5 ((L ++ (forksT f (halfT n) i).map fkV).length + 1) ((L ++ (forksT f (halfT n) i).map fkV).flatten ++ fkV (f, n, false)) ((bu, bxU v1) :: M)) rfl rfl rfl rfl (fun u hu => appR_op elF (m := 1) (c := 1) ((bu, bxU v1) :: M) hu HRR.out.1.flat_len (fk_len (f, n, false)) (fk_one (f, n, false)) HF1.out (fun y hy => ⟨List.mem_cons_of_mem _ (List.mem_cons_of_mem _ (List.mem_append_left _ hy)), (HN1.out y hy).1⟩) (List.Mem.head _) (List.forall_mem_cons.2 ⟨⟨List.mem_cons_of_mem _ (List.Mem.head _), fun y hy => (HN1.out y hy).2 _ (List.Mem.head _)⟩, fun z hz => ⟨List.mem_cons_of_mem _ (List.mem_cons_of_mem _ (List.mem_append_right _ (List.mem_cons_of_mem _ hz))), fun y hy => (HN1.out y hy).2 z (List.mem_cons_of_mem _ (List.mem_cons_of_mem _ hz))⟩⟩) (by have := HRR.out.2; omega) rfl rfl) ?_)
        rintro x M' ⟨N2, rfl, hF2, hN2⟩ he18; intro K' hK'; go_big_quiet_op; go_big_quiet_on
        have HF2 := Lib.hid hF2
        have HN2 := Lib.hid hN2
        clear hF2 hN2
        change lexH _ _ _ _ _ _ (N2 ++ ((bu, bxU v1) :: M))
        refine (hOp_putAt rfl (bu) (0) (x) rfl rfl HW0.out 95 (#[v1]) (#[x]) (List.mem_append_right _ (List.Mem.head _)) (by rw [HF2.out.one.1]; exact info_fks) (by rw [HF2.out.one.1]; exact Nat.le_refl 1) (by rw [HF2.out.one.1]; simp [HF2.out.one.2]) (put_one HF2.out.one.1) ((bu, Obj.cells (#[x]) 95 (0, 0)) :: (N2 ++ M)) (List.forall_mem_cons.2 ⟨.inl rfl, fun y hy => .inr ((List.mem_append.1 hy).elim (fun h => ⟨List.mem_append_left _ h, fun e => (HN2.out y h).2 _ (List.Mem.head _) e.symm⟩) (fun h => ⟨List.mem_append_right _ (List.mem_cons_of_mem _ h), HBM.out y h⟩))⟩) ?_)
        intro he19
        intro u21 E2'
        have EX20 := Lib.hid E2'
        clear E2'
        have HX := Lib.hid (And.intro EX20.out HF2.out)
        have HN3 := HN2
        clear EX20 HF2 HN2
        go_wp2_with fail
        go_end0
        refine ⟨⟨_, rfl⟩, _, HX.out.1, x, N2, rfl, ?_, ?_⟩
        · rw [HFK.out, List.map_append, List.map_cons, List.map_nil, ← List.append_assoc, List.length_append, List.flatten_append, List.flatten_cons, List.flatten_nil, List.append_nil]
          exact HX.out.2
        · exact fun y hy => ⟨(HN3.out y hy).1, List.forall_mem_cons.2 ⟨(HN3.out y hy).2 (bu, bxU v1) (List.Mem.head _), fun z hz => (HN3.out y hy).2 z (List.mem_cons_of_mem _ hz)⟩⟩
      · have HGE : Hid (decide (((f + halfT n : Nat) : Int) ≤ (i : Int)) = true) := decide_eq_true (by omega)
        have HFK := Lib.hid (forks_high h2 hlow)
        have HCALL : Hid (∀ g, w0.heap.size ≤ g → (∀ z ∈ ((bu, bxU v) :: (N ++ M)), z.1 ≠ g) → ∀ u, EnvX w0 u ((g, bxK (f, n, true)) :: (bu, bxU v) :: (N ++ M)) →
            Calls Tryd.prog 77 #[.agg (spanC (f + halfT n) (n - halfT n)).toArray, ptr bi, ptr bw, ptr bu] u fun e w' => ∃ x M', e = .returned x ∧ EnvX w0 w' M' ∧ ForkR w0 bu ((g, bxK (f, n, true)) :: M) (L ++ (forksT (f + halfT n) (n - halfT n) i).map fkV) M') := fun g hg hz u hu =>
          ih (n - halfT n) (by omega) (f + halfT n) w0 u ((g, bxK (f, n, true)) :: M) L v N (by omega) (by omega) (by omega) (List.mem_cons_of_mem _ hMi) (List.mem_cons_of_mem _ hMw) hbu
            (List.forall_mem_cons.2 ⟨fun e => hz _ (List.Mem.head _) e.symm, hbM⟩) hR hF
            (fun y hy => ⟨(hN y hy).1, List.forall_mem_cons.2 ⟨(hN y hy).2 _ (List.Mem.head _), List.forall_mem_cons.2 ⟨fun e => hz y (List.mem_cons_of_mem _ (List.mem_append_left _ hy)) e.symm, fun z hz2 => (hN y hy).2 z (List.mem_cons_of_mem _ hz2)⟩⟩⟩)
            (EnvX.sub hu (List.forall_mem_cons.2 ⟨List.mem_cons_of_mem _ (List.Mem.head _), fun y hy => by
              rcases List.mem_append.1 hy with h | h
              · exact List.mem_cons_of_mem _ (List.mem_cons_of_mem _ (List.mem_append_left _ h))
              · rcases List.mem_cons.1 h with h | h
                · rw [h]; exact List.Mem.head _
                · exact List.mem_cons_of_mem _ (List.mem_cons_of_mem _ (List.mem_append_right _ h))⟩))
        have HRR : Hid (isRows 5 (L ++ (forksT (f + halfT n) (n - halfT n) i).map fkV) ∧ (L ++ (forksT (f + halfT n) (n - halfT n) i).map fkV).length ≤ 1000000) := ⟨fun x hx => (List.mem_append.1 hx).elim (hR x) (fk_rows _ x), by rw [List.length_append, List.length_map]; have := forks_len (n - halfT n) (f + halfT n) i; omega⟩
        have HSP : Hid (spanC (f + halfT n) (n - halfT n) = [ii (f + halfT n), ii (f + n)]) := by show _ = _; unfold spanC; rw [show f + halfT n + (n - halfT n) = f + n by omega]
        clear ih hE hN hF hR hbM hMi hMw hn1 hlow
        unfold ptr
        go_enter Tryd.func77, Tryd.ntmps77
        go_upto_region 1 with (fail)
        generalize w.alloc (.cells (spanC f n).toArray 98) = W at *
        refine wp_region_Hx (w0 := w0) [0, 1, 2, 3, 4, 5] ((w.heap.size, Obj.cells (spanC f n).toArray 98 (0, 0)) :: ((bu, bxU v) :: (N ++ M))) rfl E1.out ?_
        refine lexH_phase [0, 1, 2, 3, 4, 5] [] ?_
        have hw1 : EnvX w0 _ ((w.heap.size, Obj.cells (spanC f n).toArray 98 (0, 0)) :: ((bu, bxU v) :: (N ++ M))) := E1.out
        have hone := @EnvC.one _ _ _ hw1
        (refine wpG_op rfl rfl rfl ?_; intro K hK; go_big_quiet_op; go_big_quiet_on)
        (refine wpG_val (v := ii (f + n)) rfl rfl (fun u hu => load_any_op u (run_load_one oneInt u (box_cell (k := 1) hu (List.Mem.head _) rfl)) rfl) ?_ hw1; intro K hK; go_big_quiet_op; go_big_quiet_on)
        (refine wpG_op rfl rfl rfl ?_; intro K hK; go_big_quiet_op; go_big_quiet_on)
        (refine wpG_val (v := ii f) rfl rfl (fun u hu => load_any_op u (run_load_one oneInt u (box_cell (k := 0) hu (List.Mem.head _) rfl)) rfl) ?_ hw1; intro K hK; go_big_quiet_op; go_big_quiet_on)
        (refine wpG_val (v := ii n) rfl rfl (fun u hu => sub_op u q1.out.1 q1.out.2 rfl rfl) ?_ hw1; intro K hK; go_big_quiet_op; go_big_quiet_on)
        (refine wpG_val (v := .bool false) rfl rfl (fun u hu => eqlI_op u HB.out rfl rfl) ?_ hw1; intro K hK; go_big_quiet_op; go_big_quiet_on)
        clear hone hw1
        refine wpG_nil ?_
        intro u3 E2'
        have EX2 := Lib.hid E2'
        clear E2'
        go_upto_region 2 with (fail)
        refine wp_region_Hx (w0 := w0) [0, 1, 2, 3, 4] ((w.heap.size, Obj.cells (spanC f n).toArray 98 (0, 0)) :: ((bu, bxU v) :: (N ++ M))) rfl EX2.out ?_
        refine lexH_phase [0, 1, 2] [3, 4] ?_
        have hw4 : EnvX w0 _ ((w.heap.size, Obj.cells (spanC f n).toArray 98 (0, 0)) :: ((bu, bxU v) :: (N ++ M))) := EX2.out
        have hone := @EnvC.one _ _ _ hw4
        (refine wpG_val (v := .agg (spanC f n).toArray) rfl rfl (fun u hu => load_any_op u (box_agg aggSpan (k := 0) hu (List.Mem.head _) (spanC f n) rfl rfl) rfl) ?_ hw4; intro K hK; go_big_quiet_op; go_big_quiet_on)
        (refine wpG_call (f := 73) (args := #[.agg (spanC f n).toArray]) (v := .agg (cutC f n).toArray) rfl rfl rfl Tryd.func73 rfl rfl (fun u hu => HCUT.out u) ?_ hw4; intro K hK; go_big_quiet_op; go_big_quiet_on)
        (refine wpG_val (v := .agg (fkV (f, n, false)).toArray) rfl rfl (fun u hu => buildA_op u (by kernel_rfl)) ?_ hw4; intro K hK; go_big_quiet_op; go_big_quiet_on)
        clear hone hw4
        refine wpG_nil ?_
        refine (hOp_fresh (R := fun x N => ∃ g, x = .pointer (some ⟨g, 0, none⟩) ∧ N = [(g, Obj.cells #[ii 0, ii 0, ii 0, ii 0, ii 0] 101 (0, 0))]) (M0 := ((w.heap.size, Obj.cells (spanC f n).toArray 98 (0, 0)) :: ((bu, bxU v) :: (N ++ M)))) rfl rfl (fun _ h => h) (fun u hu => FAt_new (new_fork _) u) ?_)
        rintro x N ⟨g5, rfl, rfl⟩ hf he5; intro K' hK'; go_big_quiet_op; go_big_quiet_on
        have HG5 := Lib.hid (And.intro (hf _ (List.mem_singleton.2 rfl)).1 (fun z hz => (hf _ (List.mem_singleton.2 rfl)).2 z (List.mem_cons_of_mem _ hz)))
        clear hf
        change lexH _ _ _ _ _ _ ((g5, Obj.cells #[ii 0, ii 0, ii 0, ii 0, ii 0] 101 (0, 0)) :: ((w.heap.size, Obj.cells (spanC f n).toArray 98 (0, 0)) :: ((bu, bxU v) :: (N ++ M))))
        refine (hOp_putAt rfl (g5) (0) (.agg (fkV (f, n, false)).toArray) rfl rfl HG5.out.1 101 (#[ii 0, ii 0, ii 0, ii 0, ii 0]) ((fkV (f, n, false)).toArray) (List.Mem.head _) info_fork (Nat.le_refl 5) (by kernel_rfl) rfl ((g5, Obj.cells ((fkV (f, n, false)).toArray) 101 (0, 0)) :: ((bu, bxU v) :: (N ++ M))) (List.forall_mem_cons.2 ⟨.inl rfl, fun y hy => .inr ⟨List.mem_cons_of_mem _ (List.mem_cons_of_mem _ hy), HG5.out.2 y hy⟩⟩) ?_)
        intro he6
        intro u8 E2'
        have EX7 := Lib.hid E2'
        clear E2'
        go_upto_region 3 with (fail)
        refine wp_region_Hx (w0 := w0) [0, 1, 2, 3, 4, 5] ((g5, bxK (f, n, false)) :: ((bu, bxU v) :: (N ++ M))) rfl EX7.out ?_
        refine lexH_phase [0, 1, 2, 3, 4, 5] [] ?_
        have hw9 : EnvX w0 _ ((g5, bxK (f, n, false)) :: ((bu, bxU v) :: (N ++ M))) := EX7.out
        have hone := @EnvC.one _ _ _ hw9
        (refine wpG_val (v := ii i) rfl rfl (fun u hu => load_any_op u (run_load_one oneInt u (box_cell (k := 0) hu (List.mem_cons_of_mem _ (List.mem_cons_of_mem _ (List.mem_append_right _ HMI.out))) rfl)) rfl) ?_ hw9; intro K hK; go_big_quiet_op; go_big_quiet_on)
        (refine wpG_op rfl rfl rfl ?_; intro K hK; go_big_quiet_op; go_big_quiet_on)
        (refine wpG_val (v := .pointer (some ⟨g5, 0 + 1 * 2, none⟩)) rfl rfl (fun u hu => idxArr_op (i := 1) Tryd.underlying99 aggSpan.size (by decide) u rfl rfl) ?_ hw9; intro K hK; go_big_quiet_op; go_big_quiet_on)
        (refine wpG_op rfl rfl rfl ?_; intro K hK; go_big_quiet_op; go_big_quiet_on)
        (refine wpG_val (v := ii (f + halfT n)) rfl rfl (fun u hu => load_any_op u (run_load_one oneInt u (box_cell (k := 2) hu (List.Mem.head _) rfl)) rfl) ?_ hw9; intro K hK; go_big_quiet_op; go_big_quiet_on)
        (refine wpG_val (v := .bool true) rfl rfl (fun u hu => geq_op u HGE.out rfl rfl) ?_ hw9; intro K hK; go_big_quiet_op; go_big_quiet_on)
        clear hone hw9
        refine wpG_nil ?_
        intro u11 E2'
        have EX10 := Lib.hid E2'
        clear E2'
        go_upto_region 4 with (fail)
        refine wp_region_Hx (w0 := w0) [0, 1] ((g5, bxK (f, n, false)) :: ((bu, bxU v) :: (N ++ M))) rfl EX10.out ?_
        refine lexH_phase [0] [1] ?_
        have hw12 : EnvX w0 _ ((g5, bxK (f, n, false)) :: ((bu, bxU v) :: (N ++ M))) := EX10.out
        have hone := @EnvC.one _ _ _ hw12
        (refine wpG_op rfl rfl rfl ?_; intro K hK; go_big_quiet_op; go_big_quiet_on)
        clear hone hw12
        refine wpG_nil ?_
        refine (hOp_putAt rfl (g5) (4) (ii 1) rfl rfl HG5.out.1 101 ((fkV (f, n, false)).toArray) ((fkV (f, n, true)).toArray) (List.Mem.head _) info_int (Nat.le_refl 5) (by kernel_rfl) rfl ((g5, Obj.cells ((fkV (f, n, true)).toArray) 101 (0, 0)) :: ((bu, bxU v) :: (N ++ M))) (List.forall_mem_cons.2 ⟨.inl rfl, fun y hy => .inr ⟨List.mem_cons_of_mem _ hy, HG5.out.2 y hy⟩⟩) ?_)
        intro he13
        intro u15 E2'
        have EX14 := Lib.hid E2'
        clear E2'
        go_upto_region 5 with (fail)
        refine wp_region_H (w0 := w0) ((g5, bxK (f, n, true)) :: ((bu, bxU v) :: (N ++ M))) (by kernel_rfl) EX14.out ?_
        refine anyH_phase [0, 1, 2, 3, 4, 5] 1 rfl ⟨_, (EnvX.drew EX14.out)⟩ (by kernel_rfl) ?_
        have hw16 : EnvX w0 _ ((g5, bxK (f, n, true)) :: ((bu, bxU v) :: (N ++ M))) := (EnvX.drew EX14.out)
        have hone := @EnvC.one _ _ _ hw16
        (refine wpG_val (v := fsV bi bw bu) rfl rfl (fun u hu => load_any_op u (run_load_one oneFnF u (box_cell (k := 0) hu (List.mem_cons_of_mem _ (List.mem_cons_of_mem _ (List.mem_append_right _ HMW.out))) rfl)) rfl) ?_ hw16; intro K hK; go_big_quiet_op; go_big_quiet_on)
        (refine wpG_op rfl rfl rfl ?_; intro K hK; go_big_quiet_op; go_big_quiet_on)
        (refine wpG_val (v := ii 1) rfl rfl (fun u hu => load_any_op u (run_load_one oneInt u (box_cell (k := 4) hu (List.Mem.head _) rfl)) rfl) ?_ hw16; intro K hK; go_big_quiet_op; go_big_quiet_on)
        (refine wpG_op rfl rfl rfl ?_; intro K hK; go_big_quiet_op; go_big_quiet_on)
        (refine wpG_val (v := .pointer (some ⟨g5, 0 + 1 * 2, none⟩)) rfl rfl (fun u hu => idxArr_op (i := 1) Tryd.underlying99 aggSpan.size (by decide) u rfl rfl) ?_ hw16; intro K hK; go_big_quiet_op; go_big_quiet_on)
        (refine wpG_val (v := .agg (spanC (f + halfT n) (n - halfT n)).toArray) rfl rfl (fun u hu => load_any_op u (box_agg aggSpan (k := 2) hu (List.Mem.head _) (spanC (f + halfT n) (n - halfT n)) rfl (by first | rfl | (rw [HSP.out]; rfl))) rfl) ?_ hw16; intro K hK; go_big_quiet_op; go_big_quiet_on)
        clear hone hw16
        refine wpG_nil ?_
        refine anyH_one (i := 6) (by kernel_rfl) (hOp_turn (gd := none) (R := fun _ M3 => ForkR w0 bu ((g5, bxK (f, n, true)) :: M) (L ++ (forksT (f + halfT n) (n - halfT n) i).map fkV) M3) rfl rfl rfl rfl (fun u hu => OUpon_callV (f := 77) (args := #[.agg (spanC (f + halfT n) (n - halfT n)).toArray]) (caps := #[ptr bi, ptr bw, ptr bu]) (all := #[.agg (spanC (f + halfT n) (n - halfT n)).toArray, ptr bi, ptr bw, ptr bu]) rfl rfl rfl Tryd.func77 rfl rfl u (HCALL.out g5 HG5.out.1 HG5.out.2 u hu)) ?_)
        rintro x M' ⟨v1, N1, rfl, hF1, hN1⟩ he17; intro K' hK'; go_big_quiet_op; go_big_quiet_on
        have HF1 := Lib.hid hF1
        have HN1 := Lib.hid hN1
        clear hF1 hN1
        change anyH _ _ _ _ _ _ _ _ ((bu, bxU v1) :: (N1 ++ ((g5, bxK (f, n, true)) :: M)))
        refine anyH_done (by kernel_rfl) ?_
        intro u19 E2'
        have EX18 := Lib.hid E2'
        clear E2'
        go_upto_region 6 with (fail)
        refine wp_region_Hx (w0 := w0) [0, 1, 2, 3, 4] ((bu, bxU v1) :: (N1 ++ ((g5, bxK (f, n, true)) :: M))) rfl EX18.out ?_
        refine lexH_phase [0, 1] [2, 3, 4] ?_
        have hw20 : EnvX w0 _ ((bu, bxU v1) :: (N1 ++ ((g5, bxK (f, n, true)) :: M))) := EX18.out
        have hone := @EnvC.one _ _ _ hw20
        (refine wpG_val (v := v1) rfl rfl (fun u hu => load_any_op u (run_load_one oneFks u (box_cell (k := 0) hu (List.Mem.head _) rfl)) rfl) ?_ hw20; intro K hK; go_big_quiet_op; go_big_quiet_on)
        (refine wpG_val (v := .agg (fkV (f, n, true)).toArray) rfl rfl (fun u hu => load_any_op u (box_agg aggFork (k := 0) hu (List.mem_cons_of_mem _ (List.mem_append_right _ (List.Mem.head _))) (fkV (f, n, true)) rfl rfl) rfl) ?_ hw20; intro K hK; go_big_quiet_op; go_big_quiet_on)
        clear hone hw20
        refine wpG_nil ?_
        refine (hOp_fresh (R := BuiltR 101 (fkV (f, n, true))) (M0 := ((bu, bxU v1) :: (N1 ++ ((g5, bxK (f, n, true)) :: M)))) rfl rfl (fun _ h => h) (fun u hu => FAt_buildR elF (fk_len (f, n, true)) (fk_one (f, n, true)) rfl u) ?_)
        rintro x N ⟨gb, rfl, rfl⟩ hf he21; intro K' hK'; go_big_quiet_op; go_big_quiet_on
        clear hf
        change lexH _ _ _ _ _ _ ((gb, Obj.cells (fkV (f, n, true)).toArray 101 (0, 0)) :: ((bu, bxU v1) :: (N1 ++ ((g5, bxK (f, n, true)) :: M))))
        refine (hOp_own (gd := none) (R := GrownR w0 101 5 ((L ++ (forksT (f + halfT n) (n - halfT n) i).map fkV).length + 1) ((L ++ (forksT (f + halfT n) (n - halfT n) i).map fkV).flatten ++ fkV (f, n, true)) ((bu, bxU v1) :: M)) rfl rfl rfl rfl (fun u hu => appR_op elF (m := 1) (c := 1) ((bu, bxU v1) :: M) hu HRR.out.1.flat_len (fk_len (f, n, true)) (fk_one (f, n, true)) HF1.out (fun y hy => ⟨List.mem_cons_of_mem _ (List.mem_cons_of_mem _ (List.mem_append_left _ hy)), (HN1.out y hy).1⟩) (List.Mem.head _) (List.forall_mem_cons.2 ⟨⟨List.mem_cons_of_mem _ (List.Mem.head _), fun y hy => (HN1.out y hy).2 _ (List.Mem.head _)⟩, fun z hz => ⟨List.mem_cons_of_mem _ (List.mem_cons_of_mem _ (List.mem_append_right _ (List.mem_cons_of_mem _ hz))), fun y hy => (HN1.out y hy).2 z (List.mem_cons_of_mem _ (List.mem_cons_of_mem _ hz))⟩⟩) (by have := HRR.out.2; omega) rfl rfl) ?_)
        rintro x M' ⟨N2, rfl, hF2, hN2⟩ he22; intro K' hK'; go_big_quiet_op; go_big_quiet_on
        have HF2 := Lib.hid hF2
        have HN2 := Lib.hid hN2
        clear hF2 hN2
        change lexH _ _ _ _ _ _ (N2 ++ ((bu, bxU v1) :: M))
        refine (hOp_putAt rfl (bu) (0) (x) rfl rfl HW0.out 95 (#[v1]) (#[x]) (List.mem_append_right _ (List.Mem.head _)) (by rw [HF2.out.one.1]; exact info_fks) (by rw [HF2.out.one.1]; exact Nat.le_refl 1) (by rw [HF2.out.one.1]; simp [HF2.out.one.2]) (put_one HF2.out.one.1) ((bu, Obj.cells (#[x]) 95 (0, 0)) :: (N2 ++ M)) (List.forall_mem_cons.2 ⟨.inl rfl, fun y hy => .inr ((List.mem_append.1 hy).elim (fun h => ⟨List.mem_append_left _ h, fun e => (HN2.out y h).2 _ (List.Mem.head _) e.symm⟩) (fun h => ⟨List.mem_append_right _ (List.mem_cons_of_mem _ h), HBM.out y h⟩))⟩) ?_)
        intro he23
        intro u25 E2'
        have EX24 := Lib.hid E2'
        clear E2'
        have HX := Lib.hid (And.intro EX24.out HF2.out)
        have HN3 := HN2
        clear EX24 HF2 HN2
        go_wp2_with fail
        go_end0
        refine ⟨⟨_, rfl⟩, _, HX.out.1, x, N2, rfl, ?_, ?_⟩
        · rw [HFK.out, List.map_append, List.map_cons, List.map_nil, ← List.append_assoc, List.length_append, List.flatten_append, List.flatten_cons, List.flatten_nil, List.append_nil]
          exact HX.out.2
        · exact fun y hy => ⟨(HN3.out y hy).1, List.forall_mem_cons.2 ⟨(HN3.out y hy).2 (bu, bxU v1) (List.Mem.head _), fun z hz => (HN3.out y hy).2 z (List.mem_cons_of_mem _ hz)⟩⟩
end Go.Proofs.YtcodmedgkboohaaDoor

namespace Go.Proofs.YtcodmedgkboohaaDoor
set_option maxRecDepth 8000
open Go.RowKit

/-- the other side's root -/
def otherR (l : List (List Int)) (x : Nat × Nat × Bool) : List Int := sideR l x.1 x.2.1 (if x.2.2 then 0 else 1)
theorem fork_path (l : List (List Int)) : ∀ (n f i : Nat), i < n → f + n ≤ l.length → pathT ((l.drop f).take n) i = (forksT f n (f + i)).map (otherR l) := by
  intro n
  induction n using Nat.strongRecOn with
  | _ n ih =>
    intro f i hi hl
    have hlen : ((l.drop f).take n).length = n := by rw [List.length_take, List.length_drop]; omega
    by_cases h : 2 ≤ n
    · obtain ⟨b1, b2, b3, -⟩ := half_spec h
      have t0 : ((l.drop f).take n).take (halfT n) = (l.drop f).take (halfT n) := by rw [List.take_take, Nat.min_eq_left (by omega)]
      have d0 : ((l.drop f).take n).drop (halfT n) = (l.drop (f + halfT n)).take (n - halfT n) := by rw [List.drop_take, List.drop_drop]
      by_cases hlo : i < halfT n
      · have hp := path_low (l := (l.drop f).take n) (i := i) (by omega) (by rw [hlen]; exact hlo)
        rw [hlen, t0, d0] at hp
        rw [hp, forks_low h (by omega), List.map_append, ih (halfT n) b2 f i hlo (by omega)]
        rfl
      · have hp := path_high (l := (l.drop f).take n) (i := i) (by omega) (by rw [hlen]; exact hlo)
        rw [hlen, t0, d0] at hp
        have := ih (n - halfT n) (by omega) (f + halfT n) (i - halfT n) (by omega) (by omega)
        rw [show f + halfT n + (i - halfT n) = f + i by omega] at this
        rw [hp, forks_high h (by omega), List.map_append, this]
        rfl
    · obtain rfl : n = 1 := by omega
      match hq : (l.drop f).take 1, hlen with
      | [x], _ => rfl
theorem fk_side {f n k : Nat} {b : Bool} (h2 : 2 ≤ n) (hk : k < 2) : ((fkV (f, n, b)).toArray.toList.drop (0 + k * 2)).take 2 = spanC (sideF f n k) (sideN n k) := by
  obtain ⟨b1, b2, b3, -⟩ := half_spec h2
  match k, hk with
  | 0, _ => rfl
  | 1, _ =>
    show _ = spanC (f + halfT n) (n - halfT n)
    have e : f + halfT n + (n - halfT n) = f + n := by omega
    unfold spanC
    rw [e]
    rfl
set_option maxRecDepth 20000 in
set_option maxHeartbeats 4000000 in
theorem forks_any (n i : Nat) (w : World) (hp : 1 ≤ n) (hn : n ≤ 1000) (hi : i ≤ 1000) :
    Calls Tryd.prog 62 #[.int .i64 (n : Int), .int .i64 (i : Int)] w fun e w' => (∃ v, e = .returned v ∧ w'.ownsRow w.heap.size 101 5 v (forksT 0 n i).length ((forksT 0 n i).map fkV).flatten) ∧ Below w.heap.size w w' := by
  have E1 : Hid (EnvX w (((w.alloc (.cells #[ii i] 3)).alloc (.cells #[.slice none 0 0] 95)).alloc (.cells #[.nilFunc] 119)) [(w.heap.size + 1 + 1, Obj.cells #[.nilFunc] 119 (0, 0)), (w.heap.size + 1, bxU (.slice none 0 0)), (w.heap.size, bxI i)]) := by
    have h := ((EnvX.start w).two (bxI i) (bxU (.slice none 0 0))).new (Obj.cells #[.nilFunc] 119 (0, 0))
    have hs : ((w.alloc (bxI i)).alloc (bxU (.slice none 0 0))).heap.size = w.heap.size + 1 + 1 := by simp
    rw [hs] at h
    exact h
  have HLE : Hid (w.heap.size ≤ w.heap.size + 1 + 1) := by show _ ≤ _; omega
  have HC : Hid (∀ u, EnvX w u [(w.heap.size + 1 + 1, bxF w.heap.size (w.heap.size + 1 + 1) (w.heap.size + 1)), (w.heap.size + 1, bxU (.slice none 0 0)), (w.heap.size, bxI i)] →
      Calls Tryd.prog 77 #[.agg #[ii 0, ii n], ptr w.heap.size, ptr (w.heap.size + 1 + 1), ptr (w.heap.size + 1)] u fun e w' => ∃ x M', e = .returned x ∧ EnvX w w' M' ∧ ForkR w (w.heap.size + 1) [(w.heap.size + 1 + 1, bxF w.heap.size (w.heap.size + 1 + 1) (w.heap.size + 1)), (w.heap.size, bxI i)] ((forksT 0 n i).map fkV) M') := fun u hu => by
    have h := forks1_any i w.heap.size (w.heap.size + 1 + 1) (w.heap.size + 1) (by omega) n 0 w u [(w.heap.size + 1 + 1, bxF w.heap.size (w.heap.size + 1 + 1) (w.heap.size + 1)), (w.heap.size, bxI i)] [] (.slice none 0 0) [] hp (by omega) (by simp; omega)
      (List.Mem.tail _ (List.Mem.head _)) (List.Mem.head _) (by omega) (List.forall_mem_cons.2 ⟨by simp, List.forall_mem_cons.2 ⟨by simp, fun _ h => by cases h⟩⟩) (fun _ h => by cases h) (.inr ⟨rfl, rfl, rfl, rfl⟩) (fun _ h => by cases h)
      (EnvX.sub hu (List.forall_mem_cons.2 ⟨List.Mem.tail _ (List.Mem.head _), List.forall_mem_cons.2 ⟨List.Mem.head _, List.forall_mem_cons.2 ⟨List.Mem.tail _ (List.Mem.tail _ (List.Mem.head _)), fun _ h => by cases h⟩⟩⟩))
    have e : spanC 0 n = [ii 0, ii n] := by unfold spanC; rw [Nat.zero_add]
    rw [e] at h
    exact h
  go_enter Tryd.func62, Tryd.ntmps62
  go_upto_region 3 with (fail)
  change Code.wp _ _ _ _ (((w.alloc (.cells #[ii i] 3)).alloc (.cells #[.slice none 0 0] 95)).alloc (.cells #[.nilFunc] 119))
  generalize ((w.alloc (.cells #[ii i] 3)).alloc (.cells #[.slice none 0 0] 95)).alloc (.cells #[.nilFunc] 119) = W at *
  refine wp_region_Hx (w0 := w) [0, 1] [(w.heap.size + 1 + 1, Obj.cells #[.nilFunc] 119 (0, 0)), (w.heap.size + 1, bxU (.slice none 0 0)), (w.heap.size, bxI i)] rfl E1.out ?_
  refine lexH_phase [0] [1] ?_
  have hw1 : EnvX w _ [(w.heap.size + 1 + 1, Obj.cells #[.nilFunc] 119 (0, 0)), (w.heap.size + 1, bxU (.slice none 0 0)), (w.heap.size, bxI i)] := E1.out
  have hone := @EnvC.one _ _ _ hw1
  (refine wpG_val (v := fsV w.heap.size (w.heap.size + 1 + 1) (w.heap.size + 1)) rfl rfl (fun u hu => mkFunc_op u rfl) ?_ hw1; intro K hK; go_big_quiet_op; go_big_quiet_on)
  clear hone hw1
  refine wpG_nil ?_
  refine (hOp_putAt rfl (w.heap.size + 1 + 1) (0) (fsV w.heap.size (w.heap.size + 1 + 1) (w.heap.size + 1)) rfl rfl HLE.out 119 (#[.nilFunc]) (#[fsV w.heap.size (w.heap.size + 1 + 1) (w.heap.size + 1)]) (List.Mem.head _) info_fnF (Nat.le_refl 1) (by kernel_rfl) rfl [(w.heap.size + 1 + 1, Obj.cells (#[fsV w.heap.size (w.heap.size + 1 + 1) (w.heap.size + 1)]) 119 (0, 0)), (w.heap.size + 1, bxU (.slice none 0 0)), (w.heap.size, bxI i)] (List.forall_mem_cons.2 ⟨.inl rfl, List.forall_mem_cons.2 ⟨.inr ⟨(List.Mem.tail _ (List.Mem.head _)), by simp⟩, List.forall_mem_cons.2 ⟨.inr ⟨(List.Mem.tail _ (List.Mem.tail _ (List.Mem.head _))), by simp; omega⟩, fun _ h => by cases h⟩⟩⟩) ?_)
  intro he2
  intro u4 E2'
  have EX3 := Lib.hid E2'
  clear E2'
  go_upto_region 4 with (fail)
  refine wp_region_Hx (w0 := w) [0, 1, 2, 3] [(w.heap.size + 1 + 1, bxF w.heap.size (w.heap.size + 1 + 1) (w.heap.size + 1)), (w.heap.size + 1, bxU (.slice none 0 0)), (w.heap.size, bxI i)] rfl EX3.out ?_
  refine lexH_phase [0, 1, 2] [3] ?_
  have hw5 : EnvX w _ [(w.heap.size + 1 + 1, bxF w.heap.size (w.heap.size + 1 + 1) (w.heap.size + 1)), (w.heap.size + 1, bxU (.slice none 0 0)), (w.heap.size, bxI i)] := EX3.out
  have hone := @EnvC.one _ _ _ hw5
  (refine wpG_val (v := fsV w.heap.size (w.heap.size + 1 + 1) (w.heap.size + 1)) rfl rfl (fun u hu => load_any_op u (run_load_one oneFnF u (box_cell (k := 0) hu (List.Mem.head _) rfl)) rfl) ?_ hw5; intro K hK; go_big_quiet_op; go_big_quiet_on)
  (refine wpG_op rfl rfl rfl ?_; intro K hK; go_big_quiet_op; go_big_quiet_on)
  (refine wpG_val (v := .agg #[ii 0, ii n]) rfl rfl (fun u hu => buildA_op u (by kernel_rfl)) ?_ hw5; intro K hK; go_big_quiet_op; go_big_quiet_on)
  clear hone hw5
  refine wpG_nil ?_
  refine (hOp_turn (gd := none) (R := fun _ M3 => ForkR w (w.heap.size + 1) [(w.heap.size + 1 + 1, bxF w.heap.size (w.heap.size + 1 + 1) (w.heap.size + 1)), (w.heap.size, bxI i)] ((forksT 0 n i).map fkV) M3) rfl rfl rfl rfl (fun u hu => OUpon_callV (f := 77) (args := #[.agg #[ii 0, ii n]]) (caps := #[ptr w.heap.size, ptr (w.heap.size + 1 + 1), ptr (w.heap.size + 1)]) (all := #[.agg #[ii 0, ii n], ptr w.heap.size, ptr (w.heap.size + 1 + 1), ptr (w.heap.size + 1)]) rfl rfl rfl Tryd.func77 rfl rfl u (HC.out u hu)) ?_)
  rintro x M' ⟨v1, N1, rfl, hF1, hN1⟩ he6; intro K' hK'; go_big_quiet_op; go_big_quiet_on
  have HF1 := Lib.hid hF1
  have HN1 := Lib.hid hN1
  clear hF1 hN1
  change lexH _ _ _ _ _ _ ((w.heap.size + 1, bxU v1) :: (N1 ++ ((w.heap.size + 1 + 1, bxF w.heap.size (w.heap.size + 1 + 1) (w.heap.size + 1)) :: ((w.heap.size, bxI i) :: []))))
  intro u8 E2'
  have EX7 := Lib.hid E2'
  clear E2'
  go_upto_region 5 with (fail)
  refine wp_region_Hx (w0 := w) [0, 1] ((w.heap.size + 1, bxU v1) :: (N1 ++ ((w.heap.size + 1 + 1, bxF w.heap.size (w.heap.size + 1 + 1) (w.heap.size + 1)) :: ((w.heap.size, bxI i) :: [])))) rfl EX7.out ?_
  refine lexH_phase [0, 1] [] ?_
  have hw9 : EnvX w _ ((w.heap.size + 1, bxU v1) :: (N1 ++ ((w.heap.size + 1 + 1, bxF w.heap.size (w.heap.size + 1 + 1) (w.heap.size + 1)) :: ((w.heap.size, bxI i) :: [])))) := EX7.out
  have hone := @EnvC.one _ _ _ hw9
  (refine wpG_val (v := v1) rfl rfl (fun u hu => load_any_op u (run_load_one oneFks u (box_cell (k := 0) hu (List.Mem.head _) rfl)) rfl) ?_ hw9; intro K hK; go_big_quiet_op; go_big_quiet_on)
  (refine wpG_op rfl rfl rfl ?_; intro K hK; go_big_quiet_op; go_big_quiet_on)
  clear hone hw9
  refine wpG_nil ?_
  intro u11 E2'
  have EX10 := Lib.hid E2'
  clear E2'
  have HO := Lib.hid (And.intro (HF1.out.own (B := w.heap.size) (by rw [(fk_rows _).flat_len]) (fun y hy => ⟨(HN1.out y hy).1, EnvX.box EX10.out _ _ (List.mem_cons_of_mem _ (List.mem_append_left _ hy))⟩)) EX10.out.bel)
  clear EX10 HF1 HN1
  go_wp2_with fail
  go_ret
  exact ⟨⟨_, rfl, by have := HO.out.1; rwa [List.length_map] at this⟩, HO.out.2⟩
end Go.Proofs.YtcodmedgkboohaaDoor

namespace Go.Proofs.YtcodmedgkboohaaDoor
set_option maxRecDepth 8000
open Go.RowKit

theorem FreshR.slice {e : TypeId} {z n : Nat} {xs : List Value} {v : Value} {N : Boxes} (h : FreshR e z n xs v N) : ∃ A c, v = .slice A n c := by
  rcases h with ⟨g, cap, cur, rfl, _⟩ | ⟨rfl, _, rfl, _⟩ <;> exact ⟨_, _, rfl⟩
theorem run_cutI_lh (A : Option Addr) (n c l h : Nat) (w : World) (h1 : l ≤ h) (h2 : h ≤ c) :
    (Instr.sliceAt 44 (.slice A n c) (some (.int .i64 (l : Int))) (some (.int .i64 (h : Int))) none).run Tryd.prog w = .ok (.slice (cutI' A l c) (h - l) (c - l)) w := by
  have ht' : Tryd.prog.underlying 44 = some (.slice (Tryd.prog.elem 44)) := by rw [elemI]; exact Tryd.underlying44
  rw [run_sliceAt_slice w _ _ _ _ _ ht', run_slice_lh w 44 _ _ _ ht' .i64 .i64 _ _ (by omega) (by omega) (by omega), elemI, sizeI]
  simp [Result.andThen, sliced, cutI']
section
variable {a : Act} {dst : Option Tmp} {x l h : Operand} {ty : TypeId} {pos : String} {after : Array Edge} {gd : Option (Nat × Bool)}
theorem cutIlh_op {A : Option Addr} {n c i j len : Nat} (u : World) (h1 : i ≤ j) (h2 : j ≤ c) (hlen : j - i = len) (hx : a.eval x = .slice A n c) (hl : a.eval l = .int .i64 (i : Int)) (hh : a.eval h = .int .i64 (j : Int)) :
    (execOp a.eval ⟨dst, .slice 44 x (some l) (some h) none, ty, pos, after, gd⟩).run Tryd.prog u = .ok (.value (.slice (cutI' A i c) len (c - i))) u := by
  subst hlen
  unfold execOp
  simp only [hx, hl, hh, Option.map_some, Option.map_none, Sem.run_bind, Sem.run_pure, Result.andThen_ok, run_cutI_lh A n c i j u h1 h2]
end
/-- an append of one id where nothing else is kept -/
def AloneI (w0 : World) (l : List (List Int)) (v : Value) (M' : Boxes) : Prop := FreshI l v M' ∧ freshN w0 M' []
theorem appI_alone {w0 u : World} {M N : Boxes} {l : List (List Int)} {v : Value} {x : List Int} {g : Nat} {t : TypeId} {a : Act} {dst : Option Tmp} {y z : Operand} {pos : String} {after : Array Edge} {gd : Option (Nat × Bool)}
    (hu : EnvX w0 u M) (hl : isIds l) (hx : x.length = 32) (hF : FreshI l v N) (hN : ∀ y ∈ N, y ∈ M ∧ w0.heap.size ≤ y.1) (hg : (g, Obj.cells (arrB 32 x) t (0, 0)) ∈ M) (hs : l.length ≤ 1000000)
    (hy : a.eval y = v) (hz : a.eval z = .slice (some ⟨g, 0, none⟩) 1 1) :
    ∃ v' u' M', (execOp a.eval ⟨dst, .call { callee := .builtin .append, args := #[y, z], argTypes := #[44, 44] }, 44, pos, after, gd⟩).run Tryd.prog u = .ok (.value v') u' ∧ EnvX w0 u' M' ∧ AloneI w0 (l ++ [x]) v' M' := by
  obtain ⟨v', u', M', h1, h2, N2, h3, h4, h5⟩ := appI_op (dst := dst) (pos := pos) (after := after) (gd := gd) [] hu hl hx hF hN hg (fun z hz => by cases hz) hs hy hz
  rw [List.append_nil] at h3
  subst h3
  exact ⟨v', u', M', h1, h2, h4, h5⟩
def onN (x : Nat × Nat × Bool) : Nat := if x.2.2 then 1 else 0
def offN (x : Nat × Nat × Bool) : Nat := if x.2.2 then 0 else 1
theorem off_two (x : Nat × Nat × Bool) : offN x < 2 := by unfold offN; split <;> omega
theorem off_sub (x : Nat × Nat × Bool) : (1 : Int) - (onN x : Int) = (offN x : Int) ∧ InI (offN x : Int) := by
  unfold InI onN offN
  split <;> simp
theorem path_id {l : List (List Int)} (h : isIds l) (F : List (Nat × Nat × Bool)) : isIds (F.map (otherR l)) := by
  intro y hy
  obtain ⟨x, _, rfl⟩ := List.mem_map.1 hy
  exact root_id ((h.drop _).take _)
set_option maxRecDepth 20000 in
set_option maxHeartbeats 4000000 in
theorem pathBy_some (l : List (List Int)) (i : Nat) (A : Option Addr) (n c : Nat) (w : World) (hl : l.length = n) (hn : n ≤ 64) (hi : i < n) (hnc : n ≤ c) (hI : isIds l) (hA : IdsIn w w.heap.size A l) (ht : Tables w) :
    Calls Tryd.prog 47 #[ndV, .slice A n c, .int .i64 (i : Int)] w fun e w' => (∃ v, e = .returned (.tuple #[v, .bool true]) ∧ OwnI w' w.heap.size v (pathT l i)) ∧ Below w.heap.size w w' := by
  have hpt : pathT l i = (forksT 0 n i).map (otherR l) := by
    have h := fork_path l n 0 i hi (by omega)
    rw [List.drop_zero, List.take_of_length_le (by omega), Nat.zero_add] at h
    exact h
  rw [hpt]
  clear hpt
  have HN : Hid (n < 9223372036854775808) := by show _ < _; omega
  have hst : standT (n : Int) (i : Int) = true := by unfold standT; simp only [decide_eq_true_eq]; omega
  have HST : Hid (∀ u, Calls Tryd.prog 61 #[ii n, ii i] u fun e w' => e = .returned (.bool true) ∧ Below u.heap.size u w') := fun u => by
    rw [← hst]
    exact stand_any (n : Int) (i : Int) u (by omega) (by omega) (by omega) (by omega)
  have HFK := Lib.hid (fun u => forks_any n i u (by omega) (by omega) (by omega))
  have HFL : Hid ((forksT 0 n i).length ≤ 64) := Nat.le_trans (forks_len n 0 i) hn
  have HFLN : Hid ((forksT 0 n i).length < 9223372036854775808) := by have := HFL.out; show _ < _; omega
  have HIN := Lib.hid (fork_in n 0 i)
  have HROOT : Hid (∀ x ∈ forksT 0 n i, ∀ u, EnvX w u [] → Calls Tryd.prog 55 #[ndV, .slice (cutI' A (sideF x.1 x.2.1 (offN x)) c) (sideN x.2.1 (offN x)) (c - sideF x.1 x.2.1 (offN x))] u fun e w' => e = .returned (idv (otherR l x)) ∧ Below u.heap.size u w') := fun x hx u hu => by
    obtain ⟨q1, q2⟩ := fork_in n 0 i x hx
    obtain ⟨s1, s2, s3⟩ := side_in (f := x.1) (n := x.2.1) (m := n) q1 (off_two x) (by omega)
    exact rootBy_any ((l.drop (sideF x.1 x.2.1 (offN x))).take (sideN x.2.1 (offN x))) _ _ _ u (by rw [List.length_take, List.length_drop]; omega) (by omega) ((hI.drop _).take _) (IdsIn.take (IdsIn.drop (hA.up (EnvX.bel hu)) hI _ c (by omega)) (hI.drop _) _) (ht.below (EnvX.bel hu))
  have HSD : Hid (∀ x ∈ forksT 0 n i, sideF x.1 x.2.1 (offN x) ≤ sideF x.1 x.2.1 (offN x) + sideN x.2.1 (offN x) ∧ sideF x.1 x.2.1 (offN x) + sideN x.2.1 (offN x) ≤ c ∧ sideF x.1 x.2.1 (offN x) + sideN x.2.1 (offN x) - sideF x.1 x.2.1 (offN x) = sideN x.2.1 (offN x)) := fun x hx => by
    obtain ⟨q1, q2⟩ := fork_in n 0 i x hx
    obtain ⟨s1, s2, s3⟩ := side_in (f := x.1) (n := x.2.1) (m := n) q1 (off_two x) (by omega)
    omega
  have HPI := Lib.hid (fun F => path_id hI F)
  have E1 : Hid (EnvX w w []) := EnvX.start w
  generalize forksT 0 n i = F at *
  clear hI hA ht hst
  obtain ⟨K, hK⟩ : ∃ K, F.length = K := ⟨_, rfl⟩
  rw [hK] at HFL HFLN
  have hk64 : K ≤ 64 := HFL.out
  go_enter Tryd.func47, Tryd.ntmps47
  go_upto_region 1 with (fail)
  refine wp_region_Hx (w0 := w) [0, 1, 2, 3, 4] [] rfl E1.out ?_
  refine lexH_phase [0, 1, 2, 3, 4] [] ?_
  have hw1 : EnvX w _ [] := E1.out
  have hone := @EnvC.one _ _ _ hw1
  (refine wpG_op rfl rfl rfl ?_; intro K hK; go_big_quiet_op; go_big_quiet_on)
  (refine wpG_val (v := ii n) rfl rfl (fun u hu => len_op Tryd.underlying44 HN.out u rfl) ?_ hw1; intro K hK; go_big_quiet_op; go_big_quiet_on)
  (refine wpG_op rfl rfl rfl ?_; intro K hK; go_big_quiet_op; go_big_quiet_on)
  (refine wpG_call (f := 61) (args := #[ii n, ii i]) (v := .bool true) rfl rfl rfl Tryd.func61 rfl rfl (fun u hu => HST.out u) ?_ hw1; intro K hK; go_big_quiet_op; go_big_quiet_on)
  (refine wpG_op rfl rfl rfl ?_; intro K hK; go_big_quiet_op; go_big_quiet_on)
  clear hone hw1
  refine wpG_nil ?_
  intro u3 E2'
  have EX2 := Lib.hid E2'
  clear E2'
  go_upto_region 4 with (fail)
  refine wp_region_Hx (w0 := w) [0, 1, 2, 3, 4, 5] [] rfl EX2.out ?_
  refine lexH_phase [0, 1, 2] [3, 4, 5] ?_
  have hw4 : EnvX w _ [] := EX2.out
  have hone := @EnvC.one _ _ _ hw4
  (refine wpG_op rfl rfl rfl ?_; intro K hK; go_big_quiet_op; go_big_quiet_on)
  (refine wpG_val (v := ii n) rfl rfl (fun u hu => len_op Tryd.underlying44 HN.out u rfl) ?_ hw4; intro K hK; go_big_quiet_op; go_big_quiet_on)
  (refine wpG_op rfl rfl rfl ?_; intro K hK; go_big_quiet_op; go_big_quiet_on)
  clear hone hw4
  refine wpG_nil ?_
  refine (hOp_fresh (R := FreshR 101 5 K (F.map fkV).flatten) (M0 := []) rfl rfl (fun _ h => h) (fun u hu => FAt_call (fid := 62) (xs := #[.tmp 18, .tmp 19]) (args := #[ii n, ii i]) rfl Tryd.func62 rfl rfl u (by have h := callsR_fresh (HFK.out u); rw [hK] at h; exact h)) ?_)
  rintro x NU hF hf he5; intro K' hK'; go_big_quiet_op; go_big_quiet_on
  obtain ⟨Au, cu, rfl⟩ := FreshR.slice hF
  have HFU := Lib.hid hF
  clear hF
  clear hf
  change lexH _ _ _ _ _ _ (NU ++ [])
  refine lexH_phase [4, 5] [] ?_
  have hw6 : EnvX w _ (NU ++ []) := he5.choose_spec
  have hone := @EnvC.one _ _ _ hw6
  (refine wpG_val (v := .int .i64 (K : Int)) rfl rfl (fun u hu => len_op Tryd.underlying95 HFLN.out u rfl) ?_ hw6; intro K hK; go_big_quiet_op; go_big_quiet_on)
  (refine wpG_op rfl rfl rfl ?_; intro K hK; go_big_quiet_op; go_big_quiet_on)
  clear hone hw6
  refine wpG_nil ?_
  intro u8 E2'
  have EX7 := Lib.hid E2'
  clear E2'
  have HB := Lib.hid EX7.out.bel
  have CU := Lib.hid (own_cells (HFU.out.own (B := 0) (fk_rows F |>.flat_len |>.trans (by rw [List.length_map, hK])) (fun y hy => ⟨Nat.zero_le _, EnvX.box EX7.out _ _ (List.mem_append_left _ hy)⟩)))
  have HKL := Lib.hid hK
  clear EX7 HFU hK
  generalize u8 = w1 at *
  have HINV : Hid (∃ N, FreshI ((F.take 0).map (otherR l)) (.slice none 0 0) N ∧ freshN w1 N [] ∧ EnvX w1 w1 N) := ⟨[], .inr ⟨rfl, rfl, rfl⟩, (fun _ h => by cases h), EnvX.start w1⟩
  go_upto_region 5 with (fail)
  go_loopw [8, 22] (fun v i u => ∃ k : Nat, k ≤ K ∧ i = .int .i64 k ∧ Hid (∃ N, FreshI ((F.take k).map (otherR l)) v N ∧ freshN w1 N [] ∧ EnvX w1 u N)) (fun _ i _ => K - (intOf i).toNat)
  case atStart => exact ⟨0, by omega, rfl, HINV⟩
  case round =>
    obtain ⟨k, hk, rfl, hinv⟩ := hrel
    obtain ⟨N, hF, hN, hE⟩ := hinv.out
    clear hinv HINV
    by_cases hlt : k < K
    · have hk2 : (k : Int) < (K : Int) := by omega
      have EK := Lib.hid hE
      have HF := Lib.hid hF
      have HN2 := Lib.hid hN
      have hkF : k < F.length := by rw [HKL.out]; exact hlt
      have HK := Lib.hid hlt
      have hmem := getD_mem F (0, 0, false) hkF
      have HTS := Lib.hid (take_snoc F (otherR l) (0, 0, false) hkF)
      have hck : ((F.map fkV).getD k []) = fkV (F.getD k (0, 0, false)) := map_getD F fkV _ _ hkF
      obtain ⟨ad, rfl, -⟩ := CellsIn.load aggFork CU.out (fk_rows F) (by decide) (i := k) (by rw [List.length_map]; exact hkF)
      have HLD : Hid (∀ u, EnvX w1 u [] → (loadVar 101 (ad.add (k * 5))).run Tryd.prog u = .ok (.agg (fkV (F.getD k (0, 0, false))).toArray) u) := fun u hu => by
        obtain ⟨ad2, e2, h2⟩ := CellsIn.load aggFork (CU.out.up (EnvX.bel hu)) (fk_rows F) (by decide) (i := k) (by rw [List.length_map]; exact hkF)
        cases e2
        rw [hck] at h2
        exact h2
      have HRK : Hid (∀ u, EnvX w1 u [] → Calls Tryd.prog 55 #[ndV, .slice (cutI' A (sideF (F.getD k (0, 0, false)).1 (F.getD k (0, 0, false)).2.1 (offN (F.getD k (0, 0, false)))) c) (sideN (F.getD k (0, 0, false)).2.1 (offN (F.getD k (0, 0, false)))) (c - sideF (F.getD k (0, 0, false)).1 (F.getD k (0, 0, false)).2.1 (offN (F.getD k (0, 0, false))))] u fun e w' => e = .returned (idv (otherR l (F.getD k (0, 0, false)))) ∧ Below u.heap.size u w') := fun u hu =>
        HROOT.out _ hmem u ⟨HB.out.trans ((EnvX.bel hu).mono HB.out.size), fun _ _ h => by cases h⟩
      have HSK := Lib.hid (HSD.out _ hmem)
      have HQ := Lib.hid (HIN.out _ hmem).1
      have HPK := Lib.hid (HPI.out (F.take k))
      have HPX : Hid ((otherR l (F.getD k (0, 0, false))).length = 32) := (HPI.out [F.getD k (0, 0, false)] _ (List.mem_singleton.2 rfl)).1
      have HTL : Hid (((F.take k).map (otherR l)).length ≤ 1000000) := by show _ ≤ _; rw [List.length_map, List.length_take]; have := HFL.out; omega
      clear hE hF hN hck hmem HROOT HSD HIN HPI
      generalize F.getD k (0, 0, false) = x at *
      have HOFF := Lib.hid (off_sub x)
      have HO2 := Lib.hid (off_two x)
      have HSP : Hid (((fkV x).toArray.toList.drop (0 + offN x * 2)).take 2 = spanC (sideF x.1 x.2.1 (offN x)) (sideN x.2.1 (offN x))) := fk_side (f := x.1) (b := x.2.2) HQ.out (off_two x)
      go_upto_region 6 with (fail)
      refine wp_region_Hx (w0 := w1) [0, 1, 2, 3] N rfl EK.out ?_
      refine lexH_phase [0, 1] [2, 3] ?_
      have hw9 : EnvX w1 _ N := EK.out
      have hone := @EnvC.one _ _ _ hw9
      (refine wpG_val (v := .pointer (some (ad.add (k * 5)))) rfl rfl (fun u hu => idxSl_op Tryd.underlying95 aggFork.size HK.out u rfl rfl) ?_ hw9; intro K hK; go_big_quiet_op; go_big_quiet_on)
      (refine wpG_val (v := .agg (fkV x).toArray) rfl rfl (fun u hu => load_any_op u (HLD.out u (EnvX.sub hu (fun _ h => by cases h))) rfl) ?_ hw9; intro K hK; go_big_quiet_op; go_big_quiet_on)
      clear hone hw9
      refine wpG_nil ?_
      refine (hOp_fresh (R := fun x N => ∃ g, x = .pointer (some ⟨g, 0, none⟩) ∧ N = [(g, Obj.cells #[ii 0, ii 0, ii 0, ii 0, ii 0] 101 (0, 0))]) (M0 := N) rfl rfl (fun _ h => h) (fun u hu => FAt_new (new_fork _) u) ?_)
      rintro _ _ ⟨g10, rfl, rfl⟩ hf he10; intro K' hK'; go_big_quiet_op; go_big_quiet_on
      have HG10 := Lib.hid (hf _ (List.mem_singleton.2 rfl))
      clear hf
      change lexH _ _ _ _ _ _ ((g10, Obj.cells #[ii 0, ii 0, ii 0, ii 0, ii 0] 101 (0, 0)) :: N)
      refine (hOp_putAt rfl (g10) (0) (.agg (fkV x).toArray) rfl rfl HG10.out.1 101 (#[ii 0, ii 0, ii 0, ii 0, ii 0]) ((fkV x).toArray) (List.Mem.head _) info_fork (Nat.le_refl 5) (by kernel_rfl) rfl ((g10, Obj.cells ((fkV x).toArray) 101 (0, 0)) :: N) (List.forall_mem_cons.2 ⟨.inl rfl, fun y hy => .inr ⟨List.mem_cons_of_mem _ hy, HG10.out.2 y hy⟩⟩) ?_)
      intro he11
      intro u13 E2'
      have EX12 := Lib.hid E2'
      clear E2'
      go_upto_region 7 with (fail)
      refine wp_region_Hx (w0 := w1) [0, 1, 2, 3, 4, 5, 6, 7] ((g10, Obj.cells ((fkV x).toArray) 101 (0, 0)) :: N) rfl EX12.out ?_
      refine lexH_phase [0, 1, 2, 3, 4, 5] [6, 7] ?_
      have hw14 : EnvX w1 _ ((g10, Obj.cells ((fkV x).toArray) 101 (0, 0)) :: N) := EX12.out
      have hone := @EnvC.one _ _ _ hw14
      (refine wpG_op rfl rfl rfl ?_; intro K hK; go_big_quiet_op; go_big_quiet_on)
      (refine wpG_val (v := ii (onN x)) rfl rfl (fun u hu => load_any_op u (run_load_one oneInt u (box_cell (k := 4) hu (List.Mem.head _) rfl)) rfl) ?_ hw14; intro K hK; go_big_quiet_op; go_big_quiet_on)
      (refine wpG_val (v := ii (offN x)) rfl rfl (fun u hu => sub_op u HOFF.out.1 HOFF.out.2 rfl rfl) ?_ hw14; intro K hK; go_big_quiet_op; go_big_quiet_on)
      (refine wpG_op rfl rfl rfl ?_; intro K hK; go_big_quiet_op; go_big_quiet_on)
      (refine wpG_val (v := .pointer (some ⟨g10, 0 + offN x * 2, none⟩)) rfl rfl (fun u hu => idxArr_op Tryd.underlying99 aggSpan.size HO2.out u rfl rfl) ?_ hw14; intro K hK; go_big_quiet_op; go_big_quiet_on)
      (refine wpG_val (v := .agg (spanC (sideF x.1 x.2.1 (offN x)) (sideN x.2.1 (offN x))).toArray) rfl rfl (fun u hu => load_any_op u (box_agg aggSpan hu (List.Mem.head _) (spanC (sideF x.1 x.2.1 (offN x)) (sideN x.2.1 (offN x))) rfl HSP.out) rfl) ?_ hw14; intro K hK; go_big_quiet_op; go_big_quiet_on)
      clear hone hw14
      refine wpG_nil ?_
      refine (hOp_fresh (R := fun x N => ∃ g, x = .pointer (some ⟨g, 0, none⟩) ∧ N = [(g, Obj.cells #[ii 0, ii 0] 98 (0, 0))]) (M0 := ((g10, Obj.cells ((fkV x).toArray) 101 (0, 0)) :: N)) rfl rfl (fun _ h => h) (fun u hu => FAt_new (new_span _) u) ?_)
      rintro _ _ ⟨g11, rfl, rfl⟩ hf he15; intro K' hK'; go_big_quiet_op; go_big_quiet_on
      have HG11 := Lib.hid (hf _ (List.mem_singleton.2 rfl))
      clear hf
      change lexH _ _ _ _ _ _ ((g11, Obj.cells #[ii 0, ii 0] 98 (0, 0)) :: ((g10, Obj.cells ((fkV x).toArray) 101 (0, 0)) :: N))
      refine (hOp_putAt rfl (g11) (0) (.agg (spanC (sideF x.1 x.2.1 (offN x)) (sideN x.2.1 (offN x))).toArray) rfl rfl HG11.out.1 98 (#[ii 0, ii 0]) ((spanC (sideF x.1 x.2.1 (offN x)) (sideN x.2.1 (offN x))).toArray) (List.Mem.head _) info_span (Nat.le_refl 2) (by kernel_rfl) rfl ((g11, Obj.cells ((spanC (sideF x.1 x.2.1 (offN x)) (sideN x.2.1 (offN x))).toArray) 98 (0, 0)) :: ((g10, Obj.cells ((fkV x).toArray) 101 (0, 0)) :: N)) (List.forall_mem_cons.2 ⟨.inl rfl, fun y hy => .inr ⟨List.mem_cons_of_mem _ hy, HG11.out.2 y hy⟩⟩) ?_)
      intro he16
      intro u18 E2'
      have EX17 := Lib.hid E2'
      clear E2'
      go_upto_region 8 with (fail)
      refine wp_region_Hx (w0 := w1) [0, 1, 2, 3, 4, 5, 6, 7, 8, 9, 10, 11] ((g11, Obj.cells ((spanC (sideF x.1 x.2.1 (offN x)) (sideN x.2.1 (offN x))).toArray) 98 (0, 0)) :: ((g10, Obj.cells ((fkV x).toArray) 101 (0, 0)) :: N)) rfl EX17.out ?_
      refine lexH_phase [0, 1, 2, 3, 4, 5, 6, 7, 8] [9, 10, 11] ?_
      have hw19 : EnvX w1 _ ((g11, Obj.cells ((spanC (sideF x.1 x.2.1 (offN x)) (sideN x.2.1 (offN x))).toArray) 98 (0, 0)) :: ((g10, Obj.cells ((fkV x).toArray) 101 (0, 0)) :: N)) := EX17.out
      have hone := @EnvC.one _ _ _ hw19
      (refine wpG_op rfl rfl rfl ?_; intro K hK; go_big_quiet_op; go_big_quiet_on)
      (refine wpG_op rfl rfl rfl ?_; intro K hK; go_big_quiet_op; go_big_quiet_on)
      (refine wpG_op rfl rfl rfl ?_; intro K hK; go_big_quiet_op; go_big_quiet_on)
      (refine wpG_op rfl rfl rfl ?_; intro K hK; go_big_quiet_op; go_big_quiet_on)
      (refine wpG_val (v := ii (sideF x.1 x.2.1 (offN x))) rfl rfl (fun u hu => load_any_op u (run_load_one oneInt u (box_cell (k := 0) hu (List.Mem.head _) rfl)) rfl) ?_ hw19; intro K hK; go_big_quiet_op; go_big_quiet_on)
      (refine wpG_op rfl rfl rfl ?_; intro K hK; go_big_quiet_op; go_big_quiet_on)
      (refine wpG_val (v := ii (sideF x.1 x.2.1 (offN x) + sideN x.2.1 (offN x))) rfl rfl (fun u hu => load_any_op u (run_load_one oneInt u (box_cell (k := 1) hu (List.Mem.head _) rfl)) rfl) ?_ hw19; intro K hK; go_big_quiet_op; go_big_quiet_on)
      (refine wpG_val (v := (.slice (cutI' A (sideF x.1 x.2.1 (offN x)) c) (sideN x.2.1 (offN x)) (c - sideF x.1 x.2.1 (offN x)))) rfl rfl (fun u hu => cutIlh_op u HSK.out.1 HSK.out.2.1 HSK.out.2.2 rfl rfl rfl) ?_ hw19; intro K hK; go_big_quiet_op; go_big_quiet_on)
      (refine wpG_call (f := 55) (args := #[ndV, (.slice (cutI' A (sideF x.1 x.2.1 (offN x)) c) (sideN x.2.1 (offN x)) (c - sideF x.1 x.2.1 (offN x)))]) (v := idv (otherR l x)) rfl rfl rfl Tryd.func55 rfl rfl (fun u hu => HRK.out u (EnvX.sub hu (fun _ h => by cases h))) ?_ hw19; intro K hK; go_big_quiet_op; go_big_quiet_on)
      clear hone hw19
      refine wpG_nil ?_
      refine (hOp_fresh (R := BuiltI (otherR l x)) (M0 := ((g11, Obj.cells ((spanC (sideF x.1 x.2.1 (offN x)) (sideN x.2.1 (offN x))).toArray) 98 (0, 0)) :: ((g10, Obj.cells ((fkV x).toArray) 101 (0, 0)) :: N))) rfl rfl (fun _ h => h) (fun u hu => FAt_buildI HPX.out rfl u) ?_)
      rintro _ _ ⟨gi, rfl, rfl⟩ hf he20; intro K' hK'; go_big_quiet_op; go_big_quiet_on
      clear hf
      change lexH _ _ _ _ _ _ ((gi, Obj.cells (arrB 32 (otherR l x)) 37 (0, 0)) :: ((g11, Obj.cells ((spanC (sideF x.1 x.2.1 (offN x)) (sideN x.2.1 (offN x))).toArray) 98 (0, 0)) :: ((g10, Obj.cells ((fkV x).toArray) 101 (0, 0)) :: N)))
      refine (hOp_own (gd := none) (R := AloneI w1 ((F.take k).map (otherR l) ++ [otherR l x])) rfl rfl rfl rfl (fun u hu => appI_alone hu HPK.out HPX.out HF.out (fun y hy => ⟨List.mem_cons_of_mem _ (List.mem_cons_of_mem _ (List.mem_cons_of_mem _ hy)), (HN2.out y hy).1⟩) (List.Mem.head _) HTL.out rfl rfl) ?_)
      rintro xp M2 ⟨hF2, hf2⟩ he21; intro K' hK'; go_big_quiet_op; go_big_quiet_on
      have HF2 := Lib.hid (And.intro hF2 hf2)
      clear hF2 hf2
      change lexH _ _ _ _ _ _ M2
      refine lexH_phase [11] [] ?_
      have hw22 : EnvX w1 _ M2 := he21.choose_spec
      have hone := @EnvC.one _ _ _ hw22
      (refine wpG_op rfl rfl rfl ?_; intro K hK; go_big_quiet_op; go_big_quiet_on)
      clear hone hw22
      refine wpG_nil ?_
      intro u24 E2'
      have EX23 := Lib.hid E2'
      clear E2'
      go_wp2
      go_roundw
      case rel => exact ⟨k + 1, by omega, by go_num, M2, by rw [HTS.out]; exact HF2.out.1, HF2.out.2, EX23.out⟩
      case measure => simp [intOf]; omega
    · obtain rfl : k = K := by omega
      have hall : F.take k = F := List.take_of_length_le (by rw [HKL.out]; exact Nat.le_refl _)
      rw [hall] at hF
      have HO := Lib.hid (And.intro (hF.own (B := w1.heap.size) (HPI.out F) (fun y hy => ⟨(hN y hy).1, EnvX.box hE _ _ hy⟩)) (EnvX.bel hE))
      clear hF hN hE
      go_wp2
      go_returns
      exact ⟨⟨_, rfl, HO.out.1.less HB.out.size⟩, HB.out.trans (HO.out.2.mono HB.out.size)⟩
set_option maxRecDepth 20000 in
set_option maxHeartbeats 4000000 in
theorem pathBy_none (i : Int) (A : Option Addr) (n c : Nat) (w : World) (hn : n ≤ 1000000) (hi0 : -9223372036854775808 ≤ i) (hi1 : i ≤ 9223372036854775807) (h : standT (n : Int) i = false) :
    Calls Tryd.prog 47 #[ndV, .slice A n c, .int .i64 i] w fun e w' => e = .returned (.tuple #[.slice none 0 0, .bool false]) ∧ Below w.heap.size w w' := by
  have HN : Hid (n < 9223372036854775808) := by show _ < _; omega
  have HST : Hid (∀ u, Calls Tryd.prog 61 #[ii n, .int .i64 i] u fun e w' => e = .returned (.bool false) ∧ Below u.heap.size u w') := fun u => by
    rw [← h]
    exact stand_any (n : Int) i u (by omega) (by omega) hi0 hi1
  have E1 : Hid (EnvX w w []) := EnvX.start w
  clear h
  go_enter Tryd.func47, Tryd.ntmps47
  go_upto_region 1 with (fail)
  refine wp_region_Hx (w0 := w) [0, 1, 2, 3, 4] [] rfl E1.out ?_
  refine lexH_phase [0, 1, 2, 3, 4] [] ?_
  have hw1 : EnvX w _ [] := E1.out
  have hone := @EnvC.one _ _ _ hw1
  (refine wpG_op rfl rfl rfl ?_; intro K hK; go_big_quiet_op; go_big_quiet_on)
  (refine wpG_val (v := ii n) rfl rfl (fun u hu => len_op Tryd.underlying44 HN.out u rfl) ?_ hw1; intro K hK; go_big_quiet_op; go_big_quiet_on)
  (refine wpG_op rfl rfl rfl ?_; intro K hK; go_big_quiet_op; go_big_quiet_on)
  (refine wpG_call (f := 61) (args := #[ii n, .int .i64 i]) (v := .bool false) rfl rfl rfl Tryd.func61 rfl rfl (fun u hu => HST.out u) ?_ hw1; intro K hK; go_big_quiet_op; go_big_quiet_on)
  (refine wpG_op rfl rfl rfl ?_; intro K hK; go_big_quiet_op; go_big_quiet_on)
  clear hone hw1
  refine wpG_nil ?_
  intro u3 E2'
  have EX2 := Lib.hid E2'
  clear E2'
  have HB := Lib.hid EX2.out.bel
  clear EX2
  go_wp2_with fail
  go_returns
  exact ⟨rfl, HB.out⟩
set_option maxRecDepth 20000 in
set_option maxHeartbeats 4000000 in
theorem path_any (l : List (List Int)) (i : Int) (A : Option Addr) (n c : Nat) (w : World) (hl : l.length = n) (hn : n ≤ 1000000) (hnc : n ≤ c) (hi : I64 i) (hI : isIds l) (hA : IdsIn w w.heap.size A l) (ht : Tables w) :
    Calls Tryd.prog 47 #[ndV, .slice A n c, .int .i64 i] w fun e w' => (∃ v, e = .returned (.tuple #[v, .bool (pathR l i).2]) ∧ OwnI w' w.heap.size v (pathR l i).1) ∧ Below w.heap.size w w' := by
  subst hl
  unfold pathR
  by_cases h : 0 ≤ i ∧ i < l.length ∧ l.length ≤ 64
  · rw [if_pos h]
    obtain ⟨j, rfl⟩ := Int.eq_ofNat_of_zero_le h.1
    exact pathBy_some l j A _ c w rfl h.2.2 (by omega) hnc hI hA ht
  · rw [if_neg h]
    have hs : standT (l.length : Int) i = false := by unfold standT; simp only [decide_eq_false_iff_not]; omega
    refine (pathBy_none i A l.length c w hn hi.1 hi.2 hs).mono ?_
    rintro e w' ⟨rfl, hb⟩
    exact ⟨⟨_, rfl, OwnI.nil _ _⟩, hb⟩
set_option maxRecDepth 20000 in
set_option maxHeartbeats 4000000 in
theorem Path_any (l : List (List Int)) (i : Int) (A : Option Addr) (n c : Nat) (w : World) (hl : l.length = n) (hn : n ≤ 1000000) (hnc : n ≤ c) (hi : I64 i) (hI : isIds l) (hA : IdsIn w w.heap.size A l) (ht : Tables w) :
    Calls Tryd.prog 25 #[.slice A n c, .int .i64 i] w fun e w' => (∃ v, e = .returned (.tuple #[v, .bool (pathR l i).2]) ∧ OwnI w' w.heap.size v (pathR l i).1) ∧ Below w.heap.size w w' := by
  have HC := Lib.hid (path_any l i A n c w hl hn hnc hi hI hA ht)
  clear hI hA ht hi
  unfold ndV at HC
  go_enter Tryd.func25, Tryd.ntmps25
  go_wp2_with fail
  refine HC.out.mono ?_
  rintro e w1 ⟨⟨v, rfl, hv⟩, hb⟩
  have HV := Lib.hid (And.intro hv hb)
  clear hv hb HC
  go_wp2_with fail
  go_returns
  exact ⟨⟨_, rfl, HV.out.1⟩, HV.out.2⟩
end Go.Proofs.YtcodmedgkboohaaDoor

namespace Go.Proofs.YtcodmedgkboohaaDoor
set_option maxRecDepth 8000
open Go.RowKit

def sideS (F : List (Nat × Nat × Bool)) : List Bool := F.map (fun x => !x.2.2)
theorem sideS_getD (F : List (Nat × Nat × Bool)) {k : Nat} (hk : k < F.length) : (sideS F).getD k true = !(F.getD k (0, 0, false)).2.2 := map_getD F (fun x => !x.2.2) (0, 0, false) true hk
/-- both ids on their sides: a on the left, c on the right; or, if a stands on the right, the other way round -/
def pairV (r : Bool) (a c : List Int) : Array Value := if r then arrB 32 c ++ arrB 32 a else arrB 32 a ++ arrB 32 c
def stA (F : List (Nat × Nat × Bool)) (x : List Int) (p : List (List Int)) (k : Nat) : Array Value := pairV (F.getD k (0, 0, false)).2.2 (climbK (sideS F) x p k) (p.getD k []) ++ arrB 32 (climbK (sideS F) x p (k + 1))
def stepsC (F : List (Nat × Nat × Bool)) (x : List Int) (p : List (List Int)) (n : Nat) : List (List Value) := (List.range n).map fun k => (stA F x p k).toList
theorem pair_size {r : Bool} {a c : List Int} (ha : a.length = 32) (hc : c.length = 32) : (pairV r a c).size = 64 := by
  have s0 := arrB_size 32 a (by omega)
  have s1 := arrB_size 32 c (by omega)
  unfold pairV
  split <;> simp only [Array.size_append, s0, s1]
theorem arrB_all {n : Nat} (xs : List Int) : ∀ u ∈ (arrB n xs).toList, u.oneCell' = true := fun u hu => (Array.all_eq_true_iff_forall_mem.1 (arrB_one n xs)) u (by simpa using hu)
theorem pair_one {r : Bool} {a c : List Int} : ∀ u ∈ (pairV r a c).toList, u.oneCell' = true := by
  intro u hu
  unfold pairV at hu
  split at hu <;> (rw [Array.toList_append] at hu; exact (List.mem_append.1 hu).elim (arrB_all _ u) (arrB_all _ u))
theorem put_pair1 {r : Bool} {k : Nat} {a : List Int} (hk : k = if r then 1 else 0) (ha : a.length = 32) :
    (arrB 32 [] ++ arrB 32 []).toList.take (0 + k * 32) ++ (arrB 32 a).toList ++ (arrB 32 [] ++ arrB 32 []).toList.drop (0 + k * 32 + (arrB 32 a).size) = (pairV r a []).toList := by
  subst hk
  have lz := z32_len
  have la := idA_cells ha
  have sa := arrB_size 32 a (by omega)
  unfold pairV
  cases r
  · show (arrB 32 [] ++ arrB 32 []).toList.take 0 ++ (arrB 32 a).toList ++ (arrB 32 [] ++ arrB 32 []).toList.drop (0 + 0 * 32 + (arrB 32 a).size) = (arrB 32 a ++ arrB 32 []).toList
    rw [sa, Array.toList_append, Array.toList_append, List.drop_append_of_le_length (by omega), List.drop_of_length_le (by omega)]
    rfl
  · show (arrB 32 [] ++ arrB 32 []).toList.take 32 ++ (arrB 32 a).toList ++ (arrB 32 [] ++ arrB 32 []).toList.drop (0 + 1 * 32 + (arrB 32 a).size) = (arrB 32 [] ++ arrB 32 a).toList
    rw [sa, Array.toList_append, Array.toList_append, List.take_append_of_le_length (by omega), List.take_of_length_le (by omega), List.drop_of_length_le (by rw [List.length_append]; omega), List.append_nil]
theorem put_pair2 {r : Bool} {k : Nat} {a c : List Int} (hk : k = if r then 0 else 1) (ha : a.length = 32) (hc : c.length = 32) :
    (pairV r a []).toList.take (0 + k * 32) ++ (arrB 32 c).toList ++ (pairV r a []).toList.drop (0 + k * 32 + (arrB 32 c).size) = (pairV r a c).toList := by
  subst hk
  have lz := z32_len
  have la := idA_cells ha
  have lc := idA_cells hc
  have sc := arrB_size 32 c (by omega)
  unfold pairV
  cases r
  · show (arrB 32 a ++ arrB 32 []).toList.take 32 ++ (arrB 32 c).toList ++ (arrB 32 a ++ arrB 32 []).toList.drop (0 + 1 * 32 + (arrB 32 c).size) = (arrB 32 a ++ arrB 32 c).toList
    rw [sc, Array.toList_append, Array.toList_append, List.take_append_of_le_length (by omega), List.take_of_length_le (by omega), List.drop_of_length_le (by rw [List.length_append]; omega), List.append_nil]
  · show (arrB 32 [] ++ arrB 32 a).toList.take 0 ++ (arrB 32 c).toList ++ (arrB 32 [] ++ arrB 32 a).toList.drop (0 + 0 * 32 + (arrB 32 c).size) = (arrB 32 c ++ arrB 32 a).toList
    rw [sc, Array.toList_append, Array.toList_append, List.drop_append_of_le_length (by omega), List.drop_of_length_le (by omega)]
    rfl
/-- what stands on the left, and on the right -/
def leftV (r : Bool) (a c : List Int) : List Int := if r then c else a
def rightV (r : Bool) (a c : List Int) : List Int := if r then a else c
theorem pair_lr (r : Bool) (a c : List Int) : pairV r a c = arrB 32 (leftV r a c) ++ arrB 32 (rightV r a c) := by unfold pairV leftV rightV; cases r <;> rfl
theorem step_lr (r : Bool) (a c : List Int) : stepT (!r) a c = nodeT (leftV r a c) (rightV r a c) := by unfold stepT leftV rightV; cases r <;> rfl
def zStep : Value := .agg (arrB 96 [])
theorem elS : ElemT 104 107 96 96 zStep := ⟨Tryd.underlying104, by kernel_rfl, rfl, by decide, by decide, by decide⟩
theorem zero_step : (Tryd.prog.info? 107).map (fun i => i.zero.map (·.cells.size)) = some (some 96) := by kernel_rfl
theorem step_places : (match Tryd.prog.underlying 107 with | some (.struct fields) => fields.toList.mapM (fun f => (Tryd.prog.info? f.type).map fun i => (f.offset, i.size)) | _ => none) = some [(0, 64), (64, 32)] := by kernel_rfl
theorem built_step {A B : Array Value} (hA : A.size = 64) (hB : B.size = 32) : Tryd.prog.built 107 [(0, .agg A), (1, .agg B)] = some (A ++ B) := by
  have hz := zero_step
  have hp := step_places
  cases hu : Tryd.prog.underlying 107 with
  | none => rw [hu] at hp; cases hp
  | some d =>
    rw [hu] at hp
    cases d with
    | struct fields =>
      simp only at hp
      cases hq : Tryd.prog.info? 107 with
      | none => rw [hq] at hz; cases hz
      | some it =>
        rw [hq] at hz
        simp only [Option.map_some, Option.some.injEq] at hz
        cases hzz : it.zero with
        | none => rw [hzz] at hz; cases hz
        | some z =>
          rw [hzz] at hz
          simp only [Option.map_some, Option.some.injEq] at hz
          unfold Program.built
          simp only [hq, hu, hzz, hp]
          exact fill_two A B z.cells hA hB rfl rfl (by omega)
    | _ => cases hp
set_option maxRecDepth 20000 in
set_option maxHeartbeats 4000000 in
theorem climb_any (F : List (Nat × Nat × Bool)) (x : List Int) (p : List (List Int)) (Au : Option Addr) (K cu : Nat) (A : Option Addr) (m c : Nat) (w : World) (hK : F.length = K) (hK64 : K ≤ 64) (hU : CellsIn w w.heap.size Au (F.map fkV).flatten)
    (hx : x.length = 32 ∧ ∀ b ∈ x, 0 ≤ b ∧ b ≤ 255) (hm : p.length = m) (hKm : K ≤ m) (hI : isIds p) (hA : IdsIn w w.heap.size A p) (ht : Tables w) :
    Calls Tryd.prog 64 #[ndV, .slice Au K cu, idv x, .slice A m c] w fun e w' => (∃ v, e = .returned v ∧ w'.ownsRow w.heap.size 107 96 v K (stepsC F x p K).flatten) ∧ Below w.heap.size w w' := by
  have HX := Lib.hid hx
  have HU := Lib.hid hU
  have HAI := Lib.hid (And.intro hA hI)
  have HM := Lib.hid hm
  have HTT := Lib.hid ht
  have HKL := Lib.hid hK
  have HKN : Hid (K < 9223372036854775808) := by show _ < _; omega
  have HK1 : Hid (K ≤ 10000) := by show _ ≤ _; omega
  have hCI := Lib.hid (climb_id (sideS F) x p hx)
  have E1 : Hid (EnvX w (w.alloc (.cells (arrB 32 x) 37)) [(w.heap.size, Obj.cells (arrB 32 x) 37 (0, 0))]) := (EnvX.start w).new _
  clear hx hU hI hA hm ht hK
  unfold idv
  go_enter Tryd.func64, Tryd.ntmps64
  go_upto_region 1 with (fail)
  generalize w.alloc (.cells (arrB 32 x) 37) = W at *
  refine wp_region_Hx (w0 := w) [0, 1, 2, 3] [(w.heap.size, Obj.cells (arrB 32 x) 37 (0, 0))] rfl E1.out ?_
  refine lexH_phase [0, 1] [2, 3] ?_
  have hw1 : EnvX w _ [(w.heap.size, Obj.cells (arrB 32 x) 37 (0, 0))] := E1.out
  have hone := @EnvC.one _ _ _ hw1
  (refine wpG_op rfl rfl rfl ?_; intro K hK; go_big_quiet_op; go_big_quiet_on)
  (refine wpG_val (v := .int .i64 (K : Int)) rfl rfl (fun u hu => len_op Tryd.underlying95 HKN.out u rfl) ?_ hw1; intro K hK; go_big_quiet_op; go_big_quiet_on)
  clear hone hw1
  refine wpG_nil ?_
  refine (hOp_fresh (R := fun v N => ∃ g cur, v = .slice (some ⟨g, 0, none⟩) 0 K ∧ N = [(g, Obj.cells cur 107 (0, 0))] ∧ cur.size = K * 96) (M0 := [(w.heap.size, Obj.cells (arrB 32 x) 37 (0, 0))]) rfl rfl (fun _ h => h) (fun u hu => FAt_makeR elS HK1.out rfl u) ?_)
  rintro _ _ ⟨gm, cm, rfl, rfl, hcm⟩ hf he2; intro K' hK'; go_big_quiet_op; go_big_quiet_on
  have HCM := Lib.hid hcm
  have HGM := Lib.hid (hf _ (List.mem_singleton.2 rfl))
  clear hcm
  clear hf
  change lexH _ _ _ _ _ _ [(gm, Obj.cells cm 107 (0, 0)), (w.heap.size, Obj.cells (arrB 32 x) 37 (0, 0))]
  refine lexH_phase [3] [] ?_
  have hw3 : EnvX w _ [(gm, Obj.cells cm 107 (0, 0)), (w.heap.size, Obj.cells (arrB 32 x) 37 (0, 0))] := he2.choose_spec
  have hone := @EnvC.one _ _ _ hw3
  (refine wpG_op rfl rfl rfl ?_; intro K hK; go_big_quiet_op; go_big_quiet_on)
  clear hone hw3
  refine wpG_nil ?_
  intro u5 E2'
  have EX4 := Lib.hid E2'
  clear E2'
  go_upto_region 2 with (fail)
  refine wp_region_Hx (w0 := w) [0, 1, 2] [(gm, Obj.cells cm 107 (0, 0)), (w.heap.size, Obj.cells (arrB 32 x) 37 (0, 0))] rfl EX4.out ?_
  refine lexH_phase [0] [1, 2] ?_
  have hw6 : EnvX w _ [(gm, Obj.cells cm 107 (0, 0)), (w.heap.size, Obj.cells (arrB 32 x) 37 (0, 0))] := EX4.out
  have hone := @EnvC.one _ _ _ hw6
  (refine wpG_val (v := idv x) rfl rfl (fun u hu => load_run_op u (box_load hu (List.Mem.tail _ (List.Mem.head _)) HX.out.1) rfl) ?_ hw6; intro K hK; go_big_quiet_op; go_big_quiet_on)
  clear hone hw6
  refine wpG_nil ?_
  refine (hOp_fresh (R := fun x N => ∃ g, x = .pointer (some ⟨g, 0, none⟩) ∧ N = [(g, Obj.cells (arrB 32 []) 37 (0, 0))]) (M0 := [(gm, Obj.cells cm 107 (0, 0)), (w.heap.size, Obj.cells (arrB 32 x) 37 (0, 0))]) rfl rfl (fun _ h => h) (fun u hu => FAt_new (new_id _) u) ?_)
  rintro _ _ ⟨g10, rfl, rfl⟩ hf he7; intro K' hK'; go_big_quiet_op; go_big_quiet_on
  have HG10 := Lib.hid (hf _ (List.mem_singleton.2 rfl))
  clear hf
  change lexH _ _ _ _ _ _ [(g10, Obj.cells (arrB 32 []) 37 (0, 0)), (gm, Obj.cells cm 107 (0, 0)), (w.heap.size, Obj.cells (arrB 32 x) 37 (0, 0))]
  refine (hOp_store rfl (g10) (arrB 32 x) rfl rfl HG10.out.1 37 ((arrB 32 [])) (List.Mem.head _) (info26 _ (arrB_size _ _ (by rw [HX.out.1]; omega))) ((arrB_size _ _ (by simp)).trans (arrB_size _ _ (by rw [HX.out.1]; omega)).symm) (arrB_one _ _) [(g10, Obj.cells (arrB 32 x) 37 (0, 0)), (gm, Obj.cells cm 107 (0, 0)), (w.heap.size, Obj.cells (arrB 32 x) 37 (0, 0))] (List.forall_mem_cons.2 ⟨.inl rfl, fun y hy => .inr ⟨List.mem_cons_of_mem _ hy, HG10.out.2 y hy⟩⟩) ?_)
  intro he8
  intro u10 E2'
  have EX9 := Lib.hid E2'
  clear E2'
  go_upto_region 3 with (fail)
  refine wp_region_Hx (w0 := w) [0, 1, 2] [(g10, Obj.cells (arrB 32 x) 37 (0, 0)), (gm, Obj.cells cm 107 (0, 0)), (w.heap.size, Obj.cells (arrB 32 x) 37 (0, 0))] rfl EX9.out ?_
  refine lexH_phase [0, 1, 2] [] ?_
  have hw11 : EnvX w _ [(g10, Obj.cells (arrB 32 x) 37 (0, 0)), (gm, Obj.cells cm 107 (0, 0)), (w.heap.size, Obj.cells (arrB 32 x) 37 (0, 0))] := EX9.out
  have hone := @EnvC.one _ _ _ hw11
  (refine wpG_op rfl rfl rfl ?_; intro K hK; go_big_quiet_op; go_big_quiet_on)
  (refine wpG_val (v := .int .i64 (K : Int)) rfl rfl (fun u hu => len_op Tryd.underlying95 HKN.out u rfl) ?_ hw11; intro K hK; go_big_quiet_op; go_big_quiet_on)
  (refine wpG_op rfl rfl rfl ?_; intro K hK; go_big_quiet_op; go_big_quiet_on)
  clear hone hw11
  refine wpG_nil ?_
  intro u13 E2'
  have EX12 := Lib.hid E2'
  clear E2'
  have HINV : Hid (∃ N, FreshR 107 96 0 (stepsC F x p 0).flatten (.slice (some ⟨gm, 0, none⟩) 0 K) N ∧ freshN w N [(g10, Obj.cells (arrB 32 x) 37 (0, 0))] ∧ EnvX w u13 ((g10, Obj.cells (arrB 32 (climbK (sideS F) x p 0)) 37 (0, 0)) :: N)) := by
    refine ⟨[(gm, Obj.cells cm 107 (0, 0))], .inl ⟨gm, K, cm, rfl, rfl, Nat.zero_le _, by unfold maxLen; omega, HCM.out, rfl⟩, ?_, EnvX.sub EX12.out (List.forall_mem_cons.2 ⟨List.Mem.head _, fun y hy => List.mem_cons_of_mem _ ?_⟩)⟩
    · intro y hy
      cases List.mem_singleton.1 hy
      refine ⟨HGM.out.1, fun z hz => ?_⟩
      cases List.mem_singleton.1 hz
      exact fun e => HG10.out.2 _ (List.Mem.head _) e.symm
    · cases List.mem_singleton.1 hy
      exact List.Mem.head _
  clear EX12 HCM HGM
  have HG10w : Hid (w.heap.size ≤ g10) := HG10.out.1
  clear HG10
  go_upto_region 4 with (fail)
  go_loopw [9, 20] (fun v i u => ∃ k : Nat, k ≤ K ∧ i = .int .i64 k ∧ Hid (∃ N, FreshR 107 96 k (stepsC F x p k).flatten v N ∧ freshN w N [(g10, Obj.cells (arrB 32 x) 37 (0, 0))] ∧ EnvX w u ((g10, Obj.cells (arrB 32 (climbK (sideS F) x p k)) 37 (0, 0)) :: N))) (fun _ i _ => K - (intOf i).toNat)
  case atStart => exact ⟨0, by omega, rfl, HINV⟩
  case round =>
    obtain ⟨k, hk, rfl, hinv⟩ := hrel
    obtain ⟨N, hF, hN, hE⟩ := hinv.out
    clear hinv HINV
    by_cases hlt : k < K
    · have hk2 : (k : Int) < (K : Int) := by omega
      have EK := Lib.hid hE
      have HF := Lib.hid hF
      have HN := Lib.hid hN
      have hkF : k < F.length := by rw [HKL.out]; exact hlt
      have HK := Lib.hid hlt
      have hck : ((F.map fkV).getD k []) = fkV (F.getD k (0, 0, false)) := map_getD F fkV _ _ hkF
      have hkm : k < p.length := by rw [HM.out]; omega
      have HKM : Hid (k < m) := by show _ < _; omega
      obtain ⟨ad, rfl, -⟩ := CellsIn.load aggFork HU.out (fk_rows F) (by decide) (i := k) (by rw [List.length_map]; exact hkF)
      obtain ⟨ap, rfl, -⟩ := HAI.out.1.load HAI.out.2 (i := k) hkm
      have HLD : Hid (∀ u, EnvX w u [] → (loadVar 101 (ad.add (k * 5))).run Tryd.prog u = .ok (.agg (fkV (F.getD k (0, 0, false))).toArray) u) := fun u hu => by
        obtain ⟨ad2, e2, h2⟩ := CellsIn.load aggFork (HU.out.up (EnvX.bel hu)) (fk_rows F) (by decide) (i := k) (by rw [List.length_map]; exact hkF)
        cases e2
        rw [hck] at h2
        exact h2
      have HLP : Hid (∀ u, EnvX w u [] → (loadVar 37 (ap.add (k * 32))).run Tryd.prog u = .ok (idv (p.getD k [])) u) := fun u hu => by
        obtain ⟨ad2, e2, h2⟩ := (HAI.out.1.up (EnvX.bel hu)).load HAI.out.2 (i := k) hkm
        cases e2
        exact h2
      have HPK : Hid ((p.getD k []).length = 32 ∧ ∀ b ∈ p.getD k [], 0 ≤ b ∧ b ≤ 255) := HAI.out.2.get hkm
      have HCK := Lib.hid (hCI.out k)
      have HNK := Lib.hid (hCI.out (k + 1))
      have hst : climbK (sideS F) x p (k + 1) = stepT ((sideS F).getD k true) (climbK (sideS F) x p k) (p.getD k []) := rfl
      rw [sideS_getD F hkF, step_lr] at hst
      have HSN : Hid (stepsC F x p (k + 1) = stepsC F x p k ++ [(pairV (F.getD k (0, 0, false)).2.2 (climbK (sideS F) x p k) (p.getD k []) ++ arrB 32 (climbK (sideS F) x p (k + 1))).toList]) := by
        show _ = _
        unfold stepsC
        rw [List.range_succ, List.map_append]
        rfl
      have HSL : Hid ((stepsC F x p k).flatten.length = k * 96 ∧ (stepsC F x p k).length = k) := by
        have hlen : (stepsC F x p k).length = k := by unfold stepsC; rw [List.length_map, List.length_range]
        refine ⟨?_, hlen⟩
        have hr : isRows 96 (stepsC F x p k) := fun y hy => by
          obtain ⟨j, hj, rfl⟩ := List.mem_map.1 hy
          have hjk := List.mem_range.1 hj
          have hpj := (HAI.out.2.get (i := j) (by omega)).1
          unfold stA
          rw [Array.length_toList, Array.size_append, pair_size (hCI.out j).1 hpj, arrB_size _ _ (by rw [(hCI.out (j + 1)).1]; omega)]
        rw [hr.flat_len, hlen]
      have HND : Hid (∀ u, EnvX w u [] → Calls Tryd.prog 48 #[idv (leftV (F.getD k (0, 0, false)).2.2 (climbK (sideS F) x p k) (p.getD k [])), idv (rightV (F.getD k (0, 0, false)).2.2 (climbK (sideS F) x p k) (p.getD k []))] u fun e w' => e = .returned (idv (climbK (sideS F) x p (k + 1))) ∧ Below u.heap.size u w') := fun u hu => by
        rw [hst]
        refine node_any _ _ u ?_ ?_ (HTT.out.below (EnvX.bel hu))
        · unfold leftV; split <;> first | exact HPK.out | exact HCK.out
        · unfold rightV; split <;> first | exact HPK.out | exact HCK.out
      clear hE hF hN hck hst
      generalize hxk : F.getD k (0, 0, false) = y at *
      generalize p.getD k [] = pk at *
      generalize climbK (sideS F) x p k = ck at *
      generalize hnk : climbK (sideS F) x p (k + 1) = nk at *
      have HNE := Lib.hid hnk
      clear hnk
      have HOFF := Lib.hid (off_sub y)
      have HO2 := Lib.hid (off_two y)
      have HN2 : Hid (onN y < 2) := by show _ < _; unfold onN; split <;> omega
      have HLR := Lib.hid (pair_lr y.2.2 ck pk)
      have HLL : Hid ((leftV y.2.2 ck pk).length = 32 ∧ (rightV y.2.2 ck pk).length = 32) := by
        show _ ∧ _
        unfold leftV rightV
        split
        · exact ⟨HPK.out.1, HCK.out.1⟩
        · exact ⟨HCK.out.1, HPK.out.1⟩
      have HPA := Lib.hid (pair_at (idA_cells HLL.out.1) (idA_cells HLL.out.2))
      have HPS : Hid ((pairV y.2.2 ck pk).size = 64 ∧ (arrB 32 nk).size = 32) := ⟨pair_size HCK.out.1 HPK.out.1, arrB_size _ _ (by rw [HNK.out.1]; omega)⟩
      have HP1 : Hid ((arrB 32 [] ++ arrB 32 []).toList.take (0 + onN y * 32) ++ (arrB 32 ck).toList ++ (arrB 32 [] ++ arrB 32 []).toList.drop (0 + onN y * 32 + (arrB 32 ck).size) = (pairV y.2.2 ck []).toList) := put_pair1 rfl HCK.out.1
      have HP2 : Hid ((pairV y.2.2 ck []).toList.take (0 + offN y * 32) ++ (arrB 32 pk).toList ++ (pairV y.2.2 ck []).toList.drop (0 + offN y * 32 + (arrB 32 pk).size) = (pairV y.2.2 ck pk).toList) := put_pair2 rfl HCK.out.1 HPK.out.1
      have HSZ : Hid (0 + onN y * 32 + (arrB 32 ck).size ≤ (arrB 32 [] ++ arrB 32 []).size ∧ 0 + offN y * 32 + (arrB 32 pk).size ≤ (pairV y.2.2 ck []).size) := by
        have z := arrB_size 32 [] (by simp)
        have s1 := arrB_size 32 ck (by rw [HCK.out.1]; omega)
        have s2 := arrB_size 32 pk (by rw [HPK.out.1]; omega)
        have s3 : (pairV y.2.2 ck []).size = 64 := by unfold pairV; split <;> simp only [Array.size_append, z, s1]
        have := HO2.out
        have := HN2.out
        refine ⟨?_, ?_⟩
        · simp only [Array.size_append, z, s1]; omega
        · rw [s2, s3]; omega
      go_upto_region 5 with (fail)
      refine wp_region_Hx (w0 := w) [0, 1, 2, 3, 4, 5] ((g10, Obj.cells (arrB 32 ck) 37 (0, 0)) :: N) rfl EK.out ?_
      refine lexH_phase [0, 1, 2] [3, 4, 5] ?_
      have hw14 : EnvX w _ ((g10, Obj.cells (arrB 32 ck) 37 (0, 0)) :: N) := EK.out
      have hone := @EnvC.one _ _ _ hw14
      (refine wpG_op rfl rfl rfl ?_; intro K hK; go_big_quiet_op; go_big_quiet_on)
      (refine wpG_val (v := .pointer (some (ad.add (k * 5)))) rfl rfl (fun u hu => idxSl_op Tryd.underlying95 aggFork.size HK.out u rfl rfl) ?_ hw14; intro K hK; go_big_quiet_op; go_big_quiet_on)
      (refine wpG_val (v := .agg (fkV y).toArray) rfl rfl (fun u hu => load_any_op u (HLD.out u (EnvX.sub hu (fun _ h => by cases h))) rfl) ?_ hw14; intro K hK; go_big_quiet_op; go_big_quiet_on)
      clear hone hw14
      refine wpG_nil ?_
      refine (hOp_fresh (R := fun x N => ∃ g, x = .pointer (some ⟨g, 0, none⟩) ∧ N = [(g, Obj.cells #[ii 0, ii 0, ii 0, ii 0, ii 0] 101 (0, 0))]) (M0 := ((g10, Obj.cells (arrB 32 ck) 37 (0, 0)) :: N)) rfl rfl (fun _ h => h) (fun u hu => FAt_new (new_fork _) u) ?_)
      rintro _ _ ⟨g12, rfl, rfl⟩ hf he15; intro K' hK'; go_big_quiet_op; go_big_quiet_on
      have HG12 := Lib.hid (hf _ (List.mem_singleton.2 rfl))
      clear hf
      change lexH _ _ _ _ _ _ ((g12, Obj.cells #[ii 0, ii 0, ii 0, ii 0, ii 0] 101 (0, 0)) :: ((g10, Obj.cells (arrB 32 ck) 37 (0, 0)) :: N))
      refine lexH_phase [4] [5] ?_
      have hw16 : EnvX w _ ((g12, Obj.cells #[ii 0, ii 0, ii 0, ii 0, ii 0] 101 (0, 0)) :: ((g10, Obj.cells (arrB 32 ck) 37 (0, 0)) :: N)) := he15.choose_spec
      have hone := @EnvC.one _ _ _ hw16
      (refine wpG_op rfl rfl rfl ?_; intro K hK; go_big_quiet_op; go_big_quiet_on)
      clear hone hw16
      refine wpG_nil ?_
      refine (hOp_putAt rfl (g12) (0) (.agg (fkV y).toArray) rfl rfl HG12.out.1 101 (#[ii 0, ii 0, ii 0, ii 0, ii 0]) ((fkV y).toArray) (List.Mem.head _) info_fork (Nat.le_refl 5) (by kernel_rfl) rfl ((g12, Obj.cells ((fkV y).toArray) 101 (0, 0)) :: ((g10, Obj.cells (arrB 32 ck) 37 (0, 0)) :: N)) (List.forall_mem_cons.2 ⟨.inl rfl, fun y hy => .inr ⟨List.mem_cons_of_mem _ hy, HG12.out.2 y hy⟩⟩) ?_)
      intro he17
      intro u19 E2'
      have EX18 := Lib.hid E2'
      clear E2'
      have HLF : Hid (∀ u, EnvX u19 u [] → u.cell? ⟨g12, 4, none⟩ = some (ii (onN y))) := fun u hu => box_cell (k := 4) (EnvX.comb EX18.out hu) (List.Mem.head _) rfl
      have HLS : Hid (∀ u, EnvX u19 u [] → (loadVar 37 ⟨g10, 0, none⟩).run Tryd.prog u = .ok (idv ck) u) := fun u hu => box_load (EnvX.comb EX18.out hu) (List.Mem.tail _ (List.Mem.head _)) HCK.out.1
      have HLQ : Hid (∀ u, EnvX u19 u [] → (loadVar 37 (ap.add (k * 32))).run Tryd.prog u = .ok (idv pk) u) := fun u hu => HLP.out u (EnvX.sub (EnvX.comb EX18.out hu) (fun _ h => by cases h))
      have E55 : Hid (EnvX u19 u19 []) := EnvX.start _
      go_upto_region 6 with (fail)
      refine wp_region_Hx (w0 := u19) [0] [] rfl E55.out ?_
      refine (hOp_fresh (R := fun x N => ∃ g, x = .pointer (some ⟨g, 0, none⟩) ∧ N = [(g, Obj.cells (arrB 32 [] ++ arrB 32 []) 103 (0, 0))]) (M0 := []) rfl rfl (fun _ h => h) (fun u hu => FAt_new (new_ids2 _) u) ?_)
      rintro _ _ ⟨g13, rfl, rfl⟩ hf he20; intro K' hK'; go_big_quiet_op; go_big_quiet_on
      have HG13 := Lib.hid (hf _ (List.mem_singleton.2 rfl)).1
      clear hf
      change lexH _ _ _ _ _ _ [(g13, Obj.cells (arrB 32 [] ++ arrB 32 []) 103 (0, 0))]
      intro u22 E2'
      have EX21 := Lib.hid E2'
      clear E2'
      go_upto_region 7 with (fail)
      refine wp_region_H (w0 := u19) [(g13, Obj.cells (arrB 32 [] ++ arrB 32 []) 103 (0, 0))] (by kernel_rfl) EX21.out ?_
      refine anyH_phaseN [0, 1, 2, 3, 4, 5, 6, 7, 8, 9, 10] 3 rfl (by kernel_rfl) ?_
      have hw23 : EnvX u19 _ [] := EnvX.sub (EnvX.drew EX21.out) (fun _ h => by cases h)
      have hone := @EnvC.one _ _ _ hw23
      (refine wpG_op rfl rfl rfl ?_; intro K hK; go_big_quiet_op; go_big_quiet_on)
      (refine wpG_val (v := ii (onN y)) rfl rfl (fun u hu => load_any_op u (run_load_one oneInt u (HLF.out u hu)) rfl) ?_ hw23; intro K hK; go_big_quiet_op; go_big_quiet_on)
      (refine wpG_op rfl rfl rfl ?_; intro K hK; go_big_quiet_op; go_big_quiet_on)
      (refine wpG_val (v := ii (onN y)) rfl rfl (fun u hu => load_any_op u (run_load_one oneInt u (HLF.out u hu)) rfl) ?_ hw23; intro K hK; go_big_quiet_op; go_big_quiet_on)
      (refine wpG_val (v := ii (offN y)) rfl rfl (fun u hu => sub_op u HOFF.out.1 HOFF.out.2 rfl rfl) ?_ hw23; intro K hK; go_big_quiet_op; go_big_quiet_on)
      (refine wpG_val (v := idv ck) rfl rfl (fun u hu => load_any_op u (HLS.out u hu) rfl) ?_ hw23; intro K hK; go_big_quiet_op; go_big_quiet_on)
      (refine wpG_op rfl rfl rfl ?_; intro K hK; go_big_quiet_op; go_big_quiet_on)
      (refine wpG_op rfl rfl rfl ?_; intro K hK; go_big_quiet_op; go_big_quiet_on)
      (refine wpG_val (v := .pointer (some (ap.add (k * 32)))) rfl rfl (fun u hu => idxSl_op Tryd.underlying44 aggId.size HKM.out u rfl rfl) ?_ hw23; intro K hK; go_big_quiet_op; go_big_quiet_on)
      (refine wpG_val (v := idv pk) rfl rfl (fun u hu => load_any_op u (HLQ.out u hu) rfl) ?_ hw23; intro K hK; go_big_quiet_op; go_big_quiet_on)
      (refine wpG_val (v := .pointer (some ⟨g13, 0 + onN y * 32, none⟩)) rfl rfl (fun u hu => idxArr_op Tryd.underlying103 aggId.size HN2.out u rfl rfl) ?_ hw23; intro K hK; go_big_quiet_op; go_big_quiet_on)
      clear hone hw23
      refine wpG_nil ?_
      refine anyH_one (i := 11) (by kernel_rfl) (hOp_putAt rfl (g13) (0 + onN y * 32) (idv ck) rfl rfl HG13.out 103 ((arrB 32 [] ++ arrB 32 [])) (pairV y.2.2 ck []) (List.Mem.head _) (info26 _ (arrB_size _ _ (by rw [HCK.out.1]; omega))) HSZ.out.1 (arrB_one _ _) HP1.out [(g13, Obj.cells (pairV y.2.2 ck []) 103 (0, 0))] (List.forall_mem_cons.2 ⟨.inl rfl, fun _ h => by cases h⟩) ?_)
      intro he24
      refine anyH_phaseN [12] 1 rfl (by kernel_rfl) ?_
      have hw25 : EnvX u19 _ [] := EnvX.sub he24.choose_spec (fun _ h => by cases h)
      have hone := @EnvC.one _ _ _ hw25
      (refine wpG_val (v := .pointer (some ⟨g13, 0 + offN y * 32, none⟩)) rfl rfl (fun u hu => idxArr_op Tryd.underlying103 aggId.size HO2.out u rfl rfl) ?_ hw25; intro K hK; go_big_quiet_op; go_big_quiet_on)
      clear hone hw25
      refine wpG_nil ?_
      refine anyH_one (i := 13) (by kernel_rfl) (hOp_putAt rfl (g13) (0 + offN y * 32) (idv pk) rfl rfl HG13.out 103 (pairV y.2.2 ck []) (pairV y.2.2 ck pk) (List.Mem.head _) (info26 _ (arrB_size _ _ (by rw [HPK.out.1]; omega))) HSZ.out.2 (arrB_one _ _) HP2.out [(g13, Obj.cells (pairV y.2.2 ck pk) 103 (0, 0))] (List.forall_mem_cons.2 ⟨.inl rfl, fun _ h => by cases h⟩) ?_)
      intro he26
      refine anyH_done (by kernel_rfl) ?_
      intro u28 E2'
      have EX27 := Lib.hid E2'
      clear E2'
      have E8 : Hid (EnvX w u28 ((g13, Obj.cells (pairV y.2.2 ck pk) 103 (0, 0)) :: (g12, bxK y) :: (g10, Obj.cells (arrB 32 ck) 37 (0, 0)) :: N)) := EnvX.comb EX18.out EX27.out
      have HG13b : Hid (g10 ≠ g13 ∧ ∀ z ∈ N, z.1 ≠ g13) := ⟨fun e => by have := EnvX.lt EX18.out (List.Mem.tail _ (List.Mem.head _)); have := HG13.out; omega, fun z hz e => by have := EnvX.lt EX18.out (g := z.1) (o := z.2) (List.Mem.tail _ (List.Mem.tail _ hz)); have := HG13.out; omega⟩
      clear EX18 EX27 E55 HLF HLS HLQ
      go_upto_region 8 with (fail)
      refine wp_region_Hx (w0 := w) [0, 1, 2, 3, 4, 5, 6] ((g13, Obj.cells (pairV y.2.2 ck pk) 103 (0, 0)) :: ((g12, bxK y) :: ((g10, Obj.cells (arrB 32 ck) 37 (0, 0)) :: N))) rfl E8.out ?_
      refine lexH_phase [0, 1, 2, 3, 4, 5] [6] ?_
      have hw29 : EnvX w _ ((g13, Obj.cells (pairV y.2.2 ck pk) 103 (0, 0)) :: ((g12, bxK y) :: ((g10, Obj.cells (arrB 32 ck) 37 (0, 0)) :: N))) := E8.out
      have hone := @EnvC.one _ _ _ hw29
      (refine wpG_op rfl rfl rfl ?_; intro K hK; go_big_quiet_op; go_big_quiet_on)
      (refine wpG_val (v := .pointer (some ⟨g13, 0 + 0 * 32, none⟩)) rfl rfl (fun u hu => idxArr_op (i := 0) Tryd.underlying103 aggId.size (by decide) u rfl rfl) ?_ hw29; intro K hK; go_big_quiet_op; go_big_quiet_on)
      (refine wpG_val (v := idv (leftV y.2.2 ck pk)) rfl rfl (fun u hu => load_any_op u (box_idAt HLL.out.1 hu (List.Mem.head _) (by rw [HLR.out]; exact HPA.out.1)) rfl) ?_ hw29; intro K hK; go_big_quiet_op; go_big_quiet_on)
      (refine wpG_val (v := .pointer (some ⟨g13, 0 + 1 * 32, none⟩)) rfl rfl (fun u hu => idxArr_op (i := 1) Tryd.underlying103 aggId.size (by decide) u rfl rfl) ?_ hw29; intro K hK; go_big_quiet_op; go_big_quiet_on)
      (refine wpG_val (v := idv (rightV y.2.2 ck pk)) rfl rfl (fun u hu => load_any_op u (box_idAt HLL.out.2 hu (List.Mem.head _) (by rw [HLR.out]; exact HPA.out.2)) rfl) ?_ hw29; intro K hK; go_big_quiet_op; go_big_quiet_on)
      (refine wpG_callV (f := 48) (args := #[idv (leftV y.2.2 ck pk), idv (rightV y.2.2 ck pk)]) (caps := #[]) (all := #[idv (leftV y.2.2 ck pk), idv (rightV y.2.2 ck pk)]) (v := idv nk) rfl rfl rfl rfl rfl Tryd.func48 rfl rfl (fun u hu => HND.out u (EnvX.sub hu (fun _ h => by cases h))) ?_ hw29; intro K hK; go_big_quiet_op; go_big_quiet_on)
      clear hone hw29
      refine wpG_nil ?_
      refine (hOp_putAt rfl (g10) (0) (idv nk) rfl rfl HG10w.out 37 ((arrB 32 ck)) (arrB 32 nk) (List.Mem.tail _ (List.Mem.tail _ (List.Mem.head _))) (info26 _ (arrB_size _ _ (by rw [HNK.out.1]; omega))) (by show 0 + (arrB 32 nk).size ≤ _; rw [HPS.out.2, arrB_size _ _ (by rw [HCK.out.1]; omega)]; omega) (arrB_one _ _) (by show _ ++ (arrB 32 nk).toList ++ _ = _; rw [List.take_zero, List.nil_append, List.drop_of_length_le (by show _ ≤ 0 + (arrB 32 nk).size; rw [HPS.out.2, idA_cells HCK.out.1]; omega), List.append_nil]) ((g10, Obj.cells (arrB 32 nk) 37 (0, 0)) :: ((g13, Obj.cells (pairV y.2.2 ck pk) 103 (0, 0)) :: N)) (List.forall_mem_cons.2 ⟨.inl rfl, List.forall_mem_cons.2 ⟨.inr ⟨List.Mem.head _, fun e => HG13b.out.1 e.symm⟩, fun z hz => .inr ⟨List.mem_cons_of_mem _ (List.mem_cons_of_mem _ (List.mem_cons_of_mem _ hz)), fun e => (HN.out z hz).2 _ (List.Mem.head _) e.symm⟩⟩⟩) ?_)
      intro he30
      intro u32 E2'
      have EX31 := Lib.hid E2'
      clear E2'
      go_upto_region 9 with (fail)
      refine wp_region_Hx (w0 := w) [0, 1, 2, 3, 4, 5, 6] ((g10, Obj.cells (arrB 32 nk) 37 (0, 0)) :: ((g13, Obj.cells (pairV y.2.2 ck pk) 103 (0, 0)) :: N)) rfl EX31.out ?_
      refine lexH_phase [0, 1, 2, 3] [4, 5, 6] ?_
      have hw33 : EnvX w _ ((g10, Obj.cells (arrB 32 nk) 37 (0, 0)) :: ((g13, Obj.cells (pairV y.2.2 ck pk) 103 (0, 0)) :: N)) := EX31.out
      have hone := @EnvC.one _ _ _ hw33
      (refine wpG_op rfl rfl rfl ?_; intro K hK; go_big_quiet_op; go_big_quiet_on)
      (refine wpG_val (v := .agg (pairV y.2.2 ck pk)) rfl rfl (fun u hu => load_any_op u (by have h := box_agg aggIds2 (k := 0) hu (List.Mem.tail _ (List.Mem.head _)) (pairV y.2.2 ck pk).toList (by rw [Array.length_toList, HPS.out.1]) (by rw [List.drop_zero, List.take_of_length_le (by rw [Array.length_toList, HPS.out.1]; omega)]); rwa [Array.toArray_toList] at h) rfl) ?_ hw33; intro K hK; go_big_quiet_op; go_big_quiet_on)
      (refine wpG_val (v := idv nk) rfl rfl (fun u hu => load_run_op u (box_load hu (List.Mem.head _) HNK.out.1) rfl) ?_ hw33; intro K hK; go_big_quiet_op; go_big_quiet_on)
      (refine wpG_val (v := .agg (pairV y.2.2 ck pk ++ arrB 32 nk).toList.toArray) rfl rfl (fun u hu => buildA_op u (by rw [Array.toArray_toList]; exact built_step HPS.out.1 HPS.out.2)) ?_ hw33; intro K hK; go_big_quiet_op; go_big_quiet_on)
      clear hone hw33
      refine wpG_nil ?_
      refine (hOp_fresh (R := BuiltR 107 (pairV y.2.2 ck pk ++ arrB 32 nk).toList) (M0 := ((g10, Obj.cells (arrB 32 nk) 37 (0, 0)) :: ((g13, Obj.cells (pairV y.2.2 ck pk) 103 (0, 0)) :: N))) rfl rfl (fun _ h => h) (fun u hu => FAt_buildR elS (by rw [Array.length_toList, Array.size_append, HPS.out.1, HPS.out.2]) (fun z hz => by rw [Array.toList_append] at hz; exact (List.mem_append.1 hz).elim (pair_one z) (arrB_all _ z)) rfl u) ?_)
      rintro _ _ ⟨gb, rfl, rfl⟩ hf he34; intro K' hK'; go_big_quiet_op; go_big_quiet_on
      clear hf
      change lexH _ _ _ _ _ _ ((gb, Obj.cells (pairV y.2.2 ck pk ++ arrB 32 nk).toList.toArray 107 (0, 0)) :: ((g10, Obj.cells (arrB 32 nk) 37 (0, 0)) :: ((g13, Obj.cells (pairV y.2.2 ck pk) 103 (0, 0)) :: N)))
      refine (hOp_own (gd := none) (R := GrownR w 107 96 (k + 1) ((stepsC F x p k).flatten ++ (pairV y.2.2 ck pk ++ arrB 32 nk).toList) [(g10, Obj.cells (arrB 32 nk) 37 (0, 0))]) rfl rfl rfl rfl (fun u hu => appR_op elS (m := 1) (c := 1) [(g10, Obj.cells (arrB 32 nk) 37 (0, 0))] hu HSL.out.1 (by rw [Nat.one_mul]; exact (by rw [Array.length_toList, Array.size_append, HPS.out.1, HPS.out.2])) (fun z hz => by rw [Array.toList_append] at hz; exact (List.mem_append.1 hz).elim (pair_one z) (arrB_all _ z)) HF.out (fun z hz => ⟨List.mem_cons_of_mem _ (List.mem_cons_of_mem _ (List.mem_cons_of_mem _ hz)), (HN.out z hz).1⟩) (List.Mem.head _) (List.forall_mem_cons.2 ⟨⟨List.mem_cons_of_mem _ (List.Mem.head _), fun z hz => (HN.out z hz).2 (g10, Obj.cells (arrB 32 x) 37 (0, 0)) (List.Mem.head _)⟩, fun _ h => by cases h⟩) (by omega) rfl rfl) ?_)
      rintro xs M' ⟨N2, rfl, hF2, hN2⟩ he35; intro K' hK'; go_big_quiet_op; go_big_quiet_on
      have HF2 := Lib.hid (And.intro hF2 hN2)
      clear hF2 hN2
      change lexH _ _ _ _ _ _ (N2 ++ ((g10, Obj.cells (arrB 32 nk) 37 (0, 0)) :: []))
      refine lexH_phase [6] [] ?_
      have hw36 : EnvX w _ (N2 ++ ((g10, Obj.cells (arrB 32 nk) 37 (0, 0)) :: [])) := he35.choose_spec
      have hone := @EnvC.one _ _ _ hw36
      (refine wpG_op rfl rfl rfl ?_; intro K hK; go_big_quiet_op; go_big_quiet_on)
      clear hone hw36
      refine wpG_nil ?_
      intro u38 E2'
      have EX37 := Lib.hid E2'
      clear E2'
      go_wp2
      go_roundw
      case rel =>
        refine ⟨k + 1, by omega, by go_num, N2, ?_, fun y hy => ⟨(HF2.out.2 y hy).1, fun z hz => by cases List.mem_singleton.1 hz; exact (HF2.out.2 y hy).2 (g10, Obj.cells (arrB 32 nk) 37 (0, 0)) (List.Mem.head _)⟩, EnvX.sub EX37.out (List.forall_mem_cons.2 ⟨by rw [HNE.out]; exact List.mem_append_right _ (List.Mem.head _), fun y hy => List.mem_append_left _ hy⟩)⟩
        rw [HSN.out, List.flatten_append, List.flatten_cons, List.flatten_nil, List.append_nil]
        exact HF2.out.1
      case measure => simp [intOf]; omega
    · obtain rfl : k = K := by omega
      have hlen : (stepsC F x p k).flatten.length = k * 96 := by
        have hr : isRows 96 (stepsC F x p k) := fun y hy => by
          obtain ⟨j, hj, rfl⟩ := List.mem_map.1 hy
          have hjk := List.mem_range.1 hj
          have hpj := (HAI.out.2.get (i := j) (by rw [HM.out]; omega)).1
          unfold stA
          rw [Array.length_toList, Array.size_append, pair_size (hCI.out j).1 hpj, arrB_size _ _ (by rw [(hCI.out (j + 1)).1]; omega)]
        rw [hr.flat_len]
        unfold stepsC
        rw [List.length_map, List.length_range]
      have HO := Lib.hid (And.intro (hF.own (B := w.heap.size) hlen (fun y hy => ⟨(hN y hy).1, EnvX.box hE _ _ (List.mem_cons_of_mem _ hy)⟩)) (EnvX.bel hE))
      clear hF hN hE hlen
      go_wp2
      go_ret
      exact ⟨⟨_, rfl, HO.out.1⟩, HO.out.2⟩
end Go.Proofs.YtcodmedgkboohaaDoor
