/- Bytes in memory: that came in (Bytes, Parts), of one's own (OwnB); appends, conversions to strings, cells. -/
import Derived.Test.YthgjfmdbipmhoaaMem
import Derived.Test.YthgjfmdbipmhoaaProg
import Derived.WalkKit
import Derived.ProofKit
import Derived.Handy
import Derived.Maps.AppendAt
import Derived.Laws.BytesArg
import Derived.Laws.StructEq
import Derived.ChangeKeysEq
import Derived.Lib.SlBytesConst
import Derived.Deep.MidRow
import Derived.Laws.CopyOwn
import Derived.Laws.MakeOwn
import Derived.Deep.WholeRow
import Derived.Deep.Cut
import Derived.Deep.QuietTactic
import Derived.BigQuiet
import Derived.StillTailTactics
import Derived.Lib.Hide
namespace Go.Proofs.Ythgjfmdbipmhoaa
open Go.RowKit

theorem block_of_add (a : Addr) (n : Nat) : (a.add n).block = a.block := by unfold Addr.add; split <;> rfl
theorem infoB : (Try.prog.info? 5).map (fun i => (i.zero, i.size, i.bytes)) = some (some (.int .u8 0), 1, 1) := by kernel_rfl
theorem cellsB : Try.prog.cellsOf 5 = 1 := by kernel_rfl
theorem made_bytes (m : Nat) : madeCells #[.int .u8 0] m = arrB m [] := by
  apply arrB_ext
  · simp
  · exact size_madeCells _ _
  · intro i hi
    have e : i % 1 = 0 := by omega
    simp [madeCells, hi, e]
theorem make_bytes (m : Nat) (hm : m ≤ 140737488355328) (w : World) : (Instr.makeSlice 23 (.int .i64 (m : Int)) (.int .i64 (m : Int))).run Try.prog w = .ok (.slice (some ⟨w.heap.size, 0, none⟩) m m) (w.alloc (.cells (arrB m []) 5)) := by
  cases hq : Try.prog.info? 5 with
  | none => have := infoB; rw [hq] at this; cases this
  | some i =>
    have h := infoB
    rw [hq] at h
    simp only [Option.map_some, Option.some.injEq, Prod.mk.injEq] at h
    obtain ⟨h1, h2, h3⟩ := h
    have hr := run_make (P := Try.prog) w 23 5 i _ Try.underlying23 hq h1 .i64 .i64 (m : Int) (m : Int) (by omega) (by omega) (by rw [h3]; omega) (by omega)
    simp only [Int.toNat_natCast, h2, Nat.mul_one] at hr
    rw [← made_bytes]
    exact hr
/-- Bytes that are read from a slice's address; none of them: any address. -/
def Bytes (w : World) (B : Nat) (A : Option Addr) (xs : List Int) : Prop := 0 < xs.length → ∃ ad, A = some ad ∧ ad.block < B ∧ ∀ j v, (xs.map u8v)[j]? = some v → w.cell? (ad.add j) = some v
theorem Bytes.nil (w : World) (B : Nat) (A : Option Addr) : Bytes w B A [] := fun h => absurd h (by decide)
theorem Bytes.below {w w' : World} {B : Nat} {A : Option Addr} {xs : List Int} (h : Bytes w B A xs) (hb : Below B w w') : Bytes w' B A xs := by
  intro hp
  obtain ⟨ad, e, hlt, hc⟩ := h hp
  exact ⟨ad, e, hlt, fun j v hv => (hb.cell (by rw [block_of_add]; exact hlt)).trans (hc j v hv)⟩
theorem Bytes.more {w : World} {B B' : Nat} {A : Option Addr} {xs : List Int} (h : Bytes w B A xs) (hB : B ≤ B') : Bytes w B' A xs := fun hp => by
  obtain ⟨ad, e, hlt, hc⟩ := h hp
  exact ⟨ad, e, Nat.lt_of_lt_of_le hlt hB, hc⟩
theorem Bytes.up {w w' : World} {A : Option Addr} {xs : List Int} (h : Bytes w w.heap.size A xs) (hb : Below w.heap.size w w') : Bytes w' w'.heap.size A xs := (h.below hb).more hb.size
theorem Bytes.take {w : World} {B : Nat} {A : Option Addr} {xs : List Int} (h : Bytes w B A xs) (k : Nat) : Bytes w B A (xs.take k) := by
  intro hp
  obtain ⟨ad, e, hlt, hc⟩ := h (by simp at hp; omega)
  refine ⟨ad, e, hlt, fun j v hv => hc j v ?_⟩
  rw [List.map_take, List.getElem?_take] at hv
  split at hv
  · exact hv
  · cases hv
/-- a cell -/
theorem Bytes.cell {w : World} {B : Nat} {A : Option Addr} {xs : List Int} (h : Bytes w B A xs) (j : Nat) (hj : j < xs.length) : ∃ ad, A = some ad ∧ w.cell? (ad.add j) = some (.int .u8 (xs.getD j 0)) := by
  obtain ⟨ad, e, _, hc⟩ := h (by omega)
  refine ⟨ad, e, hc j _ ?_⟩
  simp [List.getD, List.getElem?_eq_getElem hj, u8v]
theorem conv_bytes (A : Option Addr) (n c B : Nat) (xs : List Int) (w : World) (hl : xs.length = n) (h : Bytes w B A xs) : (convert 23 9 (.slice A n c)).run Try.prog w = .ok (.string (strOfNums xs)) w := by
  cases A with
  | none =>
    have hn : n = 0 := by
      rcases Nat.eq_zero_or_pos n with h0 | h0
      · exact h0
      · obtain ⟨ad, e, _⟩ := h (by omega)
        cases e
    obtain rfl : xs = [] := List.eq_nil_of_length_eq_zero (by omega)
    exact run_convert_bytes_nil (P := Try.prog) w 23 5 Try.underlying23 Try.underlying5 n c 9 Try.underlying9
  | some ad =>
    have hc : (loadCells ad n).run Try.prog w = .ok (xs.map (Value.int .u8)).toArray w := by
      have := run_loadCells_list (P := Try.prog) w ad (xs.map (Value.int .u8)) (fun j v hj => by
        have hp : 0 < xs.length := by
          rcases Nat.eq_zero_or_pos xs.length with h0 | h0
          · obtain rfl := List.eq_nil_of_length_eq_zero h0
            simp at hj
          · exact h0
        obtain ⟨ad', e, _, hcell⟩ := h hp
        obtain rfl := Option.some.inj e
        exact hcell j v hj)
      simpa [hl] using this
    rw [run_convert_bytes_string w 23 9 5 _ n c Try.underlying23 Try.underlying5 Try.underlying9, run_bytesToString w _ n c xs hc, foldl_push_bytes]
    simp [strOfNums, ByteArray.empty, ByteArray.emptyWithCapacity]
    rfl
/-- strings of bytes are the same just if the bytes are -/
theorem strOf_inj {xs ys : List Int} (hx : ∀ x ∈ xs, 0 ≤ x ∧ x ≤ 255) (hy : ∀ x ∈ ys, 0 ≤ x ∧ x ≤ 255) : strOfNums xs = strOfNums ys ↔ xs = ys := by
  constructor
  · intro h
    have h1 : xs.map (fun n => UInt8.ofNat n.toNat) = ys.map (fun n => UInt8.ofNat n.toNat) := by
      have := congrArg ByteArray.data h
      simpa [strOfNums] using this
    have hl : xs.length = ys.length := by simpa using congrArg List.length h1
    apply List.ext_getElem hl
    intro i h2 h3
    have h4 := congrArg (fun l => l[i]?) h1
    simp only [List.getElem?_map, List.getElem?_eq_getElem h2, List.getElem?_eq_getElem h3, Option.map_some, Option.some.injEq] at h4
    have h5 := congrArg UInt8.toNat h4
    simp at h5
    have a := hx _ (List.getElem_mem h2)
    have b := hy _ (List.getElem_mem h3)
    omega
  · rintro rfl
    rfl
/-- how the model holds two strings of bytes against one another -/
theorem strOf_beq {xs ys : List Int} (hx : ∀ x ∈ xs, 0 ≤ x ∧ x ≤ 255) (hy : ∀ x ∈ ys, 0 ≤ x ∧ x ≤ 255) : ((strOfNums xs).toList == (strOfNums ys).toList) = decide (xs = ys) := by
  by_cases h : xs = ys
  · subst h
    simp
  · have hne : ¬ (strOfNums xs).toList = (strOfNums ys).toList := fun e => h ((strOf_inj hx hy).1 (ByteArray.ext (Array.toList_inj.1 (by simpa [ByteArray.toList_eq] using e))))
    rw [beq_eq_false_iff_ne.2 hne]
    simp [h]
/-- A slice of slices of bytes, part by part. -/
def Parts (w : World) (B : Nat) (A : Option Addr) (xss : List (List Int)) : Prop :=
  ∀ (k : Nat) (xs : List Int), xss[k]? = some xs → ∃ (b o : Nat) (a : Option Addr) (c : Nat), A = some ⟨b, o, none⟩ ∧ b < B ∧ w.cell? ⟨b, o + k, none⟩ = some (.slice a xs.length c) ∧ Bytes w B a xs ∧ ∀ x ∈ xs, 0 ≤ x ∧ x ≤ 255
theorem Parts.nil (w : World) (B : Nat) (A : Option Addr) : Parts w B A [] := fun k xs h => by simp at h
theorem Parts.below {w w' : World} {B : Nat} {A : Option Addr} {xss : List (List Int)} (h : Parts w B A xss) (hb : Below B w w') : Parts w' B A xss := by
  intro k xs hk
  obtain ⟨b, o, a, c, e, hlt, hc, hx, hr⟩ := h k xs hk
  exact ⟨b, o, a, c, e, hlt, (hb.cell (p := ⟨b, o + k, none⟩) hlt).trans hc, hx.below hb, hr⟩
theorem Parts.more {w : World} {B B' : Nat} {A : Option Addr} {xss : List (List Int)} (h : Parts w B A xss) (hB : B ≤ B') : Parts w B' A xss := by
  intro k xs hk
  obtain ⟨b, o, a, c, e, hlt, hc, hx, hr⟩ := h k xs hk
  exact ⟨b, o, a, c, e, Nat.lt_of_lt_of_le hlt hB, hc, hx.more hB, hr⟩
theorem Parts.up {w w' : World} {A : Option Addr} {xss : List (List Int)} (h : Parts w w.heap.size A xss) (hb : Below w.heap.size w w') : Parts w' w'.heap.size A xss := (h.below hb).more hb.size
theorem Parts.byte {w : World} {B : Nat} {A : Option Addr} {xss : List (List Int)} (h : Parts w B A xss) : ∀ xs ∈ xss, ∀ x ∈ xs, 0 ≤ x ∧ x ≤ 255 := by
  intro xs hx
  obtain ⟨j, hj, rfl⟩ := List.getElem_of_mem hx
  obtain ⟨_, _, _, _, _, _, _, _, hr⟩ := h j _ (List.getElem?_eq_getElem hj)
  exact hr
theorem append_bytes (base : Nat) (v : Value) (n : Nat) (l : List Value) (w : World) (hown : w.ownsRow base 5 1 v n l) (A : Option Addr) (m c B : Nat) (ys : List Int) (hl : ys.length = m) (hy : Bytes w B A ys)
    (hs : n + m ≤ 70368744177664) (hbase : base ≤ w.heap.size) :
    ∃ v' w', (Builtin.append_ #[23, 23] 23 #[v, .slice A m c]).run Try.prog w = .ok v' w' ∧ w'.ownsRow base 5 1 v' (n + m) (l ++ ys.map u8v) ∧ w.grownBy w' v.ownBlock := by
  cases hq : Try.prog.info? 5 with
  | none => have := infoB; rw [hq] at this; cases this
  | some i =>
    have h := infoB
    rw [hq] at h
    simp only [Option.map_some, Option.some.injEq, Prod.mk.injEq] at h
    obtain ⟨h1, h2, h3⟩ := h
    cases A with
    | none =>
      have hm : m = 0 := by
        rcases Nat.eq_zero_or_pos m with h0 | h0
        · exact h0
        · obtain ⟨ad, e, _⟩ := hy (by omega)
          cases e
      subst hm
      obtain rfl : ys = [] := List.eq_nil_of_length_eq_zero hl
      refine ⟨v, w, ?_, by simpa using hown, World.grownBy.refl w _⟩
      rcases hown.2 with ⟨rfl, rfl⟩ | ⟨g, cap, cur, rfl, _, _, hnc, _⟩
      · simp [Builtin.append_, run_underlying Try.underlying23, sizeOf, typeInfo, hq, Builtin.lenOf, Builtin.firstCells]
      · simp [Builtin.append_, run_underlying Try.underlying23, sizeOf, typeInfo, hq, Builtin.lenOf, Builtin.firstCells, hnc, storeCells]
    | some ad =>
      obtain ⟨v', w', hrun, hown', hg, _⟩ := run_append_own_at (P := Try.prog) w base 23 23 5 i _ 1 1 Try.underlying23 hq h1 h2 h3 rfl (by omega) v n l hown ad m c (ys.map u8v) (by simp [hl]) (fun j u hu => by
          have hp : 0 < ys.length := by
            rcases Nat.eq_zero_or_pos ys.length with h0 | h0
            · obtain rfl := List.eq_nil_of_length_eq_zero h0
              simp at hu
            · exact h0
          obtain ⟨ad', e, _, hc⟩ := hy hp
          obtain rfl := Option.some.inj e
          exact hc j u hu) (by intro u hu; obtain ⟨z, _, rfl⟩ := List.mem_map.1 hu; rfl) (by unfold maxLen; omega) (by omega) hbase
      exact ⟨v', w', hrun, hown', hg⟩
theorem wpList_append_run {P : Program} {ops : Array Oper} {rest : List Oper} {o : Oper} {a : Act} {w w' : World} {Q : Exit → Act → World → Prop} {v y v' : Value} {t : TypeId} (hgd : o.guard = none) (s x : Operand)
    (ho : o.op = .call { callee := .builtin .append, args := #[s, x], argTypes := #[t, t] }) (hty : o.type = t) (hs : a.eval s = v) (hx : a.eval x = y)
    (hrun : (Builtin.append_ #[t, t] t #[v, y]).run P w = .ok v' w') (h : wpList P ops Q rest (a.put o.dst v') w') : wpList P ops Q (o :: rest) a w :=
  wpList_plain hgd fun _ hK => by
    unfold Oper.wp execOp
    simp only [ho, hty, resolve, invoke, builtin, Sem.run_bind, Sem.run_pure, Result.andThen_ok, List.map_toArray, List.map_cons, List.map_nil, hs, hx, hrun]
    exact hK _ _ h
/-- What only grew above a mark is below it as it was. -/
theorem below_of_grown {B : Nat} {a b : World} {row : Option Nat} (h : a.grownBy b row) (hr : ∀ g, row = some g → B ≤ g) (hB : B ≤ a.heap.size) : Below B a b :=
  ⟨h.os, h.tape, h.output, h.size, fun i hi => h.block i (by omega) (fun e => by have := hr i e.symm; omega)⟩
/-- Bytes of one's own, from B on: nothing, or a row from its start on, with room or without. -/
def OwnB (w : World) (B : Nat) (v : Value) (xs : List Int) : Prop := w.ownsRow B 5 1 v xs.length (xs.map u8v)
theorem OwnB.nil (w : World) (B : Nat) : OwnB w B (.slice none 0 0) [] := World.ownsRow_nil _ _ _ _
theorem OwnB.form {w : World} {B : Nat} {v : Value} {xs : List Int} (h : OwnB w B v xs) : ∃ A c, v = .slice A xs.length c := by
  rcases h.2 with ⟨rfl, e⟩ | ⟨g, cap, cur, rfl, _⟩
  · exact ⟨none, 0, by rw [e]⟩
  · exact ⟨_, cap, rfl⟩
theorem OwnB.bytes {w : World} {B n c : Nat} {A : Option Addr} {xs : List Int} (h : OwnB w B (.slice A n c) xs) : xs.length = n ∧ Bytes w w.heap.size A xs := by
  rcases h.2 with ⟨e, e2⟩ | ⟨g, cap, cur, e, _, hg, _⟩
  · injection e with e1 e3 e4
    refine ⟨by omega, fun hp => by omega⟩
  · injection e with e1 e2 e3
    subst e1
    refine ⟨e2.symm, fun hp => ⟨_, rfl, ?_, fun j v hv => h.cells (g := g) rfl j v hv⟩⟩
    exact Row.lt (t := 5) hg
theorem OwnB.below {w w' : World} {B : Nat} {v : Value} {xs : List Int} (h : OwnB w B v xs) (hb : Below w.heap.size w w') : OwnB w' B v xs := by
  refine ⟨h.1, ?_⟩
  rcases h.2 with h0 | ⟨g, cap, cur, e, hg, hh, h1⟩
  · exact .inl h0
  · exact .inr ⟨g, cap, cur, e, hg, (hb.block g (Row.lt (t := 5) hh)).trans hh, h1⟩
theorem OwnB.less {w : World} {B B' : Nat} {v : Value} {xs : List Int} (h : OwnB w B v xs) (hB : B' ≤ B) : OwnB w B' v xs := by
  refine ⟨h.1, ?_⟩
  rcases h.2 with h0 | ⟨g, cap, cur, e, hg, hh, h1⟩
  · exact .inl h0
  · exact .inr ⟨g, cap, cur, e, by omega, hh, h1⟩
/-- an append to one's own -/
theorem OwnB.append {w : World} {B : Nat} {v : Value} {xs : List Int} (h : OwnB w B v xs) {A : Option Addr} {m c B' : Nat} {ys : List Int} (hl : ys.length = m) (hy : Bytes w B' A ys) (hs : xs.length + m ≤ 70368744177664) (hB : B ≤ w.heap.size) :
    ∃ v' w', (Builtin.append_ #[23, 23] 23 #[v, .slice A m c]).run Try.prog w = .ok v' w' ∧ OwnB w' B v' (xs ++ ys) ∧ Below B w w' := by
  obtain ⟨v', w', h1, h2, h3⟩ := append_bytes B v xs.length (xs.map u8v) w h A m c B' ys hl hy hs hB
  refine ⟨v', w', h1, ?_, below_of_grown h3 (fun g hg => (h.lt g hg).1) hB⟩
  unfold OwnB
  rw [List.length_append, hl, List.map_append]
  exact h2
end Go.Proofs.Ythgjfmdbipmhoaa
