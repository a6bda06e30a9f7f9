/- Part of a proof. -/
import Derived.Test.YtbjojpgedcikiaaDoorCd
namespace Go.Proofs.YtbjojpgedcikiaaDoor
set_option maxRecDepth 8000
open Go.RowKit

theorem row_set {cs : List Value} {L : List (List Value)} {z n k : Nat} {v : List Value} (hL : isRows z L) (hn : L.length = n) (hc : cs.take (n * z) = L.flatten) (hk : k < n) (hv : v.length = z) :
    (cs.take (0 + k * z) ++ v ++ cs.drop (0 + k * z + z)).take (n * z) = (L.set k v).flatten := by
  have h1 : k * z + z ≤ n * z := by
    have := Nat.mul_le_mul_right z (show k + 1 ≤ n from hk)
    rwa [Nat.succ_mul] at this
  have hF : L.flatten.length = n * z := by rw [hL.flat_len, hn]
  obtain ⟨R, hR⟩ : ∃ R, cs = L.flatten ++ R := ⟨cs.drop (n * z), by rw [← hc, List.take_append_drop]⟩
  have hlt : k < L.length := by omega
  have es : (L.set k v).flatten = L.flatten.take (k * z) ++ v ++ L.flatten.drop (k * z + z) := by
    rw [List.set_eq_take_append_cons_drop, if_pos hlt, List.flatten_append, List.flatten_cons, hL.flat_take, hL.flat_drop, Nat.succ_mul, List.append_assoc]
  have hta : (L.flatten ++ R).take (k * z) = L.flatten.take (k * z) := List.take_append_of_le_length (by omega)
  have hda : (L.flatten ++ R).drop (k * z + z) = L.flatten.drop (k * z + z) ++ R := List.drop_append_of_le_length (by omega)
  rw [es, Nat.zero_add, hR, hta, hda, ← List.append_assoc]
  refine List.take_left' ?_
  rw [List.length_append, List.length_append, List.length_take, List.length_drop, hF, hv]
  omega
theorem row_put_len {cs : List Value} {z n k c : Nat} {v : List Value} (hk : k < n) (hn : n ≤ c) (hv : v.length = z) (hc : cs.length = c * z) : (cs.take (0 + k * z) ++ v ++ cs.drop (0 + k * z + z)).length = c * z := by
  have h1 : k * z + z ≤ c * z := by
    have := Nat.mul_le_mul_right z (show k + 1 ≤ c by omega)
    rwa [Nat.succ_mul] at this
  rw [List.length_append, List.length_append, List.length_take, List.length_drop, hv, hc]
  omega
section
variable {a : Act} {dst : Option Tmp} {x y : Operand} {ty : TypeId} {pos : String} {after : Array Edge} {gd : Option (Nat × Bool)}
theorem idxSl0_op {t e : TypeId} {z : Nat} (hu : Tryd.prog.underlying t = some (.slice e)) (hz : (Tryd.prog.info? e).map (·.size) = some z) {g n c i : Nat} (hi : i < n) (u : World)
    (hx : a.eval x = .slice (some ⟨g, 0, none⟩) n c) (hy : a.eval y = .int .i64 (i : Int)) :
    (execOp a.eval ⟨dst, .indexAddr t x y, ty, pos, after, gd⟩).run Tryd.prog u = .ok (.value (.pointer (some ⟨g, 0 + i * z, none⟩))) u := by
  have h := idxSl_op (dst := dst) (ty := ty) (pos := pos) (after := after) (gd := gd) hu hz hi u hx hy
  rwa [Addr.add_mid] at h
end
theorem src_in {w u : World} {ad : Addr} {ys : List Value} (h : CellsIn w w.heap.size (some ad) ys) (hb : Below w.heap.size w u) : SrcAt u ad ys := fun j c hc => by
  have hp : 0 < ys.length := by
    rcases Nat.eq_zero_or_pos ys.length with h0 | h0
    · rw [List.eq_nil_of_length_eq_zero h0] at hc
      simp at hc
    · exact h0
  obtain ⟨ad', e, hlt, hcc⟩ := h hp
  obtain rfl := Option.some.inj e
  have hbl : (ad.add j).block = ad.block := by unfold Addr.add; split <;> rfl
  exact (hb.cell (p := ad.add j) (by rw [hbl]; exact hlt)).trans (hcc j c hc)
/-- a store of a whole element at a place of a box -/
theorem put_factsZ {ty : TypeId} {z : Nat} (hs : (Tryd.prog.info? ty).map (·.size) = some z) {v old cs : Array Value} {k : Nat} (hv : v.size = z) (h1 : v.all (·.oneCell') = true) (hk : k + z ≤ old.size) (hcs : cs.toList = old.toList.take k ++ v.toList ++ old.toList.drop (k + z)) :
    (Tryd.prog.info? ty).map (·.size) = some (Value.agg v).cells.size ∧ k + (Value.agg v).cells.size ≤ old.size ∧ (Value.agg v).cells.all (·.oneCell') = true ∧ old.toList.take k ++ (Value.agg v).cells.toList ++ old.toList.drop (k + (Value.agg v).cells.size) = cs.toList := by
  have hz : (Value.agg v).cells.size = z := hv
  refine ⟨by rw [hz]; exact hs, by rw [hz]; exact hk, h1, ?_⟩
  rw [hz, hcs]
  rfl
end Go.Proofs.YtbjojpgedcikiaaDoor

namespace Go.Proofs.YtbjojpgedcikiaaDoor
set_option maxRecDepth 8000
open Go.RowKit

theorem elIdL : ElemT 22 24 32 32 (.agg (arrB 32 [])) := ⟨Tryd.underlying22, by kernel_rfl, arrB_size _ _ (by simp), by decide, by decide, by decide⟩
theorem ids_rows {l : List (List Int)} (h : isIds l) : isRows 32 (l.map (·.map u8v)) := fun x hx => by
  obtain ⟨y, hy, rfl⟩ := List.mem_map.1 hx
  rw [List.length_map]
  exact (h y hy).1
theorem ids_flat (l : List (List Int)) : (l.map (·.map u8v)).flatten = l.flatten.map u8v := by rw [List.map_flatten]
theorem u8_ones {xs : List Int} : ∀ u ∈ xs.map u8v, u.oneCell' = true := fun u hu => by
  obtain ⟨z, _, rfl⟩ := List.mem_map.1 hu
  rfl
/-- an id that is laid at a place of one's own ids -/
theorem setI_facts {X : List (List Int)} {id : List Int} {n k cap : Nat} {cur : Array Value} (hX : isIds X) (hl : X.length = n) (hid : id.length = 32) (hk : k < n) (h1 : n ≤ cap) (hs : cur.size = cap * 32) (hc : cur.toList.take (n * 32) = X.flatten.map u8v) :
    ∃ cs : Array Value, ((Tryd.prog.info? 24).map (·.size) = some (Value.agg (arrB 32 id)).cells.size ∧ 0 + k * 32 + (Value.agg (arrB 32 id)).cells.size ≤ cur.size ∧ (Value.agg (arrB 32 id)).cells.all (·.oneCell') = true ∧ cur.toList.take (0 + k * 32) ++ (Value.agg (arrB 32 id)).cells.toList ++ cur.toList.drop (0 + k * 32 + (Value.agg (arrB 32 id)).cells.size) = cs.toList) ∧
      cs.size = cap * 32 ∧ cs.toList.take (n * 32) = (X.set k id).flatten.map u8v := by
  have hz : (arrB 32 id).size = 32 := arrB_size _ _ (by omega)
  have hcl : cur.toList.length = cap * 32 := by rw [Array.length_toList, hs]
  have hv : (id.map u8v).length = 32 := by rw [List.length_map, hid]
  have hr := row_set (cs := cur.toList) (L := X.map (·.map u8v)) (z := 32) (n := n) (k := k) (v := id.map u8v) (ids_rows hX) (by rw [List.length_map, hl]) (by rw [ids_flat]; exact hc) hk hv
  have hln := row_put_len (cs := cur.toList) (z := 32) (n := n) (k := k) (c := cap) (v := id.map u8v) hk h1 hv hcl
  obtain ⟨cs, hcs⟩ : ∃ cs : Array Value, cs.toList = cur.toList.take (0 + k * 32) ++ id.map u8v ++ cur.toList.drop (0 + k * 32 + 32) := ⟨_, List.toList_toArray⟩
  rw [← hcs] at hr hln
  refine ⟨cs, put_factsZ aggIdT.size hz (arrB_one _ _) (by rw [hs]; omega) (by rw [hcs, arrId_map hid]), by rw [← Array.length_toList]; exact hln, ?_⟩
  rw [hr, ← ids_flat, List.map_set]
/-- at the loop's head -/
def NInv (w : World) (id : List Int) (X : List (List Int)) (v : Value) (u : World) : Prop := ∃ N, FreshI X v N ∧ freshN w N [(w.heap.size, Obj.cells (arrB 32 id) 24 (0, 0))] ∧ EnvX w u (N ++ [(w.heap.size, Obj.cells (arrB 32 id) 24 (0, 0))])
end Go.Proofs.YtbjojpgedcikiaaDoor

namespace Go.Proofs.YtbjojpgedcikiaaDoor
set_option maxRecDepth 8000
open Go.RowKit

/-- the contracts of package link -/
structure LinkC : Prop where
  next : ∀ (l : List (List Int)) (id : List Int) (lev : Int) (A : Option Addr) (n c : Nat) (w : World), l.length = n → n ≤ 1000000 → n ≤ c → c ≤ maxLen → isIds l → isId id → I64 lev → IdsIn w w.heap.size A l → Tables w →
    Calls Tryd.prog 11 #[.slice A n c, idv id, .int .i64 lev] w fun e w' => (∃ v, e = .returned v ∧ OwnI w' w.heap.size v (nextT l id lev)) ∧ Below w.heap.size w w'
  root : ∀ (l : List (List Int)) (A : Option Addr) (n c : Nat) (w : World), l.length = n → n ≤ 1000000 → n ≤ c → c ≤ maxLen → isIds l → IdsIn w w.heap.size A l → Tables w →
    Calls Tryd.prog 17 #[.slice A n c] w fun e w' => e = .returned (idv (rootT (leavesL l))) ∧ Below w.heap.size w w'
  path : ∀ (l : List (List Int)) (i : Int) (A : Option Addr) (n c : Nat) (w : World), l.length = n → n ≤ 1000000 → n ≤ c → c ≤ maxLen → I64 i → isIds l → IdsIn w w.heap.size A l → Tables w →
    Calls Tryd.prog 13 #[.slice A n c, .int .i64 i] w fun e w' => (∃ v, e = .returned (.tuple #[v, .bool (pathR (leavesL l) i).2]) ∧ OwnI w' w.heap.size v (pathR (leavesL l) i).1) ∧ Below w.heap.size w w'
  check : ∀ (root id : List Int) (n i : Int) (p : List (List Int)) (A : Option Addr) (m c : Nat) (w : World), isId root → isId id → I64 n → I64 i → p.length = m → m ≤ 1000000 → m ≤ c → c ≤ maxLen → isIds p → IdsIn w w.heap.size A p → Tables w →
    Calls Tryd.prog 19 #[idv root, .int .i64 n, .int .i64 i, idv id, .slice A m c] w fun e w' => e = .returned (.bool (checkT root n i (leafT id) p)) ∧ Below w.heap.size w w'
  leads : ∀ (l : List (List Int)) (prev id : List Int) (A : Option Addr) (n c : Nat) (w : World), l.length = n → n ≤ 1000000 → n ≤ c → c ≤ maxLen → isIds l → isId prev → isId id → IdsIn w w.heap.size A l → Tables w →
    Calls Tryd.prog 18 #[.slice A n c, idv prev, idv id] w fun e w' => e = .returned (.bool (leadsT l prev id)) ∧ Below w.heap.size w w'
end Go.Proofs.YtbjojpgedcikiaaDoor

namespace Go.Proofs.YtbjojpgedcikiaaDoor
set_option maxRecDepth 8000
open Go.RowKit

section
variable {a : Act} {dst : Option Tmp} {x y z : Operand} {ty : TypeId} {pos : String} {after : Array Edge} {gd : Option (Nat × Bool)}
theorem built1 : Tryd.prog.built 24 [(0, .int .u8 1)] = some (arrB 32 id1) := by kernel_rfl
theorem built2 : Tryd.prog.built 24 [(0, .int .u8 2)] = some (arrB 32 id2) := by kernel_rfl
theorem built0 : Tryd.prog.built 24 [] = some (arrB 32 z32) := by kernel_rfl
theorem build_op {parts : Array (Nat × Operand)} {ps : List (Nat × Value)} {r : List Int} (u : World) (h : Tryd.prog.built 24 ps = some (arrB 32 r)) (hp : (parts.toList.map fun x => (x.1, a.eval x.2)) = ps) :
    (execOp a.eval ⟨dst, .build 24 parts, ty, pos, after, gd⟩).run Tryd.prog u = .ok (.value (idv r)) u := by
  unfold execOp
  simp only [Sem.run_bind, run_build u 24 _ (arrB 32 r) (by rw [Array.toList_map]; exact (congrArg _ hp).trans h), Result.andThen_ok]
  rfl
theorem run_build3 (p q r : List Int) (hp : p.length = 32) (hq : q.length = 32) (hr : r.length = 32) (u : World) : (Instr.buildSlice 22 3 #[(0, .agg (arrB 32 p)), (1, .agg (arrB 32 q)), (2, .agg (arrB 32 r))]).run Tryd.prog u = .ok (.slice (some ⟨u.heap.size, 0, none⟩) 3 3) (u.alloc (.cells ([p, q, r].flatten.map u8v).toArray 24)) := by
  cases hq' : Tryd.prog.info? 24 with
  | none => have := infoIz; rw [hq'] at this; cases this
  | some i =>
    have hi := infoIz
    rw [hq'] at hi
    simp only [Option.map_some, Option.some.injEq, Prod.mk.injEq] at hi
    obtain ⟨h1, h2, h3⟩ := hi
    refine run_buildSlice u 22 24 3 _ _ i (.agg (arrB 32 [])) Tryd.underlying22 hq' h1 (by omega) (by omega) ?_
    rw [h2]
    have hf := Great.fill_whole (s := 32) (by decide) [.agg (arrB 32 p), .agg (arrB 32 q), .agg (arrB 32 r)] ((Array.range (3 * 32)).map ((Value.agg (arrB 32 [])).cells[· % (Value.agg (arrB 32 [])).cells.size]!)) (by
      intro v hv
      simp only [List.mem_cons, List.not_mem_nil, or_false] at hv
      rcases hv with rfl | rfl | rfl
      · exact arrB_size _ _ (by omega)
      · exact arrB_size _ _ (by omega)
      · exact arrB_size _ _ (by omega)) (by simp)
    rw [arr_id hp, arr_id hq, arr_id hr] at hf ⊢
    simpa [Value.cells] using hf
theorem FAt_build3 {p q r : List Int} (hp : p.length = 32) (hq : q.length = 32) (hr : r.length = 32) (hx : a.eval x = idv p) (hy : a.eval y = idv q) (hz : a.eval z = idv r) (u : World) :
    FAt Tryd.prog ⟨dst, .buildSlice 22 3 #[(0, x), (1, y), (2, z)], ty, pos, after, gd⟩ a (fun v N => ∃ g, v = .slice (some ⟨g, 0, none⟩) 3 3 ∧ N = [(g, Obj.cells ([p, q, r].flatten.map u8v).toArray 24 (0, 0))]) u := by
  unfold FAt execOp
  unfold idv at hx hy hz
  simp only [List.map_toArray, List.map_cons, List.map_nil, hx, hy, hz, Sem.run_bind, Sem.run_pure, run_build3 p q r hp hq hr u, Result.andThen_ok]
  refine ⟨(Below.refl _ _).alloc (Nat.le_refl _) _, _, ⟨_, rfl, rfl⟩, fun y hy => ?_⟩
  cases List.mem_singleton.1 hy
  exact ⟨Nat.le_refl _, heap_alloc_new u _⟩
theorem fresh3 {p q r : List Int} (h : isIds [p, q, r]) (g : Nat) : FreshI [p, q, r] (.slice (some ⟨g, 0, none⟩) 3 3) [(g, Obj.cells ([p, q, r].flatten.map u8v).toArray 24 (0, 0))] :=
  .inl ⟨g, 3, _, rfl, rfl, Nat.le_refl _, by decide, by simp [(h p (by simp)).1, (h q (by simp)).1, (h r (by simp)).1], by
    rw [List.take_of_length_le]
    have := h.flat_len
    simp only [List.length_map]
    omega⟩
end
end Go.Proofs.YtbjojpgedcikiaaDoor

namespace Go.Proofs.YtbjojpgedcikiaaDoor
set_option maxRecDepth 8000
open Go.RowKit

section
variable {P : Program} {ops : Array Oper} {md : Region.Mode} {w0 : World} {Q : Act → Boxes → Prop} {f i : Nat} {listed : Array Bool} {a : Act} {M : Boxes}
theorem anyH_twoFreshG {j : Nat} {di dj : Option Tmp} {opi opj : Op} {ti tj : TypeId} {pi pj : String} {afi afj : Array Edge} {gi gj : Option (Nat × Bool)} (hQ : ∀ a (M M' : Boxes), (∀ x, x ∈ M ↔ x ∈ M') → Q a M → Q a M')
    (hr : Region.ready md ops listed = [i, j]) (hri : Region.ready md ops (listed.setIfInBounds i true) = [j]) (hrj : Region.ready md ops (listed.setIfInBounds j true) = [i])
    (hi : ops[i]? = some ⟨di, opi, ti, pi, afi, gi⟩) (hj : ops[j]? = some ⟨dj, opj, tj, pj, afj, gj⟩) (hij : i ≠ j)
    (hap : (Oper.apart ops ⟨di, opi, ti, pi, afi, gi⟩ ⟨dj, opj, tj, pj, afj, gj⟩ && Region.noSelect ops) = true)
    (hwi : Region.wanted ⟨di, opi, ti, pi, afi, gi⟩ (yielded ops a.tmps) = true) (hwj : Region.wanted ⟨dj, opj, tj, pj, afj, gj⟩ (yielded ops a.tmps) = true)
    (Ri Rj : Value → Boxes → Prop) (Mi Mj : Boxes) (hMi : ∀ x ∈ Mi, x ∈ M) (hMj : ∀ x ∈ Mj, x ∈ M) (hvi : ∀ u, EnvX w0 u Mi → FAt P ⟨di, opi, ti, pi, afi, gi⟩ a Ri u) (hvj : ∀ u, EnvX w0 u Mj → FAt P ⟨dj, opj, tj, pj, afj, gj⟩ a Rj u)
    (h : ∀ x Nx y Ny, Ri x Nx → Rj y Ny → freshN w0 Nx M → freshN w0 Ny (Nx ++ M) → (∃ u, EnvX w0 u (Ny ++ (Nx ++ M))) →
      ∀ K1 : Act → Prop, (∀ a1, (∀ K2 : Act → Prop, (∀ a2, anyH P md ops w0 Q f ((listed.setIfInBounds i true).setIfInBounds j true) a2 (Ny ++ (Nx ++ M)) → K2 a2) → Oper.quiet P ⟨dj, .move (.const y), tj, pj, afj, none⟩ a1 (fun _ => True) K2) → K1 a1) →
        Oper.quiet P ⟨di, .move (.const x), ti, pi, afi, none⟩ a (fun _ => True) K1) :
    anyH P md ops w0 Q (f + 2) listed a M := by
  simp only [Bool.and_eq_true] at hap
  obtain ⟨q1, q2, q3⟩ := Oper.apart_spec hap.1
  have hsel := Region.noSelect_spec hap.2
  have H : ∀ x Nx y Ny, Ri x Nx → Rj y Ny → freshN w0 Nx M → freshN w0 Ny (Nx ++ M) → (∃ u, EnvX w0 u (Ny ++ (Nx ++ M))) →
      anyH P md ops w0 Q f ((listed.setIfInBounds i true).setIfInBounds j true) ((a.put di x).put dj y) (Ny ++ (Nx ++ M)) := fun x Nx y Ny a1 a2 a3 a4 a5 =>
    put_told w0 (put_told (K := fun a1 => ∀ K2 : Act → Prop, (∀ a2, anyH P md ops w0 Q f ((listed.setIfInBounds i true).setIfInBounds j true) a2 (Ny ++ (Nx ++ M)) → K2 a2) → Oper.quiet P ⟨dj, .move (.const y), tj, pj, afj, none⟩ a1 (fun _ => True) K2) w0 (h x Nx y Ny a1 a2 a3 a4 a5))
  refine anyH_two hr ?_ ?_
  · unfold hOp
    simp only [hi, hwi, if_true]
    refine .inr (.inl ⟨Ri, Mi, hMi, hvi, fun x Nx hx hfx _ => ?_⟩)
    refine anyH_one hri ?_
    unfold hOp
    simp only [hj]
    rw [wanted_put _ a di x q1]
    simp only [hwj, if_true]
    refine .inr (.inl ⟨Rj, Mj, fun z hz => List.mem_append_right _ (hMj z hz), fun u hu => ?_, fun y Ny hy hfy hE => H x Nx y Ny hx hy hfx hfy hE⟩)
    have h1 := hvj u hu
    unfold FAt at *
    rw [execOp_put (ops := ops) _ (fun cs b => hsel j _ cs b hj) a di x q1]
    exact h1
  · unfold hOp
    simp only [hj, hwj, if_true]
    refine .inr (.inl ⟨Rj, Mj, hMj, hvj, fun y Ny hy hfy _ => ?_⟩)
    refine anyH_one hrj ?_
    unfold hOp
    simp only [hi]
    rw [wanted_put _ a dj y q3]
    simp only [hwi, if_true]
    refine .inr (.inl ⟨Ri, Mi, fun z hz => List.mem_append_right _ (hMi z hz), fun u hu => ?_, fun x Nx hx hfx hE => ?_⟩)
    · have h1 := hvi u hu
      unfold FAt at *
      rw [execOp_put (ops := ops) _ (fun cs b => hsel i _ cs b hi) a dj y q3]
      exact h1
    · have hp : ∀ z, z ∈ Ny ++ (Nx ++ M) ↔ z ∈ Nx ++ (Ny ++ M) := fun z => by
        simp only [List.mem_append]
        exact or_left_comm
      have h1 := H x Nx y Ny hx hy (fun z hz => ⟨(hfx z hz).1, fun t ht => (hfx z hz).2 t (List.mem_append_right _ ht)⟩)
        (fun z hz => ⟨(hfy z hz).1, fun t ht => by
          rcases List.mem_append.1 ht with e | e
          · exact Ne.symm ((hfx t e).2 z (List.mem_append_left _ hz))
          · exact (hfy z hz).2 t e⟩) (hE.imp fun u hu => hu.sub (fun z hz => (hp z).1 hz))
      rw [Act.put_comm a _ _ q2, Array.setIfInBounds_comm _ _ hij] at h1
      exact anyH_perm hQ _ _ _ _ _ hp h1
end
end Go.Proofs.YtbjojpgedcikiaaDoor
