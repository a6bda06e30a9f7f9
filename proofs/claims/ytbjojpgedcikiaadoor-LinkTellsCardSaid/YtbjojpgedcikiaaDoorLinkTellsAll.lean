/-
  PROVED: the law stepladderlaw07.LinkTells answers true for every input, and leaves its arguments as they were.
  Conditions: the two package-level tables of package sha hold at the call what their initialisers lay; the card ties that to the text of the program (a pruned copy of the project: the packages that the roots of this seat load).
-/
import Derived.Test.YtbjojpgedcikiaaDoorCl
import Derived.WalkKit
import Derived.ProofKit
import Derived.Handy
import Derived.Deep.MidRow
import Derived.Laws.CopyOwn
import Derived.Laws.MakeOwn
import Derived.Deep.WholeRow
import Derived.Deep.Cut
import Derived.Deep.QuietTactic
import Derived.BigQuiet
import Derived.StillTailTactics
import Derived.Lib.Hide
import Derived.Laws.BitsAllLaws
import Derived.Deep.RegionHeld
import Derived.Maps.AppendAt
import Derived.Laws.BytesArg
import Derived.OpenShut
import Derived.ChangeKeysEq
import Derived.Lib.SlBytesConst
import Derived.Deep.RegionHeld3
import Derived.Deep.RegionLaw
import Derived.Laws.OwnMore
namespace Go.Proofs.YtbjojpgedcikiaaDoor
set_option maxRecDepth 8000
open Go.RowKit





theorem Bytes.of_row {w : World} {g : Nat} {t : TypeId} {xs : List Int} {fr : Nat × Nat} (h : w.heap[g]? = some (.cells (xs.map u8v).toArray t fr)) : Bytes w w.heap.size (some ⟨g, 0, none⟩) xs := by
  intro _
  refine ⟨_, rfl, ?_, fun j v hv => ?_⟩
  · rcases Nat.lt_or_ge g w.heap.size with hl | hl
    · exact hl
    · rw [Array.getElem?_eq_none hl] at h
      cases h
  · rw [Addr.add_mid, Nat.zero_add, cell_of_row w g j _ t fr h]
    simpa using hv
end Go.Proofs.YtbjojpgedcikiaaDoor

namespace Go.Proofs.YtbjojpgedcikiaaDoor
set_option maxRecDepth 8000
open Go
theorem InW.bits (op : BinOp) (x y : Int) : InW (bits op .u32 x y) := by
  unfold Go.bits
  rw [IntKind.wrap_u32]
  exact InW.mod _
theorem InW.nat {x : Int} (h : InW x) : ∃ a : Nat, x = (a : Int) ∧ a < 4294967296 := ⟨x.toNat, by have := h.1; omega, by have := h.2; omega⟩
theorem rot_eq (x : Int) (n : Nat) (h1 : 1 ≤ n) (h2 : n ≤ 31) (hx : InW x) : (x / 2 ^ n + x * 2 ^ (32 - n)) % 4294967296 = rotI x n := by
  obtain ⟨a, rfl, ha⟩ := hx.nat
  unfold rotI
  have e1 : ((n : Int)).toNat = n := by omega
  have e2 : (32 - (n : Int)).toNat = 32 - n := by omega
  rw [e1, e2]
  have hp : 2 ^ (32 - n) * 2 ^ n = 4294967296 := by rw [← Nat.pow_add, show 32 - n + n = 32 by omega]
  have hpos : 0 < 2 ^ n := Nat.two_pow_pos n
  have hpos' : 0 < 2 ^ (32 - n) := Nat.two_pow_pos _
  have hlt : a / 2 ^ n < 2 ^ (32 - n) := by
    rw [Nat.div_lt_iff_lt_mul hpos, hp]
    exact ha
  have hmod : a * 2 ^ (32 - n) % 4294967296 = (a % 2 ^ n) <<< (32 - n) := by
    rw [Nat.shiftLeft_eq, ← hp, Nat.mul_comm a, Nat.mul_mod_mul_left, Nat.mul_comm]
  have hbig : (a % 2 ^ n) <<< (32 - n) + a / 2 ^ n < 4294967296 := by
    rw [Nat.shiftLeft_eq]
    have hm : a % 2 ^ n + 1 ≤ 2 ^ n := Nat.mod_lt _ hpos
    calc a % 2 ^ n * 2 ^ (32 - n) + a / 2 ^ n < a % 2 ^ n * 2 ^ (32 - n) + 2 ^ (32 - n) := by omega
      _ = (a % 2 ^ n + 1) * 2 ^ (32 - n) := by rw [Nat.add_mul, Nat.one_mul]
      _ ≤ 2 ^ n * 2 ^ (32 - n) := Nat.mul_le_mul_right _ hm
      _ = 4294967296 := by rw [Nat.mul_comm, hp]
  have c1 : ((a : Int) / 2 ^ n) = ((a / 2 ^ n : Nat) : Int) := by simp
  have c2 : ((a : Int) * 2 ^ (32 - n)) = ((a * 2 ^ (32 - n) : Nat) : Int) := by simp
  have c3 : ((a * 2 ^ (32 - n) : Nat) : Int) % 4294967296 = (((a % 2 ^ n) <<< (32 - n) : Nat) : Int) := by
    rw [← hmod]; simp
  rw [c1, c2, c3, u32_or_nat _ _ (by omega) (by omega), Nat.or_comm, ← Nat.shiftLeft_add_eq_or_of_lt hlt]
  clear c1 c2 c3 hlt hpos hpos' hp e1 e2
  generalize a * 2 ^ (32 - n) = M at *
  generalize (a % 2 ^ n) <<< (32 - n) = R at *
  generalize a / 2 ^ n = Q at *
  omega
theorem not_eq (x : Int) (hx : InW x) : bits BinOp.xor IntKind.u32 IntKind.u32.max x = 4294967295 - x := by
  obtain ⟨a, rfl, ha⟩ := hx.nat
  have hm : IntKind.u32.max = ((4294967295 : Nat) : Int) := by decide
  rw [hm, u32_xor_nat _ _ (by omega) ha]
  have h : 4294967295 ^^^ a = 4294967295 - a := by
    have h2 : (4294967295 : Nat) = 2 ^ 32 - 1 := by decide
    apply Nat.eq_of_testBit_eq
    intro i
    rw [Nat.testBit_xor, h2, Nat.testBit_two_pow_sub_one, show 2 ^ 32 - 1 - a = 2 ^ 32 - (a + 1) by omega, Nat.testBit_two_pow_sub_succ (by omega)]
    by_cases hi : i < 32
    · simp [hi]
    · have : a.testBit i = false := Nat.testBit_lt_two_pow (Nat.lt_of_lt_of_le ha (by rw [show (4294967296 : Nat) = 2 ^ 32 by decide]; exact Nat.pow_le_pow_right (by omega) (by omega)))
      simp [hi, this]
  rw [h]
  omega
theorem ch_eq (e f g : Int) (he : InW e) : bits BinOp.xor IntKind.u32 (bits BinOp.and IntKind.u32 e f) (bits BinOp.and IntKind.u32 (4294967295 - e) g) = chI e f g := by
  unfold chI
  rw [not_eq e he]
theorem maj_eq (a b c : Int) (ha : InW a) (hb : InW b) (hc : InW c) : bits BinOp.or IntKind.u32 (bits BinOp.or IntKind.u32 (bits BinOp.and IntKind.u32 a b) (bits BinOp.and IntKind.u32 a c)) (bits BinOp.and IntKind.u32 b c) = majI a b c := by
  obtain ⟨x, rfl, hx⟩ := ha.nat
  obtain ⟨y, rfl, hy⟩ := hb.nat
  obtain ⟨z, rfl, hz⟩ := hc.nat
  have l1 : x &&& y < 4294967296 := Nat.lt_of_le_of_lt Nat.and_le_left hx
  have l2 : x &&& z < 4294967296 := Nat.lt_of_le_of_lt Nat.and_le_left hx
  have l3 : y &&& z < 4294967296 := Nat.lt_of_le_of_lt Nat.and_le_left hy
  have l4 : (x &&& y) ||| (x &&& z) < 2 ^ 32 := Nat.or_lt_two_pow l1 l2
  have l5 : (x &&& y) ^^^ (x &&& z) < 2 ^ 32 := Nat.xor_lt_two_pow l1 l2
  unfold majI
  rw [u32_and_nat x y hx hy, u32_and_nat x z hx hz, u32_and_nat y z hy hz, u32_or_nat _ _ l1 l2, u32_or_nat _ _ l4 l3, u32_xor_nat _ _ l1 l2, u32_xor_nat _ _ l5 l3]
  congr 1
  apply Nat.eq_of_testBit_eq
  intro i
  simp only [Nat.testBit_or, Nat.testBit_and, Nat.testBit_xor]
  cases x.testBit i <;> cases y.testBit i <;> cases z.testBit i <;> rfl
theorem mul_two (a b : Nat) : (a * 256 + b) * 65536 = a * 16777216 + b * 65536 := by omega
theorem mul_three (a b c : Nat) : (a * 65536 + b * 256 + c) * 256 = a * 16777216 + b * 65536 + c * 256 := by omega
theorem word_eq (a b c d : Int) (ha : 0 ≤ a ∧ a ≤ 255) (hb : 0 ≤ b ∧ b ≤ 255) (hc : 0 ≤ c ∧ c ≤ 255) (hd : 0 ≤ d ∧ d ≤ 255) : 16777216 * a + 65536 * b + 256 * c + d = wordI a b c d := by
  obtain ⟨a, rfl⟩ := Int.eq_ofNat_of_zero_le ha.1
  obtain ⟨b, rfl⟩ := Int.eq_ofNat_of_zero_le hb.1
  obtain ⟨c, rfl⟩ := Int.eq_ofNat_of_zero_le hc.1
  obtain ⟨d, rfl⟩ := Int.eq_ofNat_of_zero_le hd.1
  have ha' : a ≤ 255 := by omega
  have hb' : b ≤ 255 := by omega
  have hc' : c ≤ 255 := by omega
  have hd' : d ≤ 255 := by omega
  unfold wordI
  have c1 : ((a : Int) * 16777216) = ((a * 16777216 : Nat) : Int) := by simp
  have c2 : ((b : Int) * 65536) = ((b * 65536 : Nat) : Int) := by simp
  have c3 : ((c : Int) * 256) = ((c * 256 : Nat) : Int) := by simp
  have o1 : a * 16777216 ||| b * 65536 = a * 16777216 + b * 65536 := by
    have h := Nat.shiftLeft_add_eq_or_of_lt (a := a) (b := b * 65536) (i := 24) (by omega)
    rw [Nat.shiftLeft_eq] at h
    exact h.symm
  have o2 : a * 16777216 + b * 65536 ||| c * 256 = a * 16777216 + b * 65536 + c * 256 := by
    have h := Nat.shiftLeft_add_eq_or_of_lt (a := a * 256 + b) (b := c * 256) (i := 16) (by omega)
    rw [Nat.shiftLeft_eq] at h
    rw [show (2 : Nat) ^ 16 = 65536 from rfl, mul_two] at h
    exact h.symm
  have o3 : a * 16777216 + b * 65536 + c * 256 ||| d = a * 16777216 + b * 65536 + c * 256 + d := by
    have h := Nat.shiftLeft_add_eq_or_of_lt (a := a * 65536 + b * 256 + c) (b := d) (i := 8) (by omega)
    rw [Nat.shiftLeft_eq] at h
    rw [show (2 : Nat) ^ 8 = 256 from rfl, mul_three] at h
    exact h.symm
  rw [c1, c2, c3, u32_or_nat _ _ (by omega) (by omega), o1, u32_or_nat _ _ (by omega) (by omega), o2, u32_or_nat _ _ (by omega) (by omega), o3]
  omega
theorem InW.word (a b c d : Int) : InW (wordI a b c d) := InW.bits _ _ _
end Go.Proofs.YtbjojpgedcikiaaDoor

namespace Go.Proofs.YtbjojpgedcikiaaDoor
set_option maxRecDepth 8000
open Go.RowKit













theorem pow_nat (k : Nat) : (2 : Int) * ((2 : Int) ^ k % 4294967296) % 4294967296 = (2 : Int) ^ (k + 1) % 4294967296 := by
  rw [Int.pow_succ]
  generalize (2 : Int) ^ k = y
  omega
set_option maxRecDepth 20000 in
set_option maxHeartbeats 1000000 in
theorem pow_any (n : Nat) (w : World) (h : n ≤ 32) : Calls Tryd.prog 73 #[.int .i64 (n : Int)] w fun e w' => e = .returned (.int .u32 ((2 : Int) ^ n % 4294967296)) ∧ w' = w := by
  go_enter Tryd.func73, Tryd.ntmps73
  go_wp2
  go_loop [3, 4] (fun t i => ∃ k : Nat, k ≤ n ∧ i = .int .i64 k ∧ t = .int .u32 ((2 : Int) ^ k % 4294967296)) (fun _ i => n - (intOf i).toNat)
  case atStart => exact ⟨0, by omega, rfl, by simp⟩
  case round =>
    obtain ⟨k, hk, rfl, rfl⟩ := hrel
    have hp := Lib.hid (pow_nat k)
    have r := InW.mod ((2 : Int) ^ k)
    generalize hY : (2 : Int) ^ k % 4294967296 = y at *
    have HY := Lib.hid hY
    clear hY
    obtain ⟨r0, r1⟩ := r
    by_cases hlt : k < n
    · go_wp2
      go_round
      case rel => exact ⟨k + 1, by omega, by go_num, by rw [← hp.out]⟩
      case measure => simp [intOf]; omega
    · obtain rfl : k = n := by omega
      go_wp2
      go_ret
      exact ⟨by rw [HY.out]; rfl, rfl⟩
set_option maxRecDepth 20000 in
set_option maxHeartbeats 1000000 in
theorem rturn_any (x : Int) (n : Nat) (w : World) (h1 : 1 ≤ n) (h2 : n ≤ 31) (hx : InW x) :
    Calls Tryd.prog 71 #[.int .u32 x, .int .i64 (n : Int)] w fun e w' => e = .returned (.int .u32 (rotI x n)) ∧ ∃ q, w' = w.drewN q := by
  have hr := rot_eq x n h1 h2 hx
  obtain ⟨x0, x1⟩ := hx
  have q1 : (2 : Int) ^ n % 4294967296 = 2 ^ n := by
    have h : (2 : Nat) ^ n < 2 ^ 32 := Nat.pow_lt_pow_right (by omega) (by omega)
    have h' : ((2 ^ n : Nat) : Int) < 4294967296 := by have e : (2 : Nat) ^ 32 = 4294967296 := rfl; omega
    have e : ((2 ^ n : Nat) : Int) = (2 : Int) ^ n := by simp
    rw [← e]
    exact Int.emod_eq_of_lt (Int.natCast_nonneg _) h'
  have q2 : (2 : Int) ^ (32 - n) % 4294967296 = 2 ^ (32 - n) := by
    have h : (2 : Nat) ^ (32 - n) < 2 ^ 32 := Nat.pow_lt_pow_right (by omega) (by omega)
    have h' : ((2 ^ (32 - n) : Nat) : Int) < 4294967296 := by have e : (2 : Nat) ^ 32 = 4294967296 := rfl; omega
    have e : ((2 ^ (32 - n) : Nat) : Int) = (2 : Int) ^ (32 - n) := by simp
    rw [← e]
    exact Int.emod_eq_of_lt (Int.natCast_nonneg _) h'
  have p0 : 0 < (2 : Int) ^ n := by
    have h : 0 < (2 : Nat) ^ n := Nat.two_pow_pos n
    have e : ((2 ^ n : Nat) : Int) = (2 : Int) ^ n := by simp
    omega
  have c1 := fun u : World => pow_any n u (by omega)
  have c2 := fun u : World => pow_any (32 - n) u (by omega)
  rw [q1] at c1
  rw [q2] at c2
  generalize (2 : Int) ^ n = p1 at *
  generalize (2 : Int) ^ (32 - n) = p2 at *
  have C1 := Lib.hid c1
  have C2 := Lib.hid c2
  have HR := Lib.hid hr
  have r1 : InW (x / p1) := ⟨Int.ediv_nonneg x0 (by omega), Int.lt_of_le_of_lt (Int.ediv_le_self p1 x0) x1⟩
  obtain ⟨r10, r11⟩ := r1
  clear c1 c2 hr q1 q2
  have s1 : IntKind.i64.wrap (32 - (n : Int)) = ((32 - n : Nat) : Int) := by rw [IntWalk.i64_in _ (by omega)]; omega
  have s2 : (p1 == 0) = false := by simp; omega
  have s3 : ¬ p1 = 0 := by omega
  have s4 : x.tdiv p1 = x / p1 := Int.tdiv_eq_ediv_of_nonneg x0
  have s5 : IntKind.u32.wrap (x / p1) = x / p1 := by rw [IntKind.wrap_u32]; omega
  go_enter Tryd.func71, Tryd.ntmps71
  go_wp2_with fail
  go_quiet ((go_at_call 73; first | (with_reducible exact Calls.quiet_of_same (C1.out _)) | (with_reducible exact Calls.quiet_of_same (C2.out _))))
  have e : (x / p1 + x * p2 % 4294967296) % 4294967296 = rotI x n := by
    rw [← HR.out]
    generalize x / p1 = A
    generalize x * p2 = B
    omega
  have E := Lib.hid e
  clear e s1 s2 s3 s4 s5
  go_wp2
  go_ret
  exact ⟨by show Ending.returned (.int .u32 ((x / p1 + x * p2 % 4294967296) % 4294967296)) = _; rw [E.out], nq, rfl⟩
end Go.Proofs.YtbjojpgedcikiaaDoor

namespace Go.Proofs.YtbjojpgedcikiaaDoor
set_option maxRecDepth 8000
open Go.RowKit














theorem firstL_in (xs : List Int) : ∀ k, ∀ x ∈ firstL xs k, InW x
  | 0, x, hx => by simp [firstL] at hx
  | k + 1, x, hx => by
    simp only [firstL, List.mem_append, List.mem_singleton] at hx
    rcases hx with hx | rfl
    · exact firstL_in xs k x hx
    · exact InW.word _ _ _ _
theorem moreL_in (xs : List Int) : ∀ k, ∀ x ∈ moreL xs k, InW x
  | 0, x, hx => firstL_in xs 16 x hx
  | k + 1, x, hx => by
    simp only [moreL, List.mem_append, List.mem_singleton] at hx
    rcases hx with hx | rfl
    · exact moreL_in xs k x hx
    · exact InW.mod _
theorem info39 : (Tryd.prog.info? 50).map (fun i => (i.zero, i.size, i.bytes)) = some (some (.int .u32 0), 1, 4) := by kernel_rfl
theorem append_words (base : Nat) (v : Value) (n : Nat) (l : List Value) (w : World) (hown : w.ownsRow base 50 1 v n l) (ad : Addr) (m c : Nat) (ys : List Int) (hl : ys.length = m)
    (hy : ∀ j u, (ys.map u32v)[j]? = some u → w.cell? (ad.add j) = some u) (hs : n + m ≤ 1000) (hbase : base ≤ w.heap.size) :
    ∃ v' w', (Builtin.append_ #[86, 86] 86 #[v, .slice (some ad) m c]).run Tryd.prog w = .ok v' w' ∧ w'.ownsRow base 50 1 v' (n + m) (l ++ ys.map u32v) ∧ w.grownBy w' v.ownBlock := by
  cases hq : Tryd.prog.info? 50 with
  | none => have := info39; rw [hq] at this; cases this
  | some i =>
    have h := info39
    rw [hq] at h
    simp only [Option.map_some, Option.some.injEq, Prod.mk.injEq] at h
    obtain ⟨h1, h2, h3⟩ := h
    obtain ⟨v', w', hrun, hown', hg, _⟩ := run_append_own_at (P := Tryd.prog) w base 86 86 50 i _ 1 4 Tryd.underlying86 hq h1 h2 h3 rfl (by omega) v n l hown ad m c (ys.map u32v) (by simp [hl]) hy (by intro u hu; obtain ⟨z, _, rfl⟩ := List.mem_map.1 hu; rfl) (by unfold maxLen; omega) (by omega) hbase
    exact ⟨v', w', hrun, hown', hg⟩
theorem append_word (base : Nat) (v : Value) (n : Nat) (l : List Value) (w : World) (x : Int) (hown : w.ownsRow base 50 1 v n l) (hs : n ≤ 900) (hbase : base ≤ w.heap.size) :
    ∃ v' w', (Builtin.append_ #[86, 86] 86 #[v, .slice (some ⟨w.heap.size, 0, none⟩) 1 1]).run Tryd.prog (w.alloc (.cells #[.int .u32 x] 50)) = .ok v' w' ∧ w'.ownsRow base 50 1 v' (n + 1) (l ++ [u32v x]) ∧ Below base w w' := by
  have ho := hown.alloc (.cells #[.int .u32 x] 50)
  obtain ⟨v', w', hrun, hown', hg⟩ := append_words base v n l (w.alloc (.cells #[.int .u32 x] 50)) ho ⟨w.heap.size, 0, none⟩ 1 1 [x] rfl (fun j u hu => by
    rcases j with _ | j
    · have hu' : u32v x = u := by simpa using hu
      subst hu'
      exact (Row.new w 50 #[.int .u32 x]).cell 0
    · simp at hu) (by omega) (by simp; omega)
  refine ⟨v', w', hrun, hown', ?_⟩
  have hb : Below base w (w.alloc (.cells #[.int .u32 x] 50)) := (Below.refl _ _).alloc hbase _
  exact hb.trans (below_of_grown hg (fun g hg => (ho.lt g hg).1) (by simp; omega))
theorem step_append_run {P : Program} {ops : Array Oper} {o : Oper} {a : Act} {w w' : World} {K : Act → World → Prop} {Q : Exit → Act → World → Prop} {v y v' : Value} {t : TypeId} (hgd : o.guard = none) (s x : Operand)
    (ho : o.op = .call { callee := .builtin .append, args := #[s, x], argTypes := #[t, t] }) (hty : o.type = t) (hs : a.eval s = v) (hx : a.eval x = y)
    (hrun : (Builtin.append_ #[t, t] t #[v, y]).run P w = .ok v' w') (h : K (a.put o.dst v') w') : if Region.wanted o (yielded ops a.tmps) = true then Oper.wp P o a w K Q else K (a.put o.dst undef) w := by
  rw [if_pos (by simp only [Region.wanted, hgd])]
  unfold Oper.wp execOp
  simp only [ho, hty, resolve, invoke, builtin, Sem.run_bind, Sem.run_pure, Result.andThen_ok, List.map_toArray, List.map_cons, List.map_nil, hs, hx, hrun]
  exact h
theorem step_append_word {ops : Array Oper} {o : Oper} {a : Act} {w0 : World} {x : Int} {K : Act → World → Prop} {Q : Exit → Act → World → Prop} {v : Value} {base n : Nat} {l : List Value} (hgd : o.guard = none) (s y : Operand)
    (ho : o.op = .call { callee := .builtin .append, args := #[s, y], argTypes := #[86, 86] }) (hty : o.type = 86) (hs : a.eval s = v) (hy : a.eval y = .slice (some ⟨w0.heap.size, 0, none⟩) 1 1)
    (hown : w0.ownsRow base 50 1 v n l) (hn : n ≤ 900) (hbase : base ≤ w0.heap.size)
    (h : ∀ v' w', w'.ownsRow base 50 1 v' (n + 1) (l ++ [u32v x]) → Below base w0 w' → K (a.put o.dst v') w') :
    if Region.wanted o (yielded ops a.tmps) = true then Oper.wp Tryd.prog o a (w0.alloc (.cells #[.int .u32 x] 50)).drew K Q else K (a.put o.dst undef) (w0.alloc (.cells #[.int .u32 x] 50)).drew := by
  obtain ⟨v', w', hrun, hown', hb2⟩ := append_word base v n l w0.drew x hown hn hbase
  have hrun' : (Builtin.append_ #[86, 86] 86 #[v, .slice (some ⟨w0.heap.size, 0, none⟩) 1 1]).run Tryd.prog (w0.alloc (.cells #[.int .u32 x] 50)).drew = .ok v' w' := hrun
  exact step_append_run hgd s y ho hty hs hy hrun' (h v' w' hown' ((Below.refl _ _).drew.trans hb2))
theorem turn_at (x : Int) (hx : InW x) (n : Nat) (h1 : 1 ≤ n) (h2 : n ≤ 31) (m : Int) (hm : m = (n : Int)) (u : World) (q : Nat) :
    Calls Tryd.prog 71 #[.int .u32 x, .int .i64 m] (u.drewN q) fun e w' => e = .returned (.int .u32 (rotI x m)) ∧ ∃ r, w' = u.drewN r := by
  subst hm
  exact Calls.quiet_of (rturn_any x n _ h1 h2 hx)
theorem own_cell {base n g cap : Nat} {l : List Int} {w : World} (h : w.ownsRow base 50 1 (.slice (some ⟨g, 0, none⟩) n cap) n (l.map u32v)) (i : Nat) (hi : i < n) : w.cell? ⟨g, i, none⟩ = some (.int .u32 (l.getD i 0)) := by
  have hl : l.length = n := by have := h.1; simpa using this
  have := h.cells (g := g) rfl i (u32v (l.getD i 0)) (by simp [List.getD, List.getElem?_eq_getElem (by omega : i < l.length)])
  rw [Addr.add_mid, Nat.zero_add] at this
  exact this
set_option maxHeartbeats 4000000 in
set_option maxRecDepth 100000 in
theorem rwords_any (b o n c : Nat) (xs : List Int) (w : World) (hn : 64 ≤ n) (hb : b < w.heap.size)
    (hx : ∀ i, i < 64 → w.cell? ⟨b, o + i, none⟩ = some (.int .u8 (xs.getD i 0))) (hr : ∀ i, 0 ≤ xs.getD i 0 ∧ xs.getD i 0 ≤ 255) :
    Calls Tryd.prog 63 #[.slice (some ⟨b, o, none⟩) n c] w fun e w' => ∃ v, e = .returned v ∧ w'.ownsRow w.heap.size 50 1 v 64 ((moreL xs 48).map u32v) ∧ Below w.heap.size w w' := by
  have HX := Lib.hid hx
  have HR := Lib.hid hr
  clear hx hr
  go_enter Tryd.func63, Tryd.ntmps63
  go_wp2
  go_loopw [3, 4] (fun v i u => ∃ k : Nat, k ≤ 16 ∧ i = .int .i64 k ∧ Below w.heap.size w u ∧ Hid (u.ownsRow w.heap.size 50 1 v k ((firstL xs k).map u32v))) (fun _ i _ => 16 - (intOf i).toNat)
  case atStart => exact ⟨0, by omega, rfl, Below.refl _ _, World.ownsRow_nil _ _ _ _⟩
  case round =>
    obtain ⟨k, hk, rfl, hbl, hown⟩ := hrel
    by_cases hlt : k < 16
    · have g0 := (hbl.cell (p := ⟨b, o + 4 * k, none⟩) hb).trans (HX.out (4 * k) (by omega))
      have g1 := (hbl.cell (p := ⟨b, o + (4 * k + 1), none⟩) hb).trans (HX.out (4 * k + 1) (by omega))
      have g2 := (hbl.cell (p := ⟨b, o + (4 * k + 2), none⟩) hb).trans (HX.out (4 * k + 2) (by omega))
      have g3 := (hbl.cell (p := ⟨b, o + (4 * k + 3), none⟩) hb).trans (HX.out (4 * k + 3) (by omega))
      have r0 := HR.out (4 * k)
      have r1 := HR.out (4 * k + 1)
      have r2 := HR.out (4 * k + 2)
      have r3 := HR.out (4 * k + 3)
      have hw : Hid (wordAt xs k = 16777216 * xs.getD (4 * k) 0 + 65536 * xs.getD (4 * k + 1) 0 + 256 * xs.getD (4 * k + 2) 0 + xs.getD (4 * k + 3) 0) := (word_eq _ _ _ _ r0 r1 r2 r3).symm
      generalize xs.getD (4 * k) 0 = x0 at *
      generalize xs.getD (4 * k + 1) 0 = x1 at *
      generalize xs.getD (4 * k + 2) 0 = x2 at *
      generalize xs.getD (4 * k + 3) 0 = x3 at *
      obtain ⟨r00, r01⟩ := r0
      obtain ⟨r10, r11⟩ := r1
      obtain ⟨r20, r21⟩ := r2
      obtain ⟨r30, r31⟩ := r3
      obtain ⟨v', w', hrun, hown', hb2⟩ := append_word w.heap.size _ k _ wr.drew (16777216 * x0 + 65536 * x1 + 256 * x2 + x3) hown.out (by omega) hbl.size
      have hst : Hid (firstL xs (k + 1) = firstL xs k ++ [wordAt xs k]) := rfl
      have HRUN : Hid ((Builtin.append_ #[86, 86] 86 #[_, .slice (some ⟨wr.heap.size, 0, none⟩) 1 1]).run Tryd.prog (wr.alloc (.cells #[.int .u32 (16777216 * x0 + 65536 * x1 + 256 * x2 + x3)] 50)).drew = .ok v' w') := hrun
      have OO := Lib.hid hown'
      have B2 := hbl.drew.trans hb2
      have BB := Lib.hid B2
      have k0 := (B2.cell (p := ⟨b, o + 4 * k, none⟩) hb).trans ((hbl.cell (p := ⟨b, o + 4 * k, none⟩) hb).symm.trans g0)
      have k1 := (B2.cell (p := ⟨b, o + (4 * k + 1), none⟩) hb).trans ((hbl.cell (p := ⟨b, o + (4 * k + 1), none⟩) hb).symm.trans g1)
      have k2 := (B2.cell (p := ⟨b, o + (4 * k + 2), none⟩) hb).trans ((hbl.cell (p := ⟨b, o + (4 * k + 2), none⟩) hb).symm.trans g2)
      have k3 := (B2.cell (p := ⟨b, o + (4 * k + 3), none⟩) hb).trans ((hbl.cell (p := ⟨b, o + (4 * k + 3), none⟩) hb).symm.trans g3)
      have hbz : b < wr.heap.size := Nat.lt_of_lt_of_le hb hbl.size
      have hbe : ¬ b = wr.heap.size := by omega
      clear hrun hown' hb2 hown B2
      have i0 : IntKind.i64.wrap (4 * (k : Int)) = 4 * (k : Int) := IntWalk.i64_in _ (by omega)
      have i1 : IntKind.i64.wrap (4 * (k : Int) + 1) = 4 * (k : Int) + 1 := IntWalk.i64_in _ (by omega)
      have i2 : IntKind.i64.wrap (4 * (k : Int) + 2) = 4 * (k : Int) + 2 := IntWalk.i64_in _ (by omega)
      have i3 : IntKind.i64.wrap (4 * (k : Int) + 3) = 4 * (k : Int) + 3 := IntWalk.i64_in _ (by omega)
      have n0 : (4 * (k : Int)).toNat = 4 * k := by omega
      have n1 : (4 * (k : Int) + 1).toNat = 4 * k + 1 := by omega
      have n2 : (4 * (k : Int) + 2).toNat = 4 * k + 2 := by omega
      have n3 : (4 * (k : Int) + 3).toNat = 4 * k + 3 := by omega
      have z0 : 0 ≤ 4 * (k : Int) := by omega
      have z1 : 0 ≤ 4 * (k : Int) + 1 := by omega
      have z2 : 0 ≤ 4 * (k : Int) + 2 := by omega
      have z3 : 0 ≤ 4 * (k : Int) + 3 := by omega
      have y0 : 4 * (k : Int) < (n : Int) := by omega
      have y1 : 4 * (k : Int) + 1 < (n : Int) := by omega
      have y2 : 4 * (k : Int) + 2 < (n : Int) := by omega
      have y3 : 4 * (k : Int) + 3 < (n : Int) := by omega
      have u0 : IntKind.u32.wrap x0 = x0 := by rw [IntKind.wrap_u32]; omega
      have u1 : IntKind.u32.wrap x1 = x1 := by rw [IntKind.wrap_u32]; omega
      have u2 : IntKind.u32.wrap x2 = x2 := by rw [IntKind.wrap_u32]; omega
      have u3 : IntKind.u32.wrap x3 = x3 := by rw [IntKind.wrap_u32]; omega
      have u4 : IntKind.u32.wrap (16777216 * x0) = 16777216 * x0 := by rw [IntKind.wrap_u32]; omega
      have u5 : IntKind.u32.wrap (65536 * x1) = 65536 * x1 := by rw [IntKind.wrap_u32]; omega
      have u6 : IntKind.u32.wrap (256 * x2) = 256 * x2 := by rw [IntKind.wrap_u32]; omega
      have u7 : IntKind.u32.wrap (16777216 * x0 + 65536 * x1) = 16777216 * x0 + 65536 * x1 := by rw [IntKind.wrap_u32]; omega
      have u8 : IntKind.u32.wrap (16777216 * x0 + 65536 * x1 + 256 * x2) = 16777216 * x0 + 65536 * x1 + 256 * x2 := by rw [IntKind.wrap_u32]; omega
      have u9 : IntKind.u32.wrap (16777216 * x0 + 65536 * x1 + 256 * x2 + x3) = 16777216 * x0 + 65536 * x1 + 256 * x2 + x3 := by rw [IntKind.wrap_u32]; omega
      go_wp2_with fail
      go_region_held3 (fun u => u.cell? ⟨b, o + 4 * k, none⟩ = some (.int .u8 x0) ∧ u.cell? ⟨b, o + (4 * k + 1), none⟩ = some (.int .u8 x1) ∧ u.cell? ⟨b, o + (4 * k + 2), none⟩ = some (.int .u8 x2) ∧ u.cell? ⟨b, o + (4 * k + 3), none⟩ = some (.int .u8 x3))
        (first
          | exact ⟨k0, k1, k2, k3⟩
          | exact ⟨g0, g1, g2, g3⟩
          | exact ⟨(World.cell?_alloc_lt _ _ _ hbz).trans g0, (World.cell?_alloc_lt _ _ _ hbz).trans g1, (World.cell?_alloc_lt _ _ _ hbz).trans g2, (World.cell?_alloc_lt _ _ _ hbz).trans g3⟩)
        (first
          | ((refine step_append_run (by rfl) (.tmp 12) (.tmp 46) (by rfl) (by rfl) (by rfl) (by rfl) HRUN.out ?_)))
      clear i0 i1 i2 i3 n0 n1 n2 n3 z0 z1 z2 z3 y0 y1 y2 y3 u0 u1 u2 u3 u4 u5 u6 u7 u8 u9 g0 g1 g2 g3 k0 k1 k2 k3
      go_wp2
      go_roundw
      case rel =>
        refine ⟨k + 1, by omega, by go_num, BB.out, ?_⟩
        show World.ownsRow _ _ _ _ _ _ _
        rw [hst.out, List.map_append, hw.out]
        exact OO.out
      case measure => simp [intOf]; omega
    · obtain rfl : k = 16 := by omega
      go_wp2
      go_loopw [3, 5] (fun v i u => ∃ j : Nat, j ≤ 48 ∧ i = .int .i64 (j + 16) ∧ Below w.heap.size w u ∧ Hid (u.ownsRow w.heap.size 50 1 v (j + 16) ((moreL xs j).map u32v))) (fun _ i _ => 64 - (intOf i).toNat)
      case atStart => exact ⟨0, by omega, rfl, hbl, hown.out⟩
      case round =>
        clear hbl hown
        obtain ⟨j, hj, rfl, hbl, hown⟩ := hrel
        by_cases hlt : j < 48
        · rcases hown.out.2 with ⟨_, h0⟩ | ⟨g, cap, cur, rfl, hgb, hgr, hcap, hcm, _⟩
          · omega
          unfold maxLen at hcm
          have c0 := own_cell hown.out j (by omega)
          have c1 := own_cell hown.out (j + 1) (by omega)
          have c9 := own_cell hown.out (j + 9) (by omega)
          have c14 := own_cell hown.out (j + 14) (by omega)
          have w1 := InW.getD _ (moreL_in xs j) (j + 1)
          have w14 := InW.getD _ (moreL_in xs j) (j + 14)
          have hst : Hid (moreL xs (j + 1) = moreL xs j ++ [((moreL xs j).getD j 0 + (moreL xs j).getD (j + 9) 0 + smallS ((moreL xs j).getD (j + 1) 0) + smallT ((moreL xs j).getD (j + 14) 0)) % 4294967296]) := rfl
          generalize (moreL xs j).getD j 0 = y0 at *
          generalize (moreL xs j).getD (j + 1) 0 = y1 at *
          generalize (moreL xs j).getD (j + 9) 0 = y9 at *
          generalize (moreL xs j).getD (j + 14) 0 = y14 at *
          have T7 : Hid (∀ (u : World) (q : Nat), Calls Tryd.prog 71 #[.int .u32 y1, .int .i64 7] (u.drewN q) fun e w' => e = .returned (.int .u32 (rotI y1 7)) ∧ ∃ r, w' = u.drewN r) := fun u q => turn_at y1 w1 7 (by omega) (by omega) 7 rfl u q
          have T18 : Hid (∀ (u : World) (q : Nat), Calls Tryd.prog 71 #[.int .u32 y1, .int .i64 18] (u.drewN q) fun e w' => e = .returned (.int .u32 (rotI y1 18)) ∧ ∃ r, w' = u.drewN r) := fun u q => turn_at y1 w1 18 (by omega) (by omega) 18 rfl u q
          have T17 : Hid (∀ (u : World) (q : Nat), Calls Tryd.prog 71 #[.int .u32 y14, .int .i64 17] (u.drewN q) fun e w' => e = .returned (.int .u32 (rotI y14 17)) ∧ ∃ r, w' = u.drewN r) := fun u q => turn_at y14 w14 17 (by omega) (by omega) 17 rfl u q
          have T19 : Hid (∀ (u : World) (q : Nat), Calls Tryd.prog 71 #[.int .u32 y14, .int .i64 19] (u.drewN q) fun e w' => e = .returned (.int .u32 (rotI y14 19)) ∧ ∃ r, w' = u.drewN r) := fun u q => turn_at y14 w14 19 (by omega) (by omega) 19 rfl u q
          obtain ⟨w10, w11⟩ := w1
          obtain ⟨w140, w141⟩ := w14
          have s1 : IntKind.i64.wrap ((j : Int) + 16 - 15) = (j : Int) + 1 := by rw [IntWalk.i64_in _ (by omega)]; omega
          have s2 : IntKind.i64.wrap ((j : Int) + 16 - 2) = (j : Int) + 14 := by rw [IntWalk.i64_in _ (by omega)]; omega
          have s3 : IntKind.i64.wrap ((j : Int) + 16 - 16) = (j : Int) := by rw [IntWalk.i64_in _ (by omega)]; omega
          have s4 : IntKind.i64.wrap ((j : Int) + 16 - 7) = (j : Int) + 9 := by rw [IntWalk.i64_in _ (by omega)]; omega
          have s5 : IntKind.i64.wrap (j : Int) = (j : Int) := by rw [IntWalk.i64_in _ (by omega)]
          have t1 : ((j : Int) + 1).toNat = j + 1 := by omega
          have t2 : ((j : Int) + 14).toNat = j + 14 := by omega
          have t4 : ((j : Int) + 9).toNat = j + 9 := by omega
          have z1 : 0 ≤ (j : Int) + 1 := by omega
          have z2 : 0 ≤ (j : Int) + 14 := by omega
          have z4 : 0 ≤ (j : Int) + 9 := by omega
          have b1 : (j : Int) + 1 < (j : Int) + 16 := by omega
          have b2 : (j : Int) + 14 < (j : Int) + 16 := by omega
          have b3 : (j : Int) < (j : Int) + 16 := by omega
          have b4 : (j : Int) + 9 < (j : Int) + 16 := by omega
          have d1 : y1.tdiv 8 = y1 / 8 := Int.tdiv_eq_ediv_of_nonneg w10
          have d2 : y14.tdiv 1024 = y14 / 1024 := Int.tdiv_eq_ediv_of_nonneg w140
          have e1 : IntKind.u32.wrap (y1 / 8) = y1 / 8 := by rw [IntKind.wrap_u32]; omega
          have e2 : IntKind.u32.wrap (y14 / 1024) = y14 / 1024 := by rw [IntKind.wrap_u32]; omega
          go_wp2_with fail
          go_quiet ((go_at_call 71; first | (with_reducible exact T7.out _ _) | (with_reducible exact T18.out _ _)))
          have O1 : Hid ((wr.drewN nq).ownsRow w.heap.size 50 1 (.slice (some ⟨g, 0, none⟩) (j + 16) cap) (j + 16) ((moreL xs j).map u32v)) := hown
          have B1 := below_drewN hbl nq
          have c0' : (wr.drewN nq).cell? ⟨g, j, none⟩ = some (.int .u32 y0) := c0
          have c9' : (wr.drewN nq).cell? ⟨g, j + 9, none⟩ = some (.int .u32 y9) := c9
          have c14' : (wr.drewN nq).cell? ⟨g, j + 14, none⟩ = some (.int .u32 y14) := c14
          clear c0 c1 c9 c14 hown hbl hgr
          generalize wr.drewN nq = w2 at *
          go_wp2_with fail
          go_quiet ((go_at_call 71; first | (with_reducible exact T17.out _ _) | (with_reducible exact T19.out _ _)))
          have O2 : Hid ((w2.drewN nq).ownsRow w.heap.size 50 1 (.slice (some ⟨g, 0, none⟩) (j + 16) cap) (j + 16) ((moreL xs j).map u32v)) := O1
          have B2 := below_drewN B1 nq
          have c0 : (w2.drewN nq).cell? ⟨g, j, none⟩ = some (.int .u32 y0) := c0'
          have c9 : (w2.drewN nq).cell? ⟨g, j + 9, none⟩ = some (.int .u32 y9) := c9'
          clear c0' c9' c14' O1 B1
          generalize w2.drewN nq = w3 at *
          have hv : Hid ((y0 + smallS y1 + y9 + smallT y14) % 4294967296 = (y0 + y9 + smallS y1 + smallT y14) % 4294967296) := by show _ = _; congr 1; omega
          have hsS : Hid (bits BinOp.xor IntKind.u32 (bits BinOp.xor IntKind.u32 (rotI y1 7) (rotI y1 18)) (y1 / 8) = smallS y1) := rfl
          have hsT : Hid (bits BinOp.xor IntKind.u32 (bits BinOp.xor IntKind.u32 (rotI y14 17) (rotI y14 19)) (y14 / 1024) = smallT y14) := rfl
          have hu32 : ∀ z, IntKind.u32.wrap z = z % 4294967296 := IntKind.wrap_u32
          go_wp2_with fail
          rw [hsS.out, hsT.out]
          generalize smallS y1 = sS at *
          generalize smallT y14 = sT at *
          have hw3 := B2.size
          go_region_law (first
            | ((refine step_append_word (by rfl) (.tmp 92) (.tmp 108) (by rfl) (by rfl) (by rfl) (by rfl) O2.out (by omega) hw3 ?_); intro v' w' OO BB))
          all_goals
            have OH := Lib.hid OO
            have BH := Lib.hid (B2.trans BB)
            clear OO BB c0 c9 O2 B2 s1 s2 s3 s4 s5 t1 t2 t4 z1 z2 z4 b1 b2 b3 b4 d1 d2 e1 e2 hu32
            go_wp2
            go_roundw
            case rel =>
              repeat apply Exists.intro
              refine ⟨⟨j + 1, by omega, by go_num, BH.out, ?_⟩, rfl⟩
              show World.ownsRow _ _ _ _ _ _ _
              rw [show j + 1 + 16 = j + 16 + 1 by omega, hst.out, List.map_append, ← hv.out]
              exact OH.out
            case measure => simp [intOf]; omega
        · obtain rfl : j = 48 := by omega
          go_wp2
          go_ret
          exact ⟨_, rfl, hown.out, hbl⟩
end Go.Proofs.YtbjojpgedcikiaaDoor

namespace Go.Proofs.YtbjojpgedcikiaaDoor
set_option maxRecDepth 8000
open Go.RowKit














theorem S8.In.step {s : S8} (h : s.In) (k x : Int) : (s.step k x).In := ⟨InW.mod _, h.a, h.b, h.c, InW.mod _, h.e, h.f, h.g⟩
theorem runL_in {s : S8} (h : s.In) (ws : List Int) : ∀ k, (runL s ws k).In
  | 0 => h
  | k + 1 => (runL_in h ws k).step _ _
set_option maxRecDepth 100000 in
theorem numbers_any (w : World) : Calls Tryd.prog 70 #[] w fun e w' => e = .returned (.slice (some ⟨w.heap.size, 0, none⟩) 64 64) ∧ Row w' w.heap.size 50 (roundNs.map u32v).toArray ∧ Below w.heap.size w w' := by
  go_enter Tryd.func70, Tryd.ntmps70
  go_wp2
  go_ret
  exact ⟨rfl, Row.new w 50 _, (Below.refl _ _).alloc (Nat.le_refl _) _⟩
theorem first_any (w : World) : Calls Tryd.prog 61 #[] w fun e w' => e = .returned (.slice (some ⟨w.heap.size, 0, none⟩) 8 8) ∧ Row w' w.heap.size 50 firstW.cells ∧ Below w.heap.size w w' := by
  go_enter Tryd.func61, Tryd.ntmps61
  go_wp2
  go_ret
  exact ⟨rfl, Row.new w 50 _, (Below.refl _ _).alloc (Nat.le_refl _) _⟩
theorem roundNs_get (i : Nat) (h : i < 64) : (roundNs.map u32v).toArray[i]? = some (.int .u32 (roundNs.getD i 0)) := by
  have hl : roundNs.length = 64 := rfl
  simp [u32v, List.getD, List.getElem?_eq_getElem (by omega : i < roundNs.length)]
theorem Keep.drewN {w : World} {s : Array Value} {gh gk : Nat} {ws : List Int} {gw : Nat} {u : World} (h : Keep w s gh gk ws gw u) (n : Nat) : Keep w s gh gk ws gw (u.drewN n) := ⟨below_drewN h.b n, h.h, h.k, h.w, h.lw⟩
set_option maxHeartbeats 8000000 in
set_option maxRecDepth 100000 in
theorem rrounds_any (s : S8) (hcs : Array Value) (gh ch gw cw : Nat) (ws : List Int) (w : World) (hs : s.In) (hh : Row w gh 50 hcs) (hhc : ∀ i, i < 8 → hcs[i]? = some (.int .u32 (s.get i))) (hw : ∀ i, i < 64 → w.cell? ⟨gw, i, none⟩ = some (.int .u32 (ws.getD i 0))) (hwl : gw < w.heap.size) :
    Calls Tryd.prog 62 #[.slice (some ⟨gh, 0, none⟩) 8 ch, .slice (some ⟨gw, 0, none⟩) 64 cw] w fun e w' => ∃ v, e = .returned v ∧ V8 w.heap.size v (s.add (runL s ws 64)) w' ∧ Below w.heap.size w w' := by
  have HW := Lib.hid hw
  have HHC := Lib.hid hhc
  have hgh0 := hh.lt
  clear hw hhc
  go_enter Tryd.func62, Tryd.ntmps62
  go_wp2_with fail
  refine (numbers_any w).mono ?_
  rintro e w1 ⟨rfl, rk, hb1⟩
  have K1 : Keep w hcs gh w.heap.size ws gw w1 := ⟨hb1, hh.below hb1 hh.lt, rk, fun i hi => (hb1.cell (p := ⟨gw, i, none⟩) hwl).trans (HW.out i hi), Nat.lt_of_lt_of_le hwl hb1.size⟩
  have sk := rk.lt
  obtain ⟨v', w', hrun, hown, hgr⟩ := append_words (w.heap.size + 1) (.slice none 0 0) 0 [] w1 (World.ownsRow_nil _ _ _ _) ⟨gh, 0, none⟩ 8 ch [s.a, s.b, s.c, s.d, s.e, s.f, s.g, s.h] rfl (fun j u hu => by
    have hj : j < 8 := by
      rcases Nat.lt_or_ge j 8 with h' | h'
      · exact h'
      · rw [List.getElem?_eq_none (by simpa using h')] at hu
        cases hu
    rw [Addr.add_mid, Nat.zero_add, K1.h.cell j, HHC.out j hj, ← hu]
    rcases j with _ | _ | _ | _ | _ | _ | _ | _ | j <;> first | omega | rfl) (by omega) (by omega)
  have hb2 : Below w1.heap.size w1 w' := below_of_grown hgr (fun g hg => by simp [Value.ownBlock] at hg) (Nat.le_refl _)
  have K2 := Lib.hid (K1.below hb2)
  have V2 : Hid (V8 (w.heap.size + 1) v' s w') := by
    rcases hown.2 with ⟨_, h0⟩ | ⟨g, cap, cur, e, hg, hh, _, _, _, ht⟩
    · omega
    · refine ⟨g, cap, cur, e, hg, hh, fun i hi => ?_⟩
      have h1 : cur.toList[i]? = (cur.toList.take (8 * 1))[i]? := by rw [List.getElem?_take_of_lt (by omega)]
      rw [← Array.getElem?_toList, h1, show (8 * 1) = (0 + 8) * 1 by omega, ht]
      rcases i with _ | _ | _ | _ | _ | _ | _ | _ | i <;> first | omega | rfl
  have HRUN := Lib.hid hrun
  clear hrun hown hgr hb2 K1 rk hb1 hh
  go_wp2_with (at_builtin; (with_reducible refine wpList_append_run (o := ⟨some 16, _, _, _, _, _⟩) ?_ (.const (.slice none 0 0)) (.tmp 15) ?_ ?_ ?_ ?_ HRUN.out ?_); (rfl); (rfl); (rfl); (rfl); (rfl))
  go_loopw [6, 7] (fun v i u => ∃ j : Nat, j ≤ 64 ∧ i = .int .i64 j ∧ Hid (Keep w hcs gh w.heap.size ws gw u ∧ V8 (w.heap.size + 1) v (runL s ws j) u)) (fun _ i _ => 64 - (intOf i).toNat)
  case atStart => exact ⟨0, by omega, rfl, K2.out, V2.out⟩
  case round =>
    clear K2 V2 HRUN
    obtain ⟨j, hj, rfl, hrel2⟩ := hrel
    obtain ⟨hk, hv⟩ := hrel2.out
    by_cases hlt : j < 64
    · obtain ⟨g, cap, cur, rfl, hg, hr, hc⟩ := hv
      have hst : Hid (runL s ws (j + 1) = (runL s ws j).step (roundNs.getD j 0) (ws.getD j 0)) := rfl
      have hin := runL_in hs ws j
      have ek := (hk.k.cell j).trans (roundNs_get j hlt)
      have ew := hk.w j hlt
      have E := Lib.hid hk
      generalize roundNs.getD j 0 = kv at *
      generalize ws.getD j 0 = wv at *
      generalize runL s ws j = st at *
      have e0 : wr.cell? ⟨g, 0, none⟩ = some (.int .u32 st.a) := (hr.cell 0).trans (hc 0 (by omega))
      have e1 : wr.cell? ⟨g, 1, none⟩ = some (.int .u32 st.b) := (hr.cell 1).trans (hc 1 (by omega))
      have e2 : wr.cell? ⟨g, 2, none⟩ = some (.int .u32 st.c) := (hr.cell 2).trans (hc 2 (by omega))
      have e3 : wr.cell? ⟨g, 3, none⟩ = some (.int .u32 st.d) := (hr.cell 3).trans (hc 3 (by omega))
      have e4 : wr.cell? ⟨g, 4, none⟩ = some (.int .u32 st.e) := (hr.cell 4).trans (hc 4 (by omega))
      have e5 : wr.cell? ⟨g, 5, none⟩ = some (.int .u32 st.f) := (hr.cell 5).trans (hc 5 (by omega))
      have e6 : wr.cell? ⟨g, 6, none⟩ = some (.int .u32 st.g) := (hr.cell 6).trans (hc 6 (by omega))
      have e7 : wr.cell? ⟨g, 7, none⟩ = some (.int .u32 st.h) := (hr.cell 7).trans (hc 7 (by omega))
      have T6 : Hid (∀ (u : World) (q : Nat), Calls Tryd.prog 71 #[.int .u32 st.e, .int .i64 6] (u.drewN q) fun e w' => e = .returned (.int .u32 (rotI st.e 6)) ∧ ∃ r, w' = u.drewN r) := fun u q => turn_at st.e hin.e 6 (by omega) (by omega) 6 rfl u q
      have T11 : Hid (∀ (u : World) (q : Nat), Calls Tryd.prog 71 #[.int .u32 st.e, .int .i64 11] (u.drewN q) fun e w' => e = .returned (.int .u32 (rotI st.e 11)) ∧ ∃ r, w' = u.drewN r) := fun u q => turn_at st.e hin.e 11 (by omega) (by omega) 11 rfl u q
      have T25 : Hid (∀ (u : World) (q : Nat), Calls Tryd.prog 71 #[.int .u32 st.e, .int .i64 25] (u.drewN q) fun e w' => e = .returned (.int .u32 (rotI st.e 25)) ∧ ∃ r, w' = u.drewN r) := fun u q => turn_at st.e hin.e 25 (by omega) (by omega) 25 rfl u q
      have T2 : Hid (∀ (u : World) (q : Nat), Calls Tryd.prog 71 #[.int .u32 st.a, .int .i64 2] (u.drewN q) fun e w' => e = .returned (.int .u32 (rotI st.a 2)) ∧ ∃ r, w' = u.drewN r) := fun u q => turn_at st.a hin.a 2 (by omega) (by omega) 2 rfl u q
      have T13 : Hid (∀ (u : World) (q : Nat), Calls Tryd.prog 71 #[.int .u32 st.a, .int .i64 13] (u.drewN q) fun e w' => e = .returned (.int .u32 (rotI st.a 13)) ∧ ∃ r, w' = u.drewN r) := fun u q => turn_at st.a hin.a 13 (by omega) (by omega) 13 rfl u q
      have T22 : Hid (∀ (u : World) (q : Nat), Calls Tryd.prog 71 #[.int .u32 st.a, .int .i64 22] (u.drewN q) fun e w' => e = .returned (.int .u32 (rotI st.a 22)) ∧ ∃ r, w' = u.drewN r) := fun u q => turn_at st.a hin.a 22 (by omega) (by omega) 22 rfl u q
      have hmaj := Lib.hid (maj_eq st.a st.b st.c hin.a hin.b hin.c)
      have hch := Lib.hid (ch_eq st.e st.f st.g hin.e)
      have ie := hin.e
      obtain ⟨ie0, ie1⟩ := ie
      have us : IntKind.u32.wrap (4294967295 - st.e) = 4294967295 - st.e := by rw [IntKind.wrap_u32]; omega
      have hj2 : (j : Int) < 64 := by omega
      clear hr hc hk hrel2 hin
      go_wp2_with fail
      go_quiet ((go_at_call 71; first | (with_reducible exact T6.out _ _) | (with_reducible exact T11.out _ _) | (with_reducible exact T25.out _ _)))
      have f0 : (wr.drewN nq).cell? ⟨g, 0, none⟩ = some (.int .u32 st.a) := e0
      have f1 : (wr.drewN nq).cell? ⟨g, 1, none⟩ = some (.int .u32 st.b) := e1
      have f2 : (wr.drewN nq).cell? ⟨g, 2, none⟩ = some (.int .u32 st.c) := e2
      have f3 : (wr.drewN nq).cell? ⟨g, 3, none⟩ = some (.int .u32 st.d) := e3
      have f4 : (wr.drewN nq).cell? ⟨g, 4, none⟩ = some (.int .u32 st.e) := e4
      have f5 : (wr.drewN nq).cell? ⟨g, 5, none⟩ = some (.int .u32 st.f) := e5
      have f6 : (wr.drewN nq).cell? ⟨g, 6, none⟩ = some (.int .u32 st.g) := e6
      have f7 : (wr.drewN nq).cell? ⟨g, 7, none⟩ = some (.int .u32 st.h) := e7
      have fk : (wr.drewN nq).cell? ⟨w.heap.size, j, none⟩ = some (.int .u32 kv) := ek
      have fw : (wr.drewN nq).cell? ⟨gw, j, none⟩ = some (.int .u32 wv) := ew
      have F : Hid (Keep w hcs gh w.heap.size ws gw (wr.drewN nq)) := E.out.drewN nq
      clear e0 e1 e2 e3 e4 e5 e6 e7 ek ew E
      generalize wr.drewN nq = w2 at *
      clear nq
      have e0 := f0
      have e1 := f1
      have e2 := f2
      have e3 := f3
      have e4 := f4
      have e5 := f5
      have e6 := f6
      have e7 := f7
      have ek := fk
      have ew := fw
      have E := F
      clear f0 f1 f2 f3 f4 f5 f6 f7 fk fw F
      have hs1 : Hid (bits BinOp.xor IntKind.u32 (bits BinOp.xor IntKind.u32 (rotI st.e 6) (rotI st.e 11)) (rotI st.e 25) = sig1 st.e) := rfl
      rw [hs1.out]
      go_wp2_with fail
      go_quiet (fail)
      have f0 : (w2.drewN nq).cell? ⟨g, 0, none⟩ = some (.int .u32 st.a) := e0
      have f1 : (w2.drewN nq).cell? ⟨g, 1, none⟩ = some (.int .u32 st.b) := e1
      have f2 : (w2.drewN nq).cell? ⟨g, 2, none⟩ = some (.int .u32 st.c) := e2
      have f3 : (w2.drewN nq).cell? ⟨g, 3, none⟩ = some (.int .u32 st.d) := e3
      have f4 : (w2.drewN nq).cell? ⟨g, 4, none⟩ = some (.int .u32 st.e) := e4
      have f5 : (w2.drewN nq).cell? ⟨g, 5, none⟩ = some (.int .u32 st.f) := e5
      have f6 : (w2.drewN nq).cell? ⟨g, 6, none⟩ = some (.int .u32 st.g) := e6
      have f7 : (w2.drewN nq).cell? ⟨g, 7, none⟩ = some (.int .u32 st.h) := e7
      have fk : (w2.drewN nq).cell? ⟨w.heap.size, j, none⟩ = some (.int .u32 kv) := ek
      have fw : (w2.drewN nq).cell? ⟨gw, j, none⟩ = some (.int .u32 wv) := ew
      have F : Hid (Keep w hcs gh w.heap.size ws gw (w2.drewN nq)) := E.out.drewN nq
      clear e0 e1 e2 e3 e4 e5 e6 e7 ek ew E
      generalize w2.drewN nq = w3 at *
      clear nq
      have e0 := f0
      have e1 := f1
      have e2 := f2
      have e3 := f3
      have e4 := f4
      have e5 := f5
      have e6 := f6
      have e7 := f7
      have ek := fk
      have ew := fw
      have E := F
      clear f0 f1 f2 f3 f4 f5 f6 f7 fk fw F
      rw [hch.out]
      go_wp2_with fail
      go_quiet (fail)
      have f0 : (w3.drewN nq).cell? ⟨g, 0, none⟩ = some (.int .u32 st.a) := e0
      have f1 : (w3.drewN nq).cell? ⟨g, 1, none⟩ = some (.int .u32 st.b) := e1
      have f2 : (w3.drewN nq).cell? ⟨g, 2, none⟩ = some (.int .u32 st.c) := e2
      have f3 : (w3.drewN nq).cell? ⟨g, 3, none⟩ = some (.int .u32 st.d) := e3
      have f4 : (w3.drewN nq).cell? ⟨g, 4, none⟩ = some (.int .u32 st.e) := e4
      have f5 : (w3.drewN nq).cell? ⟨g, 5, none⟩ = some (.int .u32 st.f) := e5
      have f6 : (w3.drewN nq).cell? ⟨g, 6, none⟩ = some (.int .u32 st.g) := e6
      have f7 : (w3.drewN nq).cell? ⟨g, 7, none⟩ = some (.int .u32 st.h) := e7
      have fk : (w3.drewN nq).cell? ⟨w.heap.size, j, none⟩ = some (.int .u32 kv) := ek
      have fw : (w3.drewN nq).cell? ⟨gw, j, none⟩ = some (.int .u32 wv) := ew
      have F : Hid (Keep w hcs gh w.heap.size ws gw (w3.drewN nq)) := E.out.drewN nq
      clear e0 e1 e2 e3 e4 e5 e6 e7 ek ew E
      generalize w3.drewN nq = w4 at *
      clear nq
      have e0 := f0
      have e1 := f1
      have e2 := f2
      have e3 := f3
      have e4 := f4
      have e5 := f5
      have e6 := f6
      have e7 := f7
      have ek := fk
      have ew := fw
      have E := F
      clear f0 f1 f2 f3 f4 f5 f6 f7 fk fw F
      go_wp2_with fail
      go_quiet ((go_at_call 71; first | (with_reducible exact T2.out _ _) | (with_reducible exact T13.out _ _) | (with_reducible exact T22.out _ _)))
      have f0 : (w4.drewN nq).cell? ⟨g, 0, none⟩ = some (.int .u32 st.a) := e0
      have f1 : (w4.drewN nq).cell? ⟨g, 1, none⟩ = some (.int .u32 st.b) := e1
      have f2 : (w4.drewN nq).cell? ⟨g, 2, none⟩ = some (.int .u32 st.c) := e2
      have f3 : (w4.drewN nq).cell? ⟨g, 3, none⟩ = some (.int .u32 st.d) := e3
      have f4 : (w4.drewN nq).cell? ⟨g, 4, none⟩ = some (.int .u32 st.e) := e4
      have f5 : (w4.drewN nq).cell? ⟨g, 5, none⟩ = some (.int .u32 st.f) := e5
      have f6 : (w4.drewN nq).cell? ⟨g, 6, none⟩ = some (.int .u32 st.g) := e6
      have f7 : (w4.drewN nq).cell? ⟨g, 7, none⟩ = some (.int .u32 st.h) := e7
      have fk : (w4.drewN nq).cell? ⟨w.heap.size, j, none⟩ = some (.int .u32 kv) := ek
      have fw : (w4.drewN nq).cell? ⟨gw, j, none⟩ = some (.int .u32 wv) := ew
      have F : Hid (Keep w hcs gh w.heap.size ws gw (w4.drewN nq)) := E.out.drewN nq
      clear e0 e1 e2 e3 e4 e5 e6 e7 ek ew E
      generalize w4.drewN nq = w5 at *
      clear nq
      have e0 := f0
      have e1 := f1
      have e2 := f2
      have e3 := f3
      have e4 := f4
      have e5 := f5
      have e6 := f6
      have e7 := f7
      have ek := fk
      have ew := fw
      have E := F
      clear f0 f1 f2 f3 f4 f5 f6 f7 fk fw F
      have hs0 : Hid (bits BinOp.xor IntKind.u32 (bits BinOp.xor IntKind.u32 (rotI st.a 2) (rotI st.a 13)) (rotI st.a 22) = sig0 st.a) := rfl
      rw [hs0.out]
      go_wp2_with fail
      go_quiet (fail)
      have f0 : (w5.drewN nq).cell? ⟨g, 0, none⟩ = some (.int .u32 st.a) := e0
      have f1 : (w5.drewN nq).cell? ⟨g, 1, none⟩ = some (.int .u32 st.b) := e1
      have f2 : (w5.drewN nq).cell? ⟨g, 2, none⟩ = some (.int .u32 st.c) := e2
      have f3 : (w5.drewN nq).cell? ⟨g, 3, none⟩ = some (.int .u32 st.d) := e3
      have f4 : (w5.drewN nq).cell? ⟨g, 4, none⟩ = some (.int .u32 st.e) := e4
      have f5 : (w5.drewN nq).cell? ⟨g, 5, none⟩ = some (.int .u32 st.f) := e5
      have f6 : (w5.drewN nq).cell? ⟨g, 6, none⟩ = some (.int .u32 st.g) := e6
      have f7 : (w5.drewN nq).cell? ⟨g, 7, none⟩ = some (.int .u32 st.h) := e7
      have fk : (w5.drewN nq).cell? ⟨w.heap.size, j, none⟩ = some (.int .u32 kv) := ek
      have fw : (w5.drewN nq).cell? ⟨gw, j, none⟩ = some (.int .u32 wv) := ew
      have F : Hid (Keep w hcs gh w.heap.size ws gw (w5.drewN nq)) := E.out.drewN nq
      clear e0 e1 e2 e3 e4 e5 e6 e7 ek ew E
      generalize w5.drewN nq = w6 at *
      clear nq
      have e0 := f0
      have e1 := f1
      have e2 := f2
      have e3 := f3
      have e4 := f4
      have e5 := f5
      have e6 := f6
      have e7 := f7
      have ek := fk
      have ew := fw
      have E := F
      clear f0 f1 f2 f3 f4 f5 f6 f7 fk fw F
      rw [hmaj.out]
      go_wp2_with fail
      go_still_tail 28, (by kernel_rfl)
      change wpList _ _ _ _ _ w6.drew
      go_wp2_with fail
      have hA : Hid ((st.h + sig1 st.e + chI st.e st.f st.g + kv + wv + sig0 st.a + majI st.a st.b st.c) % 4294967296 = (st.step kv wv).a) := by
        show _ = (st.h + sig1 st.e + chI st.e st.f st.g + kv + wv + (sig0 st.a + majI st.a st.b st.c)) % 4294967296
        rw [Int.add_assoc]
      have hk6 := E.out.k.lt
      go_roundw
      case rel =>
        refine ⟨j + 1, by omega, by go_num, E.out.below (Below.drew ((Below.refl _ _).alloc (Nat.le_refl _) _)), w6.heap.size, 8, _, rfl, by omega, Row.new w6 50 _, fun i hi => ?_⟩
        rw [hst.out, hA.out]
        rcases i with _ | _ | _ | _ | _ | _ | _ | _ | i <;> first | omega | rfl
      case measure => simp [intOf]; omega
    · obtain rfl : j = 64 := by omega
      obtain ⟨g, cap, cur, rfl, hg, hr, hc⟩ := hv
      generalize hTT : runL s ws 64 = tt at *
      have HTT := Lib.hid hTT
      clear hTT hrel2
      have R0 := Lib.hid (⟨hk, cur, hr, hc⟩ : Keep w hcs gh w.heap.size ws gw wr ∧ ∃ cur, Row wr g 50 cur ∧ ∀ i, i < 8 → cur[i]? = some (.int .u32 ((tt.addTo s 0).get i)))
      clear hk hr hc
      go_wp2_with fail
      go_loopw [13] (fun i u => ∃ k : Nat, k ≤ 8 ∧ i = .int .i64 k ∧ Hid (Keep w hcs gh w.heap.size ws gw u ∧ ∃ cur, Row u g 50 cur ∧ ∀ i, i < 8 → cur[i]? = some (.int .u32 ((tt.addTo s k).get i)))) (fun i _ => 8 - (intOf i).toNat)
      case atStart => exact ⟨0, by omega, rfl, R0.out⟩
      case round =>
        clear R0
        obtain ⟨k, hk8, rfl, hrel2⟩ := hrel
        obtain ⟨hk, cur, hr, hc⟩ := hrel2.out
        by_cases hlt : k < 8
        · have e0 : wr.cell? ⟨g, k, none⟩ = some (.int .u32 (tt.get k)) := by rw [hr.cell k, hc k hlt, S8.addTo_get tt s k hlt]
          have e1 : wr.cell? ⟨gh, k, none⟩ = some (.int .u32 (s.get k)) := by rw [hk.h.cell k, HHC.out k hlt]
          have f0 := hr.frozen k
          have E := Lib.hid hk
          have R := Lib.hid hr
          have C := Lib.hid hc
          have hput : Hid (∀ i, i < 8 → (tt.addTo s (k + 1)).get i = if i = k then (tt.get k + s.get k) % 4294967296 else (tt.addTo s k).get i) := by
            intro i hi
            rcases k with _ | _ | _ | _ | _ | _ | _ | _ | k <;> first | omega | (rcases i with _ | _ | _ | _ | _ | _ | _ | _ | i <;> first | omega | rfl)
          clear hk hr hc hrel2
          have hl2 : (k : Int) < 8 := by omega
          go_wp2_with fail
          go_still_tail 11, (by kernel_rfl)
          change wpList _ _ _ _ _ wr.drew
          go_wp2
          go_roundw
          case rel =>
            repeat apply Exists.intro
            refine ⟨⟨k + 1, by omega, by go_num, E.out.set hg hgh0 hwl, _, R.out.drew.put k _, fun i hi => ?_⟩, rfl⟩
            have hkc := C.out k hlt
            have hks : k < cur.size := by
              rcases Nat.lt_or_ge k cur.size with h' | h'
              · exact h'
              · rw [Array.getElem?_eq_none h'] at hkc
                cases hkc
            rw [Array.getElem?_setIfInBounds, hput.out i hi]
            by_cases e : k = i
            · subst e
              rw [if_pos rfl, if_pos hks, if_pos rfl]
            · rw [if_neg e, if_neg (fun h => e h.symm)]
              exact C.out i hi
          case measure => simp [intOf]; omega
        · obtain rfl : k = 8 := by omega
          have E := Lib.hid hk
          have R := Lib.hid hr
          have C := Lib.hid hc
          clear hk hr hc hrel2
          go_wp2
          go_ret
          have hadd : s.add (runL s ws 64) = tt.addTo s 8 := by
            rw [HTT.out, S8.addTo_all]
            simp only [S8.add, Int.add_comm]
          exact ⟨_, rfl, ⟨g, cap, cur, rfl, by omega, R.out, by rw [hadd]; exact C.out⟩, E.out.b⟩
end Go.Proofs.YtbjojpgedcikiaaDoor

namespace Go.Proofs.YtbjojpgedcikiaaDoor
set_option maxRecDepth 8000
open Go.RowKit














theorem append_byte (base : Nat) (v : Value) (n : Nat) (l : List Value) (w : World) (x : Int) (hown : w.ownsRow base 5 1 v n l) (hs : n ≤ 70368744177663) (hbase : base ≤ w.heap.size) :
    ∃ v' w', (Builtin.append_ #[38, 38] 38 #[v, .slice (some ⟨w.heap.size, 0, none⟩) 1 1]).run Tryd.prog (w.alloc (.cells #[.int .u8 x] 5)) = .ok v' w' ∧ w'.ownsRow base 5 1 v' (n + 1) (l ++ [u8v x]) ∧ Below base w w' := by
  have ho := hown.alloc (.cells #[.int .u8 x] 5)
  obtain ⟨v', w', hrun, hown', hg⟩ := append_bytes base v n l (w.alloc (.cells #[.int .u8 x] 5)) ho (some ⟨w.heap.size, 0, none⟩) 1 1 (w.heap.size + 1) [x] rfl (fun _ => ⟨_, rfl, by simp, fun j u hu => by
    rcases j with _ | j
    · have hu' : u8v x = u := by simpa using hu
      subst hu'
      exact (Row.new w 5 #[.int .u8 x]).cell 0
    · simp at hu⟩) (by omega) (by simp; omega)
  refine ⟨v', w', hrun, hown', ?_⟩
  have hb : Below base w (w.alloc (.cells #[.int .u8 x] 5)) := (Below.refl _ _).alloc hbase _
  exact hb.trans (below_of_grown hg (fun g hg => (ho.lt g hg).1) (by simp; omega))
theorem own_len {base n : Nat} {v : Value} {l : List Value} {w : World} (h : w.ownsRow base 5 1 v n l) (hn : 0 < n) : ∃ g cap, v = .slice (some ⟨g, 0, none⟩) n cap := by
  rcases h.2 with ⟨_, h0⟩ | ⟨g, cap, cur, e, _⟩
  · omega
  · exact ⟨g, cap, e⟩
/-- the bytes ahead of the length -/
def headL (xs : List Int) (k : Nat) : List Int := xs ++ [128] ++ List.replicate k 0
def divs (k : Nat) : Int := 72057594037927936 / 256 ^ k
def tailL (n : Nat) : Nat → List Int
  | 0 => []
  | k + 1 => tailL n k ++ [8 * (n : Int) / divs k % 256]
theorem divs_step (k : Nat) (h : k < 8) : divs (k + 1) = divs k / 256 ∧ 0 < divs k ∧ divs k ≤ 72057594037927936 := by
  rcases k with _ | _ | _ | _ | _ | _ | _ | _ | k
  all_goals first | omega | decide
theorem tailL_all (n : Nat) (h : n ≤ 70368744177) : tailL n 8 = lenL n := by
  have d0 : divs 0 = 72057594037927936 := by decide
  have d1 : divs 1 = 281474976710656 := by decide
  have d2 : divs 2 = 1099511627776 := by decide
  have d3 : divs 3 = 4294967296 := by decide
  have d4 : divs 4 = 16777216 := by decide
  have d5 : divs 5 = 65536 := by decide
  have d6 : divs 6 = 256 := by decide
  have d7 : divs 7 = 1 := by decide
  simp only [tailL, d0, d1, d2, d3, d4, d5, d6, d7, lenL, List.nil_append, List.cons_append, List.cons.injEq, and_true]
  refine ⟨?_, ?_, ?_, ?_, ?_, ?_, ?_, ?_⟩
  all_goals first | omega | trivial
set_option maxHeartbeats 4000000 in
set_option maxRecDepth 100000 in
theorem rpad_any (A : Option Addr) (n c : Nat) (xs : List Int) (w : World) (hl : xs.length = n) (hn : n ≤ 70368744177) (hx : Bytes w w.heap.size A xs) :
    Calls Tryd.prog 60 #[.slice A n c] w fun e w' => ∃ v, e = .returned v ∧ w'.ownsRow w.heap.size 5 1 v ((n + 72) / 64 * 64) ((padL xs ((n + 72) / 64 * 64)).map u8v) ∧ Below w.heap.size w w' := by
  obtain ⟨v1, w1, hrun1, hown1, hg1⟩ := append_bytes w.heap.size (.slice none 0 0) 0 [] w (World.ownsRow_nil _ _ _ _) A n c w.heap.size xs hl hx (by omega) (Nat.le_refl _)
  have b1 : Below w.heap.size w w1 := below_of_grown hg1 (fun g hg => by simp [Value.ownBlock] at hg) (Nat.le_refl _)
  rw [Nat.zero_add, List.nil_append] at hown1
  obtain ⟨v2, w2, hrun2, hown2, b2⟩ := append_byte w.heap.size v1 n _ w1 128 hown1 (by omega) b1.size
  have HR1 := Lib.hid hrun1
  have HR2 := Lib.hid hrun2
  have O2 : Hid (w2.ownsRow w.heap.size 5 1 v2 (n + 1 + 0) ((headL xs 0).map u8v)) := by
    show World.ownsRow _ _ _ _ _ _ _
    simpa [headL, List.map_append] using hown2
  have B2 := Lib.hid (b1.trans b2)
  have HL := Lib.hid hl
  clear hrun1 hrun2 hown1 hown2 hg1 b2 hx hl
  obtain ⟨q, hq⟩ : ∃ q : Nat, n + 1 + q + 8 = (n + 72) / 64 * 64 := ⟨(n + 72) / 64 * 64 - n - 9, by omega⟩
  have hq1 : (n + 1 + q) % 64 = 56 := by omega
  have hq2 : q < 64 := by omega
  have HQ := Lib.hid hq
  clear hq
  go_enter Tryd.func60, Tryd.ntmps60
  go_wp2_with (first
    | (at_builtin; (with_reducible refine wpList_append_run (o := ⟨some 8, _, _, _, _, _⟩) ?_ (.const (.slice none 0 0)) (.tmp 7) ?_ ?_ ?_ ?_ HR1.out ?_); (rfl); (rfl); (rfl); (rfl); (rfl))
    | (at_builtin; (with_reducible refine wpList_append_run (o := ⟨some 11, _, _, _, _, _⟩) ?_ (.tmp 9) (.tmp 10) ?_ ?_ ?_ ?_ HR2.out ?_); (rfl); (rfl); (rfl); (rfl); (rfl)))
  go_loopw [3] (fun v u => ∃ k : Nat, k ≤ q ∧ Hid (u.ownsRow w.heap.size 5 1 v (n + 1 + k) ((headL xs k).map u8v) ∧ Below w.heap.size w u)) (fun v _ => n + 1 + q - (match v with | .slice _ m _ => m | _ => 0))
  case atStart => exact ⟨0, by omega, O2.out, B2.out⟩
  case round =>
    clear HR1 HR2 O2 B2
    obtain ⟨k, hk, hrows⟩ := hrel
    obtain ⟨hown, hbl⟩ := hrows.out
    obtain ⟨g, cap, rfl⟩ := own_len hown (by omega)
    by_cases hlt : k < q
    · have hne : (((n : Int) + 1 + (k : Int)) % 64 != 56) = true := by simp; omega
      obtain ⟨v', w', hrun, hown', hb2⟩ := append_byte w.heap.size _ _ _ wr 0 hown (by omega) hbl.size
      have HR := Lib.hid hrun
      have OO : Hid (w'.ownsRow w.heap.size 5 1 v' (n + 1 + (k + 1)) ((headL xs (k + 1)).map u8v)) := by
        show World.ownsRow _ _ _ _ _ _ _
        have e : headL xs (k + 1) = headL xs k ++ [0] := by simp [headL, List.replicate_succ']
        rw [e, List.map_append]
        exact hown'
      have BB := Lib.hid (hbl.trans hb2)
      obtain ⟨g', cap', rfl⟩ := own_len OO.out (by omega)
      clear hrun hown' hb2 hown hbl hrows
      go_wp2_with (at_builtin; (with_reducible refine wpList_append_run (o := ⟨some 18, _, _, _, _, _⟩) ?_ (.tmp 16) (.tmp 17) ?_ ?_ ?_ ?_ HR.out ?_); (rfl); (rfl); (rfl); (rfl); (rfl))
      go_roundw
      case rel => exact ⟨k + 1, by omega, OO.out, BB.out⟩
      case measure => show n + 1 + q - (n + 1 + (k + 1)) < n + 1 + q - (n + 1 + k); omega
    · obtain rfl : k = q := by omega
      have hne : (((n : Int) + 1 + (k : Int)) % 64 != 56) = false := by simp; omega
      have R0 := Lib.hid hrows.out
      clear hown hbl hrows
      go_wp2_with fail
      go_loopw [3, 5, 6] (fun v d i u => ∃ j : Nat, j ≤ 8 ∧ i = .int .i64 j ∧ d = .int .u64 (divs j) ∧ Hid (u.ownsRow w.heap.size 5 1 v (n + 1 + k + j) ((headL xs k ++ tailL n j).map u8v) ∧ Below w.heap.size w u)) (fun _ _ i _ => 8 - (intOf i).toNat)
      case atStart =>
        refine ⟨0, by omega, rfl, by rfl, ?_⟩
        have := R0.out
        show _ ∧ _
        simpa [tailL] using this
      case round =>
        clear R0
        obtain ⟨j, hj, rfl, rfl, hrows⟩ := hrel
        obtain ⟨hown, hbl⟩ := hrows.out
        obtain ⟨g1, cap1, rfl⟩ := own_len hown (by omega)
        by_cases hlt : j < 8
        · obtain ⟨ds, d0, d1⟩ := divs_step j hlt
          have DS := Lib.hid ds
          have hT : Hid (tailL n (j + 1) = tailL n j ++ [8 * (n : Int) / divs j % 256]) := rfl
          obtain ⟨v', w', hrun, hown', hb2⟩ := append_byte w.heap.size _ _ _ wr (8 * (n : Int) / divs j % 256) hown (by omega) hbl.size
          have HR := Lib.hid hrun
          have OO : Hid (w'.ownsRow w.heap.size 5 1 v' (n + 1 + k + (j + 1)) ((headL xs k ++ tailL n (j + 1)).map u8v)) := by
            show World.ownsRow _ _ _ _ _ _ _
            rw [hT.out, ← List.append_assoc, List.map_append]
            exact hown'
          have BB := Lib.hid (hbl.trans hb2)
          clear hrun hown' hb2 hown hbl hrows ds
          generalize divs j = d at *
          have p0 : 0 ≤ 8 * (n : Int) / d := Int.ediv_nonneg (by omega) (by omega)
          have p1 : 8 * (n : Int) / d ≤ 8 * (n : Int) := Int.ediv_le_self _ (by omega)
          have p2 : (d == 0) = false := by simp; omega
          go_wp2_with (at_builtin; (with_reducible refine wpList_append_run (o := ⟨some 34, _, _, _, _, _⟩) ?_ (.tmp 27) (.tmp 33) ?_ ?_ ?_ ?_ HR.out ?_); (rfl); (rfl); (rfl); (rfl); (rfl))
          go_roundw
          case rel => exact ⟨j + 1, by omega, by go_num, by rw [DS.out], OO.out, BB.out⟩
          case measure => simp [intOf]; omega
        · obtain rfl : j = 8 := by omega
          have hfin : headL xs k ++ tailL n 8 = padL xs ((n + 72) / 64 * 64) := by
            rw [tailL_all n (by omega)]
            unfold padL headL
            have hq := HQ.out
            rw [HL.out, show (n + 72) / 64 * 64 - 9 - n = k by omega]
          have OF : Hid (wr.ownsRow w.heap.size 5 1 (.slice (some ⟨g1, 0, none⟩) (n + 1 + k + 8) cap1) ((n + 72) / 64 * 64) ((padL xs ((n + 72) / 64 * 64)).map u8v)) := by
            show World.ownsRow _ _ _ _ _ _ _
            rw [← hfin, ← HQ.out]
            exact hown
          have BF := Lib.hid hbl
          clear hown hbl hrows hfin
          go_wp2
          go_ret
          exact ⟨_, rfl, OF.out, BF.out⟩
end Go.Proofs.YtbjojpgedcikiaaDoor

namespace Go.Proofs.YtbjojpgedcikiaaDoor
set_option maxRecDepth 8000
open Go.RowKit














theorem firstW_in : firstW.In := ⟨by unfold InW; decide, by unfold InW; decide, by unfold InW; decide, by unfold InW; decide, by unfold InW; decide, by unfold InW; decide, by unfold InW; decide, by unfold InW; decide⟩
theorem sumK_in (p : List Int) : ∀ k, (sumK p k).In
  | 0 => firstW_in
  | _ + 1 => S8.In.add _ _
theorem own_byte {base n g cap : Nat} {l : List Int} {w : World} (h : w.ownsRow base 5 1 (.slice (some ⟨g, 0, none⟩) n cap) n (l.map u8v)) (i : Nat) (hi : i < n) : w.cell? ⟨g, i, none⟩ = some (.int .u8 (l.getD i 0)) := by
  have hl : l.length = n := by have := h.1; simpa using this
  have := h.cells (g := g) rfl i (u8v (l.getD i 0)) (by simp [List.getD, List.getElem?_eq_getElem (by omega : i < l.length)])
  rw [Addr.add_mid, Nat.zero_add] at this
  exact this
set_option maxHeartbeats 4000000 in
set_option maxRecDepth 100000 in
theorem rsum_any (A : Option Addr) (n c : Nat) (xs : List Int) (w : World) (hl : xs.length = n) (hn : n ≤ 70368744177) (hx : Bytes w w.heap.size A xs) (hr : ∀ x ∈ xs, 0 ≤ x ∧ x ≤ 255) :
    Calls Tryd.prog 44 #[.slice A n c] w fun e w' => e = .returned (.agg (arrB 32 (sumL xs))) ∧ Below w.heap.size w w' := by
  have HL := Lib.hid hl
  have hsum : Hid (sumL xs = idPre (sumK (padL xs ((n + 72) / 64 * 64)) ((n + 72) / 64)) 8) := by show _ = _; rw [← hl]; rfl
  have HP := Lib.hid (padL_range xs ((n + 72) / 64 * 64) (by omega) hr)
  have hb0 : Below w.heap.size w (w.alloc (.cells (arrB 32 []) 24)) := (Below.refl _ _).alloc (Nat.le_refl _) _
  have HX := Lib.hid (hx.below hb0)
  clear hx hr hl
  go_enter Tryd.func44, Tryd.ntmps44
  go_wp2_with fail
  refine (rpad_any A n c xs _ HL.out hn (fun h => ?_)).mono ?_
  · obtain ⟨ad, e, hlt, hc⟩ := HX.out h
    exact ⟨ad, e, by simp; omega, hc⟩
  rintro e w1 ⟨vp, rfl, hown, b1⟩
  rw [World.size_alloc] at hown b1
  have q1 : (n + 72) / 64 ≤ 1099511629 := by omega
  have q0 : 0 < (n + 72) / 64 := by omega
  generalize padL xs ((n + 72) / 64 * 64) = pp at *
  generalize (n + 72) / 64 = q at *
  obtain ⟨gp, cp, rfl⟩ := own_len hown (by omega)
  have S1 : Sums w (.slice (some ⟨gp, 0, none⟩) (q * 64) cp) (q * 64) pp w1 := ⟨hb0.trans (b1.mono (by omega)), (Row.new w 24 _).below b1 (by omega), hown⟩
  clear hown b1 hb0 HX
  go_wp2_with fail
  refine (first_any w1).mono ?_
  rintro e w2 ⟨rfl, rf, b2⟩
  have S2 := Lib.hid (S1.below b2)
  have z1 := S1.z.lt
  have V2 : Hid (V8 (w.heap.size + 1) (.slice (some ⟨w1.heap.size, 0, none⟩) 8 8) (sumK pp 0) w2) := ⟨w1.heap.size, 8, firstW.cells, rfl, by omega, rf, fun i hi => S8.cells_get firstW i hi⟩
  clear S1 rf b2
  go_wp2_with fail
  go_loopw [4, 5] (fun v i u => ∃ k : Nat, k ≤ q ∧ i = .int .i64 (64 * (k : Int)) ∧ Hid (Sums w (.slice (some ⟨gp, 0, none⟩) (q * 64) cp) (q * 64) pp u ∧ V8 (w.heap.size + 1) v (sumK pp k) u)) (fun _ i _ => q * 64 - (intOf i).toNat)
  case atStart => exact ⟨0, by omega, rfl, S2.out, V2.out⟩
  case round =>
    clear S2 V2
    obtain ⟨k, hk, rfl, hrows⟩ := hrel
    obtain ⟨hS, hV⟩ := hrows.out
    by_cases hlt : k < q
    · obtain ⟨g, cap, cur, rfl, hg, hr, hc⟩ := hV
      have hcp : q * 64 ≤ cp := by
        rcases hS.p.2 with ⟨e, _⟩ | ⟨_, _, _, e, _, _, h1, _⟩
        · cases e
        · injection e with _ _ e3
          omega
      have hcm : cp ≤ maxLen := by
        rcases hS.p.2 with ⟨e, _⟩ | ⟨_, _, _, e, _, _, _, h1, _⟩
        · cases e
        · injection e with _ _ e3
          omega
      unfold maxLen at hcm
      have hgp : gp < wr.heap.size := by
        rcases hS.p.2 with ⟨e, _⟩ | ⟨_, _, _, e, _, h1, _⟩
        · cases e
        · injection e with e1 _ _
          have := Row.lt (t := 5) h1
          injection e1 with e1
          injection e1 with e1 _ _
          omega
      have SH := Lib.hid hS
      have RH := Lib.hid hr
      have CH := Lib.hid hc
      clear hS hr hc hrows
      have a1 : 64 * (k : Int) < (q : Int) * 64 := by omega
      have a2 : 64 * (k : Int) + 64 ≤ (q : Int) * 64 := by omega
      have a3 : ¬ cp = 64 * k := by omega
      go_wp2_with fail
      refine (rwords_any gp (64 * k) 64 (cp - 64 * k) (pp.drop (64 * k)) wr (Nat.le_refl _) hgp (fun i hi => ?_) (getD_range _ (fun x hx => HP.out x (List.mem_of_mem_drop hx)))).mono ?_
      · rw [own_byte SH.out.p (64 * k + i) (by omega)]
        simp [List.getD, List.getElem?_drop]
      rintro e w3 ⟨vw, rfl, how, b3⟩
      have S3 := Lib.hid (SH.out.below b3)
      have R3 := Lib.hid (RH.out.below b3 RH.out.lt)
      have W3 : ∃ gw cw, vw = .slice (some ⟨gw, 0, none⟩) 64 cw ∧ gw < w3.heap.size := by
        rcases how.2 with ⟨_, h0⟩ | ⟨gw, cw, _, e, _, h1, _⟩
        · omega
        · exact ⟨gw, cw, e, Row.lt (t := 50) h1⟩
      obtain ⟨gw, cw, rfl, hgw⟩ := W3
      have OW := Lib.hid how
      clear how b3 SH RH
      go_wp2_with fail
      refine (rrounds_any (sumK pp k) cur g cap gw cw (moreL (pp.drop (64 * k)) 48) w3 (sumK_in pp k) R3.out CH.out (fun i hi => own_cell OW.out i hi) hgw).mono ?_
      rintro e w4 ⟨v4, rfl, hV4, b4⟩
      have S4 := Lib.hid (S3.out.below b4)
      have z3 := S3.out.z.lt
      have V4 : Hid (V8 (w.heap.size + 1) v4 (sumK pp (k + 1)) w4) := hV4.mono (by omega)
      clear hV4 b4 S3 R3 OW CH
      go_wp2
      go_roundw
      case rel => exact ⟨k + 1, by omega, by go_num, S4.out, V4.out⟩
      case measure => simp [intOf]; omega
    · obtain rfl : k = q := by omega
      obtain ⟨g, cap, cur, rfl, hg, hr, hc⟩ := hV
      have hfin : Hid (sumL xs = idPre (sumK pp k) 8) := hsum
      have hin := Lib.hid (sumK_in pp k)
      generalize sumK pp k = st at *
      have hSz := hS.z
      have hSb := hS.b
      have zlt := hSz.lt
      have glt := hr.lt
      have e0 : Row (wr.alloc (.cells (arrB 32 []) 24)) w.heap.size 24 (arrB 32 []) := hSz.alloc _
      have e1 : Row (wr.alloc (.cells (arrB 32 []) 24)) g 50 cur := hr.alloc _
      have e2 : Row (wr.alloc (.cells (arrB 32 []) 24)) wr.heap.size 24 (arrB 32 []) := Row.new wr 24 _
      have e3 : Below w.heap.size w (wr.alloc (.cells (arrB 32 []) 24)) := hSb.alloc hSb.size _
      have E0 := Lib.hid e0
      have E1 := Lib.hid e1
      have E2 := Lib.hid e2
      have E3 := Lib.hid e3
      have CH := Lib.hid hc
      clear hSz hSb hr hS hrows hc e0 e1 e2 e3
      go_wp2_with fail
      generalize wr.heap.size = go at *
      go_loopw [7] (fun i u => ∃ j : Nat, j ≤ 8 ∧ i = .int .i64 j ∧ Hid (Row u w.heap.size 24 (arrB 32 []) ∧ Row u g 50 cur ∧ Row u go 24 (arrB 32 (idPre st j)) ∧ Below w.heap.size w u)) (fun i _ => 8 - (intOf i).toNat)
      case atStart => exact ⟨0, by omega, rfl, E0.out, E1.out, E2.out, E3.out⟩
      case round =>
        clear E0 E1 E2 E3
        obtain ⟨j, hj, rfl, hrows⟩ := hrel
        obtain ⟨r0, r1, r2, hbl⟩ := hrows.out
        by_cases hlt : j < 8
        · have ch : wr.cell? ⟨g, j, none⟩ = some (.int .u32 (st.get j)) := (r1.cell j).trans (CH.out j hlt)
          have e0 := (r2.cell (4 * j)).trans (arrB_get 32 _ (4 * j) (by rw [idPre_len]; omega) (by omega))
          have e1 := (r2.cell (4 * j + 1)).trans (arrB_get 32 _ (4 * j + 1) (by rw [idPre_len]; omega) (by omega))
          have e2 := (r2.cell (4 * j + 2)).trans (arrB_get 32 _ (4 * j + 2) (by rw [idPre_len]; omega) (by omega))
          have e3 := (r2.cell (4 * j + 3)).trans (arrB_get 32 _ (4 * j + 3) (by rw [idPre_len]; omega) (by omega))
          have f0 := r2.frozen (4 * j)
          have f1 := r2.frozen (4 * j + 1)
          have f2 := r2.frozen (4 * j + 2)
          have f3 := r2.frozen (4 * j + 3)
          have HPU := Lib.hid (idPre_put st j hlt)
          obtain ⟨i0, i1⟩ := hin.out.get j hlt
          have R0 := Lib.hid r0
          have R1 := Lib.hid r1
          have R2 := Lib.hid r2
          have BL := Lib.hid hbl
          have hne : ¬ g = go := by omega
          have hne2 : ¬ go = g := by omega
          clear r0 r1 r2 hbl hrows
          generalize st.get j = y at *
          have hyd : Hid (y / 16777216 % 256 = y / 16777216) := by show _ = _; omega
          go_wp2
          go_roundw
          case rel =>
            refine ⟨j + 1, by omega, by go_num, (((R0.out.far (by simp; omega) _).far (by simp; omega) _).far (by simp; omega) _).far (by simp; omega) _, (((R1.out.far (by simp; omega) _).far (by simp; omega) _).far (by simp; omega) _).far (by simp; omega) _, ?_, (((BL.out.setCell (by simp; omega) _).setCell (by simp; omega) _).setCell (by simp; omega) _).setCell (by simp; omega) _⟩
            rw [← HPU.out, hyd.out]
            exact (((R2.out.put _ _).put _ _).put _ _).put _ _
          case measure => simp [intOf]; omega
        · obtain rfl : j = 8 := by omega
          have hsz : Hid ((arrB 32 (idPre st 8)).size = 32 ∧ (arrB 32 []).size = (arrB 32 (idPre st 8)).size ∧ (arrB 32 (idPre st 8)).all (·.oneCell') = true) :=
            Lib.hid ⟨arrB_size _ _ (by rw [idPre_len]; omega), by rw [arrB_size 32 (idPre st 8) (by rw [idPre_len]; omega), arrB_size 32 [] (by simp)], arrB_one _ _⟩
          have HF : Hid (arrB 32 (sumL xs) = arrB 32 (idPre st 8)) := by show _ = _; rw [hfin.out]
          generalize arrB 32 (idPre st 8) = cs at *
          generalize arrB 32 [] = zs at *
          have R0 : Hid (wr.heap[w.heap.size]? = some (.cells zs 24 (0, 0))) := r0
          have R2 : Hid (wr.heap[go]? = some (.cells cs 24 (0, 0))) := r2
          have BL := Lib.hid hbl
          clear r0 r1 r2 hrows hbl
          go_wp2_with (first
            | ((with_reducible refine wpList_load_row (o := ⟨some 70, _, _, _, _, _⟩) ?_ 24 (.tmp 6) ?_ go ?_ 24 cs (0, 0) _ R2.out Tryd.underlying24 ?_ (info26 cs hsz.out.1) ?_); (rfl); (rfl); (rfl); (rfl))
            | ((with_reducible refine wpList_store_row (o := ⟨none, .store 24 _ _, _, _, _, _⟩) ?_ 24 (.tmp 2) (.tmp 70) ?_ w.heap.size cs ?_ ?_ 24 zs R0.out (info26 cs hsz.out.1) hsz.out.2.1 hsz.out.2.2 ?_); (rfl); (rfl); (rfl); (rfl))
            | ((with_reducible refine bodyPost_ret (v := .agg cs) ?_ ?_ ?_); (exact results_cell_row (p := 2) (ty := 24) Tryd.results44 _ _ w.heap.size 24 cs (0, 0) _ rfl (setRow_heap _ _ zs cs 24 (0, 0) R0.out) Tryd.underlying24 rfl (info26 cs hsz.out.1)); (rfl)))
          exact ⟨by rw [HF.out], below_setRow BL.out (Nat.le_refl _) _⟩
end Go.Proofs.YtbjojpgedcikiaaDoor

namespace Go.Proofs.YtbjojpgedcikiaaDoor
set_option maxRecDepth 8000
open Go.RowKit

/-- an append to one's own, and what it leaves as it was -/
theorem OwnB.appendG {w : World} {B : Nat} {v : Value} {xs : List Int} (h : OwnB w B v xs) {A : Option Addr} {m c B' : Nat} {ys : List Int} (hl : ys.length = m) (hy : Bytes w B' A ys) (hs : xs.length + m ≤ 70368744177664) (hB : B ≤ w.heap.size) :
    ∃ v' w', (Builtin.append_ #[38, 38] 38 #[v, .slice A m c]).run Tryd.prog w = .ok v' w' ∧ OwnB w' B v' (xs ++ ys) ∧ Below B w w' ∧ w.grownBy w' v.ownBlock := by
  obtain ⟨v', w', h1, h2, h3⟩ := append_bytes B v xs.length (xs.map u8v) w h A m c B' ys hl hy hs hB
  refine ⟨v', w', h1, ?_, below_of_grown h3 (fun g hg => (h.lt g hg).1) hB, h3⟩
  unfold OwnB
  rw [List.length_append, hl, List.map_append]
  exact h2
end Go.Proofs.YtbjojpgedcikiaaDoor

namespace Go.Proofs.YtbjojpgedcikiaaDoor
set_option maxRecDepth 8000
open Go.RowKit

theorem row_id {w : World} {g : Nat} {t : TypeId} {x : List Int} (hx : x.length = 32) (h : Row w g t (arrB 32 x)) : Bytes w w.heap.size (some ⟨g, 0, none⟩) x := Bytes.of_row (t := t) (fr := (0, 0)) (by rw [← arr_id hx]; exact h)
set_option maxRecDepth 20000 in
set_option maxHeartbeats 1000000 in
theorem rtext_any (a b : List Int) (w : World) (ha : a.length = 32) (hb : b.length = 32) :
    Calls Tryd.prog 64 #[idv a, idv b] w fun e w' => (∃ v, e = .returned v ∧ OwnB w' w.heap.size v (textT a b)) ∧ Below w.heap.size w w' := by
  obtain ⟨W, hW⟩ : ∃ W, ((w.alloc (.cells (arrB 32 a) 24)).alloc (.cells (arrB 32 b) 24)).alloc (.cells #[.int .u8 1] 5) = W := ⟨_, rfl⟩
  have r0 : Row W w.heap.size 24 (arrB 32 a) := by rw [← hW]; exact ((Row.new w 24 _).alloc _).alloc _
  have r1 : Row W (w.heap.size + 1) 24 (arrB 32 b) := by rw [← hW]; exact (Row.newAt (by simp) 24 _).alloc _
  have r2 : Row W (w.heap.size + 1 + 1) 5 #[.int .u8 1] := by rw [← hW]; exact Row.newAt (by simp) 5 _
  have hbW : Below w.heap.size w W := by rw [← hW]; exact (((Below.refl _ _).alloc (Nat.le_refl _) _).alloc (by simp) _).alloc (by simp; omega) _
  have hs : W.heap.size = w.heap.size + 3 := by rw [← hW]; simp
  have o0 : OwnB W w.heap.size (.slice (some ⟨w.heap.size + 1 + 1, 0, none⟩) 1 1) [1] := own_of_row (n := 1) r2 rfl (by omega) (by decide)
  obtain ⟨v1, w1, hrun1, own1, b1, g1⟩ := o0.appendG (m := 32) (c := 32) ha (row_id ha r0) (by simp) hbW.size
  have hb1 : Bytes w1 w1.heap.size (some ⟨w.heap.size + 1, 0, none⟩) b := by
    have h := g1.block (w.heap.size + 1) (by omega) (by simp [Value.ownBlock])
    exact row_id hb (h.trans r1)
  obtain ⟨v2, w2, hrun2, own2, b2⟩ := own1.append (m := 32) (c := 32) hb hb1 (by simp [ha]) (Nat.le_trans hbW.size b1.size)
  have HR1 := Lib.hid hrun1
  have HR2 := Lib.hid hrun2
  have HO := Lib.hid own2
  have HB := Lib.hid ((hbW.trans b1).trans b2)
  clear hrun1 hrun2 own1 own2 hb1 b1 b2 o0 r0 r1 r2 hbW hs g1
  unfold idv
  generalize arrB 32 a = ca at *
  generalize arrB 32 b = cb at *
  go_enter Tryd.func64, Tryd.ntmps64
  go_wp2_with (first
    | (at_builtin; (with_reducible refine wpList_append_run (o := ⟨some 8, _, _, _, _, _⟩) ?_ (.tmp 6) (.tmp 7) ?_ ?_ ?_ ?_ HR1.out ?_); (rfl); (rfl); (rfl); (rfl); (rfl))
    | (at_builtin; (with_reducible refine wpList_append_run (o := ⟨some 11, _, _, _, _, _⟩) ?_ (.tmp 9) (.tmp 10) ?_ ?_ ?_ ?_ HR2.out ?_); (rfl); (rfl); (rfl); (rfl); (rfl)))
  go_ret
  exact ⟨⟨_, rfl, by simpa [textT] using HO.out⟩, HB.out⟩
set_option maxRecDepth 20000 in
set_option maxHeartbeats 1000000 in
theorem rnode_any (a b : List Int) (w : World) (ha : a.length = 32) (hb : b.length = 32) (hA : ∀ x ∈ a, 0 ≤ x ∧ x ≤ 255) (hB : ∀ x ∈ b, 0 ≤ x ∧ x ≤ 255) :
    Calls Tryd.prog 46 #[idv a, idv b] w fun e w' => e = .returned (idv (nodeT a b)) ∧ Below w.heap.size w w' := by
  obtain ⟨W, hW⟩ : ∃ W, ((w.alloc (.cells (arrB 32 a) 24)).alloc (.cells (arrB 32 b) 24)).alloc (.cells (arrB 32 []) 24) = W := ⟨_, rfl⟩
  have r0 : Row W w.heap.size 24 (arrB 32 a) := by rw [← hW]; exact ((Row.new w 24 _).alloc _).alloc _
  have r1 : Row W (w.heap.size + 1) 24 (arrB 32 b) := by rw [← hW]; exact (Row.newAt (by simp) 24 _).alloc _
  have r2 : Row W (w.heap.size + 1 + 1) 24 (arrB 32 []) := by rw [← hW]; exact Row.newAt (by simp) 24 _
  have hbW : Below w.heap.size w W := by rw [← hW]; exact (((Below.refl _ _).alloc (Nat.le_refl _) _).alloc (by simp) _).alloc (by simp; omega) _
  have HT := Lib.hid (rtext_any a b W ha hb)
  have hlen : (textT a b).length = 65 := by unfold textT; simp [ha, hb]
  have HLEN := Lib.hid hlen
  have HBY := Lib.hid (textT_byte hA hB)
  have hsA : Hid ((arrB 32 a).size = 32 ∧ (arrB 32 b).size = 32 ∧ (arrB 32 []).size = 32) := ⟨arrB_size _ _ (by omega), arrB_size _ _ (by omega), arrB_size _ _ (by simp)⟩
  have HS : Hid (sumL (textT a b) = nodeT a b) := rfl
  have hz : Hid ((arrB 32 (nodeT a b)).size = 32 ∧ (arrB 32 (nodeT a b)).all (·.oneCell') = true) := ⟨arrB_size _ _ (by unfold nodeT; rw [sumL_len]; omega), arrB_one _ _⟩
  have R0 : Hid (W.heap[w.heap.size]? = some (.cells (arrB 32 a) 24 (0, 0))) := r0
  have R1 : Hid (W.heap[w.heap.size + 1]? = some (.cells (arrB 32 b) 24 (0, 0))) := r1
  have R2 := Lib.hid r2
  have HB := Lib.hid hbW
  have HW := Lib.hid hW
  clear r0 r1 r2 hbW hW hlen
  unfold idv at *
  generalize arrB 32 a = ca at *
  generalize arrB 32 b = cb at *
  go_enter Tryd.func46, Tryd.ntmps46
  go_upto_region 1 with (fail)
  rw [zero_cells, HW.out]
  go_wp2_with (first
    | ((with_reducible refine wpList_load_row (o := ⟨some 5, _, _, _, _, _⟩) ?_ 24 (.tmp 2) ?_ w.heap.size ?_ 24 ca (0, 0) _ R0.out Tryd.underlying24 ?_ (info26 ca hsA.out.1) ?_); (rfl); (rfl); (rfl); (rfl))
    | ((with_reducible refine wpList_load_row (o := ⟨some 6, _, _, _, _, _⟩) ?_ 24 (.tmp 3) ?_ (w.heap.size + 1) ?_ 24 cb (0, 0) _ R1.out Tryd.underlying24 ?_ (info26 cb hsA.out.2.1) ?_); (rfl); (rfl); (rfl); (rfl)))
  refine HT.out.mono ?_
  rintro e w1 ⟨⟨v, rfl, hv⟩, hb1⟩
  obtain ⟨A1, c1, rfl⟩ := hv.form
  rw [HLEN.out]
  rw [HLEN.out] at hv
  have HSUM := Lib.hid (rsum_any A1 65 c1 (textT a b) w1 HLEN.out (by omega) hv.up HBY.out)
  have R2' := Lib.hid (R2.out.below hb1 R2.out.lt)
  have HB1 := Lib.hid (HB.out.trans (hb1.mono HB.out.size))
  clear hv hb1 HT R0 R1 R2 HB
  go_wp2_with fail
  refine HSUM.out.mono ?_
  rintro e w2 ⟨rfl, hb2⟩
  rw [HS.out]
  have Q0 : Hid (w2.heap[w.heap.size + 1 + 1]? = some (.cells (arrB 32 []) 24 (0, 0))) := R2'.out.below hb2 R2'.out.lt
  have HB2 := Lib.hid (HB1.out.trans (hb2.mono HB1.out.size))
  clear hb2 HSUM R2' HB1
  generalize hcn : arrB 32 (nodeT a b) = cn at *
  have HCN := Lib.hid hcn
  clear hcn
  generalize arrB 32 [] = zs at *
  go_wp2_with (first
    | ((with_reducible refine wpList_store_row (o := ⟨none, .store 24 _ _, _, _, _, _⟩) ?_ 24 (.tmp 4) (.tmp 8) ?_ (w.heap.size + 1 + 1) cn ?_ ?_ 24 zs Q0.out (info26 cn hz.out.1) (by rw [hz.out.1, hsA.out.2.2]) hz.out.2 ?_); (rfl); (rfl); (rfl); (rfl))
    | ((with_reducible refine bodyPost_ret (v := .agg cn) ?_ ?_ ?_); (exact results_cell_row (p := 4) (ty := 24) Tryd.results46 _ _ (w.heap.size + 1 + 1) 24 cn (0, 0) _ rfl (setRow_heap _ _ zs cn 24 (0, 0) Q0.out) Tryd.underlying24 rfl (info26 cn hz.out.1)); (rfl)))
  exact ⟨by rw [HCN.out], below_setRow HB2.out (by omega) _⟩
end Go.Proofs.YtbjojpgedcikiaaDoor

namespace Go.Proofs.YtbjojpgedcikiaaDoor
set_option maxRecDepth 8000
open Go.RowKit

set_option maxRecDepth 20000 in
set_option maxHeartbeats 1000000 in
theorem rtHalf_any (n : Nat) (w : World) (h2 : 2 ≤ n) (hn : n ≤ 1099511627776) :
    Calls Tryd.prog 45 #[.int .i64 n] w fun e w' => e = .returned (.int .i64 (halfT n : Nat)) ∧ w = w' := by
  have h2' : (2 : Int) ≤ (n : Int) := by omega
  go_enter Tryd.func45, Tryd.ntmps45
  go_wp2_with fail
  go_loopw [3] (fun v u => ∃ k f : Nat, v = .int .i64 k ∧ 1 ≤ k ∧ k < n ∧ Hid (n ≤ k * 2 ^ f ∧ halfGo n f k = halfT n) ∧ u = w) (fun v _ => n - (intOf v).toNat)
  case atStart =>
    refine ⟨1, n, rfl, Nat.le_refl _, by omega, ⟨?_, rfl⟩, rfl⟩
    rw [Nat.one_mul]
    exact Nat.le_of_lt Nat.lt_two_pow_self
  case round =>
    obtain ⟨k, f, rfl, hk1, hkn, hh, rfl⟩ := hrel
    obtain ⟨hf, hg⟩ := hh.out
    clear hh
    by_cases hlt : 2 * k < n
    · have hlt2 : 2 * (k : Int) < (n : Int) := by omega
      obtain ⟨f, rfl⟩ : ∃ f', f = f' + 1 := by
        cases f with
        | zero => rw [Nat.pow_zero, Nat.mul_one] at hf; omega
        | succ f => exact ⟨f, rfl⟩
      have HN : Hid (n ≤ (2 * k) * 2 ^ f ∧ halfGo n f (2 * k) = halfT n) := by
        refine ⟨?_, ?_⟩
        · rw [Nat.pow_succ] at hf
          rw [Nat.mul_comm 2 k, Nat.mul_assoc, Nat.mul_comm 2]
          exact hf
        · rw [halfGo, if_pos hlt] at hg
          exact hg
      clear hf hg
      go_wp2
      go_roundw
      case rel => exact ⟨2 * k, f, by go_num, by omega, by omega, HN, trivial⟩
      case measure => simp [intOf]; omega
    · have hlt2 : ¬ 2 * (k : Int) < (n : Int) := by omega
      have HK : Hid (halfT n = k) := by
        show _ = _
        rw [← hg]
        cases f with
        | zero => rfl
        | succ f => rw [halfGo, if_neg hlt]
      clear hf hg
      go_wp2
      go_ret
      exact ⟨by rw [HK.out]; rfl, rfl⟩
set_option maxRecDepth 20000 in
set_option maxHeartbeats 1000000 in
theorem rsides_any : ∀ (n i : Nat) (w : World), 1 ≤ n → n ≤ 1000000 → i < n →
    Calls Tryd.prog 50 #[.int .i64 n, .int .i64 i] w fun e w' => (∃ v, e = .returned v ∧ OwnF w' w.heap.size v (sidesT n i)) ∧ Below w.heap.size w w' := by
  intro n
  induction n using Nat.strongRecOn with
  | _ n ih =>
    intro i w h1 hn hi
    by_cases hone : n = 1
    · subst hone
      go_enter Tryd.func50, Tryd.ntmps50
      go_wp2
      go_ret
      exact ⟨⟨_, rfl, OwnF.nil _ _⟩, Below.refl _ _⟩
    · have h2 : 2 ≤ n := by omega
      have hne : ¬ (n : Int) = 1 := by omega
      obtain ⟨a, b, c, -⟩ := half_spec h2
      have HH := Lib.hid (rtHalf_any n w h2 (by omega))
      by_cases hlow : i < halfT n
      · have HI := Lib.hid (ih (halfT n) b i w a (by omega) hlow)
        have hsl := Lib.hid (sides_low h2 hlow)
        have hlen : (sidesT (halfT n) i).length ≤ 1000000 := by
          have := sides_le (halfT n) (halfT n) i (Nat.le_of_lt Nat.lt_two_pow_self)
          omega
        generalize halfT n = k at *
        have hlow2 : (i : Int) < (k : Int) := by omega
        clear ih
        go_enter Tryd.func50, Tryd.ntmps50
        go_wp2_with fail
        refine HH.out.mono ?_
        rintro e w1 ⟨rfl, rfl⟩
        go_wp2_with fail
        refine HI.out.mono ?_
        rintro e w2 ⟨⟨v, rfl, hv⟩, hb⟩
        obtain ⟨v', w', hrun, hown, hb2⟩ := hv.append true hlen hb.size
        have HRUN := Lib.hid hrun
        have HO := Lib.hid hown
        have HB := Lib.hid (hb.trans hb2)
        clear hrun hown hb hb2 hv HH HI
        go_wp2_with (at_builtin; (with_reducible refine wpList_append_run (o := ⟨some 17, _, _, _, _, _⟩) ?_ (.tmp 15) (.tmp 16) ?_ ?_ ?_ ?_ HRUN.out ?_); (rfl); (rfl); (rfl); (rfl); (rfl))
        go_ret
        exact ⟨⟨_, rfl, by rw [hsl.out]; exact HO.out⟩, HB.out⟩
      · have HI := Lib.hid (ih (n - halfT n) (by omega) (i - halfT n) w (by omega) (by omega) (by omega))
        have hsl := Lib.hid (sides_high h2 hlow)
        have hlen : (sidesT (n - halfT n) (i - halfT n)).length ≤ 1000000 := by
          have := sides_le (n - halfT n) (n - halfT n) (i - halfT n) (Nat.le_of_lt Nat.lt_two_pow_self)
          omega
        generalize halfT n = k at *
        have hlow2 : ¬ (i : Int) < (k : Int) := by omega
        have e1 : ((n - k : Nat) : Int) = (n : Int) - (k : Int) := by omega
        have e2 : ((i - k : Nat) : Int) = (i : Int) - (k : Int) := by omega
        rw [e1, e2] at HI
        clear ih e1 e2
        go_enter Tryd.func50, Tryd.ntmps50
        go_wp2_with fail
        refine HH.out.mono ?_
        rintro e w1 ⟨rfl, rfl⟩
        go_wp2_with fail
        refine HI.out.mono ?_
        rintro e w2 ⟨⟨v, rfl, hv⟩, hb⟩
        obtain ⟨v', w', hrun, hown, hb2⟩ := hv.append false hlen hb.size
        have HRUN := Lib.hid hrun
        have HO := Lib.hid hown
        have HB := Lib.hid (hb.trans hb2)
        clear hrun hown hb hb2 hv HH HI
        go_wp2_with (at_builtin; (with_reducible refine wpList_append_run (o := ⟨some 26, _, _, _, _, _⟩) ?_ (.tmp 24) (.tmp 25) ?_ ?_ ?_ ?_ HRUN.out ?_); (rfl); (rfl); (rfl); (rfl); (rfl))
        go_ret
        exact ⟨⟨_, rfl, by rw [hsl.out]; exact HO.out⟩, HB.out⟩
end Go.Proofs.YtbjojpgedcikiaaDoor

namespace Go.Proofs.YtbjojpgedcikiaaDoor
set_option maxRecDepth 8000
open Go.RowKit

theorem run_cutI_h (A : Option Addr) (n c h : Nat) (w : World) (h2 : h ≤ c) :
    (Instr.sliceAt 22 (.slice A n c) none (some (.int .i64 (h : Int))) none).run Tryd.prog w = .ok (.slice A h c) w := by
  have ht' : Tryd.prog.underlying 22 = some (.slice (Tryd.prog.elem 22)) := by rw [elemI]; exact Tryd.underlying22
  rw [run_sliceAt_slice w _ _ _ _ _ ht', run_slice_h w 22 _ _ _ ht' .i64 _ (by omega) (by omega), elemI, sizeI]
  have e : (fun a : Addr => a.add (0 * 32)) = id := by
    funext a
    simp [Addr.add]
  simp only [Result.andThen, sliced, e, Option.map_id, Int.toNat_natCast, Nat.sub_zero, ite_self, id]
theorem run_cutI_l (A : Option Addr) (n c l : Nat) (w : World) (h1 : l ≤ n) :
    (Instr.sliceAt 22 (.slice A n c) (some (.int .i64 (l : Int))) none none).run Tryd.prog w = .ok (.slice (cutI' A l c) (n - l) (c - l)) w := by
  have ht' : Tryd.prog.underlying 22 = some (.slice (Tryd.prog.elem 22)) := by rw [elemI]; exact Tryd.underlying22
  rw [run_sliceAt_slice w _ _ _ _ _ ht', run_slice_l w 22 _ _ _ ht' .i64 _ (by omega) (by omega), elemI, sizeI]
  simp [Result.andThen, sliced, cutI']
section
variable {a : Act} {dst : Option Tmp} {x l h : Operand} {ty : TypeId} {pos : String} {after : Array Edge} {gd : Option (Nat × Bool)}
theorem cutIh_op {A : Option Addr} {n c j : Nat} (u : World) (h2 : j ≤ c) (hx : a.eval x = .slice A n c) (hh : a.eval h = .int .i64 (j : Int)) :
    (execOp a.eval ⟨dst, .slice 22 x none (some h) none, ty, pos, after, gd⟩).run Tryd.prog u = .ok (.value (.slice A j c)) u := by
  unfold execOp
  simp only [hx, hh, Option.map_some, Option.map_none, Sem.run_bind, Sem.run_pure, Result.andThen_ok, run_cutI_h A n c j u h2]
theorem cutIl_op {A : Option Addr} {n c j : Nat} (u : World) (h2 : j ≤ n) (hx : a.eval x = .slice A n c) (hh : a.eval l = .int .i64 (j : Int)) :
    (execOp a.eval ⟨dst, .slice 22 x (some l) none none, ty, pos, after, gd⟩).run Tryd.prog u = .ok (.value (.slice (cutI' A j c) (n - j) (c - j))) u := by
  unfold execOp
  simp only [hx, hh, Option.map_some, Option.map_none, Sem.run_bind, Sem.run_pure, Result.andThen_ok, run_cutI_l A n c j u h2]
end
end Go.Proofs.YtbjojpgedcikiaaDoor

namespace Go.Proofs.YtbjojpgedcikiaaDoor
set_option maxRecDepth 8000
open Go.RowKit

set_option maxRecDepth 20000 in
set_option maxHeartbeats 4000000 in
theorem rroot_any : ∀ (n : Nat) (l : List (List Int)) (A : Option Addr) (c : Nat) (w : World), l.length = n → n ≤ 1000000 → n ≤ c → c ≤ maxLen → isIds l → IdsIn w w.heap.size A l →
    Calls Tryd.prog 30 #[.slice A n c] w fun e w' => e = .returned (idv (rootT l)) ∧ Below w.heap.size w w' := by
  intro n
  induction n using Nat.strongRecOn with
  | _ n ih =>
    intro l A c w hl hn hc hcm hI hA
    have hid := root_id hI
    have hz : Hid ((arrB 32 (rootT l)).size = 32 ∧ (arrB 32 []).size = 32 ∧ (arrB 32 (rootT l)).all (·.oneCell') = true) := ⟨arrB_size _ _ (by omega), arrB_size _ _ (by simp), arrB_one _ _⟩
    by_cases h0 : n = 0
    · subst h0
      obtain rfl := List.eq_nil_of_length_eq_zero hl
      rw [root_none] at hz
      rw [root_none]
      have HS := Lib.hid (fun (u : World) (g : Nat) (h : Row u g 5 #[.int .u8 2]) => rsum_any (some ⟨g, 0, none⟩) 1 1 [2] u rfl (by omega) (own_of_row (B := 0) (n := 1) (xs := [2]) h rfl (Nat.zero_le _) (by decide)).up (by intro x hx; simp at hx; omega))
      clear ih hI hA hid hl
      go_enter Tryd.func30, Tryd.ntmps30
      go_upto_region 2 with (fail)
      rw [zero_cells]
      obtain ⟨W, hW⟩ : ∃ W, w.alloc (.cells (arrB 32 []) 24) = W := ⟨_, rfl⟩
      have R2 : Row W w.heap.size 24 (arrB 32 []) := by rw [← hW]; exact Row.new w 24 _
      have HB : Below w.heap.size w W := by rw [← hW]; exact (Below.refl _ _).alloc (Nat.le_refl _) _
      rw [hW]
      clear hW
      go_wp2_with fail
      have hba : Below W.heap.size W (W.alloc (.cells #[.int .u8 2] 5)) := (Below.refl _ _).alloc (Nat.le_refl _) _
      refine (HS.out _ _ (Row.new W 5 _)).mono ?_
      rintro e w2 ⟨rfl, hb2⟩
      have hb3 := hba.trans (hb2.mono hba.size)
      have Q0 : Hid (w2.heap[w.heap.size]? = some (.cells (arrB 32 []) 24 (0, 0))) := R2.below hb3 R2.lt
      have HB2 := Lib.hid (HB.trans (hb3.mono HB.size))
      clear hb2 hb3 hba R2 HB HS
      generalize hcn : arrB 32 (sumL [2]) = cn at *
      have HCN := Lib.hid hcn
      clear hcn
      generalize arrB 32 [] = zs at *
      go_wp2_with (first
        | ((with_reducible refine wpList_store_row (o := ⟨none, .store 24 _ _, _, _, _, _⟩) ?_ 24 (.tmp 2) (.tmp 8) ?_ w.heap.size cn ?_ ?_ 24 zs Q0.out (info26 cn hz.out.1) (by rw [hz.out.1, hz.out.2.1]) hz.out.2.2 ?_); (rfl); (rfl); (rfl); (rfl))
        | ((with_reducible refine bodyPost_ret (v := .agg cn) ?_ ?_ ?_); (exact results_cell_row (p := 2) (ty := 24) Tryd.results30 _ _ w.heap.size 24 cn (0, 0) _ rfl (setRow_heap _ _ zs cn 24 (0, 0) Q0.out) Tryd.underlying24 rfl (info26 cn hz.out.1)); (rfl)))
      exact ⟨by unfold idv; rw [HCN.out], below_setRow HB2.out (Nat.le_refl _) _⟩
    by_cases h1 : n = 1
    · subst h1
      obtain ⟨x, rfl⟩ : ∃ x, l = [x] := by
        match l, hl with
        | [x], _ => exact ⟨x, rfl⟩
      rw [root_one] at hz
      rw [root_one]
      have hba : Below w.heap.size w (w.alloc (.cells (arrB 32 []) 24)) := (Below.refl _ _).alloc (Nat.le_refl _) _
      obtain ⟨ad, rfl, hld⟩ := (hA.up hba).load hI (i := 0) (by simp)
      rw [show ad.add (0 * 32) = ad by simp [Addr.add]] at hld
      have HLD : Hid ((loadVar 24 ad).run Tryd.prog (w.alloc (.cells (arrB 32 []) 24)) = .ok (.agg (arrB 32 x)) (w.alloc (.cells (arrB 32 []) 24))) := hld
      have R2 := Row.new w 24 (arrB 32 [])
      clear ih hI hA hid hl hld
      go_enter Tryd.func30, Tryd.ntmps30
      go_upto_region 4 with (fail)
      rw [zero_cells]
      generalize w.alloc (.cells (arrB 32 []) 24) = W at *
      have Q0 : Hid (W.heap[w.heap.size]? = some (.cells (arrB 32 []) 24 (0, 0))) := R2
      clear R2
      generalize hcn : arrB 32 x = cn at *
      have HCN := Lib.hid hcn
      clear hcn
      generalize arrB 32 [] = zs at *
      go_wp2_with (first
        | ((with_reducible refine wpList_load_run (o := ⟨some 14, _, _, _, _, _⟩) ?_ 24 (.tmp 13) ?_ ad ?_ HLD.out ?_); (rfl); (rfl); (rfl))
        | ((with_reducible refine wpList_store_row (o := ⟨none, .store 24 _ _, _, _, _, _⟩) ?_ 24 (.tmp 2) (.tmp 14) ?_ w.heap.size cn ?_ ?_ 24 zs Q0.out (info26 cn hz.out.1) (by rw [hz.out.1, hz.out.2.1]) hz.out.2.2 ?_); (rfl); (rfl); (rfl); (rfl))
        | ((with_reducible refine bodyPost_ret (v := .agg cn) ?_ ?_ ?_); (exact results_cell_row (p := 2) (ty := 24) Tryd.results30 _ _ w.heap.size 24 cn (0, 0) _ rfl (setRow_heap _ _ zs cn 24 (0, 0) Q0.out) Tryd.underlying24 rfl (info26 cn hz.out.1)); (rfl)))
      exact ⟨by unfold idv; rw [HCN.out], below_setRow hba (Nat.le_refl _) _⟩
    · have h2 : 2 ≤ n := by omega
      obtain ⟨a, b, c2, -⟩ := half_spec h2
      have hcut := root_cut (l := l) (by omega)
      rw [hl] at hcut
      rw [hcut]
      have hi1 := root_id (hI.take (halfT n))
      have hi2 := root_id (hI.drop (halfT n))
      have l1 : (l.take (halfT n)).length = halfT n := by rw [List.length_take]; omega
      have l2 : (l.drop (halfT n)).length = n - halfT n := by rw [List.length_drop]; omega
      have HH := Lib.hid (fun u => rtHalf_any n u h2 (by omega))
      have HI1 : Hid (∀ u, EnvC w [(w.heap.size, Obj.cells (arrB 32 []) 24 (0, 0))] u → Calls Tryd.prog 30 #[.slice A (halfT n) c] u fun e w' => e = .returned (idv (rootT (l.take (halfT n)))) ∧ Below u.heap.size u w') := fun u hu =>
        ih (halfT n) b (l.take (halfT n)) A c u l1 (by omega) (by omega) hcm (hI.take _) ((hA.take hI _).up (EnvX.bel hu))
      have HI2 : Hid (∀ u, EnvC w [(w.heap.size, Obj.cells (arrB 32 []) 24 (0, 0))] u → Calls Tryd.prog 30 #[.slice (cutI' A (halfT n) c) (n - halfT n) (c - halfT n)] u fun e w' => e = .returned (idv (rootT (l.drop (halfT n)))) ∧ Below u.heap.size u w') := fun u hu =>
        ih (n - halfT n) (by omega) (l.drop (halfT n)) (cutI' A (halfT n) c) (c - halfT n) u l2 (by omega) (by omega) (by omega) (hI.drop _) ((hA.drop hI _ c (by omega)).up (EnvX.bel hu))
      have HND : Hid (∀ u, Calls Tryd.prog 46 #[idv (rootT (l.take (halfT n))), idv (rootT (l.drop (halfT n)))] u fun e w' => e = .returned (idv (nodeT (rootT (l.take (halfT n))) (rootT (l.drop (halfT n))))) ∧ Below u.heap.size u w') := fun u => rnode_any _ _ u hi1.1 hi2.1 hi1.2 hi2.2
      have HLN : Hid ((nodeT (rootT (l.take (halfT n))) (rootT (l.drop (halfT n)))).length ≤ 32) := by show _ ≤ _; rw [(node_id _ _).1]; omega
      have HKC : Hid (halfT n ≤ c) := by show _ ≤ _; omega
      have HKN : Hid (halfT n ≤ n) := by show _ ≤ _; omega
      have hne0 : ¬ (n : Int) = 0 := by omega
      have hne1 : ¬ (n : Int) = 1 := by omega
      have R2 := Row.new w 24 (arrB 32 [])
      have hba : Below w.heap.size w (w.alloc (.cells (arrB 32 []) 24)) := (Below.refl _ _).alloc (Nat.le_refl _) _
      clear ih hI hA hid hl hcut hi1 hi2 l1 l2 hz
      generalize halfT n = k at *
      go_enter Tryd.func30, Tryd.ntmps30
      go_upto_region 5 with (fail)
      rw [zero_cells]
      generalize w.alloc (.cells (arrB 32 []) 24) = W at *
      have E1 : Hid (EnvX w W [(w.heap.size, Obj.cells (arrB 32 []) 24 (0, 0))]) := ⟨hba, fun g o hm => by cases List.mem_singleton.1 hm; exact R2⟩
      clear R2 hba
      go_wp2_with fail
      refine (HH.out _).mono ?_
      rintro e w2 ⟨rfl, rfl⟩
      go_wp2_with fail
      refine wp_region_H (w0 := w) [(w.heap.size, Obj.cells (arrB 32 []) 24 (0, 0))] (by kernel_rfl) E1.out ?_
      refine anyH_phase [0, 1, 2, 3, 4, 5, 6, 7, 8] 1 rfl ⟨_, (EnvX.drew E1.out)⟩ (by kernel_rfl) ?_
      have hw1 : EnvX w _ [(w.heap.size, Obj.cells (arrB 32 []) 24 (0, 0))] := (EnvX.drew E1.out)
      have hone := @EnvC.one _ _ _ hw1
      (refine wpG_op rfl rfl rfl ?_; intro K hK; go_big_quiet_op; go_big_quiet_on)
      (refine wpG_op rfl rfl rfl ?_; intro K hK; go_big_quiet_op; go_big_quiet_on)
      (refine wpG_val (v := .slice A k c) rfl rfl (fun u hu => cutIh_op u HKC.out rfl rfl) ?_ hw1; intro K hK; go_big_quiet_op; go_big_quiet_on)
      (refine wpG_call (f := 30) (args := #[.slice A k c]) (v := idv (rootT (l.take k))) rfl rfl rfl Tryd.func30 rfl rfl (fun u hu => HI1.out u hu) ?_ hw1; intro K hK; go_big_quiet_op; go_big_quiet_on)
      (refine wpG_op rfl rfl rfl ?_; intro K hK; go_big_quiet_op; go_big_quiet_on)
      (refine wpG_op rfl rfl rfl ?_; intro K hK; go_big_quiet_op; go_big_quiet_on)
      (refine wpG_val (v := (.slice (cutI' A k c) (n - k) (c - k))) rfl rfl (fun u hu => cutIl_op u HKN.out rfl rfl) ?_ hw1; intro K hK; go_big_quiet_op; go_big_quiet_on)
      (refine wpG_call (f := 30) (args := #[(.slice (cutI' A k c) (n - k) (c - k))]) (v := idv (rootT (l.drop k))) rfl rfl rfl Tryd.func30 rfl rfl (fun u hu => HI2.out u hu) ?_ hw1; intro K hK; go_big_quiet_op; go_big_quiet_on)
      (refine wpG_call (f := 46) (args := #[idv (rootT (l.take k)), idv (rootT (l.drop k))]) (v := idv (nodeT (rootT (l.take k)) (rootT (l.drop k)))) rfl rfl rfl Tryd.func46 rfl rfl (fun u hu => HND.out u) ?_ hw1; intro K hK; go_big_quiet_op; go_big_quiet_on)
      clear hone hw1
      refine wpG_nil ?_
      refine anyH_one (i := 9) (by kernel_rfl) (hOp_store rfl (w.heap.size) (arrB 32 (nodeT (rootT (l.take k)) (rootT (l.drop k)))) rfl rfl (Nat.le_refl _) 24 (arrB 32 []) (List.Mem.head _) (info26 _ (arrB_size _ _ HLN.out)) ((arrB_size _ _ (by simp)).trans (arrB_size _ _ HLN.out).symm) (arrB_one _ _) [(w.heap.size, Obj.cells (arrB 32 (nodeT (rootT (l.take k)) (rootT (l.drop k)))) 24 (0, 0))] (List.forall_mem_cons.2 ⟨.inl rfl, (fun _ h => by cases h)⟩) ?_)
      intro he2
      refine anyH_done (by kernel_rfl) ?_
      intro u4 E2'
      have EX3 := Lib.hid E2'
      clear E2'
      have hsz : Hid ((arrB 32 (nodeT (rootT (l.take k)) (rootT (l.drop k)))).size = 32) := arrB_size _ _ HLN.out
      have Q0 : Hid (u4.heap[w.heap.size]? = some (.cells (arrB 32 (nodeT (rootT (l.take k)) (rootT (l.drop k)))) 24 (0, 0))) := EnvX.box EX3.out _ _ (List.Mem.head _)
      generalize hcn : arrB 32 (nodeT (rootT (l.take k)) (rootT (l.drop k))) = cn at *
      have HCN := Lib.hid hcn
      clear hcn
      go_wp2_with ((with_reducible refine bodyPost_ret (v := .agg cn) ?_ ?_ ?_); (exact results_cell_row (p := 2) (ty := 24) Tryd.results30 _ _ w.heap.size 24 cn (0, 0) _ rfl Q0.out Tryd.underlying24 rfl (info26 cn hsz.out)); (rfl))
      exact ⟨by unfold idv; rw [HCN.out], EX3.out.bel⟩
end Go.Proofs.YtbjojpgedcikiaaDoor

namespace Go.Proofs.YtbjojpgedcikiaaDoor
set_option maxRecDepth 8000
open Go.RowKit

theorem path_short {l : List (List Int)} (i : Nat) (h : l.length ≤ 1000000) : (pathT l i).length ≤ 1000000 := by
  rw [path_len _ l i rfl]
  exact Nat.le_trans (sides_le l.length l.length i (Nat.le_of_lt Nat.lt_two_pow_self)) h
set_option maxRecDepth 20000 in
set_option maxHeartbeats 4000000 in
theorem rpath_any : ∀ (n i : Nat) (l : List (List Int)) (A : Option Addr) (c : Nat) (w : World), l.length = n → i < n → n ≤ 1000000 → n ≤ c → c ≤ maxLen → isIds l → IdsIn w w.heap.size A l →
    Calls Tryd.prog 43 #[.slice A n c, .int .i64 i] w fun e w' => (∃ v, e = .returned v ∧ OwnI w' w.heap.size v (pathT l i)) ∧ Below w.heap.size w w' := by
  intro n
  induction n using Nat.strongRecOn with
  | _ n ih =>
    intro i l A c w hl hi hn hc hcm hI hA
    by_cases h1 : n = 1
    · subst h1
      obtain ⟨x, rfl⟩ : ∃ x, l = [x] := by
        match l, hl with
        | [x], _ => exact ⟨x, rfl⟩
      clear ih hI hA hl
      go_enter Tryd.func43, Tryd.ntmps43
      go_wp2
      go_ret
      exact ⟨⟨_, rfl, OwnI.nil _ _⟩, Below.refl _ _⟩
    · have h2 : 2 ≤ n := by omega
      have hne : ¬ (n : Int) = 1 := by omega
      obtain ⟨a, b, c2, -⟩ := half_spec h2
      have l1 : (l.take (halfT n)).length = halfT n := by rw [List.length_take]; omega
      have l2 : (l.drop (halfT n)).length = n - halfT n := by rw [List.length_drop]; omega
      have hr1 := root_id (hI.take (halfT n))
      have hr2 := root_id (hI.drop (halfT n))
      have HH := Lib.hid (rtHalf_any n w h2 (by omega))
      have HRT1 : Hid (∀ u, EnvX w u [] → Calls Tryd.prog 30 #[.slice A (halfT n) c] u fun e w' => e = .returned (idv (rootT (l.take (halfT n)))) ∧ Below u.heap.size u w') := fun u hu =>
        rroot_any (halfT n) (l.take (halfT n)) A c u l1 (by omega) (by omega) hcm (hI.take _) ((hA.take hI _).up (EnvX.bel hu))
      have HRT2 : Hid (∀ u, EnvX w u [] → Calls Tryd.prog 30 #[.slice (cutI' A (halfT n) c) (n - halfT n) (c - halfT n)] u fun e w' => e = .returned (idv (rootT (l.drop (halfT n)))) ∧ Below u.heap.size u w') := fun u hu =>
        rroot_any (n - halfT n) (l.drop (halfT n)) (cutI' A (halfT n) c) (c - halfT n) u l2 (by omega) (by omega) (by omega) (hI.drop _) ((hA.drop hI _ c (by omega)).up (EnvX.bel hu))
      have HKC : Hid (halfT n ≤ c) := by show _ ≤ _; omega
      have HKN : Hid (halfT n ≤ n) := by show _ ≤ _; omega
      have E1 : Hid (EnvX w w []) := EnvX.start w
      by_cases hlow : i < halfT n
      · have hp := Lib.hid (path_low (l := l) (by omega) (by rw [hl]; exact hlow))
        have HPI : Hid (isIds (pathT (l.take (halfT n)) i) ∧ isIds (pathT l i)) := ⟨path_ids _ _ _ rfl (hI.take _), path_ids _ _ _ rfl hI⟩
        have HPS : Hid ((pathT (l.take (halfT n)) i).length ≤ 1000000 ∧ (rootT (l.drop (halfT n))).length = 32) := ⟨path_short i (by omega), hr2.1⟩
        have HI : Hid (∀ u, EnvX w u [] → Calls Tryd.prog 43 #[.slice A (halfT n) c, .int .i64 i] u fun e w' => (∃ v, e = .returned v ∧ OwnI w' u.heap.size v (pathT (l.take (halfT n)) i)) ∧ Below u.heap.size u w') := fun u hu =>
          ih (halfT n) b i (l.take (halfT n)) A c u l1 hlow (by omega) (by omega) hcm (hI.take _) ((hA.take hI _).up (EnvX.bel hu))
        rw [hl] at hp
        clear ih hI hA hr1 hr2 l1 l2 HRT1 hl
        generalize halfT n = k at *
        have hlow2 : (i : Int) < (k : Int) := by omega
        go_enter Tryd.func43, Tryd.ntmps43
        go_wp2_with fail
        refine HH.out.mono ?_
        rintro e w1 ⟨rfl, rfl⟩
        go_wp2_with fail
        refine wp_region_H (w0 := w) [] (by kernel_rfl) E1.out ?_
        refine anyH_phase [0, 1, 2, 3, 5, 6, 7] 5 rfl ⟨_, (EnvX.drew E1.out)⟩ (by kernel_rfl) ?_
        have hw1 : EnvX w _ [] := (EnvX.drew E1.out)
        have hone := @EnvC.one _ _ _ hw1
        (refine wpG_op rfl rfl rfl ?_; intro K hK; go_big_quiet_op; go_big_quiet_on)
        (refine wpG_op rfl rfl rfl ?_; intro K hK; go_big_quiet_op; go_big_quiet_on)
        (refine wpG_val (v := .slice A k c) rfl rfl (fun u hu => cutIh_op u HKC.out rfl rfl) ?_ hw1; intro K hK; go_big_quiet_op; go_big_quiet_on)
        (refine wpG_op rfl rfl rfl ?_; intro K hK; go_big_quiet_op; go_big_quiet_on)
        (refine wpG_op rfl rfl rfl ?_; intro K hK; go_big_quiet_op; go_big_quiet_on)
        (refine wpG_op rfl rfl rfl ?_; intro K hK; go_big_quiet_op; go_big_quiet_on)
        (refine wpG_val (v := (.slice (cutI' A k c) (n - k) (c - k))) rfl rfl (fun u hu => cutIl_op u HKN.out rfl rfl) ?_ hw1; intro K hK; go_big_quiet_op; go_big_quiet_on)
        clear hone hw1
        refine wpG_nil ?_
        refine anyH_one (i := 4) (by kernel_rfl) (hOp_fresh (R := FreshI (pathT (l.take k) i)) (M0 := []) rfl rfl (fun _ h => h) (fun u hu => FAt_call (fid := 43) (xs := #[.tmp 17, .tmp 18]) (args := #[.slice A k c, .int .i64 i]) rfl Tryd.func43 rfl rfl u (callsI_fresh (HI.out u (EnvX.sub hu (fun _ h => by cases h))))) ?_)
        rintro x N hF hf he2; intro K' hK'; go_big_quiet_op; go_big_quiet_on
        have HFN := Lib.hid hf
        have HF := Lib.hid hF
        clear hF
        clear hf
        change anyH _ _ _ _ _ _ _ _ (N ++ [])
        refine anyH_phase [8] 3 rfl ⟨_, he2.choose_spec⟩ (by kernel_rfl) ?_
        have hw3 : EnvX w _ (N ++ []) := he2.choose_spec
        have hone := @EnvC.one _ _ _ hw3
        (refine wpG_call (f := 30) (args := #[(.slice (cutI' A k c) (n - k) (c - k))]) (v := idv (rootT (l.drop k))) rfl rfl rfl Tryd.func30 rfl rfl (fun u hu => HRT2.out u (EnvX.sub hu (fun _ h => by cases h))) ?_ hw3; intro K hK; go_big_quiet_op; go_big_quiet_on)
        clear hone hw3
        refine wpG_nil ?_
        refine anyH_one (i := 9) (by kernel_rfl) (hOp_fresh (R := BuiltI (rootT (l.drop k))) (M0 := (N ++ [])) rfl rfl (fun _ h => h) (fun u hu => FAt_buildI HPS.out.2 rfl u) ?_)
        rintro x N ⟨g, rfl, rfl⟩ hf he4; intro K' hK'; go_big_quiet_op; go_big_quiet_on
        clear hf
        change anyH _ _ _ _ _ _ _ _ ((g, Obj.cells (arrB 32 (rootT (l.drop k))) 24 (0, 0)) :: (N ++ []))
        refine anyH_one (i := 10) (by kernel_rfl) (hOp_own (gd := none) (R := GrownI w ((pathT (l.take k) i) ++ [rootT (l.drop k)]) []) rfl rfl rfl rfl (fun u hu => appI_op [] hu HPI.out.1 HPS.out.2 HF.out (fun y hy => ⟨List.Mem.tail _ (List.mem_append_left _ hy), (HFN.out y hy).1⟩) (List.Mem.head _) (fun z hz => by cases hz) HPS.out.1 rfl rfl) ?_)
        rintro x M' ⟨N2, rfl, hF2, hf2⟩ he5; intro K' hK'; go_big_quiet_op; go_big_quiet_on
        have HF2 := Lib.hid (And.intro hF2 hf2)
        clear hF2 hf2
        change anyH _ _ _ _ _ _ _ _ (N2 ++ [])
        refine anyH_phase [11] 0 rfl ⟨_, he5.choose_spec⟩ (by kernel_rfl) ?_
        have hw6 : EnvX w _ (N2 ++ []) := he5.choose_spec
        have hone := @EnvC.one _ _ _ hw6
        (refine wpG_op rfl rfl rfl ?_; intro K hK; go_big_quiet_op; go_big_quiet_on)
        clear hone hw6
        refine wpG_nil ?_
        refine anyH_done (by kernel_rfl) ?_
        intro u8 E2'
        have EX7 := Lib.hid E2'
        clear E2'
        go_wp2
        go_ret
        exact ⟨⟨_, rfl, by rw [hp.out]; exact HF2.out.1.own (by rw [← hp.out]; exact HPI.out.2) (fun y hy => ⟨(HF2.out.2 y hy).1, EnvX.box EX7.out _ _ (List.mem_append_left _ hy)⟩)⟩, EnvX.bel EX7.out⟩
      · have hp := Lib.hid (path_high (l := l) (by omega) (by rw [hl]; exact hlow))
        have HPI : Hid (isIds (pathT (l.drop (halfT n)) (i - halfT n)) ∧ isIds (pathT l i)) := ⟨path_ids _ _ _ rfl (hI.drop _), path_ids _ _ _ rfl hI⟩
        have HPS : Hid ((pathT (l.drop (halfT n)) (i - halfT n)).length ≤ 1000000 ∧ (rootT (l.take (halfT n))).length = 32) := ⟨path_short _ (by omega), hr1.1⟩
        have HI : Hid (∀ u, EnvX w u [] → Calls Tryd.prog 43 #[.slice (cutI' A (halfT n) c) (n - halfT n) (c - halfT n), .int .i64 ((i : Int) - (halfT n : Int))] u fun e w' => (∃ v, e = .returned v ∧ OwnI w' u.heap.size v (pathT (l.drop (halfT n)) (i - halfT n))) ∧ Below u.heap.size u w') := fun u hu => by
          have h := ih (n - halfT n) (by omega) (i - halfT n) (l.drop (halfT n)) (cutI' A (halfT n) c) (c - halfT n) u l2 (by omega) (by omega) (by omega) (by omega) (hI.drop _) ((hA.drop hI _ c (by omega)).up (EnvX.bel hu))
          rwa [show ((i - halfT n : Nat) : Int) = (i : Int) - (halfT n : Int) by omega] at h
        rw [hl] at hp
        clear ih hI hA hr1 hr2 l1 l2 HRT2 hl
        generalize halfT n = k at *
        have hlow2 : ¬ (i : Int) < (k : Int) := by omega
        go_enter Tryd.func43, Tryd.ntmps43
        go_wp2_with fail
        refine HH.out.mono ?_
        rintro e w1 ⟨rfl, rfl⟩
        go_wp2_with fail
        refine wp_region_H (w0 := w) [] (by kernel_rfl) E1.out ?_
        refine anyH_phase [0, 1, 2, 3, 4, 5, 7, 8, 9] 5 rfl ⟨_, (EnvX.drew E1.out)⟩ (by kernel_rfl) ?_
        have hw1 : EnvX w _ [] := (EnvX.drew E1.out)
        have hone := @EnvC.one _ _ _ hw1
        (refine wpG_op rfl rfl rfl ?_; intro K hK; go_big_quiet_op; go_big_quiet_on)
        (refine wpG_op rfl rfl rfl ?_; intro K hK; go_big_quiet_op; go_big_quiet_on)
        (refine wpG_val (v := (.slice (cutI' A k c) (n - k) (c - k))) rfl rfl (fun u hu => cutIl_op u HKN.out rfl rfl) ?_ hw1; intro K hK; go_big_quiet_op; go_big_quiet_on)
        (refine wpG_op rfl rfl rfl ?_; intro K hK; go_big_quiet_op; go_big_quiet_on)
        (refine wpG_op rfl rfl rfl ?_; intro K hK; go_big_quiet_op; go_big_quiet_on)
        (refine wpG_op rfl rfl rfl ?_; intro K hK; go_big_quiet_op; go_big_quiet_on)
        (refine wpG_op rfl rfl rfl ?_; intro K hK; go_big_quiet_op; go_big_quiet_on)
        (refine wpG_op rfl rfl rfl ?_; intro K hK; go_big_quiet_op; go_big_quiet_on)
        (refine wpG_val (v := .slice A k c) rfl rfl (fun u hu => cutIh_op u HKC.out rfl rfl) ?_ hw1; intro K hK; go_big_quiet_op; go_big_quiet_on)
        clear hone hw1
        refine wpG_nil ?_
        refine anyH_one (i := 6) (by kernel_rfl) (hOp_fresh (R := FreshI (pathT (l.drop k) (i - k))) (M0 := []) rfl rfl (fun _ h => h) (fun u hu => FAt_call (fid := 43) (xs := #[.tmp 28, .tmp 31]) (args := #[(.slice (cutI' A k c) (n - k) (c - k)), .int .i64 ((i : Int) - (k : Int))]) rfl Tryd.func43 rfl rfl u (callsI_fresh (HI.out u (EnvX.sub hu (fun _ h => by cases h))))) ?_)
        rintro x N hF hf he2; intro K' hK'; go_big_quiet_op; go_big_quiet_on
        have HFN := Lib.hid hf
        have HF := Lib.hid hF
        clear hF
        clear hf
        change anyH _ _ _ _ _ _ _ _ (N ++ [])
        refine anyH_phase [10] 3 rfl ⟨_, he2.choose_spec⟩ (by kernel_rfl) ?_
        have hw3 : EnvX w _ (N ++ []) := he2.choose_spec
        have hone := @EnvC.one _ _ _ hw3
        (refine wpG_call (f := 30) (args := #[.slice A k c]) (v := idv (rootT (l.take k))) rfl rfl rfl Tryd.func30 rfl rfl (fun u hu => HRT1.out u (EnvX.sub hu (fun _ h => by cases h))) ?_ hw3; intro K hK; go_big_quiet_op; go_big_quiet_on)
        clear hone hw3
        refine wpG_nil ?_
        refine anyH_one (i := 11) (by kernel_rfl) (hOp_fresh (R := BuiltI (rootT (l.take k))) (M0 := (N ++ [])) rfl rfl (fun _ h => h) (fun u hu => FAt_buildI HPS.out.2 rfl u) ?_)
        rintro x N ⟨g, rfl, rfl⟩ hf he4; intro K' hK'; go_big_quiet_op; go_big_quiet_on
        clear hf
        change anyH _ _ _ _ _ _ _ _ ((g, Obj.cells (arrB 32 (rootT (l.take k))) 24 (0, 0)) :: (N ++ []))
        refine anyH_one (i := 12) (by kernel_rfl) (hOp_own (gd := none) (R := GrownI w ((pathT (l.drop k) (i - k)) ++ [rootT (l.take k)]) []) rfl rfl rfl rfl (fun u hu => appI_op [] hu HPI.out.1 HPS.out.2 HF.out (fun y hy => ⟨List.Mem.tail _ (List.mem_append_left _ hy), (HFN.out y hy).1⟩) (List.Mem.head _) (fun z hz => by cases hz) HPS.out.1 rfl rfl) ?_)
        rintro x M' ⟨N2, rfl, hF2, hf2⟩ he5; intro K' hK'; go_big_quiet_op; go_big_quiet_on
        have HF2 := Lib.hid (And.intro hF2 hf2)
        clear hF2 hf2
        change anyH _ _ _ _ _ _ _ _ (N2 ++ [])
        refine anyH_phase [13] 0 rfl ⟨_, he5.choose_spec⟩ (by kernel_rfl) ?_
        have hw6 : EnvX w _ (N2 ++ []) := he5.choose_spec
        have hone := @EnvC.one _ _ _ hw6
        (refine wpG_op rfl rfl rfl ?_; intro K hK; go_big_quiet_op; go_big_quiet_on)
        clear hone hw6
        refine wpG_nil ?_
        refine anyH_done (by kernel_rfl) ?_
        intro u8 E2'
        have EX7 := Lib.hid E2'
        clear E2'
        go_wp2
        go_ret
        exact ⟨⟨_, rfl, by rw [hp.out]; exact HF2.out.1.own (by rw [← hp.out]; exact HPI.out.2) (fun y hy => ⟨(HF2.out.2 y hy).1, EnvX.box EX7.out _ _ (List.mem_append_left _ hy)⟩)⟩, EnvX.bel EX7.out⟩
end Go.Proofs.YtbjojpgedcikiaaDoor

namespace Go.Proofs.YtbjojpgedcikiaaDoor
set_option maxRecDepth 8000
open Go.RowKit

set_option maxRecDepth 20000 in
set_option maxHeartbeats 1000000 in
theorem rPath_none (n : Nat) (i : Int) (A : Option Addr) (c : Nat) (w : World) (hn : n ≤ maxLen) (hi0 : -9223372036854775808 ≤ i) (hi1 : i ≤ 9223372036854775807) (h : ¬ (n ≤ 64 ∧ 0 ≤ i ∧ i < n)) :
    Calls Tryd.prog 28 #[.slice A n c, .int .i64 i] w fun e w' => e = .returned (.tuple #[.slice none 0 0, .bool false]) ∧ w' = w := by
  unfold maxLen at hn
  by_cases h1 : 64 < n
  · have h1' : (64 : Int) < n := by omega
    go_enter Tryd.func28, Tryd.ntmps28
    go_wp2
    go_returns
    exact ⟨rfl, rfl⟩
  · have h1' : ¬ (64 : Int) < n := by omega
    by_cases h2 : i < 0
    · go_enter Tryd.func28, Tryd.ntmps28
      go_wp2
      go_returns
      exact ⟨rfl, rfl⟩
    · have h3 : (n : Int) ≤ i := by omega
      go_enter Tryd.func28, Tryd.ntmps28
      go_wp2
      go_returns
      exact ⟨rfl, rfl⟩
set_option maxRecDepth 20000 in
set_option maxHeartbeats 1000000 in
theorem rPath_some (i : Nat) (l : List (List Int)) (A : Option Addr) (c : Nat) (w : World) (hn : l.length ≤ 64) (hi : i < l.length) (hc : l.length ≤ c) (hcm : c ≤ maxLen) (hI : isIds l) (hA : IdsIn w w.heap.size A l) :
    Calls Tryd.prog 28 #[.slice A l.length c, .int .i64 i] w fun e w' => (∃ v, e = .returned (.tuple #[v, .bool true]) ∧ OwnI w' w.heap.size v (pathT l i)) ∧ Below w.heap.size w w' := by
  have HP := Lib.hid (rpath_any l.length i l A c w rfl hi (by omega) hc hcm hI hA)
  generalize pathT l i = p at *
  clear hI hA
  generalize l.length = n at *
  have h1' : ¬ (64 : Int) < n := by omega
  have h2 : ¬ (i : Int) < 0 := by omega
  have h3 : ¬ (n : Int) ≤ i := by omega
  go_enter Tryd.func28, Tryd.ntmps28
  go_wp2_with fail
  refine HP.out.mono ?_
  rintro e w1 ⟨⟨v, rfl, ho⟩, hb⟩
  have HO := Lib.hid ho
  have HB := Lib.hid hb
  clear ho hb
  go_wp2
  go_returns
  exact ⟨⟨_, rfl, HO.out⟩, HB.out⟩
end Go.Proofs.YtbjojpgedcikiaaDoor

namespace Go.Proofs.YtbjojpgedcikiaaDoor
set_option maxRecDepth 8000
open Go.RowKit

section
variable {a : Act} {dst : Option Tmp} {x : Operand} {ty : TypeId} {pos : String} {after : Array Edge} {gd : Option (Nat × Bool)}
/-- one out of a list in a box -/
theorem boxes_load {w0 u : World} {M : Boxes} {l : List (List Int)} {v : Value} {N : Boxes} {g n c : Nat} (hu : EnvC w0 M u) (hF : FreshI l v N) (hN : ∀ y ∈ N, y ∈ M) (hl : isIds l) (hv : v = .slice (some ⟨g, 0, none⟩) n c) {k : Nat} (hk : k < l.length) :
    (loadVar 24 ⟨g, k * 32, none⟩).run Tryd.prog u = .ok (idv (l.getD k [])) u := by
  have ho : OwnI u 0 v l := hF.own hl (fun y hy => ⟨Nat.zero_le _, EnvX.box hu _ _ (hN y hy)⟩)
  subst hv
  obtain ⟨ad, e, h⟩ := ho.ids.load hl hk
  rw [← Option.some.inj e, Addr.add_mid, Nat.zero_add] at h
  exact h
end
end Go.Proofs.YtbjojpgedcikiaaDoor

namespace Go.Proofs.YtbjojpgedcikiaaDoor
set_option maxRecDepth 8000
open Go.RowKit

/-- what comes of a leaf: the first k steps -/
def outsK (s : List Bool) (x : List Int) (p : List (List Int)) (k : Nat) : List (List Int) := (List.range (k + 1)).map (climbK s x p)
theorem outs_zero (s : List Bool) (x : List Int) (p : List (List Int)) : outsK s x p 0 = [x] := rfl
theorem outs_succ (s : List Bool) (x : List Int) (p : List (List Int)) (k : Nat) : outsK s x p (k + 1) = outsK s x p k ++ [climbK s x p (k + 1)] := by
  unfold outsK
  rw [List.range_succ, List.map_append]
  rfl
theorem outs_len (s : List Bool) (x : List Int) (p : List (List Int)) (k : Nat) : (outsK s x p k).length = k + 1 := by simp [outsK]
theorem outs_get (s : List Bool) (x : List Int) (p : List (List Int)) {k j : Nat} (h : j ≤ k) : (outsK s x p k).getD j [] = climbK s x p j := by
  unfold outsK
  rw [List.getD_eq_getElem?_getD, List.getElem?_map, List.getElem?_range (by omega)]
  rfl
theorem outs_ids (s : List Bool) (x : List Int) (p : List (List Int)) (hx : x.length = 32 ∧ ∀ b ∈ x, 0 ≤ b ∧ b ≤ 255) (k : Nat) : isIds (outsK s x p k) := by
  intro y hy
  obtain ⟨j, _, rfl⟩ := List.mem_map.1 hy
  exact climb_id s x p hx j
set_option maxRecDepth 20000 in
set_option maxHeartbeats 4000000 in
theorem rclimb_any (n : Nat) (s : List Bool) (x : List Int) (p : List (List Int)) (As : Option Addr) (cs : Nat) (A : Option Addr) (m c : Nat) (w : World) (hs : s.length = n) (hn : n ≤ 1000000) (hS : OwnF w 0 (.slice As n cs) s)
    (hx : x.length = 32 ∧ ∀ b ∈ x, 0 ≤ b ∧ b ≤ 255) (hm : p.length = m) (hnm : n ≤ m) (hmc : m ≤ c) (hcm : c ≤ maxLen) (hI : isIds p) (hA : IdsIn w w.heap.size A p) :
    Calls Tryd.prog 51 #[.slice As n cs, idv x, .slice A m c] w fun e w' => (∃ v, e = .returned v ∧ OwnI w' w.heap.size v (outsK s x p n)) ∧ Below w.heap.size w w' := by
  unfold maxLen at hcm
  have HX := Lib.hid hx
  have HS := Lib.hid hS
  have HAI := Lib.hid (And.intro hA hI)
  have HM := Lib.hid hm
  have hOI := Lib.hid (outs_ids s x p hx)
  have hCI := Lib.hid (climb_id s x p hx)
  have E1 : Hid (EnvX w (w.alloc (.cells (arrB 32 x) 24)) [(w.heap.size, Obj.cells (arrB 32 x) 24 (0, 0))]) := (EnvX.start w).new _
  clear hx hS hA hI hm
  unfold idv
  go_enter Tryd.func51, Tryd.ntmps51
  go_upto_region 1 with (fail)
  generalize w.alloc (.cells (arrB 32 x) 24) = W at *
  refine wp_region_Hx (w0 := w) [0, 1, 2] [(w.heap.size, Obj.cells (arrB 32 x) 24 (0, 0))] rfl E1.out ?_
  refine lexH_phase [0] [1, 2] ?_
  have hw1 : EnvX w _ [(w.heap.size, Obj.cells (arrB 32 x) 24 (0, 0))] := E1.out
  have hone := @EnvC.one _ _ _ hw1
  (refine wpG_val (v := idv x) rfl rfl (fun u hu => load_run_op u (box_load hu (List.Mem.head _) HX.out.1) rfl) ?_ hw1; intro K hK; go_big_quiet_op; go_big_quiet_on)
  clear hone hw1
  refine wpG_nil ?_
  refine (hOp_fresh (R := BuiltI x) (M0 := [(w.heap.size, Obj.cells (arrB 32 x) 24 (0, 0))]) rfl rfl (fun _ h => h) (fun u hu => FAt_buildI HX.out.1 rfl u) ?_)
  rintro x N ⟨g, rfl, rfl⟩ hf he2; intro K' hK'; go_big_quiet_op; go_big_quiet_on
  have HFG := Lib.hid hf
  clear hf
  change lexH _ _ _ _ _ _ [(g, Obj.cells (arrB 32 x) 24 (0, 0)), (w.heap.size, Obj.cells (arrB 32 x) 24 (0, 0))]
  refine lexH_phase [2] [] ?_
  have hw3 : EnvX w _ [(g, Obj.cells (arrB 32 x) 24 (0, 0)), (w.heap.size, Obj.cells (arrB 32 x) 24 (0, 0))] := he2.choose_spec
  have hone := @EnvC.one _ _ _ hw3
  (refine wpG_op rfl rfl rfl ?_; intro K hK; go_big_quiet_op; go_big_quiet_on)
  clear hone hw3
  refine wpG_nil ?_
  intro u5 E2'
  have EX4 := Lib.hid E2'
  clear E2'
  go_upto_region 3 with (fail)
  have HINV : Hid (∃ N, FreshI (outsK s x p 0) (.slice (some ⟨g, 0, none⟩) 1 1) N ∧ freshN w N [] ∧ EnvX w u5 N) := by
    refine ⟨_, .inl ⟨g, 1, arrB 32 x, rfl, rfl, Nat.le_refl _, by decide, arrB_size _ _ (by rw [HX.out.1]; omega), ?_⟩, ?_, EnvX.sub EX4.out (fun y hy => ?_)⟩
    · rw [outs_zero, arr_id HX.out.1]
      simp [HX.out.1]
      exact List.take_of_length_le (by simp [HX.out.1])
    · intro y hy
      cases List.mem_singleton.1 hy
      exact ⟨(HFG.out _ (List.mem_singleton.2 rfl)).1, fun z hz => by cases hz⟩
    · cases List.mem_singleton.1 hy
      exact List.Mem.head _
  clear HFG EX4
  go_loopw [7, 8] (fun v i u => ∃ k : Nat, k ≤ n ∧ i = .int .i64 k ∧ Hid (∃ N, FreshI (outsK s x p k) v N ∧ freshN w N [] ∧ EnvX w u N)) (fun _ i _ => n - (intOf i).toNat)
  case atStart => exact ⟨0, by omega, rfl, HINV⟩
  case round =>
    obtain ⟨k, hk, rfl, hinv⟩ := hrel
    obtain ⟨N, hF, hN, hE⟩ := hinv.out
    clear hinv HINV
    by_cases hlt : k < n
    · have hk2 : (k : Int) < (n : Int) := by omega
      rcases hF with ⟨g0, cap, cur, rfl, rfl, hF⟩ | ⟨_, _, h0⟩
      case inr => have := congrArg List.length h0; rw [outs_len] at this; cases this
      rw [outs_len] at hF
      have HF : Hid (FreshI (outsK s x p k) (.slice (some ⟨g0, 0, none⟩) (k + 1 : Nat) cap) [(g0, Obj.cells cur 24 (0, 0))]) := .inl ⟨g0, cap, cur, by rw [outs_len], rfl, by rw [outs_len]; exact hF.1, hF.2.1, hF.2.2.1, by rw [outs_len]; exact hF.2.2.2⟩
      rw [outs_len]
      have HG0 : Hid (w.heap.size ≤ g0) := (hN _ (List.mem_singleton.2 rfl)).1
      have hcap : k + 1 ≤ cap := hF.1
      have hcap2 : cap ≤ maxLen := hF.2.1
      unfold maxLen at hcap2
      have EK := Lib.hid hE
      clear hN hE hF
      obtain ⟨gs, rfl, hgs, hcell⟩ := (HS.out.get).2 k hlt
      obtain ⟨ad, rfl, hld⟩ := (HAI.out.1.up (EnvX.bel EK.out)).load HAI.out.2 (i := k) (by rw [HM.out]; omega)
      have HSC : Hid (∀ u, EnvX w u [] → u.cell? ⟨gs, k, none⟩ = some (.bool (s.getD k true))) := fun u hu => ((EnvX.bel hu).cell (p := ⟨gs, k, none⟩) hgs).trans hcell
      have HLD : Hid (∀ u, EnvX w u [] → (loadVar 24 (ad.add (k * 32))).run Tryd.prog u = .ok (idv (p.getD k [])) u) := fun u hu => by
        obtain ⟨ad2, e2, h2⟩ := (HAI.out.1.up (EnvX.bel hu)).load HAI.out.2 (i := k) (by rw [HM.out]; omega)
        cases e2
        exact h2
      have hPK : Hid ((p.getD k []).length = 32 ∧ ∀ b ∈ p.getD k [], 0 ≤ b ∧ b ≤ 255) := HAI.out.2.get (by rw [HM.out]; omega)
      have HCK := Lib.hid (hCI.out k)
      have hst : climbK s x p (k + 1) = stepT (s.getD k true) (climbK s x p k) (p.getD k []) := rfl
      have hou := Lib.hid (outs_succ s x p k)
      rw [hst] at hou
      have HOI := Lib.hid (hOI.out k)
      have HOL := Lib.hid (outs_len s x p k)
      have HGE := Lib.hid (outs_get s x p (Nat.le_refl k))
      clear hst hld hcell
      generalize hpk : p.getD k [] = pk at *
      generalize hck : climbK s x p k = ck at *
      clear hpk hck
      have hkm : (k : Int) < (m : Int) := by omega
      go_upto_region 5 with (fail)
      refine wp_region_Hx (w0 := w) [0, 1, 2, 3, 4, 5] [(g0, Obj.cells cur 24 (0, 0))] rfl EK.out ?_
      refine lexH_phase [0, 1, 2, 3] [4, 5] ?_
      have hw6 : EnvX w _ [(g0, Obj.cells cur 24 (0, 0))] := EK.out
      have hone := @EnvC.one _ _ _ hw6
      (refine wpG_op rfl rfl rfl ?_; intro K hK; go_big_quiet_op; go_big_quiet_on)
      (refine wpG_op rfl rfl rfl ?_; intro K hK; go_big_quiet_op; go_big_quiet_on)
      (refine wpG_op rfl rfl rfl ?_; intro K hK; go_big_quiet_op; go_big_quiet_on)
      (refine wpG_val (v := idv ck) rfl rfl (fun u hu => load_run_op u (by rw [← HGE.out]; exact boxes_load (k := k) hu HF.out (fun _ h => h) HOI.out rfl (by rw [HOL.out]; omega)) rfl) ?_ hw6; intro K hK; go_big_quiet_op; go_big_quiet_on)
      clear hone hw6
      refine wpG_nil ?_
      refine (hOp_fresh (R := fun x N => ∃ g, x = .pointer (some ⟨g, 0, none⟩) ∧ N = [(g, Obj.cells (arrB 32 []) 24 (0, 0))]) (M0 := [(g0, Obj.cells cur 24 (0, 0))]) rfl rfl (fun _ h => h) (fun u hu => FAt_new (new_id _) u) ?_)
      rintro x N ⟨g9, rfl, rfl⟩ hf he7; intro K' hK'; go_big_quiet_op; go_big_quiet_on
      have HG9 := Lib.hid hf
      clear hf
      change lexH _ _ _ _ _ _ [(g9, Obj.cells (arrB 32 []) 24 (0, 0)), (g0, Obj.cells cur 24 (0, 0))]
      refine (hOp_store rfl (g9) (arrB 32 ck) rfl rfl (HG9.out _ (List.mem_singleton.2 rfl)).1 24 (arrB 32 []) (List.Mem.head _) (info26 _ (arrB_size _ _ (by rw [HCK.out.1]; omega))) ((arrB_size _ _ (by simp)).trans (arrB_size _ _ (by rw [HCK.out.1]; omega)).symm) (arrB_one _ _) [(g9, Obj.cells (arrB 32 ck) 24 (0, 0)), (g0, Obj.cells cur 24 (0, 0))] (List.forall_mem_cons.2 ⟨.inl rfl, List.forall_mem_cons.2 ⟨.inr ⟨List.Mem.tail _ (List.Mem.head _), fun e => (HG9.out _ (List.mem_singleton.2 rfl)).2 _ (List.mem_singleton.2 rfl) e⟩, (fun _ h => by cases h)⟩⟩) ?_)
      intro he8
      intro u10 E2'
      have EX9 := Lib.hid E2'
      clear E2'
      have hcell := HSC.out u10 (EnvX.sub EX9.out (fun _ h => by cases h))
      generalize s.getD k true = sk at *
      have hSH : Hid ((outsK s x p k).length ≤ 1000000) := by show _ ≤ _; rw [HOL.out]; omega
      cases sk
      · have HND : Hid (∀ u, Calls Tryd.prog 46 #[idv pk, idv ck] u fun e w' => e = .returned (idv (nodeT pk ck)) ∧ Below u.heap.size u w') := fun u => rnode_any _ _ u hPK.out.1 HCK.out.1 hPK.out.2 HCK.out.2
        have HNL : Hid ((nodeT pk ck).length = 32) := (node_id _ _).1
        go_upto_region 8 with (fail)
        refine wp_region_H (w0 := w) [(g9, Obj.cells (arrB 32 ck) 24 (0, 0)), (g0, Obj.cells cur 24 (0, 0))] (by kernel_rfl) EX9.out ?_
        refine anyH_phase [0, 1, 2, 3, 4, 5, 6] 3 rfl ⟨_, (EnvX.drew EX9.out)⟩ (by kernel_rfl) ?_
        have hw11 : EnvX w _ [(g9, Obj.cells (arrB 32 ck) 24 (0, 0)), (g0, Obj.cells cur 24 (0, 0))] := (EnvX.drew EX9.out)
        have hone := @EnvC.one _ _ _ hw11
        (refine wpG_op rfl rfl rfl ?_; intro K hK; go_big_quiet_op; go_big_quiet_on)
        (refine wpG_op rfl rfl rfl ?_; intro K hK; go_big_quiet_op; go_big_quiet_on)
        (refine wpG_op rfl rfl rfl ?_; intro K hK; go_big_quiet_op; go_big_quiet_on)
        (refine wpG_op rfl rfl rfl ?_; intro K hK; go_big_quiet_op; go_big_quiet_on)
        (refine wpG_val (v := idv pk) rfl rfl (fun u hu => load_run_op u (HLD.out u (EnvX.sub hu (fun _ h => by cases h))) rfl) ?_ hw11; intro K hK; go_big_quiet_op; go_big_quiet_on)
        (refine wpG_val (v := idv ck) rfl rfl (fun u hu => load_run_op u (box_load hu (List.Mem.head _) HCK.out.1) rfl) ?_ hw11; intro K hK; go_big_quiet_op; go_big_quiet_on)
        (refine wpG_call (f := 46) (args := #[idv pk, idv ck]) (v := idv (nodeT pk ck)) rfl rfl rfl Tryd.func46 rfl rfl (fun u hu => HND.out u) ?_ hw11; intro K hK; go_big_quiet_op; go_big_quiet_on)
        clear hone hw11
        refine wpG_nil ?_
        refine anyH_one (i := 7) (by kernel_rfl) (hOp_fresh (R := BuiltI (nodeT pk ck)) (M0 := [(g9, Obj.cells (arrB 32 ck) 24 (0, 0)), (g0, Obj.cells cur 24 (0, 0))]) rfl rfl (fun _ h => h) (fun u hu => FAt_buildI HNL.out rfl u) ?_)
        rintro x N ⟨g33, rfl, rfl⟩ hf he12; intro K' hK'; go_big_quiet_op; go_big_quiet_on
        clear hf
        change anyH _ _ _ _ _ _ _ _ [(g33, Obj.cells (arrB 32 (nodeT pk ck)) 24 (0, 0)), (g9, Obj.cells (arrB 32 ck) 24 (0, 0)), (g0, Obj.cells cur 24 (0, 0))]
        refine anyH_one (i := 8) (by kernel_rfl) (hOp_own (gd := none) (R := GrownI w (outsK s x p k ++ [nodeT pk ck]) []) rfl rfl rfl rfl (fun u hu => appI_op [] hu HOI.out HNL.out HF.out (fun y hy => by cases List.mem_singleton.1 hy; exact ⟨List.Mem.tail _ (List.Mem.tail _ (List.Mem.head _)), HG0.out⟩) (List.Mem.head _) (fun z hz => by cases hz) hSH.out rfl rfl) ?_)
        rintro x M' ⟨N2, rfl, hF2, hf2⟩ he13; intro K' hK'; go_big_quiet_op; go_big_quiet_on
        have HF2 := Lib.hid (And.intro hF2 hf2)
        clear hF2 hf2
        change anyH _ _ _ _ _ _ _ _ (N2 ++ [])
        refine anyH_phase [9] 0 rfl ⟨_, he13.choose_spec⟩ (by kernel_rfl) ?_
        have hw14 : EnvX w _ (N2 ++ []) := he13.choose_spec
        have hone := @EnvC.one _ _ _ hw14
        (refine wpG_op rfl rfl rfl ?_; intro K hK; go_big_quiet_op; go_big_quiet_on)
        clear hone hw14
        refine wpG_nil ?_
        refine anyH_done (by kernel_rfl) ?_
        intro u16 E2'
        have EX15 := Lib.hid E2'
        clear E2'
        go_wp2
        go_roundw
        case rel => exact ⟨k + 1, by omega, by go_num, N2, by rw [hou.out]; exact HF2.out.1, HF2.out.2, by simpa using EX15.out⟩
        case measure => simp [intOf]; omega
      · have HND : Hid (∀ u, Calls Tryd.prog 46 #[idv ck, idv pk] u fun e w' => e = .returned (idv (nodeT ck pk)) ∧ Below u.heap.size u w') := fun u => rnode_any _ _ u HCK.out.1 hPK.out.1 HCK.out.2 hPK.out.2
        have HNL : Hid ((nodeT ck pk).length = 32) := (node_id _ _).1
        go_upto_region 7 with (fail)
        refine wp_region_H (w0 := w) [(g9, Obj.cells (arrB 32 ck) 24 (0, 0)), (g0, Obj.cells cur 24 (0, 0))] (by kernel_rfl) EX9.out ?_
        refine anyH_phase [0, 1, 2, 3, 4, 5, 6] 3 rfl ⟨_, (EnvX.drew EX9.out)⟩ (by kernel_rfl) ?_
        have hw11 : EnvX w _ [(g9, Obj.cells (arrB 32 ck) 24 (0, 0)), (g0, Obj.cells cur 24 (0, 0))] := (EnvX.drew EX9.out)
        have hone := @EnvC.one _ _ _ hw11
        (refine wpG_op rfl rfl rfl ?_; intro K hK; go_big_quiet_op; go_big_quiet_on)
        (refine wpG_val (v := idv ck) rfl rfl (fun u hu => load_run_op u (box_load hu (List.Mem.head _) HCK.out.1) rfl) ?_ hw11; intro K hK; go_big_quiet_op; go_big_quiet_on)
        (refine wpG_op rfl rfl rfl ?_; intro K hK; go_big_quiet_op; go_big_quiet_on)
        (refine wpG_op rfl rfl rfl ?_; intro K hK; go_big_quiet_op; go_big_quiet_on)
        (refine wpG_op rfl rfl rfl ?_; intro K hK; go_big_quiet_op; go_big_quiet_on)
        (refine wpG_val (v := idv pk) rfl rfl (fun u hu => load_run_op u (HLD.out u (EnvX.sub hu (fun _ h => by cases h))) rfl) ?_ hw11; intro K hK; go_big_quiet_op; go_big_quiet_on)
        (refine wpG_call (f := 46) (args := #[idv ck, idv pk]) (v := idv (nodeT ck pk)) rfl rfl rfl Tryd.func46 rfl rfl (fun u hu => HND.out u) ?_ hw11; intro K hK; go_big_quiet_op; go_big_quiet_on)
        clear hone hw11
        refine wpG_nil ?_
        refine anyH_one (i := 7) (by kernel_rfl) (hOp_fresh (R := BuiltI (nodeT ck pk)) (M0 := [(g9, Obj.cells (arrB 32 ck) 24 (0, 0)), (g0, Obj.cells cur 24 (0, 0))]) rfl rfl (fun _ h => h) (fun u hu => FAt_buildI HNL.out rfl u) ?_)
        rintro x N ⟨g33, rfl, rfl⟩ hf he12; intro K' hK'; go_big_quiet_op; go_big_quiet_on
        clear hf
        change anyH _ _ _ _ _ _ _ _ [(g33, Obj.cells (arrB 32 (nodeT ck pk)) 24 (0, 0)), (g9, Obj.cells (arrB 32 ck) 24 (0, 0)), (g0, Obj.cells cur 24 (0, 0))]
        refine anyH_one (i := 8) (by kernel_rfl) (hOp_own (gd := none) (R := GrownI w (outsK s x p k ++ [nodeT ck pk]) []) rfl rfl rfl rfl (fun u hu => appI_op [] hu HOI.out HNL.out HF.out (fun y hy => by cases List.mem_singleton.1 hy; exact ⟨List.Mem.tail _ (List.Mem.tail _ (List.Mem.head _)), HG0.out⟩) (List.Mem.head _) (fun z hz => by cases hz) hSH.out rfl rfl) ?_)
        rintro x M' ⟨N2, rfl, hF2, hf2⟩ he13; intro K' hK'; go_big_quiet_op; go_big_quiet_on
        have HF2 := Lib.hid (And.intro hF2 hf2)
        clear hF2 hf2
        change anyH _ _ _ _ _ _ _ _ (N2 ++ [])
        refine anyH_phase [9] 0 rfl ⟨_, he13.choose_spec⟩ (by kernel_rfl) ?_
        have hw14 : EnvX w _ (N2 ++ []) := he13.choose_spec
        have hone := @EnvC.one _ _ _ hw14
        (refine wpG_op rfl rfl rfl ?_; intro K hK; go_big_quiet_op; go_big_quiet_on)
        clear hone hw14
        refine wpG_nil ?_
        refine anyH_done (by kernel_rfl) ?_
        intro u16 E2'
        have EX15 := Lib.hid E2'
        clear E2'
        go_wp2
        go_roundw
        case rel => exact ⟨k + 1, by omega, by go_num, N2, by rw [hou.out]; exact HF2.out.1, HF2.out.2, by simpa using EX15.out⟩
        case measure => simp [intOf]; omega
    · obtain rfl : k = n := by omega
      have HO := Lib.hid (And.intro (hF.own (B := w.heap.size) (hOI.out k) (fun y hy => ⟨(hN y hy).1, EnvX.box hE _ _ hy⟩)) (EnvX.bel hE))
      clear hF hN hE
      go_wp2
      go_ret
      exact ⟨⟨_, rfl, HO.out.1⟩, HO.out.2⟩
end Go.Proofs.YtbjojpgedcikiaaDoor

namespace Go.Proofs.YtbjojpgedcikiaaDoor
set_option maxRecDepth 8000
open Go.RowKit

set_option maxRecDepth 20000 in
set_option maxHeartbeats 2000000 in
theorem rcheck_odd (root leaf : List Int) (n i : Int) (A : Option Addr) (m c : Nat) (w : World) (hn0 : -9223372036854775808 ≤ n) (hn1 : n ≤ 9223372036854775807) (hi0 : -9223372036854775808 ≤ i) (hi1 : i ≤ 9223372036854775807) (h : ¬ (1 ≤ n ∧ n ≤ 64 ∧ 0 ≤ i ∧ i < n)) :
    Calls Tryd.prog 34 #[idv root, .int .i64 n, .int .i64 i, idv leaf, .slice A m c] w fun e w' => e = .returned (.bool false) ∧ Below w.heap.size w w' := by
  unfold idv
  generalize arrB 32 root = cr at *
  generalize arrB 32 leaf = cl at *
  have hb : Below w.heap.size w ((w.alloc (.cells cr 24)).alloc (.cells cl 24)) := ((Below.refl _ _).alloc (Nat.le_refl _) _).alloc (by simp) _
  generalize hW : (w.alloc (.cells cr 24)).alloc (.cells cl 24) = W at *
  by_cases h1 : n < 1
  · go_enter Tryd.func34, Tryd.ntmps34
    go_wp2
    go_ret
    exact ⟨rfl, hb⟩
  · by_cases h2 : 64 < n
    · go_enter Tryd.func34, Tryd.ntmps34
      go_wp2
      go_ret
      exact ⟨rfl, hb⟩
    · by_cases h3 : i < 0
      · go_enter Tryd.func34, Tryd.ntmps34
        go_wp2
        go_ret
        exact ⟨rfl, hb⟩
      · have h4 : n ≤ i := by omega
        go_enter Tryd.func34, Tryd.ntmps34
        go_wp2
        go_ret
        exact ⟨rfl, hb⟩
set_option maxRecDepth 20000 in
set_option maxHeartbeats 4000000 in
theorem rcheck_in (root leaf : List Int) (n i : Nat) (p : List (List Int)) (A : Option Addr) (m c : Nat) (w : World) (h64 : n ≤ 64) (hi : i < n) (hr : root.length = 32) (hl : leaf.length = 32 ∧ ∀ b ∈ leaf, 0 ≤ b ∧ b ≤ 255)
    (hm : p.length = m) (hmc : m ≤ c) (hcm : c ≤ maxLen) (hI : isIds p) (hA : IdsIn w w.heap.size A p) :
    Calls Tryd.prog 34 #[idv root, .int .i64 n, .int .i64 i, idv leaf, .slice A m c] w fun e w' => e = .returned (.bool (checkT root n i leaf p)) ∧ Below w.heap.size w w' := by
  unfold maxLen at hcm
  obtain ⟨W, hW⟩ : ∃ W, (w.alloc (.cells (arrB 32 root) 24)).alloc (.cells (arrB 32 leaf) 24) = W := ⟨_, rfl⟩
  have E0 : EnvX w W [(w.heap.size + 1, Obj.cells (arrB 32 leaf) 24 (0, 0)), (w.heap.size, Obj.cells (arrB 32 root) 24 (0, 0))] := by rw [← hW]; exact (EnvX.start w).two _ _
  have HSD := Lib.hid (rsides_any n i W (by omega) (by omega) hi)
  have hle := sides_le 6 n i (by omega)
  have hv : checkT root n i leaf p = decide (p.length = (sidesT n i).length ∧ topT (sidesT n i) leaf p = root) := by
    unfold checkT
    have k1 : (1 : Int) ≤ n := by omega
    have k2 : (n : Int) ≤ 64 := by omega
    have k3 : (0 : Int) ≤ i := by omega
    have k4 : (i : Int) < n := by omega
    simp [k1, k2, k3, k4]
  rw [hv]
  have HV := Lib.hid hv
  clear hv HV
  generalize sidesT n i = s at *
  have HR := Lib.hid hr
  have HL := Lib.hid hl
  have HAI := Lib.hid (And.intro hA hI)
  have HM := Lib.hid hm
  have n1 : ¬ (n : Int) < 1 := by omega
  have n2 : ¬ (64 : Int) < (n : Int) := by omega
  have n3 : ¬ (i : Int) < 0 := by omega
  have n4 : ¬ (n : Int) ≤ (i : Int) := by omega
  clear hA hI hr hl hm
  have HE0 := Lib.hid E0
  clear E0
  unfold idv
  have HW := Lib.hid hW
  clear hW
  go_enter Tryd.func34, Tryd.ntmps34
  go_upto_region 1 with (fail)
  rw [HW.out]
  go_wp2_with fail
  refine HSD.out.mono ?_
  rintro e w1 ⟨⟨v, rfl, hs⟩, hb⟩
  obtain ⟨As, cs, rfl, hsc, hsm⟩ := hs.form
  unfold maxLen at hsm
  have HS := Lib.hid hs
  have E1 : Hid (EnvX w1 w1 [(w.heap.size + 1, Obj.cells (arrB 32 leaf) 24 (0, 0)), (w.heap.size, Obj.cells (arrB 32 root) 24 (0, 0))]) := ⟨Below.refl _ _, (EnvX.below HE0.out hb).box⟩
  have HB := Lib.hid ((EnvX.below HE0.out hb).bel)
  clear hs hb HSD HE0
  obtain ⟨q, hq⟩ : ∃ q, s.length = q := ⟨_, rfl⟩
  rw [hq] at hle hsc ⊢
  by_cases hlen : m = q
  · subst hlen
    have HS' : Hid (OwnF w1 0 (.slice As m cs) s) := by rw [← hq]; exact ⟨HS.out.1, HS.out.2.imp id (fun ⟨g, cap, cur, e, h1, h2⟩ => ⟨g, cap, cur, e, Nat.zero_le _, h2⟩)⟩
    have HQ := Lib.hid hq
    have HCL : Hid (∀ u, EnvX w1 u [] → Calls Tryd.prog 51 #[.slice As m cs, idv leaf, .slice A m c] u fun e w' => (∃ v, e = .returned v ∧ OwnI w' u.heap.size v (outsK s leaf p m)) ∧ Below u.heap.size u w') := fun u hu =>
      rclimb_any m s leaf p As cs A m c u HQ.out (by omega) ⟨HS'.out.1, HS'.out.2.imp id (fun ⟨g, cap, cur, e, h1, h2, h3⟩ => ⟨g, cap, cur, e, h1, (((EnvX.bel hu).block g (Row.lt (t := 4) h2)).trans h2), h3⟩)⟩ HL.out HM.out (Nat.le_refl _) hmc (by unfold maxLen; omega) HAI.out.2 ((HAI.out.1.up HB.out).up (EnvX.bel hu))
    have HOI := Lib.hid (outs_ids s leaf p HL.out m)
    have HOL := Lib.hid (outs_len s leaf p m)
    have HGE := Lib.hid (outs_get s leaf p (Nat.le_refl m))
    have HCK := Lib.hid (climb_id s leaf p HL.out m)
    have HRES : Hid (decide (p.length = s.length ∧ topT s leaf p = root) = eqL (climbK s leaf p m) root) := by
      show _ = _
      unfold eqL topT
      rw [HQ.out, HM.out]
      simp
    clear hq
    generalize climbK s leaf p m = ck at *
    go_upto_region 6 with (fail)
    refine wp_region_Hx (w0 := w1) [0, 1, 2, 3, 4] [(w.heap.size + 1, Obj.cells (arrB 32 leaf) 24 (0, 0)), (w.heap.size, Obj.cells (arrB 32 root) 24 (0, 0))] rfl E1.out ?_
    refine lexH_phase [0, 1, 2] [3, 4] ?_
    have hw1 : EnvX w1 _ [(w.heap.size + 1, Obj.cells (arrB 32 leaf) 24 (0, 0)), (w.heap.size, Obj.cells (arrB 32 root) 24 (0, 0))] := E1.out
    have hone := @EnvC.one _ _ _ hw1
    (refine wpG_op rfl rfl rfl ?_; intro K hK; go_big_quiet_op; go_big_quiet_on)
    (refine wpG_val (v := idv leaf) rfl rfl (fun u hu => load_run_op u (box_load hu (List.Mem.head _) HL.out.1) rfl) ?_ hw1; intro K hK; go_big_quiet_op; go_big_quiet_on)
    (refine wpG_op rfl rfl rfl ?_; intro K hK; go_big_quiet_op; go_big_quiet_on)
    clear hone hw1
    refine wpG_nil ?_
    refine (hOp_fresh (R := FreshI (outsK s leaf p m)) (M0 := [(w.heap.size + 1, Obj.cells (arrB 32 leaf) 24 (0, 0)), (w.heap.size, Obj.cells (arrB 32 root) 24 (0, 0))]) rfl rfl (fun _ h => h) (fun u hu => FAt_call (fid := 51) (xs := #[.tmp 36, .tmp 37, .tmp 38]) (args := #[.slice As m cs, idv leaf, .slice A m c]) rfl Tryd.func51 rfl rfl u (callsI_fresh (HCL.out u (EnvX.sub hu (fun _ h => by cases h))))) ?_)
    rintro x N hF hf he2; intro K' hK'; go_big_quiet_op; go_big_quiet_on
    obtain ⟨g, cap, cur, rfl, rfl, hcur⟩ := FreshI.full hF (by rw [HOL.out]; omega)
    have HF := Lib.hid hF
    clear hF
    rw [HOL.out] at hcur HF ⊢
    have hcap := hcur.1
    have hcap2 := hcur.2.1
    unfold maxLen at hcap2
    clear hcur
    clear hf
    change lexH _ _ _ _ _ _ [(g, Obj.cells cur 24 (0, 0)), (w.heap.size + 1, Obj.cells (arrB 32 leaf) 24 (0, 0)), (w.heap.size, Obj.cells (arrB 32 root) 24 (0, 0))]
    refine lexH_phase [4] [] ?_
    have hw3 : EnvX w1 _ [(g, Obj.cells cur 24 (0, 0)), (w.heap.size + 1, Obj.cells (arrB 32 leaf) 24 (0, 0)), (w.heap.size, Obj.cells (arrB 32 root) 24 (0, 0))] := he2.choose_spec
    have hone := @EnvC.one _ _ _ hw3
    (refine wpG_op rfl rfl rfl ?_; intro K hK; go_big_quiet_op; go_big_quiet_on)
    clear hone hw3
    refine wpG_nil ?_
    intro u5 E2'
    have EX4 := Lib.hid E2'
    clear E2'
    go_upto_region 7 with (fail)
    refine wp_region_H (w0 := w1) [(g, Obj.cells cur 24 (0, 0)), (w.heap.size + 1, Obj.cells (arrB 32 leaf) 24 (0, 0)), (w.heap.size, Obj.cells (arrB 32 root) 24 (0, 0))] (by kernel_rfl) EX4.out ?_
    refine anyH_phase [0, 1, 2, 3, 4, 5, 6, 7, 8] 0 rfl ⟨_, (EnvX.drew EX4.out)⟩ (by kernel_rfl) ?_
    have hw6 : EnvX w1 _ [(g, Obj.cells cur 24 (0, 0)), (w.heap.size + 1, Obj.cells (arrB 32 leaf) 24 (0, 0)), (w.heap.size, Obj.cells (arrB 32 root) 24 (0, 0))] := (EnvX.drew EX4.out)
    have hone := @EnvC.one _ _ _ hw6
    (refine wpG_op rfl rfl rfl ?_; intro K hK; go_big_quiet_op; go_big_quiet_on)
    (refine wpG_op rfl rfl rfl ?_; intro K hK; go_big_quiet_op; go_big_quiet_on)
    (refine wpG_val (v := .int .i64 (m + 1 : Nat)) rfl rfl (fun u hu => lenI_op u rfl) ?_ hw6; intro K hK; go_big_quiet_op; go_big_quiet_on)
    (refine wpG_op rfl rfl rfl ?_; intro K hK; go_big_quiet_op; go_big_quiet_on)
    (refine wpG_op rfl rfl rfl ?_; intro K hK; go_big_quiet_op; go_big_quiet_on)
    (refine wpG_val (v := idv ck) rfl rfl (fun u hu => load_run_op u (by rw [← HGE.out]; exact boxes_load (k := m) hu HF.out (fun y hy => by cases List.mem_singleton.1 hy; exact List.Mem.head _) HOI.out rfl (by rw [HOL.out]; omega)) rfl) ?_ hw6; intro K hK; go_big_quiet_op; go_big_quiet_on)
    (refine wpG_val (v := idv root) rfl rfl (fun u hu => load_run_op u (box_load hu (List.Mem.tail _ (List.Mem.tail _ (List.Mem.head _))) HR.out) rfl) ?_ hw6; intro K hK; go_big_quiet_op; go_big_quiet_on)
    (refine wpG_val (v := .bool (eqL ck root)) rfl rfl (fun u hu => eql_id_op HCK.out.1 HR.out u rfl rfl) ?_ hw6; intro K hK; go_big_quiet_op; go_big_quiet_on)
    (refine wpG_op rfl rfl rfl ?_; intro K hK; go_big_quiet_op; go_big_quiet_on)
    clear hone hw6
    refine wpG_nil ?_
    refine anyH_done (by kernel_rfl) ?_
    intro u8 E2'
    have EX7 := Lib.hid E2'
    clear E2'
    go_wp2
    go_ret
    exact ⟨by rw [HRES.out]; rfl, HB.out.trans ((EnvX.bel EX7.out).mono HB.out.size)⟩
  · have hne : ¬ (m : Int) = (q : Int) := by omega
    have HRES : Hid (decide (p.length = s.length ∧ topT s leaf p = root) = false) := by
      show _ = _
      rw [HM.out, hq]
      simp [hlen]
    clear hq
    go_wp2
    go_ret
    exact ⟨by rw [HRES.out]; rfl, HB.out⟩
end Go.Proofs.YtbjojpgedcikiaaDoor

namespace Go.Proofs.YtbjojpgedcikiaaDoor
set_option maxRecDepth 8000
open Go.RowKit

theorem rcheck_any (root leaf : List Int) (n i : Int) (p : List (List Int)) (A : Option Addr) (m c : Nat) (w : World) (hn0 : -9223372036854775808 ≤ n) (hn1 : n ≤ 9223372036854775807) (hi0 : -9223372036854775808 ≤ i) (hi1 : i ≤ 9223372036854775807)
    (hr : root.length = 32) (hl : leaf.length = 32 ∧ ∀ b ∈ leaf, 0 ≤ b ∧ b ≤ 255) (hm : p.length = m) (hmc : m ≤ c) (hcm : c ≤ maxLen) (hI : isIds p) (hA : IdsIn w w.heap.size A p) :
    Calls Tryd.prog 34 #[idv root, .int .i64 n, .int .i64 i, idv leaf, .slice A m c] w fun e w' => e = .returned (.bool (checkT root n i leaf p)) ∧ Below w.heap.size w w' := by
  by_cases h : 1 ≤ n ∧ n ≤ 64 ∧ 0 ≤ i ∧ i < n
  · obtain ⟨h1, h2, h3, h4⟩ := h
    obtain ⟨j, rfl⟩ := Int.eq_ofNat_of_zero_le h3
    obtain ⟨k, rfl⟩ := Int.eq_ofNat_of_zero_le (by omega : 0 ≤ n)
    exact rcheck_in root leaf k j p A m c w (by omega) (by omega) hr hl hm hmc hcm hI hA
  · have hf : checkT root n i leaf p = false := by
      unfold checkT
      simp only [decide_eq_false_iff_not]
      exact fun hh => h ⟨hh.1, hh.2.1, hh.2.2.1, hh.2.2.2.1⟩
    rw [hf]
    exact rcheck_odd root leaf n i A m c w hn0 hn1 hi0 hi1 h
end Go.Proofs.YtbjojpgedcikiaaDoor

namespace Go.Proofs.YtbjojpgedcikiaaDoor
set_option maxRecDepth 8000
open Go.RowKit

set_option maxRecDepth 20000 in
set_option maxHeartbeats 1000000 in
theorem rsof_any (A : Option Addr) (n c : Nat) (xss : List (List Int)) (w : World) (hl : xss.length = n) (hx : Parts w w.heap.size A xss) (hn : n ≤ 9223372036854775807) (hs : xss.flatten.length ≤ 70368744177) :
    Calls Tryd.prog 52 #[.slice A n c] w fun e w' => e = .returned (.agg (arrB 32 (sumL xss.flatten))) ∧ Below w.heap.size w w' := by
  have HL := Lib.hid hl
  have HX := Lib.hid hx
  clear hl hx
  go_enter Tryd.func52, Tryd.ntmps52
  go_wp2_with fail
  go_loopw [3, 4] (fun v i u => ∃ k : Nat, k ≤ n ∧ i = .int .i64 k ∧ Below w.heap.size w u ∧ Hid (Row u w.heap.size 24 (arrB 32 []) ∧ u.ownsRow (w.heap.size + 1) 5 1 v (xss.take k).flatten.length ((xss.take k).flatten.map u8v))) (fun _ i _ => n - (intOf i).toNat)
  case atStart => exact ⟨0, by omega, rfl, by go_grown, Row.new w 24 _, World.ownsRow_nil _ _ _ _⟩
  case round =>
    obtain ⟨k, hk, rfl, hbl, hrows⟩ := hrel
    obtain ⟨r0, hown⟩ := hrows.out
    have s0 := r0.lt
    by_cases hlt : k < n
    · have hg := List.getElem?_eq_getElem (by rw [HL.out]; exact hlt : k < xss.length)
      have hst := Lib.hid (flat_step xss k _ hg)
      obtain ⟨b, o, a, c1, rfl, hb, hc, hy, hr⟩ := HX.out k _ hg
      have hle : (xss.take k).flatten.length + (xss[k]'(by rw [HL.out]; exact hlt)).length ≤ xss.flatten.length := by
        have e := congrArg List.length hst.out
        rw [List.length_append] at e
        have h2 : (xss.take (k + 1)).flatten.length ≤ xss.flatten.length := by
          conv => rhs; rw [← List.take_append_drop (k + 1) xss, List.flatten_append, List.length_append]
          omega
        omega
      generalize xss[k]'(by rw [HL.out]; exact hlt) = ys at *
      obtain ⟨v', w', hrun, hown', hgr⟩ := append_bytes _ _ _ _ wr hown a ys.length c1 w.heap.size ys rfl (hy.below hbl) (by omega) (by omega)
      have hcell := (hbl.cell (p := ⟨b, o + k, none⟩) hb).trans hc
      have hb2 := below_of_grown (B := w.heap.size + 1) hgr (fun g hg => (hown.lt g hg).1) (by omega)
      have R0 := Lib.hid (r0.below hb2 (by omega))
      have BB := Lib.hid (hbl.trans (hb2.mono (by omega)))
      have OO := Lib.hid hown'
      clear r0 hown hrows hg hc hy hr hgr hb2 hown' hle
      have hk2 : (k : Int) < (n : Int) := by omega
      have HRUN := Lib.hid hrun
      clear hrun
      go_wp2_with (at_builtin; (with_reducible refine wpList_append_run (o := ⟨some 16, _, _, _, _, _⟩) ?_ (.tmp 11) (.tmp 15) ?_ ?_ ?_ ?_ HRUN.out ?_); (rfl); (rfl); (rfl); (rfl); (rfl))
      go_roundw
      case rel =>
        refine ⟨k + 1, by omega, by go_num, BB.out, R0.out, ?_⟩
        rw [hst.out, List.length_append, List.map_append]
        exact OO.out
      case measure => simp [intOf]; omega
    · obtain rfl : k = n := by omega
      have hT : xss.take k = xss := List.take_of_length_le (by rw [HL.out]; exact Nat.le_refl _)
      rw [hT] at hown
      obtain ⟨A1, c1, rfl⟩ := own_form hown
      have hr : ∀ x ∈ xss.flatten, 0 ≤ x ∧ x ≤ 255 := by
        intro x hx
        obtain ⟨l, hl, hxl⟩ := List.mem_flatten.1 hx
        obtain ⟨j, hj, rfl⟩ := List.getElem_of_mem hl
        obtain ⟨_, _, _, _, _, _, _, _, hr⟩ := HX.out j _ (List.getElem?_eq_getElem hj)
        exact hr x hxl
      have hby := own_bytes hown
      have R0 := Lib.hid r0
      clear hown r0 hrows hT
      have HRR := Lib.hid hr
      have HBY := Lib.hid hby
      clear hr hby
      generalize hFL : xss.flatten = fl at *
      have HFL := Lib.hid hFL
      clear hFL
      obtain ⟨q, hq⟩ : ∃ q, fl.length = q := ⟨_, rfl⟩
      rw [hq]
      have HQ := Lib.hid hq
      have hs2 : q ≤ 70368744177 := by omega
      clear hq
      go_wp2_with fail
      refine (rsum_any A1 q c1 fl wr HQ.out hs2 HBY.out HRR.out).mono ?_
      rintro e w3 ⟨rfl, hb3⟩
      have hsz : Hid ((arrB 32 (sumL fl)).size = 32 ∧ (arrB 32 []).size = (arrB 32 (sumL fl)).size ∧ (arrB 32 (sumL fl)).all (·.oneCell') = true) :=
        Lib.hid ⟨arrB_size _ _ (by rw [sumL_len]; omega), by rw [arrB_size 32 (sumL fl) (by rw [sumL_len]; omega), arrB_size 32 [] (by simp)], arrB_one _ _⟩
      have Q0 : Hid (w3.heap[w.heap.size]? = some (.cells (arrB 32 []) 24 (0, 0))) := R0.out.below hb3 R0.out.lt
      have bl3 : Below w.heap.size w w3 := hbl.trans (hb3.mono hbl.size)
      clear hb3 R0
      generalize hE : arrB 32 (sumL fl) = cs at *
      have HE := Lib.hid hE
      clear hE
      generalize arrB 32 [] = zs at *
      go_wp2_with (first
        | ((with_reducible refine wpList_store_row (o := ⟨none, .store 24 _ _, _, _, _, _⟩) ?_ 24 (.tmp 2) (.tmp 18) ?_ w.heap.size cs ?_ ?_ 24 zs Q0.out (info26 cs hsz.out.1) hsz.out.2.1 hsz.out.2.2 ?_); (rfl); (rfl); (rfl); (rfl))
        | ((with_reducible refine bodyPost_ret (v := .agg cs) ?_ ?_ ?_); (exact results_cell_row (p := 2) (ty := 24) Tryd.results52 _ _ w.heap.size 24 cs (0, 0) _ rfl (setRow_heap _ _ zs cs 24 (0, 0) Q0.out) Tryd.underlying24 rfl (info26 cs hsz.out.1)); (rfl)))
      exact ⟨by rw [HFL.out, HE.out], below_setRow bl3 (Nat.le_refl _) _⟩
set_option maxRecDepth 20000 in
set_option maxHeartbeats 1000000 in
theorem rleaf_any (A : Option Addr) (n c : Nat) (xs : List Int) (w : World) (hl : xs.length = n) (hn : n ≤ 1000000) (hx : Bytes w w.heap.size A xs) (hr : ∀ x ∈ xs, 0 ≤ x ∧ x ≤ 255) :
    Calls Tryd.prog 35 #[.slice A n c] w fun e w' => e = .returned (idv (leafT xs)) ∧ Below w.heap.size w w' := by
  subst hl
  obtain ⟨W, hW⟩ : ∃ W, ((w.alloc (.cells (arrB 32 []) 24)).alloc (.cells #[.int .u8 0] 5)).alloc (.cells #[.slice (some ⟨w.heap.size + 1, 0, none⟩) 1 1, .slice A xs.length c] 38) = W := ⟨_, rfl⟩
  have r0 : Row W w.heap.size 24 (arrB 32 []) := by rw [← hW]; exact ((Row.new w 24 _).alloc _).alloc _
  have r1 : Row W (w.heap.size + 1) 5 #[.int .u8 0] := by rw [← hW]; exact (Row.newAt (by simp) 5 _).alloc _
  have r2 : Row W (w.heap.size + 1 + 1) 38 #[.slice (some ⟨w.heap.size + 1, 0, none⟩) 1 1, .slice A xs.length c] := by rw [← hW]; exact Row.newAt (by simp) 38 _
  have hbW : Below w.heap.size w W := by rw [← hW]; exact (((Below.refl _ _).alloc (Nat.le_refl _) _).alloc (by simp) _).alloc (by simp; omega) _
  have hs : W.heap.size = w.heap.size + 3 := by rw [← hW]; simp
  have hb0 : Bytes W W.heap.size (some ⟨w.heap.size + 1, 0, none⟩) [0] := (own_of_row (B := 0) (n := 1) (xs := [0]) r1 rfl (Nat.zero_le _) (by decide)).up
  have hP : Parts W W.heap.size (some ⟨w.heap.size + 1 + 1, 0, none⟩) [[0], xs] := parts_two (c := 1) (c' := c) (by omega) (by rw [r2.cell]; rfl) hb0 (by intro x hx; simp at hx; omega) (by rw [r2.cell]; rfl) (hx.up hbW) hr
  have HOF := Lib.hid (rsof_any (some ⟨w.heap.size + 1 + 1, 0, none⟩) 2 2 [[0], xs] W rfl hP (by omega) (by simp; omega))
  have HE : Hid ([[0], xs].flatten = 0 :: xs) := by show _ = _; simp
  have R0 := Lib.hid r0
  have HB := Lib.hid hbW
  have hz : Hid ((arrB 32 (leafT xs)).size = 32 ∧ (arrB 32 []).size = 32 ∧ (arrB 32 (leafT xs)).all (·.oneCell') = true) := ⟨arrB_size _ _ (by unfold leafT; rw [sumL_len]; omega), arrB_size _ _ (by simp), arrB_one _ _⟩
  have HW := Lib.hid hW
  clear r0 r1 r2 hbW hs hb0 hP hx hr hW
  rw [HE.out] at HOF
  go_enter Tryd.func35, Tryd.ntmps35
  go_upto_region 1 with (fail)
  rw [zero_cells]
  have hW := HW.out
  go_wp2_with fail
  clear hW
  refine HOF.out.mono ?_
  rintro e w2 ⟨rfl, hb2⟩
  have Q0 : Hid (w2.heap[w.heap.size]? = some (.cells (arrB 32 []) 24 (0, 0))) := R0.out.below hb2 R0.out.lt
  have HB2 := Lib.hid (HB.out.trans (hb2.mono HB.out.size))
  clear hb2 HOF R0 HB
  change Hid ((arrB 32 (sumL (0 :: xs))).size = 32 ∧ (arrB 32 []).size = 32 ∧ (arrB 32 (sumL (0 :: xs))).all (·.oneCell') = true) at hz
  generalize hcn : arrB 32 (sumL (0 :: xs)) = cn at *
  have HCN := Lib.hid hcn
  clear hcn
  generalize arrB 32 [] = zs at *
  go_wp2_with (first
    | ((with_reducible refine wpList_store_row (o := ⟨none, .store 24 _ _, _, _, _, _⟩) ?_ 24 (.tmp 2) (.tmp 6) ?_ w.heap.size cn ?_ ?_ 24 zs Q0.out (info26 cn hz.out.1) (by rw [hz.out.1, hz.out.2.1]) hz.out.2.2 ?_); (rfl); (rfl); (rfl); (rfl))
    | ((with_reducible refine bodyPost_ret (v := .agg cn) ?_ ?_ ?_); (exact results_cell_row (p := 2) (ty := 24) Tryd.results35 _ _ w.heap.size 24 cn (0, 0) _ rfl (setRow_heap _ _ zs cn 24 (0, 0) Q0.out) Tryd.underlying24 rfl (info26 cn hz.out.1)); (rfl)))
  exact ⟨by unfold idv leafT; rw [HCN.out], below_setRow HB2.out (Nat.le_refl _) _⟩
end Go.Proofs.YtbjojpgedcikiaaDoor

namespace Go.Proofs.YtbjojpgedcikiaaDoor
set_option maxRecDepth 8000
open Go.RowKit

theorem rpath_all (l : List (List Int)) (i : Int) (A : Option Addr) (n c : Nat) (w : World) (hl : l.length = n) (hn : n ≤ 1000000) (hnc : n ≤ c) (hc : c ≤ maxLen) (hi : I64 i) (hI : isIds l) (hA : IdsIn w w.heap.size A l) :
    Calls Tryd.prog 28 #[.slice A n c, .int .i64 i] w fun e w' => (∃ v, e = .returned (.tuple #[v, .bool (pathR l i).2]) ∧ OwnI w' w.heap.size v (pathR l i).1) ∧ Below w.heap.size w w' := by
  subst hl
  unfold pathR
  by_cases h : 0 ≤ i ∧ i < l.length ∧ l.length ≤ 64
  · rw [if_pos h]
    obtain ⟨j, rfl⟩ := Int.eq_ofNat_of_zero_le h.1
    exact rPath_some j l A c w h.2.2 (by omega) hnc hc hI hA
  · rw [if_neg h]
    refine (rPath_none l.length i A c w (Nat.le_trans hnc hc) hi.1 hi.2 (fun hh => h ⟨hh.2.1, hh.2.2, hh.1⟩)).mono ?_
    rintro e w' ⟨rfl, rfl⟩
    exact ⟨⟨_, rfl, OwnI.nil _ _⟩, Below.refl _ _⟩
end Go.Proofs.YtbjojpgedcikiaaDoor

namespace Go.Proofs.YtbjojpgedcikiaaDoor
set_option maxRecDepth 8000

theorem set_same {l : List (List Int)} {k : Nat} {y : List Int} (h : l.getD k [] = y) (hk : k < l.length) : l.set k y = l := by
  apply List.ext_getElem (by simp)
  intro j h1 h2
  rw [List.getElem_set]
  split
  · rename_i e
    subst e
    rw [← h, List.getD_eq_getElem?_getD, List.getElem?_eq_getElem hk]
    rfl
  · rfl
theorem step_last {x : List Int} {r : List (List Int)} {id : List Int} {k : Nat} (h : r.length ≤ k + 1) : (stepL x r id (k + 1)).getD (k + 1) [] = id := by
  unfold stepL
  rw [List.getD_eq_getElem?_getD, List.getElem?_cons_succ, List.getElem?_append_left (by simp), List.getElem?_replicate, if_pos (by omega)]
  rfl
theorem next_ids {l : List (List Int)} {id : List Int} {lev : Int} (hl : isIds l) (hid : isId id) : isIds (nextT l id lev) := by
  unfold nextT
  split
  · intro y hy; cases hy
  · cases l with
    | nil => intro y hy; cases List.mem_singleton.1 hy; exact hid
    | cons x r => exact step_ids hl hid
theorem next_len {l : List (List Int)} {id : List Int} {lev : Int} : (nextT l id lev).length ≤ 32 := by
  unfold nextT
  split
  · exact Nat.zero_le _
  · rename_i h
    cases l with
    | nil => exact (by decide : 1 ≤ 32)
    | cons x r =>
      have := lvN_le lev
      rw [step_len]
      rw [List.length_cons] at h
      omega
end Go.Proofs.YtbjojpgedcikiaaDoor

namespace Go.Proofs.YtbjojpgedcikiaaDoor
set_option maxRecDepth 8000
open Go.RowKit

section
variable {st e : TypeId} {z bytes : Nat} {zero : Value}
/-- an append to nothing makes memory -/
theorem FAt_appX (T : ElemT st e z bytes zero) {u : World} {m c : Nat} {ys : List Value} {ad : Addr} {a : Act} {dst : Option Tmp} {x : Operand} {pos : String} {after : Array Edge} {gd : Option (Nat × Bool)}
    (hy : ys.length = m * z) (h1 : ∀ u ∈ ys, u.oneCell' = true) (hc : SrcAt u ad ys) (hs : m ≤ 2000000) (hx : a.eval x = .slice (some ad) m c) :
    FAt Tryd.prog ⟨dst, .call { callee := .builtin .append, args := #[.const (.slice none 0 0), x], argTypes := #[st, st] }, st, pos, after, gd⟩ a (FreshR e z m ys) u := by
  have he : a.eval (.const (.slice none 0 0)) = .slice none 0 0 := rfl
  obtain ⟨v', u', hrun, hown, hgr, _⟩ := appendR T (c := c) (World.ownsRow_nil u u.heap.size e z) hy hc h1 (by omega) (Nat.le_refl _)
  rw [Nat.zero_add, List.nil_append] at hown
  obtain ⟨N, hF', hN'⟩ := fresh_of_own hown
  unfold FAt execOp
  simp only [resolve, invoke, builtin, Sem.run_bind, Sem.run_pure, Result.andThen_ok, List.map_toArray, List.map_cons, List.map_nil, he, hx, hrun]
  exact ⟨below_of_grown hgr (fun g hg => by cases hg) (Nat.le_refl _), N, hF', fun y hy => ⟨(hN' y hy).1, (hN' y hy).2.1⟩⟩
end
end Go.Proofs.YtbjojpgedcikiaaDoor

namespace Go.Proofs.YtbjojpgedcikiaaDoor
set_option maxRecDepth 8000
open Go.RowKit

set_option maxRecDepth 20000 in
set_option maxHeartbeats 4000000 in
theorem rleaves_any (l : List (List Int)) (A : Option Addr) (n c : Nat) (w : World) (hl : l.length = n) (hn : n ≤ 1000000) (hI : isIds l) (hA : IdsIn w w.heap.size A l) :
    Calls Tryd.prog 29 #[.slice A n c] w fun e w' => (∃ v, e = .returned v ∧ OwnI w' w.heap.size v (leavesL l)) ∧ Below w.heap.size w w' := by
  have HL := Lib.hid hl
  have HIA := Lib.hid (And.intro hI hA)
  clear hl hI hA
  go_enter Tryd.func29, Tryd.ntmps29
  go_upto_region 3 with (fail)
  go_loopw [3, 4] (fun v iv u => ∃ k : Nat, k ≤ n ∧ iv = .int .i64 (k : Int) ∧ Hid (OwnI u w.heap.size v (leavesL (l.take k)) ∧ Below w.heap.size w u)) (fun _ iv _ => n - (intOf iv).toNat)
  case atStart => exact ⟨0, by omega, rfl, OwnI.nil _ _, Below.refl _ _⟩
  case round =>
    obtain ⟨k, hk, rfl, hinv⟩ := hrel
    obtain ⟨hO, hB⟩ := hinv.out
    clear hinv
    by_cases hlt : k < n
    · have hlt2 : (k : Int) < (n : Int) := by omega
      have hkl : k < l.length := by rw [HL.out]; exact hlt
      obtain ⟨N, hF, hN⟩ := hO.fresh
      have HF := Lib.hid hF
      have HNB : Hid (∀ y ∈ N, w.heap.size ≤ y.1) := fun y hy => (hN y hy).1
      have EK : Hid (EnvX w wr (N ++ [])) := ⟨hB, fun g o hm => (hN (g, o) (by rwa [List.append_nil] at hm)).2.1⟩
      obtain ⟨ad, rfl, -⟩ := HIA.out.2.at HIA.out.1 hkl
      have hst := lleaves_step hkl
      have hQl : (leavesL (l.take k)).length = k := by rw [leavesL_len, List.length_take]; omega
      have HLF : Hid (∀ u, Below w.heap.size w u → Calls Tryd.prog 35 #[.slice (some (ad.add (k * 32))) 32 32] u fun e w' => e = .returned (idv (leafT (l.getD k []))) ∧ Below u.heap.size u w') := fun u hu => by
        obtain ⟨ad2, e, hb⟩ := (HIA.out.2.up hu).at HIA.out.1 hkl
        cases e
        have h32 := HIA.out.1.get hkl
        exact rleaf_any _ 32 32 _ u h32.1 (by omega) hb h32.2
      have HQ : Hid (isIds (leavesL (l.take k)) ∧ (leavesL (l.take k)).length ≤ 1000000) := ⟨leavesL_ids _, by omega⟩
      have HKN := Lib.hid hlt
      have HST := Lib.hid hst
      clear hO hB hF hN hst hQl hkl hlt
      generalize leavesL (l.take k) = Q at *
      generalize l.getD k [] = x at *
      have HLX : Hid ((leafT x).length = 32) := sumL_len _
      go_upto_region 5 with (fail)
      refine wp_region_Hx (w0 := w) [0, 1, 2, 3, 4, 5, 6, 7, 8] (N ++ []) rfl EK.out ?_
      refine lexH_phase [0, 1, 2, 3, 4, 5] [6, 7, 8] ?_
      have hw1 : EnvX w _ (N ++ []) := EK.out
      have hone := @EnvC.one _ _ _ hw1
      (refine wpG_op rfl rfl rfl ?_; intro K hK; go_big_quiet_op; go_big_quiet_on)
      (refine wpG_op rfl rfl rfl ?_; intro K hK; go_big_quiet_op; go_big_quiet_on)
      (refine wpG_op rfl rfl rfl ?_; intro K hK; go_big_quiet_op; go_big_quiet_on)
      (refine wpG_val (v := .pointer (some (ad.add (k * 32)))) rfl rfl (fun u hu => idxSl_op Tryd.underlying22 aggIdT.size HKN.out u rfl rfl) ?_ hw1; intro K hK; go_big_quiet_op; go_big_quiet_on)
      (refine wpG_val (v := .slice (some (ad.add (k * 32))) 32 32) rfl rfl (fun u hu => sliceArr_op u rfl) ?_ hw1; intro K hK; go_big_quiet_op; go_big_quiet_on)
      (refine wpG_call (f := 35) (args := #[.slice (some (ad.add (k * 32))) 32 32]) (v := idv (leafT x)) rfl rfl rfl Tryd.func35 rfl rfl (fun u hu => HLF.out u (EnvX.bel hu)) ?_ hw1; intro K hK; go_big_quiet_op; go_big_quiet_on)
      clear hone hw1
      refine wpG_nil ?_
      refine (hOp_fresh (R := BuiltI (leafT x)) (M0 := (N ++ [])) rfl rfl (fun _ h => h) (fun u hu => FAt_buildI HLX.out rfl u) ?_)
      rintro _ _ ⟨gq, rfl, rfl⟩ hf he2; intro K' hK'; go_big_quiet_op; go_big_quiet_on
      clear hf
      change lexH _ _ _ _ _ _ ((gq, Obj.cells (arrB 32 (leafT x)) 24 (0, 0)) :: (N ++ []))
      refine (hOp_own (gd := none) (R := GrownI w (Q ++ [leafT x]) []) rfl rfl rfl rfl (fun u hu => appI_op [] hu HQ.out.1 HLX.out HF.out (fun y hy => ⟨List.mem_cons_of_mem _ (List.mem_append_left _ hy), HNB.out y hy⟩) (List.Mem.head _) (fun _ h => by cases h) HQ.out.2 rfl rfl) ?_)
      rintro x9 M' ⟨N9, rfl, hF9, hn9⟩ he3; intro K' hK'; go_big_quiet_op; go_big_quiet_on
      have HF9 := Lib.hid (And.intro hF9 hn9)
      clear hF9 hn9
      change lexH _ _ _ _ _ _ (N9 ++ [])
      refine lexH_phase [8] [] ?_
      have hw4 : EnvX w _ (N9 ++ []) := he3.choose_spec
      have hone := @EnvC.one _ _ _ hw4
      (refine wpG_op rfl rfl rfl ?_; intro K hK; go_big_quiet_op; go_big_quiet_on)
      clear hone hw4
      refine wpG_nil ?_
      intro u6 E2'
      have EX5 := Lib.hid E2'
      clear E2'
      have HNX : Hid (OwnI u6 w.heap.size x9 (leavesL (l.take (k + 1))) ∧ Below w.heap.size w u6) := by
        refine ⟨?_, EnvX.bel EX5.out⟩
        rw [HST.out]
        refine HF9.out.1.own (fun y hy => ?_) (fun y hy => ⟨(HF9.out.2 y hy).1, EnvX.box EX5.out _ _ (List.mem_append_left _ hy)⟩)
        rcases List.mem_append.1 hy with h | h
        · exact HQ.out.1 y h
        · cases List.mem_singleton.1 h; exact ⟨sumL_len _, sumL_byte _⟩
      go_wp2
      go_roundw
      case rel => exact ⟨k + 1, by omega, by go_num, HNX⟩
      case measure => simp [intOf]; omega
    · obtain rfl : k = n := by omega
      have hge : ¬ (k : Int) < (k : Int) := by omega
      rw [List.take_of_length_le (by rw [HL.out]; exact Nat.le_refl _)] at hO
      have HO := Lib.hid hO
      have HB := Lib.hid hB
      clear hO hB
      go_wp2
      go_ret
      exact ⟨⟨_, rfl, HO.out⟩, HB.out⟩
set_option maxRecDepth 20000 in
set_option maxHeartbeats 4000000 in
theorem rlroot_any (l : List (List Int)) (A : Option Addr) (n c : Nat) (w : World) (hl : l.length = n) (hn : n ≤ 1000000) (hI : isIds l) (hA : IdsIn w w.heap.size A l) :
    Calls Tryd.prog 15 #[.slice A n c] w fun e w' => e = .returned (idv (rootT (leavesL l))) ∧ Below w.heap.size w w' := by
  have HLV : Hid (∀ u, Below w.heap.size w u → Calls Tryd.prog 29 #[.slice A n c] u fun e w' => (∃ v, e = .returned v ∧ OwnI w' u.heap.size v (leavesL l)) ∧ Below u.heap.size u w') := fun u hu => rleaves_any l A n c u hl hn hI (hA.up hu)
  have hri := root_id (leavesL_ids l)
  have HRT : Hid (∀ (u : World) (A1 : Option Addr) (c1 : Nat), (leavesL l).length ≤ c1 → c1 ≤ maxLen → IdsIn u u.heap.size A1 (leavesL l) → Calls Tryd.prog 30 #[.slice A1 (leavesL l).length c1] u fun e w' => e = .returned (idv (rootT (leavesL l))) ∧ Below u.heap.size u w') := fun u A1 c1 h1 h2 h3 => rroot_any _ (leavesL l) A1 c1 u rfl (by rw [leavesL_len, hl]; exact hn) h1 h2 (leavesL_ids l) h3
  have E1 : Hid (EnvX w (w.alloc (.cells (arrB 32 []) 24)) [(w.heap.size, Obj.cells (arrB 32 []) 24 (0, 0))]) := (EnvX.start w).new _
  generalize rootT (leavesL l) = rt at *
  have HZ : Hid ((arrB 32 rt).size = 32) := arrB_size _ _ (by rw [hri.1]; omega)
  clear hl hI hA hri
  unfold idv
  go_enter Tryd.func15, Tryd.ntmps15
  go_upto_region 1 with (fail)
  rw [zero_cells]
  generalize w.alloc (.cells (arrB 32 []) 24) = W at *
  refine wp_region_Hx (w0 := w) [0, 1, 2, 3] [(w.heap.size, Obj.cells (arrB 32 []) 24 (0, 0))] rfl E1.out ?_
  refine lexH_phase [0] [1, 2, 3] ?_
  have hw1 : EnvX w _ [(w.heap.size, Obj.cells (arrB 32 []) 24 (0, 0))] := E1.out
  have hone := @EnvC.one _ _ _ hw1
  (refine wpG_op rfl rfl rfl ?_; intro K hK; go_big_quiet_op; go_big_quiet_on)
  clear hone hw1
  refine wpG_nil ?_
  refine (hOp_fresh (R := FreshI (leavesL l)) (M0 := [(w.heap.size, Obj.cells (arrB 32 []) 24 (0, 0))]) rfl rfl (fun _ h => h) (fun u hu => FAt_call (fid := 29) (xs := #[.tmp 3]) (args := #[.slice A n c]) rfl Tryd.func29 rfl rfl u (callsI_fresh (HLV.out u (EnvX.bel hu)))) ?_)
  rintro x N1 hF hf he2; intro K' hK'; go_big_quiet_op; go_big_quiet_on
  obtain ⟨A1, c1, rfl, hc1, hc2⟩ := FreshI.form hF
  have HF := Lib.hid (And.intro hF (And.intro hc1 hc2))
  clear hF hc1 hc2
  clear hf
  change lexH _ _ _ _ _ _ (N1 ++ ((w.heap.size, Obj.cells (arrB 32 []) 24 (0, 0)) :: []))
  refine lexH_phase [2] [3] ?_
  have hw3 : EnvX w _ (N1 ++ ((w.heap.size, Obj.cells (arrB 32 []) 24 (0, 0)) :: [])) := he2.choose_spec
  have hone := @EnvC.one _ _ _ hw3
  (refine wpG_call (f := 30) (args := #[.slice A1 (leavesL l).length c1]) (v := idv rt) rfl rfl rfl Tryd.func30 rfl rfl (fun u hu => HRT.out u A1 c1 HF.out.2.1 HF.out.2.2 (HF.out.1.ids (leavesL_ids l) hu (fun y hy => List.mem_append_left _ hy))) ?_ hw3; intro K hK; go_big_quiet_op; go_big_quiet_on)
  clear hone hw3
  refine wpG_nil ?_
  refine (hOp_store rfl (w.heap.size) (arrB 32 rt) rfl rfl (Nat.le_refl _) 24 ((arrB 32 [])) (List.mem_append_right _ (List.Mem.head _)) (info26 _ HZ.out) ((arrB_size _ _ (by simp)).trans HZ.out.symm) (arrB_one _ _) [(w.heap.size, Obj.cells (arrB 32 rt) 24 (0, 0))] (List.forall_mem_cons.2 ⟨.inl rfl, (fun _ h => by cases h)⟩) ?_)
  intro he4
  intro u6 E2'
  have EX5 := Lib.hid E2'
  clear E2'
  have Q0 := Lib.hid (EnvX.box EX5.out _ _ (List.Mem.head _))
  have HBEL := Lib.hid EX5.out.bel
  clear EX5
  go_wp2_with ((with_reducible refine bodyPost_ret (v := .agg (arrB 32 rt)) ?_ ?_ ?_); (exact results_cell_row (p := 2) (ty := 24) Tryd.results15 _ _ (w.heap.size) 24 (arrB 32 rt) (0, 0) _ rfl Q0.out Tryd.underlying24 rfl (info26 _ HZ.out)); (rfl))
  first | exact HBEL.out | exact ⟨rfl, HBEL.out⟩
set_option maxRecDepth 20000 in
set_option maxHeartbeats 4000000 in
theorem rlpath_any (l : List (List Int)) (i : Int) (A : Option Addr) (n c : Nat) (w : World) (hl : l.length = n) (hn : n ≤ 1000000) (hi : I64 i) (hI : isIds l) (hA : IdsIn w w.heap.size A l) :
    Calls Tryd.prog 14 #[.slice A n c, .int .i64 i] w fun e w' => (∃ v, e = .returned (.tuple #[v, .bool (pathR (leavesL l) i).2]) ∧ OwnI w' w.heap.size v (pathR (leavesL l) i).1) ∧ Below w.heap.size w w' := by
  have HLV := Lib.hid (rleaves_any l A n c w hl hn hI hA)
  have HP : Hid (∀ (u : World) (A1 : Option Addr) (c1 : Nat), (leavesL l).length ≤ c1 → c1 ≤ maxLen → IdsIn u u.heap.size A1 (leavesL l) → Calls Tryd.prog 28 #[.slice A1 (leavesL l).length c1, .int .i64 i] u fun e w' => (∃ v, e = .returned (.tuple #[v, .bool (pathR (leavesL l) i).2]) ∧ OwnI w' u.heap.size v (pathR (leavesL l) i).1) ∧ Below u.heap.size u w') := fun u A1 c1 h1 h2 h3 => rpath_all (leavesL l) i A1 _ c1 u rfl (by rw [leavesL_len, hl]; exact hn) h1 h2 hi (leavesL_ids l) h3
  clear hl hI hA hi
  go_enter Tryd.func14, Tryd.ntmps14
  go_wp2_with fail
  refine HLV.out.mono ?_
  rintro e w1 ⟨⟨v1, rfl, hv1⟩, hb1⟩
  obtain ⟨A1, c1, rfl, h1, h2⟩ := hv1.form
  have HQ := Lib.hid (HP.out w1 A1 c1 h1 h2 hv1.ids)
  have HB1 := Lib.hid hb1
  clear hv1 hb1 h1 h2 HP
  go_wp2_with fail
  refine HQ.out.mono ?_
  rintro e w2 ⟨⟨v2, rfl, hv2⟩, hb2⟩
  have HV2 := Lib.hid (hv2.less HB1.out.size)
  have HB2 := Lib.hid (HB1.out.trans (hb2.mono HB1.out.size))
  clear hv2 hb2
  go_wp2_with fail
  go_returns
  exact ⟨⟨_, rfl, HV2.out⟩, HB2.out⟩
set_option maxRecDepth 20000 in
set_option maxHeartbeats 4000000 in
theorem rlcheck_any (root id : List Int) (n i : Int) (p : List (List Int)) (A : Option Addr) (m c : Nat) (w : World) (hr : isId root) (hid : isId id) (hn : I64 n) (hi : I64 i) (hm : p.length = m) (hm6 : m ≤ 1000000) (hmc : m ≤ c) (hcm : c ≤ maxLen) (hJ : isIds p) (hA : IdsIn w w.heap.size A p) :
    Calls Tryd.prog 20 #[idv root, .int .i64 n, .int .i64 i, idv id, .slice A m c] w fun e w' => e = .returned (.bool (checkT root n i (leafT id) p)) ∧ Below w.heap.size w w' := by
  have HR := Lib.hid hr
  have HSR : Hid (((arrB 32 id).toList.drop 0).take (id.map u8v).length = id.map u8v) := id_src hid.1
  have HLF : Hid (∀ u, Bytes u u.heap.size (some ⟨w.heap.size + 1, 0, none⟩) id → Calls Tryd.prog 35 #[.slice (some ⟨w.heap.size + 1, 0, none⟩) 32 32] u fun e w' => e = .returned (idv (leafT id)) ∧ Below u.heap.size u w') := fun u hb => rleaf_any _ 32 32 id u hid.1 (by omega) hb hid.2
  have HCK : Hid (∀ u, Below w.heap.size w u → Calls Tryd.prog 34 #[idv root, .int .i64 n, .int .i64 i, idv (leafT id), .slice A m c] u fun e w' => e = .returned (.bool (checkT root n i (leafT id) p)) ∧ Below u.heap.size u w') := fun u hu => rcheck_any root (leafT id) n i p A m c u hn.1 hn.2 hi.1 hi.2 hr.1 ⟨sumL_len _, sumL_byte _⟩ hm hmc hcm hJ (hA.up hu)
  have E1 : Hid (EnvX w ((w.alloc (.cells (arrB 32 root) 24)).alloc (.cells (arrB 32 id) 24)) [(w.heap.size + 1, Obj.cells (arrB 32 id) 24 (0, 0)), (w.heap.size, Obj.cells (arrB 32 root) 24 (0, 0))]) := (EnvX.start w).two _ _
  generalize checkT root n i (leafT id) p = b at *
  clear hr hid hn hi hm hJ hA
  unfold idv
  go_enter Tryd.func20, Tryd.ntmps20
  go_upto_region 1 with (fail)
  generalize (w.alloc (.cells (arrB 32 root) 24)).alloc (.cells (arrB 32 id) 24) = W at *
  refine wp_region_H (w0 := w) [(w.heap.size + 1, Obj.cells (arrB 32 id) 24 (0, 0)), (w.heap.size, Obj.cells (arrB 32 root) 24 (0, 0))] (by kernel_rfl) E1.out ?_
  refine anyH_phase [0, 1, 2, 3, 4, 5, 6, 7] 0 rfl ⟨_, (EnvX.drew E1.out)⟩ (by kernel_rfl) ?_
  have hw1 : EnvX w _ [(w.heap.size + 1, Obj.cells (arrB 32 id) 24 (0, 0)), (w.heap.size, Obj.cells (arrB 32 root) 24 (0, 0))] := (EnvX.drew E1.out)
  have hone := @EnvC.one _ _ _ hw1
  (refine wpG_val (v := idv root) rfl rfl (fun u hu => load_run_op u (box_load hu (List.Mem.tail _ (List.Mem.head _)) HR.out.1) rfl) ?_ hw1; intro K hK; go_big_quiet_op; go_big_quiet_on)
  (refine wpG_op rfl rfl rfl ?_; intro K hK; go_big_quiet_op; go_big_quiet_on)
  (refine wpG_op rfl rfl rfl ?_; intro K hK; go_big_quiet_op; go_big_quiet_on)
  (refine wpG_val (v := .slice (some ⟨w.heap.size + 1, 0, none⟩) 32 32) rfl rfl (fun u hu => sliceArr_op u rfl) ?_ hw1; intro K hK; go_big_quiet_op; go_big_quiet_on)
  (refine wpG_call (f := 35) (args := #[.slice (some ⟨w.heap.size + 1, 0, none⟩) 32 32]) (v := idv (leafT id)) rfl rfl rfl Tryd.func35 rfl rfl (fun u hu => HLF.out u (bytes_srcI (EnvX.lt hu (List.Mem.head _)) (src_box hu (List.Mem.head _) HSR.out))) ?_ hw1; intro K hK; go_big_quiet_op; go_big_quiet_on)
  (refine wpG_op rfl rfl rfl ?_; intro K hK; go_big_quiet_op; go_big_quiet_on)
  (refine wpG_call (f := 34) (args := #[idv root, .int .i64 n, .int .i64 i, idv (leafT id), .slice A m c]) (v := .bool b) rfl rfl rfl Tryd.func34 rfl rfl (fun u hu => HCK.out u (EnvX.bel hu)) ?_ hw1; intro K hK; go_big_quiet_op; go_big_quiet_on)
  (refine wpG_op rfl rfl rfl ?_; intro K hK; go_big_quiet_op; go_big_quiet_on)
  clear hone hw1
  refine wpG_nil ?_
  refine anyH_done (by kernel_rfl) ?_
  intro u3 E2'
  have EX2 := Lib.hid E2'
  clear E2'
  go_wp2
  go_ret
  exact ⟨rfl, EnvX.bel EX2.out⟩
set_option maxRecDepth 20000 in
set_option maxHeartbeats 4000000 in
theorem rlleads_any (l : List (List Int)) (prev id : List Int) (A : Option Addr) (n c : Nat) (w : World) (hl : l.length = n) (hn : n ≤ 1000000) (hI : isIds l) (hA : IdsIn w w.heap.size A l) (hp : isId prev) (hid : isId id) :
    Calls Tryd.prog 16 #[.slice A n c, idv prev, idv id] w fun e w' => e = .returned (.bool (leadsT l prev id)) ∧ Below w.heap.size w w' := by
  have HL := Lib.hid hl
  have HIA := Lib.hid (And.intro hI hA)
  have HP := Lib.hid hp
  have HD := Lib.hid hid
  have E1 : Hid (EnvX w ((w.alloc (.cells (arrB 32 prev) 24)).alloc (.cells (arrB 32 id) 24)) [(w.heap.size + 1, Obj.cells (arrB 32 id) 24 (0, 0)), (w.heap.size, Obj.cells (arrB 32 prev) 24 (0, 0))]) := (EnvX.start w).two _ _
  clear hl hI hA hp hid
  unfold idv
  go_enter Tryd.func16, Tryd.ntmps16
  go_upto_region 2 with (fail)
  generalize (w.alloc (.cells (arrB 32 prev) 24)).alloc (.cells (arrB 32 id) 24) = W at *
  go_loopw [7] (fun iv u => ∃ k : Nat, k ≤ n ∧ iv = .int .i64 (k : Int) ∧ Hid ((∀ j, j < k → l.getD j [] ≠ id) ∧ EnvX w u [(w.heap.size + 1, Obj.cells (arrB 32 id) 24 (0, 0)), (w.heap.size, Obj.cells (arrB 32 prev) 24 (0, 0))])) (fun iv _ => n - (intOf iv).toNat)
  case atStart => exact ⟨0, by omega, rfl, (fun j hj => by omega), E1.out⟩
  case round =>
    obtain ⟨k, hk, rfl, hinv⟩ := hrel
    have HNO := Lib.hid hinv.out.1
    have EK := Lib.hid hinv.out.2
    clear hinv E1
    by_cases hlt : k < n
    · have hlt2 : (k : Int) < (n : Int) := by omega
      have hkl : k < l.length := by rw [HL.out]; exact hlt
      obtain ⟨ad, rfl, -⟩ := HIA.out.2.load HIA.out.1 hkl
      have HLD : Hid (∀ u, Below w.heap.size w u → (loadVar 24 (ad.add (k * 32))).run Tryd.prog u = .ok (idv (l.getD k [])) u) := fun u hu => by
        obtain ⟨ad2, e, h⟩ := (HIA.out.2.up hu).load HIA.out.1 hkl
        cases e
        exact h
      have HX : Hid ((l.getD k []).length = 32) := (HIA.out.1.get hkl).1
      have HMEM : Hid (l.getD k [] ∈ l) := getD_mem l [] hkl
      have HKN := Lib.hid hlt
      by_cases hx : l.getD k [] = id
      · have HEQ : Hid (eqL (l.getD k []) id = true) := decide_eq_true hx
        have HR : Hid (leadsT l prev id = true) := by
          show _ = _
          unfold leadsT
          exact decide_eq_true (.inr (by rw [← hx]; exact HMEM.out))
        clear hx hkl hlt
        generalize l.getD k [] = x at *
        go_upto_region 4 with (fail)
        refine wp_region_H (w0 := w) [(w.heap.size + 1, Obj.cells (arrB 32 id) 24 (0, 0)), (w.heap.size, Obj.cells (arrB 32 prev) 24 (0, 0))] (by kernel_rfl) EK.out ?_
        refine anyH_phase [0, 1, 2, 3, 4, 5] 0 rfl ⟨_, (EnvX.drew EK.out)⟩ (by kernel_rfl) ?_
        have hw51 : EnvX w _ [(w.heap.size + 1, Obj.cells (arrB 32 id) 24 (0, 0)), (w.heap.size, Obj.cells (arrB 32 prev) 24 (0, 0))] := (EnvX.drew EK.out)
        have hone := @EnvC.one _ _ _ hw51
        (refine wpG_op rfl rfl rfl ?_; intro K hK; go_big_quiet_op; go_big_quiet_on)
        (refine wpG_op rfl rfl rfl ?_; intro K hK; go_big_quiet_op; go_big_quiet_on)
        (refine wpG_val (v := .pointer (some (ad.add (k * 32)))) rfl rfl (fun u hu => idxSl_op Tryd.underlying22 aggIdT.size HKN.out u rfl rfl) ?_ hw51; intro K hK; go_big_quiet_op; go_big_quiet_on)
        (refine wpG_val (v := idv x) rfl rfl (fun u hu => load_any_op u (HLD.out u (EnvX.bel hu)) rfl) ?_ hw51; intro K hK; go_big_quiet_op; go_big_quiet_on)
        (refine wpG_val (v := idv id) rfl rfl (fun u hu => load_run_op u (box_load hu (List.Mem.head _) HD.out.1) rfl) ?_ hw51; intro K hK; go_big_quiet_op; go_big_quiet_on)
        (refine wpG_val (v := .bool true) rfl rfl (fun u hu => eqlb_op HX.out HD.out.1 HEQ.out u rfl rfl) ?_ hw51; intro K hK; go_big_quiet_op; go_big_quiet_on)
        clear hone hw51
        refine wpG_nil ?_
        refine anyH_done (by kernel_rfl) ?_
        intro u53 E2'
        have EX52 := Lib.hid E2'
        clear E2'
        go_wp2
        go_ret
        exact ⟨by rw [HR.out]; first | done | rfl, EnvX.bel EX52.out⟩
      · have HEQ : Hid (eqL (l.getD k []) id = false) := decide_eq_false hx
        have HN2 : Hid (∀ j, j < k + 1 → l.getD j [] ≠ id) := fun j hj => by
          rcases Nat.lt_or_ge j k with h | h
          · exact HNO.out j h
          · rw [show j = k by omega]; exact hx
        clear hx hkl hlt
        generalize l.getD k [] = x at *
        go_upto_region 4 with (fail)
        refine wp_region_H (w0 := w) [(w.heap.size + 1, Obj.cells (arrB 32 id) 24 (0, 0)), (w.heap.size, Obj.cells (arrB 32 prev) 24 (0, 0))] (by kernel_rfl) EK.out ?_
        refine anyH_phase [0, 1, 2, 3, 4, 5] 0 rfl ⟨_, (EnvX.drew EK.out)⟩ (by kernel_rfl) ?_
        have hw51 : EnvX w _ [(w.heap.size + 1, Obj.cells (arrB 32 id) 24 (0, 0)), (w.heap.size, Obj.cells (arrB 32 prev) 24 (0, 0))] := (EnvX.drew EK.out)
        have hone := @EnvC.one _ _ _ hw51
        (refine wpG_op rfl rfl rfl ?_; intro K hK; go_big_quiet_op; go_big_quiet_on)
        (refine wpG_op rfl rfl rfl ?_; intro K hK; go_big_quiet_op; go_big_quiet_on)
        (refine wpG_val (v := .pointer (some (ad.add (k * 32)))) rfl rfl (fun u hu => idxSl_op Tryd.underlying22 aggIdT.size HKN.out u rfl rfl) ?_ hw51; intro K hK; go_big_quiet_op; go_big_quiet_on)
        (refine wpG_val (v := idv x) rfl rfl (fun u hu => load_any_op u (HLD.out u (EnvX.bel hu)) rfl) ?_ hw51; intro K hK; go_big_quiet_op; go_big_quiet_on)
        (refine wpG_val (v := idv id) rfl rfl (fun u hu => load_run_op u (box_load hu (List.Mem.head _) HD.out.1) rfl) ?_ hw51; intro K hK; go_big_quiet_op; go_big_quiet_on)
        (refine wpG_val (v := .bool false) rfl rfl (fun u hu => eqlb_op HX.out HD.out.1 HEQ.out u rfl rfl) ?_ hw51; intro K hK; go_big_quiet_op; go_big_quiet_on)
        clear hone hw51
        refine wpG_nil ?_
        refine anyH_done (by kernel_rfl) ?_
        intro u53 E2'
        have EX52 := Lib.hid E2'
        clear E2'
        go_wp2
        go_roundw
        case rel => exact ⟨k + 1, by omega, by go_num, HN2.out, EX52.out⟩
        case measure => simp [intOf]; omega
    · obtain rfl : k = n := by omega
      have hge : ¬ (k : Int) < (k : Int) := by omega
      have HB : Hid (eqL prev id = leadsT l prev id) := by
        have hni : ¬ id ∈ l := fun h => by
          obtain ⟨j, hj, e⟩ := List.getElem_of_mem h
          exact HNO.out j (by rw [← HL.out]; exact hj) (by rw [List.getD_eq_getElem?_getD, List.getElem?_eq_getElem hj]; exact e)
        exact decide_eq_decide.2 ⟨fun h => .inl h, fun h => h.resolve_right hni⟩
      go_upto_region 6 with (fail)
      refine wp_region_Hx (w0 := w) [0, 1, 2, 3] [(w.heap.size + 1, Obj.cells (arrB 32 id) 24 (0, 0)), (w.heap.size, Obj.cells (arrB 32 prev) 24 (0, 0))] rfl EK.out ?_
      refine lexH_phase [0, 1, 2, 3] [] ?_
      have hw151 : EnvX w _ [(w.heap.size + 1, Obj.cells (arrB 32 id) 24 (0, 0)), (w.heap.size, Obj.cells (arrB 32 prev) 24 (0, 0))] := EK.out
      have hone := @EnvC.one _ _ _ hw151
      (refine wpG_val (v := idv prev) rfl rfl (fun u hu => load_run_op u (box_load hu (List.Mem.tail _ (List.Mem.head _)) HP.out.1) rfl) ?_ hw151; intro K hK; go_big_quiet_op; go_big_quiet_on)
      (refine wpG_val (v := idv id) rfl rfl (fun u hu => load_run_op u (box_load hu (List.Mem.head _) HD.out.1) rfl) ?_ hw151; intro K hK; go_big_quiet_op; go_big_quiet_on)
      (refine wpG_val (v := .bool (leadsT l prev id)) rfl rfl (fun u hu => eqlb_op HP.out.1 HD.out.1 HB.out u rfl rfl) ?_ hw151; intro K hK; go_big_quiet_op; go_big_quiet_on)
      (refine wpG_op rfl rfl rfl ?_; intro K hK; go_big_quiet_op; go_big_quiet_on)
      clear hone hw151
      refine wpG_nil ?_
      intro u153 E2'
      have EX152 := Lib.hid E2'
      clear E2'
      go_wp2
      go_ret
      exact ⟨rfl, EnvX.bel EX152.out⟩
end Go.Proofs.YtbjojpgedcikiaaDoor

namespace Go.Proofs.YtbjojpgedcikiaaDoor
set_option maxRecDepth 8000
open Go.RowKit

section
variable {st e : TypeId} {z bytes : Nat} {zero : Value}
/-- an append to nothing out of a slice that came in -/
theorem FAt_appC (T : ElemT st e z bytes zero) {u : World} {B m c : Nat} {A : Option Addr} {ys : List Value} {a : Act} {dst : Option Tmp} {x : Operand} {pos : String} {after : Array Edge} {gd : Option (Nat × Bool)}
    (hy : ys.length = m * z) (h1 : ∀ u ∈ ys, u.oneCell' = true) (hc : CellsIn u B A ys) (hs : m ≤ 2000000) (hx : a.eval x = .slice A m c) :
    FAt Tryd.prog ⟨dst, .call { callee := .builtin .append, args := #[.const (.slice none 0 0), x], argTypes := #[st, st] }, st, pos, after, gd⟩ a (FreshR e z m ys) u := by
  cases A with
  | none =>
    have h0 : ys = [] := by
      refine List.eq_nil_of_length_eq_zero (Nat.eq_zero_of_not_pos fun hp => ?_)
      obtain ⟨ad, e, _⟩ := hc hp
      cases e
    subst h0
    have hm : m = 0 := by
      rcases Nat.eq_zero_or_pos m with h | h
      · exact h
      · have := Nat.mul_pos h T.pos
        simp at hy
        omega
    subst hm
    have he : a.eval (.const (.slice none 0 0)) = .slice none 0 0 := rfl
    cases hi : Tryd.prog.info? e with
    | none => have := T.info; rw [hi] at this; cases this
    | some i =>
      have hrun : (Builtin.append_ #[st, st] st #[.slice none 0 0, .slice none 0 c]).run Tryd.prog u = .ok (.slice none 0 0) u := by
        simp [Builtin.append_, run_underlying T.und, sizeOf, typeInfo, hi, Builtin.lenOf, Builtin.firstCells]
      unfold FAt execOp
      simp only [resolve, invoke, builtin, Sem.run_bind, Sem.run_pure, Result.andThen_ok, List.map_toArray, List.map_cons, List.map_nil, he, hx, hrun]
      exact ⟨Below.refl _ _, [], .inr ⟨rfl, rfl, rfl, rfl⟩, fun y hy => by cases hy⟩
  | some ad =>
    refine FAt_appX T (c := c) hy h1 (fun j v hv => ?_) hs hx
    have hp : 0 < ys.length := by
      rcases Nat.eq_zero_or_pos ys.length with h0 | h0
      · rw [List.eq_nil_of_length_eq_zero h0] at hv
        simp at hv
      · exact h0
    obtain ⟨ad', e, _, hcc⟩ := hc hp
    obtain rfl := Option.some.inj e
    exact hcc j v hv
end
end Go.Proofs.YtbjojpgedcikiaaDoor

namespace Go.Proofs.YtbjojpgedcikiaaDoor
set_option maxRecDepth 8000
open Go.RowKit

theorem freshI_of {l : List (List Int)} {n : Nat} {x : Value} {N : Boxes} (hl : l.length = n) (hp : 0 < n) (h : FreshR 24 32 n (l.flatten.map u8v) x N) : FreshI l x N := by
  subst hl
  rcases h with ⟨g, cap, cur, rfl, rfl, h⟩ | ⟨_, _, h0, _⟩
  · exact .inl ⟨g, cap, cur, rfl, rfl, h⟩
  · omega
set_option maxRecDepth 20000 in
set_option maxHeartbeats 8000000 in
theorem rlnext_many (l : List (List Int)) (id : List Int) (lev : Int) (A : Option Addr) (n c : Nat) (w : World) (hl : l.length = n) (hn : n ≤ 1000000) (hlev : I64 lev) (hI : isIds l) (hid : isId id) (hA : IdsIn w w.heap.size A l) (k1 : 32 < n) :
    Calls Tryd.prog 12 #[.slice A n c, idv id, .int .i64 lev] w fun e w' => (∃ v, e = .returned v ∧ OwnI w' w.heap.size v (nextT l id lev)) ∧ Below w.heap.size w w' := by
  rw [next_many (by omega)]
  have k1' : (n : Int) > 32 := by omega
  have HB : Below w.heap.size w (w.alloc (.cells (arrB 32 id) 24)) := (Below.refl _ _).alloc (Nat.le_refl _) _
  clear hid hI hA hl
  unfold idv
  go_enter Tryd.func12, Tryd.ntmps12
  go_wp2
  go_ret
  exact ⟨⟨_, rfl, OwnI.nil _ _⟩, HB⟩
set_option maxRecDepth 20000 in
set_option maxHeartbeats 8000000 in
theorem rlnext_none (id : List Int) (lev : Int) (A : Option Addr) (c : Nat) (w : World) (hid : isId id) :
    Calls Tryd.prog 12 #[.slice A 0 c, idv id, .int .i64 lev] w fun e w' => (∃ v, e = .returned v ∧ OwnI w' w.heap.size v (nextT [] id lev)) ∧ Below w.heap.size w w' := by
  rw [next_none]
  have HD := Lib.hid hid
  have E1 : Hid (EnvX w (w.alloc (.cells (arrB 32 id) 24)) [(w.heap.size, Obj.cells (arrB 32 id) 24 (0, 0))]) := (EnvX.start w).new _
  clear hid
  unfold idv
  go_enter Tryd.func12, Tryd.ntmps12
  go_upto_region 4 with (fail)
  generalize w.alloc (.cells (arrB 32 id) 24) = W at *
  refine wp_region_Hx (w0 := w) [0, 1, 2] [(w.heap.size, Obj.cells (arrB 32 id) 24 (0, 0))] rfl E1.out ?_
  refine lexH_phase [0] [1, 2] ?_
  have hw1 : EnvX w _ [(w.heap.size, Obj.cells (arrB 32 id) 24 (0, 0))] := E1.out
  have hone := @EnvC.one _ _ _ hw1
  (refine wpG_val (v := idv id) rfl rfl (fun u hu => load_run_op u (box_load hu (List.Mem.head _) HD.out.1) rfl) ?_ hw1; intro K hK; go_big_quiet_op; go_big_quiet_on)
  clear hone hw1
  refine wpG_nil ?_
  refine (hOp_fresh (R := BuiltI id) (M0 := [(w.heap.size, Obj.cells (arrB 32 id) 24 (0, 0))]) rfl rfl (fun _ h => h) (fun u hu => FAt_buildI HD.out.1 rfl u) ?_)
  rintro _ _ ⟨gq, rfl, rfl⟩ hf he2; intro K' hK'; go_big_quiet_op; go_big_quiet_on
  have HGQ := Lib.hid (hf _ (List.mem_singleton.2 rfl))
  clear hf
  change lexH _ _ _ _ _ _ [(gq, Obj.cells (arrB 32 id) 24 (0, 0)), (w.heap.size, Obj.cells (arrB 32 id) 24 (0, 0))]
  refine lexH_phase [2] [] ?_
  have hw3 : EnvX w _ [(gq, Obj.cells (arrB 32 id) 24 (0, 0)), (w.heap.size, Obj.cells (arrB 32 id) 24 (0, 0))] := he2.choose_spec
  have hone := @EnvC.one _ _ _ hw3
  (refine wpG_op rfl rfl rfl ?_; intro K hK; go_big_quiet_op; go_big_quiet_on)
  clear hone hw3
  refine wpG_nil ?_
  intro u5 E2'
  have EX4 := Lib.hid E2'
  clear E2'
  go_wp2
  go_ret
  have hF : FreshI [id] (.slice (some ⟨gq, 0, none⟩) 1 1) [(gq, Obj.cells (arrB 32 id) 24 (0, 0))] := .inl ⟨gq, 1, arrB 32 id, rfl, rfl, Nat.le_refl _, by decide, arrB_size _ _ (by rw [HD.out.1]; omega), by
    rw [arrId_map HD.out.1]
    show (id.map u8v).take 32 = (id ++ []).map u8v
    rw [List.append_nil, List.take_of_length_le (by rw [List.length_map, HD.out.1]; exact Nat.le_refl _)]⟩
  exact ⟨⟨_, rfl, hF.own (fun y hy => by cases List.mem_singleton.1 hy; exact HD.out) (fun y hy => by cases List.mem_singleton.1 hy; exact ⟨HGQ.out.1, EnvX.box EX4.out _ _ (List.Mem.head _)⟩)⟩, EnvX.bel EX4.out⟩
set_option maxRecDepth 20000 in
set_option maxHeartbeats 8000000 in
theorem rlnext_some (x : List Int) (r : List (List Int)) (l : List (List Int)) (hxr : l = x :: r) (id : List Int) (lev : Int) (A : Option Addr) (n c : Nat) (w : World) (hl : l.length = n) (hn : n ≤ 1000000) (hlev : I64 lev) (hI : isIds l) (hid : isId id) (hA : IdsIn w w.heap.size A l) (h32 : n ≤ 32) :
    Calls Tryd.prog 12 #[.slice A n c, idv id, .int .i64 lev] w fun e w' => (∃ v, e = .returned v ∧ OwnI w' w.heap.size v (nextT l id lev)) ∧ Below w.heap.size w w' := by
  have HX0 := Lib.hid hxr
  have hrl : r.length + 1 = n := by rw [← hl, hxr]; rfl
  rw [hxr, next_some (by omega)]
  have HCI : Hid (CellsIn w w.heap.size A (l.flatten.map u8v)) := fun hp => by
    obtain ⟨ad, e, hb, hc⟩ := hA (by rwa [List.length_map] at hp)
    exact ⟨ad, e, hb, hc⟩
  have HFL : Hid ((l.flatten.map u8v).length = n * 32) := by show _ = _; rw [List.length_map, hI.flat_len, hl]
  have HN : Hid (n ≤ 32) := h32
  have HRL := Lib.hid hrl
  have HII : Hid (isIds (x :: r)) := by rw [← hxr]; exact hI
  have HLE := Lib.hid hl
  have hlv := lvN_le lev
  have n32 : ¬ (n : Int) > 32 := by omega
  have n0 : ¬ (n : Int) = 0 := by omega
  unfold I64 at hlev
  clear hI hA hl hxr hrl
  have HD := Lib.hid hid
  have E1 : Hid (EnvX w (w.alloc (.cells (arrB 32 id) 24)) [(w.heap.size, Obj.cells (arrB 32 id) 24 (0, 0))]) := (EnvX.start w).new _
  clear hid
  unfold idv
  go_enter Tryd.func12, Tryd.ntmps12
  go_upto_region 5 with (fail)
  generalize w.alloc (.cells (arrB 32 id) 24) = W at *
  refine wp_region_Hx (w0 := w) [0, 1, 2] [(w.heap.size, Obj.cells (arrB 32 id) 24 (0, 0))] rfl E1.out ?_
  refine lexH_phase [0] [1, 2] ?_
  have hw1 : EnvX w _ [(w.heap.size, Obj.cells (arrB 32 id) 24 (0, 0))] := E1.out
  have hone := @EnvC.one _ _ _ hw1
  (refine wpG_op rfl rfl rfl ?_; intro K hK; go_big_quiet_op; go_big_quiet_on)
  clear hone hw1
  refine wpG_nil ?_
  refine (hOp_fresh (R := FreshR 24 32 n (l.flatten.map u8v)) (M0 := [(w.heap.size, Obj.cells (arrB 32 id) 24 (0, 0))]) rfl rfl (fun _ h => h) (fun u hu => FAt_appC elIdL HFL.out u8_ones (HCI.out.up (EnvX.bel hu)) (by have := HN.out; omega) rfl) ?_)
  rintro x0 N0 hF hf he2; intro K' hK'; go_big_quiet_op; go_big_quiet_on
  have HF0 := Lib.hid (And.intro hF hf)
  clear hF
  clear hf
  change lexH _ _ _ _ _ _ (N0 ++ ((w.heap.size, Obj.cells (arrB 32 id) 24 (0, 0)) :: []))
  refine lexH_phase [2] [] ?_
  have hw3 : EnvX w _ (N0 ++ ((w.heap.size, Obj.cells (arrB 32 id) 24 (0, 0)) :: [])) := he2.choose_spec
  have hone := @EnvC.one _ _ _ hw3
  (refine wpG_op rfl rfl rfl ?_; intro K hK; go_big_quiet_op; go_big_quiet_on)
  clear hone hw3
  refine wpG_nil ?_
  intro u5 E2'
  have EX4 := Lib.hid E2'
  clear E2'
  have HIN : Hid (NInv w id (stepL x r id 0) x0 u5) := ⟨N0, by
    rw [step_zero, ← HX0.out]
    exact freshI_of HLE.out (by have := HRL.out; omega) HF0.out.1, fun y hy => ⟨(HF0.out.2 y hy).1, (HF0.out.2 y hy).2⟩, EX4.out⟩
  clear EX4 E1 HF0
  go_upto_region 7 with (fail)
  go_loopw [7, 8] (fun v iv u => ∃ k : Nat, k ≤ lvN lev ∧ iv = .int .i64 ((k + 1 : Nat) : Int) ∧ Hid (NInv w id (stepL x r id k) v u)) (fun _ iv _ => 32 - (intOf iv).toNat)
  case atStart => exact ⟨0, Nat.zero_le _, rfl, HIN⟩
  case round =>
    obtain ⟨k, hk, rfl, hinv⟩ := hrel
    obtain ⟨N, hF, hN, hE⟩ := hinv.out
    clear hinv HIN
    have hXl := step_len x r id k
    obtain ⟨X, hX⟩ : ∃ X, stepL x r id k = X := ⟨_, rfl⟩
    have hXI : isIds X := by rw [← hX]; exact step_ids HII.out HD.out
    rw [hX] at hF hXl
    obtain ⟨g, cap, cur, rfl, rfl, hc⟩ := hF.full (by omega)
    have HFX := Lib.hid hF
    have HXI : Hid (isIds X ∧ X.length ≤ 1000000) := ⟨hXI, by have := HN.out; have := HRL.out; omega⟩
    have HGG : Hid (w.heap.size ≤ g ∧ w.heap.size ≠ g) := ⟨(hN _ (List.mem_singleton.2 rfl)).1, (hN _ (List.mem_singleton.2 rfl)).2 _ (List.Mem.head _)⟩
    have EK : Hid (EnvX w wr [(g, Obj.cells cur 24 (0, 0)), (w.heap.size, Obj.cells (arrB 32 id) 24 (0, 0))]) := hE
    clear hN hE hXI
    by_cases hlt : k < lvN lev
    · have q1 : ((k + 1 : Nat) : Int) ≤ lev := by unfold lvN at hlt; omega
      have q2 : ((k + 1 : Nat) : Int) ≤ 31 := by omega
      have HKL : Hid (k + 1 ≤ lvN lev ∧ k + 1 ≤ 31) := ⟨hlt, by omega⟩
      by_cases hrk : k < r.length
      · have q3 : ¬ ((k + 1 : Nat) : Int) = ((X.length : Nat) : Int) := by omega
        have HKX : Hid (k + 1 < X.length) := by show _ < _; omega
        obtain ⟨cs, hcs, h5, h6⟩ := setI_facts (X := X) (k := k + 1) HXI.out.1 rfl HD.out.1 HKX.out hc.1 hc.2.2.1 hc.2.2.2
        have hset := step_set (x := x) (id := id) hrk
        rw [hX] at hset
        rw [hset] at h6
        have HLN : Hid ((stepL x r id (k + 1)).length = X.length) := by show _ = _; rw [← hset, List.length_set]
        have HCS := Lib.hid hcs
        have HC5 := Lib.hid (And.intro h5 h6)
        have HCP : Hid (X.length ≤ cap ∧ cap ≤ maxLen) := ⟨hc.1, hc.2.1⟩
        clear hcs h5 h6 hset hc hF hXl hX hrk
        generalize X.length = xl at *
        go_upto_region 11 with (fail)
        refine wp_region_Hx (w0 := w) [0, 1, 2, 3, 4] [(g, Obj.cells cur 24 (0, 0)), (w.heap.size, Obj.cells (arrB 32 id) 24 (0, 0))] rfl EK.out ?_
        refine lexH_phase [0, 1, 2, 3] [4] ?_
        have hw101 : EnvX w _ [(g, Obj.cells cur 24 (0, 0)), (w.heap.size, Obj.cells (arrB 32 id) 24 (0, 0))] := EK.out
        have hone := @EnvC.one _ _ _ hw101
        (refine wpG_op rfl rfl rfl ?_; intro K hK; go_big_quiet_op; go_big_quiet_on)
        (refine wpG_op rfl rfl rfl ?_; intro K hK; go_big_quiet_op; go_big_quiet_on)
        (refine wpG_val (v := idv id) rfl rfl (fun u hu => load_run_op u (box_load hu (List.Mem.tail _ (List.Mem.head _)) HD.out.1) rfl) ?_ hw101; intro K hK; go_big_quiet_op; go_big_quiet_on)
        (refine wpG_val (v := .pointer (some ⟨g, 0 + (k + 1) * 32, none⟩)) rfl rfl (fun u hu => idxSl0_op Tryd.underlying22 aggIdT.size HKX.out u rfl rfl) ?_ hw101; intro K hK; go_big_quiet_op; go_big_quiet_on)
        clear hone hw101
        refine wpG_nil ?_
        refine (hOp_putAt rfl (g) (0 + (k + 1) * 32) (.agg (arrB 32 id)) rfl rfl HGG.out.1 24 (cur) (cs) (List.Mem.head _) HCS.out.1 HCS.out.2.1 HCS.out.2.2.1 HCS.out.2.2.2 [(g, Obj.cells (cs) 24 (0, 0)), (w.heap.size, Obj.cells (arrB 32 id) 24 (0, 0))] (List.forall_mem_cons.2 ⟨.inl rfl, List.forall_mem_cons.2 ⟨.inr ⟨(List.Mem.tail _ (List.Mem.head _)), HGG.out.2⟩, fun _ h => by cases h⟩⟩) ?_)
        intro he102
        intro u104 E2'
        have EX103 := Lib.hid E2'
        clear E2'
        have HNX : Hid (NInv w id (stepL x r id (k + 1)) (.slice (some ⟨g, 0, none⟩) xl cap) u104) := by
          refine ⟨[(g, Obj.cells cs 24 (0, 0))], .inl ⟨g, cap, cs, by rw [HLN.out], rfl, by rw [HLN.out]; exact HCP.out.1, HCP.out.2, HC5.out.1, by rw [HLN.out]; exact HC5.out.2⟩, fun y hy => ?_, EX103.out⟩
          cases List.mem_singleton.1 hy
          exact ⟨HGG.out.1, fun z hz => by cases List.mem_singleton.1 hz; exact HGG.out.2⟩
        go_wp2
        go_roundw
        case rel => exact ⟨k + 1, HKL.out.1, by go_num, HNX⟩
        case measure => simp [intOf]; have := HKL.out.2; omega
      · have q3' : k + 1 = X.length := by omega
        have happ := step_app (x := x) (id := id) (show r.length ≤ k by omega)
        rw [hX] at happ
        have hlast := step_last (x := x) (r := r) (id := id) (k := k) (by omega)
        have HAPP := Lib.hid happ
        have HLAST := Lib.hid hlast
        have HKE := Lib.hid q3'
        have HFX : Hid (FreshI X (.slice (some ⟨g, 0, none⟩) (k + 1) cap) [(g, Obj.cells cur 24 (0, 0))]) := by
          have h := HFX.out
          rw [← q3'] at h
          exact h
        rw [← q3']
        clear happ hlast hF hXl hX hrk hc q3'
        go_upto_region 10 with (fail)
        refine wp_region_Hx (w0 := w) [0, 1, 2, 3, 4] [(g, Obj.cells cur 24 (0, 0)), (w.heap.size, Obj.cells (arrB 32 id) 24 (0, 0))] rfl EK.out ?_
        refine lexH_phase [0, 1] [2, 3, 4] ?_
        have hw101 : EnvX w _ [(g, Obj.cells cur 24 (0, 0)), (w.heap.size, Obj.cells (arrB 32 id) 24 (0, 0))] := EK.out
        have hone := @EnvC.one _ _ _ hw101
        (refine wpG_op rfl rfl rfl ?_; intro K hK; go_big_quiet_op; go_big_quiet_on)
        (refine wpG_val (v := idv id) rfl rfl (fun u hu => load_run_op u (box_load hu (List.Mem.tail _ (List.Mem.head _)) HD.out.1) rfl) ?_ hw101; intro K hK; go_big_quiet_op; go_big_quiet_on)
        clear hone hw101
        refine wpG_nil ?_
        refine (hOp_fresh (R := BuiltI id) (M0 := [(g, Obj.cells cur 24 (0, 0)), (w.heap.size, Obj.cells (arrB 32 id) 24 (0, 0))]) rfl rfl (fun _ h => h) (fun u hu => FAt_buildI HD.out.1 rfl u) ?_)
        rintro _ _ ⟨gq, rfl, rfl⟩ hf he102; intro K' hK'; go_big_quiet_op; go_big_quiet_on
        clear hf
        change lexH _ _ _ _ _ _ [(gq, Obj.cells (arrB 32 id) 24 (0, 0)), (g, Obj.cells cur 24 (0, 0)), (w.heap.size, Obj.cells (arrB 32 id) 24 (0, 0))]
        refine (hOp_own (gd := none) (R := GrownI w (X ++ [id]) [(w.heap.size, Obj.cells (arrB 32 id) 24 (0, 0))]) rfl rfl rfl rfl (fun u hu => appI_op [(w.heap.size, Obj.cells (arrB 32 id) 24 (0, 0))] hu HXI.out.1 HD.out.1 HFX.out (List.forall_mem_cons.2 ⟨⟨(List.Mem.tail _ (List.Mem.head _)), HGG.out.1⟩, fun _ h => by cases h⟩) (List.Mem.head _) (List.forall_mem_cons.2 ⟨⟨(List.Mem.tail _ (List.Mem.tail _ (List.Mem.head _))), fun y hy => by cases List.mem_singleton.1 hy; exact HGG.out.2⟩, fun _ h => by cases h⟩) HXI.out.2 rfl rfl) ?_)
        rintro x M' ⟨N9, rfl, hF9, hn9⟩ he103; intro K' hK'; go_big_quiet_op; go_big_quiet_on
        obtain ⟨g2, cap2, cur2, rfl, rfl, hc2⟩ := FreshI.full hF9 (by rw [List.length_append]; simp)
        have HC2 := Lib.hid hc2
        have HG2 := Lib.hid (hn9 _ (List.mem_singleton.2 rfl))
        clear hF9 hn9 hc2
        change lexH _ _ _ _ _ _ [(g2, Obj.cells cur2 24 (0, 0)), (w.heap.size, Obj.cells (arrB 32 id) 24 (0, 0))]
        refine lexH_phase [4] [] ?_
        have hw104 : EnvX w _ [(g2, Obj.cells cur2 24 (0, 0)), (w.heap.size, Obj.cells (arrB 32 id) 24 (0, 0))] := he103.choose_spec
        have hone := @EnvC.one _ _ _ hw104
        (refine wpG_op rfl rfl rfl ?_; intro K hK; go_big_quiet_op; go_big_quiet_on)
        clear hone hw104
        refine wpG_nil ?_
        intro u106 E2'
        have EX105 := Lib.hid E2'
        clear E2'
        have hc2 := HC2.out
        have hl2 : (X ++ [id]).length = k + 2 := by rw [List.length_append, ← HKE.out]; rfl
        rw [hl2] at hc2 ⊢
        have hXI2 : isIds (X ++ [id]) := fun y hy => by
          rcases List.mem_append.1 hy with h | h
          · exact HXI.out.1 y h
          · cases List.mem_singleton.1 h; exact HD.out
        have HKX : Hid (k + 1 < k + 2) := by show _ < _; omega
        obtain ⟨cs, hcs, h5, h6⟩ := setI_facts (X := X ++ [id]) (k := k + 1) hXI2 hl2 HD.out.1 HKX.out hc2.1 hc2.2.2.1 hc2.2.2.2
        rw [HAPP.out, set_same HLAST.out (by rw [← HAPP.out, hl2]; omega)] at h6
        have HLN : Hid ((stepL x r id (k + 1)).length = k + 2) := by show _ = _; rw [← HAPP.out, hl2]
        have HCS := Lib.hid hcs
        have HC5 := Lib.hid (And.intro h5 h6)
        have HCP : Hid (k + 2 ≤ cap2 ∧ cap2 ≤ maxLen) := ⟨hc2.1, hc2.2.1⟩
        have HGG : Hid (w.heap.size ≤ g2 ∧ w.heap.size ≠ g2) := ⟨HG2.out.1, HG2.out.2 _ (List.Mem.head _)⟩
        clear hcs h5 h6 hc2 hXI2 hl2
        go_upto_region 11 with (fail)
        refine wp_region_Hx (w0 := w) [0, 1, 2, 3, 4] [(g2, Obj.cells cur2 24 (0, 0)), (w.heap.size, Obj.cells (arrB 32 id) 24 (0, 0))] rfl EX105.out ?_
        refine lexH_phase [0, 1, 2, 3] [4] ?_
        have hw107 : EnvX w _ [(g2, Obj.cells cur2 24 (0, 0)), (w.heap.size, Obj.cells (arrB 32 id) 24 (0, 0))] := EX105.out
        have hone := @EnvC.one _ _ _ hw107
        (refine wpG_op rfl rfl rfl ?_; intro K hK; go_big_quiet_op; go_big_quiet_on)
        (refine wpG_op rfl rfl rfl ?_; intro K hK; go_big_quiet_op; go_big_quiet_on)
        (refine wpG_val (v := idv id) rfl rfl (fun u hu => load_run_op u (box_load hu (List.Mem.tail _ (List.Mem.head _)) HD.out.1) rfl) ?_ hw107; intro K hK; go_big_quiet_op; go_big_quiet_on)
        (refine wpG_val (v := .pointer (some ⟨g2, 0 + (k + 1) * 32, none⟩)) rfl rfl (fun u hu => idxSl0_op Tryd.underlying22 aggIdT.size HKX.out u rfl rfl) ?_ hw107; intro K hK; go_big_quiet_op; go_big_quiet_on)
        clear hone hw107
        refine wpG_nil ?_
        refine (hOp_putAt rfl (g2) (0 + (k + 1) * 32) (.agg (arrB 32 id)) rfl rfl HGG.out.1 24 (cur2) (cs) (List.Mem.head _) HCS.out.1 HCS.out.2.1 HCS.out.2.2.1 HCS.out.2.2.2 [(g2, Obj.cells (cs) 24 (0, 0)), (w.heap.size, Obj.cells (arrB 32 id) 24 (0, 0))] (List.forall_mem_cons.2 ⟨.inl rfl, List.forall_mem_cons.2 ⟨.inr ⟨(List.Mem.tail _ (List.Mem.head _)), HGG.out.2⟩, fun _ h => by cases h⟩⟩) ?_)
        intro he108
        intro u110 E2'
        have EX109 := Lib.hid E2'
        clear E2'
        have HNX : Hid (NInv w id (stepL x r id (k + 1)) (.slice (some ⟨g2, 0, none⟩) (k + 2) cap2) u110) := by
          refine ⟨[(g2, Obj.cells cs 24 (0, 0))], .inl ⟨g2, cap2, cs, by rw [HLN.out], rfl, by rw [HLN.out]; exact HCP.out.1, HCP.out.2, HC5.out.1, by rw [HLN.out]; exact HC5.out.2⟩, fun y hy => ?_, EX109.out⟩
          cases List.mem_singleton.1 hy
          exact ⟨HGG.out.1, fun z hz => by cases List.mem_singleton.1 hz; exact HGG.out.2⟩
        go_wp2
        go_roundw
        case rel => exact ⟨k + 1, HKL.out.1, by go_num, HNX⟩
        case measure => simp [intOf]; have := HKL.out.2; omega
    · obtain rfl : k = lvN lev := by omega
      have HO : Hid (OwnI wr w.heap.size (.slice (some ⟨g, 0, none⟩) X.length cap) (stepL x r id (lvN lev)) ∧ Below w.heap.size w wr) := by
        rw [hX]
        exact ⟨hF.own HXI.out.1 (fun y hy => by cases List.mem_singleton.1 hy; exact ⟨HGG.out.1, EnvX.box EK.out _ _ (List.Mem.head _)⟩), EnvX.bel EK.out⟩
      by_cases q1 : ((lvN lev + 1 : Nat) : Int) ≤ lev
      · have q2 : ¬ ((lvN lev + 1 : Nat) : Int) ≤ 31 := by unfold lvN at *; omega
        clear hF hc hXl hX EK
        generalize X.length = xl at *
        go_wp2
        go_ret
        exact ⟨⟨_, rfl, HO.out.1⟩, HO.out.2⟩
      · clear hF hc hXl hX EK
        generalize X.length = xl at *
        go_wp2
        go_ret
        exact ⟨⟨_, rfl, HO.out.1⟩, HO.out.2⟩
theorem rlnext_any (l : List (List Int)) (id : List Int) (lev : Int) (A : Option Addr) (n c : Nat) (w : World) (hl : l.length = n) (hn : n ≤ 1000000) (hlev : I64 lev) (hI : isIds l) (hid : isId id) (hA : IdsIn w w.heap.size A l) :
    Calls Tryd.prog 12 #[.slice A n c, idv id, .int .i64 lev] w fun e w' => (∃ v, e = .returned v ∧ OwnI w' w.heap.size v (nextT l id lev)) ∧ Below w.heap.size w w' := by
  by_cases k1 : 32 < n
  · exact rlnext_many l id lev A n c w hl hn hlev hI hid hA k1
  · match l, hl, hI, hA with
    | [], hl, _, _ =>
      subst hl
      exact rlnext_none id lev A c w hid
    | x :: r, hl, hI, hA => exact rlnext_some x r (x :: r) rfl id lev A n c w hl hn hlev hI hid hA (by omega)
end Go.Proofs.YtbjojpgedcikiaaDoor

namespace Go.Proofs.YtbjojpgedcikiaaDoor
set_option maxRecDepth 8000
open Go.RowKit

theorem lpathR_facts {l : List (List Int)} (hI : isIds l) (i : Int) : isIds (pathR l i).1 ∧ (pathR l i).1.length ≤ 64 := by
  unfold pathR
  by_cases h : 0 ≤ i ∧ i < l.length ∧ l.length ≤ 64
  · rw [if_pos h]
    refine ⟨path_ids _ l _ rfl hI, ?_⟩
    show (pathT l _).length ≤ 64
    rw [path_len _ l _ rfl]
    exact Nat.le_trans (sides_le 6 l.length _ (by omega)) (by omega)
  · rw [if_neg h]
    exact ⟨fun x hx => (by cases hx), Nat.zero_le _⟩
section
variable {a : Act} {dst : Option Tmp} {x y : Operand} {ty : TypeId} {pos : String} {after : Array Edge} {gd : Option (Nat × Bool)}
theorem eqlTT_op {b : Bool} (u : World) (hx : a.eval x = .bool b) (hy : a.eval y = .bool b) :
    (execOp a.eval ⟨dst, .binOp .eql 4 x y 4, ty, pos, after, gd⟩).run Tryd.prog u = .ok (.value (.bool true)) u := by
  unfold execOp
  simp only [hx, hy]
  cases b <;> go_simp
end
end Go.Proofs.YtbjojpgedcikiaaDoor

namespace Go.Proofs.YtbjojpgedcikiaaDoor
set_option maxRecDepth 8000
open Go.RowKit

set_option maxRecDepth 20000 in
set_option maxHeartbeats 8000000 in
theorem llaw_tells_many (T : TreeC) (K : LinkC) (l p : List (List Int)) (id v : List Int) (lev i : Int) (A A2 : Option Addr) (m c k d : Nat) (w : World) (hl : l.length = m) (hmc : m ≤ c) (hcm : c ≤ maxLen) (hI : isIds l) (hA : IdsIn w w.heap.size A l) (hp : p.length = k) (hkd : k ≤ d) (hdm : d ≤ maxLen) (hJ : isIds p) (hA2 : IdsIn w w.heap.size A2 p) (hid : isId id) (hv : isId v) (hlev : I64 lev) (hi : I64 i) (ht : Tables w) (k1 : 70 < m) :
    Calls Tryd.prog 3 #[.slice A m c, idv id, idv v, .int .i64 lev, .int .i64 i, .slice A2 k d] w fun e w' => e = .returned (.bool true) ∧ Below w.heap.size w w' := by
  have K5 : Hid (decide (70 < (m : Int)) = true) := decide_eq_true (by omega)
  clear k1
  have E0 : Hid (EnvX w ((w.alloc (.cells (arrB 32 id) 24)).alloc (.cells (arrB 32 v) 24)) [((w.heap.size + 1), Obj.cells (arrB 32 v) 24 (0, 0)), (w.heap.size, Obj.cells (arrB 32 id) 24 (0, 0))]) := (EnvX.start w).two _ _
  have HAW := Lib.hid (lawake_any T K ((w.alloc (.cells (arrB 32 id) 24)).alloc (.cells (arrB 32 v) 24)) (ht.below (EnvX.bel E0.out)))
  have HT := Lib.hid ht
  have HTR := Lib.hid T
  have HK := Lib.hid K
  clear ht T K
  unfold idv
  go_enter Tryd.func3, Tryd.ntmps3
  go_upto_region 1 with (fail)
  generalize ((w.alloc (.cells (arrB 32 id) 24)).alloc (.cells (arrB 32 v) 24)) = W at *
  go_wp2_with fail
  refine HAW.out.mono ?_
  rintro e w1 ⟨rfl, hb1⟩
  have HB1 := Lib.hid (EnvX.below E0.out hb1).bel
  have E1 : Hid (EnvX w1 w1 [((w.heap.size + 1), Obj.cells (arrB 32 v) 24 (0, 0)), (w.heap.size, Obj.cells (arrB 32 id) 24 (0, 0))]) := ⟨Below.refl _ _, (EnvX.below E0.out hb1).box⟩
  have HT1 := Lib.hid (HT.out.below HB1.out)
  clear hb1 E0 HAW
  go_upto_region 2 with (fail)
  refine wp_region_Hx (w0 := w1) [0, 1, 2, 3, 4, 5, 6, 7, 8, 9, 10, 11] [((w.heap.size + 1), Obj.cells (arrB 32 v) 24 (0, 0)), (w.heap.size, Obj.cells (arrB 32 id) 24 (0, 0))] rfl E1.out ?_
  refine lexH_phase [0, 1, 2, 3, 4, 5, 6, 7, 8, 9, 10, 11] [] ?_
  have hw701 : EnvX w1 _ [((w.heap.size + 1), Obj.cells (arrB 32 v) 24 (0, 0)), (w.heap.size, Obj.cells (arrB 32 id) 24 (0, 0))] := E1.out
  have hone := @EnvC.one _ _ _ hw701
  (refine wpG_op rfl rfl rfl ?_; intro K hK; go_big_quiet_op; go_big_quiet_on)
  (refine wpG_op rfl rfl rfl ?_; intro K hK; go_big_quiet_op; go_big_quiet_on)
  (refine wpG_op rfl rfl rfl ?_; intro K hK; go_big_quiet_op; go_big_quiet_on)
  (refine wpG_op rfl rfl rfl ?_; intro K hK; go_big_quiet_op; go_big_quiet_on)
  (refine wpG_val (v := .int .i64 (m : Int)) rfl rfl (fun u hu => lenI_op u rfl) ?_ hw701; intro K hK; go_big_quiet_op; go_big_quiet_on)
  (refine wpG_val (v := .bool true) rfl rfl (fun u hu => gtZ_op u K5.out rfl rfl) ?_ hw701; intro K hK; go_big_quiet_op; go_big_quiet_on)
  (refine wpG_op rfl rfl rfl ?_; intro K hK; go_big_quiet_op; go_big_quiet_on)
  (refine wpG_op rfl rfl rfl ?_; intro K hK; go_big_quiet_op; go_big_quiet_on)
  (refine wpG_skip rfl rfl ?_ hw701; intro K hK; go_big_quiet_op; go_big_quiet_on)
  (refine wpG_skip rfl rfl ?_ hw701; intro K hK; go_big_quiet_op; go_big_quiet_on)
  (refine wpG_skip rfl rfl ?_ hw701; intro K hK; go_big_quiet_op; go_big_quiet_on)
  (refine wpG_op rfl rfl rfl ?_; intro K hK; go_big_quiet_op; go_big_quiet_on)
  clear hone hw701
  refine wpG_nil ?_
  intro u703 E2'
  have EX702 := Lib.hid E2'
  clear E2'
  have HB1 := Lib.hid (HB1.out.trans ((EnvX.bel EX702.out).mono HB1.out.size))
  have HT1 := Lib.hid (HT1.out.below (EnvX.bel EX702.out))
  have E1 : Hid (EnvX u703 u703 [((w.heap.size + 1), Obj.cells (arrB 32 v) 24 (0, 0)), (w.heap.size, Obj.cells (arrB 32 id) 24 (0, 0))]) := ⟨Below.refl _ _, EX702.out.box⟩
  clear EX702
  go_wp2
  go_ret
  exact ⟨rfl, HB1.out⟩
set_option maxRecDepth 20000 in
set_option maxHeartbeats 8000000 in
theorem llaw_tells_long (T : TreeC) (K : LinkC) (l p : List (List Int)) (id v : List Int) (lev i : Int) (A A2 : Option Addr) (m c k d : Nat) (w : World) (hl : l.length = m) (hmc : m ≤ c) (hcm : c ≤ maxLen) (hI : isIds l) (hA : IdsIn w w.heap.size A l) (hp : p.length = k) (hkd : k ≤ d) (hdm : d ≤ maxLen) (hJ : isIds p) (hA2 : IdsIn w w.heap.size A2 p) (hid : isId id) (hv : isId v) (hlev : I64 lev) (hi : I64 i) (ht : Tables w) (k1 : ¬ 70 < m) (k2 : 12 < k) :
    Calls Tryd.prog 3 #[.slice A m c, idv id, idv v, .int .i64 lev, .int .i64 i, .slice A2 k d] w fun e w' => e = .returned (.bool true) ∧ Below w.heap.size w w' := by
  have K5 : Hid (decide (70 < (m : Int)) = false) := decide_eq_false (by omega)
  have K10 : Hid (decide (12 < (k : Int)) = true) := decide_eq_true (by omega)
  clear k1
  have E0 : Hid (EnvX w ((w.alloc (.cells (arrB 32 id) 24)).alloc (.cells (arrB 32 v) 24)) [((w.heap.size + 1), Obj.cells (arrB 32 v) 24 (0, 0)), (w.heap.size, Obj.cells (arrB 32 id) 24 (0, 0))]) := (EnvX.start w).two _ _
  have HAW := Lib.hid (lawake_any T K ((w.alloc (.cells (arrB 32 id) 24)).alloc (.cells (arrB 32 v) 24)) (ht.below (EnvX.bel E0.out)))
  have HT := Lib.hid ht
  have HTR := Lib.hid T
  have HK := Lib.hid K
  clear ht T K
  unfold idv
  go_enter Tryd.func3, Tryd.ntmps3
  go_upto_region 1 with (fail)
  generalize ((w.alloc (.cells (arrB 32 id) 24)).alloc (.cells (arrB 32 v) 24)) = W at *
  go_wp2_with fail
  refine HAW.out.mono ?_
  rintro e w1 ⟨rfl, hb1⟩
  have HB1 := Lib.hid (EnvX.below E0.out hb1).bel
  have E1 : Hid (EnvX w1 w1 [((w.heap.size + 1), Obj.cells (arrB 32 v) 24 (0, 0)), (w.heap.size, Obj.cells (arrB 32 id) 24 (0, 0))]) := ⟨Below.refl _ _, (EnvX.below E0.out hb1).box⟩
  have HT1 := Lib.hid (HT.out.below HB1.out)
  clear hb1 E0 HAW
  go_upto_region 2 with (fail)
  refine wp_region_Hx (w0 := w1) [0, 1, 2, 3, 4, 5, 6, 7, 8, 9, 10, 11] [((w.heap.size + 1), Obj.cells (arrB 32 v) 24 (0, 0)), (w.heap.size, Obj.cells (arrB 32 id) 24 (0, 0))] rfl E1.out ?_
  refine lexH_phase [0, 1, 2, 3, 4, 5, 6, 7, 8, 9, 10, 11] [] ?_
  have hw701 : EnvX w1 _ [((w.heap.size + 1), Obj.cells (arrB 32 v) 24 (0, 0)), (w.heap.size, Obj.cells (arrB 32 id) 24 (0, 0))] := E1.out
  have hone := @EnvC.one _ _ _ hw701
  (refine wpG_op rfl rfl rfl ?_; intro K hK; go_big_quiet_op; go_big_quiet_on)
  (refine wpG_op rfl rfl rfl ?_; intro K hK; go_big_quiet_op; go_big_quiet_on)
  (refine wpG_op rfl rfl rfl ?_; intro K hK; go_big_quiet_op; go_big_quiet_on)
  (refine wpG_op rfl rfl rfl ?_; intro K hK; go_big_quiet_op; go_big_quiet_on)
  (refine wpG_val (v := .int .i64 (m : Int)) rfl rfl (fun u hu => lenI_op u rfl) ?_ hw701; intro K hK; go_big_quiet_op; go_big_quiet_on)
  (refine wpG_val (v := .bool false) rfl rfl (fun u hu => gtZ_op u K5.out rfl rfl) ?_ hw701; intro K hK; go_big_quiet_op; go_big_quiet_on)
  (refine wpG_op rfl rfl rfl ?_; intro K hK; go_big_quiet_op; go_big_quiet_on)
  (refine wpG_op rfl rfl rfl ?_; intro K hK; go_big_quiet_op; go_big_quiet_on)
  (refine wpG_op rfl rfl rfl ?_; intro K hK; go_big_quiet_op; go_big_quiet_on)
  (refine wpG_val (v := .int .i64 (k : Int)) rfl rfl (fun u hu => lenI_op u rfl) ?_ hw701; intro K hK; go_big_quiet_op; go_big_quiet_on)
  (refine wpG_val (v := .bool true) rfl rfl (fun u hu => gtZ_op u K10.out rfl rfl) ?_ hw701; intro K hK; go_big_quiet_op; go_big_quiet_on)
  (refine wpG_op rfl rfl rfl ?_; intro K hK; go_big_quiet_op; go_big_quiet_on)
  clear hone hw701
  refine wpG_nil ?_
  intro u703 E2'
  have EX702 := Lib.hid E2'
  clear E2'
  have HB1 := Lib.hid (HB1.out.trans ((EnvX.bel EX702.out).mono HB1.out.size))
  have HT1 := Lib.hid (HT1.out.below (EnvX.bel EX702.out))
  have E1 : Hid (EnvX u703 u703 [((w.heap.size + 1), Obj.cells (arrB 32 v) 24 (0, 0)), (w.heap.size, Obj.cells (arrB 32 id) 24 (0, 0))]) := ⟨Below.refl _ _, EX702.out.box⟩
  clear EX702
  go_wp2
  go_ret
  exact ⟨rfl, HB1.out⟩
set_option maxRecDepth 20000 in
set_option maxHeartbeats 8000000 in
theorem llaw_tells_main (T : TreeC) (K : LinkC) (l p : List (List Int)) (id v : List Int) (lev i : Int) (A A2 : Option Addr) (m c k d : Nat) (w : World) (hl : l.length = m) (hmc : m ≤ c) (hcm : c ≤ maxLen) (hI : isIds l) (hA : IdsIn w w.heap.size A l) (hp : p.length = k) (hkd : k ≤ d) (hdm : d ≤ maxLen) (hJ : isIds p) (hA2 : IdsIn w w.heap.size A2 p) (hid : isId id) (hv : isId v) (hlev : I64 lev) (hi : I64 i) (ht : Tables w) (k1 : m ≤ 70) (k2 : k ≤ 12) :
    Calls Tryd.prog 3 #[.slice A m c, idv id, idv v, .int .i64 lev, .int .i64 i, .slice A2 k d] w fun e w' => e = .returned (.bool true) ∧ Below w.heap.size w w' := by
  have K5 : Hid (decide (70 < (m : Int)) = false) := decide_eq_false (by omega)
  have K10 : Hid (decide (12 < (k : Int)) = false) := decide_eq_false (by omega)
  obtain ⟨B, hB⟩ : ∃ B, nextT l id lev = B := ⟨_, rfl⟩
  have HB32 : Hid (B.length ≤ 32) := by rw [← hB]; exact next_len
  have HIB : Hid (isIds B) := by rw [← hB]; exact next_ids hI hid
  have HNB := Lib.hid hB
  have HPF := Lib.hid (lpathR_facts (leavesL_ids l) i)
  have HRI : Hid (isId (rootT (leavesL l))) := root_id (leavesL_ids l)
  have HD := Lib.hid hid
  have HV := Lib.hid hv
  have HL := Lib.hid (And.intro hl (And.intro hmc hcm))
  have HIA := Lib.hid (And.intro hI hA)
  have HP := Lib.hid (And.intro hp (And.intro hkd hdm))
  have HJA := Lib.hid (And.intro hJ hA2)
  have HLI := Lib.hid (And.intro hlev hi)
  have HM := Lib.hid (And.intro k1 k2)
  have hm6 : m ≤ 1000000 := by omega
  have hk6 : k ≤ 1000000 := by omega
  have hmI : I64 (m : Int) := ⟨by omega, by omega⟩
  have HM6 := Lib.hid (And.intro hm6 (And.intro hk6 hmI))
  clear hl hI hid hv hA hmc hcm hp hkd hdm hJ hA2 hlev hi hB k1 k2 hm6 hk6 hmI
  have E0 : Hid (EnvX w ((w.alloc (.cells (arrB 32 id) 24)).alloc (.cells (arrB 32 v) 24)) [((w.heap.size + 1), Obj.cells (arrB 32 v) 24 (0, 0)), (w.heap.size, Obj.cells (arrB 32 id) 24 (0, 0))]) := (EnvX.start w).two _ _
  have HAW := Lib.hid (lawake_any T K ((w.alloc (.cells (arrB 32 id) 24)).alloc (.cells (arrB 32 v) 24)) (ht.below (EnvX.bel E0.out)))
  have HT := Lib.hid ht
  have HTR := Lib.hid T
  have HK := Lib.hid K
  clear ht T K
  unfold idv
  go_enter Tryd.func3, Tryd.ntmps3
  go_upto_region 1 with (fail)
  generalize ((w.alloc (.cells (arrB 32 id) 24)).alloc (.cells (arrB 32 v) 24)) = W at *
  go_wp2_with fail
  refine HAW.out.mono ?_
  rintro e w1 ⟨rfl, hb1⟩
  have HB1 := Lib.hid (EnvX.below E0.out hb1).bel
  have E1 : Hid (EnvX w1 w1 [((w.heap.size + 1), Obj.cells (arrB 32 v) 24 (0, 0)), (w.heap.size, Obj.cells (arrB 32 id) 24 (0, 0))]) := ⟨Below.refl _ _, (EnvX.below E0.out hb1).box⟩
  have HT1 := Lib.hid (HT.out.below HB1.out)
  clear hb1 E0 HAW
  go_upto_region 2 with (fail)
  refine wp_region_Hx (w0 := w1) [0, 1, 2, 3, 4, 5, 6, 7, 8, 9, 10, 11] [((w.heap.size + 1), Obj.cells (arrB 32 v) 24 (0, 0)), (w.heap.size, Obj.cells (arrB 32 id) 24 (0, 0))] rfl E1.out ?_
  refine lexH_phase [0, 1, 2, 3, 4, 5, 6, 7, 8, 9, 10, 11] [] ?_
  have hw701 : EnvX w1 _ [((w.heap.size + 1), Obj.cells (arrB 32 v) 24 (0, 0)), (w.heap.size, Obj.cells (arrB 32 id) 24 (0, 0))] := E1.out
  have hone := @EnvC.one _ _ _ hw701
  (refine wpG_op rfl rfl rfl ?_; intro K hK; go_big_quiet_op; go_big_quiet_on)
  (refine wpG_op rfl rfl rfl ?_; intro K hK; go_big_quiet_op; go_big_quiet_on)
  (refine wpG_op rfl rfl rfl ?_; intro K hK; go_big_quiet_op; go_big_quiet_on)
  (refine wpG_op rfl rfl rfl ?_; intro K hK; go_big_quiet_op; go_big_quiet_on)
  (refine wpG_val (v := .int .i64 (m : Int)) rfl rfl (fun u hu => lenI_op u rfl) ?_ hw701; intro K hK; go_big_quiet_op; go_big_quiet_on)
  (refine wpG_val (v := .bool false) rfl rfl (fun u hu => gtZ_op u K5.out rfl rfl) ?_ hw701; intro K hK; go_big_quiet_op; go_big_quiet_on)
  (refine wpG_op rfl rfl rfl ?_; intro K hK; go_big_quiet_op; go_big_quiet_on)
  (refine wpG_op rfl rfl rfl ?_; intro K hK; go_big_quiet_op; go_big_quiet_on)
  (refine wpG_op rfl rfl rfl ?_; intro K hK; go_big_quiet_op; go_big_quiet_on)
  (refine wpG_val (v := .int .i64 (k : Int)) rfl rfl (fun u hu => lenI_op u rfl) ?_ hw701; intro K hK; go_big_quiet_op; go_big_quiet_on)
  (refine wpG_val (v := .bool false) rfl rfl (fun u hu => gtZ_op u K10.out rfl rfl) ?_ hw701; intro K hK; go_big_quiet_op; go_big_quiet_on)
  (refine wpG_op rfl rfl rfl ?_; intro K hK; go_big_quiet_op; go_big_quiet_on)
  clear hone hw701
  refine wpG_nil ?_
  intro u703 E2'
  have EX702 := Lib.hid E2'
  clear E2'
  have HB1 := Lib.hid (HB1.out.trans ((EnvX.bel EX702.out).mono HB1.out.size))
  have HT1 := Lib.hid (HT1.out.below (EnvX.bel EX702.out))
  have E1 : Hid (EnvX u703 u703 [((w.heap.size + 1), Obj.cells (arrB 32 v) 24 (0, 0)), (w.heap.size, Obj.cells (arrB 32 id) 24 (0, 0))]) := ⟨Below.refl _ _, EX702.out.box⟩
  clear EX702
  go_upto_region 4 with (fail)
  refine wp_region_H (w0 := u703) [((w.heap.size + 1), Obj.cells (arrB 32 v) 24 (0, 0)), (w.heap.size, Obj.cells (arrB 32 id) 24 (0, 0))] (by kernel_rfl) E1.out ?_
  refine anyH_phase [0, 1, 2, 4, 5, 6] 4 rfl ⟨_, (EnvX.drew E1.out)⟩ (by kernel_rfl) ?_
  have hw761 : EnvX u703 _ [((w.heap.size + 1), Obj.cells (arrB 32 v) 24 (0, 0)), (w.heap.size, Obj.cells (arrB 32 id) 24 (0, 0))] := (EnvX.drew E1.out)
  have hone := @EnvC.one _ _ _ hw761
  (refine wpG_op rfl rfl rfl ?_; intro K hK; go_big_quiet_op; go_big_quiet_on)
  (refine wpG_val (v := idv id) rfl rfl (fun u hu => load_run_op u (box_load hu (List.Mem.tail _ (List.Mem.head _)) HD.out.1) rfl) ?_ hw761; intro K hK; go_big_quiet_op; go_big_quiet_on)
  (refine wpG_op rfl rfl rfl ?_; intro K hK; go_big_quiet_op; go_big_quiet_on)
  (refine wpG_op rfl rfl rfl ?_; intro K hK; go_big_quiet_op; go_big_quiet_on)
  (refine wpG_val (v := idv id) rfl rfl (fun u hu => load_run_op u (box_load hu (List.Mem.tail _ (List.Mem.head _)) HD.out.1) rfl) ?_ hw761; intro K hK; go_big_quiet_op; go_big_quiet_on)
  (refine wpG_op rfl rfl rfl ?_; intro K hK; go_big_quiet_op; go_big_quiet_on)
  clear hone hw761
  refine wpG_nil ?_
  refine anyH_one (i := 3) (by kernel_rfl) (hOp_fresh (R := FreshI B) (M0 := [((w.heap.size + 1), Obj.cells (arrB 32 v) 24 (0, 0)), (w.heap.size, Obj.cells (arrB 32 id) 24 (0, 0))]) rfl rfl (fun _ h => h) (fun u hu => FAt_call (fid := 11) (xs := #[.tmp 36, .tmp 37, .tmp 38]) (args := #[.slice A m c, idv id, .int .i64 lev]) rfl Tryd.func11 rfl rfl u (callsI_fresh (by have h := HK.out.next l id lev A m c u HL.out.1 HM6.out.1 HL.out.2.1 HL.out.2.2 HIA.out.1 HD.out HLI.out.1 ((HIA.out.2.up HB1.out).up (EnvX.bel hu)) (HT1.out.below (EnvX.bel hu)); rwa [HNB.out] at h))) ?_)
  rintro x1 N1 hFa hf he762; intro K' hK'; go_big_quiet_op; go_big_quiet_on
  obtain ⟨Aa, ca, rfl, ha1, ha2⟩ := FreshI.form hFa
  have HFa := Lib.hid (And.intro hFa (And.intro ha1 ha2))
  clear hFa ha1 ha2
  clear hf
  change anyH _ _ _ _ _ _ _ _ (N1 ++ (((w.heap.size + 1), Obj.cells (arrB 32 v) 24 (0, 0)) :: ((w.heap.size, Obj.cells (arrB 32 id) 24 (0, 0)) :: [])))
  refine anyH_one (i := 7) (by kernel_rfl) (hOp_fresh (R := FreshI B) (M0 := (N1 ++ (((w.heap.size + 1), Obj.cells (arrB 32 v) 24 (0, 0)) :: ((w.heap.size, Obj.cells (arrB 32 id) 24 (0, 0)) :: [])))) rfl rfl (fun _ h => h) (fun u hu => FAt_call (fid := 12) (xs := #[.tmp 40, .tmp 41, .tmp 42]) (args := #[.slice A m c, idv id, .int .i64 lev]) rfl Tryd.func12 rfl rfl u (callsI_fresh (by have h := rlnext_any l id lev A m c u HL.out.1 HM6.out.1 HLI.out.1 HIA.out.1 HD.out ((HIA.out.2.up HB1.out).up (EnvX.bel hu)); rwa [HNB.out] at h))) ?_)
  rintro x2 N2 hFb hf he763; intro K' hK'; go_big_quiet_op; go_big_quiet_on
  obtain ⟨Ab, cb, rfl, hb1, hb2⟩ := FreshI.form hFb
  have HFb := Lib.hid (And.intro hFb (And.intro hb1 hb2))
  clear hFb hb1 hb2
  clear hf
  change anyH _ _ _ _ _ _ _ _ (N2 ++ (N1 ++ (((w.heap.size + 1), Obj.cells (arrB 32 v) 24 (0, 0)) :: ((w.heap.size, Obj.cells (arrB 32 id) 24 (0, 0)) :: []))))
  refine anyH_phase [8, 9] 0 rfl ⟨_, he763.choose_spec⟩ (by kernel_rfl) ?_
  have hw764 : EnvX u703 _ (N2 ++ (N1 ++ (((w.heap.size + 1), Obj.cells (arrB 32 v) 24 (0, 0)) :: ((w.heap.size, Obj.cells (arrB 32 id) 24 (0, 0)) :: [])))) := he763.choose_spec
  have hone := @EnvC.one _ _ _ hw764
  (refine wpG_call (f := 10) (args := #[.slice Aa B.length ca, .slice Ab B.length cb]) (v := .bool true) rfl rfl rfl Tryd.func10 rfl rfl (fun u hu => (by have h := rids_any B B Aa Ab B.length ca B.length cb u rfl rfl (by have := HB32.out; omega) (by have := HB32.out; omega) HFa.out.2.1 HFa.out.2.2 HFb.out.2.1 HFb.out.2.2 HIB.out HIB.out (HFa.out.1.ids HIB.out hu (fun y hy => (List.mem_append_right _ (List.mem_append_left _ hy)))) (HFb.out.1.ids HIB.out hu (fun y hy => (List.mem_append_left _ hy))); rwa [decide_eq_true rfl] at h)) ?_ hw764; intro K hK; go_big_quiet_op; go_big_quiet_on)
  (refine wpG_op rfl rfl rfl ?_; intro K hK; go_big_quiet_op; go_big_quiet_on)
  clear hone hw764
  refine wpG_nil ?_
  refine anyH_done (by kernel_rfl) ?_
  intro u766 E2'
  have EX765 := Lib.hid E2'
  clear E2'
  have HB4 := Lib.hid (HB1.out.trans ((EnvX.bel EX765.out).mono HB1.out.size))
  have HLI1 : Hid (∀ u, EnvX u766 u [] → (loadVar 24 ⟨w.heap.size, 0, none⟩).run Tryd.prog u = .ok (idv id) u) := fun u hu => box_load (EnvX.comb EX765.out hu) (List.mem_append_right [] (List.mem_append_right _ (List.mem_append_right _ (List.Mem.tail _ (List.Mem.head _))))) HD.out.1
  have HLV1 : Hid (∀ u, EnvX u766 u [] → (loadVar 24 ⟨w.heap.size + 1, 0, none⟩).run Tryd.prog u = .ok (idv v) u) := fun u hu => box_load (EnvX.comb EX765.out hu) (List.mem_append_right [] (List.mem_append_right _ (List.mem_append_right _ (List.Mem.head _)))) HV.out.1
  clear EX765 E1
  generalize u766 = w2 at *
  have HT2 := Lib.hid (HT.out.below HB4.out)
  have HA4 := Lib.hid (HIA.out.2.up HB4.out)
  have HB2 := HB4
  have HPC : Hid (Calls Tryd.prog 13 #[.slice A m c, .int .i64 i] w2 fun e w' => (∃ v, e = .returned (.tuple #[v, .bool (pathR (leavesL l) i).2]) ∧ OwnI w' w2.heap.size v (pathR (leavesL l) i).1) ∧ Below w2.heap.size w2 w') := HK.out.path l i A m c w2 HL.out.1 HM6.out.1 HL.out.2.1 HL.out.2.2 HLI.out.2 HIA.out.1 (HIA.out.2.up HB2.out) HT2.out
  go_upto_region 5 with (fail)
  go_wp2_with fail
  refine HPC.out.mono ?_
  rintro e w3 ⟨⟨vp, rfl, hvp⟩, hb⟩
  have HB3 := Lib.hid (HB2.out.trans (hb.mono HB2.out.size))
  obtain ⟨Av0, cv0, rfl, hv0, hm0⟩ := hvp.form
  have HV0 := Lib.hid hvp.ids
  have HMM0 := Lib.hid (And.intro hv0 hm0)
  have HW0 := Lib.hid hb
  clear hb hvp HPC hv0 hm0
  have HPC : Hid (Calls Tryd.prog 14 #[.slice A m c, .int .i64 i] w3 fun e w' => (∃ v, e = .returned (.tuple #[v, .bool (pathR (leavesL l) i).2]) ∧ OwnI w' w3.heap.size v (pathR (leavesL l) i).1) ∧ Below w3.heap.size w3 w') := rlpath_any l i A m c w3 HL.out.1 HM6.out.1 HLI.out.2 HIA.out.1 (HIA.out.2.up HB3.out)
  go_upto_region 6 with (fail)
  go_wp2_with fail
  refine HPC.out.mono ?_
  rintro e w4 ⟨⟨vp, rfl, hvp⟩, hb⟩
  have HB4 := Lib.hid (HB3.out.trans (hb.mono HB3.out.size))
  obtain ⟨Av1, cv1, rfl, hv1, hm1⟩ := hvp.form
  have HV1 := Lib.hid hvp.ids
  have HMM1 := Lib.hid (And.intro hv1 hm1)
  have HW1 := Lib.hid hb
  clear hb hvp HPC hv1 hm1
  obtain ⟨pp, hpp⟩ : ∃ pp, (pathR (leavesL l) i).1 = pp := ⟨_, rfl⟩
  obtain ⟨bb, hbb⟩ : ∃ bb, (pathR (leavesL l) i).2 = bb := ⟨_, rfl⟩
  rw [hpp] at HPF HV0 HV1 HMM0 HMM1 ⊢
  rw [hbb]
  clear hpp hbb
  have HV03 := Lib.hid (HV0.out.up HW1.out)
  have HIDC : Hid (Calls Tryd.prog 10 #[.slice Av0 pp.length cv0, .slice Av1 pp.length cv1] w4 fun e w' => e = .returned (.bool true) ∧ Below w4.heap.size w4 w') := by
    have h := rids_any pp pp Av0 Av1 pp.length cv0 pp.length cv1 w4 rfl rfl (by have := HPF.out.2; omega) (by have := HPF.out.2; omega) HMM0.out.1 HMM0.out.2 HMM1.out.1 HMM1.out.2 HPF.out.1 HPF.out.1 HV03.out HV1.out
    rwa [decide_eq_true rfl] at h
  go_upto_region 7 with (fail)
  go_wp2_with fail
  refine HIDC.out.mono ?_
  rintro e w5 ⟨rfl, hb⟩
  have HB5 := Lib.hid (HB4.out.trans (hb.mono HB4.out.size))
  have H25 := Lib.hid (HW0.out.trans ((HW1.out.trans (hb.mono HW1.out.size)).mono HW0.out.size))
  clear hb HIDC
  have E5 : Hid (EnvX w5 w5 []) := EnvX.start w5
  have HT5 := Lib.hid (HT.out.below HB5.out)
  have HA5 := Lib.hid (HIA.out.2.up HB5.out)
  have HQ5 := Lib.hid (HJA.out.2.up HB5.out)
  have HU2 : Hid (∀ u, EnvX w5 u [] → EnvX w2 u []) := fun u hu => ⟨H25.out.trans ((EnvX.bel hu).mono H25.out.size), fun _ _ h => by cases h⟩
  have HRR : Hid (∀ u, EnvX w5 u [] → Calls Tryd.prog 15 #[.slice A m c] u fun e w' => e = .returned (idv (rootT (leavesL l))) ∧ Below u.heap.size u w') := fun u hu => rlroot_any l A m c u HL.out.1 HM6.out.1 HIA.out.1 (HA5.out.up (EnvX.bel hu))
  have HRT : Hid (∀ u, EnvX w5 u [] → Calls Tryd.prog 17 #[.slice A m c] u fun e w' => e = .returned (idv (rootT (leavesL l))) ∧ Below u.heap.size u w') := fun u hu => HK.out.root l A m c u HL.out.1 HM6.out.1 HL.out.2.1 HL.out.2.2 HIA.out.1 (HA5.out.up (EnvX.bel hu)) (HT5.out.below (EnvX.bel hu))
  have HLD1 : Hid (∀ u, EnvX w5 u [] → Calls Tryd.prog 16 #[.slice A m c, idv v, idv id] u fun e w' => e = .returned (.bool (leadsT l v id)) ∧ Below u.heap.size u w') := fun u hu => rlleads_any l v id A m c u HL.out.1 HM6.out.1 HIA.out.1 (HA5.out.up (EnvX.bel hu)) HV.out HD.out
  have HLD2 : Hid (∀ u, EnvX w5 u [] → Calls Tryd.prog 18 #[.slice A m c, idv v, idv id] u fun e w' => e = .returned (.bool (leadsT l v id)) ∧ Below u.heap.size u w') := fun u hu => HK.out.leads l v id A m c u HL.out.1 HM6.out.1 HL.out.2.1 HL.out.2.2 HIA.out.1 HV.out HD.out (HA5.out.up (EnvX.bel hu)) (HT5.out.below (EnvX.bel hu))
  have HCK1 : Hid (∀ u, EnvX w5 u [] → Calls Tryd.prog 19 #[idv (rootT (leavesL l)), .int .i64 m, .int .i64 i, idv id, .slice A2 k d] u fun e w' => e = .returned (.bool (checkT (rootT (leavesL l)) m i (leafT id) p)) ∧ Below u.heap.size u w') := fun u hu => HK.out.check (rootT (leavesL l)) id m i p A2 k d u HRI.out HD.out HM6.out.2.2 HLI.out.2 HP.out.1 HM6.out.2.1 HP.out.2.1 HP.out.2.2 HJA.out.1 (HQ5.out.up (EnvX.bel hu)) (HT5.out.below (EnvX.bel hu))
  have HCK2 : Hid (∀ u, EnvX w5 u [] → Calls Tryd.prog 20 #[idv (rootT (leavesL l)), .int .i64 m, .int .i64 i, idv id, .slice A2 k d] u fun e w' => e = .returned (.bool (checkT (rootT (leavesL l)) m i (leafT id) p)) ∧ Below u.heap.size u w') := fun u hu => rlcheck_any (rootT (leavesL l)) id m i p A2 k d u HRI.out HD.out HM6.out.2.2 HLI.out.2 HP.out.1 HM6.out.2.1 HP.out.2.1 HP.out.2.2 HJA.out.1 (HQ5.out.up (EnvX.bel hu))
  generalize checkT (rootT (leavesL l)) m i (leafT id) p = cb0 at *
  generalize rootT (leavesL l) = rr at *
  generalize leadsT l v id = lb at *
  have HER : Hid (eqL rr rr = true) := by show _ = _; simp [eqL]
  go_upto_region 8 with (fail)
  refine wp_region_Hx (w0 := w5) [0, 1, 2, 3] [] rfl E5.out ?_
  refine lexH_phase [0, 1] [2, 3] ?_
  have hw861 : EnvX w5 _ [] := E5.out
  have hone := @EnvC.one _ _ _ hw861
  (refine wpG_op rfl rfl rfl ?_; intro K hK; go_big_quiet_op; go_big_quiet_on)
  (refine wpG_call (f := 15) (args := #[.slice A m c]) (v := idv rr) rfl rfl rfl Tryd.func15 rfl rfl (fun u hu => HRR.out u (EnvX.sub hu (fun _ h => by cases h))) ?_ hw861; intro K hK; go_big_quiet_op; go_big_quiet_on)
  clear hone hw861
  refine wpG_nil ?_
  refine (hOp_fresh (R := fun x N => ∃ g, x = .pointer (some ⟨g, 0, none⟩) ∧ N = [(g, Obj.cells (arrB 32 []) 24 (0, 0))]) (M0 := []) rfl rfl (fun _ h => h) (fun u hu => FAt_new (new_id _) u) ?_)
  rintro _ _ ⟨gr, rfl, rfl⟩ hf he862; intro K' hK'; go_big_quiet_op; go_big_quiet_on
  have HGgr := Lib.hid (hf _ (List.mem_singleton.2 rfl))
  clear hf
  change lexH _ _ _ _ _ _ [(gr, Obj.cells (arrB 32 []) 24 (0, 0))]
  refine (hOp_store rfl (gr) (arrB 32 rr) rfl rfl HGgr.out.1 24 ((arrB 32 [])) (List.Mem.head _) (info26 _ (arrB_size _ _ (by rw [HRI.out.1]; omega))) ((arrB_size _ _ (by simp)).trans (arrB_size _ _ (by rw [HRI.out.1]; omega)).symm) (arrB_one _ _) [(gr, Obj.cells (arrB 32 rr) 24 (0, 0))] (List.forall_mem_cons.2 ⟨.inl rfl, (fun _ h => by cases h)⟩) ?_)
  intro he863
  intro u865 E2'
  have EX864 := Lib.hid E2'
  clear E2'
  have HZU := Lib.hid (EnvX.bel EX864.out)
  have HLR : Hid (∀ u, EnvX u865 u [] → (loadVar 24 ⟨gr, 0, none⟩).run Tryd.prog u = .ok (idv rr) u) := fun u hu => box_load (EnvX.comb EX864.out hu) (List.mem_append_right _ (List.Mem.head _)) HRI.out.1
  have HU5 : Hid (∀ u, EnvX u865 u [] → EnvX w5 u []) := fun u hu => ⟨HZU.out.trans ((EnvX.bel hu).mono HZU.out.size), fun _ _ h => by cases h⟩
  have HB6 := Lib.hid (HB5.out.trans (HZU.out.mono HB5.out.size))
  clear EX864 E5
  generalize u865 = U at *
  have EU : Hid (EnvX U U []) := EnvX.start U
  go_upto_region 9 with (fail)
  refine wp_region_Hx (w0 := U) [0, 1, 2, 3, 4] [] rfl EU.out ?_
  refine lexH_phase [0, 1, 2, 3, 4] [] ?_
  have hw866 : EnvX U _ [] := EU.out
  have hone := @EnvC.one _ _ _ hw866
  (refine wpG_op rfl rfl rfl ?_; intro K hK; go_big_quiet_op; go_big_quiet_on)
  (refine wpG_val (v := idv v) rfl rfl (fun u hu => load_run_op u (HLV1.out u (HU2.out u (HU5.out u (EnvX.sub hu (fun _ h => by cases h))))) rfl) ?_ hw866; intro K hK; go_big_quiet_op; go_big_quiet_on)
  (refine wpG_val (v := idv id) rfl rfl (fun u hu => load_run_op u (HLI1.out u (HU2.out u (HU5.out u (EnvX.sub hu (fun _ h => by cases h))))) rfl) ?_ hw866; intro K hK; go_big_quiet_op; go_big_quiet_on)
  (refine wpG_call (f := 16) (args := #[.slice A m c, idv v, idv id]) (v := .bool lb) rfl rfl rfl Tryd.func16 rfl rfl (fun u hu => HLD1.out u (HU5.out u (EnvX.sub hu (fun _ h => by cases h)))) ?_ hw866; intro K hK; go_big_quiet_op; go_big_quiet_on)
  (refine wpG_op rfl rfl rfl ?_; intro K hK; go_big_quiet_op; go_big_quiet_on)
  clear hone hw866
  refine wpG_nil ?_
  intro u868 E2'
  have EX867 := Lib.hid E2'
  clear E2'
  go_upto_region 10 with (fail)
  refine wp_region_H (w0 := U) [] (by kernel_rfl) EX867.out ?_
  refine anyH_phaseN [0, 1, 2, 3, 4, 5, 6, 7, 8, 9, 10, 11, 12, 13, 14, 15, 16, 17, 18, 19, 20, 21, 22, 23, 24, 25, 26, 27, 28, 29, 30, 31, 32, 33, 34, 35, 36, 37, 38, 39, 40] 0 rfl (by kernel_rfl) ?_
  have hw869 : EnvX U _ [] := EnvX.sub (EnvX.drew EX867.out) (fun _ h => by cases h)
  have hone := @EnvC.one _ _ _ hw869
  (refine wpG_op rfl rfl rfl ?_; intro K hK; go_big_quiet_op; go_big_quiet_on)
  (refine wpG_op rfl rfl rfl ?_; intro K hK; go_big_quiet_op; go_big_quiet_on)
  (refine wpG_op rfl rfl rfl ?_; intro K hK; go_big_quiet_op; go_big_quiet_on)
  (refine wpG_op rfl rfl rfl ?_; intro K hK; go_big_quiet_op; go_big_quiet_on)
  (refine wpG_op rfl rfl rfl ?_; intro K hK; go_big_quiet_op; go_big_quiet_on)
  (refine wpG_op rfl rfl rfl ?_; intro K hK; go_big_quiet_op; go_big_quiet_on)
  (refine wpG_op rfl rfl rfl ?_; intro K hK; go_big_quiet_op; go_big_quiet_on)
  (refine wpG_val (v := .bool true) rfl rfl (fun u hu => eqlTT_op u rfl rfl) ?_ hw869; intro K hK; go_big_quiet_op; go_big_quiet_on)
  (refine wpG_op rfl rfl rfl ?_; intro K hK; go_big_quiet_op; go_big_quiet_on)
  (refine wpG_op rfl rfl rfl ?_; intro K hK; go_big_quiet_op; go_big_quiet_on)
  (refine wpG_op rfl rfl rfl ?_; intro K hK; go_big_quiet_op; go_big_quiet_on)
  (refine wpG_call (f := 17) (args := #[.slice A m c]) (v := idv rr) rfl rfl rfl Tryd.func17 rfl rfl (fun u hu => HRT.out u (HU5.out u (EnvX.sub hu (fun _ h => by cases h)))) ?_ hw869; intro K hK; go_big_quiet_op; go_big_quiet_on)
  (refine wpG_val (v := idv rr) rfl rfl (fun u hu => load_run_op u (HLR.out u (EnvX.sub hu (fun _ h => by cases h))) rfl) ?_ hw869; intro K hK; go_big_quiet_op; go_big_quiet_on)
  (refine wpG_val (v := .bool true) rfl rfl (fun u hu => eqlb_op HRI.out.1 HRI.out.1 HER.out u rfl rfl) ?_ hw869; intro K hK; go_big_quiet_op; go_big_quiet_on)
  (refine wpG_op rfl rfl rfl ?_; intro K hK; go_big_quiet_op; go_big_quiet_on)
  (refine wpG_op rfl rfl rfl ?_; intro K hK; go_big_quiet_op; go_big_quiet_on)
  (refine wpG_op rfl rfl rfl ?_; intro K hK; go_big_quiet_op; go_big_quiet_on)
  (refine wpG_val (v := idv v) rfl rfl (fun u hu => load_run_op u (HLV1.out u (HU2.out u (HU5.out u (EnvX.sub hu (fun _ h => by cases h))))) rfl) ?_ hw869; intro K hK; go_big_quiet_op; go_big_quiet_on)
  (refine wpG_val (v := idv id) rfl rfl (fun u hu => load_run_op u (HLI1.out u (HU2.out u (HU5.out u (EnvX.sub hu (fun _ h => by cases h))))) rfl) ?_ hw869; intro K hK; go_big_quiet_op; go_big_quiet_on)
  (refine wpG_call (f := 18) (args := #[.slice A m c, idv v, idv id]) (v := .bool lb) rfl rfl rfl Tryd.func18 rfl rfl (fun u hu => HLD2.out u (HU5.out u (EnvX.sub hu (fun _ h => by cases h)))) ?_ hw869; intro K hK; go_big_quiet_op; go_big_quiet_on)
  (refine wpG_op rfl rfl rfl ?_; intro K hK; go_big_quiet_op; go_big_quiet_on)
  (refine wpG_val (v := .bool true) rfl rfl (fun u hu => eqlTT_op u rfl rfl) ?_ hw869; intro K hK; go_big_quiet_op; go_big_quiet_on)
  (refine wpG_op rfl rfl rfl ?_; intro K hK; go_big_quiet_op; go_big_quiet_on)
  (refine wpG_op rfl rfl rfl ?_; intro K hK; go_big_quiet_op; go_big_quiet_on)
  (refine wpG_val (v := idv rr) rfl rfl (fun u hu => load_run_op u (HLR.out u (EnvX.sub hu (fun _ h => by cases h))) rfl) ?_ hw869; intro K hK; go_big_quiet_op; go_big_quiet_on)
  (refine wpG_op rfl rfl rfl ?_; intro K hK; go_big_quiet_op; go_big_quiet_on)
  (refine wpG_val (v := .int .i64 (m : Int)) rfl rfl (fun u hu => lenI_op u rfl) ?_ hw869; intro K hK; go_big_quiet_op; go_big_quiet_on)
  (refine wpG_op rfl rfl rfl ?_; intro K hK; go_big_quiet_op; go_big_quiet_on)
  (refine wpG_val (v := idv id) rfl rfl (fun u hu => load_run_op u (HLI1.out u (HU2.out u (HU5.out u (EnvX.sub hu (fun _ h => by cases h))))) rfl) ?_ hw869; intro K hK; go_big_quiet_op; go_big_quiet_on)
  (refine wpG_op rfl rfl rfl ?_; intro K hK; go_big_quiet_op; go_big_quiet_on)
  (refine wpG_call (f := 19) (args := #[idv rr, .int .i64 m, .int .i64 i, idv id, .slice A2 k d]) (v := .bool cb0) rfl rfl rfl Tryd.func19 rfl rfl (fun u hu => HCK1.out u (HU5.out u (EnvX.sub hu (fun _ h => by cases h)))) ?_ hw869; intro K hK; go_big_quiet_op; go_big_quiet_on)
  (refine wpG_val (v := idv rr) rfl rfl (fun u hu => load_run_op u (HLR.out u (EnvX.sub hu (fun _ h => by cases h))) rfl) ?_ hw869; intro K hK; go_big_quiet_op; go_big_quiet_on)
  (refine wpG_op rfl rfl rfl ?_; intro K hK; go_big_quiet_op; go_big_quiet_on)
  (refine wpG_val (v := .int .i64 (m : Int)) rfl rfl (fun u hu => lenI_op u rfl) ?_ hw869; intro K hK; go_big_quiet_op; go_big_quiet_on)
  (refine wpG_op rfl rfl rfl ?_; intro K hK; go_big_quiet_op; go_big_quiet_on)
  (refine wpG_val (v := idv id) rfl rfl (fun u hu => load_run_op u (HLI1.out u (HU2.out u (HU5.out u (EnvX.sub hu (fun _ h => by cases h))))) rfl) ?_ hw869; intro K hK; go_big_quiet_op; go_big_quiet_on)
  (refine wpG_op rfl rfl rfl ?_; intro K hK; go_big_quiet_op; go_big_quiet_on)
  (refine wpG_call (f := 20) (args := #[idv rr, .int .i64 m, .int .i64 i, idv id, .slice A2 k d]) (v := .bool cb0) rfl rfl rfl Tryd.func20 rfl rfl (fun u hu => HCK2.out u (HU5.out u (EnvX.sub hu (fun _ h => by cases h)))) ?_ hw869; intro K hK; go_big_quiet_op; go_big_quiet_on)
  (refine wpG_val (v := .bool true) rfl rfl (fun u hu => eqlTT_op u rfl rfl) ?_ hw869; intro K hK; go_big_quiet_op; go_big_quiet_on)
  (refine wpG_op rfl rfl rfl ?_; intro K hK; go_big_quiet_op; go_big_quiet_on)
  (refine wpG_op rfl rfl rfl ?_; intro K hK; go_big_quiet_op; go_big_quiet_on)
  clear hone hw869
  refine wpG_nil ?_
  refine anyH_done (by kernel_rfl) ?_
  intro u871 E2'
  have EX870 := Lib.hid E2'
  clear E2'
  have HBE := Lib.hid (HB6.out.trans ((EnvX.bel EX870.out).mono HB6.out.size))
  go_wp2
  go_ret
  exact ⟨rfl, HBE.out⟩
theorem llaw_tells (T : TreeC) (K : LinkC) (l p : List (List Int)) (id v : List Int) (lev i : Int) (A A2 : Option Addr) (m c k d : Nat) (w : World) (hl : l.length = m) (hmc : m ≤ c) (hcm : c ≤ maxLen) (hI : isIds l) (hA : IdsIn w w.heap.size A l) (hp : p.length = k) (hkd : k ≤ d) (hdm : d ≤ maxLen) (hJ : isIds p) (hA2 : IdsIn w w.heap.size A2 p) (hid : isId id) (hv : isId v) (hlev : I64 lev) (hi : I64 i) (ht : Tables w) :
    Calls Tryd.prog 3 #[.slice A m c, idv id, idv v, .int .i64 lev, .int .i64 i, .slice A2 k d] w fun e w' => e = .returned (.bool true) ∧ Below w.heap.size w w' := by
  by_cases k1 : 70 < m
  · exact llaw_tells_many T K l p id v lev i A A2 m c k d w hl hmc hcm hI hA hp hkd hdm hJ hA2 hid hv hlev hi ht k1
  · by_cases k2 : 12 < k
    · exact llaw_tells_long T K l p id v lev i A A2 m c k d w hl hmc hcm hI hA hp hkd hdm hJ hA2 hid hv hlev hi ht k1 k2
    · exact llaw_tells_main T K l p id v lev i A A2 m c k d w hl hmc hcm hI hA hp hkd hdm hJ hA2 hid hv hlev hi ht (by omega) (by omega)
end Go.Proofs.YtbjojpgedcikiaaDoor

namespace Go.Proofs.YtbjojpgedcikiaaDoor.linkTells
set_option maxRecDepth 8000
open Go.ChangeShapes Go.WideShapes Go.ChangeAt Go.RowKit

theorem contract (H : Type) (enc : TypeId × Value → H) (W : World) (base : Nat) (args : Array Value) (ds gs : List (DataW H)) (before : List MemPlace)
    (hval : ∀ (j : Nat) t v, Tryd.f3.params[j]? = some t → args[j]? = some v → Value.okWide Tryd.prog W .any base t v)
    (hW : DataW.Whole enc Tryd.prog Tryd.f3.params.toList Rows.linkTellsSpec.vars false W args.toList ds gs before) (hL : laidMetH Tryd.prog Rows.linkTellsRow.laid W) :
    Calls Tryd.prog 3 args W fun e W' => ∃ v, e = .returned v ∧ Rows.linkTellsSpec.post enc Tryd.prog Tryd.f3 false true false false W args v W' := by
  have hW' := hW
  obtain ⟨p, q, hA0, hV, rfl, hfz, hnd⟩ := hW
  have hA : DataW.TrodAll enc Tryd.prog W 0 (fun _ => true) true Tryd.f3.params.toList args.toList ds p := hA0
  rw [Tryd.params3] at hA hval
  obtain ⟨v0, vs0, d0, ds0, p0, q0, hargs, rfl, rfl, h0, r0⟩ := trodAll_cons hA
  obtain ⟨v1, vs1, d1, ds1, p1, q1, rfl, rfl, rfl, h1, r1⟩ := trodAll_cons r0
  obtain ⟨v2, vs2, d2, ds2, p2, q2, rfl, rfl, rfl, h2, r2⟩ := trodAll_cons r1
  obtain ⟨v3, vs3, d3, ds3, p3, q3, rfl, rfl, rfl, h3, r3⟩ := trodAll_cons r2
  obtain ⟨v4, vs4, d4, ds4, p4, q4, rfl, rfl, rfl, h4, r4⟩ := trodAll_cons r3
  obtain ⟨v5, vs5, d5, ds5, p5, q5, rfl, rfl, rfl, h5, r5⟩ := trodAll_cons r4
  obtain ⟨rfl, rfl, rfl⟩ := trodAll_nil r5
  obtain rfl : args = #[v0, v1, v2, v3, v4, v5] := by cases args; simp_all
  obtain ⟨rfl, rfl⟩ := trodVars_none hV
  have lt0 : ∀ x ∈ p0, x.block < W.heap.size := by obtain ⟨m, hm⟩ := h0; exact DataW.trod_lt m _ _ _ hm
  obtain ⟨a0, n0, c0, x0, rfl, lx0, nc0, cm0, ix0, px0⟩ := open_ids (hval 0 22 v0 rfl rfl) h0
  have lt1 : ∀ x ∈ p1, x.block < W.heap.size := by obtain ⟨m, hm⟩ := h1; exact DataW.trod_lt m _ _ _ hm
  obtain ⟨x1, rfl, lx1, rx1⟩ := open_id (hval 1 24 v1 rfl rfl) h1
  have lt2 : ∀ x ∈ p2, x.block < W.heap.size := by obtain ⟨m, hm⟩ := h2; exact DataW.trod_lt m _ _ _ hm
  obtain ⟨x2, rfl, lx2, rx2⟩ := open_id (hval 2 24 v2 rfl rfl) h2
  obtain ⟨x3, rfl, rfl, rfl, wx3⟩ := open_int Tryd.underlying3 (hval 3 3 v3 rfl rfl) h3
  obtain ⟨x4, rfl, rfl, rfl, wx4⟩ := open_int Tryd.underlying3 (hval 4 3 v4 rfl rfl) h4
  have lt5 : ∀ x ∈ p5, x.block < W.heap.size := by obtain ⟨m, hm⟩ := h5; exact DataW.trod_lt m _ _ _ hm
  obtain ⟨a5, n5, c5, x5, rfl, lx5, nc5, cm5, ix5, px5⟩ := open_ids (hval 5 22 v5 rfl rfl) h5
  clear hA0
  refine (llaw_tells treeC linkC x0 x5 x1 x2 x3 x4 a0 a5 n0 c0 n5 c5 W lx0 nc0 cm0 ix0 px0 lx5 nc5 cm5 ix5 px5 ⟨lx1, rx1⟩ ⟨lx2, rx2⟩ (bounds_i64 wx3) (bounds_i64 wx4) (tables_of_laid hL)).mono fun e W' ⟨he, bel⟩ => ?_
  subst he
  exact ⟨_, rfl, _, _, _, [], _, [], hW', trodAll_mk1 (shut_bool Tryd.underlying4 _), (trodAll_cons_mk (Below.trod laidOut (by kernel_rfl) (of_decide_eq_true (by kernel_rfl)) h0 bel lt0) (trodAll_cons_mk (Below.trod laidOut (by kernel_rfl) (of_decide_eq_true (by kernel_rfl)) h1 bel lt1) (trodAll_cons_mk (Below.trod laidOut (by kernel_rfl) (of_decide_eq_true (by kernel_rfl)) h2 bel lt2) (trodAll_cons_mk (shut_int Tryd.underlying3 wx3) (trodAll_cons_mk (shut_int Tryd.underlying3 wx4) (trodAll_cons_mk (Below.trod laidOut (by kernel_rfl) (of_decide_eq_true (by kernel_rfl)) h5 bel lt5) trodAll_mk0)))))), rfl, bel.frame _, fun h => by cases h⟩

def start : Array Value := #[.slice none 0 0, zeroId, zeroId, .int .i64 0, .int .i64 0, .slice none 0 0]
theorem reads (os : Os) {H : Type} (enc : TypeId × Value → H) : ∃ places, DataW.whole enc Tryd.prog ((laidWorld os).forCall (fun _ _ => 0) ⟨#[], start, []⟩).memory Tryd.f3.params.toList Rows.linkTellsSpec.vars false start.toList 8 = some ([.nil, zeroD, zeroD, .lit (.int .i64 0), .lit (.int .i64 0), .nil], [], places) :=
  ⟨[], by kernel_rfl⟩

set_option maxRecDepth 100000 in
theorem lifted (os : Os) (started : os.Started) (H : Type) (enc : TypeId × Value → H) (F : Stop.Interp) :
    ReturnsInHanded {} Tryd.checked os 3 .any ((OpenSpec.ofChange Rows.linkTellsSpec).preRow enc Tryd.prog Tryd.f3 Rows.linkTellsRow.domain false Rows.linkTellsRow.laid) (((OpenSpec.ofChange Rows.linkTellsSpec).at F).post enc Tryd.prog Tryd.f3 false true false false) := by
  obtain ⟨places, hx⟩ := reads os enc
  refine returnsInHanded_of_row (C := Tryd.checked) (s := OpenSpec.ofChange Rows.linkTellsSpec) own started (by kernel_rfl) Tryd.func3
    (witness_row_at (enc := enc) (C := Tryd.checked) false (laidWorld os) start rfl (by kernel_rfl) (by kernel_rfl) (by kernel_rfl)
      (OpenSpec.preRow_of_cond 8 hx (by kernel_rfl) (fun k hk => by cases hk) (by kernel_rfl) (laidMet_of_run' 8 (by kernel_rfl) (by kernel_rfl)))) ?_
  intro W base args ds gs before hval hW _ _ _ hL _ _
  exact contract H enc W base args ds gs before hval hW hL

theorem said : Rows.LinkTellsSaid :=
  OpenClaim.holds_of_cond 3 Tryd.f3 rfl rfl rfl rfl rfl rfl rfl ⟨rfl, rfl, rfl, rfl, rfl⟩ rfl rfl rfl rfl rfl (by kernel_rfl) Tryd.func3 (by kernel_rfl)
    (of_decide_eq_true (by kernel_rfl)) (by unfold Func.isWrapper; first | (rw [if_pos (by decide +kernel)]; kernel_rfl) | (rw [if_neg (by decide +kernel)]; exact ⟨rfl, rfl⟩))
    (fun os started H enc _ F => by rw [OpenClaim.pre_eq_preRow]; exact lifted os started H enc F)

theorem plain (f : FuncId) (fn : Func) (hf : Tryd.pinned.checked.prog.funcNamed "stepladder/stepladderlaw07.LinkTells" = some f) (hfn : Tryd.pinned.checked.prog.funcs[f]? = some fn) :
    false = Tryd.pinned.checked.prog.looks [] ∧ ∀ (j : Nat) t, fn.params[j]? = some t → Tryd.pinned.checked.prog.wantsStandIn t = false := by
  obtain rfl : f = 3 := Option.some.inj ((show Tryd.prog.funcNamed "stepladder/stepladderlaw07.LinkTells" = some 3 by kernel_rfl).symm.trans hf) |>.symm
  obtain rfl : fn = Tryd.f3 := (Option.some.inj (Tryd.func3.symm.trans hfn)).symm
  refine ⟨by kernel_rfl, fun j t ht => ?_⟩
  rw [Tryd.params3] at ht
  have hm : t = 22 ∨ t = 24 ∨ t = 24 ∨ t = 3 ∨ t = 3 ∨ t = 22 := by simpa using Array.mem_of_getElem? ht
  rcases hm with rfl | rfl | rfl | rfl | rfl | rfl
  · exact (show Tryd.prog.wantsStandIn 22 = false by kernel_rfl)
  · exact (show Tryd.prog.wantsStandIn 24 = false by kernel_rfl)
  · exact (show Tryd.prog.wantsStandIn 24 = false by kernel_rfl)
  · exact (show Tryd.prog.wantsStandIn 3 = false by kernel_rfl)
  · exact (show Tryd.prog.wantsStandIn 3 = false by kernel_rfl)
  · exact (show Tryd.prog.wantsStandIn 22 = false by kernel_rfl)
theorem card : Rows.LinkTellsCardSaid :=
  Claim7.holds_tied_plain_at .later [] _ _ _ _ said (fun _ h => by cases h) (by kernel_rfl) (fun _ h => by cases h) linkTells_row_tie rfl ⟨rfl, rfl⟩ (by kernel_rfl) rfl plain (by kernel_rfl)

end Go.Proofs.YtbjojpgedcikiaaDoor.linkTells
