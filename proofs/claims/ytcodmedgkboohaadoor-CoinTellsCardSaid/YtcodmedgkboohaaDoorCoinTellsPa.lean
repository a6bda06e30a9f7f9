/- Part of a proof. -/
import Derived.Test.YtcodmedgkboohaaDoorCn
import Derived.WalkKit
import Derived.Below
import Derived.Deep.Draws
import Derived.Laws.Rows
import Derived.Laws.Tables
import Derived.Deep.WholeRow
import Derived.ProofKit
import Derived.Handy
import Derived.Deep.MidRow
import Derived.Laws.CopyOwn
import Derived.Laws.MakeOwn
import Derived.Deep.Cut
import Derived.Deep.QuietTactic
import Derived.BigQuiet
import Derived.StillTailTactics
import Derived.Lib.Hide
import Derived.Laws.BitsAllLaws
import Derived.Deep.RegionHeld
import Derived.Maps.AppendAt
import Derived.Laws.BytesArg
import Derived.OpenShut
import Derived.ChangeKeysEq
import Derived.Lib.SlBytesConst
import Derived.Deep.RegionHeld3
import Derived.Deep.RegionLaw
import Derived.Great.BuildSlice
namespace Go.Proofs.YtcodmedgkboohaaDoor
set_option maxRecDepth 8000
open Go Go.RowKit

/-- Two results, a whole array and a slot. -/
theorem results_row_slot {P : Program} {fn : Func} {p q : Tmp} {ty : TypeId} (h : fn.results = #[.cell p ty, .tmp q]) (tmps : Array Value) (w : World) (g : Nat) (t : TypeId) (cs : Array Value) (fr : Nat × Nat) (d : TypeDesc)
    (hp : tmps.getD p undef = .pointer (some ⟨g, 0, none⟩)) (v : Value) (hv : tmps.getD q undef = v) (hg : w.heap[g]? = some (.cells cs t fr))
    (hu : P.underlying ty = some d) (hd : (match d with | .struct _ | .array _ _ => true | _ => false) = true) (hi : (P.info? ty).map (·.size) = some cs.size) :
    (results fn tmps).run P w = .ok (.tuple #[.agg cs, v]) w := by
  have hp' : tmps[p]?.getD undef = .pointer (some ⟨g, 0, none⟩) := by simpa using hp
  have hv' : tmps[q]?.getD undef = v := by simpa using hv
  simp [results, h, hp', hv', asAddr, run_loadVar_row w g t ty cs fr d hg hu hd hi]
end Go.Proofs.YtcodmedgkboohaaDoor

namespace Go.Proofs.YtcodmedgkboohaaDoor
set_option maxRecDepth 8000
open Go.RowKit





theorem Bytes.of_row {w : World} {g : Nat} {t : TypeId} {xs : List Int} {fr : Nat × Nat} (h : w.heap[g]? = some (.cells (xs.map u8v).toArray t fr)) : Bytes w w.heap.size (some ⟨g, 0, none⟩) xs := by
  intro _
  refine ⟨_, rfl, ?_, fun j v hv => ?_⟩
  · rcases Nat.lt_or_ge g w.heap.size with hl | hl
    · exact hl
    · rw [Array.getElem?_eq_none hl] at h
      cases h
  · rw [Addr.add_mid, Nat.zero_add, cell_of_row w g j _ t fr h]
    simpa using hv
end Go.Proofs.YtcodmedgkboohaaDoor

namespace Go.Proofs.YtcodmedgkboohaaDoor
set_option maxRecDepth 8000
open Go
theorem InW.nat {x : Int} (h : InW x) : ∃ a : Nat, x = (a : Int) ∧ a < 4294967296 := ⟨x.toNat, by have := h.1; omega, by have := h.2; omega⟩
theorem rot_eq (x : Int) (n : Nat) (h1 : 1 ≤ n) (h2 : n ≤ 31) (hx : InW x) : (x / 2 ^ n + x * 2 ^ (32 - n)) % 4294967296 = rotI x n := by
  obtain ⟨a, rfl, ha⟩ := hx.nat
  unfold rotI
  have e1 : ((n : Int)).toNat = n := by omega
  have e2 : (32 - (n : Int)).toNat = 32 - n := by omega
  rw [e1, e2]
  have hp : 2 ^ (32 - n) * 2 ^ n = 4294967296 := by rw [← Nat.pow_add, show 32 - n + n = 32 by omega]
  have hpos : 0 < 2 ^ n := Nat.two_pow_pos n
  have hpos' : 0 < 2 ^ (32 - n) := Nat.two_pow_pos _
  have hlt : a / 2 ^ n < 2 ^ (32 - n) := by
    rw [Nat.div_lt_iff_lt_mul hpos, hp]
    exact ha
  have hmod : a * 2 ^ (32 - n) % 4294967296 = (a % 2 ^ n) <<< (32 - n) := by
    rw [Nat.shiftLeft_eq, ← hp, Nat.mul_comm a, Nat.mul_mod_mul_left, Nat.mul_comm]
  have hbig : (a % 2 ^ n) <<< (32 - n) + a / 2 ^ n < 4294967296 := by
    rw [Nat.shiftLeft_eq]
    have hm : a % 2 ^ n + 1 ≤ 2 ^ n := Nat.mod_lt _ hpos
    calc a % 2 ^ n * 2 ^ (32 - n) + a / 2 ^ n < a % 2 ^ n * 2 ^ (32 - n) + 2 ^ (32 - n) := by omega
      _ = (a % 2 ^ n + 1) * 2 ^ (32 - n) := by rw [Nat.add_mul, Nat.one_mul]
      _ ≤ 2 ^ n * 2 ^ (32 - n) := Nat.mul_le_mul_right _ hm
      _ = 4294967296 := by rw [Nat.mul_comm, hp]
  have c1 : ((a : Int) / 2 ^ n) = ((a / 2 ^ n : Nat) : Int) := by simp
  have c2 : ((a : Int) * 2 ^ (32 - n)) = ((a * 2 ^ (32 - n) : Nat) : Int) := by simp
  have c3 : ((a * 2 ^ (32 - n) : Nat) : Int) % 4294967296 = (((a % 2 ^ n) <<< (32 - n) : Nat) : Int) := by
    rw [← hmod]; simp
  rw [c1, c2, c3, u32_or_nat _ _ (by omega) (by omega), Nat.or_comm, ← Nat.shiftLeft_add_eq_or_of_lt hlt]
  clear c1 c2 c3 hlt hpos hpos' hp e1 e2
  generalize a * 2 ^ (32 - n) = M at *
  generalize (a % 2 ^ n) <<< (32 - n) = R at *
  generalize a / 2 ^ n = Q at *
  omega
theorem not_eq (x : Int) (hx : InW x) : bits BinOp.xor IntKind.u32 IntKind.u32.max x = 4294967295 - x := by
  obtain ⟨a, rfl, ha⟩ := hx.nat
  have hm : IntKind.u32.max = ((4294967295 : Nat) : Int) := by decide
  rw [hm, u32_xor_nat _ _ (by omega) ha]
  have h : 4294967295 ^^^ a = 4294967295 - a := by
    have h2 : (4294967295 : Nat) = 2 ^ 32 - 1 := by decide
    apply Nat.eq_of_testBit_eq
    intro i
    rw [Nat.testBit_xor, h2, Nat.testBit_two_pow_sub_one, show 2 ^ 32 - 1 - a = 2 ^ 32 - (a + 1) by omega, Nat.testBit_two_pow_sub_succ (by omega)]
    by_cases hi : i < 32
    · simp [hi]
    · have : a.testBit i = false := Nat.testBit_lt_two_pow (Nat.lt_of_lt_of_le ha (by rw [show (4294967296 : Nat) = 2 ^ 32 by decide]; exact Nat.pow_le_pow_right (by omega) (by omega)))
      simp [hi, this]
  rw [h]
  omega
theorem ch_eq (e f g : Int) (he : InW e) : bits BinOp.xor IntKind.u32 (bits BinOp.and IntKind.u32 e f) (bits BinOp.and IntKind.u32 (4294967295 - e) g) = chI e f g := by
  unfold chI
  rw [not_eq e he]
theorem maj_eq (a b c : Int) (ha : InW a) (hb : InW b) (hc : InW c) : bits BinOp.or IntKind.u32 (bits BinOp.or IntKind.u32 (bits BinOp.and IntKind.u32 a b) (bits BinOp.and IntKind.u32 a c)) (bits BinOp.and IntKind.u32 b c) = majI a b c := by
  obtain ⟨x, rfl, hx⟩ := ha.nat
  obtain ⟨y, rfl, hy⟩ := hb.nat
  obtain ⟨z, rfl, hz⟩ := hc.nat
  have l1 : x &&& y < 4294967296 := Nat.lt_of_le_of_lt Nat.and_le_left hx
  have l2 : x &&& z < 4294967296 := Nat.lt_of_le_of_lt Nat.and_le_left hx
  have l3 : y &&& z < 4294967296 := Nat.lt_of_le_of_lt Nat.and_le_left hy
  have l4 : (x &&& y) ||| (x &&& z) < 2 ^ 32 := Nat.or_lt_two_pow l1 l2
  have l5 : (x &&& y) ^^^ (x &&& z) < 2 ^ 32 := Nat.xor_lt_two_pow l1 l2
  unfold majI
  rw [u32_and_nat x y hx hy, u32_and_nat x z hx hz, u32_and_nat y z hy hz, u32_or_nat _ _ l1 l2, u32_or_nat _ _ l4 l3, u32_xor_nat _ _ l1 l2, u32_xor_nat _ _ l5 l3]
  congr 1
  apply Nat.eq_of_testBit_eq
  intro i
  simp only [Nat.testBit_or, Nat.testBit_and, Nat.testBit_xor]
  cases x.testBit i <;> cases y.testBit i <;> cases z.testBit i <;> rfl
theorem mul_two (a b : Nat) : (a * 256 + b) * 65536 = a * 16777216 + b * 65536 := by omega
theorem mul_three (a b c : Nat) : (a * 65536 + b * 256 + c) * 256 = a * 16777216 + b * 65536 + c * 256 := by omega
theorem word_eq (a b c d : Int) (ha : 0 ≤ a ∧ a ≤ 255) (hb : 0 ≤ b ∧ b ≤ 255) (hc : 0 ≤ c ∧ c ≤ 255) (hd : 0 ≤ d ∧ d ≤ 255) : 16777216 * a + 65536 * b + 256 * c + d = wordI a b c d := by
  obtain ⟨a, rfl⟩ := Int.eq_ofNat_of_zero_le ha.1
  obtain ⟨b, rfl⟩ := Int.eq_ofNat_of_zero_le hb.1
  obtain ⟨c, rfl⟩ := Int.eq_ofNat_of_zero_le hc.1
  obtain ⟨d, rfl⟩ := Int.eq_ofNat_of_zero_le hd.1
  have ha' : a ≤ 255 := by omega
  have hb' : b ≤ 255 := by omega
  have hc' : c ≤ 255 := by omega
  have hd' : d ≤ 255 := by omega
  unfold wordI
  have c1 : ((a : Int) * 16777216) = ((a * 16777216 : Nat) : Int) := by simp
  have c2 : ((b : Int) * 65536) = ((b * 65536 : Nat) : Int) := by simp
  have c3 : ((c : Int) * 256) = ((c * 256 : Nat) : Int) := by simp
  have o1 : a * 16777216 ||| b * 65536 = a * 16777216 + b * 65536 := by
    have h := Nat.shiftLeft_add_eq_or_of_lt (a := a) (b := b * 65536) (i := 24) (by omega)
    rw [Nat.shiftLeft_eq] at h
    exact h.symm
  have o2 : a * 16777216 + b * 65536 ||| c * 256 = a * 16777216 + b * 65536 + c * 256 := by
    have h := Nat.shiftLeft_add_eq_or_of_lt (a := a * 256 + b) (b := c * 256) (i := 16) (by omega)
    rw [Nat.shiftLeft_eq] at h
    rw [show (2 : Nat) ^ 16 = 65536 from rfl, mul_two] at h
    exact h.symm
  have o3 : a * 16777216 + b * 65536 + c * 256 ||| d = a * 16777216 + b * 65536 + c * 256 + d := by
    have h := Nat.shiftLeft_add_eq_or_of_lt (a := a * 65536 + b * 256 + c) (b := d) (i := 8) (by omega)
    rw [Nat.shiftLeft_eq] at h
    rw [show (2 : Nat) ^ 8 = 256 from rfl, mul_three] at h
    exact h.symm
  rw [c1, c2, c3, u32_or_nat _ _ (by omega) (by omega), o1, u32_or_nat _ _ (by omega) (by omega), o2, u32_or_nat _ _ (by omega) (by omega), o3]
  omega
theorem InW.word (a b c d : Int) : InW (wordI a b c d) := InW.bits _ _ _
end Go.Proofs.YtcodmedgkboohaaDoor

namespace Go.Proofs.YtcodmedgkboohaaDoor
set_option maxRecDepth 8000
open Go.RowKit













theorem pow_nat (k : Nat) : (2 : Int) * ((2 : Int) ^ k % 4294967296) % 4294967296 = (2 : Int) ^ (k + 1) % 4294967296 := by
  rw [Int.pow_succ]
  generalize (2 : Int) ^ k = y
  omega
set_option maxRecDepth 20000 in
set_option maxHeartbeats 1000000 in
theorem pow_any (n : Nat) (w : World) (h : n ≤ 32) : Calls Tryd.prog 81 #[.int .i64 (n : Int)] w fun e w' => e = .returned (.int .u32 ((2 : Int) ^ n % 4294967296)) ∧ w' = w := by
  go_enter Tryd.func81, Tryd.ntmps81
  go_wp2
  go_loop [3, 4] (fun t i => ∃ k : Nat, k ≤ n ∧ i = .int .i64 k ∧ t = .int .u32 ((2 : Int) ^ k % 4294967296)) (fun _ i => n - (intOf i).toNat)
  case atStart => exact ⟨0, by omega, rfl, by simp⟩
  case round =>
    obtain ⟨k, hk, rfl, rfl⟩ := hrel
    have hp := Lib.hid (pow_nat k)
    have r := InW.mod ((2 : Int) ^ k)
    generalize hY : (2 : Int) ^ k % 4294967296 = y at *
    have HY := Lib.hid hY
    clear hY
    obtain ⟨r0, r1⟩ := r
    by_cases hlt : k < n
    · go_wp2
      go_round
      case rel => exact ⟨k + 1, by omega, by go_num, by rw [← hp.out]⟩
      case measure => simp [intOf]; omega
    · obtain rfl : k = n := by omega
      go_wp2
      go_ret
      exact ⟨by rw [HY.out]; rfl, rfl⟩
set_option maxRecDepth 20000 in
set_option maxHeartbeats 1000000 in
theorem rturn_any (x : Int) (n : Nat) (w : World) (h1 : 1 ≤ n) (h2 : n ≤ 31) (hx : InW x) :
    Calls Tryd.prog 79 #[.int .u32 x, .int .i64 (n : Int)] w fun e w' => e = .returned (.int .u32 (rotI x n)) ∧ ∃ q, w' = w.drewN q := by
  have hr := rot_eq x n h1 h2 hx
  obtain ⟨x0, x1⟩ := hx
  have q1 : (2 : Int) ^ n % 4294967296 = 2 ^ n := by
    have h : (2 : Nat) ^ n < 2 ^ 32 := Nat.pow_lt_pow_right (by omega) (by omega)
    have h' : ((2 ^ n : Nat) : Int) < 4294967296 := by have e : (2 : Nat) ^ 32 = 4294967296 := rfl; omega
    have e : ((2 ^ n : Nat) : Int) = (2 : Int) ^ n := by simp
    rw [← e]
    exact Int.emod_eq_of_lt (Int.natCast_nonneg _) h'
  have q2 : (2 : Int) ^ (32 - n) % 4294967296 = 2 ^ (32 - n) := by
    have h : (2 : Nat) ^ (32 - n) < 2 ^ 32 := Nat.pow_lt_pow_right (by omega) (by omega)
    have h' : ((2 ^ (32 - n) : Nat) : Int) < 4294967296 := by have e : (2 : Nat) ^ 32 = 4294967296 := rfl; omega
    have e : ((2 ^ (32 - n) : Nat) : Int) = (2 : Int) ^ (32 - n) := by simp
    rw [← e]
    exact Int.emod_eq_of_lt (Int.natCast_nonneg _) h'
  have p0 : 0 < (2 : Int) ^ n := by
    have h : 0 < (2 : Nat) ^ n := Nat.two_pow_pos n
    have e : ((2 ^ n : Nat) : Int) = (2 : Int) ^ n := by simp
    omega
  have c1 := fun u : World => pow_any n u (by omega)
  have c2 := fun u : World => pow_any (32 - n) u (by omega)
  rw [q1] at c1
  rw [q2] at c2
  generalize (2 : Int) ^ n = p1 at *
  generalize (2 : Int) ^ (32 - n) = p2 at *
  have C1 := Lib.hid c1
  have C2 := Lib.hid c2
  have HR := Lib.hid hr
  have r1 : InW (x / p1) := ⟨Int.ediv_nonneg x0 (by omega), Int.lt_of_le_of_lt (Int.ediv_le_self p1 x0) x1⟩
  obtain ⟨r10, r11⟩ := r1
  clear c1 c2 hr q1 q2
  have s1 : IntKind.i64.wrap (32 - (n : Int)) = ((32 - n : Nat) : Int) := by rw [IntWalk.i64_in _ (by omega)]; omega
  have s2 : (p1 == 0) = false := by simp; omega
  have s3 : ¬ p1 = 0 := by omega
  have s4 : x.tdiv p1 = x / p1 := Int.tdiv_eq_ediv_of_nonneg x0
  have s5 : IntKind.u32.wrap (x / p1) = x / p1 := by rw [IntKind.wrap_u32]; omega
  go_enter Tryd.func79, Tryd.ntmps79
  go_wp2_with fail
  go_quiet ((go_at_call 81; first | (with_reducible exact Calls.quiet_of_same (C1.out _)) | (with_reducible exact Calls.quiet_of_same (C2.out _))))
  have e : (x / p1 + x * p2 % 4294967296) % 4294967296 = rotI x n := by
    rw [← HR.out]
    generalize x / p1 = A
    generalize x * p2 = B
    omega
  have E := Lib.hid e
  clear e s1 s2 s3 s4 s5
  go_wp2
  go_ret
  exact ⟨by show Ending.returned (.int .u32 ((x / p1 + x * p2 % 4294967296) % 4294967296)) = _; rw [E.out], nq, rfl⟩
end Go.Proofs.YtcodmedgkboohaaDoor

namespace Go.Proofs.YtcodmedgkboohaaDoor
set_option maxRecDepth 8000
open Go.RowKit














theorem firstL_in (xs : List Int) : ∀ k, ∀ x ∈ firstL xs k, InW x
  | 0, x, hx => by simp [firstL] at hx
  | k + 1, x, hx => by
    simp only [firstL, List.mem_append, List.mem_singleton] at hx
    rcases hx with hx | rfl
    · exact firstL_in xs k x hx
    · exact InW.word _ _ _ _
theorem moreL_in (xs : List Int) : ∀ k, ∀ x ∈ moreL xs k, InW x
  | 0, x, hx => firstL_in xs 16 x hx
  | k + 1, x, hx => by
    simp only [moreL, List.mem_append, List.mem_singleton] at hx
    rcases hx with hx | rfl
    · exact moreL_in xs k x hx
    · exact InW.mod _
theorem info39 : (Tryd.prog.info? 74).map (fun i => (i.zero, i.size, i.bytes)) = some (some (.int .u32 0), 1, 4) := by kernel_rfl
theorem append_words (base : Nat) (v : Value) (n : Nat) (l : List Value) (w : World) (hown : w.ownsRow base 74 1 v n l) (ad : Addr) (m c : Nat) (ys : List Int) (hl : ys.length = m)
    (hy : ∀ j u, (ys.map u32v)[j]? = some u → w.cell? (ad.add j) = some u) (hs : n + m ≤ 1000) (hbase : base ≤ w.heap.size) :
    ∃ v' w', (Builtin.append_ #[110, 110] 110 #[v, .slice (some ad) m c]).run Tryd.prog w = .ok v' w' ∧ w'.ownsRow base 74 1 v' (n + m) (l ++ ys.map u32v) ∧ w.grownBy w' v.ownBlock := by
  cases hq : Tryd.prog.info? 74 with
  | none => have := info39; rw [hq] at this; cases this
  | some i =>
    have h := info39
    rw [hq] at h
    simp only [Option.map_some, Option.some.injEq, Prod.mk.injEq] at h
    obtain ⟨h1, h2, h3⟩ := h
    obtain ⟨v', w', hrun, hown', hg, _⟩ := run_append_own_at (P := Tryd.prog) w base 110 110 74 i _ 1 4 Tryd.underlying110 hq h1 h2 h3 rfl (by omega) v n l hown ad m c (ys.map u32v) (by simp [hl]) hy (by intro u hu; obtain ⟨z, _, rfl⟩ := List.mem_map.1 hu; rfl) (by unfold maxLen; omega) (by omega) hbase
    exact ⟨v', w', hrun, hown', hg⟩
theorem append_word (base : Nat) (v : Value) (n : Nat) (l : List Value) (w : World) (x : Int) (hown : w.ownsRow base 74 1 v n l) (hs : n ≤ 900) (hbase : base ≤ w.heap.size) :
    ∃ v' w', (Builtin.append_ #[110, 110] 110 #[v, .slice (some ⟨w.heap.size, 0, none⟩) 1 1]).run Tryd.prog (w.alloc (.cells #[.int .u32 x] 74)) = .ok v' w' ∧ w'.ownsRow base 74 1 v' (n + 1) (l ++ [u32v x]) ∧ Below base w w' := by
  have ho := hown.alloc (.cells #[.int .u32 x] 74)
  obtain ⟨v', w', hrun, hown', hg⟩ := append_words base v n l (w.alloc (.cells #[.int .u32 x] 74)) ho ⟨w.heap.size, 0, none⟩ 1 1 [x] rfl (fun j u hu => by
    rcases j with _ | j
    · have hu' : u32v x = u := by simpa using hu
      subst hu'
      exact (Row.new w 74 #[.int .u32 x]).cell 0
    · simp at hu) (by omega) (by simp; omega)
  refine ⟨v', w', hrun, hown', ?_⟩
  have hb : Below base w (w.alloc (.cells #[.int .u32 x] 74)) := (Below.refl _ _).alloc hbase _
  exact hb.trans (below_of_grown hg (fun g hg => (ho.lt g hg).1) (by simp; omega))
theorem step_append_run {P : Program} {ops : Array Oper} {o : Oper} {a : Act} {w w' : World} {K : Act → World → Prop} {Q : Exit → Act → World → Prop} {v y v' : Value} {t : TypeId} (hgd : o.guard = none) (s x : Operand)
    (ho : o.op = .call { callee := .builtin .append, args := #[s, x], argTypes := #[t, t] }) (hty : o.type = t) (hs : a.eval s = v) (hx : a.eval x = y)
    (hrun : (Builtin.append_ #[t, t] t #[v, y]).run P w = .ok v' w') (h : K (a.put o.dst v') w') : if Region.wanted o (yielded ops a.tmps) = true then Oper.wp P o a w K Q else K (a.put o.dst undef) w := by
  rw [if_pos (by simp only [Region.wanted, hgd])]
  unfold Oper.wp execOp
  simp only [ho, hty, resolve, invoke, builtin, Sem.run_bind, Sem.run_pure, Result.andThen_ok, List.map_toArray, List.map_cons, List.map_nil, hs, hx, hrun]
  exact h
theorem step_append_word {ops : Array Oper} {o : Oper} {a : Act} {w0 : World} {x : Int} {K : Act → World → Prop} {Q : Exit → Act → World → Prop} {v : Value} {base n : Nat} {l : List Value} (hgd : o.guard = none) (s y : Operand)
    (ho : o.op = .call { callee := .builtin .append, args := #[s, y], argTypes := #[110, 110] }) (hty : o.type = 110) (hs : a.eval s = v) (hy : a.eval y = .slice (some ⟨w0.heap.size, 0, none⟩) 1 1)
    (hown : w0.ownsRow base 74 1 v n l) (hn : n ≤ 900) (hbase : base ≤ w0.heap.size)
    (h : ∀ v' w', w'.ownsRow base 74 1 v' (n + 1) (l ++ [u32v x]) → Below base w0 w' → K (a.put o.dst v') w') :
    if Region.wanted o (yielded ops a.tmps) = true then Oper.wp Tryd.prog o a (w0.alloc (.cells #[.int .u32 x] 74)).drew K Q else K (a.put o.dst undef) (w0.alloc (.cells #[.int .u32 x] 74)).drew := by
  obtain ⟨v', w', hrun, hown', hb2⟩ := append_word base v n l w0.drew x hown hn hbase
  have hrun' : (Builtin.append_ #[110, 110] 110 #[v, .slice (some ⟨w0.heap.size, 0, none⟩) 1 1]).run Tryd.prog (w0.alloc (.cells #[.int .u32 x] 74)).drew = .ok v' w' := hrun
  exact step_append_run hgd s y ho hty hs hy hrun' (h v' w' hown' ((Below.refl _ _).drew.trans hb2))
theorem turn_at (x : Int) (hx : InW x) (n : Nat) (h1 : 1 ≤ n) (h2 : n ≤ 31) (m : Int) (hm : m = (n : Int)) (u : World) (q : Nat) :
    Calls Tryd.prog 79 #[.int .u32 x, .int .i64 m] (u.drewN q) fun e w' => e = .returned (.int .u32 (rotI x m)) ∧ ∃ r, w' = u.drewN r := by
  subst hm
  exact Calls.quiet_of (rturn_any x n _ h1 h2 hx)
theorem own_cell {base n g cap : Nat} {l : List Int} {w : World} (h : w.ownsRow base 74 1 (.slice (some ⟨g, 0, none⟩) n cap) n (l.map u32v)) (i : Nat) (hi : i < n) : w.cell? ⟨g, i, none⟩ = some (.int .u32 (l.getD i 0)) := by
  have hl : l.length = n := by have := h.1; simpa using this
  have := h.cells (g := g) rfl i (u32v (l.getD i 0)) (by simp [List.getD, List.getElem?_eq_getElem (by omega : i < l.length)])
  rw [Addr.add_mid, Nat.zero_add] at this
  exact this
set_option maxHeartbeats 4000000 in
set_option maxRecDepth 100000 in
theorem rwords_any (b o n c : Nat) (xs : List Int) (w : World) (hn : 64 ≤ n) (hb : b < w.heap.size)
    (hx : ∀ i, i < 64 → w.cell? ⟨b, o + i, none⟩ = some (.int .u8 (xs.getD i 0))) (hr : ∀ i, 0 ≤ xs.getD i 0 ∧ xs.getD i 0 ≤ 255) :
    Calls Tryd.prog 71 #[.slice (some ⟨b, o, none⟩) n c] w fun e w' => ∃ v, e = .returned v ∧ w'.ownsRow w.heap.size 74 1 v 64 ((moreL xs 48).map u32v) ∧ Below w.heap.size w w' := by
  have HX := Lib.hid hx
  have HR := Lib.hid hr
  clear hx hr
  go_enter Tryd.func71, Tryd.ntmps71
  go_wp2
  go_loopw [3, 4] (fun v i u => ∃ k : Nat, k ≤ 16 ∧ i = .int .i64 k ∧ Below w.heap.size w u ∧ Hid (u.ownsRow w.heap.size 74 1 v k ((firstL xs k).map u32v))) (fun _ i _ => 16 - (intOf i).toNat)
  case atStart => exact ⟨0, by omega, rfl, Below.refl _ _, World.ownsRow_nil _ _ _ _⟩
  case round =>
    obtain ⟨k, hk, rfl, hbl, hown⟩ := hrel
    by_cases hlt : k < 16
    · have g0 := (hbl.cell (p := ⟨b, o + 4 * k, none⟩) hb).trans (HX.out (4 * k) (by omega))
      have g1 := (hbl.cell (p := ⟨b, o + (4 * k + 1), none⟩) hb).trans (HX.out (4 * k + 1) (by omega))
      have g2 := (hbl.cell (p := ⟨b, o + (4 * k + 2), none⟩) hb).trans (HX.out (4 * k + 2) (by omega))
      have g3 := (hbl.cell (p := ⟨b, o + (4 * k + 3), none⟩) hb).trans (HX.out (4 * k + 3) (by omega))
      have r0 := HR.out (4 * k)
      have r1 := HR.out (4 * k + 1)
      have r2 := HR.out (4 * k + 2)
      have r3 := HR.out (4 * k + 3)
      have hw : Hid (wordAt xs k = 16777216 * xs.getD (4 * k) 0 + 65536 * xs.getD (4 * k + 1) 0 + 256 * xs.getD (4 * k + 2) 0 + xs.getD (4 * k + 3) 0) := (word_eq _ _ _ _ r0 r1 r2 r3).symm
      generalize xs.getD (4 * k) 0 = x0 at *
      generalize xs.getD (4 * k + 1) 0 = x1 at *
      generalize xs.getD (4 * k + 2) 0 = x2 at *
      generalize xs.getD (4 * k + 3) 0 = x3 at *
      obtain ⟨r00, r01⟩ := r0
      obtain ⟨r10, r11⟩ := r1
      obtain ⟨r20, r21⟩ := r2
      obtain ⟨r30, r31⟩ := r3
      obtain ⟨v', w', hrun, hown', hb2⟩ := append_word w.heap.size _ k _ wr.drew (16777216 * x0 + 65536 * x1 + 256 * x2 + x3) hown.out (by omega) hbl.size
      have hst : Hid (firstL xs (k + 1) = firstL xs k ++ [wordAt xs k]) := rfl
      have HRUN : Hid ((Builtin.append_ #[110, 110] 110 #[_, .slice (some ⟨wr.heap.size, 0, none⟩) 1 1]).run Tryd.prog (wr.alloc (.cells #[.int .u32 (16777216 * x0 + 65536 * x1 + 256 * x2 + x3)] 74)).drew = .ok v' w') := hrun
      have OO := Lib.hid hown'
      have B2 := hbl.drew.trans hb2
      have BB := Lib.hid B2
      have k0 := (B2.cell (p := ⟨b, o + 4 * k, none⟩) hb).trans ((hbl.cell (p := ⟨b, o + 4 * k, none⟩) hb).symm.trans g0)
      have k1 := (B2.cell (p := ⟨b, o + (4 * k + 1), none⟩) hb).trans ((hbl.cell (p := ⟨b, o + (4 * k + 1), none⟩) hb).symm.trans g1)
      have k2 := (B2.cell (p := ⟨b, o + (4 * k + 2), none⟩) hb).trans ((hbl.cell (p := ⟨b, o + (4 * k + 2), none⟩) hb).symm.trans g2)
      have k3 := (B2.cell (p := ⟨b, o + (4 * k + 3), none⟩) hb).trans ((hbl.cell (p := ⟨b, o + (4 * k + 3), none⟩) hb).symm.trans g3)
      have hbz : b < wr.heap.size := Nat.lt_of_lt_of_le hb hbl.size
      have hbe : ¬ b = wr.heap.size := by omega
      clear hrun hown' hb2 hown B2
      have i0 : IntKind.i64.wrap (4 * (k : Int)) = 4 * (k : Int) := IntWalk.i64_in _ (by omega)
      have i1 : IntKind.i64.wrap (4 * (k : Int) + 1) = 4 * (k : Int) + 1 := IntWalk.i64_in _ (by omega)
      have i2 : IntKind.i64.wrap (4 * (k : Int) + 2) = 4 * (k : Int) + 2 := IntWalk.i64_in _ (by omega)
      have i3 : IntKind.i64.wrap (4 * (k : Int) + 3) = 4 * (k : Int) + 3 := IntWalk.i64_in _ (by omega)
      have n0 : (4 * (k : Int)).toNat = 4 * k := by omega
      have n1 : (4 * (k : Int) + 1).toNat = 4 * k + 1 := by omega
      have n2 : (4 * (k : Int) + 2).toNat = 4 * k + 2 := by omega
      have n3 : (4 * (k : Int) + 3).toNat = 4 * k + 3 := by omega
      have z0 : 0 ≤ 4 * (k : Int) := by omega
      have z1 : 0 ≤ 4 * (k : Int) + 1 := by omega
      have z2 : 0 ≤ 4 * (k : Int) + 2 := by omega
      have z3 : 0 ≤ 4 * (k : Int) + 3 := by omega
      have y0 : 4 * (k : Int) < (n : Int) := by omega
      have y1 : 4 * (k : Int) + 1 < (n : Int) := by omega
      have y2 : 4 * (k : Int) + 2 < (n : Int) := by omega
      have y3 : 4 * (k : Int) + 3 < (n : Int) := by omega
      have u0 : IntKind.u32.wrap x0 = x0 := by rw [IntKind.wrap_u32]; omega
      have u1 : IntKind.u32.wrap x1 = x1 := by rw [IntKind.wrap_u32]; omega
      have u2 : IntKind.u32.wrap x2 = x2 := by rw [IntKind.wrap_u32]; omega
      have u3 : IntKind.u32.wrap x3 = x3 := by rw [IntKind.wrap_u32]; omega
      have u4 : IntKind.u32.wrap (16777216 * x0) = 16777216 * x0 := by rw [IntKind.wrap_u32]; omega
      have u5 : IntKind.u32.wrap (65536 * x1) = 65536 * x1 := by rw [IntKind.wrap_u32]; omega
      have u6 : IntKind.u32.wrap (256 * x2) = 256 * x2 := by rw [IntKind.wrap_u32]; omega
      have u7 : IntKind.u32.wrap (16777216 * x0 + 65536 * x1) = 16777216 * x0 + 65536 * x1 := by rw [IntKind.wrap_u32]; omega
      have u8 : IntKind.u32.wrap (16777216 * x0 + 65536 * x1 + 256 * x2) = 16777216 * x0 + 65536 * x1 + 256 * x2 := by rw [IntKind.wrap_u32]; omega
      have u9 : IntKind.u32.wrap (16777216 * x0 + 65536 * x1 + 256 * x2 + x3) = 16777216 * x0 + 65536 * x1 + 256 * x2 + x3 := by rw [IntKind.wrap_u32]; omega
      go_wp2_with fail
      go_region_held3 (fun u => u.cell? ⟨b, o + 4 * k, none⟩ = some (.int .u8 x0) ∧ u.cell? ⟨b, o + (4 * k + 1), none⟩ = some (.int .u8 x1) ∧ u.cell? ⟨b, o + (4 * k + 2), none⟩ = some (.int .u8 x2) ∧ u.cell? ⟨b, o + (4 * k + 3), none⟩ = some (.int .u8 x3))
        (first
          | exact ⟨k0, k1, k2, k3⟩
          | exact ⟨g0, g1, g2, g3⟩
          | exact ⟨(World.cell?_alloc_lt _ _ _ hbz).trans g0, (World.cell?_alloc_lt _ _ _ hbz).trans g1, (World.cell?_alloc_lt _ _ _ hbz).trans g2, (World.cell?_alloc_lt _ _ _ hbz).trans g3⟩)
        (first
          | ((refine step_append_run (by rfl) (.tmp 12) (.tmp 46) (by rfl) (by rfl) (by rfl) (by rfl) HRUN.out ?_)))
      clear i0 i1 i2 i3 n0 n1 n2 n3 z0 z1 z2 z3 y0 y1 y2 y3 u0 u1 u2 u3 u4 u5 u6 u7 u8 u9 g0 g1 g2 g3 k0 k1 k2 k3
      go_wp2
      go_roundw
      case rel =>
        refine ⟨k + 1, by omega, by go_num, BB.out, ?_⟩
        show World.ownsRow _ _ _ _ _ _ _
        rw [hst.out, List.map_append, hw.out]
        exact OO.out
      case measure => simp [intOf]; omega
    · obtain rfl : k = 16 := by omega
      go_wp2
      go_loopw [3, 5] (fun v i u => ∃ j : Nat, j ≤ 48 ∧ i = .int .i64 (j + 16) ∧ Below w.heap.size w u ∧ Hid (u.ownsRow w.heap.size 74 1 v (j + 16) ((moreL xs j).map u32v))) (fun _ i _ => 64 - (intOf i).toNat)
      case atStart => exact ⟨0, by omega, rfl, hbl, hown.out⟩
      case round =>
        clear hbl hown
        obtain ⟨j, hj, rfl, hbl, hown⟩ := hrel
        by_cases hlt : j < 48
        · rcases hown.out.2 with ⟨_, h0⟩ | ⟨g, cap, cur, rfl, hgb, hgr, hcap, hcm, _⟩
          · omega
          unfold maxLen at hcm
          have c0 := own_cell hown.out j (by omega)
          have c1 := own_cell hown.out (j + 1) (by omega)
          have c9 := own_cell hown.out (j + 9) (by omega)
          have c14 := own_cell hown.out (j + 14) (by omega)
          have w1 := InW.getD _ (moreL_in xs j) (j + 1)
          have w14 := InW.getD _ (moreL_in xs j) (j + 14)
          have hst : Hid (moreL xs (j + 1) = moreL xs j ++ [((moreL xs j).getD j 0 + (moreL xs j).getD (j + 9) 0 + smallS ((moreL xs j).getD (j + 1) 0) + smallT ((moreL xs j).getD (j + 14) 0)) % 4294967296]) := rfl
          generalize (moreL xs j).getD j 0 = y0 at *
          generalize (moreL xs j).getD (j + 1) 0 = y1 at *
          generalize (moreL xs j).getD (j + 9) 0 = y9 at *
          generalize (moreL xs j).getD (j + 14) 0 = y14 at *
          have T7 : Hid (∀ (u : World) (q : Nat), Calls Tryd.prog 79 #[.int .u32 y1, .int .i64 7] (u.drewN q) fun e w' => e = .returned (.int .u32 (rotI y1 7)) ∧ ∃ r, w' = u.drewN r) := fun u q => turn_at y1 w1 7 (by omega) (by omega) 7 rfl u q
          have T18 : Hid (∀ (u : World) (q : Nat), Calls Tryd.prog 79 #[.int .u32 y1, .int .i64 18] (u.drewN q) fun e w' => e = .returned (.int .u32 (rotI y1 18)) ∧ ∃ r, w' = u.drewN r) := fun u q => turn_at y1 w1 18 (by omega) (by omega) 18 rfl u q
          have T17 : Hid (∀ (u : World) (q : Nat), Calls Tryd.prog 79 #[.int .u32 y14, .int .i64 17] (u.drewN q) fun e w' => e = .returned (.int .u32 (rotI y14 17)) ∧ ∃ r, w' = u.drewN r) := fun u q => turn_at y14 w14 17 (by omega) (by omega) 17 rfl u q
          have T19 : Hid (∀ (u : World) (q : Nat), Calls Tryd.prog 79 #[.int .u32 y14, .int .i64 19] (u.drewN q) fun e w' => e = .returned (.int .u32 (rotI y14 19)) ∧ ∃ r, w' = u.drewN r) := fun u q => turn_at y14 w14 19 (by omega) (by omega) 19 rfl u q
          obtain ⟨w10, w11⟩ := w1
          obtain ⟨w140, w141⟩ := w14
          have s1 : IntKind.i64.wrap ((j : Int) + 16 - 15) = (j : Int) + 1 := by rw [IntWalk.i64_in _ (by omega)]; omega
          have s2 : IntKind.i64.wrap ((j : Int) + 16 - 2) = (j : Int) + 14 := by rw [IntWalk.i64_in _ (by omega)]; omega
          have s3 : IntKind.i64.wrap ((j : Int) + 16 - 16) = (j : Int) := by rw [IntWalk.i64_in _ (by omega)]; omega
          have s4 : IntKind.i64.wrap ((j : Int) + 16 - 7) = (j : Int) + 9 := by rw [IntWalk.i64_in _ (by omega)]; omega
          have s5 : IntKind.i64.wrap (j : Int) = (j : Int) := by rw [IntWalk.i64_in _ (by omega)]
          have t1 : ((j : Int) + 1).toNat = j + 1 := by omega
          have t2 : ((j : Int) + 14).toNat = j + 14 := by omega
          have t4 : ((j : Int) + 9).toNat = j + 9 := by omega
          have z1 : 0 ≤ (j : Int) + 1 := by omega
          have z2 : 0 ≤ (j : Int) + 14 := by omega
          have z4 : 0 ≤ (j : Int) + 9 := by omega
          have b1 : (j : Int) + 1 < (j : Int) + 16 := by omega
          have b2 : (j : Int) + 14 < (j : Int) + 16 := by omega
          have b3 : (j : Int) < (j : Int) + 16 := by omega
          have b4 : (j : Int) + 9 < (j : Int) + 16 := by omega
          have d1 : y1.tdiv 8 = y1 / 8 := Int.tdiv_eq_ediv_of_nonneg w10
          have d2 : y14.tdiv 1024 = y14 / 1024 := Int.tdiv_eq_ediv_of_nonneg w140
          have e1 : IntKind.u32.wrap (y1 / 8) = y1 / 8 := by rw [IntKind.wrap_u32]; omega
          have e2 : IntKind.u32.wrap (y14 / 1024) = y14 / 1024 := by rw [IntKind.wrap_u32]; omega
          go_wp2_with fail
          go_quiet ((go_at_call 79; first | (with_reducible exact T7.out _ _) | (with_reducible exact T18.out _ _)))
          have O1 : Hid ((wr.drewN nq).ownsRow w.heap.size 74 1 (.slice (some ⟨g, 0, none⟩) (j + 16) cap) (j + 16) ((moreL xs j).map u32v)) := hown
          have B1 := below_drewN hbl nq
          have c0' : (wr.drewN nq).cell? ⟨g, j, none⟩ = some (.int .u32 y0) := c0
          have c9' : (wr.drewN nq).cell? ⟨g, j + 9, none⟩ = some (.int .u32 y9) := c9
          have c14' : (wr.drewN nq).cell? ⟨g, j + 14, none⟩ = some (.int .u32 y14) := c14
          clear c0 c1 c9 c14 hown hbl hgr
          generalize wr.drewN nq = w2 at *
          go_wp2_with fail
          go_quiet ((go_at_call 79; first | (with_reducible exact T17.out _ _) | (with_reducible exact T19.out _ _)))
          have O2 : Hid ((w2.drewN nq).ownsRow w.heap.size 74 1 (.slice (some ⟨g, 0, none⟩) (j + 16) cap) (j + 16) ((moreL xs j).map u32v)) := O1
          have B2 := below_drewN B1 nq
          have c0 : (w2.drewN nq).cell? ⟨g, j, none⟩ = some (.int .u32 y0) := c0'
          have c9 : (w2.drewN nq).cell? ⟨g, j + 9, none⟩ = some (.int .u32 y9) := c9'
          clear c0' c9' c14' O1 B1
          generalize w2.drewN nq = w3 at *
          have hv : Hid ((y0 + smallS y1 + y9 + smallT y14) % 4294967296 = (y0 + y9 + smallS y1 + smallT y14) % 4294967296) := by show _ = _; congr 1; omega
          have hsS : Hid (bits BinOp.xor IntKind.u32 (bits BinOp.xor IntKind.u32 (rotI y1 7) (rotI y1 18)) (y1 / 8) = smallS y1) := rfl
          have hsT : Hid (bits BinOp.xor IntKind.u32 (bits BinOp.xor IntKind.u32 (rotI y14 17) (rotI y14 19)) (y14 / 1024) = smallT y14) := rfl
          have hu32 : ∀ z, IntKind.u32.wrap z = z % 4294967296 := IntKind.wrap_u32
          go_wp2_with fail
          rw [hsS.out, hsT.out]
          generalize smallS y1 = sS at *
          generalize smallT y14 = sT at *
          have hw3 := B2.size
          go_region_law (first
            | ((refine step_append_word (by rfl) (.tmp 92) (.tmp 108) (by rfl) (by rfl) (by rfl) (by rfl) O2.out (by omega) hw3 ?_); intro v' w' OO BB))
          all_goals
            have OH := Lib.hid OO
            have BH := Lib.hid (B2.trans BB)
            clear OO BB c0 c9 O2 B2 s1 s2 s3 s4 s5 t1 t2 t4 z1 z2 z4 b1 b2 b3 b4 d1 d2 e1 e2 hu32
            go_wp2
            go_roundw
            case rel =>
              repeat apply Exists.intro
              refine ⟨⟨j + 1, by omega, by go_num, BH.out, ?_⟩, rfl⟩
              show World.ownsRow _ _ _ _ _ _ _
              rw [show j + 1 + 16 = j + 16 + 1 by omega, hst.out, List.map_append, ← hv.out]
              exact OH.out
            case measure => simp [intOf]; omega
        · obtain rfl : j = 48 := by omega
          go_wp2
          go_ret
          exact ⟨_, rfl, hown.out, hbl⟩
end Go.Proofs.YtcodmedgkboohaaDoor

namespace Go.Proofs.YtcodmedgkboohaaDoor
set_option maxRecDepth 8000
open Go.RowKit














theorem S8.In.step {s : S8} (h : s.In) (k x : Int) : (s.step k x).In := ⟨InW.mod _, h.a, h.b, h.c, InW.mod _, h.e, h.f, h.g⟩
theorem runL_in {s : S8} (h : s.In) (ws : List Int) : ∀ k, (runL s ws k).In
  | 0 => h
  | k + 1 => (runL_in h ws k).step _ _
set_option maxRecDepth 100000 in
theorem numbers_any (w : World) : Calls Tryd.prog 78 #[] w fun e w' => e = .returned (.slice (some ⟨w.heap.size, 0, none⟩) 64 64) ∧ Row w' w.heap.size 74 (roundNs.map u32v).toArray ∧ Below w.heap.size w w' := by
  go_enter Tryd.func78, Tryd.ntmps78
  go_wp2
  go_ret
  exact ⟨rfl, Row.new w 74 _, (Below.refl _ _).alloc (Nat.le_refl _) _⟩
theorem first_any (w : World) : Calls Tryd.prog 69 #[] w fun e w' => e = .returned (.slice (some ⟨w.heap.size, 0, none⟩) 8 8) ∧ Row w' w.heap.size 74 firstW.cells ∧ Below w.heap.size w w' := by
  go_enter Tryd.func69, Tryd.ntmps69
  go_wp2
  go_ret
  exact ⟨rfl, Row.new w 74 _, (Below.refl _ _).alloc (Nat.le_refl _) _⟩
theorem roundNs_get (i : Nat) (h : i < 64) : (roundNs.map u32v).toArray[i]? = some (.int .u32 (roundNs.getD i 0)) := by
  have hl : roundNs.length = 64 := rfl
  simp [u32v, List.getD, List.getElem?_eq_getElem (by omega : i < roundNs.length)]
theorem Keep.drewN {w : World} {s : Array Value} {gh gk : Nat} {ws : List Int} {gw : Nat} {u : World} (h : Keep w s gh gk ws gw u) (n : Nat) : Keep w s gh gk ws gw (u.drewN n) := ⟨below_drewN h.b n, h.h, h.k, h.w, h.lw⟩
theorem Keep.set {w : World} {s : Array Value} {gh : Nat} {ws : List Int} {gw g k : Nat} {u : World} {v : Value} (h : Keep w s gh w.heap.size ws gw u) (hg : w.heap.size + 1 ≤ g) (h1 : gh < w.heap.size) (h2 : gw < w.heap.size) : Keep w s gh w.heap.size ws gw (u.drew.setCell ⟨g, k, none⟩ v) :=
  ⟨h.b.drew.setCell (by simp; omega) _, h.h.drew.far (by simp; omega) _, h.k.drew.far (by simp; omega) _, fun i hi => (World.cell?_setCell_other u.drew ⟨g, k, none⟩ ⟨gw, i, none⟩ v (fun e => by injection e; omega)).trans (h.w i hi), by have := h.lw; simpa [World.setCell] using this⟩
set_option maxHeartbeats 8000000 in
set_option maxRecDepth 100000 in
theorem rrounds_any (s : S8) (hcs : Array Value) (gh ch gw cw : Nat) (ws : List Int) (w : World) (hs : s.In) (hh : Row w gh 74 hcs) (hhc : ∀ i, i < 8 → hcs[i]? = some (.int .u32 (s.get i))) (hw : ∀ i, i < 64 → w.cell? ⟨gw, i, none⟩ = some (.int .u32 (ws.getD i 0))) (hwl : gw < w.heap.size) :
    Calls Tryd.prog 70 #[.slice (some ⟨gh, 0, none⟩) 8 ch, .slice (some ⟨gw, 0, none⟩) 64 cw] w fun e w' => ∃ v, e = .returned v ∧ V8 w.heap.size v (s.add (runL s ws 64)) w' ∧ Below w.heap.size w w' := by
  have HW := Lib.hid hw
  have HHC := Lib.hid hhc
  have hgh0 := hh.lt
  clear hw hhc
  go_enter Tryd.func70, Tryd.ntmps70
  go_wp2_with fail
  refine (numbers_any w).mono ?_
  rintro e w1 ⟨rfl, rk, hb1⟩
  have K1 : Keep w hcs gh w.heap.size ws gw w1 := ⟨hb1, hh.below hb1 hh.lt, rk, fun i hi => (hb1.cell (p := ⟨gw, i, none⟩) hwl).trans (HW.out i hi), Nat.lt_of_lt_of_le hwl hb1.size⟩
  have sk := rk.lt
  obtain ⟨v', w', hrun, hown, hgr⟩ := append_words (w.heap.size + 1) (.slice none 0 0) 0 [] w1 (World.ownsRow_nil _ _ _ _) ⟨gh, 0, none⟩ 8 ch [s.a, s.b, s.c, s.d, s.e, s.f, s.g, s.h] rfl (fun j u hu => by
    have hj : j < 8 := by
      rcases Nat.lt_or_ge j 8 with h' | h'
      · exact h'
      · rw [List.getElem?_eq_none (by simpa using h')] at hu
        cases hu
    rw [Addr.add_mid, Nat.zero_add, K1.h.cell j, HHC.out j hj, ← hu]
    rcases j with _ | _ | _ | _ | _ | _ | _ | _ | j <;> first | omega | rfl) (by omega) (by omega)
  have hb2 : Below w1.heap.size w1 w' := below_of_grown hgr (fun g hg => by simp [Value.ownBlock] at hg) (Nat.le_refl _)
  have K2 := Lib.hid (K1.below hb2)
  have V2 : Hid (V8 (w.heap.size + 1) v' s w') := by
    rcases hown.2 with ⟨_, h0⟩ | ⟨g, cap, cur, e, hg, hh, _, _, _, ht⟩
    · omega
    · refine ⟨g, cap, cur, e, hg, hh, fun i hi => ?_⟩
      have h1 : cur.toList[i]? = (cur.toList.take (8 * 1))[i]? := by rw [List.getElem?_take_of_lt (by omega)]
      rw [← Array.getElem?_toList, h1, show (8 * 1) = (0 + 8) * 1 by omega, ht]
      rcases i with _ | _ | _ | _ | _ | _ | _ | _ | i <;> first | omega | rfl
  have HRUN := Lib.hid hrun
  clear hrun hown hgr hb2 K1 rk hb1 hh
  go_wp2_with (at_builtin; (with_reducible refine wpList_append_run (o := ⟨some 16, _, _, _, _, _⟩) ?_ (.const (.slice none 0 0)) (.tmp 15) ?_ ?_ ?_ ?_ HRUN.out ?_); (rfl); (rfl); (rfl); (rfl); (rfl))
  go_loopw [6, 7] (fun v i u => ∃ j : Nat, j ≤ 64 ∧ i = .int .i64 j ∧ Hid (Keep w hcs gh w.heap.size ws gw u ∧ V8 (w.heap.size + 1) v (runL s ws j) u)) (fun _ i _ => 64 - (intOf i).toNat)
  case atStart => exact ⟨0, by omega, rfl, K2.out, V2.out⟩
  case round =>
    clear K2 V2 HRUN
    obtain ⟨j, hj, rfl, hrel2⟩ := hrel
    obtain ⟨hk, hv⟩ := hrel2.out
    by_cases hlt : j < 64
    · obtain ⟨g, cap, cur, rfl, hg, hr, hc⟩ := hv
      have hst : Hid (runL s ws (j + 1) = (runL s ws j).step (roundNs.getD j 0) (ws.getD j 0)) := rfl
      have hin := runL_in hs ws j
      have ek := (hk.k.cell j).trans (roundNs_get j hlt)
      have ew := hk.w j hlt
      have E := Lib.hid hk
      generalize roundNs.getD j 0 = kv at *
      generalize ws.getD j 0 = wv at *
      generalize runL s ws j = st at *
      have e0 : wr.cell? ⟨g, 0, none⟩ = some (.int .u32 st.a) := (hr.cell 0).trans (hc 0 (by omega))
      have e1 : wr.cell? ⟨g, 1, none⟩ = some (.int .u32 st.b) := (hr.cell 1).trans (hc 1 (by omega))
      have e2 : wr.cell? ⟨g, 2, none⟩ = some (.int .u32 st.c) := (hr.cell 2).trans (hc 2 (by omega))
      have e3 : wr.cell? ⟨g, 3, none⟩ = some (.int .u32 st.d) := (hr.cell 3).trans (hc 3 (by omega))
      have e4 : wr.cell? ⟨g, 4, none⟩ = some (.int .u32 st.e) := (hr.cell 4).trans (hc 4 (by omega))
      have e5 : wr.cell? ⟨g, 5, none⟩ = some (.int .u32 st.f) := (hr.cell 5).trans (hc 5 (by omega))
      have e6 : wr.cell? ⟨g, 6, none⟩ = some (.int .u32 st.g) := (hr.cell 6).trans (hc 6 (by omega))
      have e7 : wr.cell? ⟨g, 7, none⟩ = some (.int .u32 st.h) := (hr.cell 7).trans (hc 7 (by omega))
      have T6 : Hid (∀ (u : World) (q : Nat), Calls Tryd.prog 79 #[.int .u32 st.e, .int .i64 6] (u.drewN q) fun e w' => e = .returned (.int .u32 (rotI st.e 6)) ∧ ∃ r, w' = u.drewN r) := fun u q => turn_at st.e hin.e 6 (by omega) (by omega) 6 rfl u q
      have T11 : Hid (∀ (u : World) (q : Nat), Calls Tryd.prog 79 #[.int .u32 st.e, .int .i64 11] (u.drewN q) fun e w' => e = .returned (.int .u32 (rotI st.e 11)) ∧ ∃ r, w' = u.drewN r) := fun u q => turn_at st.e hin.e 11 (by omega) (by omega) 11 rfl u q
      have T25 : Hid (∀ (u : World) (q : Nat), Calls Tryd.prog 79 #[.int .u32 st.e, .int .i64 25] (u.drewN q) fun e w' => e = .returned (.int .u32 (rotI st.e 25)) ∧ ∃ r, w' = u.drewN r) := fun u q => turn_at st.e hin.e 25 (by omega) (by omega) 25 rfl u q
      have T2 : Hid (∀ (u : World) (q : Nat), Calls Tryd.prog 79 #[.int .u32 st.a, .int .i64 2] (u.drewN q) fun e w' => e = .returned (.int .u32 (rotI st.a 2)) ∧ ∃ r, w' = u.drewN r) := fun u q => turn_at st.a hin.a 2 (by omega) (by omega) 2 rfl u q
      have T13 : Hid (∀ (u : World) (q : Nat), Calls Tryd.prog 79 #[.int .u32 st.a, .int .i64 13] (u.drewN q) fun e w' => e = .returned (.int .u32 (rotI st.a 13)) ∧ ∃ r, w' = u.drewN r) := fun u q => turn_at st.a hin.a 13 (by omega) (by omega) 13 rfl u q
      have T22 : Hid (∀ (u : World) (q : Nat), Calls Tryd.prog 79 #[.int .u32 st.a, .int .i64 22] (u.drewN q) fun e w' => e = .returned (.int .u32 (rotI st.a 22)) ∧ ∃ r, w' = u.drewN r) := fun u q => turn_at st.a hin.a 22 (by omega) (by omega) 22 rfl u q
      have hmaj := Lib.hid (maj_eq st.a st.b st.c hin.a hin.b hin.c)
      have hch := Lib.hid (ch_eq st.e st.f st.g hin.e)
      have ie := hin.e
      obtain ⟨ie0, ie1⟩ := ie
      have us : IntKind.u32.wrap (4294967295 - st.e) = 4294967295 - st.e := by rw [IntKind.wrap_u32]; omega
      have hj2 : (j : Int) < 64 := by omega
      clear hr hc hk hrel2 hin
      go_wp2_with fail
      go_quiet ((go_at_call 79; first | (with_reducible exact T6.out _ _) | (with_reducible exact T11.out _ _) | (with_reducible exact T25.out _ _)))
      have f0 : (wr.drewN nq).cell? ⟨g, 0, none⟩ = some (.int .u32 st.a) := e0
      have f1 : (wr.drewN nq).cell? ⟨g, 1, none⟩ = some (.int .u32 st.b) := e1
      have f2 : (wr.drewN nq).cell? ⟨g, 2, none⟩ = some (.int .u32 st.c) := e2
      have f3 : (wr.drewN nq).cell? ⟨g, 3, none⟩ = some (.int .u32 st.d) := e3
      have f4 : (wr.drewN nq).cell? ⟨g, 4, none⟩ = some (.int .u32 st.e) := e4
      have f5 : (wr.drewN nq).cell? ⟨g, 5, none⟩ = some (.int .u32 st.f) := e5
      have f6 : (wr.drewN nq).cell? ⟨g, 6, none⟩ = some (.int .u32 st.g) := e6
      have f7 : (wr.drewN nq).cell? ⟨g, 7, none⟩ = some (.int .u32 st.h) := e7
      have fk : (wr.drewN nq).cell? ⟨w.heap.size, j, none⟩ = some (.int .u32 kv) := ek
      have fw : (wr.drewN nq).cell? ⟨gw, j, none⟩ = some (.int .u32 wv) := ew
      have F : Hid (Keep w hcs gh w.heap.size ws gw (wr.drewN nq)) := E.out.drewN nq
      clear e0 e1 e2 e3 e4 e5 e6 e7 ek ew E
      generalize wr.drewN nq = w2 at *
      clear nq
      have e0 := f0
      have e1 := f1
      have e2 := f2
      have e3 := f3
      have e4 := f4
      have e5 := f5
      have e6 := f6
      have e7 := f7
      have ek := fk
      have ew := fw
      have E := F
      clear f0 f1 f2 f3 f4 f5 f6 f7 fk fw F
      have hs1 : Hid (bits BinOp.xor IntKind.u32 (bits BinOp.xor IntKind.u32 (rotI st.e 6) (rotI st.e 11)) (rotI st.e 25) = sig1 st.e) := rfl
      rw [hs1.out]
      go_wp2_with fail
      go_quiet (fail)
      have f0 : (w2.drewN nq).cell? ⟨g, 0, none⟩ = some (.int .u32 st.a) := e0
      have f1 : (w2.drewN nq).cell? ⟨g, 1, none⟩ = some (.int .u32 st.b) := e1
      have f2 : (w2.drewN nq).cell? ⟨g, 2, none⟩ = some (.int .u32 st.c) := e2
      have f3 : (w2.drewN nq).cell? ⟨g, 3, none⟩ = some (.int .u32 st.d) := e3
      have f4 : (w2.drewN nq).cell? ⟨g, 4, none⟩ = some (.int .u32 st.e) := e4
      have f5 : (w2.drewN nq).cell? ⟨g, 5, none⟩ = some (.int .u32 st.f) := e5
      have f6 : (w2.drewN nq).cell? ⟨g, 6, none⟩ = some (.int .u32 st.g) := e6
      have f7 : (w2.drewN nq).cell? ⟨g, 7, none⟩ = some (.int .u32 st.h) := e7
      have fk : (w2.drewN nq).cell? ⟨w.heap.size, j, none⟩ = some (.int .u32 kv) := ek
      have fw : (w2.drewN nq).cell? ⟨gw, j, none⟩ = some (.int .u32 wv) := ew
      have F : Hid (Keep w hcs gh w.heap.size ws gw (w2.drewN nq)) := E.out.drewN nq
      clear e0 e1 e2 e3 e4 e5 e6 e7 ek ew E
      generalize w2.drewN nq = w3 at *
      clear nq
      have e0 := f0
      have e1 := f1
      have e2 := f2
      have e3 := f3
      have e4 := f4
      have e5 := f5
      have e6 := f6
      have e7 := f7
      have ek := fk
      have ew := fw
      have E := F
      clear f0 f1 f2 f3 f4 f5 f6 f7 fk fw F
      rw [hch.out]
      go_wp2_with fail
      go_quiet (fail)
      have f0 : (w3.drewN nq).cell? ⟨g, 0, none⟩ = some (.int .u32 st.a) := e0
      have f1 : (w3.drewN nq).cell? ⟨g, 1, none⟩ = some (.int .u32 st.b) := e1
      have f2 : (w3.drewN nq).cell? ⟨g, 2, none⟩ = some (.int .u32 st.c) := e2
      have f3 : (w3.drewN nq).cell? ⟨g, 3, none⟩ = some (.int .u32 st.d) := e3
      have f4 : (w3.drewN nq).cell? ⟨g, 4, none⟩ = some (.int .u32 st.e) := e4
      have f5 : (w3.drewN nq).cell? ⟨g, 5, none⟩ = some (.int .u32 st.f) := e5
      have f6 : (w3.drewN nq).cell? ⟨g, 6, none⟩ = some (.int .u32 st.g) := e6
      have f7 : (w3.drewN nq).cell? ⟨g, 7, none⟩ = some (.int .u32 st.h) := e7
      have fk : (w3.drewN nq).cell? ⟨w.heap.size, j, none⟩ = some (.int .u32 kv) := ek
      have fw : (w3.drewN nq).cell? ⟨gw, j, none⟩ = some (.int .u32 wv) := ew
      have F : Hid (Keep w hcs gh w.heap.size ws gw (w3.drewN nq)) := E.out.drewN nq
      clear e0 e1 e2 e3 e4 e5 e6 e7 ek ew E
      generalize w3.drewN nq = w4 at *
      clear nq
      have e0 := f0
      have e1 := f1
      have e2 := f2
      have e3 := f3
      have e4 := f4
      have e5 := f5
      have e6 := f6
      have e7 := f7
      have ek := fk
      have ew := fw
      have E := F
      clear f0 f1 f2 f3 f4 f5 f6 f7 fk fw F
      go_wp2_with fail
      go_quiet ((go_at_call 79; first | (with_reducible exact T2.out _ _) | (with_reducible exact T13.out _ _) | (with_reducible exact T22.out _ _)))
      have f0 : (w4.drewN nq).cell? ⟨g, 0, none⟩ = some (.int .u32 st.a) := e0
      have f1 : (w4.drewN nq).cell? ⟨g, 1, none⟩ = some (.int .u32 st.b) := e1
      have f2 : (w4.drewN nq).cell? ⟨g, 2, none⟩ = some (.int .u32 st.c) := e2
      have f3 : (w4.drewN nq).cell? ⟨g, 3, none⟩ = some (.int .u32 st.d) := e3
      have f4 : (w4.drewN nq).cell? ⟨g, 4, none⟩ = some (.int .u32 st.e) := e4
      have f5 : (w4.drewN nq).cell? ⟨g, 5, none⟩ = some (.int .u32 st.f) := e5
      have f6 : (w4.drewN nq).cell? ⟨g, 6, none⟩ = some (.int .u32 st.g) := e6
      have f7 : (w4.drewN nq).cell? ⟨g, 7, none⟩ = some (.int .u32 st.h) := e7
      have fk : (w4.drewN nq).cell? ⟨w.heap.size, j, none⟩ = some (.int .u32 kv) := ek
      have fw : (w4.drewN nq).cell? ⟨gw, j, none⟩ = some (.int .u32 wv) := ew
      have F : Hid (Keep w hcs gh w.heap.size ws gw (w4.drewN nq)) := E.out.drewN nq
      clear e0 e1 e2 e3 e4 e5 e6 e7 ek ew E
      generalize w4.drewN nq = w5 at *
      clear nq
      have e0 := f0
      have e1 := f1
      have e2 := f2
      have e3 := f3
      have e4 := f4
      have e5 := f5
      have e6 := f6
      have e7 := f7
      have ek := fk
      have ew := fw
      have E := F
      clear f0 f1 f2 f3 f4 f5 f6 f7 fk fw F
      have hs0 : Hid (bits BinOp.xor IntKind.u32 (bits BinOp.xor IntKind.u32 (rotI st.a 2) (rotI st.a 13)) (rotI st.a 22) = sig0 st.a) := rfl
      rw [hs0.out]
      go_wp2_with fail
      go_quiet (fail)
      have f0 : (w5.drewN nq).cell? ⟨g, 0, none⟩ = some (.int .u32 st.a) := e0
      have f1 : (w5.drewN nq).cell? ⟨g, 1, none⟩ = some (.int .u32 st.b) := e1
      have f2 : (w5.drewN nq).cell? ⟨g, 2, none⟩ = some (.int .u32 st.c) := e2
      have f3 : (w5.drewN nq).cell? ⟨g, 3, none⟩ = some (.int .u32 st.d) := e3
      have f4 : (w5.drewN nq).cell? ⟨g, 4, none⟩ = some (.int .u32 st.e) := e4
      have f5 : (w5.drewN nq).cell? ⟨g, 5, none⟩ = some (.int .u32 st.f) := e5
      have f6 : (w5.drewN nq).cell? ⟨g, 6, none⟩ = some (.int .u32 st.g) := e6
      have f7 : (w5.drewN nq).cell? ⟨g, 7, none⟩ = some (.int .u32 st.h) := e7
      have fk : (w5.drewN nq).cell? ⟨w.heap.size, j, none⟩ = some (.int .u32 kv) := ek
      have fw : (w5.drewN nq).cell? ⟨gw, j, none⟩ = some (.int .u32 wv) := ew
      have F : Hid (Keep w hcs gh w.heap.size ws gw (w5.drewN nq)) := E.out.drewN nq
      clear e0 e1 e2 e3 e4 e5 e6 e7 ek ew E
      generalize w5.drewN nq = w6 at *
      clear nq
      have e0 := f0
      have e1 := f1
      have e2 := f2
      have e3 := f3
      have e4 := f4
      have e5 := f5
      have e6 := f6
      have e7 := f7
      have ek := fk
      have ew := fw
      have E := F
      clear f0 f1 f2 f3 f4 f5 f6 f7 fk fw F
      rw [hmaj.out]
      go_wp2_with fail
      go_still_tail 28, (by kernel_rfl)
      change wpList _ _ _ _ _ w6.drew
      go_wp2_with fail
      have hA : Hid ((st.h + sig1 st.e + chI st.e st.f st.g + kv + wv + sig0 st.a + majI st.a st.b st.c) % 4294967296 = (st.step kv wv).a) := by
        show _ = (st.h + sig1 st.e + chI st.e st.f st.g + kv + wv + (sig0 st.a + majI st.a st.b st.c)) % 4294967296
        rw [Int.add_assoc]
      have hk6 := E.out.k.lt
      go_roundw
      case rel =>
        refine ⟨j + 1, by omega, by go_num, E.out.below (Below.drew ((Below.refl _ _).alloc (Nat.le_refl _) _)), w6.heap.size, 8, _, rfl, by omega, Row.new w6 74 _, fun i hi => ?_⟩
        rw [hst.out, hA.out]
        rcases i with _ | _ | _ | _ | _ | _ | _ | _ | i <;> first | omega | rfl
      case measure => simp [intOf]; omega
    · obtain rfl : j = 64 := by omega
      obtain ⟨g, cap, cur, rfl, hg, hr, hc⟩ := hv
      generalize hTT : runL s ws 64 = tt at *
      have HTT := Lib.hid hTT
      clear hTT hrel2
      have R0 := Lib.hid (⟨hk, cur, hr, hc⟩ : Keep w hcs gh w.heap.size ws gw wr ∧ ∃ cur, Row wr g 74 cur ∧ ∀ i, i < 8 → cur[i]? = some (.int .u32 ((tt.addTo s 0).get i)))
      clear hk hr hc
      go_wp2_with fail
      go_loopw [13] (fun i u => ∃ k : Nat, k ≤ 8 ∧ i = .int .i64 k ∧ Hid (Keep w hcs gh w.heap.size ws gw u ∧ ∃ cur, Row u g 74 cur ∧ ∀ i, i < 8 → cur[i]? = some (.int .u32 ((tt.addTo s k).get i)))) (fun i _ => 8 - (intOf i).toNat)
      case atStart => exact ⟨0, by omega, rfl, R0.out⟩
      case round =>
        clear R0
        obtain ⟨k, hk8, rfl, hrel2⟩ := hrel
        obtain ⟨hk, cur, hr, hc⟩ := hrel2.out
        by_cases hlt : k < 8
        · have e0 : wr.cell? ⟨g, k, none⟩ = some (.int .u32 (tt.get k)) := by rw [hr.cell k, hc k hlt, S8.addTo_get tt s k hlt]
          have e1 : wr.cell? ⟨gh, k, none⟩ = some (.int .u32 (s.get k)) := by rw [hk.h.cell k, HHC.out k hlt]
          have f0 := hr.frozen k
          have E := Lib.hid hk
          have R := Lib.hid hr
          have C := Lib.hid hc
          have hput : Hid (∀ i, i < 8 → (tt.addTo s (k + 1)).get i = if i = k then (tt.get k + s.get k) % 4294967296 else (tt.addTo s k).get i) := by
            intro i hi
            rcases k with _ | _ | _ | _ | _ | _ | _ | _ | k <;> first | omega | (rcases i with _ | _ | _ | _ | _ | _ | _ | _ | i <;> first | omega | rfl)
          clear hk hr hc hrel2
          have hl2 : (k : Int) < 8 := by omega
          go_wp2_with fail
          go_still_tail 11, (by kernel_rfl)
          change wpList _ _ _ _ _ wr.drew
          go_wp2
          go_roundw
          case rel =>
            repeat apply Exists.intro
            refine ⟨⟨k + 1, by omega, by go_num, E.out.set hg hgh0 hwl, _, R.out.drew.put k _, fun i hi => ?_⟩, rfl⟩
            have hkc := C.out k hlt
            have hks : k < cur.size := by
              rcases Nat.lt_or_ge k cur.size with h' | h'
              · exact h'
              · rw [Array.getElem?_eq_none h'] at hkc
                cases hkc
            rw [Array.getElem?_setIfInBounds, hput.out i hi]
            by_cases e : k = i
            · subst e
              rw [if_pos rfl, if_pos hks, if_pos rfl]
            · rw [if_neg e, if_neg (fun h => e h.symm)]
              exact C.out i hi
          case measure => simp [intOf]; omega
        · obtain rfl : k = 8 := by omega
          have E := Lib.hid hk
          have R := Lib.hid hr
          have C := Lib.hid hc
          clear hk hr hc hrel2
          go_wp2
          go_ret
          have hadd : s.add (runL s ws 64) = tt.addTo s 8 := by
            rw [HTT.out, S8.addTo_all]
            simp only [S8.add, Int.add_comm]
          exact ⟨_, rfl, ⟨g, cap, cur, rfl, by omega, R.out, by rw [hadd]; exact C.out⟩, E.out.b⟩
end Go.Proofs.YtcodmedgkboohaaDoor

namespace Go.Proofs.YtcodmedgkboohaaDoor
set_option maxRecDepth 8000
open Go.RowKit














theorem append_byte (base : Nat) (v : Value) (n : Nat) (l : List Value) (w : World) (x : Int) (hown : w.ownsRow base 5 1 v n l) (hs : n ≤ 70368744177663) (hbase : base ≤ w.heap.size) :
    ∃ v' w', (Builtin.append_ #[26, 26] 26 #[v, .slice (some ⟨w.heap.size, 0, none⟩) 1 1]).run Tryd.prog (w.alloc (.cells #[.int .u8 x] 5)) = .ok v' w' ∧ w'.ownsRow base 5 1 v' (n + 1) (l ++ [u8v x]) ∧ Below base w w' := by
  have ho := hown.alloc (.cells #[.int .u8 x] 5)
  obtain ⟨v', w', hrun, hown', hg⟩ := append_bytes base v n l (w.alloc (.cells #[.int .u8 x] 5)) ho (some ⟨w.heap.size, 0, none⟩) 1 1 (w.heap.size + 1) [x] rfl (fun _ => ⟨_, rfl, by simp, fun j u hu => by
    rcases j with _ | j
    · have hu' : u8v x = u := by simpa using hu
      subst hu'
      exact (Row.new w 5 #[.int .u8 x]).cell 0
    · simp at hu⟩) (by omega) (by simp; omega)
  refine ⟨v', w', hrun, hown', ?_⟩
  have hb : Below base w (w.alloc (.cells #[.int .u8 x] 5)) := (Below.refl _ _).alloc hbase _
  exact hb.trans (below_of_grown hg (fun g hg => (ho.lt g hg).1) (by simp; omega))
theorem own_len {base n : Nat} {v : Value} {l : List Value} {w : World} (h : w.ownsRow base 5 1 v n l) (hn : 0 < n) : ∃ g cap, v = .slice (some ⟨g, 0, none⟩) n cap := by
  rcases h.2 with ⟨_, h0⟩ | ⟨g, cap, cur, e, _⟩
  · omega
  · exact ⟨g, cap, e⟩
/-- the bytes ahead of the length -/
def headL (xs : List Int) (k : Nat) : List Int := xs ++ [128] ++ List.replicate k 0
def divs (k : Nat) : Int := 72057594037927936 / 256 ^ k
def tailL (n : Nat) : Nat → List Int
  | 0 => []
  | k + 1 => tailL n k ++ [8 * (n : Int) / divs k % 256]
theorem divs_step (k : Nat) (h : k < 8) : divs (k + 1) = divs k / 256 ∧ 0 < divs k ∧ divs k ≤ 72057594037927936 := by
  rcases k with _ | _ | _ | _ | _ | _ | _ | _ | k
  all_goals first | omega | decide
theorem tailL_all (n : Nat) (h : n ≤ 70368744177) : tailL n 8 = lenL n := by
  have d0 : divs 0 = 72057594037927936 := by decide
  have d1 : divs 1 = 281474976710656 := by decide
  have d2 : divs 2 = 1099511627776 := by decide
  have d3 : divs 3 = 4294967296 := by decide
  have d4 : divs 4 = 16777216 := by decide
  have d5 : divs 5 = 65536 := by decide
  have d6 : divs 6 = 256 := by decide
  have d7 : divs 7 = 1 := by decide
  simp only [tailL, d0, d1, d2, d3, d4, d5, d6, d7, lenL, List.nil_append, List.cons_append, List.cons.injEq, and_true]
  refine ⟨?_, ?_, ?_, ?_, ?_, ?_, ?_, ?_⟩
  all_goals first | omega | trivial
set_option maxHeartbeats 4000000 in
set_option maxRecDepth 100000 in
theorem rpad_any (A : Option Addr) (n c : Nat) (xs : List Int) (w : World) (hl : xs.length = n) (hn : n ≤ 70368744177) (hx : Bytes w w.heap.size A xs) :
    Calls Tryd.prog 68 #[.slice A n c] w fun e w' => ∃ v, e = .returned v ∧ w'.ownsRow w.heap.size 5 1 v ((n + 72) / 64 * 64) ((padL xs ((n + 72) / 64 * 64)).map u8v) ∧ Below w.heap.size w w' := by
  obtain ⟨v1, w1, hrun1, hown1, hg1⟩ := append_bytes w.heap.size (.slice none 0 0) 0 [] w (World.ownsRow_nil _ _ _ _) A n c w.heap.size xs hl hx (by omega) (Nat.le_refl _)
  have b1 : Below w.heap.size w w1 := below_of_grown hg1 (fun g hg => by simp [Value.ownBlock] at hg) (Nat.le_refl _)
  rw [Nat.zero_add, List.nil_append] at hown1
  obtain ⟨v2, w2, hrun2, hown2, b2⟩ := append_byte w.heap.size v1 n _ w1 128 hown1 (by omega) b1.size
  have HR1 := Lib.hid hrun1
  have HR2 := Lib.hid hrun2
  have O2 : Hid (w2.ownsRow w.heap.size 5 1 v2 (n + 1 + 0) ((headL xs 0).map u8v)) := by
    show World.ownsRow _ _ _ _ _ _ _
    simpa [headL, List.map_append] using hown2
  have B2 := Lib.hid (b1.trans b2)
  have HL := Lib.hid hl
  clear hrun1 hrun2 hown1 hown2 hg1 b2 hx hl
  obtain ⟨q, hq⟩ : ∃ q : Nat, n + 1 + q + 8 = (n + 72) / 64 * 64 := ⟨(n + 72) / 64 * 64 - n - 9, by omega⟩
  have hq1 : (n + 1 + q) % 64 = 56 := by omega
  have hq2 : q < 64 := by omega
  have HQ := Lib.hid hq
  clear hq
  go_enter Tryd.func68, Tryd.ntmps68
  go_wp2_with (first
    | (at_builtin; (with_reducible refine wpList_append_run (o := ⟨some 8, _, _, _, _, _⟩) ?_ (.const (.slice none 0 0)) (.tmp 7) ?_ ?_ ?_ ?_ HR1.out ?_); (rfl); (rfl); (rfl); (rfl); (rfl))
    | (at_builtin; (with_reducible refine wpList_append_run (o := ⟨some 11, _, _, _, _, _⟩) ?_ (.tmp 9) (.tmp 10) ?_ ?_ ?_ ?_ HR2.out ?_); (rfl); (rfl); (rfl); (rfl); (rfl)))
  go_loopw [3] (fun v u => ∃ k : Nat, k ≤ q ∧ Hid (u.ownsRow w.heap.size 5 1 v (n + 1 + k) ((headL xs k).map u8v) ∧ Below w.heap.size w u)) (fun v _ => n + 1 + q - (match v with | .slice _ m _ => m | _ => 0))
  case atStart => exact ⟨0, by omega, O2.out, B2.out⟩
  case round =>
    clear HR1 HR2 O2 B2
    obtain ⟨k, hk, hrows⟩ := hrel
    obtain ⟨hown, hbl⟩ := hrows.out
    obtain ⟨g, cap, rfl⟩ := own_len hown (by omega)
    by_cases hlt : k < q
    · have hne : (((n : Int) + 1 + (k : Int)) % 64 != 56) = true := by simp; omega
      obtain ⟨v', w', hrun, hown', hb2⟩ := append_byte w.heap.size _ _ _ wr 0 hown (by omega) hbl.size
      have HR := Lib.hid hrun
      have OO : Hid (w'.ownsRow w.heap.size 5 1 v' (n + 1 + (k + 1)) ((headL xs (k + 1)).map u8v)) := by
        show World.ownsRow _ _ _ _ _ _ _
        have e : headL xs (k + 1) = headL xs k ++ [0] := by simp [headL, List.replicate_succ']
        rw [e, List.map_append]
        exact hown'
      have BB := Lib.hid (hbl.trans hb2)
      obtain ⟨g', cap', rfl⟩ := own_len OO.out (by omega)
      clear hrun hown' hb2 hown hbl hrows
      go_wp2_with (at_builtin; (with_reducible refine wpList_append_run (o := ⟨some 18, _, _, _, _, _⟩) ?_ (.tmp 16) (.tmp 17) ?_ ?_ ?_ ?_ HR.out ?_); (rfl); (rfl); (rfl); (rfl); (rfl))
      go_roundw
      case rel => exact ⟨k + 1, by omega, OO.out, BB.out⟩
      case measure => show n + 1 + q - (n + 1 + (k + 1)) < n + 1 + q - (n + 1 + k); omega
    · obtain rfl : k = q := by omega
      have hne : (((n : Int) + 1 + (k : Int)) % 64 != 56) = false := by simp; omega
      have R0 := Lib.hid hrows.out
      clear hown hbl hrows
      go_wp2_with fail
      go_loopw [3, 5, 6] (fun v d i u => ∃ j : Nat, j ≤ 8 ∧ i = .int .i64 j ∧ d = .int .u64 (divs j) ∧ Hid (u.ownsRow w.heap.size 5 1 v (n + 1 + k + j) ((headL xs k ++ tailL n j).map u8v) ∧ Below w.heap.size w u)) (fun _ _ i _ => 8 - (intOf i).toNat)
      case atStart =>
        refine ⟨0, by omega, rfl, by rfl, ?_⟩
        have := R0.out
        show _ ∧ _
        simpa [tailL] using this
      case round =>
        clear R0
        obtain ⟨j, hj, rfl, rfl, hrows⟩ := hrel
        obtain ⟨hown, hbl⟩ := hrows.out
        obtain ⟨g1, cap1, rfl⟩ := own_len hown (by omega)
        by_cases hlt : j < 8
        · obtain ⟨ds, d0, d1⟩ := divs_step j hlt
          have DS := Lib.hid ds
          have hT : Hid (tailL n (j + 1) = tailL n j ++ [8 * (n : Int) / divs j % 256]) := rfl
          obtain ⟨v', w', hrun, hown', hb2⟩ := append_byte w.heap.size _ _ _ wr (8 * (n : Int) / divs j % 256) hown (by omega) hbl.size
          have HR := Lib.hid hrun
          have OO : Hid (w'.ownsRow w.heap.size 5 1 v' (n + 1 + k + (j + 1)) ((headL xs k ++ tailL n (j + 1)).map u8v)) := by
            show World.ownsRow _ _ _ _ _ _ _
            rw [hT.out, ← List.append_assoc, List.map_append]
            exact hown'
          have BB := Lib.hid (hbl.trans hb2)
          clear hrun hown' hb2 hown hbl hrows ds
          generalize divs j = d at *
          have p0 : 0 ≤ 8 * (n : Int) / d := Int.ediv_nonneg (by omega) (by omega)
          have p1 : 8 * (n : Int) / d ≤ 8 * (n : Int) := Int.ediv_le_self _ (by omega)
          have p2 : (d == 0) = false := by simp; omega
          go_wp2_with (at_builtin; (with_reducible refine wpList_append_run (o := ⟨some 34, _, _, _, _, _⟩) ?_ (.tmp 27) (.tmp 33) ?_ ?_ ?_ ?_ HR.out ?_); (rfl); (rfl); (rfl); (rfl); (rfl))
          go_roundw
          case rel => exact ⟨j + 1, by omega, by go_num, by rw [DS.out], OO.out, BB.out⟩
          case measure => simp [intOf]; omega
        · obtain rfl : j = 8 := by omega
          have hfin : headL xs k ++ tailL n 8 = padL xs ((n + 72) / 64 * 64) := by
            rw [tailL_all n (by omega)]
            unfold padL headL
            have hq := HQ.out
            rw [HL.out, show (n + 72) / 64 * 64 - 9 - n = k by omega]
          have OF : Hid (wr.ownsRow w.heap.size 5 1 (.slice (some ⟨g1, 0, none⟩) (n + 1 + k + 8) cap1) ((n + 72) / 64 * 64) ((padL xs ((n + 72) / 64 * 64)).map u8v)) := by
            show World.ownsRow _ _ _ _ _ _ _
            rw [← hfin, ← HQ.out]
            exact hown
          have BF := Lib.hid hbl
          clear hown hbl hrows hfin
          go_wp2
          go_ret
          exact ⟨_, rfl, OF.out, BF.out⟩
end Go.Proofs.YtcodmedgkboohaaDoor

namespace Go.Proofs.YtcodmedgkboohaaDoor
set_option maxRecDepth 8000
open Go.RowKit














theorem firstW_in : firstW.In := ⟨by unfold InW; decide, by unfold InW; decide, by unfold InW; decide, by unfold InW; decide, by unfold InW; decide, by unfold InW; decide, by unfold InW; decide, by unfold InW; decide⟩
theorem sumK_in (p : List Int) : ∀ k, (sumK p k).In
  | 0 => firstW_in
  | _ + 1 => S8.In.add _ _
theorem own_byte {base n g cap : Nat} {l : List Int} {w : World} (h : w.ownsRow base 5 1 (.slice (some ⟨g, 0, none⟩) n cap) n (l.map u8v)) (i : Nat) (hi : i < n) : w.cell? ⟨g, i, none⟩ = some (.int .u8 (l.getD i 0)) := by
  have hl : l.length = n := by have := h.1; simpa using this
  have := h.cells (g := g) rfl i (u8v (l.getD i 0)) (by simp [List.getD, List.getElem?_eq_getElem (by omega : i < l.length)])
  rw [Addr.add_mid, Nat.zero_add] at this
  exact this
set_option maxHeartbeats 4000000 in
set_option maxRecDepth 100000 in
theorem rsum_any (A : Option Addr) (n c : Nat) (xs : List Int) (w : World) (hl : xs.length = n) (hn : n ≤ 70368744177) (hx : Bytes w w.heap.size A xs) (hr : ∀ x ∈ xs, 0 ≤ x ∧ x ≤ 255) :
    Calls Tryd.prog 54 #[.slice A n c] w fun e w' => e = .returned (.agg (arrB 32 (sumL xs))) ∧ Below w.heap.size w w' := by
  have HL := Lib.hid hl
  have hsum : Hid (sumL xs = idPre (sumK (padL xs ((n + 72) / 64 * 64)) ((n + 72) / 64)) 8) := by show _ = _; rw [← hl]; rfl
  have HP := Lib.hid (padL_range xs ((n + 72) / 64 * 64) (by omega) hr)
  have hb0 : Below w.heap.size w (w.alloc (.cells (arrB 32 []) 37)) := (Below.refl _ _).alloc (Nat.le_refl _) _
  have HX := Lib.hid (hx.below hb0)
  clear hx hr hl
  go_enter Tryd.func54, Tryd.ntmps54
  go_wp2_with fail
  refine (rpad_any A n c xs _ HL.out hn (fun h => ?_)).mono ?_
  · obtain ⟨ad, e, hlt, hc⟩ := HX.out h
    exact ⟨ad, e, by simp; omega, hc⟩
  rintro e w1 ⟨vp, rfl, hown, b1⟩
  rw [World.size_alloc] at hown b1
  have q1 : (n + 72) / 64 ≤ 1099511629 := by omega
  have q0 : 0 < (n + 72) / 64 := by omega
  generalize padL xs ((n + 72) / 64 * 64) = pp at *
  generalize (n + 72) / 64 = q at *
  obtain ⟨gp, cp, rfl⟩ := own_len hown (by omega)
  have S1 : Sums w (.slice (some ⟨gp, 0, none⟩) (q * 64) cp) (q * 64) pp w1 := ⟨hb0.trans (b1.mono (by omega)), (Row.new w 37 _).below b1 (by omega), hown⟩
  clear hown b1 hb0 HX
  go_wp2_with fail
  refine (first_any w1).mono ?_
  rintro e w2 ⟨rfl, rf, b2⟩
  have S2 := Lib.hid (S1.below b2)
  have z1 := S1.z.lt
  have V2 : Hid (V8 (w.heap.size + 1) (.slice (some ⟨w1.heap.size, 0, none⟩) 8 8) (sumK pp 0) w2) := ⟨w1.heap.size, 8, firstW.cells, rfl, by omega, rf, fun i hi => S8.cells_get firstW i hi⟩
  clear S1 rf b2
  go_wp2_with fail
  go_loopw [4, 5] (fun v i u => ∃ k : Nat, k ≤ q ∧ i = .int .i64 (64 * (k : Int)) ∧ Hid (Sums w (.slice (some ⟨gp, 0, none⟩) (q * 64) cp) (q * 64) pp u ∧ V8 (w.heap.size + 1) v (sumK pp k) u)) (fun _ i _ => q * 64 - (intOf i).toNat)
  case atStart => exact ⟨0, by omega, rfl, S2.out, V2.out⟩
  case round =>
    clear S2 V2
    obtain ⟨k, hk, rfl, hrows⟩ := hrel
    obtain ⟨hS, hV⟩ := hrows.out
    by_cases hlt : k < q
    · obtain ⟨g, cap, cur, rfl, hg, hr, hc⟩ := hV
      have hcp : q * 64 ≤ cp := by
        rcases hS.p.2 with ⟨e, _⟩ | ⟨_, _, _, e, _, _, h1, _⟩
        · cases e
        · injection e with _ _ e3
          omega
      have hcm : cp ≤ maxLen := by
        rcases hS.p.2 with ⟨e, _⟩ | ⟨_, _, _, e, _, _, _, h1, _⟩
        · cases e
        · injection e with _ _ e3
          omega
      unfold maxLen at hcm
      have hgp : gp < wr.heap.size := by
        rcases hS.p.2 with ⟨e, _⟩ | ⟨_, _, _, e, _, h1, _⟩
        · cases e
        · injection e with e1 _ _
          have := Row.lt (t := 5) h1
          injection e1 with e1
          injection e1 with e1 _ _
          omega
      have SH := Lib.hid hS
      have RH := Lib.hid hr
      have CH := Lib.hid hc
      clear hS hr hc hrows
      have a1 : 64 * (k : Int) < (q : Int) * 64 := by omega
      have a2 : 64 * (k : Int) + 64 ≤ (q : Int) * 64 := by omega
      have a3 : ¬ cp = 64 * k := by omega
      go_wp2_with fail
      refine (rwords_any gp (64 * k) 64 (cp - 64 * k) (pp.drop (64 * k)) wr (Nat.le_refl _) hgp (fun i hi => ?_) (getD_range _ (fun x hx => HP.out x (List.mem_of_mem_drop hx)))).mono ?_
      · rw [own_byte SH.out.p (64 * k + i) (by omega)]
        simp [List.getD, List.getElem?_drop]
      rintro e w3 ⟨vw, rfl, how, b3⟩
      have S3 := Lib.hid (SH.out.below b3)
      have R3 := Lib.hid (RH.out.below b3 RH.out.lt)
      have W3 : ∃ gw cw, vw = .slice (some ⟨gw, 0, none⟩) 64 cw ∧ gw < w3.heap.size := by
        rcases how.2 with ⟨_, h0⟩ | ⟨gw, cw, _, e, _, h1, _⟩
        · omega
        · exact ⟨gw, cw, e, Row.lt (t := 74) h1⟩
      obtain ⟨gw, cw, rfl, hgw⟩ := W3
      have OW := Lib.hid how
      clear how b3 SH RH
      go_wp2_with fail
      refine (rrounds_any (sumK pp k) cur g cap gw cw (moreL (pp.drop (64 * k)) 48) w3 (sumK_in pp k) R3.out CH.out (fun i hi => own_cell OW.out i hi) hgw).mono ?_
      rintro e w4 ⟨v4, rfl, hV4, b4⟩
      have S4 := Lib.hid (S3.out.below b4)
      have z3 := S3.out.z.lt
      have V4 : Hid (V8 (w.heap.size + 1) v4 (sumK pp (k + 1)) w4) := hV4.mono (by omega)
      clear hV4 b4 S3 R3 OW CH
      go_wp2
      go_roundw
      case rel => exact ⟨k + 1, by omega, by go_num, S4.out, V4.out⟩
      case measure => simp [intOf]; omega
    · obtain rfl : k = q := by omega
      obtain ⟨g, cap, cur, rfl, hg, hr, hc⟩ := hV
      have hfin : Hid (sumL xs = idPre (sumK pp k) 8) := hsum
      have hin := Lib.hid (sumK_in pp k)
      generalize sumK pp k = st at *
      have hSz := hS.z
      have hSb := hS.b
      have zlt := hSz.lt
      have glt := hr.lt
      have e0 : Row (wr.alloc (.cells (arrB 32 []) 37)) w.heap.size 37 (arrB 32 []) := hSz.alloc _
      have e1 : Row (wr.alloc (.cells (arrB 32 []) 37)) g 74 cur := hr.alloc _
      have e2 : Row (wr.alloc (.cells (arrB 32 []) 37)) wr.heap.size 37 (arrB 32 []) := Row.new wr 37 _
      have e3 : Below w.heap.size w (wr.alloc (.cells (arrB 32 []) 37)) := hSb.alloc hSb.size _
      have E0 := Lib.hid e0
      have E1 := Lib.hid e1
      have E2 := Lib.hid e2
      have E3 := Lib.hid e3
      have CH := Lib.hid hc
      clear hSz hSb hr hS hrows hc e0 e1 e2 e3
      go_wp2_with fail
      generalize wr.heap.size = go at *
      go_loopw [7] (fun i u => ∃ j : Nat, j ≤ 8 ∧ i = .int .i64 j ∧ Hid (Row u w.heap.size 37 (arrB 32 []) ∧ Row u g 74 cur ∧ Row u go 37 (arrB 32 (idPre st j)) ∧ Below w.heap.size w u)) (fun i _ => 8 - (intOf i).toNat)
      case atStart => exact ⟨0, by omega, rfl, E0.out, E1.out, E2.out, E3.out⟩
      case round =>
        clear E0 E1 E2 E3
        obtain ⟨j, hj, rfl, hrows⟩ := hrel
        obtain ⟨r0, r1, r2, hbl⟩ := hrows.out
        by_cases hlt : j < 8
        · have ch : wr.cell? ⟨g, j, none⟩ = some (.int .u32 (st.get j)) := (r1.cell j).trans (CH.out j hlt)
          have e0 := (r2.cell (4 * j)).trans (arrB_get 32 _ (4 * j) (by rw [idPre_len]; omega) (by omega))
          have e1 := (r2.cell (4 * j + 1)).trans (arrB_get 32 _ (4 * j + 1) (by rw [idPre_len]; omega) (by omega))
          have e2 := (r2.cell (4 * j + 2)).trans (arrB_get 32 _ (4 * j + 2) (by rw [idPre_len]; omega) (by omega))
          have e3 := (r2.cell (4 * j + 3)).trans (arrB_get 32 _ (4 * j + 3) (by rw [idPre_len]; omega) (by omega))
          have f0 := r2.frozen (4 * j)
          have f1 := r2.frozen (4 * j + 1)
          have f2 := r2.frozen (4 * j + 2)
          have f3 := r2.frozen (4 * j + 3)
          have HPU := Lib.hid (idPre_put st j hlt)
          obtain ⟨i0, i1⟩ := hin.out.get j hlt
          have R0 := Lib.hid r0
          have R1 := Lib.hid r1
          have R2 := Lib.hid r2
          have BL := Lib.hid hbl
          have hne : ¬ g = go := by omega
          have hne2 : ¬ go = g := by omega
          clear r0 r1 r2 hbl hrows
          generalize st.get j = y at *
          have hyd : Hid (y / 16777216 % 256 = y / 16777216) := by show _ = _; omega
          go_wp2
          go_roundw
          case rel =>
            refine ⟨j + 1, by omega, by go_num, (((R0.out.far (by simp; omega) _).far (by simp; omega) _).far (by simp; omega) _).far (by simp; omega) _, (((R1.out.far (by simp; omega) _).far (by simp; omega) _).far (by simp; omega) _).far (by simp; omega) _, ?_, (((BL.out.setCell (by simp; omega) _).setCell (by simp; omega) _).setCell (by simp; omega) _).setCell (by simp; omega) _⟩
            rw [← HPU.out, hyd.out]
            exact (((R2.out.put _ _).put _ _).put _ _).put _ _
          case measure => simp [intOf]; omega
        · obtain rfl : j = 8 := by omega
          have hsz : Hid ((arrB 32 (idPre st 8)).size = 32 ∧ (arrB 32 []).size = (arrB 32 (idPre st 8)).size ∧ (arrB 32 (idPre st 8)).all (·.oneCell') = true) :=
            Lib.hid ⟨arrB_size _ _ (by rw [idPre_len]; omega), by rw [arrB_size 32 (idPre st 8) (by rw [idPre_len]; omega), arrB_size 32 [] (by simp)], arrB_one _ _⟩
          have HF : Hid (arrB 32 (sumL xs) = arrB 32 (idPre st 8)) := by show _ = _; rw [hfin.out]
          generalize arrB 32 (idPre st 8) = cs at *
          generalize arrB 32 [] = zs at *
          have R0 : Hid (wr.heap[w.heap.size]? = some (.cells zs 37 (0, 0))) := r0
          have R2 : Hid (wr.heap[go]? = some (.cells cs 37 (0, 0))) := r2
          have BL := Lib.hid hbl
          clear r0 r1 r2 hrows hbl
          go_wp2_with (first
            | ((with_reducible refine wpList_load_row (o := ⟨some 70, _, _, _, _, _⟩) ?_ 37 (.tmp 6) ?_ go ?_ 37 cs (0, 0) _ R2.out Tryd.underlying37 ?_ (info26 cs hsz.out.1) ?_); (rfl); (rfl); (rfl); (rfl))
            | ((with_reducible refine wpList_store_row (o := ⟨none, .store 37 _ _, _, _, _, _⟩) ?_ 37 (.tmp 2) (.tmp 70) ?_ w.heap.size cs ?_ ?_ 37 zs R0.out (info26 cs hsz.out.1) hsz.out.2.1 hsz.out.2.2 ?_); (rfl); (rfl); (rfl); (rfl))
            | ((with_reducible refine bodyPost_ret (v := .agg cs) ?_ ?_ ?_); (exact results_cell_row (p := 2) (ty := 37) Tryd.results54 _ _ w.heap.size 37 cs (0, 0) _ rfl (setRow_heap _ _ zs cs 37 (0, 0) R0.out) Tryd.underlying37 rfl (info26 cs hsz.out.1)); (rfl)))
          exact ⟨by rw [HF.out], below_setRow BL.out (Nat.le_refl _) _⟩
end Go.Proofs.YtcodmedgkboohaaDoor

namespace Go.Proofs.YtcodmedgkboohaaDoor
set_option maxRecDepth 8000
open Go.RowKit

/-- an append to one's own, and what it leaves as it was -/
theorem OwnB.appendG {w : World} {B : Nat} {v : Value} {xs : List Int} (h : OwnB w B v xs) {A : Option Addr} {m c B' : Nat} {ys : List Int} (hl : ys.length = m) (hy : Bytes w B' A ys) (hs : xs.length + m ≤ 70368744177664) (hB : B ≤ w.heap.size) :
    ∃ v' w', (Builtin.append_ #[26, 26] 26 #[v, .slice A m c]).run Tryd.prog w = .ok v' w' ∧ OwnB w' B v' (xs ++ ys) ∧ Below B w w' ∧ w.grownBy w' v.ownBlock := by
  obtain ⟨v', w', h1, h2, h3⟩ := append_bytes B v xs.length (xs.map u8v) w h A m c B' ys hl hy hs hB
  refine ⟨v', w', h1, ?_, below_of_grown h3 (fun g hg => (h.lt g hg).1) hB, h3⟩
  unfold OwnB
  rw [List.length_append, hl, List.map_append]
  exact h2
end Go.Proofs.YtcodmedgkboohaaDoor

namespace Go.Proofs.YtcodmedgkboohaaDoor
set_option maxRecDepth 8000
open Go.RowKit

theorem row_id {w : World} {g : Nat} {t : TypeId} {x : List Int} (hx : x.length = 32) (h : Row w g t (arrB 32 x)) : Bytes w w.heap.size (some ⟨g, 0, none⟩) x := Bytes.of_row (t := t) (fr := (0, 0)) (by rw [← arr_id hx]; exact h)
set_option maxRecDepth 20000 in
set_option maxHeartbeats 1000000 in
theorem rtext_any (a b : List Int) (w : World) (ha : a.length = 32) (hb : b.length = 32) :
    Calls Tryd.prog 74 #[idv a, idv b] w fun e w' => (∃ v, e = .returned v ∧ OwnB w' w.heap.size v (textT a b)) ∧ Below w.heap.size w w' := by
  obtain ⟨W, hW⟩ : ∃ W, ((w.alloc (.cells (arrB 32 a) 37)).alloc (.cells (arrB 32 b) 37)).alloc (.cells #[.int .u8 1] 5) = W := ⟨_, rfl⟩
  have r0 : Row W w.heap.size 37 (arrB 32 a) := by rw [← hW]; exact ((Row.new w 37 _).alloc _).alloc _
  have r1 : Row W (w.heap.size + 1) 37 (arrB 32 b) := by rw [← hW]; exact (Row.newAt (by simp) 37 _).alloc _
  have r2 : Row W (w.heap.size + 1 + 1) 5 #[.int .u8 1] := by rw [← hW]; exact Row.newAt (by simp) 5 _
  have hbW : Below w.heap.size w W := by rw [← hW]; exact (((Below.refl _ _).alloc (Nat.le_refl _) _).alloc (by simp) _).alloc (by simp; omega) _
  have hs : W.heap.size = w.heap.size + 3 := by rw [← hW]; simp
  have o0 : OwnB W w.heap.size (.slice (some ⟨w.heap.size + 1 + 1, 0, none⟩) 1 1) [1] := own_of_row (n := 1) r2 rfl (by omega) (by decide)
  obtain ⟨v1, w1, hrun1, own1, b1, g1⟩ := o0.appendG (m := 32) (c := 32) ha (row_id ha r0) (by simp) hbW.size
  have hb1 : Bytes w1 w1.heap.size (some ⟨w.heap.size + 1, 0, none⟩) b := by
    have h := g1.block (w.heap.size + 1) (by omega) (by simp [Value.ownBlock])
    exact row_id hb (h.trans r1)
  obtain ⟨v2, w2, hrun2, own2, b2⟩ := own1.append (m := 32) (c := 32) hb hb1 (by simp [ha]) (Nat.le_trans hbW.size b1.size)
  have HR1 := Lib.hid hrun1
  have HR2 := Lib.hid hrun2
  have HO := Lib.hid own2
  have HB := Lib.hid ((hbW.trans b1).trans b2)
  clear hrun1 hrun2 own1 own2 hb1 b1 b2 o0 r0 r1 r2 hbW hs g1
  unfold idv
  generalize arrB 32 a = ca at *
  generalize arrB 32 b = cb at *
  go_enter Tryd.func74, Tryd.ntmps74
  go_wp2_with (first
    | (at_builtin; (with_reducible refine wpList_append_run (o := ⟨some 8, _, _, _, _, _⟩) ?_ (.tmp 6) (.tmp 7) ?_ ?_ ?_ ?_ HR1.out ?_); (rfl); (rfl); (rfl); (rfl); (rfl))
    | (at_builtin; (with_reducible refine wpList_append_run (o := ⟨some 11, _, _, _, _, _⟩) ?_ (.tmp 9) (.tmp 10) ?_ ?_ ?_ ?_ HR2.out ?_); (rfl); (rfl); (rfl); (rfl); (rfl)))
  go_ret
  exact ⟨⟨_, rfl, by simpa [textT] using HO.out⟩, HB.out⟩
set_option maxRecDepth 20000 in
set_option maxHeartbeats 1000000 in
theorem rnode_any (a b : List Int) (w : World) (ha : a.length = 32) (hb : b.length = 32) (hA : ∀ x ∈ a, 0 ≤ x ∧ x ≤ 255) (hB : ∀ x ∈ b, 0 ≤ x ∧ x ≤ 255) :
    Calls Tryd.prog 57 #[idv a, idv b] w fun e w' => e = .returned (idv (nodeT a b)) ∧ Below w.heap.size w w' := by
  obtain ⟨W, hW⟩ : ∃ W, ((w.alloc (.cells (arrB 32 a) 37)).alloc (.cells (arrB 32 b) 37)).alloc (.cells (arrB 32 []) 37) = W := ⟨_, rfl⟩
  have r0 : Row W w.heap.size 37 (arrB 32 a) := by rw [← hW]; exact ((Row.new w 37 _).alloc _).alloc _
  have r1 : Row W (w.heap.size + 1) 37 (arrB 32 b) := by rw [← hW]; exact (Row.newAt (by simp) 37 _).alloc _
  have r2 : Row W (w.heap.size + 1 + 1) 37 (arrB 32 []) := by rw [← hW]; exact Row.newAt (by simp) 37 _
  have hbW : Below w.heap.size w W := by rw [← hW]; exact (((Below.refl _ _).alloc (Nat.le_refl _) _).alloc (by simp) _).alloc (by simp; omega) _
  have HT := Lib.hid (rtext_any a b W ha hb)
  have hlen : (textT a b).length = 65 := by unfold textT; simp [ha, hb]
  have HLEN := Lib.hid hlen
  have HBY := Lib.hid (textT_byte hA hB)
  have hsA : Hid ((arrB 32 a).size = 32 ∧ (arrB 32 b).size = 32 ∧ (arrB 32 []).size = 32) := ⟨arrB_size _ _ (by omega), arrB_size _ _ (by omega), arrB_size _ _ (by simp)⟩
  have HS : Hid (sumL (textT a b) = nodeT a b) := rfl
  have hz : Hid ((arrB 32 (nodeT a b)).size = 32 ∧ (arrB 32 (nodeT a b)).all (·.oneCell') = true) := ⟨arrB_size _ _ (by unfold nodeT; rw [sumL_len]; omega), arrB_one _ _⟩
  have R0 : Hid (W.heap[w.heap.size]? = some (.cells (arrB 32 a) 37 (0, 0))) := r0
  have R1 : Hid (W.heap[w.heap.size + 1]? = some (.cells (arrB 32 b) 37 (0, 0))) := r1
  have R2 := Lib.hid r2
  have HB := Lib.hid hbW
  have HW := Lib.hid hW
  clear r0 r1 r2 hbW hW hlen
  unfold idv at *
  generalize arrB 32 a = ca at *
  generalize arrB 32 b = cb at *
  go_enter Tryd.func57, Tryd.ntmps57
  go_upto_region 1 with (fail)
  rw [zero_cells, HW.out]
  go_wp2_with (first
    | ((with_reducible refine wpList_load_row (o := ⟨some 5, _, _, _, _, _⟩) ?_ 37 (.tmp 2) ?_ w.heap.size ?_ 37 ca (0, 0) _ R0.out Tryd.underlying37 ?_ (info26 ca hsA.out.1) ?_); (rfl); (rfl); (rfl); (rfl))
    | ((with_reducible refine wpList_load_row (o := ⟨some 6, _, _, _, _, _⟩) ?_ 37 (.tmp 3) ?_ (w.heap.size + 1) ?_ 37 cb (0, 0) _ R1.out Tryd.underlying37 ?_ (info26 cb hsA.out.2.1) ?_); (rfl); (rfl); (rfl); (rfl)))
  refine HT.out.mono ?_
  rintro e w1 ⟨⟨v, rfl, hv⟩, hb1⟩
  obtain ⟨A1, c1, rfl⟩ := hv.form
  rw [HLEN.out]
  rw [HLEN.out] at hv
  have HSUM := Lib.hid (rsum_any A1 65 c1 (textT a b) w1 HLEN.out (by omega) hv.up HBY.out)
  have R2' := Lib.hid (R2.out.below hb1 R2.out.lt)
  have HB1 := Lib.hid (HB.out.trans (hb1.mono HB.out.size))
  clear hv hb1 HT R0 R1 R2 HB
  go_wp2_with fail
  refine HSUM.out.mono ?_
  rintro e w2 ⟨rfl, hb2⟩
  rw [HS.out]
  have Q0 : Hid (w2.heap[w.heap.size + 1 + 1]? = some (.cells (arrB 32 []) 37 (0, 0))) := R2'.out.below hb2 R2'.out.lt
  have HB2 := Lib.hid (HB1.out.trans (hb2.mono HB1.out.size))
  clear hb2 HSUM R2' HB1
  generalize hcn : arrB 32 (nodeT a b) = cn at *
  have HCN := Lib.hid hcn
  clear hcn
  generalize arrB 32 [] = zs at *
  go_wp2_with (first
    | ((with_reducible refine wpList_store_row (o := ⟨none, .store 37 _ _, _, _, _, _⟩) ?_ 37 (.tmp 4) (.tmp 8) ?_ (w.heap.size + 1 + 1) cn ?_ ?_ 37 zs Q0.out (info26 cn hz.out.1) (by rw [hz.out.1, hsA.out.2.2]) hz.out.2 ?_); (rfl); (rfl); (rfl); (rfl))
    | ((with_reducible refine bodyPost_ret (v := .agg cn) ?_ ?_ ?_); (exact results_cell_row (p := 4) (ty := 37) Tryd.results57 _ _ (w.heap.size + 1 + 1) 37 cn (0, 0) _ rfl (setRow_heap _ _ zs cn 37 (0, 0) Q0.out) Tryd.underlying37 rfl (info26 cn hz.out.1)); (rfl)))
  exact ⟨by rw [HCN.out], below_setRow HB2.out (by omega) _⟩
end Go.Proofs.YtcodmedgkboohaaDoor

namespace Go.Proofs.YtcodmedgkboohaaDoor
set_option maxRecDepth 8000
open Go.RowKit

set_option maxRecDepth 20000 in
set_option maxHeartbeats 1000000 in
theorem rtHalf_any (n : Nat) (w : World) (h2 : 2 ≤ n) (hn : n ≤ 1099511627776) :
    Calls Tryd.prog 56 #[.int .i64 n] w fun e w' => e = .returned (.int .i64 (halfT n : Nat)) ∧ w = w' := by
  have h2' : (2 : Int) ≤ (n : Int) := by omega
  go_enter Tryd.func56, Tryd.ntmps56
  go_wp2_with fail
  go_loopw [3] (fun v u => ∃ k f : Nat, v = .int .i64 k ∧ 1 ≤ k ∧ k < n ∧ Hid (n ≤ k * 2 ^ f ∧ halfGo n f k = halfT n) ∧ u = w) (fun v _ => n - (intOf v).toNat)
  case atStart =>
    refine ⟨1, n, rfl, Nat.le_refl _, by omega, ⟨?_, rfl⟩, rfl⟩
    rw [Nat.one_mul]
    exact Nat.le_of_lt Nat.lt_two_pow_self
  case round =>
    obtain ⟨k, f, rfl, hk1, hkn, hh, rfl⟩ := hrel
    obtain ⟨hf, hg⟩ := hh.out
    clear hh
    by_cases hlt : 2 * k < n
    · have hlt2 : 2 * (k : Int) < (n : Int) := by omega
      obtain ⟨f, rfl⟩ : ∃ f', f = f' + 1 := by
        cases f with
        | zero => rw [Nat.pow_zero, Nat.mul_one] at hf; omega
        | succ f => exact ⟨f, rfl⟩
      have HN : Hid (n ≤ (2 * k) * 2 ^ f ∧ halfGo n f (2 * k) = halfT n) := by
        refine ⟨?_, ?_⟩
        · rw [Nat.pow_succ] at hf
          rw [Nat.mul_comm 2 k, Nat.mul_assoc, Nat.mul_comm 2]
          exact hf
        · rw [halfGo, if_pos hlt] at hg
          exact hg
      clear hf hg
      go_wp2
      go_roundw
      case rel => exact ⟨2 * k, f, by go_num, by omega, by omega, HN, trivial⟩
      case measure => simp [intOf]; omega
    · have hlt2 : ¬ 2 * (k : Int) < (n : Int) := by omega
      have HK : Hid (halfT n = k) := by
        show _ = _
        rw [← hg]
        cases f with
        | zero => rfl
        | succ f => rw [halfGo, if_neg hlt]
      clear hf hg
      go_wp2
      go_ret
      exact ⟨by rw [HK.out]; rfl, rfl⟩
end Go.Proofs.YtcodmedgkboohaaDoor

namespace Go.Proofs.YtcodmedgkboohaaDoor
set_option maxRecDepth 8000
open Go.RowKit

theorem run_cutI_h (A : Option Addr) (n c h : Nat) (w : World) (h2 : h ≤ c) :
    (Instr.sliceAt 44 (.slice A n c) none (some (.int .i64 (h : Int))) none).run Tryd.prog w = .ok (.slice A h c) w := by
  have ht' : Tryd.prog.underlying 44 = some (.slice (Tryd.prog.elem 44)) := by rw [elemI]; exact Tryd.underlying44
  rw [run_sliceAt_slice w _ _ _ _ _ ht', run_slice_h w 44 _ _ _ ht' .i64 _ (by omega) (by omega), elemI, sizeI]
  have e : (fun a : Addr => a.add (0 * 32)) = id := by
    funext a
    simp [Addr.add]
  simp only [Result.andThen, sliced, e, Option.map_id, Int.toNat_natCast, Nat.sub_zero, ite_self, id]
theorem run_cutI_l (A : Option Addr) (n c l : Nat) (w : World) (h1 : l ≤ n) :
    (Instr.sliceAt 44 (.slice A n c) (some (.int .i64 (l : Int))) none none).run Tryd.prog w = .ok (.slice (cutI' A l c) (n - l) (c - l)) w := by
  have ht' : Tryd.prog.underlying 44 = some (.slice (Tryd.prog.elem 44)) := by rw [elemI]; exact Tryd.underlying44
  rw [run_sliceAt_slice w _ _ _ _ _ ht', run_slice_l w 44 _ _ _ ht' .i64 _ (by omega) (by omega), elemI, sizeI]
  simp [Result.andThen, sliced, cutI']
section
variable {a : Act} {dst : Option Tmp} {x l h : Operand} {ty : TypeId} {pos : String} {after : Array Edge} {gd : Option (Nat × Bool)}
theorem cutIh_op {A : Option Addr} {n c j : Nat} (u : World) (h2 : j ≤ c) (hx : a.eval x = .slice A n c) (hh : a.eval h = .int .i64 (j : Int)) :
    (execOp a.eval ⟨dst, .slice 44 x none (some h) none, ty, pos, after, gd⟩).run Tryd.prog u = .ok (.value (.slice A j c)) u := by
  unfold execOp
  simp only [hx, hh, Option.map_some, Option.map_none, Sem.run_bind, Sem.run_pure, Result.andThen_ok, run_cutI_h A n c j u h2]
theorem cutIl_op {A : Option Addr} {n c j : Nat} (u : World) (h2 : j ≤ n) (hx : a.eval x = .slice A n c) (hh : a.eval l = .int .i64 (j : Int)) :
    (execOp a.eval ⟨dst, .slice 44 x (some l) none none, ty, pos, after, gd⟩).run Tryd.prog u = .ok (.value (.slice (cutI' A j c) (n - j) (c - j))) u := by
  unfold execOp
  simp only [hx, hh, Option.map_some, Option.map_none, Sem.run_bind, Sem.run_pure, Result.andThen_ok, run_cutI_l A n c j u h2]
end
end Go.Proofs.YtcodmedgkboohaaDoor

namespace Go.Proofs.YtcodmedgkboohaaDoor
set_option maxRecDepth 8000
open Go.RowKit

set_option maxRecDepth 20000 in
set_option maxHeartbeats 4000000 in
theorem rroot_any : ∀ (n : Nat) (l : List (List Int)) (A : Option Addr) (c : Nat) (w : World), l.length = n → n ≤ 1000000 → n ≤ c → c ≤ maxLen → isIds l → IdsIn w w.heap.size A l →
    Calls Tryd.prog 42 #[.slice A n c] w fun e w' => e = .returned (idv (rootT l)) ∧ Below w.heap.size w w' := by
  intro n
  induction n using Nat.strongRecOn with
  | _ n ih =>
    intro l A c w hl hn hc hcm hI hA
    have hid := root_id hI
    have hz : Hid ((arrB 32 (rootT l)).size = 32 ∧ (arrB 32 []).size = 32 ∧ (arrB 32 (rootT l)).all (·.oneCell') = true) := ⟨arrB_size _ _ (by omega), arrB_size _ _ (by simp), arrB_one _ _⟩
    by_cases h0 : n = 0
    · subst h0
      obtain rfl := List.eq_nil_of_length_eq_zero hl
      rw [root_none] at hz
      rw [root_none]
      have HS := Lib.hid (fun (u : World) (g : Nat) (h : Row u g 5 #[.int .u8 2]) => rsum_any (some ⟨g, 0, none⟩) 1 1 [2] u rfl (by omega) (own_of_row (B := 0) (n := 1) (xs := [2]) h rfl (Nat.zero_le _) (by decide)).up (by intro x hx; simp at hx; omega))
      clear ih hI hA hid hl
      go_enter Tryd.func42, Tryd.ntmps42
      go_upto_region 2 with (fail)
      rw [zero_cells]
      obtain ⟨W, hW⟩ : ∃ W, w.alloc (.cells (arrB 32 []) 37) = W := ⟨_, rfl⟩
      have R2 : Row W w.heap.size 37 (arrB 32 []) := by rw [← hW]; exact Row.new w 37 _
      have HB : Below w.heap.size w W := by rw [← hW]; exact (Below.refl _ _).alloc (Nat.le_refl _) _
      rw [hW]
      clear hW
      go_wp2_with fail
      have hba : Below W.heap.size W (W.alloc (.cells #[.int .u8 2] 5)) := (Below.refl _ _).alloc (Nat.le_refl _) _
      refine (HS.out _ _ (Row.new W 5 _)).mono ?_
      rintro e w2 ⟨rfl, hb2⟩
      have hb3 := hba.trans (hb2.mono hba.size)
      have Q0 : Hid (w2.heap[w.heap.size]? = some (.cells (arrB 32 []) 37 (0, 0))) := R2.below hb3 R2.lt
      have HB2 := Lib.hid (HB.trans (hb3.mono HB.size))
      clear hb2 hb3 hba R2 HB HS
      generalize hcn : arrB 32 (sumL [2]) = cn at *
      have HCN := Lib.hid hcn
      clear hcn
      generalize arrB 32 [] = zs at *
      go_wp2_with (first
        | ((with_reducible refine wpList_store_row (o := ⟨none, .store 37 _ _, _, _, _, _⟩) ?_ 37 (.tmp 2) (.tmp 8) ?_ w.heap.size cn ?_ ?_ 37 zs Q0.out (info26 cn hz.out.1) (by rw [hz.out.1, hz.out.2.1]) hz.out.2.2 ?_); (rfl); (rfl); (rfl); (rfl))
        | ((with_reducible refine bodyPost_ret (v := .agg cn) ?_ ?_ ?_); (exact results_cell_row (p := 2) (ty := 37) Tryd.results42 _ _ w.heap.size 37 cn (0, 0) _ rfl (setRow_heap _ _ zs cn 37 (0, 0) Q0.out) Tryd.underlying37 rfl (info26 cn hz.out.1)); (rfl)))
      exact ⟨by unfold idv; rw [HCN.out], below_setRow HB2.out (Nat.le_refl _) _⟩
    by_cases h1 : n = 1
    · subst h1
      obtain ⟨x, rfl⟩ : ∃ x, l = [x] := by
        match l, hl with
        | [x], _ => exact ⟨x, rfl⟩
      rw [root_one] at hz
      rw [root_one]
      have hba : Below w.heap.size w (w.alloc (.cells (arrB 32 []) 37)) := (Below.refl _ _).alloc (Nat.le_refl _) _
      obtain ⟨ad, rfl, hld⟩ := (hA.up hba).load hI (i := 0) (by simp)
      rw [show ad.add (0 * 32) = ad by simp [Addr.add]] at hld
      have HLD : Hid ((loadVar 37 ad).run Tryd.prog (w.alloc (.cells (arrB 32 []) 37)) = .ok (.agg (arrB 32 x)) (w.alloc (.cells (arrB 32 []) 37))) := hld
      have R2 := Row.new w 37 (arrB 32 [])
      clear ih hI hA hid hl hld
      go_enter Tryd.func42, Tryd.ntmps42
      go_upto_region 4 with (fail)
      rw [zero_cells]
      generalize w.alloc (.cells (arrB 32 []) 37) = W at *
      have Q0 : Hid (W.heap[w.heap.size]? = some (.cells (arrB 32 []) 37 (0, 0))) := R2
      clear R2
      generalize hcn : arrB 32 x = cn at *
      have HCN := Lib.hid hcn
      clear hcn
      generalize arrB 32 [] = zs at *
      go_wp2_with (first
        | ((with_reducible refine wpList_load_run (o := ⟨some 14, _, _, _, _, _⟩) ?_ 37 (.tmp 13) ?_ ad ?_ HLD.out ?_); (rfl); (rfl); (rfl))
        | ((with_reducible refine wpList_store_row (o := ⟨none, .store 37 _ _, _, _, _, _⟩) ?_ 37 (.tmp 2) (.tmp 14) ?_ w.heap.size cn ?_ ?_ 37 zs Q0.out (info26 cn hz.out.1) (by rw [hz.out.1, hz.out.2.1]) hz.out.2.2 ?_); (rfl); (rfl); (rfl); (rfl))
        | ((with_reducible refine bodyPost_ret (v := .agg cn) ?_ ?_ ?_); (exact results_cell_row (p := 2) (ty := 37) Tryd.results42 _ _ w.heap.size 37 cn (0, 0) _ rfl (setRow_heap _ _ zs cn 37 (0, 0) Q0.out) Tryd.underlying37 rfl (info26 cn hz.out.1)); (rfl)))
      exact ⟨by unfold idv; rw [HCN.out], below_setRow hba (Nat.le_refl _) _⟩
    · have h2 : 2 ≤ n := by omega
      obtain ⟨a, b, c2, -⟩ := half_spec h2
      have hcut := root_cut (l := l) (by omega)
      rw [hl] at hcut
      rw [hcut]
      have hi1 := root_id (hI.take (halfT n))
      have hi2 := root_id (hI.drop (halfT n))
      have l1 : (l.take (halfT n)).length = halfT n := by rw [List.length_take]; omega
      have l2 : (l.drop (halfT n)).length = n - halfT n := by rw [List.length_drop]; omega
      have HH := Lib.hid (fun u => rtHalf_any n u h2 (by omega))
      have HI1 : Hid (∀ u, EnvC w [(w.heap.size, Obj.cells (arrB 32 []) 37 (0, 0))] u → Calls Tryd.prog 42 #[.slice A (halfT n) c] u fun e w' => e = .returned (idv (rootT (l.take (halfT n)))) ∧ Below u.heap.size u w') := fun u hu =>
        ih (halfT n) b (l.take (halfT n)) A c u l1 (by omega) (by omega) hcm (hI.take _) ((hA.take hI _).up (EnvX.bel hu))
      have HI2 : Hid (∀ u, EnvC w [(w.heap.size, Obj.cells (arrB 32 []) 37 (0, 0))] u → Calls Tryd.prog 42 #[.slice (cutI' A (halfT n) c) (n - halfT n) (c - halfT n)] u fun e w' => e = .returned (idv (rootT (l.drop (halfT n)))) ∧ Below u.heap.size u w') := fun u hu =>
        ih (n - halfT n) (by omega) (l.drop (halfT n)) (cutI' A (halfT n) c) (c - halfT n) u l2 (by omega) (by omega) (by omega) (hI.drop _) ((hA.drop hI _ c (by omega)).up (EnvX.bel hu))
      have HND : Hid (∀ u, Calls Tryd.prog 57 #[idv (rootT (l.take (halfT n))), idv (rootT (l.drop (halfT n)))] u fun e w' => e = .returned (idv (nodeT (rootT (l.take (halfT n))) (rootT (l.drop (halfT n))))) ∧ Below u.heap.size u w') := fun u => rnode_any _ _ u hi1.1 hi2.1 hi1.2 hi2.2
      have HLN : Hid ((nodeT (rootT (l.take (halfT n))) (rootT (l.drop (halfT n)))).length ≤ 32) := by show _ ≤ _; rw [(node_id _ _).1]; omega
      have HKC : Hid (halfT n ≤ c) := by show _ ≤ _; omega
      have HKN : Hid (halfT n ≤ n) := by show _ ≤ _; omega
      have hne0 : ¬ (n : Int) = 0 := by omega
      have hne1 : ¬ (n : Int) = 1 := by omega
      have R2 := Row.new w 37 (arrB 32 [])
      have hba : Below w.heap.size w (w.alloc (.cells (arrB 32 []) 37)) := (Below.refl _ _).alloc (Nat.le_refl _) _
      clear ih hI hA hid hl hcut hi1 hi2 l1 l2 hz
      generalize halfT n = k at *
      go_enter Tryd.func42, Tryd.ntmps42
      go_upto_region 5 with (fail)
      rw [zero_cells]
      generalize w.alloc (.cells (arrB 32 []) 37) = W at *
      have E1 : Hid (EnvX w W [(w.heap.size, Obj.cells (arrB 32 []) 37 (0, 0))]) := ⟨hba, fun g o hm => by cases List.mem_singleton.1 hm; exact R2⟩
      clear R2 hba
      go_wp2_with fail
      refine (HH.out _).mono ?_
      rintro e w2 ⟨rfl, rfl⟩
      go_wp2_with fail
      refine wp_region_H (w0 := w) [(w.heap.size, Obj.cells (arrB 32 []) 37 (0, 0))] (by kernel_rfl) E1.out ?_
      refine anyH_phase [0, 1, 2, 3, 4, 5, 6, 7, 8] 1 rfl ⟨_, (EnvX.drew E1.out)⟩ (by kernel_rfl) ?_
      have hw1 : EnvX w _ [(w.heap.size, Obj.cells (arrB 32 []) 37 (0, 0))] := (EnvX.drew E1.out)
      have hone := @EnvC.one _ _ _ hw1
      (refine wpG_op rfl rfl rfl ?_; intro K hK; go_big_quiet_op; go_big_quiet_on)
      (refine wpG_op rfl rfl rfl ?_; intro K hK; go_big_quiet_op; go_big_quiet_on)
      (refine wpG_val (v := .slice A k c) rfl rfl (fun u hu => cutIh_op u HKC.out rfl rfl) ?_ hw1; intro K hK; go_big_quiet_op; go_big_quiet_on)
      (refine wpG_call (f := 42) (args := #[.slice A k c]) (v := idv (rootT (l.take k))) rfl rfl rfl Tryd.func42 rfl rfl (fun u hu => HI1.out u hu) ?_ hw1; intro K hK; go_big_quiet_op; go_big_quiet_on)
      (refine wpG_op rfl rfl rfl ?_; intro K hK; go_big_quiet_op; go_big_quiet_on)
      (refine wpG_op rfl rfl rfl ?_; intro K hK; go_big_quiet_op; go_big_quiet_on)
      (refine wpG_val (v := (.slice (cutI' A k c) (n - k) (c - k))) rfl rfl (fun u hu => cutIl_op u HKN.out rfl rfl) ?_ hw1; intro K hK; go_big_quiet_op; go_big_quiet_on)
      (refine wpG_call (f := 42) (args := #[(.slice (cutI' A k c) (n - k) (c - k))]) (v := idv (rootT (l.drop k))) rfl rfl rfl Tryd.func42 rfl rfl (fun u hu => HI2.out u hu) ?_ hw1; intro K hK; go_big_quiet_op; go_big_quiet_on)
      (refine wpG_call (f := 57) (args := #[idv (rootT (l.take k)), idv (rootT (l.drop k))]) (v := idv (nodeT (rootT (l.take k)) (rootT (l.drop k)))) rfl rfl rfl Tryd.func57 rfl rfl (fun u hu => HND.out u) ?_ hw1; intro K hK; go_big_quiet_op; go_big_quiet_on)
      clear hone hw1
      refine wpG_nil ?_
      refine anyH_one (i := 9) (by kernel_rfl) (hOp_store rfl (w.heap.size) (arrB 32 (nodeT (rootT (l.take k)) (rootT (l.drop k)))) rfl rfl (Nat.le_refl _) 37 (arrB 32 []) (List.Mem.head _) (info26 _ (arrB_size _ _ HLN.out)) ((arrB_size _ _ (by simp)).trans (arrB_size _ _ HLN.out).symm) (arrB_one _ _) [(w.heap.size, Obj.cells (arrB 32 (nodeT (rootT (l.take k)) (rootT (l.drop k)))) 37 (0, 0))] (List.forall_mem_cons.2 ⟨.inl rfl, (fun _ h => by cases h)⟩) ?_)
      intro he2
      refine anyH_done (by kernel_rfl) ?_
      intro u4 E2'
      have EX3 := Lib.hid E2'
      clear E2'
      have hsz : Hid ((arrB 32 (nodeT (rootT (l.take k)) (rootT (l.drop k)))).size = 32) := arrB_size _ _ HLN.out
      have Q0 : Hid (u4.heap[w.heap.size]? = some (.cells (arrB 32 (nodeT (rootT (l.take k)) (rootT (l.drop k)))) 37 (0, 0))) := EnvX.box EX3.out _ _ (List.Mem.head _)
      generalize hcn : arrB 32 (nodeT (rootT (l.take k)) (rootT (l.drop k))) = cn at *
      have HCN := Lib.hid hcn
      clear hcn
      go_wp2_with ((with_reducible refine bodyPost_ret (v := .agg cn) ?_ ?_ ?_); (exact results_cell_row (p := 2) (ty := 37) Tryd.results42 _ _ w.heap.size 37 cn (0, 0) _ rfl Q0.out Tryd.underlying37 rfl (info26 cn hsz.out)); (rfl))
      exact ⟨by unfold idv; rw [HCN.out], EX3.out.bel⟩
end Go.Proofs.YtcodmedgkboohaaDoor

namespace Go.Proofs.YtcodmedgkboohaaDoor
set_option maxRecDepth 8000
open Go.RowKit

/-- a call that hands back new ids -/
theorem callsI_fresh {f : FuncId} {args : Array Value} {u : World} {l : List (List Int)} (h : Calls Tryd.prog f args u fun e w' => (∃ v, e = .returned v ∧ OwnI w' u.heap.size v l) ∧ Below u.heap.size u w') :
    Calls Tryd.prog f args u fun e w'' => ∃ x N, e = .returned x ∧ FreshI l x N ∧ Below u.heap.size u w'' ∧ ∀ y ∈ N, u.heap.size ≤ y.1 ∧ w''.heap[y.1]? = some y.2 :=
  h.mono fun e w'' ⟨⟨v, he, ho⟩, hb⟩ => by
    obtain ⟨N, hN, hm⟩ := ho.fresh
    exact ⟨v, N, he, hN, hb, fun y hy => ⟨(hm y hy).1, (hm y hy).2.1⟩⟩
end Go.Proofs.YtcodmedgkboohaaDoor

namespace Go.Proofs.YtcodmedgkboohaaDoor
set_option maxRecDepth 8000
open Go.RowKit

set_option maxRecDepth 20000 in
set_option maxHeartbeats 1000000 in
theorem rsof_any (A : Option Addr) (n c : Nat) (xss : List (List Int)) (w : World) (hl : xss.length = n) (hx : Parts w w.heap.size A xss) (hn : n ≤ 9223372036854775807) (hs : xss.flatten.length ≤ 70368744177) :
    Calls Tryd.prog 40 #[.slice A n c] w fun e w' => e = .returned (.agg (arrB 32 (sumL xss.flatten))) ∧ Below w.heap.size w w' := by
  have HL := Lib.hid hl
  have HX := Lib.hid hx
  clear hl hx
  go_enter Tryd.func40, Tryd.ntmps40
  go_wp2_with fail
  go_loopw [3, 4] (fun v i u => ∃ k : Nat, k ≤ n ∧ i = .int .i64 k ∧ Below w.heap.size w u ∧ Hid (Row u w.heap.size 37 (arrB 32 []) ∧ u.ownsRow (w.heap.size + 1) 5 1 v (xss.take k).flatten.length ((xss.take k).flatten.map u8v))) (fun _ i _ => n - (intOf i).toNat)
  case atStart => exact ⟨0, by omega, rfl, by go_grown, Row.new w 37 _, World.ownsRow_nil _ _ _ _⟩
  case round =>
    obtain ⟨k, hk, rfl, hbl, hrows⟩ := hrel
    obtain ⟨r0, hown⟩ := hrows.out
    have s0 := r0.lt
    by_cases hlt : k < n
    · have hg := List.getElem?_eq_getElem (by rw [HL.out]; exact hlt : k < xss.length)
      have hst := Lib.hid (flat_step xss k _ hg)
      obtain ⟨b, o, a, c1, rfl, hb, hc, hy, hr⟩ := HX.out k _ hg
      have hle : (xss.take k).flatten.length + (xss[k]'(by rw [HL.out]; exact hlt)).length ≤ xss.flatten.length := by
        have e := congrArg List.length hst.out
        rw [List.length_append] at e
        have h2 : (xss.take (k + 1)).flatten.length ≤ xss.flatten.length := by
          conv => rhs; rw [← List.take_append_drop (k + 1) xss, List.flatten_append, List.length_append]
          omega
        omega
      generalize xss[k]'(by rw [HL.out]; exact hlt) = ys at *
      obtain ⟨v', w', hrun, hown', hgr⟩ := append_bytes _ _ _ _ wr hown a ys.length c1 w.heap.size ys rfl (hy.below hbl) (by omega) (by omega)
      have hcell := (hbl.cell (p := ⟨b, o + k, none⟩) hb).trans hc
      have hb2 := below_of_grown (B := w.heap.size + 1) hgr (fun g hg => (hown.lt g hg).1) (by omega)
      have R0 := Lib.hid (r0.below hb2 (by omega))
      have BB := Lib.hid (hbl.trans (hb2.mono (by omega)))
      have OO := Lib.hid hown'
      clear r0 hown hrows hg hc hy hr hgr hb2 hown' hle
      have hk2 : (k : Int) < (n : Int) := by omega
      have HRUN := Lib.hid hrun
      clear hrun
      go_wp2_with (at_builtin; (with_reducible refine wpList_append_run (o := ⟨some 16, _, _, _, _, _⟩) ?_ (.tmp 11) (.tmp 15) ?_ ?_ ?_ ?_ HRUN.out ?_); (rfl); (rfl); (rfl); (rfl); (rfl))
      go_roundw
      case rel =>
        refine ⟨k + 1, by omega, by go_num, BB.out, R0.out, ?_⟩
        rw [hst.out, List.length_append, List.map_append]
        exact OO.out
      case measure => simp [intOf]; omega
    · obtain rfl : k = n := by omega
      have hT : xss.take k = xss := List.take_of_length_le (by rw [HL.out]; exact Nat.le_refl _)
      rw [hT] at hown
      obtain ⟨A1, c1, rfl⟩ := own_form hown
      have hr : ∀ x ∈ xss.flatten, 0 ≤ x ∧ x ≤ 255 := by
        intro x hx
        obtain ⟨l, hl, hxl⟩ := List.mem_flatten.1 hx
        obtain ⟨j, hj, rfl⟩ := List.getElem_of_mem hl
        obtain ⟨_, _, _, _, _, _, _, _, hr⟩ := HX.out j _ (List.getElem?_eq_getElem hj)
        exact hr x hxl
      have hby := own_bytes hown
      have R0 := Lib.hid r0
      clear hown r0 hrows hT
      have HRR := Lib.hid hr
      have HBY := Lib.hid hby
      clear hr hby
      generalize hFL : xss.flatten = fl at *
      have HFL := Lib.hid hFL
      clear hFL
      obtain ⟨q, hq⟩ : ∃ q, fl.length = q := ⟨_, rfl⟩
      rw [hq]
      have HQ := Lib.hid hq
      have hs2 : q ≤ 70368744177 := by omega
      clear hq
      go_wp2_with fail
      refine (rsum_any A1 q c1 fl wr HQ.out hs2 HBY.out HRR.out).mono ?_
      rintro e w3 ⟨rfl, hb3⟩
      have hsz : Hid ((arrB 32 (sumL fl)).size = 32 ∧ (arrB 32 []).size = (arrB 32 (sumL fl)).size ∧ (arrB 32 (sumL fl)).all (·.oneCell') = true) :=
        Lib.hid ⟨arrB_size _ _ (by rw [sumL_len]; omega), by rw [arrB_size 32 (sumL fl) (by rw [sumL_len]; omega), arrB_size 32 [] (by simp)], arrB_one _ _⟩
      have Q0 : Hid (w3.heap[w.heap.size]? = some (.cells (arrB 32 []) 37 (0, 0))) := R0.out.below hb3 R0.out.lt
      have bl3 : Below w.heap.size w w3 := hbl.trans (hb3.mono hbl.size)
      clear hb3 R0
      generalize hE : arrB 32 (sumL fl) = cs at *
      have HE := Lib.hid hE
      clear hE
      generalize arrB 32 [] = zs at *
      go_wp2_with (first
        | ((with_reducible refine wpList_store_row (o := ⟨none, .store 37 _ _, _, _, _, _⟩) ?_ 37 (.tmp 2) (.tmp 18) ?_ w.heap.size cs ?_ ?_ 37 zs Q0.out (info26 cs hsz.out.1) hsz.out.2.1 hsz.out.2.2 ?_); (rfl); (rfl); (rfl); (rfl))
        | ((with_reducible refine bodyPost_ret (v := .agg cs) ?_ ?_ ?_); (exact results_cell_row (p := 2) (ty := 37) Tryd.results40 _ _ w.heap.size 37 cs (0, 0) _ rfl (setRow_heap _ _ zs cs 37 (0, 0) Q0.out) Tryd.underlying37 rfl (info26 cs hsz.out.1)); (rfl)))
      exact ⟨by rw [HFL.out, HE.out], below_setRow bl3 (Nat.le_refl _) _⟩
end Go.Proofs.YtcodmedgkboohaaDoor

namespace Go.Proofs.YtcodmedgkboohaaDoor
set_option maxRecDepth 8000
open Go.RowKit

/-- a small number is not wrapped round -/
theorem wrapS {x : Int} (h : -9223372036854775808 ≤ x ∧ x ≤ 9223372036854775807) : IntKind.i64.wrap x = x := by rw [IntKind.wrap_i64]; omega
section
variable {a : Act} {dst : Option Tmp} {x y : Operand} {ty : TypeId} {pos : String} {after : Array Edge} {gd : Option (Nat × Bool)}
theorem neZ_op {m k : Int} {b : Bool} (u : World) (hb : decide (m ≠ k) = b) (hx : a.eval x = .int .i64 m) (hy : a.eval y = .int .i64 k) :
    (execOp a.eval ⟨dst, .binOp .neq 3 x y 3, ty, pos, after, gd⟩).run Tryd.prog u = .ok (.value (.bool b)) u := by
  have e : (m != k) = b := by rw [← hb]; by_cases h : m = k <;> simp [h]
  subst e
  unfold execOp
  simp only [hx, hy]
  go_simp
theorem addZ_op {m k r : Int} (u : World) (hr : IntKind.i64.wrap (m + k) = r) (hx : a.eval x = .int .i64 m) (hy : a.eval y = .int .i64 k) :
    (execOp a.eval ⟨dst, .binOp .add 3 x y 3, ty, pos, after, gd⟩).run Tryd.prog u = .ok (.value (.int .i64 r)) u := by
  subst hr
  unfold execOp
  simp only [hx, hy]
  go_simp
theorem mulZ_op {m k r : Int} (u : World) (hr : IntKind.i64.wrap (m * k) = r) (hx : a.eval x = .int .i64 m) (hy : a.eval y = .int .i64 k) :
    (execOp a.eval ⟨dst, .binOp .mul 3 x y 3, ty, pos, after, gd⟩).run Tryd.prog u = .ok (.value (.int .i64 r)) u := by
  subst hr
  unfold execOp
  simp only [hx, hy]
  go_simp
theorem subZ_op {m k r : Int} (u : World) (hr : IntKind.i64.wrap (m - k) = r) (hx : a.eval x = .int .i64 m) (hy : a.eval y = .int .i64 k) :
    (execOp a.eval ⟨dst, .binOp .sub 3 x y 3, ty, pos, after, gd⟩).run Tryd.prog u = .ok (.value (.int .i64 r)) u := by
  subst hr
  unfold execOp
  simp only [hx, hy]
  go_simp
end
end Go.Proofs.YtcodmedgkboohaaDoor

namespace Go.Proofs.YtcodmedgkboohaaDoor
set_option maxRecDepth 8000
open Go.RowKit

section
variable {w0 u : World} {M : Boxes} {g : Nat} {ty : TypeId} {x : InR} {o : OutR}
end
section
variable {a : Act} {dst : Option Tmp} {x y : Operand} {ty : TypeId} {pos : String} {after : Array Edge} {gd : Option (Nat × Bool)}
end
section
variable {w0 u : World} {M : Boxes} {g : Nat} {ty : TypeId} {t : TxM}
end
section
variable {dst : Option Tmp} {ty : TypeId} {pos : String} {after : Array Edge} {gd : Option (Nat × Bool)}
end
theorem built_txins (A : Option Addr) (n c : Nat) : Tryd.prog.built 25 [(0, .slice A n c)] = some #[.slice A n c, .slice none 0 0] := by kernel_rfl
end Go.Proofs.YtcodmedgkboohaaDoor
