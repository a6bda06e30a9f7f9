/- The plain functions over integers that the program's SHA-256 computes. -/
import Derived.WalkKit

namespace Go.Proofs.YtlccldnjgaldoaaDoor
open Go

def rotI (x n : Int) : Int := bits BinOp.or IntKind.u32 (x / 2 ^ n.toNat) (x * 2 ^ (32 - n).toNat % 4294967296)
def xorI (a b : Int) : Int := bits BinOp.xor IntKind.u32 a b
def andI (a b : Int) : Int := bits BinOp.and IntKind.u32 a b
def sig1 (e : Int) : Int := bits BinOp.xor IntKind.u32 (bits BinOp.xor IntKind.u32 (rotI e 6) (rotI e 11)) (rotI e 25)
def sig0 (a : Int) : Int := bits BinOp.xor IntKind.u32 (bits BinOp.xor IntKind.u32 (rotI a 2) (rotI a 13)) (rotI a 22)
def chI (e f g : Int) : Int := bits BinOp.xor IntKind.u32 (bits BinOp.and IntKind.u32 e f) (bits BinOp.and IntKind.u32 (bits BinOp.xor IntKind.u32 IntKind.u32.max e) g)
def majI (a b c : Int) : Int := bits BinOp.xor IntKind.u32 (bits BinOp.xor IntKind.u32 (bits BinOp.and IntKind.u32 a b) (bits BinOp.and IntKind.u32 a c)) (bits BinOp.and IntKind.u32 b c)

structure S8 where
  a : Int
  b : Int
  c : Int
  d : Int
  e : Int
  f : Int
  g : Int
  h : Int

def S8.step (s : S8) (k x : Int) : S8 :=
  { a := (s.h + sig1 s.e + chI s.e s.f s.g + k + x + (sig0 s.a + majI s.a s.b s.c)) % 4294967296
    b := s.a, c := s.b, d := s.c
    e := (s.d + (s.h + sig1 s.e + chI s.e s.f s.g + k + x)) % 4294967296
    f := s.e, g := s.f, h := s.g }
def S8.cells (s : S8) : Array Value := #[.int .u32 s.a, .int .u32 s.b, .int .u32 s.c, .int .u32 s.d, .int .u32 s.e, .int .u32 s.f, .int .u32 s.g, .int .u32 s.h]
def S8.add (s t : S8) : S8 :=
  { a := (s.a + t.a) % 4294967296, b := (s.b + t.b) % 4294967296, c := (s.c + t.c) % 4294967296, d := (s.d + t.d) % 4294967296
    e := (s.e + t.e) % 4294967296, f := (s.f + t.f) % 4294967296, g := (s.g + t.g) % 4294967296, h := (s.h + t.h) % 4294967296 }
def wordI (x0 x1 x2 x3 : Int) : Int := bits BinOp.or IntKind.u32 (bits BinOp.or IntKind.u32 (bits BinOp.or IntKind.u32 (x0 * 16777216) (x1 * 65536)) (x2 * 256)) x3
/-- the eight bytes of the length, n the number of bytes -/
def lenL (n : Int) : List Int := [8 * n / 256 / 256 / 256 / 256 / 256 / 256 / 256, 8 * n / 256 / 256 / 256 / 256 / 256 / 256, 8 * n / 256 / 256 / 256 / 256 / 256 % 256, 8 * n / 256 / 256 / 256 / 256 % 256, 8 * n / 256 / 256 / 256 % 256, 8 * n / 256 / 256 % 256, 8 * n / 256 % 256, 8 * n % 256]
def u8v (n : Int) : Value := .int .u8 n
/-- the k-th word of bytes -/
def wordAt (xs : List Int) (k : Nat) : Int := wordI (xs.getD (4 * k) 0) (xs.getD (4 * k + 1) 0) (xs.getD (4 * k + 2) 0) (xs.getD (4 * k + 3) 0)
def smallS (x : Int) : Int := bits BinOp.xor IntKind.u32 (bits BinOp.xor IntKind.u32 (rotI x 7) (rotI x 18)) (x / 8)
def smallT (x : Int) : Int := bits BinOp.xor IntKind.u32 (bits BinOp.xor IntKind.u32 (rotI x 17) (rotI x 19)) (x / 1024)
def nextW (l : List Int) (j : Nat) : Int := (l.getD j 0 + l.getD (j + 9) 0 + smallS (l.getD (j + 1) 0) + smallT (l.getD (j + 14) 0)) % 4294967296
/-- the first words -/
def firstL (xs : List Int) : Nat → List Int
  | 0 => []
  | k + 1 => firstL xs k ++ [wordAt xs k]
/-- the words behind the first sixteen -/
def moreL (xs : List Int) : Nat → List Int
  | 0 => firstL xs 16
  | j + 1 => moreL xs j ++ [nextW (moreL xs j) j]
theorem firstL_len (xs : List Int) (k : Nat) : (firstL xs k).length = k := by
  induction k with
  | zero => rfl
  | succ k ih => simp [firstL, ih]
theorem moreL_len (xs : List Int) (k : Nat) : (moreL xs k).length = 16 + k := by
  induction k with
  | zero => simp [moreL, firstL_len]
  | succ k ih => simp [moreL, ih]; omega
/-- the numbers of the rounds -/
def roundNs : List Int := [1116352408, 1899447441, 3049323471, 3921009573, 961987163, 1508970993, 2453635748, 2870763221, 3624381080, 310598401, 607225278, 1426881987, 1925078388, 2162078206, 2614888103, 3248222580, 3835390401, 4022224774, 264347078, 604807628, 770255983, 1249150122, 1555081692, 1996064986, 2554220882, 2821834349, 2952996808, 3210313671, 3336571891, 3584528711, 113926993, 338241895, 666307205, 773529912, 1294757372, 1396182291, 1695183700, 1986661051, 2177026350, 2456956037, 2730485921, 2820302411, 3259730800, 3345764771, 3516065817, 3600352804, 4094571909, 275423344, 430227734, 506948616, 659060556, 883997877, 958139571, 1322822218, 1537002063, 1747873779, 1955562222, 2024104815, 2227730452, 2361852424, 2428436474, 2756734187, 3204031479, 3329325298]
/-- the eight words behind k rounds -/
def runL (s : S8) (ws : List Int) : Nat → S8
  | 0 => s
  | k + 1 => (runL s ws k).step (roundNs.getD k 0) (ws.getD k 0)
def mixS (s : S8) (xs : List Int) : S8 := s.add (runL s (moreL xs 48) 64)
end Go.Proofs.YtlccldnjgaldoaaDoor
