package target

import (
	"math"
	"math/big"
	"slices"
	"testing"

	"stepladder/api"
	"stepladder/wide"
)

const full = math.MaxUint64

var (
	zero = api.Wide{}
	all  = api.Wide{full, full, full, full}      // 2^256 less 1
	half = api.Wide{0, 0, 0, 1 << 63}            // 2^255
	easy = api.Wide{0, 0, 0, 0x7fffff0000000000} // 2^255 less 2^232
	mix  = api.Wide{0x0102030405060708, 0x1112131415161718, 0x2122232425262728, 0x3132333435363738}
)

// edgeM are the least and the most that M may be, what is just outside, and others in between and far off.
var edgeM = []uint32{
	0, 1, 0x7ffe, 0x7fff, 0x8000, 0x8001, 0xfffe, 0xffff, 0x10000, 0x10001, 0x123456, 0x3fffff, 0x400000,
	0x7ffffe, 0x7fffff, 0x800000, 0x800001, 0xc00000, 0xfffffe, 0xffffff,
}

func bigOf(w api.Wide) *big.Int {
	b := wide.Bytes(w)
	return new(big.Int).SetBytes(b[:])
}

func wideOf(n *big.Int) api.Wide {
	var b api.Id
	n.FillBytes(b[:])
	return wide.Of32(b)
}

func power(n int) *big.Int {
	return new(big.Int).Lsh(big.NewInt(1), uint(n))
}

// isCompact and standsFor are the chapter's words on compact numbers.
func isCompact(bits uint32) bool {
	e, m := bits>>24, bits&0xffffff
	return 3 <= e && e <= 32 && 1<<15 <= m && m <= 1<<23-1
}

func standsFor(bits uint32) *big.Int {
	e, m := int(bits>>24), int64(bits&0xffffff)
	return new(big.Int).Mul(big.NewInt(m), power(8*(e-3)))
}

// bestCompact asks each E on its own for the most that it can stand for, and takes the greatest of these.
func bestCompact(t *big.Int) uint32 {
	best, most := uint32(0), big.NewInt(-1)
	for e := 3; e <= 32; e++ {
		m := new(big.Int).Div(t, power(8*(e-3)))
		if m.Cmp(big.NewInt(1<<23-1)) > 0 {
			m.SetInt64(1<<23 - 1)
		}
		if m.Cmp(big.NewInt(1<<15)) < 0 {
			continue
		}
		bits := uint32(e)<<24 | uint32(m.Int64())
		if n := standsFor(bits); n.Cmp(most) > 0 {
			best, most = bits, n
		}
	}
	return best
}

// random goes through numbers that are always the same ones.
func random(x *uint64) uint64 {
	*x ^= *x << 13
	*x ^= *x >> 7
	*x ^= *x << 17
	return *x
}

// numbers are the edges of targets, each power of 2 with its neighbours, what compact numbers stand for with its
// neighbours, and others of all lengths.
func numbers() []api.Wide {
	l := []api.Wide{zero, all, {full - 1, full, full, full}, easy, half, mix, {3}, {7}, {100}}
	add := func(n *big.Int) {
		for _, d := range []int64{-1, 0, 1} {
			l = append(l, wideOf(new(big.Int).Add(n, big.NewInt(d))))
		}
	}
	for i := range 256 {
		add(power(i))
	}
	for e := uint32(3); e <= 32; e++ {
		for _, m := range edgeM {
			if isCompact(e<<24 | m) {
				add(standsFor(e<<24 | m))
			}
		}
	}
	x := uint64(88172645463325252)
	for i := range 256 {
		w := api.Wide{random(&x), random(&x), random(&x), random(&x)}
		l = append(l, wide.Down(w, i))
	}
	return l
}

// compacts are compact numbers of each E.
func compacts() []uint32 {
	var l []uint32
	x := uint64(362436069)
	for e := uint32(3); e <= 32; e++ {
		for _, m := range edgeM {
			if isCompact(e<<24 | m) {
				l = append(l, e<<24|m)
			}
		}
		for range 200 {
			m := 1<<15 + uint32(random(&x)%(1<<23-1<<15))
			l = append(l, e<<24|m)
		}
	}
	return l
}

// The chapter's example

func TestEasy(t *testing.T) {
	want := wideOf(new(big.Int).Sub(power(255), power(232)))
	if want != easy {
		t.Fatal(want)
	}
	if w, is := Target(545259519); w != want || !is {
		t.Error(w, is)
	}
	if b := Compact(want); b != api.Easy {
		t.Errorf("%x", b)
	}
	if w := Work(want); w != wide.Of(2) {
		t.Error(w)
	}
}

// P3.1

func TestTargetOfKnownNumbers(t *testing.T) {
	for _, x := range []struct {
		bits uint32
		w    api.Wide
		is   bool
	}{
		{0x03008000, api.Wide{0x8000}, true},
		{0x03007fff, zero, false},
		{0x037fffff, api.Wide{0x7fffff}, true},
		{0x03800000, zero, false},
		{0x04008000, api.Wide{0x800000}, true},
		{0x047fffff, api.Wide{0x7fffff00}, true},
		{0x0a123456, api.Wide{0x56 << 56, 0x1234}, true},
		{0x0b010000, api.Wide{0, 0x10000}, true},
		{0x1d00ffff, api.Wide{0, 0, 0, 0xffff0000}, true},
		{0x20008000, api.Wide{0, 0, 0, 0x80 << 48}, true},
		{0x207fffff, easy, true},
		{0x20007fff, zero, false},
		{0x20800000, zero, false},
		{0x02008000, zero, false},
		{0x027fffff, zero, false},
		{0x21008000, zero, false},
		{0x217fffff, zero, false},
		{0, zero, false},
		{0x00008000, zero, false},
		{0x00ffffff, zero, false},
		{0xff008000, zero, false},
		{0x83008000, zero, false},
		{math.MaxUint32, zero, false},
	} {
		if w, is := Target(x.bits); w != x.w || is != x.is {
			t.Errorf("%#x: %v, %v", x.bits, w, is)
		}
	}
}

func TestTargetOfEachE(t *testing.T) {
	for e := range uint32(256) {
		for _, m := range edgeM {
			bits := e<<24 | m
			want := zero
			if isCompact(bits) {
				want = wideOf(standsFor(bits))
			}
			if w, is := Target(bits); w != want || is != isCompact(bits) {
				t.Errorf("%#x: %v, %v", bits, w, is)
			}
		}
	}
}

func TestTargetIsBelowHalf(t *testing.T) {
	for _, bits := range compacts() {
		if w, is := Target(bits); !is || wide.Cmp(w, half) >= 0 || wide.Cmp(w, wide.Of(1<<15)) < 0 {
			t.Errorf("%#x: %v, %v", bits, w, is)
		}
	}
}

func TestCompactOfKnownNumbers(t *testing.T) {
	for _, x := range []struct {
		w    api.Wide
		bits uint32
	}{
		{zero, 0},
		{api.Wide{1}, 0},
		{api.Wide{0x7fff}, 0},
		{api.Wide{0x8000}, 0x03008000},
		{api.Wide{0x8001}, 0x03008001},
		{api.Wide{0x7ffffe}, 0x037ffffe},
		{api.Wide{0x7fffff}, 0x037fffff},
		{api.Wide{0x800000}, 0x04008000},
		{api.Wide{0x8000ff}, 0x04008000},
		{api.Wide{0x800100}, 0x04008001},
		{api.Wide{0x800101}, 0x04008001},
		{api.Wide{0x7fffff00}, 0x047fffff},
		{api.Wide{0x7fffffff}, 0x047fffff},
		{api.Wide{0x80000000}, 0x05008000},
		{api.Wide{0x123456789}, 0x05012345},
		{api.Wide{full, 0xffff}, 0x0b00ffff},
		{api.Wide{0, 0x10000}, 0x0b010000},
		{api.Wide{0, 0, 0, 0xffff0000}, 0x1d00ffff},
		{mix, 0x20313233},
		{api.Wide{full, full, full, 0x80<<48 - 1}, 0x1f7fffff},
		{api.Wide{0, 0, 0, 0x80 << 48}, 0x20008000},
		{api.Wide{full, full, full, 0x7ffffeffffffffff}, 0x207ffffe},
		{easy, 0x207fffff},
		{api.Wide{1, 0, 0, 0x7fffff0000000000}, 0x207fffff},
		{api.Wide{full, full, full, 1<<63 - 1}, 0x207fffff},
		{half, 0x207fffff},
		{api.Wide{1, 0, 0, 1 << 63}, 0x207fffff},
		{all, 0x207fffff},
	} {
		if b := Compact(x.w); b != x.bits {
			t.Errorf("%v: %#x", x.w, b)
		}
	}
}

func TestCompactIsTheGreatestThatIsNoGreater(t *testing.T) {
	for _, w := range numbers() {
		if b := Compact(w); b != bestCompact(bigOf(w)) {
			t.Errorf("%v: %#x", w, b)
		}
	}
}

func TestCompactOfAllSmallNumbers(t *testing.T) {
	for n := range uint64(1 << 17) {
		want := uint32(0)
		if n >= 1<<15 {
			want = 3<<24 | uint32(n)
		}
		if b := Compact(wide.Of(n)); b != want {
			t.Fatalf("%d: %#x", n, b)
		}
	}
}

// P3.2

func TestWorkOfKnownTargets(t *testing.T) {
	third := api.Wide{0x5555555555555555, 0x5555555555555555, 0x5555555555555555, 0x5555555555555555}
	for _, x := range []struct{ t, w api.Wide }{
		{zero, zero}, // 2^256 is no Wide
		{api.Wide{1}, half},
		{api.Wide{2}, third},
		{api.Wide{3}, api.Wide{0, 0, 0, 1 << 62}},
		{third, api.Wide{2}},
		{api.Wide{0x5555555555555554, 0x5555555555555555, 0x5555555555555555, 0x5555555555555555}, api.Wide{3}},
		{api.Wide{full}, api.Wide{0, 0, 0, 1}},
		{api.Wide{0, 1}, api.Wide{full, 0, full}}, // 2^192 less 2^128, and 2^64 less 1
		{api.Wide{full, full}, api.Wide{0, 0, 1}},
		{api.Wide{full, full, full}, api.Wide{0, 1}},
		{api.Wide{0, 0, 0, 1}, api.Wide{full}},
		{api.Wide{full, full, full, 1<<63 - 1}, api.Wide{2}},
		{half, api.Wide{1}},
		{api.Wide{1, 0, 0, 1 << 63}, api.Wide{1}},
		{api.Wide{full - 1, full, full, full}, api.Wide{1}},
		{all, api.Wide{1}},
	} {
		if w := Work(x.t); w != x.w {
			t.Errorf("%v: %v", x.t, w)
		}
	}
}

func TestWorkIsHowOftenItGoesIn(t *testing.T) {
	for _, n := range numbers() {
		if n == zero {
			continue
		}
		next := new(big.Int).Add(bigOf(n), big.NewInt(1))
		want := wideOf(new(big.Int).Div(power(256), next))
		if w := Work(n); w != want {
			t.Errorf("%v: %v", n, w)
		}
	}
}

// P3.3

func TestLevelOfKnownIds(t *testing.T) {
	ones := wide.Bytes(all)
	for _, x := range []struct {
		id   api.Id
		t    api.Wide
		want int
	}{
		{api.Id{}, zero, 31},
		{api.Id{31: 1}, zero, -1},
		{api.Id{1}, zero, -1},
		{ones, zero, -1},
		{api.Id{}, api.Wide{1}, 31},
		{api.Id{31: 1}, api.Wide{1}, 0},
		{api.Id{31: 2}, api.Wide{1}, -1},
		{api.Id{31: 1}, api.Wide{2}, 1},
		{api.Id{31: 1}, api.Wide{3}, 1},
		{api.Id{31: 2}, api.Wide{3}, 0},
		{api.Id{31: 1}, api.Wide{1 << 30}, 30},
		{api.Id{31: 1}, api.Wide{1 << 31}, 31},
		{api.Id{31: 1}, api.Wide{1 << 32}, 31},
		{api.Id{31: 1}, half, 31},
		{api.Id{}, half, 31},
		{api.Id{128}, half, 0},
		{api.Id{0: 128, 31: 1}, half, -1},
		{api.Id{64}, half, 1},
		{api.Id{0: 64, 31: 1}, half, 0},
		{ones, half, -1},
		{api.Id{}, all, 31},
		{ones, all, 0},
		{api.Id{128}, all, 0},
		{api.Id{127}, all, 1},
		{api.Id{3: 2}, all, 30},
		{api.Id{3: 1}, all, 31},
		{api.Id{}, easy, 31},
		{wide.Bytes(easy), easy, 0},
		{ones, easy, -1},
	} {
		if n := Level(x.id, x.t); n != x.want {
			t.Errorf("%v under %v: %d", x.id, x.t, n)
		}
	}
}

func TestLevelAtEachBound(t *testing.T) {
	one := wide.Of(1)
	for _, to := range []api.Wide{all, half, easy, mix, {0, 1}, {1 << 31}} {
		for n := range api.MaxLevel + 1 {
			bound := wide.Down(to, n)
			if got := Level(wide.Bytes(bound), to); got != n {
				t.Errorf("at the bound of %d under %v: %d", n, to, got)
			}
			above, fits := wide.Add(bound, one)
			if got := Level(wide.Bytes(above), to); fits && got != n-1 {
				t.Errorf("above the bound of %d under %v: %d", n, to, got)
			}
			below, _ := wide.Sub(bound, one)
			if got := Level(wide.Bytes(below), to); got < n {
				t.Errorf("below the bound of %d under %v: %d", n, to, got)
			}
		}
		if got := Level(wide.Bytes(wide.Down(to, 32)), to); got != 31 {
			t.Errorf("beyond the last level under %v: %d", to, got)
		}
	}
}

// levelByWords tries the levels from the last one on, as the promise says it.
func levelByWords(id, t *big.Int) int {
	for n := 31; n >= 0; n-- {
		if id.Cmp(new(big.Int).Rsh(t, uint(n))) <= 0 {
			return n
		}
	}
	return -1
}

func TestLevelIsTheGreatestThatHolds(t *testing.T) {
	l := numbers()
	for i, to := range l {
		for j := i % 37; j < len(l); j += 37 {
			if got := Level(wide.Bytes(l[j]), to); got != levelByWords(bigOf(l[j]), bigOf(to)) {
				t.Errorf("%v under %v: %d", l[j], to, got)
			}
		}
	}
}

// P3.4

func TestEachCompactNumberComesBack(t *testing.T) {
	for _, bits := range compacts() {
		w, is := Target(bits)
		if !is || Compact(w) != bits {
			t.Errorf("%#x: %v, %v, %#x", bits, w, is, Compact(w))
		}
	}
}

func TestAGreaterTargetTakesNoMoreWork(t *testing.T) {
	l := numbers()
	slices.SortFunc(l, wide.Cmp)
	for i := 1; i < len(l); i++ {
		if l[i-1] == zero {
			continue
		}
		if wide.Cmp(Work(l[i-1]), Work(l[i])) < 0 {
			t.Errorf("%v takes less than %v", l[i-1], l[i])
		}
	}
}
