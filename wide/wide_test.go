package wide

import (
	"math"
	"math/big"
	"testing"

	"stepladder/api"
)

const full = math.MaxUint64

var (
	zero = api.Wide{}
	all  = api.Wide{full, full, full, full}
	half = api.Wide{0, 0, 0, 1 << 63} // 2^255
)

// numbers are the edges of the parts, of the whole, and others whose parts all differ.
func numbers() []api.Wide {
	l := []api.Wide{
		zero, {1}, {2}, {3}, {7}, {10}, {100}, {1<<32 - 1}, {1 << 32}, {1 << 63}, {full - 1}, {full},
		{0, 1}, {1, 1}, {full, 1}, {0, 1 << 63}, {0, full}, {full, full},
		{0, 0, 1}, {1, 0, 1}, {0, full, 1}, {full, full, full},
		{0, 0, 0, 1}, {full, 0, 0, 1}, {0, 0, full, 1}, {full, full, full, 1<<63 - 1},
		half, {1, 0, 0, 1 << 63}, {full, 0, 0, 1 << 63}, {0, 0, 0, full}, {full - 1, full, full, full}, all,
		{0x0102030405060708, 0x1112131415161718, 0x2122232425262728, 0x3132333435363738},
		{0xf1f2f3f4f5f6f7f8, 0xe1e2e3e4e5e6e7e8, 0xd1d2d3d4d5d6d7d8, 0xc1c2c3c4c5c6c7c8},
	}
	x := uint64(88172645463325252)
	for i := range 40 {
		var w api.Wide
		for j := range 1 + i%4 { // numbers of one to four parts
			x ^= x << 13
			x ^= x >> 7
			x ^= x << 17
			w[j] = x
		}
		l = append(l, w)
	}
	return l
}

var moves = []int{
	math.MinInt, -256, -65, -64, -63, -1, 0, 1, 2, 31, 32, 62, 63, 64, 65, 127, 128, 129, 191, 192, 193,
	254, 255, 256, 257, 319, 320, 321, 512, 1 << 16, 1 << 30, math.MaxInt32, math.MaxInt - 1, math.MaxInt,
}

func bigOf(w api.Wide) *big.Int {
	n := new(big.Int)
	for i := len(w) - 1; i >= 0; i-- {
		n.Lsh(n, 64)
		n.Or(n, new(big.Int).SetUint64(w[i]))
	}
	return n
}

// wideOf is what is left of a number by 2^256, from 0 on.
func wideOf(n *big.Int) api.Wide {
	n = new(big.Int).Mod(n, new(big.Int).Lsh(big.NewInt(1), 256))
	var w api.Wide
	for i := range w {
		w[i] = new(big.Int).Rsh(n, uint(64*i)).Uint64() // the lowest 64 bits
	}
	return w
}

// P2.1

func TestOfIsTheFirstPart(t *testing.T) {
	for _, n := range []uint64{0, 1, 255, 256, 1 << 32, 1 << 63, full - 1, full} {
		if w := Of(n); w != (api.Wide{n, 0, 0, 0}) {
			t.Errorf("%d: %v", n, w)
		}
	}
}

func TestBytesOfKnownNumbers(t *testing.T) {
	for _, x := range []struct {
		w api.Wide
		b api.Id
	}{
		{zero, api.Id{}},
		{api.Wide{1}, api.Id{31: 1}},
		{api.Wide{full}, api.Id{24: 255, 25: 255, 26: 255, 27: 255, 28: 255, 29: 255, 30: 255, 31: 255}},
		{api.Wide{0, 1}, api.Id{23: 1}},
		{api.Wide{0, 0, 1}, api.Id{15: 1}},
		{api.Wide{0, 0, 0, 1}, api.Id{7: 1}},
		{half, api.Id{128}},
		{
			api.Wide{0x191a1b1c1d1e1f20, 0x1112131415161718, 0x090a0b0c0d0e0f10, 0x0102030405060708},
			api.Id{1, 2, 3, 4, 5, 6, 7, 8, 9, 10, 11, 12, 13, 14, 15, 16, 17, 18, 19, 20, 21, 22, 23, 24, 25, 26, 27, 28, 29, 30, 31, 32},
		},
	} {
		if b := Bytes(x.w); b != x.b {
			t.Errorf("the bytes of %v: %v", x.w, b)
		}
		if w := Of32(x.b); w != x.w {
			t.Errorf("the number of %v: %v", x.b, w)
		}
	}
}

func TestEachByteHasItsPlace(t *testing.T) {
	for i := range 32 {
		for _, v := range []byte{1, 127, 128, 255} {
			var b api.Id
			b[i] = v
			want := wideOf(new(big.Int).SetBytes(b[:]))
			if w := Of32(b); w != want {
				t.Errorf("byte %d is %d: %v", i, v, w)
			}
			if back := Bytes(want); back != b {
				t.Errorf("byte %d is %d: back %v", i, v, back)
			}
		}
	}
}

func TestBytesAndOf32LeadBack(t *testing.T) {
	for _, w := range numbers() {
		b := Bytes(w)
		if new(big.Int).SetBytes(b[:]).Cmp(bigOf(w)) != 0 {
			t.Errorf("the bytes of %v: %v", w, b)
		}
		if Of32(b) != w {
			t.Errorf("%v comes back as %v", w, Of32(b))
		}
	}
}

func TestCmpOfKnownNumbers(t *testing.T) {
	for _, x := range []struct {
		a, b api.Wide
		want int
	}{
		{zero, zero, 0}, {zero, api.Wide{1}, -1}, {api.Wide{1}, zero, 1},
		{api.Wide{full}, api.Wide{0, 1}, -1}, {api.Wide{0, 1}, api.Wide{full}, 1},
		{half, api.Wide{full, full, full, 1<<63 - 1}, 1}, // no part has a sign
		{all, all, 0}, {all, zero, 1}, {zero, all, -1}, {half, half, 0}, {half, all, -1},
	} {
		if got := Cmp(x.a, x.b); got != x.want {
			t.Errorf("%v and %v: %d", x.a, x.b, got)
		}
	}
}

func TestCmpGoesByTheHighestPartThatDiffers(t *testing.T) {
	for i := range 4 {
		low, high := api.Wide{5, 6, 7, 8}, api.Wide{5, 6, 7, 8}
		low[i], high[i] = 1<<63-1, 1<<63
		for j := range i {
			low[j], high[j] = full, 0 // the parts below must not count
		}
		if Cmp(low, high) != -1 || Cmp(high, low) != 1 || Cmp(low, low) != 0 {
			t.Errorf("part %d", i)
		}
	}
}

func TestCmpOfAllPairs(t *testing.T) {
	for _, a := range numbers() {
		for _, b := range numbers() {
			if got := Cmp(a, b); got != bigOf(a).Cmp(bigOf(b)) {
				t.Errorf("%v and %v: %d", a, b, got)
			}
		}
	}
}

// P2.2

func TestAddOfKnownNumbers(t *testing.T) {
	for _, x := range []struct {
		a, b, want api.Wide
		fits       bool
	}{
		{half, half, zero, false}, // the chapter's example
		{zero, zero, zero, true},
		{zero, all, all, true},
		{api.Wide{full}, api.Wide{1}, api.Wide{0, 1}, true},
		{api.Wide{full, full, full}, api.Wide{1}, api.Wide{0, 0, 0, 1}, true},
		{all, api.Wide{1}, zero, false},
		{all, all, api.Wide{full - 1, full, full, full}, false},
		{half, api.Wide{full, full, full, 1<<63 - 1}, all, true},
		{api.Wide{full, full}, api.Wide{full, full}, api.Wide{full - 1, full, 1}, true},
	} {
		if s, fits := Add(x.a, x.b); s != x.want || fits != x.fits {
			t.Errorf("%v and %v: %v, %v", x.a, x.b, s, fits)
		}
		if s, fits := Add(x.b, x.a); s != x.want || fits != x.fits {
			t.Errorf("%v and %v: %v, %v", x.b, x.a, s, fits)
		}
	}
}

func TestAddOfAllPairs(t *testing.T) {
	for _, a := range numbers() {
		for _, b := range numbers() {
			want := new(big.Int).Add(bigOf(a), bigOf(b))
			if s, fits := Add(a, b); s != wideOf(want) || fits != (want.BitLen() <= 256) {
				t.Errorf("%v and %v: %v, %v", a, b, s, fits)
			}
		}
	}
}

func TestSubOfKnownNumbers(t *testing.T) {
	for _, x := range []struct {
		a, b, want api.Wide
		fits       bool
	}{
		{zero, zero, zero, true},
		{all, all, zero, true},
		{all, zero, all, true},
		{zero, api.Wide{1}, all, false},
		{zero, all, api.Wide{1}, false},
		{zero, half, half, false},
		{api.Wide{0, 1}, api.Wide{1}, api.Wide{full}, true},
		{api.Wide{0, 0, 0, 1}, api.Wide{1}, api.Wide{full, full, full}, true},
		{api.Wide{0, 0, 0, 1}, api.Wide{1, 0, 0, 1}, all, false},
		{half, api.Wide{1}, api.Wide{full, full, full, 1<<63 - 1}, true},
	} {
		if d, fits := Sub(x.a, x.b); d != x.want || fits != x.fits {
			t.Errorf("%v less %v: %v, %v", x.a, x.b, d, fits)
		}
	}
}

func TestSubOfAllPairs(t *testing.T) {
	for _, a := range numbers() {
		for _, b := range numbers() {
			want := new(big.Int).Sub(bigOf(a), bigOf(b))
			if d, fits := Sub(a, b); d != wideOf(want) || fits != (want.Sign() >= 0) {
				t.Errorf("%v less %v: %v, %v", a, b, d, fits)
			}
		}
	}
}

// P2.3

func TestMovesOfKnownNumbers(t *testing.T) {
	a := api.Wide{3, 0, 0, 5 << 61}
	for _, x := range []struct {
		n        int
		up, down api.Wide
	}{
		{math.MinInt, a, a},
		{-64, a, a},
		{-1, a, a},
		{0, a, a},
		{1, api.Wide{6, 0, 0, 1 << 62}, api.Wide{1, 0, 0, 5 << 60}},
		{63, api.Wide{1 << 63, 1}, api.Wide{0, 0, 1 << 62, 1}},
		{64, api.Wide{0, 3}, api.Wide{0, 0, 5 << 61}},
		{65, api.Wide{0, 6}, api.Wide{0, 0, 5 << 60}},
		{128, api.Wide{0, 0, 3}, api.Wide{0, 5 << 61}},
		{192, api.Wide{0, 0, 0, 3}, api.Wide{5 << 61}},
		{255, half, api.Wide{1}},
		{256, zero, zero},
		{257, zero, zero},
		{320, zero, zero},
		{math.MaxInt, zero, zero},
	} {
		if got := Up(a, x.n); got != x.up {
			t.Errorf("up by %d: %v", x.n, got)
		}
		if got := Down(a, x.n); got != x.down {
			t.Errorf("down by %d: %v", x.n, got)
		}
	}
}

func TestMovesOfAllNumbers(t *testing.T) {
	l := append([]int{}, moves...)
	for n := -3; n <= 300; n++ {
		l = append(l, n)
	}
	for _, a := range numbers() {
		for _, n := range l {
			up, down := zero, zero
			switch {
			case n < 0:
				up, down = a, a
			case n < 256:
				up = wideOf(new(big.Int).Lsh(bigOf(a), uint(n)))
				down = wideOf(new(big.Int).Rsh(bigOf(a), uint(n)))
			}
			if got := Up(a, n); got != up {
				t.Errorf("%v up by %d: %v", a, n, got)
			}
			if got := Down(a, n); got != down {
				t.Errorf("%v down by %d: %v", a, n, got)
			}
		}
	}
}

// P2.4

func TestDivOfKnownNumbers(t *testing.T) {
	third := uint64(0x5555555555555555)
	for _, x := range []struct{ a, b, often, left api.Wide }{
		{Of(100), Of(7), Of(14), Of(2)}, // the chapter's example
		{zero, api.Wide{1}, zero, zero},
		{zero, all, zero, zero},
		{api.Wide{1}, api.Wide{1}, api.Wide{1}, zero},
		{all, api.Wide{1}, all, zero},
		{all, all, api.Wide{1}, zero},
		{all, api.Wide{3}, api.Wide{third, third, third, third}, zero},
		{all, api.Wide{0, 1}, api.Wide{full, full, full}, api.Wide{full}},
		{all, half, api.Wide{1}, api.Wide{full, full, full, 1<<63 - 1}},
		{all, api.Wide{1, 0, 0, 1 << 63}, api.Wide{1}, api.Wide{full - 1, full, full, 1<<63 - 1}},
		{half, all, zero, half},
		{half, half, api.Wide{1}, zero},
		{half, api.Wide{1, 0, 0, 1 << 63}, zero, half},
		{Of(7), Of(100), zero, Of(7)},
		{Of(full), api.Wide{0, 1}, zero, Of(full)},
		{api.Wide{0, 1}, Of(full), api.Wide{1}, api.Wide{1}},
		{api.Wide{0, 1}, api.Wide{0, 1}, api.Wide{1}, zero},
	} {
		if q, r, is := Div(x.a, x.b); q != x.often || r != x.left || !is {
			t.Errorf("%v by %v: %v, %v, %v", x.a, x.b, q, r, is)
		}
	}
}

func TestDivByNone(t *testing.T) {
	for _, a := range numbers() {
		if q, r, is := Div(a, zero); q != zero || r != zero || is {
			t.Errorf("%v: %v, %v, %v", a, q, r, is)
		}
	}
}

func TestDivOfAllPairs(t *testing.T) {
	for _, a := range numbers() {
		for _, b := range numbers() {
			if b == zero {
				continue
			}
			often, left := new(big.Int).QuoRem(bigOf(a), bigOf(b), new(big.Int))
			if q, r, is := Div(a, b); q != wideOf(often) || r != wideOf(left) || !is {
				t.Errorf("%v by %v: %v, %v, %v", a, b, q, r, is)
			}
		}
	}
}

// P2.5

func TestAddedAndTakenAwayLeavesWhatWas(t *testing.T) {
	for _, a := range numbers() {
		for _, b := range numbers() {
			s, fitsAll := Add(a, b)
			d, fits := Sub(s, b)
			if d != a {
				t.Errorf("%v and %v, less that: %v", a, b, d)
			}
			if fits != fitsAll { // what was lost is missing when b is taken away, and only then
				t.Errorf("%v and %v: %v, then %v", a, b, fitsAll, fits)
			}
			d, fits = Sub(a, b)
			s, fitsAll = Add(d, b)
			if s != a || fits != fitsAll {
				t.Errorf("%v less %v, and that: %v", a, b, s)
			}
		}
	}
}

// times adds by the bits of b, by the package's own calls alone; false, if anything was lost.
func times(a, b api.Wide) (api.Wide, bool) {
	out, whole := zero, true
	for i := range 256 {
		if Down(b, i)[0]&1 == 0 {
			continue
		}
		moved := Up(a, i)
		s, fits := Add(out, moved)
		out, whole = s, whole && fits && Down(moved, i) == a
	}
	return out, whole
}

func TestOftenTimesAndLeftIsWhatWas(t *testing.T) {
	for _, a := range numbers() {
		for _, b := range numbers() {
			q, r, is := Div(a, b)
			if is != (b != zero) {
				t.Errorf("%v by %v: %v", a, b, is)
			}
			if !is {
				continue
			}
			m, whole := times(q, b)
			s, fits := Add(m, r)
			if !whole || !fits || s != a || Cmp(r, b) != -1 {
				t.Errorf("%v by %v: %v, and %v is left", a, b, q, r)
			}
		}
	}
}

// R3 and R5: what is handed in stays, and what was asked before changes nothing.

func TestAskedAgain(t *testing.T) {
	a, b := api.Wide{1, 2, 3, 4}, api.Wide{5, 6}
	id := Bytes(a)
	ask := func() []api.Wide {
		s, _ := Add(a, b)
		d, _ := Sub(b, a)
		q, r, _ := Div(a, b)
		return []api.Wide{s, d, q, r, Up(a, 67), Down(a, 67), Of32(id), Of32(Bytes(b))}
	}
	first := ask()
	for _, x := range numbers() {
		Div(all, x)
		Add(x, x)
	}
	for i, w := range ask() {
		if w != first[i] {
			t.Errorf("answer %d: %v, then %v", i, first[i], w)
		}
	}
	if a != (api.Wide{1, 2, 3, 4}) || b != (api.Wide{5, 6}) || id != Bytes(a) {
		t.Error("what was handed in changed")
	}
}
