package coin

import (
	"bytes"
	"crypto/sha256"
	"encoding/binary"
	"encoding/hex"
	"fmt"
	"math"
	"math/rand"
	"slices"
	"testing"

	"stepladder/api"
)

// Numbers that may be at their place, and such as may not be, among them some whose lowest bytes, as many as are put,
// could be.
var (
	goodI = []int{0, 1, 2}
	badI  = []int{
		-1, -2, -3, -254, -255, -256, -1 << 32, -1<<32 + 1, math.MinInt, math.MinInt + 1, math.MinInt + 2,
		3, 4, 255, 256, 257, 258, 1 << 16, 1 << 32, 1<<32 + 1, 1<<32 + 2, 1 << 62, math.MaxInt - 255, math.MaxInt,
	}
	goodV = []int{1, 2, 50, 51, 255, 256, 65535, 65536, 1<<32 - 1, 1 << 32, 0x0102030405, 1<<40 - 1, 1 << 40}
	badV  = []int{
		0, -1, -2, -50, -1 << 40, -1<<48 + 1, -1 << 48, -1<<48 - 1, math.MinInt, math.MinInt + 1, math.MinInt + 50,
		1<<40 + 1, 1<<40 + 2, 1<<40 + 256, 1 << 41, 1<<48 - 1, 1 << 48, 1<<48 + 1, 1<<48 + 50, 1 << 56, 1<<56 + 1,
		1 << 62, 1<<62 + 1, math.MaxInt - 1, math.MaxInt,
	}
	goodTo = []int{0, 1, 2, 7, 127, 128, 254, 255}
	badTo  = []int{
		-1, -2, -128, -249, -255, -256, -1 << 32, -1<<32 + 7, math.MinInt, math.MinInt + 1, math.MinInt + 7,
		256, 257, 263, 511, 512, 65535, 65536, 1 << 32, 1<<32 + 7, 1 << 62, math.MaxInt - 248, math.MaxInt,
	}
)

// Counts that may be, are next to these, or have such a lowest byte.
var counts = []int{0, 1, 2, 3, 4, 5, 7, 100, 254, 255, 256, 257, 258, 259, 260, 512, 514, 1000}

func wantMay(t api.Tx) bool {
	if len(t.In) > 3 || len(t.Out) == 0 || len(t.Out) > 3 {
		return false
	}
	seen := map[api.In]int{}
	for _, in := range t.In {
		seen[in]++
		if in.I != 0 && in.I != 1 && in.I != 2 {
			return false
		}
	}
	for _, out := range t.Out {
		if out.V <= 0 || out.V > 1099511627776 || out.To <= -1 || out.To > 255 {
			return false
		}
	}
	return len(seen) == len(t.In)
}

// wantForm is the chapter's words on bytes, by Go's own library, may the transaction be or not, where its numbers fit.
func wantForm(t api.Tx) []byte {
	b := []byte{byte(len(t.In))}
	for _, in := range t.In {
		b = append(b, in.Tx[:]...)
		b = append(b, byte(in.I))
	}
	b = append(b, byte(len(t.Out)))
	for _, out := range t.Out {
		b = append(b, binary.BigEndian.AppendUint64(nil, uint64(out.V))[2:]...)
		b = append(b, byte(out.To))
	}
	return b
}

// formOf tells by places alone what stands in bytes of the right form, may it be or not.
func formOf(b []byte) (api.Tx, bool) {
	if len(b) == 0 {
		return api.Tx{}, false
	}
	outs := 1 + 33*int(b[0])
	if len(b) <= outs || len(b) != outs+1+7*int(b[outs]) {
		return api.Tx{}, false
	}
	var t api.Tx
	for at := 1; at < outs; at += 33 {
		t.In = append(t.In, api.In{Tx: [32]byte(b[at : at+32]), I: int(b[at+32])})
	}
	for at := outs + 1; at < len(b); at += 7 {
		v := binary.BigEndian.Uint64(append([]byte{0, 0}, b[at:at+6]...))
		t.Out = append(t.Out, api.Out{V: int(v), To: int(b[at+6])})
	}
	return t, true
}

func wantRead(b []byte) (api.Tx, bool) {
	t, is := formOf(b)
	if !is || !wantMay(t) {
		return api.Tx{}, false
	}
	return t, true
}

func wantId(t api.Tx) api.Id {
	if !wantMay(t) {
		return api.Id{}
	}
	return sha256.Sum256(append([]byte{6}, wantForm(t)...))
}

func wantRoot(l []api.Tx) api.Id {
	switch len(l) {
	case 0:
		return sha256.Sum256([]byte{2})
	case 1:
		return wantId(l[0])
	}
	cut := 1
	for 2*cut < len(l) {
		cut *= 2
	}
	left, right := wantRoot(l[:cut]), wantRoot(l[cut:])
	return sha256.Sum256(slices.Concat([]byte{1}, left[:], right[:]))
}

func wantSame(a, b api.Tx) bool {
	if len(a.In) != len(b.In) || len(a.Out) != len(b.Out) {
		return false
	}
	for i, in := range a.In {
		if in.Tx != b.In[i].Tx || in.I != b.In[i].I {
			return false
		}
	}
	for i, out := range a.Out {
		if out.V != b.Out[i].V || out.To != b.Out[i].To {
			return false
		}
	}
	return true
}

// someIns are n of which no two are the same, though each Tx comes three times.
func someIns(n int) []api.In {
	var l []api.In
	for i := range n {
		l = append(l, api.In{Tx: sha256.Sum256([]byte{byte(i / 3), byte(i / 768)}), I: (i + 1) % 3})
	}
	return l
}

func someOuts(n int) []api.Out {
	var l []api.Out
	for i := range n {
		l = append(l, api.Out{V: goodV[i%len(goodV)], To: goodTo[i%len(goodTo)]})
	}
	return l
}

func someTx(ins, outs int) api.Tx {
	return api.Tx{In: someIns(ins), Out: someOuts(outs)}
}

// goodSizes are one transaction of each size that may be.
func goodSizes() []api.Tx {
	var l []api.Tx
	for ins := range 4 {
		for outs := 1; outs <= 3; outs++ {
			l = append(l, someTx(ins, outs))
		}
	}
	return l
}

func pick(r *rand.Rand, l []int) int {
	return l[r.Intn(len(l))]
}

// goodTxs are some that may be: of any size, and of any parts.
func goodTxs(n int) []api.Tx {
	r := rand.New(rand.NewSource(9))
	var l []api.Tx
	for len(l) < n {
		var t api.Tx
		for range r.Intn(4) {
			in := api.In{I: pick(r, goodI)}
			r.Read(in.Tx[:])
			t.In = append(t.In, in)
		}
		for range 1 + r.Intn(3) {
			t.Out = append(t.Out, api.Out{V: 1 + r.Intn(1<<40), To: r.Intn(256)})
		}
		l = append(l, t)
	}
	return l
}

// mixedTxs are some of which most may not be: by a count, by a number, or by Ins that are the same.
func mixedTxs(n int) []api.Tx {
	r := rand.New(rand.NewSource(10))
	number := func(good, bad []int) int {
		if r.Intn(12) == 0 {
			return pick(r, bad)
		}
		return pick(r, good)
	}
	var l []api.Tx
	for range n {
		var t api.Tx
		for range r.Intn(5) {
			t.In = append(t.In, api.In{Tx: api.Id{31: byte(r.Intn(2))}, I: number(goodI, badI)})
		}
		for range r.Intn(5) {
			t.Out = append(t.Out, api.Out{V: number(goodV, badV), To: number(goodTo, badTo)})
		}
		l = append(l, t)
	}
	return l
}

func clone(t api.Tx) api.Tx {
	return api.Tx{In: slices.Clone(t.In), Out: slices.Clone(t.Out)}
}

// badTxs are such as may not be, each by one thing alone.
func badTxs() []api.Tx {
	l := []api.Tx{{}, {In: []api.In{}, Out: []api.Out{}}, someTx(1, 0), someTx(3, 0)}
	for _, n := range counts {
		if n > 3 {
			l = append(l, someTx(n, 1), someTx(0, n), someTx(3, n), someTx(n, 3))
		}
	}
	for _, t := range goodSizes() {
		eachNumber(t, func(kind string, at int) {
			_, bad := numbersOf(kind)
			for _, n := range bad {
				l = append(l, with(t, kind, at, n))
			}
		})
		for i := range t.In {
			for j := range i {
				twice := clone(t)
				twice.In[i] = twice.In[j]
				l = append(l, twice)
			}
		}
	}
	return l
}

// eachNumber goes through all places of a number in a transaction.
func eachNumber(t api.Tx, told func(kind string, at int)) {
	for i := range t.In {
		told("I", i)
	}
	for i := range t.Out {
		told("V", i)
		told("To", i)
	}
}

func numbersOf(kind string) (good, bad []int) {
	switch kind {
	case "I":
		return goodI, badI
	case "V":
		return goodV, badV
	}
	return goodTo, badTo
}

// with is a transaction with another number at one place.
func with(t api.Tx, kind string, at, n int) api.Tx {
	other := clone(t)
	switch kind {
	case "I":
		other.In[at].I = n
	case "V":
		other.Out[at].V = n
	default:
		other.Out[at].To = n
	}
	return other
}

// fullTx has the most parts that may be, and bytes of which few are the same.
func fullTx() api.Tx {
	return api.Tx{
		In: []api.In{{Tx: fullId(0x10), I: 2}, {Tx: fullId(0x30), I: 0}, {Tx: fullId(0x50), I: 1}},
		Out: []api.Out{
			{V: 1 << 40, To: 255}, {V: 0xa1a2a3a4a5, To: 0}, {V: 1, To: 0xb1},
		},
	}
}

// fullId has the bytes from first on, each one more than the one ahead.
func fullId(first byte) api.Id {
	var id api.Id
	for i := range id {
		id[i] = first + byte(i)
	}
	return id
}

const fullBytes = "03" +
	"101112131415161718191a1b1c1d1e1f202122232425262728292a2b2c2d2e2f" + "02" +
	"303132333435363738393a3b3c3d3e3f404142434445464748494a4b4c4d4e4f" + "00" +
	"505152535455565758595a5b5c5d5e5f606162636465666768696a6b6c6d6e6f" + "01" +
	"03" + "010000000000" + "ff" + "00a1a2a3a4a5" + "00" + "000000000001" + "b1"

func unhex(t *testing.T, text string) []byte {
	t.Helper()
	b, err := hex.DecodeString(text)
	if err != nil {
		t.Fatal(err)
	}
	return b
}

func mustPut(t *testing.T, x api.Tx) []byte {
	t.Helper()
	b, is := Put(x)
	if !is {
		t.Fatalf("no bytes of %v", tell(x))
	}
	return b
}

// tell is a transaction as text, but of many parts only the first ones.
func tell(t api.Tx) string {
	ins, outs := t.In[:min(len(t.In), 4)], t.Out[:min(len(t.Out), 4)]
	return fmt.Sprintf("%d Ins %x, %d Outs %d", len(t.In), ins, len(t.Out), outs)
}

func isZero(t api.Tx) bool {
	return len(t.In) == 0 && len(t.Out) == 0
}

// mustNotBe holds against each call that a transaction may not be.
func mustNotBe(t *testing.T, x api.Tx) {
	t.Helper()
	if wantMay(x) {
		t.Fatalf("%v may be", tell(x))
	}
	b, is := Put(x)
	if May(x) || is || len(b) != 0 || Id(x) != (api.Id{}) {
		t.Errorf("%v is taken: %v, %.200x", tell(x), is, b)
	}
}

func mustBe(t *testing.T, x api.Tx) {
	t.Helper()
	if !wantMay(x) {
		t.Fatalf("%v may not be", tell(x))
	}
	b, is := Put(x)
	if !May(x) || !is || !bytes.Equal(b, wantForm(x)) || Id(x) != wantId(x) {
		t.Errorf("%v is not taken, or is another one: %v, %.200x", tell(x), is, b)
	}
}

func mustNotRead(t *testing.T, b []byte) {
	t.Helper()
	if x, is := Read(b); is || !isZero(x) {
		t.Errorf("%.200x: %v, %v", b, tell(x), is)
	}
}

func mustRead(t *testing.T, b []byte, want api.Tx) {
	t.Helper()
	if x, is := Read(b); !is || !wantSame(x, want) {
		t.Errorf("%.200x: %v, %v", b, tell(x), is)
	}
}

// The chapter's example

func TestExample(t *testing.T) {
	want := []byte{0, 1, 0, 0, 0, 0, 0, 50, 7}
	for _, in := range [][]api.In{nil, {}} {
		x := api.Tx{In: in, Out: []api.Out{{V: 50, To: 7}}}
		if b, is := Put(x); !is || !bytes.Equal(b, want) {
			t.Errorf("%v, %v", b, is)
		}
		mustRead(t, want, x)
	}
}

// P9.1

func TestMayOfEachCount(t *testing.T) {
	for _, ins := range counts {
		for _, outs := range counts {
			may := ins <= 3 && outs >= 1 && outs <= 3
			if x := someTx(ins, outs); May(x) != may {
				t.Errorf("%d Ins, %d Outs: %v", ins, outs, !may)
			}
		}
	}
}

func TestMayOfNone(t *testing.T) {
	for _, in := range [][]api.In{nil, {}, make([]api.In, 0, 5), someIns(5)[:0]} {
		for _, out := range [][]api.Out{nil, {}, make([]api.Out, 0, 5), someOuts(5)[:0]} {
			mustNotBe(t, api.Tx{In: in, Out: out})
			mustNotBe(t, api.Tx{In: someIns(2), Out: out})
			mustBe(t, api.Tx{In: in, Out: someOuts(1)})
		}
	}
}

func TestMayOfEachNumberAtEachPlace(t *testing.T) {
	for _, x := range goodSizes() {
		// All Ins are of other transactions, so that they stay others, whatever their I is.
		for i := range x.In {
			x.In[i].Tx = fullId(byte(i))
		}
		eachNumber(x, func(kind string, at int) {
			good, bad := numbersOf(kind)
			for _, n := range good {
				mustBe(t, with(x, kind, at, n))
			}
			for _, n := range bad {
				mustNotBe(t, with(x, kind, at, n))
			}
		})
	}
}

// A number of one kind is not held against what another kind's may be.
func TestMayOfNumbersAtTheirEdges(t *testing.T) {
	for _, i := range []int{-1, 0, 2, 3} {
		for _, v := range []int{0, 1, 1 << 40, 1<<40 + 1} {
			for _, to := range []int{-1, 0, 255, 256} {
				x := api.Tx{In: []api.In{{I: i}}, Out: []api.Out{{V: v, To: to}}}
				may := (i == 0 || i == 2) && (v == 1 || v == 1<<40) && (to == 0 || to == 255)
				if May(x) != may {
					t.Errorf("I %d, V %d, To %d: %v", i, v, to, !may)
				}
			}
		}
	}
}

func TestMayOfInsThatAreTheSame(t *testing.T) {
	for n := 2; n <= 3; n++ {
		for _, id := range []api.Id{{}, fullId(7)} {
			for _, i := range goodI {
				for a := range n {
					for b := range a {
						x := someTx(n, 1)
						x.In[a] = api.In{Tx: id, I: i}
						x.In[b] = x.In[a]
						mustNotBe(t, x)
					}
				}
				mustNotBe(t, api.Tx{In: slices.Repeat([]api.In{{Tx: id, I: i}}, n), Out: someOuts(1)})
			}
		}
	}
}

func TestMayOfInsThatDifferByTxAlone(t *testing.T) {
	for _, i := range goodI {
		for at := range 32 {
			for bit := byte(1); bit != 0; bit <<= 1 {
				other := fullId(3)
				other[at] ^= bit
				x := api.Tx{In: []api.In{{Tx: fullId(3), I: i}, {Tx: other, I: i}}, Out: someOuts(1)}
				mustBe(t, x)
				x.In = append(x.In, api.In{Tx: fullId(4), I: i})
				mustBe(t, x)
				x.In[1], x.In[2] = x.In[2], x.In[1]
				mustBe(t, x)
			}
		}
	}
}

func TestMayOfInsThatDifferByIAlone(t *testing.T) {
	for _, id := range []api.Id{{}, fullId(3)} {
		for _, a := range goodI {
			for _, b := range goodI {
				for _, c := range goodI {
					x := api.Tx{In: []api.In{{Tx: id, I: a}, {Tx: id, I: b}, {Tx: id, I: c}}, Out: someOuts(2)}
					if may := a != b && b != c && a != c; May(x) != may {
						t.Errorf("%d, %d, %d: %v", a, b, c, !may)
					}
				}
			}
		}
	}
}

// Of Outs some may be the same.
func TestMayOfOutsThatAreTheSame(t *testing.T) {
	for n := 1; n <= 3; n++ {
		mustBe(t, api.Tx{Out: slices.Repeat([]api.Out{{V: 1 << 40, To: 255}}, n)})
		mustBe(t, api.Tx{In: someIns(3), Out: slices.Repeat([]api.Out{{V: 1}}, n)})
	}
}

func TestMayOfAnyTx(t *testing.T) {
	may := 0
	for _, x := range mixedTxs(20000) {
		if May(x) != wantMay(x) {
			t.Fatalf("%v: %v", tell(x), May(x))
		}
		if May(x) {
			may++
		}
	}
	if may < 500 || may > 15000 {
		t.Errorf("%d may be", may)
	}
	for _, x := range goodTxs(2000) {
		mustBe(t, x)
	}
	for _, x := range badTxs() {
		mustNotBe(t, x)
	}
}

func TestMayOfVeryMany(t *testing.T) {
	ins, outs := make([]api.In, 65539), make([]api.Out, 65539)
	for i := range ins {
		binary.BigEndian.PutUint64(ins[i].Tx[:], uint64(i))
		outs[i].V = 1
	}
	for _, n := range []int{65536, 65537, 65539} {
		if May(api.Tx{In: ins[:n], Out: outs[:1]}) || May(api.Tx{Out: outs[:n]}) || May(api.Tx{In: ins[:n], Out: outs[:n]}) {
			t.Error(n)
		}
	}
	mustBe(t, api.Tx{In: ins[:3], Out: outs[:3]})
}

func TestSameOfTheSame(t *testing.T) {
	for _, x := range slices.Concat(goodSizes(), goodTxs(100), badTxs(), mixedTxs(300)) {
		if !Same(x, x) || !Same(x, clone(x)) || !Same(clone(x), x) {
			t.Errorf("%v", tell(x))
		}
	}
}

func TestSameOfNilAndEmpty(t *testing.T) {
	ins, outs := [][]api.In{nil, {}, make([]api.In, 0, 3)}, [][]api.Out{nil, {}, make([]api.Out, 0, 3)}
	for _, a := range ins {
		for _, b := range ins {
			if !Same(api.Tx{In: a, Out: someOuts(2)}, api.Tx{In: b, Out: someOuts(2)}) {
				t.Error("no Ins")
			}
			for _, c := range outs {
				for _, d := range outs {
					if !Same(api.Tx{In: a, Out: c}, api.Tx{In: b, Out: d}) || !Same(api.Tx{In: someIns(2), Out: c}, api.Tx{In: someIns(2), Out: d}) {
						t.Error("no Outs")
					}
				}
			}
		}
	}
}

func differ(t *testing.T, a, b api.Tx) {
	t.Helper()
	if Same(a, b) || Same(b, a) {
		t.Errorf("%v and %v are the same", tell(a), tell(b))
	}
}

// One is the beginning of the other, by Ins, by Outs, or by both: may they be or not.
func TestSameOfABeginning(t *testing.T) {
	for _, size := range []int{1, 2, 3, 4, 5, 300} {
		x := someTx(size, size)
		for _, n := range []int{0, 1, size / 2, size - 1} {
			if n >= size {
				continue
			}
			differ(t, x, api.Tx{In: x.In[:n], Out: x.Out})
			differ(t, x, api.Tx{In: x.In, Out: x.Out[:n]})
			differ(t, x, api.Tx{In: x.In[:n], Out: x.Out[:n]})
			differ(t, x, api.Tx{In: x.In[size-n:], Out: x.Out})
			differ(t, x, api.Tx{In: x.In, Out: x.Out[size-n:]})
		}
	}
}

// They differ in one part alone, at any place, by any bit of it.
func TestSameOfWhatDiffersInOnePart(t *testing.T) {
	for _, x := range append(goodSizes(), someTx(4, 4), someTx(7, 5), fullTx(), api.Tx{In: make([]api.In, 2), Out: make([]api.Out, 2)}) {
		for i := range x.In {
			for at := range 32 {
				other := clone(x)
				other.In[i].Tx[at] ^= 1 << (at % 8)
				differ(t, x, other)
			}
		}
		eachNumber(x, func(kind string, at int) {
			now := map[string]func() int{
				"I": func() int { return x.In[at].I }, "V": func() int { return x.Out[at].V }, "To": func() int { return x.Out[at].To },
			}[kind]()
			for bit := range 64 {
				differ(t, x, with(x, kind, at, now^(1<<bit)))
			}
		})
	}
}

func TestSameAsksForTheOrder(t *testing.T) {
	for _, n := range []int{2, 3, 4, 6} {
		x := someTx(n, n)
		for a := range n {
			for b := range a {
				ins, outs := clone(x), clone(x)
				ins.In[a], ins.In[b] = x.In[b], x.In[a]
				outs.Out[a], outs.Out[b] = x.Out[b], x.Out[a]
				differ(t, x, ins)
				differ(t, x, outs)
			}
		}
	}
	differ(t, api.Tx{Out: []api.Out{{V: 1, To: 2}}}, api.Tx{Out: []api.Out{{V: 2, To: 1}}})
}

func TestSameOfAnyTwo(t *testing.T) {
	l := append(mixedTxs(150), goodSizes()...)
	for _, a := range l {
		for _, b := range l {
			if Same(a, b) != wantSame(a, b) {
				t.Fatalf("%v and %v: %v", tell(a), tell(b), Same(a, b))
			}
		}
	}
}

// P9.2

func TestPutByHand(t *testing.T) {
	one := append([]byte{1}, bytes.Repeat([]byte{255}, 32)...)
	for _, c := range []struct {
		x    api.Tx
		want []byte
	}{
		{fullTx(), unhex(t, fullBytes)},
		{api.Tx{Out: []api.Out{{V: 1}}}, []byte{0, 1, 0, 0, 0, 0, 0, 1, 0}},
		{api.Tx{Out: []api.Out{{V: 1 << 40, To: 255}}}, []byte{0, 1, 1, 0, 0, 0, 0, 0, 255}},
		{api.Tx{Out: []api.Out{{V: 1<<40 - 1, To: 1}}}, []byte{0, 1, 0, 255, 255, 255, 255, 255, 1}},
		{api.Tx{Out: []api.Out{{V: 258, To: 3}, {V: 4, To: 5}}}, []byte{0, 2, 0, 0, 0, 0, 1, 2, 3, 0, 0, 0, 0, 0, 4, 5}},
		{api.Tx{In: []api.In{{Tx: api.Id(one[1:]), I: 2}}, Out: []api.Out{{V: 9, To: 8}}}, append(one, 2, 1, 0, 0, 0, 0, 0, 9, 8)},
		{api.Tx{In: []api.In{{}, {I: 1}}, Out: []api.Out{{V: 7}}}, slices.Concat([]byte{2}, make([]byte, 65), []byte{1, 1, 0, 0, 0, 0, 0, 7, 0})},
	} {
		if b, is := Put(c.x); !is || !bytes.Equal(b, c.want) {
			t.Errorf("%v: %x, %v", c.x, b, is)
		}
		mustRead(t, c.want, c.x)
	}
}

func TestPutOfEachSize(t *testing.T) {
	for _, x := range goodSizes() {
		if b := mustPut(t, x); len(b) != 2+33*len(x.In)+7*len(x.Out) || !bytes.Equal(b, wantForm(x)) {
			t.Errorf("%v: %x", x, b)
		}
	}
}

func TestPutOfWhatMayNotBe(t *testing.T) {
	for _, x := range slices.Concat(badTxs(), mixedTxs(3000)) {
		if b, is := Put(x); is != wantMay(x) || !is && len(b) != 0 {
			t.Fatalf("%v: %.200x, %v", tell(x), b, is)
		}
	}
}

func TestReadOfEachPut(t *testing.T) {
	for _, x := range slices.Concat(goodSizes(), goodTxs(1000)) {
		mustRead(t, wantForm(x), x)
	}
	for _, x := range goodSizes() {
		eachNumber(x, func(kind string, at int) {
			good, _ := numbersOf(kind)
			for _, n := range good {
				if y := with(x, kind, at, n); wantMay(y) {
					mustRead(t, wantForm(y), y)
				}
			}
		})
	}
}

func TestReadOfFewBytes(t *testing.T) {
	mustNotRead(t, nil)
	mustNotRead(t, []byte{})
	mustNotRead(t, make([]byte, 0, 100))
	mustNotRead(t, wantForm(fullTx())[:0])
	for a := range 256 {
		mustNotRead(t, []byte{byte(a)})
		for b := range 256 {
			mustNotRead(t, []byte{byte(a), byte(b)})
		}
	}
}

// No beginning of a transaction's bytes is one's, nor are they with others behind or ahead of them.
func TestReadOfTooFewOrTooMany(t *testing.T) {
	for _, x := range append(goodSizes(), fullTx()) {
		b := wantForm(x)
		for n := range b {
			mustNotRead(t, b[:n])
			mustNotRead(t, slices.Clone(b[:n]))
		}
		for n := 1; n < len(b); n++ {
			if _, is := wantRead(b[n:]); !is {
				mustNotRead(t, b[n:])
			}
		}
		for more := range 256 {
			mustNotRead(t, append(slices.Clone(b), byte(more)))
		}
		for n := range 40 {
			mustNotRead(t, append(slices.Clone(b), make([]byte, n+1)...))
		}
		mustNotRead(t, slices.Concat(b, b))
		mustRead(t, b, x)
	}
}

// What the counts tell is more than there is, or less, or more than may be.
func TestReadOfOtherCounts(t *testing.T) {
	for _, x := range append(goodSizes(), fullTx()) {
		b := wantForm(x)
		outs := 1 + 33*len(x.In)
		for count := range 256 {
			other := slices.Clone(b)
			other[outs] = byte(count)
			if count != len(x.Out) {
				mustNotRead(t, other)
			}
			other = slices.Clone(b)
			other[0] = byte(count)
			want, is := wantRead(other)
			if got, reads := Read(other); reads != is || !wantSame(got, want) {
				t.Errorf("%x: %v, %v", other, got, reads)
			}
		}
	}
}

// The form is right, and each number fits in its bytes, but the transaction may not be.
func TestReadOfWhatMayNotBe(t *testing.T) {
	fits := 0
	for _, x := range badTxs() {
		b := wantForm(x)
		if told, is := formOf(b); !is || !wantSame(told, x) {
			continue
		}
		fits++
		mustNotRead(t, b)
	}
	if fits < 100 {
		t.Errorf("only %d", fits)
	}
}

func TestReadOfEachNumberByHand(t *testing.T) {
	head := slices.Concat([]byte{1}, bytes.Repeat([]byte{9}, 32))
	for i := range 256 {
		b := slices.Concat(head, []byte{byte(i), 1, 0, 0, 0, 0, 0, 5, 6})
		if i <= 2 {
			mustRead(t, b, api.Tx{In: []api.In{{Tx: api.Id(head[1:]), I: i}}, Out: []api.Out{{V: 5, To: 6}}})
		} else {
			mustNotRead(t, b)
		}
	}
	for to := range 256 {
		mustRead(t, []byte{0, 1, 0, 0, 0, 0, 0, 5, byte(to)}, api.Tx{Out: []api.Out{{V: 5, To: to}}})
	}
	for _, v := range []string{"000000000000", "010000000001", "010000000100", "020000000000", "800000000000", "ff0000000001", "ffffffffffff"} {
		mustNotRead(t, unhex(t, "0001"+v+"07"))
		mustNotRead(t, unhex(t, "0002"+"00000000000101"+v+"07"))
		mustNotRead(t, unhex(t, "0003"+"00000000000101"+v+"07"+"00000000000101"))
	}
	for v, n := range map[string]int{"000000000001": 1, "000000000100": 256, "00ffffffffff": 1<<40 - 1, "010000000000": 1 << 40} {
		mustRead(t, unhex(t, "0001"+v+"07"), api.Tx{Out: []api.Out{{V: n, To: 7}}})
	}
}

func TestReadOfInsThatAreTheSame(t *testing.T) {
	for n := 2; n <= 3; n++ {
		for a := range n {
			for b := range a {
				x := someTx(n, 2)
				x.In[a] = x.In[b]
				mustNotRead(t, wantForm(x))
				x.In[a].I = (x.In[b].I + 1) % 3
				if wantMay(x) {
					mustRead(t, wantForm(x), x)
				}
			}
		}
	}
}

// Each byte of some that are put is changed to each other one.
func TestReadOfEachOtherByte(t *testing.T) {
	reads, fails := 0, 0
	for _, x := range []api.Tx{someTx(0, 1), someTx(1, 2), someTx(3, 3), fullTx()} {
		b := wantForm(x)
		for at := range b {
			kept := b[at]
			for other := range 256 {
				b[at] = byte(other)
				want, is := wantRead(b)
				got, may := Read(b)
				if may != is || !wantSame(got, want) {
					t.Fatalf("%x: %v, %v", b, got, may)
				}
				if is {
					reads++
				} else {
					fails++
				}
			}
			b[at] = kept
		}
	}
	if reads < 1000 || fails < 1000 {
		t.Errorf("%d are some, %d are not", reads, fails)
	}
}

func TestReadOfAnyBytes(t *testing.T) {
	r := rand.New(rand.NewSource(11))
	for i := range 30000 {
		b := make([]byte, r.Intn(130))
		if i%2 == 0 {
			r.Read(b)
		}
		if len(b) > 0 {
			b[0] = byte(r.Intn(5))
			if at := 1 + 33*int(b[0]); at < len(b) {
				b[at] = byte((len(b) - at - 1) / 7)
			}
		}
		want, is := wantRead(b)
		if got, may := Read(b); may != is || !wantSame(got, want) {
			t.Fatalf("%x: %v, %v", b, got, may)
		}
	}
}

func TestReadOfVeryMany(t *testing.T) {
	for _, fill := range []byte{0, 1, 2, 3, 128, 255} {
		for _, n := range []int{9, 33, 34, 35, 43, 122, 123, 124, 255, 256, 8416, 8417, 10202, 65535, 65536, 1 << 20} {
			mustNotRead(t, bytes.Repeat([]byte{fill}, n))
		}
	}
	for _, n := range []int{4, 5, 254, 255} {
		mustNotRead(t, wantForm(someTx(n, 1)))
		mustNotRead(t, wantForm(someTx(0, n)))
		mustNotRead(t, wantForm(someTx(n, n)))
	}
}

// P9.3

func TestKnownIds(t *testing.T) {
	for _, c := range []struct {
		x    api.Tx
		want string
	}{
		{api.Tx{Out: []api.Out{{V: 50, To: 7}}}, "e72ec01fa35ec13b72bee95ca8ec2f28d04dbc6668c715a0f2dc3dffe08f5618"},
		{api.Tx{Out: []api.Out{{V: 1}}}, "d512c4787c9efac71efcdcb2aed807132bc05d0c56239bec51041783db88acb3"},
		{api.Tx{In: []api.In{{}, {I: 1}}, Out: []api.Out{{V: 7}}}, "8b32f21bd5d6e79d2633fc1f58f2709e4d6cdccb09f219f5fc3bf487a8a9fb84"},
		{fullTx(), "d2ee92043acdd6ad426b602e9d7ba1ea2d80688a562099f854cc77338f03314d"},
		{api.Tx{}, "0000000000000000000000000000000000000000000000000000000000000000"},
	} {
		if id := Id(c.x); hex.EncodeToString(id[:]) != c.want {
			t.Errorf("%v: %x", c.x, id)
		}
	}
}

func TestIdOfAnyTx(t *testing.T) {
	for _, x := range slices.Concat(goodSizes(), goodTxs(1000), badTxs(), mixedTxs(1000)) {
		if id := Id(x); id != wantId(x) {
			t.Fatalf("%v: %x", tell(x), id)
		}
	}
}

func TestKnownRoots(t *testing.T) {
	one, two := api.Tx{Out: []api.Out{{V: 50, To: 7}}}, fullTx()
	for _, c := range []struct {
		l    []api.Tx
		want string
	}{
		{nil, "dbc1b4c900ffe48d575b5da5c638040125f65db0fe3e24494b76ea986457d986"},
		{[]api.Tx{one}, "e72ec01fa35ec13b72bee95ca8ec2f28d04dbc6668c715a0f2dc3dffe08f5618"},
		{[]api.Tx{one, two}, "28accf9c6a29fc58fd05a1d06acf49b329fd94f926e6976532971725b1d810e5"},
		{[]api.Tx{two, one, {}}, "1e3f429c7d0b2b1d8c0bb295bd305e01e9e82d15e3d53144732b0ad363f0394a"},
	} {
		if root := Root(c.l); hex.EncodeToString(root[:]) != c.want {
			t.Errorf("%v: %x", c.l, root)
		}
	}
}

func TestRootOfNone(t *testing.T) {
	want := api.Id(sha256.Sum256([]byte{2}))
	if Root(nil) != want || Root([]api.Tx{}) != want || Root(goodTxs(3)[:0]) != want {
		t.Error("another one")
	}
}

func TestRootOfOne(t *testing.T) {
	for _, x := range slices.Concat(goodSizes(), badTxs(), mixedTxs(100)) {
		if root := Root([]api.Tx{x}); root != wantId(x) {
			t.Errorf("%v: %x", tell(x), root)
		}
	}
}

func TestRootOfMany(t *testing.T) {
	all := goodTxs(300)
	for n := range all {
		if n > 70 && n < 250 {
			continue
		}
		if root := Root(all[:n]); root != wantRoot(all[:n]) {
			t.Errorf("%d: %x", n, root)
		}
	}
	swapped := slices.Clone(all[:4])
	swapped[1], swapped[2] = all[2], all[1]
	if Root(swapped) == Root(all[:4]) {
		t.Error("of another order the same")
	}
}

// What may not be has a zero id there, and is not left out.
func TestRootOfSomeThatMayNotBe(t *testing.T) {
	good, bad := goodTxs(9), badTxs()
	for n := 1; n <= 9; n++ {
		for which := range 1 << n {
			l := slices.Clone(good[:n])
			for i := range l {
				if which>>i&1 == 1 {
					l[i] = bad[(which+31*i)%len(bad)]
				}
			}
			if root := Root(l); root != wantRoot(l) {
				t.Fatalf("%d, of which %b may not be: %x", n, which, root)
			}
		}
	}
	l := mixedTxs(67)
	for n := range l {
		if Root(l[:n]) != wantRoot(l[:n]) {
			t.Errorf("%d", n)
		}
	}
}

func TestRootOfTheSame(t *testing.T) {
	for n := range 9 {
		l := slices.Repeat([]api.Tx{fullTx()}, n)
		if Root(l) != wantRoot(l) {
			t.Errorf("%d", n)
		}
	}
}

// P9.4

func TestWhatIsPutIsReadAsIt(t *testing.T) {
	for _, x := range slices.Concat(goodSizes(), goodTxs(2000), mixedTxs(3000)) {
		b, is := Put(x)
		if !is {
			continue
		}
		if got, reads := Read(b); !reads || !Same(got, x) || !wantSame(got, x) {
			t.Fatalf("%v: %v, %v", x, got, reads)
		}
	}
}

func TestWhatIsReadIsPutAsTheSameBytes(t *testing.T) {
	reads := 0
	for _, x := range append(goodTxs(300), goodSizes()...) {
		b := wantForm(x)
		for at := range b {
			for _, other := range []byte{b[at], 0, 1, 2, 3, 255, b[at] + 1, b[at] ^ 128} {
				changed := slices.Clone(b)
				changed[at] = other
				got, is := Read(changed)
				if !is {
					continue
				}
				reads++
				if again := mustPut(t, got); !bytes.Equal(again, changed) {
					t.Fatalf("%x was read, %x is put", changed, again)
				}
			}
		}
	}
	if reads < 10000 {
		t.Errorf("only %d were read", reads)
	}
}

// Bytes are those of one transaction alone.
func TestWhatDiffersHasOtherBytes(t *testing.T) {
	seen := map[string]api.Tx{}
	for _, x := range slices.Concat(goodSizes(), goodTxs(2000), mixedTxs(5000)) {
		b, is := Put(x)
		if !is {
			continue
		}
		if other, is := seen[string(b)]; is && !Same(other, x) {
			t.Fatalf("%v and %v: %x", other, x, b)
		}
		seen[string(b)] = x
	}
}

// R3 and R5: what is handed in stays, what is answered is the caller's own, and what was asked before changes nothing.

func TestWhatIsHandedInStays(t *testing.T) {
	for _, x := range slices.Concat(goodSizes(), goodTxs(50), badTxs(), mixedTxs(200)) {
		// Behind the lists the caller may have more.
		room := api.Tx{
			In:  slices.Concat(x.In, []api.In{{I: 5}, {I: 6}, {I: 7}}),
			Out: slices.Concat(x.Out, []api.Out{{V: 8}, {V: 9}, {V: 10}}),
		}
		want := clone(room)
		asked := api.Tx{In: room.In[:len(x.In)], Out: room.Out[:len(x.Out)]}
		May(asked)
		Same(asked, x)
		Same(x, asked)
		Put(asked)
		Id(asked)
		l := []api.Tx{asked, asked, asked, {}}
		Root(l[:3])
		if !wantSame(room, want) || !isZero(l[3]) {
			t.Errorf("%v: not as it was", tell(x))
		}
		for _, other := range l[:3] {
			if !wantSame(other, x) {
				t.Errorf("%v: another one in the list", tell(x))
			}
		}
	}
}

func TestTheBytesThatAreHandedInStay(t *testing.T) {
	for _, x := range append(goodSizes(), fullTx()) {
		size := len(wantForm(x))
		room := slices.Concat(wantForm(x), bytes.Repeat([]byte{7}, 50))
		want := slices.Clone(room)
		got, is := Read(room[:size])
		for n := range room {
			Read(room[:n])
		}
		if !is || !bytes.Equal(room, want) {
			t.Errorf("%v: not as they were", tell(x))
		}
		clear(room)
		if !wantSame(got, x) {
			t.Errorf("%v: what was read changed with the bytes", tell(x))
		}
	}
}

func TestWhatPutAnswersIsTheCallersOwn(t *testing.T) {
	for _, x := range append(goodSizes(), fullTx()) {
		asked, want := clone(x), wantForm(x)
		first, second := mustPut(t, asked), mustPut(t, asked)
		clear(first[:cap(first)])
		if !wantSame(asked, x) || !bytes.Equal(second, want) || !bytes.Equal(mustPut(t, asked), want) {
			t.Errorf("%v: what was handed in, or came again, changed with what came", tell(x))
		}
		clear(asked.In)
		clear(asked.Out)
		if !bytes.Equal(second, want) {
			t.Errorf("%v: what came changed with what was handed in", tell(x))
		}
	}
}

func TestWhatReadAnswersIsTheCallersOwn(t *testing.T) {
	for _, x := range append(goodSizes(), fullTx()) {
		b := wantForm(x)
		first, _ := Read(b)
		second, _ := Read(b)
		clear(first.In[:cap(first.In)])
		if !wantSame(api.Tx{Out: first.Out}, api.Tx{Out: x.Out}) {
			t.Errorf("%v: the Outs changed with the Ins", tell(x))
		}
		clear(first.Out[:cap(first.Out)])
		if !bytes.Equal(b, wantForm(x)) || !wantSame(second, x) {
			t.Errorf("%v: the bytes, or what came again, changed with what came", tell(x))
		}
		mustRead(t, b, x)
	}
}

func TestAnswersHangOnNothingElse(t *testing.T) {
	good, bad := fullTx(), someTx(4, 1)
	ask := func() []any {
		read, is := Read(mustPut(t, good))
		none, reads := Read(wantForm(bad))
		return []any{
			May(good), May(bad), Same(good, bad), string(mustPut(t, good)), string(mustPut(t, read)), is, reads, isZero(none),
			Id(good), Id(bad), Root([]api.Tx{good, bad, read}),
		}
	}
	first := ask()
	for _, other := range append(mixedTxs(100), goodTxs(100)...) {
		b, _ := Put(other)
		Read(append(b, 1))
		Read(b)
		Id(other)
		Root([]api.Tx{other, good})
	}
	if !slices.Equal(ask(), first) {
		t.Error("asked again, another answer")
	}
}
