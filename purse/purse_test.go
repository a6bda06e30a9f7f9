package purse

import (
	"crypto/sha256"
	"encoding/binary"
	"encoding/hex"
	"fmt"
	"math"
	"math/rand"
	"slices"
	"sort"
	"strconv"
	"testing"

	"stepladder/api"
)

// Numbers that may be at their place, and such as may not be.
var (
	goodI = []int{0, 1, 2}
	badI  = []int{-1, -2, -1 << 32, math.MinInt, math.MinInt + 1, 3, 4, 255, 256, 1 << 32, 1<<32 + 1, math.MaxInt - 1, math.MaxInt}
	goodV = []int{1, 2, 50, 51, 256, 1<<32 - 1, 1 << 32, 0x0102030405, 1<<40 - 1, 1 << 40}
	badV  = []int{
		0, -1, -2, -50, -1 << 40, math.MinInt, math.MinInt + 1, 1<<40 + 1, 1<<40 + 2, 1 << 41, 1<<48 + 1, 1 << 62,
		math.MaxInt - 1, math.MaxInt,
	}
	goodTo = []int{0, 1, 7, 128, 254, 255}
	badTo  = []int{-1, -2, -256, math.MinInt, math.MinInt + 7, 256, 257, 511, 65536, 1 << 32, 1<<32 + 7, math.MaxInt}
)

// The chapter's words once more, by maps, keys of bytes, and Go's own library.

type book map[api.In]api.Out

func keyOf(x api.In) string {
	return string(x.Tx[:]) + string(byte(x.I))
}

func wantMay(p []api.Coin) bool {
	if len(p) > 48 {
		return false
	}
	for i, c := range p {
		if !slices.Contains(goodI, c.In.I) || c.Out.V <= 0 || c.Out.V > 1099511627776 || c.Out.To <= -1 || c.Out.To > 255 {
			return false
		}
		for _, other := range p[:i] {
			if keyOf(other.In) >= keyOf(c.In) {
				return false
			}
		}
	}
	return true
}

func wantSame(a, b []api.Coin) bool {
	if len(a) != len(b) {
		return false
	}
	for i, c := range a {
		d := b[i]
		if c.In.Tx != d.In.Tx || c.In.I != d.In.I || c.Out.V != d.Out.V || c.Out.To != d.Out.To {
			return false
		}
	}
	return true
}

func wantFind(p []api.Coin, x api.In) int {
	for i, c := range p {
		if c.In.Tx == x.Tx && c.In.I == x.I {
			return i
		}
	}
	return -1
}

func wantSum(p []api.Coin) int {
	sum := 0
	if wantMay(p) {
		for _, c := range p {
			sum += c.Out.V
		}
	}
	return sum
}

func wantTx(t api.Tx) bool {
	if len(t.In) > 3 || len(t.Out) == 0 || len(t.Out) > 3 {
		return false
	}
	seen := map[api.In]int{}
	for _, in := range t.In {
		seen[in]++
		if !slices.Contains(goodI, in.I) {
			return false
		}
	}
	for _, out := range t.Out {
		if out.V <= 0 || out.V > 1099511627776 || out.To <= -1 || out.To > 255 {
			return false
		}
	}
	return len(seen) == len(t.In)
}

func wantId(t api.Tx) api.Id {
	if !wantTx(t) {
		return api.Id{}
	}
	b := []byte{6, byte(len(t.In))}
	for _, in := range t.In {
		b = append(append(b, in.Tx[:]...), byte(in.I))
	}
	b = append(b, byte(len(t.Out)))
	for _, out := range t.Out {
		b = append(append(b, binary.BigEndian.AppendUint64(nil, uint64(out.V))[2:]...), byte(out.To))
	}
	return sha256.Sum256(b)
}

func bookOf(p []api.Coin) book {
	b := book{}
	for _, c := range p {
		b[c.In] = c.Out
	}
	return b
}

func (b book) coins() []api.Coin {
	var p []api.Coin
	for in, out := range b {
		p = append(p, api.Coin{In: in, Out: out})
	}
	sort.Slice(p, func(i, j int) bool { return keyOf(p[i].In) < keyOf(p[j].In) })
	return p
}

func (b book) has(id api.Id) bool {
	for in := range b {
		if in.Tx == id {
			return true
		}
	}
	return false
}

func (b book) put(id api.Id, outs []api.Out) {
	for i, out := range outs {
		b[api.In{Tx: id, I: i}] = out
	}
}

// take takes the Ins out of the book, and tells what they are worth; false, if one is not there.
func (b book) take(ins []api.In) (int, bool) {
	worth := 0
	for _, in := range ins {
		out, is := b[in]
		if !is {
			return 0, false
		}
		worth += out.V
		delete(b, in)
	}
	return worth, true
}

func worth(outs []api.Out) int {
	sum := 0
	for _, out := range outs {
		sum += out.V
	}
	return sum
}

// wantExchange is what Spend asks behind ErrArg, of any id.
func wantExchange(p []api.Coin, t api.Tx, id api.Id) ([]api.Coin, int, api.Errno) {
	b := bookOf(p)
	there, all := b.take(t.In)
	left := there - worth(t.Out)
	switch {
	case !all || left < 0:
		return p, 0, api.ErrSpend
	case b.has(id):
		return p, 0, api.ErrThere
	case len(b)+len(t.Out) >= 49:
		return p, 0, api.ErrFull
	}
	b.put(id, t.Out)
	return b.coins(), left, api.OK
}

func wantSpend(p []api.Coin, t api.Tx) ([]api.Coin, int, api.Errno) {
	if !wantMay(p) || !wantTx(t) || len(t.In) == 0 {
		return p, 0, api.ErrArg
	}
	return wantExchange(p, t, wantId(t))
}

// wantMint is what Apply asks of a first transaction without Ins, of any id.
func wantMint(p []api.Coin, t api.Tx, id api.Id, left int) ([]api.Coin, api.Errno) {
	b := bookOf(p)
	switch {
	case !wantTx(t):
		return p, api.ErrArg
	case b.has(id):
		return p, api.ErrThere
	case worth(t.Out) > 50+left:
		return p, api.ErrSpend
	case len(p)+len(t.Out) >= 49:
		return p, api.ErrFull
	}
	b.put(id, t.Out)
	return b.coins(), api.OK
}

func wantApply(p []api.Coin, l []api.Tx) ([]api.Coin, api.Errno) {
	if !wantMay(p) {
		return p, api.ErrArg
	}
	if len(l) >= 5 {
		return p, api.ErrSize
	}
	now, all := p, 0
	for i, t := range l {
		if i == 0 && len(t.In) == 0 {
			continue
		}
		next, left, err := wantSpend(now, t)
		if err != api.OK {
			return p, err
		}
		now, all = next, all+left
	}
	if len(l) == 0 || len(l[0].In) > 0 {
		return now, api.OK
	}
	next, err := wantMint(now, l[0], wantId(l[0]), all)
	if err != api.OK {
		return p, err
	}
	return next, api.OK
}

// Coins and transactions to ask of

// idAt are ids that rise with k, with gaps between; what follows the bytes that rise falls.
func idAt(k int) api.Id {
	var id api.Id
	binary.BigEndian.PutUint32(id[3:], uint32(2*k+2))
	binary.BigEndian.PutUint32(id[20:], uint32(1<<32-1-k))
	return id
}

// someCoins are n that may be, if there are not too many: three of each Tx.
func someCoins(n int) []api.Coin {
	var p []api.Coin
	for i := range n {
		p = append(p, api.Coin{
			In:  api.In{Tx: idAt(i / 3), I: i % 3},
			Out: api.Out{V: goodV[i%len(goodV)], To: goodTo[i%len(goodTo)]},
		})
	}
	return p
}

// evenCoins are n that may be, each of a Tx of its own, and all worth as much.
func evenCoins(n, v int) []api.Coin {
	var p []api.Coin
	for i := range n {
		p = append(p, api.Coin{In: api.In{Tx: idAt(i), I: i % 3}, Out: api.Out{V: v, To: i % 256}})
	}
	return p
}

// made is a transaction without Ins.
func made(v ...int) api.Tx {
	var t api.Tx
	for i, n := range v {
		t.Out = append(t.Out, api.Out{V: n, To: i})
	}
	return t
}

// paid is a transaction that spends these coins.
func paid(p []api.Coin, v ...int) api.Tx {
	t := made(v...)
	for _, c := range p {
		t.In = append(t.In, c.In)
	}
	return t
}

// sorted are coins by rising keys.
func sorted(p ...api.Coin) []api.Coin {
	l := slices.Clone(p)
	sort.Slice(l, func(i, j int) bool { return keyOf(l[i].In) < keyOf(l[j].In) })
	return l
}

func coinOf(id api.Id, i, v int) api.Coin {
	return api.Coin{In: api.In{Tx: id, I: i}, Out: api.Out{V: v, To: 9}}
}

func numbersOf(kind string) (good, bad []int) {
	switch kind {
	case "I":
		return goodI, badI
	case "V":
		return goodV, badV
	}
	return goodTo, badTo
}

var kinds = []string{"I", "V", "To"}

// but are coins with another number at one place.
func but(p []api.Coin, at int, kind string, n int) []api.Coin {
	other := slices.Clone(p)
	switch kind {
	case "I":
		other[at].In.I = n
	case "V":
		other[at].Out.V = n
	default:
		other[at].Out.To = n
	}
	return other
}

// badCoins are lists that may not be, each by one thing alone.
func badCoins() [][]api.Coin {
	l := [][]api.Coin{someCoins(49), someCoins(50), evenCoins(96, 1), someCoins(1000)}
	for _, n := range []int{1, 2, 3, 48} {
		for _, kind := range kinds {
			_, bad := numbersOf(kind)
			for i, number := range bad {
				l = append(l, but(evenCoins(n, 7), i%n, kind, number))
			}
		}
	}
	for _, n := range []int{2, 3, 7, 48} {
		turned := someCoins(n)
		slices.Reverse(turned)
		swapped := someCoins(n)
		swapped[0], swapped[n-1] = swapped[n-1], swapped[0]
		twice := someCoins(n)
		twice[n-1].In = twice[n-2].In
		l = append(l, turned, swapped, twice)
	}
	return l
}

// badTxs are such as may not be, with Ins that could be some of these coins.
func badTxs(p []api.Coin) []api.Tx {
	one := paid(p[:1], 1)
	l := []api.Tx{
		{}, {In: one.In}, {In: one.In, Out: []api.Out{}}, paid(p[:4], 1), paid(p[:1], 1, 1, 1, 1), paid(nil, 0),
		{In: slices.Concat(one.In, one.In), Out: one.Out}, {In: slices.Concat(one.In, paid(p[1:2]).In, one.In), Out: one.Out},
	}
	for _, n := range badI {
		l = append(l, api.Tx{In: []api.In{{Tx: p[0].In.Tx, I: n}}, Out: one.Out})
	}
	for _, n := range badV {
		l = append(l, paid(p[:1], n), paid(p[:1], 1, n), paid(p[:1], n, 1, 1))
	}
	for _, n := range badTo {
		l = append(l, api.Tx{In: one.In, Out: []api.Out{{V: 1, To: n}}}, api.Tx{In: one.In, Out: []api.Out{{V: 1}, {V: 1, To: n}}})
	}
	return l
}

const room = 2 // how many more stand behind each list that is handed in

// shelf is what a call is handed: coins and transactions, with more behind each of their lists, which no call may touch.
type shelf struct {
	coins []api.Coin
	txs   []api.Tx
}

func shelve(p []api.Coin, l []api.Tx) shelf {
	behind := api.Coin{In: api.In{Tx: api.Id{7, 7, 7}, I: 77}, Out: api.Out{V: -7, To: 777}}
	s := shelf{coins: append(slices.Clone(p), behind, behind)[:len(p)]}
	for _, t := range append(slices.Clone(l), made(77), made(78)) {
		s.txs = append(s.txs, api.Tx{
			In:  append(slices.Clone(t.In), behind.In, behind.In)[:len(t.In)],
			Out: append(slices.Clone(t.Out), behind.Out, behind.Out)[:len(t.Out)],
		})
	}
	s.txs = s.txs[:len(l)]
	return s
}

func sameTx(a, b api.Tx) bool {
	return slices.Equal(a.In, b.In) && slices.Equal(a.Out, b.Out)
}

func cloneTx(t api.Tx) api.Tx {
	return api.Tx{In: slices.Clone(t.In), Out: slices.Clone(t.Out)}
}

// whole is a transaction with what stands behind its lists.
func whole(t api.Tx) api.Tx {
	return api.Tx{In: t.In[:len(t.In)+room], Out: t.Out[:len(t.Out)+room]}
}

func (s shelf) same(other shelf) bool {
	n, m := len(s.coins)+room, len(s.txs)+room
	return wantSame(s.coins[:n], other.coins[:n]) && slices.EqualFunc(s.txs[:m], other.txs[:m], func(a, b api.Tx) bool {
		return sameTx(whole(a), whole(b))
	})
}

func (s shelf) spoil() {
	for _, t := range s.txs {
		clear(t.In)
		clear(t.Out)
	}
	clear(s.coins)
	clear(s.txs)
}

func spoil(p []api.Coin) {
	p = p[:cap(p)]
	for i := range p {
		p[i] = api.Coin{In: api.In{I: 99}, Out: api.Out{V: 99}}
	}
}

func tell(l ...api.Tx) string {
	text := strconv.Itoa(len(l)) + " of them:"
	for _, t := range l[:min(len(l), 5)] {
		ins, outs := t.In[:min(len(t.In), 4)], t.Out[:min(len(t.Out), 4)]
		text += fmt.Sprintf(" %d Ins %.8x, %d Outs %d;", len(t.In), ins, len(t.Out), outs)
	}
	return text
}

// asked is what a call answers of coins and transactions, held against R3.
func asked(t *testing.T, p []api.Coin, l []api.Tx, call func([]api.Coin, []api.Tx) []api.Coin) []api.Coin {
	t.Helper()
	s := shelve(p, l)
	first, second := call(s.coins, s.txs), call(s.coins, s.txs)
	kept := slices.Clone(first)
	if !wantSame(second, kept) {
		t.Errorf("%d coins, %s: asked again, another answer", len(p), tell(l...))
	}
	spoil(second)
	if !s.same(shelve(p, l)) {
		t.Errorf("%d coins, %s: what was handed in is not as it was", len(p), tell(l...))
	}
	s.spoil()
	if !wantSame(first, kept) {
		t.Errorf("%d coins, %s: what was answered changed with what was handed in, or with another answer", len(p), tell(l...))
	}
	return first
}

// held holds P10.4 against coins that came of others.
func held(t *testing.T, p, next []api.Coin) {
	t.Helper()
	if wantMay(p) && (!May(next) || !wantMay(next) || Sum(next) != wantSum(next) || Sum(next) > wantSum(p)+50) {
		t.Errorf("of %d coins, worth %d, came %d, worth %d", len(p), wantSum(p), len(next), wantSum(next))
	}
}

// spent is what Spend answers, held against the chapter's words.
func spent(t *testing.T, p []api.Coin, x api.Tx) ([]api.Coin, int, api.Errno) {
	t.Helper()
	var left int
	var err api.Errno
	next := asked(t, p, []api.Tx{x}, func(p []api.Coin, l []api.Tx) []api.Coin {
		var next []api.Coin
		next, left, err = Spend(p, l[0])
		return next
	})
	want, wantLeft, wantErr := wantSpend(p, x)
	if !wantSame(next, want) || left != wantLeft || err != wantErr {
		t.Errorf("%d coins, %s: %d coins, %d, %d, not %d coins, %d, %d", len(p), tell(x), len(next), left, err, len(want), wantLeft, wantErr)
	}
	held(t, p, next)
	if err == api.OK && wantSum(next)+left != wantSum(p) {
		t.Errorf("%d coins, %s: worth %d, and %d is left", len(p), tell(x), wantSum(next), left)
	}
	return next, left, err
}

// applied is what Apply answers, held against the chapter's words.
func applied(t *testing.T, p []api.Coin, l []api.Tx) ([]api.Coin, api.Errno) {
	t.Helper()
	var err api.Errno
	next := asked(t, p, l, func(p []api.Coin, l []api.Tx) []api.Coin {
		var next []api.Coin
		next, err = Apply(p, l)
		return next
	})
	want, wantErr := wantApply(p, l)
	if !wantSame(next, want) || err != wantErr {
		t.Errorf("%d coins, %s: %d coins, %d, not %d coins, %d", len(p), tell(l...), len(next), err, len(want), wantErr)
	}
	held(t, p, next)
	return next, err
}

func spendIs(t *testing.T, p []api.Coin, x api.Tx, want api.Errno) {
	t.Helper()
	if _, _, err := spent(t, p, x); err != want {
		t.Errorf("%d coins, %s: %d, not %d", len(p), tell(x), err, want)
	}
}

func applyIs(t *testing.T, p []api.Coin, want api.Errno, l ...api.Tx) {
	t.Helper()
	if _, err := applied(t, p, l); err != want {
		t.Errorf("%d coins, %s: %d, not %d", len(p), tell(l...), err, want)
	}
}

func unhex(t *testing.T, text string) api.Id {
	t.Helper()
	b, err := hex.DecodeString(text)
	if err != nil || len(b) != 32 {
		t.Fatal(text, err)
	}
	return api.Id(b)
}

// The chapter's examples, and others written out by hand

func TestExamples(t *testing.T) {
	for _, p := range [][]api.Coin{nil, {}, someCoins(1), someCoins(47)} {
		next, err := applied(t, p, []api.Tx{made(50)})
		if err != api.OK || len(next) != len(p)+1 || Sum(next) != Sum(p)+50 {
			t.Errorf("%d coins: %d coins, %d", len(p), len(next), err)
		}
		applyIs(t, p, api.ErrSpend, made(51))
	}
}

func TestKnownCoins(t *testing.T) {
	one := unhex(t, "e72ec01fa35ec13b72bee95ca8ec2f28d04dbc6668c715a0f2dc3dffe08f5618")
	first := api.Tx{Out: []api.Out{{V: 50, To: 7}}}
	p, err := Apply(nil, []api.Tx{first})
	want := []api.Coin{{In: api.In{Tx: one}, Out: api.Out{V: 50, To: 7}}}
	if err != api.OK || !wantSame(p, want) {
		t.Fatal(p, err)
	}
	next := api.Tx{In: []api.In{{Tx: one}}, Out: []api.Out{{V: 30, To: 8}, {V: 19, To: 255}}}
	two := unhex(t, "2da11ccc5b4b0e98d414acd6ad542740e2c3e45d1bea2bd2f6138e43860b98f3")
	want = []api.Coin{{In: api.In{Tx: two}, Out: api.Out{V: 30, To: 8}}, {In: api.In{Tx: two, I: 1}, Out: api.Out{V: 19, To: 255}}}
	q, left, err := Spend(p, next)
	if err != api.OK || left != 1 || !wantSame(q, want) {
		t.Error(q, left, err)
	}
	// What is left is the first one's to make. Its id begins by a greater byte.
	rich := api.Tx{Out: []api.Out{{V: 51, To: 7}}}
	three := unhex(t, "379a55455c9159ddd0e2d1cc7eefb1e2b539a2babbad44c86329638dc081a7cd")
	want = append(want, api.Coin{In: api.In{Tx: three}, Out: api.Out{V: 51, To: 7}})
	if q, err := Apply(p, []api.Tx{rich, next}); err != api.OK || !wantSame(q, want) {
		t.Error(q, err)
	}
}

// P10.1

func mayIs(t *testing.T, p []api.Coin, want bool) {
	t.Helper()
	asked(t, p, nil, func(p []api.Coin, _ []api.Tx) []api.Coin {
		sum := 0
		for _, c := range p {
			if want {
				sum += c.Out.V
			}
		}
		if may := May(p); may != want || may != wantMay(p) {
			t.Errorf("%d coins: %v", len(p), may)
		}
		if got := Sum(p); got != sum {
			t.Errorf("%d coins: worth %d, not %d", len(p), got, sum)
		}
		return nil
	})
}

func TestMayOfNone(t *testing.T) {
	for _, p := range [][]api.Coin{nil, {}, make([]api.Coin, 0, 60), someCoins(60)[:0]} {
		mayIs(t, p, true)
	}
}

func TestMayOfEachCount(t *testing.T) {
	for n := range 200 {
		mayIs(t, someCoins(n), n <= 48)
		mayIs(t, evenCoins(n, 1<<40), n <= 48)
	}
	for _, n := range []int{255, 256, 257, 304, 512, 1000, 65536, 65584, 1 << 18} {
		mayIs(t, someCoins(n), false)
	}
}

func TestMayOfEachNumberAtEachPlace(t *testing.T) {
	for _, n := range []int{1, 2, 3, 4, 47, 48} {
		for at := range n {
			for _, kind := range kinds {
				good, bad := numbersOf(kind)
				for _, number := range good {
					mayIs(t, but(evenCoins(n, 7), at, kind, number), true)
				}
				for _, number := range bad {
					mayIs(t, but(evenCoins(n, 7), at, kind, number), false)
				}
			}
		}
	}
}

// A number of one kind is not held against what another kind's may be.
func TestMayOfNumbersAtTheirEdges(t *testing.T) {
	for _, i := range []int{-1, 0, 1, 2, 3} {
		for _, v := range []int{-1, 0, 1, 2, 255, 256, 1<<40 - 1, 1 << 40, 1<<40 + 1} {
			for _, to := range []int{-1, 0, 1, 2, 3, 255, 256} {
				may := i >= 0 && i <= 2 && v >= 1 && v <= 1<<40 && to >= 0 && to <= 255
				c := api.Coin{In: api.In{I: i}, Out: api.Out{V: v, To: to}}
				mayIs(t, []api.Coin{c}, may)
				mayIs(t, []api.Coin{c, coinOf(idAt(0), 0, 1)}, may)
			}
		}
	}
}

// Of ids that differ by one bit alone, the order is that of this bit; the I and what coins are worth change nothing.
func TestMayByRisingTx(t *testing.T) {
	for at := range 32 {
		for bit := byte(1); bit != 0; bit <<= 1 {
			low := idAt(1000)
			low[at] &^= bit
			high := low
			high[at] |= bit
			for _, i := range goodI {
				for _, j := range goodI {
					a, b := coinOf(low, i, 5), coinOf(high, j, 4)
					mayIs(t, []api.Coin{a, b}, true)
					mayIs(t, []api.Coin{b, a}, false)
				}
			}
		}
	}
}

// The first byte that differs counts, the ones behind it do not.
func TestMayByTheFirstByteThatDiffers(t *testing.T) {
	for at := range 31 {
		low, high := api.Id{}, api.Id{}
		low[at], high[at] = 127, 128
		for k := at + 1; k < 32; k++ {
			low[k] = 255
		}
		mayIs(t, []api.Coin{coinOf(low, 2, 9), coinOf(high, 0, 1)}, true)
		mayIs(t, []api.Coin{coinOf(high, 0, 1), coinOf(low, 2, 9)}, false)
	}
}

// All lists of up to four coins of one Tx.
func TestMayByRisingI(t *testing.T) {
	lists := [][]int{{}}
	for k := 0; k < len(lists); k++ {
		var p []api.Coin
		may := true
		for at, i := range lists[k] {
			p = append(p, coinOf(idAt(3), i, 9-at))
			may = may && i >= 0 && i <= 2 && (at == 0 || lists[k][at-1] < i)
		}
		mayIs(t, p, may)
		mayIs(t, slices.Concat([]api.Coin{coinOf(idAt(2), 2, 1)}, p, []api.Coin{coinOf(idAt(4), 0, 1)}), may)
		if len(p) < 4 {
			for i := -1; i <= 3; i++ {
				lists = append(lists, append(slices.Clone(lists[k]), i))
			}
		}
	}
}

func TestMayOfCoinsOutOfOrder(t *testing.T) {
	for _, n := range []int{2, 3, 4, 10, 47, 48} {
		for a := range n {
			for b := range a {
				swapped := someCoins(n)
				swapped[a], swapped[b] = swapped[b], swapped[a]
				mayIs(t, swapped, false)
				moved := someCoins(n)
				moved = slices.Insert(slices.Delete(moved, a, a+1), b, someCoins(n)[a])
				mayIs(t, moved, false)
			}
		}
		turned := someCoins(n)
		slices.Reverse(turned)
		mayIs(t, turned, false)
	}
}

// The same coin twice, next to one another and not, may be no coins, be they worth the same or not.
func TestMayOfCoinsTwice(t *testing.T) {
	for _, n := range []int{1, 2, 3, 10, 47} {
		for at := range n {
			for to := range n + 1 {
				twice := slices.Insert(someCoins(n), to, someCoins(n)[at])
				mayIs(t, twice, false)
				twice[to].Out = api.Out{V: 77, To: 77}
				mayIs(t, twice, false)
			}
		}
		mayIs(t, slices.Repeat(someCoins(1), n+1), false)
	}
}

func oneByte(at int, b byte) api.Id {
	var id api.Id
	id[at] = b
	return id
}

// mixedCoins are lists of which about half may be: of few ids, in order or nearly, and with a wrong number now and then.
func mixedCoins(n int) [][]api.Coin {
	r := rand.New(rand.NewSource(21))
	pick := func(good, bad []int) int {
		if r.Intn(100) == 0 {
			return bad[r.Intn(len(bad))]
		}
		return good[r.Intn(len(good))]
	}
	var all [][]api.Coin
	for range n {
		b := book{}
		for range r.Intn(12) {
			in := api.In{Tx: oneByte(r.Intn(32), byte(r.Intn(3))), I: pick(goodI, badI)}
			b[in] = api.Out{V: pick(goodV, badV), To: pick(goodTo, badTo)}
		}
		p := b.coins()
		if len(p) > 1 && r.Intn(5) == 0 {
			a := r.Intn(len(p) - 1)
			p[a], p[a+1] = p[a+1], p[a]
		}
		if len(p) > 1 && r.Intn(5) == 0 {
			p[r.Intn(len(p))].In = p[r.Intn(len(p))].In
		}
		all = append(all, p)
	}
	return all
}

func TestMayOfAnyCoins(t *testing.T) {
	may := 0
	for _, p := range mixedCoins(20000) {
		mayIs(t, p, wantMay(p))
		if wantMay(p) {
			may++
		}
	}
	if may < 5000 || may > 15000 {
		t.Errorf("%d may be", may)
	}
	for _, p := range badCoins() {
		mayIs(t, p, false)
	}
}

func sameIs(t *testing.T, a, b []api.Coin, want bool) {
	t.Helper()
	if Same(a, b) != want || Same(b, a) != want || wantSame(a, b) != want {
		t.Errorf("%d and %d coins: not %v", len(a), len(b), want)
	}
}

func TestSameOfNone(t *testing.T) {
	for _, a := range [][]api.Coin{nil, {}, make([]api.Coin, 0, 5), someCoins(5)[:0]} {
		for _, b := range [][]api.Coin{nil, {}, make([]api.Coin, 0, 5), someCoins(5)[:0]} {
			sameIs(t, a, b, true)
		}
		sameIs(t, a, make([]api.Coin, 1), false)
		sameIs(t, a, someCoins(48), false)
	}
}

func TestSameOfBeginnings(t *testing.T) {
	for _, n := range []int{1, 2, 3, 47, 48, 49, 1000} {
		sameIs(t, someCoins(n), someCoins(n), true)
		for k := range n {
			sameIs(t, someCoins(n), someCoins(n)[:k], false)
			sameIs(t, someCoins(n), someCoins(k), false)
		}
		sameIs(t, someCoins(n), append(someCoins(n), api.Coin{}), false)
		sameIs(t, someCoins(n), someCoins(n)[1:], false)
	}
}

func TestSameOfOnePartThatDiffers(t *testing.T) {
	for _, n := range []int{1, 2, 3, 48, 49} {
		for at := range n {
			for _, kind := range kinds {
				good, bad := numbersOf(kind)
				for _, number := range slices.Concat(good, bad) {
					other := but(someCoins(n), at, kind, number)
					sameIs(t, someCoins(n), other, other[at] == someCoins(n)[at])
				}
			}
			for k := range 32 {
				other := someCoins(n)
				other[at].In.Tx[k] ^= 1 << (k % 8)
				sameIs(t, someCoins(n), other, false)
			}
		}
	}
}

// What may not be can be the same, and the order counts.
func TestSameOfAnyCoins(t *testing.T) {
	for _, p := range slices.Concat(badCoins(), mixedCoins(300)) {
		sameIs(t, p, slices.Clone(p), true)
		turned := slices.Clone(p)
		slices.Reverse(turned)
		sameIs(t, p, turned, wantSame(p, turned))
	}
	l := mixedCoins(300)
	for i, p := range l {
		sameIs(t, p, l[(i+1)%len(l)], wantSame(p, l[(i+1)%len(l)]))
	}
}

func findIs(t *testing.T, p []api.Coin, x api.In, want int) {
	t.Helper()
	if got := Find(p, x); got != want || want != wantFind(p, x) {
		t.Errorf("%d coins, %.8x %d: %d, not %d", len(p), x.Tx, x.I, got, want)
	}
}

func TestFindOfNone(t *testing.T) {
	for _, p := range [][]api.Coin{nil, {}, make([]api.Coin, 0, 5), someCoins(5)[:0]} {
		findIs(t, p, api.In{}, -1)
		findIs(t, p, someCoins(1)[0].In, -1)
	}
}

func TestFindOfEachCoin(t *testing.T) {
	for _, n := range []int{1, 2, 3, 4, 5, 7, 8, 9, 46, 47, 48, 49, 50, 1000} {
		for at := range n {
			findIs(t, someCoins(n), someCoins(n)[at].In, at)
			findIs(t, evenCoins(n, 1), evenCoins(n, 1)[at].In, at)
		}
	}
	many := someCoins(1 << 18)
	for _, at := range []int{0, 1, 47, 48, 1 << 17, 1<<18 - 1} {
		findIs(t, many, many[at].In, at)
	}
}

// Ids are ahead of all, between each two, and behind all; and of one Tx each I but those that are there.
func TestFindOfWhatIsNotThere(t *testing.T) {
	for _, n := range []int{1, 2, 3, 8, 47, 48, 49} {
		p := evenCoins(n, 1)
		for _, i := range slices.Concat(goodI, badI) {
			findIs(t, p, api.In{I: i}, -1)
			findIs(t, p, api.In{Tx: api.Id{255, 255}, I: i}, -1)
			for at := range n {
				between := p[at].In.Tx
				between[31]++
				findIs(t, p, api.In{Tx: between, I: i}, -1)
				between[31] -= 2
				findIs(t, p, api.In{Tx: between, I: i}, -1)
				if i != p[at].In.I {
					findIs(t, p, api.In{Tx: p[at].In.Tx, I: i}, -1)
				}
			}
		}
	}
}

func TestFindInCoinsOutOfOrder(t *testing.T) {
	for _, n := range []int{2, 3, 7, 48, 49, 200} {
		turned := someCoins(n)
		slices.Reverse(turned)
		for at := range n {
			findIs(t, turned, turned[at].In, at)
			swapped := someCoins(n)
			swapped[0], swapped[at] = swapped[at], swapped[0]
			for k := range n {
				findIs(t, swapped, swapped[k].In, k)
			}
			findIs(t, slices.Delete(swapped, at, at+1), someCoins(n)[0].In, -1)
		}
		findIs(t, turned, api.In{}, -1)
		findIs(t, turned, api.In{Tx: idAt(n), I: 0}, -1)
	}
}

// Of coins that are there twice, the first one is told, next to one another and not.
func TestFindInCoinsTwice(t *testing.T) {
	for _, n := range []int{1, 2, 3, 10, 48} {
		for at := range n {
			for to := range n + 1 {
				twice := slices.Insert(someCoins(n), to, someCoins(n)[at])
				findIs(t, twice, twice[to].In, min(at, to))
			}
		}
		for _, more := range []int{2, 3, 50} {
			same := slices.Repeat(someCoins(n), more)
			for at := range n {
				findIs(t, same, same[at].In, at)
			}
			findIs(t, slices.Repeat(someCoins(1), n+more), someCoins(1)[0].In, 0)
		}
	}
}

// Numbers that may not be change nothing of it.
func TestFindInAnyCoins(t *testing.T) {
	for _, p := range slices.Concat(mixedCoins(3000), badCoins()) {
		for _, c := range p[:min(len(p), 60)] {
			findIs(t, p, c.In, wantFind(p, c.In))
			for _, i := range []int{-1, 0, 1, 2, 3} {
				x := api.In{Tx: c.In.Tx, I: i}
				findIs(t, p, x, wantFind(p, x))
			}
		}
		for at := range 32 {
			for b := range 3 {
				x := api.In{Tx: oneByte(at, byte(b)), I: b}
				findIs(t, p, x, wantFind(p, x))
			}
		}
	}
}

func TestSumOfTheMost(t *testing.T) {
	for n := range 49 {
		if got := Sum(evenCoins(n, 1<<40)); got != n<<40 {
			t.Errorf("%d coins: %d", n, got)
		}
	}
	if got := Sum(evenCoins(48, 1<<40)); got != 52776558133248 {
		t.Error(got)
	}
	for _, p := range [][]api.Coin{evenCoins(49, 1<<40), evenCoins(48, 1<<40+1), but(evenCoins(48, 1<<40), 47, "V", -1)} {
		if got := Sum(p); got != 0 {
			t.Errorf("%d coins: %d", len(p), got)
		}
	}
}

// P10.2

func TestSpendOfCoinsThatMayNotBe(t *testing.T) {
	for _, p := range badCoins() {
		spendIs(t, p, paid(p[:1], 1), api.ErrArg)
		spendIs(t, p, paid(p[len(p)-1:], 1), api.ErrArg)
		spendIs(t, p, made(1), api.ErrArg)
		spendIs(t, p, api.Tx{}, api.ErrArg)
	}
}

func TestSpendOfTransactionsThatMayNotBe(t *testing.T) {
	p := someCoins(20)
	for _, x := range badTxs(p) {
		spendIs(t, p, x, api.ErrArg)
		spendIs(t, nil, x, api.ErrArg)
	}
	spendIs(t, p, paid(p, 1), api.ErrArg)
	spendIs(t, p, made(slices.Repeat([]int{1}, 1000)...), api.ErrArg)
}

func TestSpendWithoutIns(t *testing.T) {
	for _, p := range [][]api.Coin{nil, {}, someCoins(1), someCoins(48)} {
		for _, ins := range [][]api.In{nil, {}} {
			spendIs(t, p, api.Tx{In: ins, Out: made(1).Out}, api.ErrArg)
			spendIs(t, p, api.Tx{In: ins, Out: made(1<<40, 1).Out}, api.ErrArg)
		}
	}
}

// Each choice of up to three coins, in each order, and what is left of them.
func TestSpendOfEachCoin(t *testing.T) {
	for _, n := range []int{1, 2, 3, 4, 8} {
		p := someCoins(n)
		for a := range n {
			for b := range n {
				for c := range n {
					picks := [][]api.Coin{{p[a]}, {p[a], p[b]}, {p[a], p[b], p[c]}}
					for k, in := range picks {
						if k > 0 && a == b || k > 1 && (a == c || b == c) {
							continue
						}
						next, left, err := spent(t, p, paid(in, 1))
						if err != api.OK || len(next) != n-k || left != Sum(sorted(in...))-1 {
							t.Errorf("%d, %d, %d of %d: %d coins, %d, %d", a, b, c, n, len(next), left, err)
						}
					}
				}
			}
		}
	}
}

func TestSpendOfTheFirstTheLastAndAll(t *testing.T) {
	for _, n := range []int{1, 2, 3, 47, 48} {
		p := evenCoins(n, 10)
		for _, in := range [][]api.Coin{p[:1], p[n-1:], p[:min(n, 3)], p[max(n-3, 0):], sorted(slices.Concat(p[:1], p[n-1:])...)} {
			x := paid(slices.Compact(in), 3, 2)
			next, left, err := spent(t, p, x)
			want := api.OK
			if n-len(x.In)+2 > 48 {
				want = api.ErrFull
			}
			if err != want || want == api.OK && left != 10*len(x.In)-5 {
				t.Fatalf("%d coins, %s: %d, %d", n, tell(x), left, err)
			}
			for i := range x.In {
				if want == api.OK && Find(next, x.In[i]) != -1 {
					t.Errorf("%d coins, %s: coin %d is still there", n, tell(x), i)
				}
			}
		}
	}
}

// Coins that stay are as they were, those that are made are of the transaction's Id and from 0 on, and in order.
func TestSpendMakesItsOutsCoins(t *testing.T) {
	for _, n := range []int{1, 2, 3, 20, 46} {
		p := someCoins(n)
		p[0].Out.V = 1 << 40
		for v := range 300 {
			x := paid(p[:1], []int{v + 1, 2 * v, 1 << 30}[:1+v%3]...)
			if v == 0 {
				x = paid(p[:1], 1)
			}
			next, left, err := spent(t, p, x)
			if err != api.OK || left != 1<<40-worth(x.Out) || len(next) != n-1+len(x.Out) {
				t.Fatalf("%d coins, %s: %d coins, %d, %d", n, tell(x), len(next), left, err)
			}
			for i, out := range x.Out {
				at := Find(next, api.In{Tx: wantId(x), I: i})
				if at < 0 || next[at].Out != out {
					t.Errorf("%d coins, %s: coin %d is at %d", n, tell(x), i, at)
				}
			}
			for _, c := range p[1:] {
				if at := Find(next, c.In); at < 0 || next[at] != c {
					t.Errorf("%d coins, %s: another coin is at %d", n, tell(x), at)
				}
			}
		}
	}
}

func TestSpendOfCoinsThatAreNotThere(t *testing.T) {
	none := []api.In{
		{}, {I: 2}, {Tx: api.Id{255, 255}}, {Tx: idAt(0), I: 1}, {Tx: idAt(0), I: 2}, {Tx: idAt(1), I: 0}, {Tx: idAt(5)}, {Tx: idAt(6), I: 1},
	}
	p := evenCoins(5, 10)
	for _, in := range none {
		spendIs(t, nil, api.Tx{In: []api.In{in}, Out: made(1).Out}, api.ErrSpend)
		for n := range 3 {
			for at := range n + 1 {
				x := paid(p[:n], 1)
				x.In = slices.Insert(x.In, at, in)
				spendIs(t, p, x, api.ErrSpend)
			}
		}
	}
	all := api.Tx{In: none[:3], Out: made(1).Out}
	spendIs(t, p, all, api.ErrSpend)
	spendIs(t, p[1:], paid(p[:1], 1), api.ErrSpend)
	spendIs(t, p[:4], paid(p[4:], 1), api.ErrSpend)
	spendIs(t, slices.Concat(p[:2], p[3:]), paid(p[1:4], 1), api.ErrSpend)
}

func TestSpendOfAsMuchAsThereIs(t *testing.T) {
	for _, v := range []int{2, 3, 50, 1<<32 - 1, 1 << 39} {
		for ins := 1; ins <= 3; ins++ {
			for outs := 1; outs <= 3; outs++ {
				for less := -1; less <= 1; less++ {
					p := evenCoins(10, v)
					most := v*ins - less
					each := slices.Repeat([]int{1}, outs)
					if most < outs || most-outs+1 > 1<<40 {
						continue
					}
					each[outs-1] = most - outs + 1
					next, left, err := spent(t, p, paid(p[3:3+ins], each...))
					if less < 0 && err != api.ErrSpend || less >= 0 && (err != api.OK || left != less || len(next) != 10-ins+outs) {
						t.Errorf("%d Ins, %d Outs of %d: %d coins, %d, %d", ins, outs, most, len(next), left, err)
					}
				}
			}
		}
	}
	rich := evenCoins(4, 1<<40)
	spendIs(t, rich, paid(rich[:3], 1<<40, 1<<40, 1<<40), api.OK)
	spendIs(t, rich, paid(rich[:2], 1<<40, 1<<40, 1), api.ErrSpend)
	spendIs(t, rich, paid(rich[1:2], 1<<40), api.OK)
	spendIs(t, rich, paid(rich[1:2], 1<<40, 1), api.ErrSpend)
}

// The coins that stay have the transaction's Id, at each I, those that it would make and others.
func TestSpendOfAnIdThatIsThere(t *testing.T) {
	p := evenCoins(10, 10)
	for outs := 1; outs <= 3; outs++ {
		x := paid(p[2:4], slices.Repeat([]int{2}, outs)...)
		id := wantId(x)
		for i := range 3 {
			spendIs(t, sorted(append(slices.Clone(p), coinOf(id, i, 1))...), x, api.ErrThere)
			spendIs(t, sorted(append(slices.Clone(p), coinOf(id, i, 1), coinOf(id, (i+1)%3, 1<<40))...), x, api.ErrThere)
			spendIs(t, sorted(p[2], p[3], coinOf(id, i, 1)), x, api.ErrThere)
			near := id
			near[31] ^= 1
			spendIs(t, sorted(append(slices.Clone(p), coinOf(near, i, 1))...), x, api.OK)
			near = id
			near[0] ^= 128
			spendIs(t, sorted(append(slices.Clone(p), coinOf(near, i, 1))...), x, api.OK)
		}
		spendIs(t, p, x, api.OK)
	}
}

// No transaction is known that spends coins of its own Id; so the id is handed in here.
func TestExchangeOfAnyId(t *testing.T) {
	for _, n := range []int{1, 2, 3, 4, 6, 45, 46, 47, 48} {
		p := someCoins(n)
		for ins := 1; ins <= min(n, 3); ins++ {
			for at := 0; at+ins <= n; at++ {
				for outs := 1; outs <= 3; outs++ {
					x := paid(p[at:at+ins], slices.Repeat([]int{1}, outs)...)
					for _, id := range []api.Id{p[at].In.Tx, p[0].In.Tx, p[n-1].In.Tx, {}, {255}} {
						next, left, err := exchange(slices.Clone(p), cloneTx(x), id)
						want, wantLeft, wantErr := wantExchange(p, x, id)
						if err != wantErr || left != wantLeft || err == api.OK && !wantSame(next, want) {
							t.Errorf("%d coins, %s of %.8x: %d coins, %d, %d", n, tell(x), id, len(next), left, err)
						}
					}
				}
			}
		}
	}
	p := someCoins(6) // three of the first id, three of the second one
	own, other := p[0].In.Tx, p[3].In.Tx
	for _, c := range []struct {
		in   []api.Coin
		id   api.Id
		want api.Errno
	}{
		{p[:3], own, api.OK}, {p[:2], own, api.ErrThere}, {p[1:3], own, api.ErrThere}, {p[:3], other, api.ErrThere},
		{p[3:], other, api.OK}, {p[4:], other, api.ErrThere}, {p[3:5], other, api.ErrThere}, {p[2:4], own, api.ErrThere},
	} {
		if _, _, err := exchange(p, paid(c.in, 1), c.id); err != c.want {
			t.Errorf("%d coins go: %d, not %d", len(c.in), err, c.want)
		}
	}
	next, _, err := exchange(p, paid(p[:3], 1, 1), own)
	want := slices.Concat([]api.Coin{{In: p[0].In, Out: api.Out{V: 1}}, {In: p[1].In, Out: api.Out{V: 1, To: 1}}}, p[3:])
	if err != api.OK || !wantSame(next, want) {
		t.Error(next, err)
	}
}

func TestSpendUpToTheMostCoins(t *testing.T) {
	for n := 40; n <= 48; n++ {
		p := evenCoins(n, 10)
		for ins := 1; ins <= 3; ins++ {
			for outs := 1; outs <= 3; outs++ {
				behind := n - ins + outs
				next, left, err := spent(t, p, paid(p[5:5+ins], slices.Repeat([]int{3}, outs)...))
				if behind <= 48 && (err != api.OK || len(next) != behind || left != 10*ins-3*outs) || behind > 48 && err != api.ErrFull {
					t.Errorf("%d coins less %d, and %d more: %d coins, %d, %d", n, ins, outs, len(next), left, err)
				}
			}
		}
	}
	p := evenCoins(48, 10)
	for want, x := range map[int]api.Tx{47: paid(p[:2], 1), 48: paid(p[:1], 1), 46: paid(p[:3], 1)} {
		if next, _, err := Spend(p, x); err != api.OK || len(next) != want || !May(next) {
			t.Errorf("%d coins, not %d: %d", len(next), want, err)
		}
	}
	spendIs(t, p, paid(p[:1], 1, 1), api.ErrFull)
	spendIs(t, p, paid(p[:2], 1, 1, 1), api.ErrFull)
}

// All errors at once, in each choice of them: the first one counts.
func TestSpendTellsTheFirstError(t *testing.T) {
	for which := range 1 << 7 {
		has := func(bit int) bool { return which>>bit&1 == 1 }
		badP, badT, noIn, missing, much, there, full := has(0), has(1), has(2), has(3), has(4), has(5), has(6)
		n := 40
		if full {
			n = 48
		}
		if there {
			n--
		}
		p := evenCoins(n, 10)
		x := paid(p[:1], 4, 4)
		if much {
			x.Out[1].V = 7
		}
		if missing {
			x.In[0].Tx[31]++
		}
		if noIn {
			x.In = nil
		}
		if badT {
			x.Out[1].To = 256
		}
		if there {
			p = sorted(append(p, coinOf(wantId(x), 2, 1))...)
		}
		if badP {
			p[0], p[n-1] = p[n-1], p[0]
		}
		want := api.OK
		switch {
		case badP || badT || noIn:
			want = api.ErrArg
		case missing || much:
			want = api.ErrSpend
		case there:
			want = api.ErrThere
		case full:
			want = api.ErrFull
		}
		spendIs(t, p, x, want)
	}
}

// Of many coins that may not be, and of transactions with many parts.
func TestSpendOfVeryMany(t *testing.T) {
	many := someCoins(1 << 16)
	spendIs(t, many, paid(many[:1], 1), api.ErrArg)
	spendIs(t, many, paid(many, 1), api.ErrArg)
	spendIs(t, many[:48], paid(many, 1), api.ErrArg)
	spendIs(t, many[:48], paid(many[:1], slices.Repeat([]int{1}, 1<<16)...), api.ErrArg)
}

// P10.3

func TestApplyOfNoTransactions(t *testing.T) {
	for n := range 49 {
		for _, l := range [][]api.Tx{nil, {}, make([]api.Tx, 0, 4)} {
			next, err := applied(t, someCoins(n), l)
			if err != api.OK || !wantSame(next, someCoins(n)) {
				t.Errorf("%d coins: %d coins, %d", n, len(next), err)
			}
		}
	}
}

func TestApplyToCoinsThatMayNotBe(t *testing.T) {
	for _, p := range badCoins() {
		applyIs(t, p, api.ErrArg)
		applyIs(t, p, api.ErrArg, made(1))
		applyIs(t, p, api.ErrArg, made(1), paid(p[:1], 1))
		applyIs(t, p, api.ErrArg, slices.Repeat([]api.Tx{paid(p[:1], 1)}, 5)...)
	}
}

func TestApplyOfEachCount(t *testing.T) {
	for n := range 12 {
		p := evenCoins(20, 10)
		with, without := []api.Tx{made(50)}, []api.Tx{}
		for i := range n {
			with = append(with, paid(p[i:i+1], 9))
			without = append(without, paid(p[i:i+1], 9))
		}
		wantWith, wantWithout := api.OK, api.OK
		if n >= 4 {
			wantWith = api.ErrSize
		}
		if n >= 5 {
			wantWithout = api.ErrSize
		}
		applyIs(t, p, wantWith, with...)
		applyIs(t, p, wantWithout, without...)
	}
	for _, n := range []int{5, 6, 100, 256, 260, 1 << 16} {
		applyIs(t, nil, api.ErrSize, make([]api.Tx, n)...)
		applyIs(t, someCoins(3), api.ErrSize, slices.Repeat([]api.Tx{made(1)}, n)...)
	}
}

func TestApplyOfAFirstOneAlone(t *testing.T) {
	for _, n := range []int{0, 1, 44, 45, 46, 47, 48} {
		p := someCoins(n)
		for _, v := range [][]int{{1}, {49}, {50}, {51}, {1 << 40}, {25, 25}, {25, 26}, {49, 1}, {1, 1, 1}, {48, 1, 1}, {48, 1, 2}} {
			want := api.OK
			if n+len(v) > 48 {
				want = api.ErrFull
			}
			if worth(made(v...).Out) > 50 {
				want = api.ErrSpend
			}
			applyIs(t, p, want, made(v...))
		}
		next, err := Apply(p, []api.Tx{{In: []api.In{}, Out: made(50).Out}})
		if n < 48 && (err != api.OK || Find(next, api.In{Tx: wantId(made(50))}) < 0) {
			t.Errorf("%d coins: %d", n, err)
		}
	}
}

// A first one that may not be: with no Ins it is told behind all others, with some as Spend tells it.
func TestApplyOfAFirstOneThatMayNotBe(t *testing.T) {
	p := evenCoins(10, 10)
	for _, x := range badTxs(p) {
		for _, others := range [][]api.Tx{nil, {paid(p[5:6], 3)}, {paid(p[5:6], 3), paid(p[6:7], 10), paid(p[7:], 1, 2, 3)}} {
			applyIs(t, p, api.ErrArg, append([]api.Tx{x}, others...)...)
			applyIs(t, nil, api.ErrArg, x)
		}
	}
	for v := -3; v <= 0; v++ {
		applyIs(t, p, api.ErrArg, made(v))
		applyIs(t, p, api.ErrArg, made(20, v))
	}
	wrong := paid(p[4:5], 11)
	for _, x := range []api.Tx{{}, made(0), made(1, 1, 1, 1), {Out: []api.Out{{V: 1, To: -1}}}} {
		applyIs(t, p, api.ErrSpend, x, wrong)
		applyIs(t, p, api.ErrSpend, x, paid(p[3:4], 10), wrong)
	}
}

func TestApplyOfAFirstOneWithIns(t *testing.T) {
	p := evenCoins(10, 10)
	first := paid(p[:2], 9, 9)
	next, err := applied(t, p, []api.Tx{first})
	spends, left, _ := Spend(p, first)
	if err != api.OK || left != 2 || !wantSame(next, spends) {
		t.Error(next, err)
	}
	applyIs(t, p, api.OK, first, paid(p[2:3], 10))
	applyIs(t, p, api.ErrSpend, paid(p[:2], 10, 11))
	applyIs(t, p, api.ErrSpend, paid(p[:2], 10, 11), paid(p[2:5], 1))
	applyIs(t, p, api.ErrSpend, paid(p[2:3], 10), paid(p[:2], 10, 11))
	full := evenCoins(48, 10)
	applyIs(t, full, api.ErrFull, paid(full[:1], 5, 5))
	applyIs(t, full, api.ErrFull, paid(full[:1], 5, 5), paid(full[1:4], 1))
	applyIs(t, full, api.OK, paid(full[1:4], 1), paid(full[:1], 1, 1, 1))
}

func TestApplyOfOneWithoutInsThatIsNotTheFirst(t *testing.T) {
	p := evenCoins(10, 10)
	spend := []api.Tx{paid(p[:1], 10), paid(p[1:2], 1), paid(p[2:5], 20, 2)}
	for at := 1; at <= 3; at++ {
		for _, ins := range [][]api.In{nil, {}} {
			x := api.Tx{In: ins, Out: made(1).Out}
			applyIs(t, p, api.ErrArg, slices.Insert(slices.Clone(spend), at, x)...)
			applyIs(t, p, api.ErrArg, slices.Insert([]api.Tx{made(5), spend[0], spend[1]}, at, x)...)
			applyIs(t, p, api.ErrArg, slices.Insert([]api.Tx{made(51), spend[0], spend[1]}, at, x)...)
		}
	}
	applyIs(t, p, api.ErrArg, made(1), made(1))
	applyIs(t, nil, api.ErrArg, made(1), made(2))
	applyIs(t, nil, api.ErrArg, made(1), api.Tx{})
}

// What an earlier one made can be spent, but not what a later one, or the first one without Ins, makes.
func TestApplyOfWhatTheSameBlockMade(t *testing.T) {
	p := evenCoins(10, 10)
	one := paid(p[:2], 12, 5)
	coins := []api.Coin{coinOf(wantId(one), 0, 12), coinOf(wantId(one), 1, 5)}
	two := paid(coins, 16)
	three := paid([]api.Coin{coinOf(wantId(two), 0, 16), p[9]}, 26)
	next, err := applied(t, p, []api.Tx{made(54), one, two, three})
	want := sorted(slices.Concat(p[2:9], []api.Coin{
		{In: api.In{Tx: wantId(three)}, Out: api.Out{V: 26}}, {In: api.In{Tx: wantId(made(54))}, Out: api.Out{V: 54}},
	})...)
	if err != api.OK || !wantSame(next, want) {
		t.Error(next, err)
	}
	applyIs(t, p, api.ErrSpend, made(55), one, two, three)
	applyIs(t, p, api.OK, one, two, three)
	applyIs(t, p, api.ErrSpend, two, one)
	applyIs(t, p, api.ErrSpend, one, three, two)
	applyIs(t, p, api.ErrSpend, one, two, two)
	applyIs(t, p, api.ErrSpend, made(10), paid([]api.Coin{coinOf(wantId(made(10)), 0, 10)}, 5))
	applyIs(t, p, api.ErrSpend, one, paid(coins, 18))
	applyIs(t, p, api.ErrSpend, one, paid([]api.Coin{coinOf(wantId(one), 2, 5)}, 1))
}

func TestApplyOfTwoThatSpendTheSameCoin(t *testing.T) {
	p := evenCoins(10, 10)
	for at := range 10 {
		one, other := paid(p[at:at+1], 5), paid(p[at:at+1], 6)
		applyIs(t, p, api.ErrSpend, one, one)
		applyIs(t, p, api.ErrSpend, one, other)
		applyIs(t, p, api.ErrSpend, made(1), one, other)
		applyIs(t, p, api.ErrSpend, one, paid([]api.Coin{p[(at+1)%10], p[at]}, 6))
		applyIs(t, p, api.OK, one, paid(p[(at+1)%10:(at+1)%10+1], 6))
	}
}

// What all others leave, and 50, is what the first one may make, however much it is.
func TestApplyOfAsMuchAsIsLeft(t *testing.T) {
	for _, v := range []int{1, 2, 10, 1<<40 - 50, 1<<40 - 49, 1 << 40} {
		p := evenCoins(12, v)
		for _, l := range [][]api.Tx{
			nil, {paid(p[:1], 1)}, {paid(p[:3], 1)}, {paid(p[:1], v)}, {paid(p[:2], 1), paid(p[5:6], v)},
			{paid(p[:3], 1), paid(p[3:6], 2), paid(p[6:9], v)}, {paid(p[:3], v, v, v), paid(p[3:6], v, v, v), paid(p[6:9], v, v, v)},
		} {
			left := 50
			for _, x := range l {
				left += v*len(x.In) - worth(x.Out)
			}
			for less := -1; less <= 1; less++ {
				first, whole := parted(left - less)
				want := api.OK
				if less < 0 {
					want = api.ErrSpend
				}
				if !whole {
					want = api.ErrArg
				}
				applyIs(t, p, want, append([]api.Tx{first}, l...)...)
			}
		}
	}
}

// parted is a transaction without Ins that makes as much, in up to three Outs; false, if these are too few.
func parted(v int) (api.Tx, bool) {
	var each []int
	for v > 0 && len(each) < 3 {
		each = append(each, min(v, 1<<40))
		v -= min(v, 1<<40)
	}
	if v > 0 {
		each[2] += v
	}
	return made(each...), v == 0
}

// What a first one with Ins leaves is nobody's, as none can make it.
func TestApplyLeavesWhatNobodyMakes(t *testing.T) {
	p := evenCoins(10, 10)
	next, err := applied(t, p, []api.Tx{paid(p[:3], 1), paid(p[3:6], 2)})
	if err != api.OK || Sum(next) != 43 {
		t.Error(Sum(next), err)
	}
	next, err = applied(t, p, []api.Tx{made(20), paid(p[:3], 1), paid(p[3:6], 2)})
	if err != api.OK || Sum(next) != 63 {
		t.Error(Sum(next), err)
	}
}

// The first one's Id is there: with all its coins or some of them, that stay, or that the others spend.
func TestApplyOfAnIdThatIsThere(t *testing.T) {
	first := made(10, 5, 3)
	p, err := Apply(evenCoins(10, 10), []api.Tx{first})
	if err != api.OK || len(p) != 13 {
		t.Fatal(len(p), err)
	}
	applyIs(t, p, api.ErrThere, first)
	var its []api.Coin
	for i, out := range first.Out {
		its = append(its, api.Coin{In: api.In{Tx: wantId(first), I: i}, Out: out})
	}
	for which := range 8 {
		var some []api.Coin
		for i, c := range its {
			if which>>i&1 == 1 {
				some = append(some, c)
			}
		}
		want := api.ErrThere
		if which == 7 {
			want = api.OK
		}
		if which == 0 {
			some = evenCoins(1, 10)
		}
		applyIs(t, p, want, first, paid(some, 1))
		rest := slices.DeleteFunc(slices.Clone(p), func(c api.Coin) bool { return slices.Contains(some, c) })
		applyIs(t, rest, want, first)
	}
	applyIs(t, p, api.OK, first, paid(its[:1], 1), paid(its[1:2], 1), paid(its[2:], 1))
	applyIs(t, p, api.ErrThere, first, paid(its[:1], 1), paid(its[2:], 1))
	applyIs(t, p, api.ErrThere, made(10, 5, 3), paid(p[:1], 1))
	applyIs(t, p, api.OK, made(10, 5, 4), paid(p[:1], 1))
}

// No transaction with Ins is known to have the Id of one without; so the id is handed in here.
func TestMintOfAnyId(t *testing.T) {
	for _, n := range []int{0, 1, 2, 3, 45, 46, 47, 48} {
		p := someCoins(n)
		ids := []api.Id{{}, {255}, idAt(0), idAt(n / 3), idAt(n)}
		for _, id := range ids {
			for _, x := range []api.Tx{made(50), made(51), made(1, 1), made(1, 1, 49), made(20, 20, 20), made(0), made(1, 1, 1, 1), {}} {
				for _, left := range []int{0, 1, 10} {
					next, err := mint(slices.Clone(p), cloneTx(x), id, 50+left)
					want, wantErr := wantMint(p, x, id, left)
					if err != wantErr || err == api.OK && !wantSame(next, want) {
						t.Errorf("%d coins, %s of %.8x: %d coins, %d", n, tell(x), id, len(next), err)
					}
				}
			}
		}
	}
	if _, err := mint(someCoins(4), made(1), idAt(1), 50); err != api.ErrThere {
		t.Error(err)
	}
	if next, err := mint(someCoins(4)[:3], made(1, 2), idAt(1), 50); err != api.OK || next[4].In != (api.In{Tx: idAt(1), I: 1}) {
		t.Error(next, err)
	}
}

func TestApplyUpToTheMostCoins(t *testing.T) {
	for n := 43; n <= 48; n++ {
		p := evenCoins(n, 10)
		for ins := range 4 {
			for outs := 1; outs <= 3; outs++ {
				for first := range 4 {
					var l []api.Tx
					behind := n
					if first > 0 {
						l = append(l, made(slices.Repeat([]int{1}, first)...))
						behind += first
					}
					if ins > 0 {
						l = append(l, paid(p[:ins], slices.Repeat([]int{2}, outs)...))
						behind += outs - ins
					}
					next, err := applied(t, p, l)
					over := behind > 48 || ins > 0 && n-ins+outs > 48
					if over && err != api.ErrFull || !over && (err != api.OK || len(next) != behind) {
						t.Errorf("%d coins less %d, %d more, and %d: %d coins, %d", n, ins, outs, first, len(next), err)
					}
				}
			}
		}
	}
	// One that makes too many comes too early, even if a later one makes room.
	p := evenCoins(48, 10)
	applyIs(t, p, api.ErrFull, made(1), paid(p[:1], 1, 1), paid(p[1:4], 1))
	applyIs(t, p, api.OK, made(1), paid(p[1:4], 1), paid(p[:1], 1, 1))
}

// A transaction's error is told ahead of all later ones', and ahead of those of a first one without Ins.
func TestApplyTellsTheFirstTransactionsError(t *testing.T) {
	p := sorted(append(evenCoins(47, 10), coinOf(wantId(paid(evenCoins(47, 10)[:1], 7)), 0, 1))...)
	even := evenCoins(47, 10)
	wrong := map[api.Errno]api.Tx{
		api.ErrArg:   paid(even[1:2], 0),
		api.ErrSpend: paid(even[2:3], 11),
		api.ErrThere: paid(even[:1], 7),
		api.ErrFull:  paid(even[3:4], 1, 1),
	}
	fine := paid(even[4:5], 10)
	firsts := []api.Tx{fine, made(0), made(51), made(2), made(1, 1, 1), {}}
	for err, x := range wrong {
		for _, other := range wrong {
			applyIs(t, p, err, x, other)
			applyIs(t, p, err, fine, x, other)
			applyIs(t, p, err, x, fine, other)
			for _, first := range firsts {
				applyIs(t, p, err, first, x, other)
				applyIs(t, p, err, first, x)
			}
			applyIs(t, p, api.ErrSize, x, other, x, other, fine)
			applyIs(t, but(p, 3, "V", 0), api.ErrArg, x, other)
		}
	}
}

// All errors of a first one at once, in each choice of them, and those ahead of them: the first one counts.
func TestApplyTellsTheFirstError(t *testing.T) {
	for which := range 1 << 7 {
		has := func(bit int) bool { return which>>bit&1 == 1 }
		badP, size, other, badFirst, there, much, full := has(0), has(1), has(2), has(3), has(4), has(5), has(6)
		n := 40
		if full {
			n = 47
		}
		p := evenCoins(n, 10)
		first := made(30, 27)
		if much {
			first.Out[1].V++
		}
		if badFirst {
			first.Out[0].To = -1
		}
		if there {
			p = sorted(append(p[:n-1], coinOf(wantId(first), 2, 1))...)
		}
		l := []api.Tx{first, paid(evenCoins(1, 10), 3)}
		if other {
			l = append(l, paid(evenCoins(1, 10), 3))
		}
		for size && len(l) < 5 {
			l = append(l, paid(evenCoins(10, 10)[len(l):len(l)+1], 10))
		}
		if badP {
			p[0], p[5] = p[5], p[0]
		}
		want := api.OK
		switch {
		case badP:
			want = api.ErrArg
		case size:
			want = api.ErrSize
		case other:
			want = api.ErrSpend
		case badFirst:
			want = api.ErrArg
		case there:
			want = api.ErrThere
		case much:
			want = api.ErrSpend
		case full:
			want = api.ErrFull
		}
		applyIs(t, p, want, l...)
	}
}

// P10.4

// someBlock is a block of which most transactions spend coins that are there, or that it makes itself.
func someBlock(r *rand.Rand, p []api.Coin) []api.Tx {
	var l []api.Tx
	pool := slices.Clone(p)
	left := 50
	for range r.Intn(5) {
		var x api.Tx
		worth := 0
		for range min(len(pool), 1+r.Intn(2), 1+r.Intn(3)) {
			at := r.Intn(len(pool))
			x.In = append(x.In, pool[at].In)
			worth += pool[at].V
			if r.Intn(40) > 0 {
				pool = slices.Delete(pool, at, at+1)
			}
		}
		for range 1 + r.Intn(3) {
			v := min(1+r.Intn(max(worth, 1)), 1<<40)
			x.Out = append(x.Out, api.Out{V: v, To: r.Intn(256)})
			worth -= v
			if worth <= 0 && r.Intn(60) > 0 {
				break
			}
		}
		left += worth
		for i, out := range x.Out {
			pool = append(pool, api.Coin{In: api.In{Tx: wantId(x), I: i}, Out: out})
		}
		l = append(l, x)
	}
	if len(l) < 4 || r.Intn(9) == 0 {
		first := made(min(max(left, 1), 1<<40))
		first.Out[0].To = r.Intn(256)
		if r.Intn(12) == 0 {
			first.Out[0].V++
		}
		if r.Intn(3) == 0 {
			first = made(1, 1+r.Intn(9), 1+r.Intn(9))
		}
		l = append([]api.Tx{first}, l...)
	}
	return l
}

// Chains of blocks: what each one makes is held against the chapter's words, may be, and is worth at most 50 more.
func TestManyBlocks(t *testing.T) {
	errs := map[api.Errno]int{}
	most := 0
	for seed := range int64(40) {
		r := rand.New(rand.NewSource(seed))
		var p []api.Coin
		for range 120 {
			next, err := applied(t, p, someBlock(r, p))
			if t.Failed() {
				t.Fatalf("seed %d", seed)
			}
			p = next
			errs[err]++
			most = max(most, len(p))
		}
	}
	for _, err := range []api.Errno{api.OK, api.ErrArg, api.ErrSize, api.ErrSpend, api.ErrThere, api.ErrFull} {
		if errs[err] < 5 {
			t.Errorf("only %d of error %d", errs[err], err)
		}
	}
	if most != 48 {
		t.Errorf("at most %d coins", most)
	}
}

func TestManySpends(t *testing.T) {
	errs := map[api.Errno]int{}
	r := rand.New(rand.NewSource(5))
	for _, p := range mixedCoins(5000) {
		for _, x := range someBlock(r, p) {
			_, _, err := spent(t, p, x)
			errs[err]++
		}
	}
	for _, err := range []api.Errno{api.OK, api.ErrArg, api.ErrSpend} {
		if errs[err] < 100 {
			t.Errorf("only %d of error %d", errs[err], err)
		}
	}
}

func TestNoMoreIsMadeThanFiftyABlock(t *testing.T) {
	var p []api.Coin
	for n := range 48 {
		next, err := Apply(p, []api.Tx{{Out: []api.Out{{V: 50, To: n}}}})
		if err != api.OK || len(next) != n+1 || Sum(next) != 50*(n+1) || !May(next) {
			t.Fatalf("%d blocks: %d coins, worth %d, %d", n+1, len(next), Sum(next), err)
		}
		p = next
	}
	applyIs(t, p, api.ErrFull, api.Tx{Out: []api.Out{{V: 50, To: 48}}})
	applyIs(t, p, api.ErrThere, api.Tx{Out: []api.Out{{V: 50, To: 47}}})
	applyIs(t, p, api.ErrSpend, api.Tx{Out: []api.Out{{V: 51, To: 47}}})
}

// R3: what may or may not be is asked of others' lists, and all that is answered is the caller's own.

func TestWhatIsHandedToQuestionsStays(t *testing.T) {
	for _, p := range slices.Concat(badCoins(), mixedCoins(200), [][]api.Coin{nil, someCoins(48)}) {
		s := shelve(p, nil)
		May(s.coins)
		Same(s.coins, p)
		Same(p, s.coins)
		Sum(s.coins)
		Find(s.coins, api.In{})
		for _, c := range p[:min(len(p), 60)] {
			Find(s.coins, c.In)
		}
		if !s.same(shelve(p, nil)) {
			t.Errorf("%d coins: not as they were", len(p))
		}
	}
}

// R5

func TestAnswersHangOnNothingElse(t *testing.T) {
	p := someCoins(30)
	good, bad := paid(p[:2], 1), paid(p[:2], 1<<40)
	ask := func() []any {
		spends, left, err := Spend(p, good)
		stays, none, wrong := Spend(p, bad)
		next, fine := Apply(p, []api.Tx{made(50), good})
		same, late := Apply(p, []api.Tx{made(50), bad})
		return []any{
			May(p), Sum(p), Find(p, p[9].In), Same(p, spends), left, err, none, wrong, fine, late,
			fmt.Sprint(spends), fmt.Sprint(stays), fmt.Sprint(next), fmt.Sprint(same),
		}
	}
	first := ask()
	r := rand.New(rand.NewSource(6))
	for _, other := range mixedCoins(100) {
		l := someBlock(r, other)
		Apply(other, l)
		for _, x := range l {
			Spend(other, x)
			Spend(p, x)
		}
	}
	if !slices.Equal(ask(), first) {
		t.Error("asked again, another answer")
	}
}
