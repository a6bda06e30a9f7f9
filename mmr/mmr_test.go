package mmr

import (
	"crypto/sha256"
	"encoding/binary"
	"encoding/hex"
	"math"
	"math/big"
	"math/bits"
	"slices"
	"testing"

	"stepladder/api"
)

const full = math.MaxUint64

// sizes are how many totals lists have here, most of them next to a power of two.
var sizes = []int{0, 1, 2, 3, 4, 5, 7, 8, 9, 16, 17, 33, 62, 63, 64}

// farPlaces are places of no total at all.
var farPlaces = []int{-1, -2, -64, math.MinInt, math.MinInt + 1, math.MinInt32, 65, 128, 1 << 31, 1 << 32, 1 << 62, math.MaxInt - 1, math.MaxInt}

// oddCounts are what N is of hardly any list, and what a list's may be.
var oddCounts = []int{
	0, 1, -1, 2, -2, 64, 65, 255, 256, 65535, 1<<32 - 1, 1 << 32, 1<<32 + 1, 1<<32 + 258, -1 << 32,
	math.MaxInt32, math.MinInt32, 1 << 62, -1 << 62, math.MaxInt, math.MaxInt - 1, math.MinInt, math.MinInt + 1,
}

var allWork = api.Wide{full, full, full, full}

// someLeaves are n leaves, no two the same, whose work has all four parts; all of it together is far below 2^256.
func someLeaves(n int) []api.Total {
	l := make([]api.Total, n)
	for i := range l {
		k := uint64(i)
		l[i] = api.Total{
			H: sha256.Sum256([]byte{byte(i), byte(i >> 8), 66}),
			W: api.Wide{full - k, full, 3*k + 1, k<<40 + 5},
			N: 1,
		}
	}
	return l
}

func sameLeaves(n int) []api.Total {
	return slices.Repeat([]api.Total{{H: api.Id{5, 6, 7}, W: api.Wide{2}, N: 1}}, n)
}

// oddTotals are what no leaves make.
func oddTotals() []api.Total {
	l := []api.Total{{}, {H: api.Id{1}}, {H: api.Id{31: 1}}, {W: allWork}, {W: api.Wide{1}}, {W: api.Wide{3: 1 << 63}}}
	for i, n := range oddCounts {
		l = append(l, api.Total{H: sha256.Sum256([]byte{byte(i)}), W: api.Wide{uint64(i), full, full << (i % 64), full >> i}, N: n})
	}
	return l
}

func idOf(t *testing.T, text string) api.Id {
	t.Helper()
	b, err := hex.DecodeString(text)
	if err != nil || len(b) != 32 {
		t.Fatalf("no id: %s", text)
	}
	return api.Id(b)
}

func bigOf(w api.Wide) *big.Int {
	n := new(big.Int)
	for _, part := range slices.Backward(w[:]) {
		n.Lsh(n, 64)
		n.Or(n, new(big.Int).SetUint64(part))
	}
	return n
}

// wideOf is what is left of a number by 2^256.
func wideOf(n *big.Int) api.Wide {
	var w api.Wide
	for i := range w {
		w[i] = new(big.Int).Rsh(n, uint(64*i)).Uint64() // the lowest 64 bits
	}
	return w
}

// wantText is the chapter's words on what is summed of a total.
func wantText(t api.Total) []byte {
	text := slices.Clone(t.H[:])
	for _, part := range slices.Backward(t.W[:]) {
		text = binary.BigEndian.AppendUint64(text, part)
	}
	return binary.BigEndian.AppendUint32(text, uint32(t.N))
}

func wantJoin(a, b api.Total) api.Total {
	return api.Total{
		H: sha256.Sum256(slices.Concat([]byte{3}, wantText(a), wantText(b))),
		W: wideOf(new(big.Int).Add(bigOf(a.W), bigOf(b.W))),
		N: a.N + b.N,
	}
}

func wantNone() api.Total {
	return api.Total{H: sha256.Sum256([]byte{4})}
}

// wantRows are a list's totals, row by row from the leaves up: each two neighbours make one of the row above, and one that
// is left over goes up as it is. That is another way to the same as a cut at the greatest power of two.
func wantRows(l []api.Total) [][]api.Total {
	rows := [][]api.Total{l}
	for row := l; len(row) > 1; {
		var above []api.Total
		for pair := range slices.Chunk(row, 2) {
			if len(pair) == 2 {
				above = append(above, wantJoin(pair[0], pair[1]))
			} else {
				above = append(above, pair[0])
			}
		}
		rows = append(rows, above)
		row = above
	}
	return rows
}

func wantTotal(l []api.Total) api.Total {
	if len(l) == 0 {
		return wantNone()
	}
	rows := wantRows(l)
	return rows[len(rows)-1][0]
}

func wantPath(l []api.Total, i int) []api.Total {
	var path []api.Total
	for _, row := range wantRows(l) {
		if i^1 < len(row) {
			path = append(path, row[i^1])
		}
		i /= 2
	}
	return path
}

// wantAppend goes by the words from the leaf's end: it stands behind, or is joined and comes as a leaf again.
func wantAppend(p []api.Total, leaf api.Total) []api.Total {
	last := len(p) - 1
	if last < 0 || p[last].N != leaf.N {
		return slices.Concat(p, []api.Total{leaf})
	}
	return wantAppend(p[:last], wantJoin(p[last], leaf))
}

func wantRoot(p []api.Total) api.Total {
	switch len(p) {
	case 0:
		return wantNone()
	case 1:
		return p[0]
	}
	return wantJoin(p[0], wantRoot(p[1:]))
}

// wantSide is a side in which a place does not stand: how many leaves it has, and whether it is the left one.
type wantSide struct {
	count int
	left  bool
}

// wantSides are those from the leaf on up: of each two neighbours of one power of two the other one, if it has any leaf.
func wantSides(n, i int) []wantSide {
	var l []wantSide
	for size := 1; size < n; size *= 2 {
		from := (i/size ^ 1) * size
		if from < n {
			l = append(l, wantSide{min(size, n-from), from < i})
		}
	}
	return l
}

// wantUp is what comes of a leaf along a path, whatever it tells, and how much of it is on left sides.
func wantUp(n, i int, leaf api.Total, path []api.Total) (api.Total, api.Wide) {
	ahead := new(big.Int)
	for k, side := range wantSides(n, i) {
		if side.left {
			leaf = wantJoin(path[k], leaf)
			ahead.Add(ahead, bigOf(path[k].W))
		} else {
			leaf = wantJoin(leaf, path[k])
		}
	}
	return leaf, wideOf(ahead)
}

func wantCheck(root api.Total, i int, leaf api.Total, path []api.Total) (api.Wide, bool) {
	if root.N < 1 || root.N > 64 || i < 0 || i >= root.N || leaf.N != 1 {
		return api.Wide{}, false
	}
	sides := wantSides(root.N, i)
	if len(path) != len(sides) {
		return api.Wide{}, false
	}
	work := bigOf(leaf.W)
	for k, side := range sides {
		work.Add(work, bigOf(path[k].W))
		if path[k].N != side.count || work.BitLen() > 256 {
			return api.Wide{}, false
		}
	}
	top, ahead := wantUp(root.N, i, leaf, path)
	if top != root {
		return api.Wide{}, false
	}
	return ahead, true
}

// workOf is all work of a list, together.
func workOf(l []api.Total) api.Wide {
	n := new(big.Int)
	for _, x := range l {
		n.Add(n, bigOf(x.W))
	}
	return wideOf(n)
}

// somePlaces are the first ones, the last ones, and those in the middle.
func somePlaces(n int) []int {
	var l []int
	for i := range n {
		if i < 3 || i >= n-3 || i/2 == n/4 {
			l = append(l, i)
		}
	}
	return l
}

func mustPath(t *testing.T, l []api.Total, i int) []api.Total {
	t.Helper()
	path, is := Path(l, i)
	if !is {
		t.Fatalf("no path of %d in %d", i, len(l))
	}
	return path
}

func checks(t *testing.T, root api.Total, i int, leaf api.Total, path []api.Total, ahead api.Wide) {
	t.Helper()
	if w, is := Check(root, i, leaf, path); !is || w != ahead {
		t.Errorf("%d of %d: %v, %v, not %v", i, root.N, w, is, ahead)
	}
}

func checksNot(t *testing.T, root api.Total, i int, leaf api.Total, path []api.Total) {
	t.Helper()
	if w, is := Check(root, i, leaf, path); is || w != (api.Wide{}) {
		t.Errorf("%d of %d: %v, %v", i, root.N, w, is)
	}
}

// appended are the peaks of leaves that come one by one.
func appended(l []api.Total) []api.Total {
	var p []api.Total
	for _, leaf := range l {
		p = Append(p, leaf)
	}
	return p
}

func countsOf(p []api.Total) []int {
	var l []int
	for _, x := range p {
		l = append(l, x.N)
	}
	return l
}

// ofCounts are totals of these N, no two the same.
func ofCounts(counts ...int) []api.Total {
	l := someLeaves(len(counts))
	for i, n := range counts {
		l[i].N = n
	}
	return l
}

// others are totals that differ from one in one thing alone.
func others(x api.Total) []api.Total {
	var l []api.Total
	for i := range x.H {
		y := x
		y.H[i] ^= 1 << (i % 8)
		l = append(l, y)
	}
	for i := range x.W {
		for _, bit := range []int{0, 31, 32, 63} {
			y := x
			y.W[i] ^= 1 << bit
			l = append(l, y)
		}
	}
	for _, d := range []int{1, -1, 2, 64, -64, 256, 1 << 31, 1 << 32, -1 << 32, math.MinInt} {
		y := x
		y.N += d
		l = append(l, y)
	}
	return l
}

// The chapter's example

func TestExample(t *testing.T) {
	l := []api.Total{Leaf(api.Id{1}, api.Wide{2}), Leaf(api.Id{2}, api.Wide{2}), Leaf(api.Id{3}, api.Wide{2})}
	p := appended(l)
	if !slices.Equal(countsOf(p), []int{2, 1}) {
		t.Fatal(countsOf(p))
	}
	if p[0].W != (api.Wide{4}) || p[1].W != (api.Wide{2}) {
		t.Error(p)
	}
	if root := Root(p); root.W != (api.Wide{6}) || root.N != 3 || root.H != Join(Join(l[0], l[1]), l[2]).H {
		t.Error(root)
	}
}

// P6.1

func TestLeaf(t *testing.T) {
	for _, id := range []api.Id{{}, {1}, {31: 255}, sha256.Sum256(nil)} {
		for _, w := range []api.Wide{{}, {1}, {2}, {1, 2, 3, 4}, {3: 1 << 63}, allWork} {
			if x := Leaf(id, w); x.H != id || x.W != w || x.N != 1 {
				t.Errorf("%x, %v: %v", id, w, x)
			}
		}
	}
}

func TestJoinOfKnownTotals(t *testing.T) {
	var l []api.Total
	for i := range 3 {
		l = append(l, api.Total{H: api.Id(slices.Repeat([]byte{byte(i + 1)}, 32)), W: api.Wide{2}, N: 1})
	}
	ab := Join(l[0], l[1])
	if want := idOf(t, "c1e7b479ef041cd33806342a24662a49dbabc236fd0f99529f48970a46a9fb55"); ab != (api.Total{H: want, W: api.Wide{4}, N: 2}) {
		t.Error(ab)
	}
	abc := Join(ab, l[2])
	if want := idOf(t, "6785fbe77b029cbde73e8b748a8febbcb76ce18f3bf28f66fa42f651249904e7"); abc != (api.Total{H: want, W: api.Wide{6}, N: 3}) {
		t.Error(abc)
	}
}

// Of the first one N is below 0, of the second one it is above 2^32.
func TestJoinOfKnownOddTotals(t *testing.T) {
	x := api.Total{W: api.Wide{0x0102030405060708, 0x1112131415161718, 0x2122232425262728, 0x3132333435363738}, N: -1}
	y := api.Total{W: api.Wide{full, 0, 5, 1 << 63}, N: 1<<32 + 258}
	for i := range 32 {
		x.H[i], y.H[i] = byte(i), byte(32+i)
	}
	want := api.Total{
		H: idOf(t, "3c89f076298a83e03dba2320241b2684c64102dc15222caf3a0165166b739469"),
		W: api.Wide{0x0102030405060707, 0x1112131415161719, 0x212223242526272d, 0xb132333435363738},
		N: 1<<32 + 257,
	}
	if j := Join(x, y); j != want {
		t.Errorf("%x", j)
	}
}

func TestJoinOfAllPairs(t *testing.T) {
	l := append(oddTotals(), someLeaves(5)...)
	for _, a := range l {
		for _, b := range l {
			if j := Join(a, b); j != wantJoin(a, b) {
				t.Errorf("%v, %v: %v", a, b, j)
			}
		}
	}
}

func TestJoinOfWorkThatIsNotAllThere(t *testing.T) {
	for _, x := range []struct{ a, b, want api.Wide }{
		{allWork, api.Wide{1}, api.Wide{}},
		{api.Wide{1}, allWork, api.Wide{}},
		{allWork, allWork, api.Wide{full - 1, full, full, full}},
		{api.Wide{3: 1 << 63}, api.Wide{3: 1 << 63}, api.Wide{}},
		{api.Wide{7, 0, 0, 1 << 63}, api.Wide{2, 0, 0, 1 << 63}, api.Wide{9}},
		{allWork, api.Wide{}, allWork},
	} {
		a, b := api.Total{H: api.Id{1}, W: x.a, N: 1}, api.Total{H: api.Id{2}, W: x.b, N: 1}
		if j := Join(a, b); j.W != x.want || j != wantJoin(a, b) {
			t.Errorf("%v, %v: %v", x.a, x.b, j)
		}
	}
}

func TestJoinOfCountsThatGoRound(t *testing.T) {
	for _, x := range []struct{ a, b, want int }{
		{math.MaxInt, 1, math.MinInt},
		{math.MinInt, math.MinInt, 0},
		{math.MinInt, -1, math.MaxInt},
		{math.MaxInt, math.MaxInt, -2},
		{1<<32 - 1, 1, 1 << 32},
		{math.MaxInt32, 1, 1 << 31},
		{-1, 1, 0},
		{0, 0, 0},
	} {
		a, b := api.Total{N: x.a}, api.Total{N: x.b}
		if j := Join(a, b); j.N != x.want || j != wantJoin(a, b) {
			t.Errorf("%d, %d: %v", x.a, x.b, j)
		}
	}
}

// Totals that differ by 2^32 in N have the same four bytes of it, and so one sum; all others have others.
func TestJoinHangsOnAllOfBoth(t *testing.T) {
	l := someLeaves(2)
	a, b := l[0], l[1]
	j := Join(a, b)
	if j.H == Join(b, a).H {
		t.Error("sides do not matter")
	}
	for _, x := range others(a) {
		alike := x.N != a.N && uint32(x.N) == 1
		if k := Join(x, b); k == j || (k.H == j.H) != alike {
			t.Errorf("left: %v", x)
		}
	}
	for _, x := range others(b) {
		alike := x.N != b.N && uint32(x.N) == 1
		if k := Join(a, x); k == j || (k.H == j.H) != alike {
			t.Errorf("right: %v", x)
		}
	}
}

// P6.2

func TestAppendByHand(t *testing.T) {
	l := someLeaves(8)
	j := wantJoin
	ab, cd, ef, gh := j(l[0], l[1]), j(l[2], l[3]), j(l[4], l[5]), j(l[6], l[7])
	abcd := j(ab, cd)
	var p []api.Total
	for i, want := range [][]api.Total{
		{l[0]}, {ab}, {ab, l[2]}, {abcd}, {abcd, l[4]}, {abcd, ef}, {abcd, ef, l[6]}, {j(abcd, j(ef, gh))},
	} {
		p = Append(p, l[i])
		if !slices.Equal(p, want) {
			t.Errorf("%d leaves: %v", i+1, p)
		}
	}
}

func TestAppendToNone(t *testing.T) {
	for _, leaf := range append(oddTotals(), someLeaves(2)...) {
		for _, p := range [][]api.Total{nil, {}, make([]api.Total, 0, 9)} {
			if q := Append(p, leaf); !slices.Equal(q, []api.Total{leaf}) {
				t.Errorf("%v: %v", leaf, q)
			}
		}
	}
}

// Of leaves that come one by one the peaks are as many as the powers of two of their number, the greatest one first.
func TestPeaksOfAllCounts(t *testing.T) {
	l := someLeaves(140)
	var p []api.Total
	for n := 1; n <= len(l); n++ {
		p = Append(p, l[n-1])
		var want []api.Total
		for rest, from := n, 0; rest > 0; {
			size := 1 << (bits.Len(uint(rest)) - 1)
			want = append(want, wantTotal(l[from:from+size]))
			rest, from = rest-size, from+size
		}
		if !slices.Equal(p, want) {
			t.Errorf("%d leaves: %v", n, countsOf(p))
		}
	}
}

func TestAppendToPeaksOfAnyCounts(t *testing.T) {
	for _, x := range []struct {
		p    []int
		leaf int
		want []int
	}{
		{[]int{1, 1, 1}, 1, []int{1, 1, 2}}, // only what is last is joined
		{[]int{1, 1, 1}, 2, []int{1, 1, 1, 2}},
		{[]int{2, 2, 2}, 1, []int{2, 2, 2, 1}},
		{[]int{2, 2, 2}, 2, []int{2, 2, 4}},
		{[]int{4, 2, 1}, 1, []int{8}},
		{[]int{8, 4, 2, 1}, 1, []int{16}},
		{[]int{16, 4, 2, 1}, 1, []int{16, 8}},
		{[]int{4, 2, 1}, 2, []int{4, 2, 1, 2}},
		{[]int{4, 2}, 2, []int{8}},
		{[]int{1, 2, 4}, 4, []int{1, 2, 8}},
		{[]int{1, 1}, 0, []int{1, 1, 0}},
		{[]int{0}, 0, []int{0}},
		{[]int{0, 0, 0}, 0, []int{0}},
		{[]int{1, 0, 0}, 0, []int{1, 0}},
		{[]int{0, 1}, 1, []int{0, 2}},
		{[]int{0, 0}, 1, []int{0, 0, 1}},
		{[]int{-1}, -1, []int{-2}},
		{[]int{-1, -1, -1}, -1, []int{-1, -1, -2}},
		{[]int{-4, -2, -1}, -1, []int{-8}},
		{[]int{-1}, 1, []int{-1, 1}},
		{[]int{1}, -1, []int{1, -1}},
		{[]int{1 << 32}, 1 << 32, []int{1 << 33}},
		{[]int{1 << 32}, 0, []int{1 << 32, 0}}, // of one sum's bytes, but not the same
		{[]int{1<<32 + 1}, 1, []int{1<<32 + 1, 1}},
		{[]int{1<<32 - 1}, -1, []int{1<<32 - 1, -1}},
		{[]int{1 << 62}, 1 << 62, []int{math.MinInt}},
		{[]int{math.MinInt}, math.MinInt, []int{0}},
		{[]int{0, math.MinInt}, math.MinInt, []int{0}},
		{[]int{0, 0, math.MinInt, 1 << 62}, 1 << 62, []int{0}},
		{[]int{-2, math.MaxInt}, math.MaxInt, []int{-4}},
		{[]int{7, math.MaxInt}, math.MaxInt, []int{7, -2}},
	} {
		l := ofCounts(append(slices.Clone(x.p), x.leaf)...)
		p, leaf := l[:len(x.p):len(x.p)], l[len(x.p)]
		q := Append(p, leaf)
		if !slices.Equal(countsOf(q), x.want) || !slices.Equal(q, wantAppend(p, leaf)) {
			t.Errorf("%v, %d: %v", x.p, x.leaf, countsOf(q))
		}
	}
}

func TestAppendToPeaksOfAllFewCounts(t *testing.T) {
	counts := []int{0, 1, 2, -1, math.MinInt}
	var each func([]int)
	each = func(l []int) {
		if len(l) > 0 {
			all := ofCounts(l...)
			p, leaf := all[:len(all)-1], all[len(all)-1]
			if q := Append(p, leaf); !slices.Equal(q, wantAppend(p, leaf)) {
				t.Errorf("%v: %v", l, countsOf(q))
			}
			if root := Root(all); root != wantRoot(all) {
				t.Errorf("root of %v: %v", l, root)
			}
		}
		if len(l) == 5 {
			return
		}
		for _, n := range counts {
			each(append(slices.Clone(l), n))
		}
	}
	each(nil)
}

func TestAppendToManyPeaks(t *testing.T) {
	none := make([]api.Total, 3000)
	if q := Append(none, api.Total{}); !slices.Equal(q, wantAppend(none, api.Total{})) || len(q) != 1 {
		t.Error("of N 0:", len(q))
	}
	ones := sameLeaves(3000)
	if q := Append(ones, ones[0]); len(q) != 3000 || !slices.Equal(q[:2999], ones[:2999]) || q[2999] != wantJoin(ones[0], ones[0]) {
		t.Error("of N 1:", len(q))
	}
}

func TestRootOfNone(t *testing.T) {
	want := api.Total{H: idOf(t, "e52d9c508c502347344d8c07ad91cbd6068afc75ff6292f062a09ca381c89e71")}
	if Root(nil) != want || Root([]api.Total{}) != want {
		t.Error(Root(nil))
	}
}

func TestRootsByHand(t *testing.T) {
	l, j := someLeaves(5), wantJoin
	for n, want := range map[int]api.Total{
		1: l[0],
		2: j(l[0], l[1]),
		3: j(l[0], j(l[1], l[2])), // peaks are joined from the last one on, and what is behind is the right side
		4: j(l[0], j(l[1], j(l[2], l[3]))),
		5: j(l[0], j(l[1], j(l[2], j(l[3], l[4])))),
	} {
		if root := Root(l[:n]); root != want {
			t.Errorf("%d peaks: %v", n, root)
		}
	}
}

func TestRootOfAnyPeaks(t *testing.T) {
	odd := oddTotals()
	for i := range odd {
		for n := range len(odd) - i + 1 {
			if root := Root(odd[i : i+n]); root != wantRoot(odd[i:i+n]) {
				t.Errorf("%d from %d on: %v", n, i, root)
			}
		}
	}
	many := someLeaves(3000)
	if Root(many) != wantRoot(many) {
		t.Error("many")
	}
}

func TestSame(t *testing.T) {
	for _, n := range sizes {
		l := someLeaves(n)
		if !Same(l, slices.Clone(l)) || !Same(l, l) {
			t.Errorf("%d: not itself", n)
		}
		for m := range n {
			if Same(l, l[:m]) || Same(l[:m], l) || Same(l, l[n-m:]) || Same(l[n-m:], l) {
				t.Errorf("%d and %d of them", n, m)
			}
		}
		for i := range l {
			other := slices.Clone(l)
			for _, x := range others(l[i]) {
				other[i] = x
				if Same(l, other) || Same(other, l) {
					t.Errorf("%d of %d is another one: %v", i, n, x)
				}
			}
		}
	}
}

func TestSameOfNone(t *testing.T) {
	nothing := [][]api.Total{nil, {}, make([]api.Total, 0, 5)}
	for _, a := range nothing {
		for _, b := range nothing {
			if !Same(a, b) {
				t.Error("nothing is not nothing")
			}
		}
		if zero := make([]api.Total, 1); Same(a, zero) || Same(zero, a) {
			t.Error("nothing is a zero one")
		}
	}
}

func TestSameGoesByOrder(t *testing.T) {
	l := someLeaves(3)
	for _, x := range [][]api.Total{{l[1], l[0], l[2]}, {l[0], l[2], l[1]}, {l[2], l[1], l[0]}, {l[0], l[1], l[1]}, {l[0], l[0], l[1], l[2]}} {
		if Same(l, x) || Same(x, l) {
			t.Error(x)
		}
	}
}

// P6.3

func TestPathsByHand(t *testing.T) {
	l, j := someLeaves(9), wantJoin
	ab, cd, ef, gh := j(l[0], l[1]), j(l[2], l[3]), j(l[4], l[5]), j(l[6], l[7])
	for _, x := range []struct {
		size, i int
		want    []api.Total
	}{
		{1, 0, nil},
		{2, 0, []api.Total{l[1]}},
		{2, 1, []api.Total{l[0]}},
		{3, 0, []api.Total{l[1], l[2]}},
		{3, 1, []api.Total{l[0], l[2]}},
		{3, 2, []api.Total{ab}},
		{4, 2, []api.Total{l[3], ab}},
		{5, 1, []api.Total{l[0], cd, l[4]}},
		{5, 4, []api.Total{j(ab, cd)}},
		{7, 0, []api.Total{l[1], cd, j(ef, l[6])}},
		{7, 3, []api.Total{l[2], ab, j(ef, l[6])}},
		{7, 5, []api.Total{l[4], l[6], j(ab, cd)}},
		{7, 6, []api.Total{ef, j(ab, cd)}},
		{8, 7, []api.Total{l[6], ef, j(ab, cd)}},
		{9, 0, []api.Total{l[1], cd, j(ef, gh), l[8]}},
		{9, 8, []api.Total{j(j(ab, cd), j(ef, gh))}},
	} {
		if path, is := Path(l[:x.size], x.i); !is || !slices.Equal(path, x.want) {
			t.Errorf("%d of %d: %v, %v", x.i, x.size, path, is)
		}
	}
}

func TestPathsOfAllPlaces(t *testing.T) {
	for n := 1; n <= 64; n++ {
		for _, l := range [][]api.Total{someLeaves(n), sameLeaves(n)} {
			for i := range n {
				if path, is := Path(l, i); !is || !slices.Equal(path, wantPath(l, i)) {
					t.Errorf("%d of %d: %v, %v", i, n, path, is)
				}
			}
		}
	}
}

// Lists are cut by how many totals they have, whatever these tell.
func TestPathsOfAnyTotals(t *testing.T) {
	odd := oddTotals()
	for n := 1; n <= len(odd); n++ {
		for i := range n {
			if path, is := Path(odd[:n], i); !is || !slices.Equal(path, wantPath(odd[:n], i)) {
				t.Errorf("%d of %d: %v, %v", i, n, path, is)
			}
		}
	}
}

func TestNoPathOfNoPlace(t *testing.T) {
	for n := range 65 {
		l := someLeaves(n)
		for _, i := range append([]int{n, n + 1, -n - 1}, farPlaces...) {
			if path, is := Path(l, i); is || len(path) != 0 {
				t.Errorf("%d of %d: %v", i, n, path)
			}
		}
	}
	if path, is := Path(nil, 0); is || len(path) != 0 {
		t.Error(path, is)
	}
}

func TestNoPathOfTooManyTotals(t *testing.T) {
	for _, n := range []int{65, 66, 100, 128, 1000} {
		l := someLeaves(n)
		for _, i := range []int{0, 1, 32, 63, 64, n - 1, n, -1, math.MaxInt, math.MinInt} {
			if path, is := Path(l, i); is || len(path) != 0 {
				t.Errorf("%d of %d: %v", i, n, path)
			}
		}
	}
}

// P6.4

func TestCheckByHand(t *testing.T) {
	var l []api.Total
	for i := range 5 {
		l = append(l, api.Total{H: api.Id{byte(i + 1)}, W: api.Wide{1 << (4 * i)}, N: 1})
	}
	j := wantJoin
	ab, cd := j(l[0], l[1]), j(l[2], l[3])
	abcd := j(ab, cd)
	for _, x := range []struct {
		root  api.Total
		i     int
		path  []api.Total
		ahead uint64
	}{
		{l[0], 0, nil, 0},
		{ab, 0, []api.Total{l[1]}, 0},
		{ab, 1, []api.Total{l[0]}, 1},
		{j(ab, l[2]), 0, []api.Total{l[1], l[2]}, 0},
		{j(ab, l[2]), 1, []api.Total{l[0], l[2]}, 1},
		{j(ab, l[2]), 2, []api.Total{ab}, 0x11},
		{abcd, 2, []api.Total{l[3], ab}, 0x11},
		{abcd, 3, []api.Total{l[2], ab}, 0x111},
		{j(abcd, l[4]), 0, []api.Total{l[1], cd, l[4]}, 0},
		{j(abcd, l[4]), 3, []api.Total{l[2], ab, l[4]}, 0x111},
		{j(abcd, l[4]), 4, []api.Total{abcd}, 0x1111},
	} {
		checks(t, x.root, x.i, l[x.i], x.path, api.Wide{x.ahead})
	}
	checksNot(t, abcd, 0, l[0], []api.Total{cd, l[1]})        // from the root down
	checksNot(t, j(l[1], l[0]), 0, l[0], []api.Total{l[1]})   // on the other side
	checksNot(t, j(l[0], cd), 0, l[0], []api.Total{l[2], cd}) // cut elsewhere
}

func TestCheckTellsTheWorkAhead(t *testing.T) {
	for n := 1; n <= 64; n++ {
		l := someLeaves(n)
		root := wantTotal(l)
		for i := range n {
			checks(t, root, i, l[i], wantPath(l, i), workOf(l[:i]))
		}
	}
}

// Where all leaves are the same only the place tells how much is ahead.
func TestCheckOfTheSameLeaves(t *testing.T) {
	for _, n := range []int{1, 2, 4, 8, 16, 32, 64} {
		l := sameLeaves(n)
		root, path := wantTotal(l), wantPath(l, 0)
		for i := range n {
			checks(t, root, i, l[0], path, api.Wide{uint64(2 * i)})
		}
		checksNot(t, root, n, l[0], path)
		checksNot(t, root, -1, l[0], path)
	}
}

// Roots of too many leaves, or of none, that are right in all else.
func TestCheckOfRootsOfBadCounts(t *testing.T) {
	for _, n := range []int{65, 66, 100, 128, 129} {
		l := someLeaves(n)
		root := wantTotal(l)
		for _, i := range []int{0, 1, 31, 32, 63, 64, n - 1} {
			checksNot(t, root, i, l[i], wantPath(l, i))
		}
	}
	for _, n := range []int{0, -1, -2, -64, 65, 1 << 32, 1<<32 + 1, -1<<32 + 1, math.MinInt, math.MinInt + 1, math.MaxInt - 1, math.MaxInt} {
		leaf, leaf1 := api.Total{H: api.Id{1}, W: api.Wide{2}, N: n}, api.Total{H: api.Id{1}, W: api.Wide{2}, N: 1}
		for _, i := range []int{0, -1, 1, n - 1, n, n + 1, 63, 64} {
			checksNot(t, leaf, i, leaf, nil)
			checksNot(t, leaf, i, leaf1, nil)
			for size := range 9 {
				checksNot(t, leaf, i, leaf1, someLeaves(size))
			}
		}
	}
	none := wantNone()
	checksNot(t, none, 0, none, nil)
	checksNot(t, none, 0, api.Total{N: 1}, nil)
	checksNot(t, api.Total{}, 0, api.Total{}, nil)
}

func TestCheckOfNoPlace(t *testing.T) {
	for _, n := range sizes[1:] {
		for _, l := range [][]api.Total{someLeaves(n), sameLeaves(n)} {
			root := wantTotal(l)
			for k := range n {
				path := wantPath(l, k)
				for _, i := range append([]int{n, n + 1, -n, k - n, k + n, k + 64, k - 64}, farPlaces...) {
					if i < 0 || i >= n {
						checksNot(t, root, i, l[k], path)
					}
				}
			}
		}
	}
}

func TestCheckOfLeavesOfOtherCounts(t *testing.T) {
	for _, n := range sizes[1:] {
		l := someLeaves(n)
		root := wantTotal(l)
		for _, i := range somePlaces(n) {
			path, leaf := wantPath(l, i), l[i]
			for _, count := range oddCounts {
				if count == 1 {
					continue
				}
				leaf.N = count
				checksNot(t, root, i, leaf, path)
				top, _ := wantUp(n, i, leaf, path)
				checksNot(t, top, i, leaf, path)
				top.N = n
				checksNot(t, top, i, leaf, path)
			}
		}
	}
}

// Where one side has more and another one less, root and all else fit together; and by 2^32 even the sums do.
func TestCheckOfSidesOfOtherCounts(t *testing.T) {
	for _, n := range sizes[1:] {
		l := someLeaves(n)
		root := wantTotal(l)
		for _, i := range somePlaces(n) {
			path := wantPath(l, i)
			for k := range path {
				for _, d := range []int{1, -1, 2, 64, 1 << 31, 1 << 32, -1 << 32, math.MinInt} {
					countsMoved(t, root, i, l[i], path, k, d)
				}
			}
		}
	}
}

func countsMoved(t *testing.T, root api.Total, i int, leaf api.Total, path []api.Total, k, d int) {
	t.Helper()
	n, path := root.N, slices.Clone(path)
	path[k].N += d
	checksNot(t, root, i, leaf, path)
	top, _ := wantUp(n, i, leaf, path)
	top.N = n
	checksNot(t, top, i, leaf, path)
	other := leaf
	other.N -= d
	top, _ = wantUp(n, i, other, path)
	checksNot(t, top, i, other, path)
	m := (k + 1) % len(path)
	if m == k {
		return
	}
	path[m].N -= d
	top, _ = wantUp(n, i, leaf, path)
	if top.N != n {
		t.Fatalf("%d of %d: N is %d", i, n, top.N)
	}
	checksNot(t, top, i, leaf, path)
	checksNot(t, root, i, leaf, path)
}

// Two sides that change their N, so that they together are as many as they have to be.
func TestCheckOfSidesThatChangedTheirCounts(t *testing.T) {
	l := someLeaves(4)
	path := []api.Total{{H: api.Id{1}, W: api.Wide{2}, N: 2}, {H: api.Id{2}, W: api.Wide{2}, N: 1}}
	for i := range 4 {
		top, _ := wantUp(4, i, l[i], path)
		checksNot(t, top, i, l[i], path)
	}
	path[0].N, path[1].N = 1, 2
	for i := range 4 {
		top, ahead := wantUp(4, i, l[i], path)
		checks(t, top, i, l[i], path, ahead)
	}
}

func TestCheckOfPathsTooShortOrTooLong(t *testing.T) {
	for _, n := range sizes[1:] {
		l := someLeaves(n)
		root := wantTotal(l)
		for i := range n {
			path := wantPath(l, i)
			for k := range path {
				shortPaths(t, root, i, l[i], path, k)
			}
			for _, more := range append([]api.Total{root, l[i], wantNone()}, oddTotals()...) {
				checksNot(t, root, i, l[i], append(slices.Clone(path), more))
				checksNot(t, root, i, l[i], append([]api.Total{more}, path...))
				// A total of none behind the last one leaves N as it is, and a root that has it fits.
				more.N = 0
				checksNot(t, wantJoin(root, more), i, l[i], append(slices.Clone(path), more))
				checksNot(t, wantJoin(more, root), i, l[i], append(slices.Clone(path), more))
			}
		}
	}
}

// shortPaths are those that end ahead of k, and those in which k is missing.
func shortPaths(t *testing.T, root api.Total, i int, leaf api.Total, path []api.Total, k int) {
	t.Helper()
	checksNot(t, root, i, leaf, path[:k])
	checksNot(t, root, i, leaf, slices.Delete(slices.Clone(path), k, k+1))
	top := leaf
	for m, side := range wantSides(root.N, i)[:k] {
		if side.left {
			top = wantJoin(path[m], top)
		} else {
			top = wantJoin(top, path[m])
		}
	}
	top.N = root.N
	checksNot(t, top, i, leaf, path[:k])
}

func TestCheckOfEmptyPaths(t *testing.T) {
	for _, path := range [][]api.Total{nil, {}, make([]api.Total, 0, 7)} {
		for _, n := range sizes {
			l := append(someLeaves(n), api.Total{H: api.Id{9}, W: api.Wide{9}, N: 1})[:n+1]
			root := wantTotal(l[:n])
			for i := range n {
				if n == 1 {
					checks(t, root, 0, l[0], path, api.Wide{})
				} else {
					checksNot(t, root, i, l[i], path)
				}
			}
			checksNot(t, root, n, l[n], path)
		}
		one := api.Total{H: api.Id{1}, W: allWork, N: 1}
		checks(t, one, 0, one, path, api.Wide{})
		checks(t, api.Total{N: 1}, 0, api.Total{N: 1}, path, api.Wide{})
	}
}

func TestCheckOfAnythingThatIsAnotherOne(t *testing.T) {
	for _, n := range []int{1, 2, 3, 5, 8, 33, 64} {
		l := someLeaves(n)
		root := wantTotal(l)
		for _, i := range somePlaces(n) {
			path := wantPath(l, i)
			for _, x := range others(root) {
				checksNot(t, x, i, l[i], path)
			}
			for _, x := range others(l[i]) {
				checksNot(t, root, i, x, path)
			}
			for k := range path {
				for _, x := range others(path[k]) {
					bad := slices.Clone(path)
					bad[k] = x
					checksNot(t, root, i, l[i], bad)
				}
			}
			checks(t, root, i, l[i], path, workOf(l[:i]))
		}
	}
}

// Work that goes from one to another leaves all of it together as it is.
func TestCheckOfWorkThatWasMoved(t *testing.T) {
	for _, n := range []int{2, 3, 5, 8, 64} {
		l := someLeaves(n)
		root := wantTotal(l)
		for i := range n {
			for k := range wantPath(l, i) {
				path, leaf := wantPath(l, i), l[i]
				path[k].W[0], leaf.W[0] = path[k].W[0]-1, leaf.W[0]+1
				checksNot(t, root, i, leaf, path)
			}
		}
	}
}

func TestCheckOfAnotherPlace(t *testing.T) {
	for _, n := range sizes[1:] {
		l := someLeaves(n)
		root := wantTotal(l)
		var paths [][]api.Total
		for i := range n {
			paths = append(paths, wantPath(l, i))
		}
		for i := range n {
			for k := range n {
				if k != i {
					checksNot(t, root, k, l[i], paths[i])
					checksNot(t, root, i, l[k], paths[i])
					checksNot(t, root, i, l[i], paths[k])
				}
			}
		}
	}
}

func TestCheckOfAnotherListsRoot(t *testing.T) {
	for _, n := range sizes[1:] {
		l := someLeaves(n + 1)
		for i := range n {
			path := wantPath(l[:n], i)
			checksNot(t, wantTotal(l), i, l[i], path)
			checksNot(t, wantTotal(l[1:]), i, l[i], path)
			checksNot(t, wantTotal(l[:n-1]), i, l[i], path)
			root := wantTotal(l[:n])
			for m := range 67 {
				if root.N = m; m != n {
					checksNot(t, root, i, l[i], path)
				}
			}
		}
	}
}

// At each join by turns work goes beyond 2^256 - 1 there, or comes just up to it.
func TestCheckOfWorkThatIsNotAllThere(t *testing.T) {
	for _, n := range sizes[2:] {
		for i := range n {
			for k := range wantSides(n, i) {
				for _, x := range []struct{ leaf, far, others api.Wide }{
					{api.Wide{}, allWork, api.Wide{}},
					{allWork, api.Wide{}, api.Wide{}},
					{api.Wide{1}, allWork, api.Wide{}},
					{allWork, api.Wide{1}, api.Wide{}},
					{api.Wide{1}, allWork, api.Wide{1}},
					{api.Wide{}, allWork, api.Wide{1}},
					{api.Wide{full - 99, full, full, full}, api.Wide{99}, api.Wide{}},
					{api.Wide{full - 99, full, full, full}, api.Wide{100}, api.Wide{}},
					{api.Wide{3: 1 << 63}, api.Wide{full, full, full, 1<<63 - 1}, api.Wide{}},
					{api.Wide{3: 1 << 63}, api.Wide{3: 1 << 63}, api.Wide{}},
					{allWork, allWork, allWork},
				} {
					pathOfWork(t, n, i, k, x.leaf, x.far, x.others)
				}
			}
		}
	}
}

// pathOfWork asks for a path of which the one at k has another work than the others.
func pathOfWork(t *testing.T, n, i, k int, leafW, far, rest api.Wide) {
	t.Helper()
	leaf := api.Total{H: api.Id{1}, W: leafW, N: 1}
	var path []api.Total
	sum := bigOf(leafW)
	for m, side := range wantSides(n, i) {
		w := rest
		if m == k {
			w = far
		}
		sum.Add(sum, bigOf(w))
		path = append(path, api.Total{H: api.Id{2, byte(m)}, W: w, N: side.count})
	}
	root, ahead := wantUp(n, i, leaf, path)
	if sum.BitLen() > 256 {
		checksNot(t, root, i, leaf, path)
	} else {
		checks(t, root, i, leaf, path, ahead)
	}
}

// Paths that no list of leaves made, but that hold, and others that miss by little.
func TestCheckOfAnyPaths(t *testing.T) {
	x := uint64(88172645463325252)
	next := func(below int) int {
		x ^= x << 13
		x ^= x >> 7
		x ^= x << 17
		return int(x % uint64(below))
	}
	odd, held := oddTotals(), 0
	for range 30000 {
		n := 1 + next(66)
		i := next(n+2) - 1
		leaf := odd[next(len(odd))]
		if next(8) > 0 {
			leaf.N = 1
		}
		var path []api.Total
		for _, side := range wantSides(n, max(i, 0)) {
			far := odd[next(len(odd))]
			far.W[3] >>= 8 // most paths' work is all there
			if next(20) > 0 {
				far.N = side.count
			}
			path = append(path, far)
		}
		root, _ := wantUp(n, max(i, 0), leaf, path)
		if next(8) == 0 {
			root = others(root)[next(50)]
		}
		want, holds := wantCheck(root, i, leaf, path)
		if got, is := Check(root, i, leaf, path); is != holds || got != want {
			t.Errorf("%v, %d, %v, %v: %v, %v", root, i, leaf, path, got, is)
		}
		if holds {
			held++
		}
	}
	if held < 3000 || held > 27000 {
		t.Errorf("%d hold", held)
	}
}

// P6.5

func TestRootOfAppendedLeavesIsTheTotalOfAll(t *testing.T) {
	for _, l := range [][]api.Total{someLeaves(300), sameLeaves(300)} {
		var p []api.Total
		for n := range l {
			if Root(p) != wantTotal(l[:n]) {
				t.Errorf("%d leaves", n)
			}
			p = Append(p, l[n])
		}
	}
}

// What goes beyond 2^256 of all work is lost in peaks as it is in lists, and the sums are the same.
func TestRootOfAppendedLeavesOfMuchWork(t *testing.T) {
	for n := range 65 {
		l := someLeaves(n)
		for i := range l {
			l[i].W = api.Wide{uint64(i), full, full, full - uint64(i)}
		}
		if Root(appended(l)) != wantTotal(l) {
			t.Errorf("%d leaves", n)
		}
	}
}

func TestEachPathChecks(t *testing.T) {
	for n := 1; n <= 64; n++ {
		for _, l := range [][]api.Total{someLeaves(n), sameLeaves(n)} {
			root := Root(appended(l))
			for i := range n {
				checks(t, root, i, l[i], mustPath(t, l, i), workOf(l[:i]))
			}
		}
	}
}

// No path leads to the root of 65 leaves, be it asked for or made by hand.
func TestOneLeafTooMany(t *testing.T) {
	l := someLeaves(65)
	root := Root(appended(l))
	if root != wantTotal(l) || root.N != 65 {
		t.Error(root)
	}
	for i := range l {
		if path, is := Path(l, i); is || len(path) != 0 {
			t.Error(i, path)
		}
		checksNot(t, root, i, l[i], wantPath(l, i))
	}
}

// R3 and R5: what is handed in stays, what is answered is the caller's own, and what was asked before changes nothing.

func TestHandedInStaysAsItWas(t *testing.T) {
	for _, n := range append([]int{65}, sizes...) {
		l := someLeaves(n)
		was := slices.Clone(l)
		Append(l, api.Total{N: 1})
		Append(appended(l), api.Total{N: 1})
		Root(l)
		Same(l, was)
		for i := range n {
			path, _ := Path(l, i)
			pathWas := slices.Clone(path)
			Check(wantTotal(l), i, l[i], path)
			Check(l[0], 0, l[i], path)
			if !slices.Equal(path, pathWas) {
				t.Errorf("%d of %d: the path changed", i, n)
			}
		}
		if !slices.Equal(l, was) {
			t.Errorf("%d totals changed", n)
		}
	}
}

// Behind what is handed in the caller may have more, and there is room for what comes.
func TestNothingBehindIsWritten(t *testing.T) {
	for _, counts := range [][]int{{}, {1}, {2, 1}, {4, 2, 1}, {4, 2}, {1, 1, 1}, {0, 0, 0}} {
		for _, leaf := range ofCounts(0, 1, 2, -1) {
			room := append(ofCounts(counts...), someLeaves(9)...)
			was := slices.Clone(room)
			p := room[:len(counts)]
			Append(p, leaf)
			Root(p)
			for i := range p {
				Path(p, i)
			}
			if !slices.Equal(room, was) {
				t.Errorf("%v and %d: %v", counts, leaf.N, countsOf(room))
			}
		}
	}
}

func TestPeaksAreTheCallersOwn(t *testing.T) {
	for _, counts := range [][]int{{}, {1}, {2}, {2, 1}, {4, 2}, {8, 4}, {1, 1}} {
		p := append(make([]api.Total, 0, 20), ofCounts(counts...)...)
		leaf := api.Total{H: api.Id{1}, W: api.Wide{2}, N: 1}
		want := wantAppend(p, leaf)
		first, second := Append(p, leaf), Append(p, leaf)
		clear(p)
		if !slices.Equal(first, want) {
			t.Errorf("%v: what came changed with what was handed in", counts)
		}
		p = append(p[:0], ofCounts(counts...)...)
		clear(first[:cap(first)])
		if !slices.Equal(p, ofCounts(counts...)) || !slices.Equal(second, want) {
			t.Errorf("%v: what was handed in, or came again, changed with what came", counts)
		}
	}
}

// Two that are appended to the same peaks do not know of one another.
func TestTwoWaysOnFromThePeaks(t *testing.T) {
	p := appended(someLeaves(6))
	for range 3 {
		p = Append(p, api.Total{H: api.Id{7}, N: 64})
		a, b := api.Total{H: api.Id{8}, N: 1}, api.Total{H: api.Id{9}, N: 2}
		first := Append(p, a)
		second := Append(p, b)
		if !slices.Equal(first, wantAppend(p, a)) || !slices.Equal(second, wantAppend(p, b)) {
			t.Fatalf("%v, %v", countsOf(first), countsOf(second))
		}
	}
}

func TestPathIsTheCallersOwn(t *testing.T) {
	for _, n := range []int{2, 3, 5, 8, 64} {
		l := someLeaves(n)
		for i := range n {
			want := wantPath(l, i)
			first, second := mustPath(t, l, i), mustPath(t, l, i)
			clear(first[:cap(first)])
			if !slices.Equal(l, someLeaves(n)) || !slices.Equal(second, want) {
				t.Errorf("%d of %d: what was handed in, or came again, changed with what came", i, n)
			}
			clear(l)
			if !slices.Equal(second, want) {
				t.Errorf("%d of %d: what came changed with what was handed in", i, n)
			}
			copy(l, someLeaves(n))
		}
	}
}

func TestAnswersHangOnNothingElse(t *testing.T) {
	l := someLeaves(13)
	ask := func() []api.Total {
		path := mustPath(t, l, 7)
		w, _ := Check(wantTotal(l), 7, l[7], path)
		return slices.Concat(path, appended(l), []api.Total{Root(nil), Root(l), Join(l[0], l[1]), Leaf(l[0].H, w)})
	}
	first := ask()
	odd := oddTotals()
	for i := range odd {
		Append(odd, odd[i])
		Root(odd[:i])
		Path(odd, i)
		Check(odd[i], i, odd[i], odd[:i])
	}
	if !slices.Equal(ask(), first) {
		t.Error("asked again, another answer")
	}
}
