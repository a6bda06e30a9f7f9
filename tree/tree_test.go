package tree

import (
	"bytes"
	"crypto/sha256"
	"encoding/hex"
	"math"
	"slices"
	"testing"

	"stepladder/api"
)

// sizes are how many leaves trees have here, most of them next to a power of two.
var sizes = []int{0, 1, 2, 3, 4, 5, 6, 7, 8, 9, 15, 16, 17, 31, 32, 33, 47, 62, 63, 64}

// farPlaces are places of no leaf at all.
var farPlaces = []int{-1, -2, -64, math.MinInt, math.MinInt + 1, math.MinInt32, 64, 65, 128, 1 << 31, 1 << 32, 1 << 62, math.MaxInt - 1, math.MaxInt}

// badCounts are how many leaves no path is of.
var badCounts = []int{-1, 0, 65, 66, 128, -64, math.MinInt, math.MinInt + 1, 1 << 32, 1 << 62, math.MaxInt - 1, math.MaxInt}

// someIds are n ids, no two the same.
func someIds(n int) []api.Id {
	l := make([]api.Id, n)
	for i := range l {
		l[i] = sha256.Sum256([]byte{byte(i), byte(i >> 8), 77})
	}
	return l
}

func sameIds(n int) []api.Id {
	return slices.Repeat([]api.Id{{5, 6, 7}}, n)
}

func idOf(t *testing.T, text string) api.Id {
	t.Helper()
	b, err := hex.DecodeString(text)
	if err != nil || len(b) != 32 {
		t.Fatalf("no id: %s", text)
	}
	return api.Id(b)
}

// wantText and wantNode are the chapter's words on Node.
func wantText(a, b api.Id) []byte {
	return slices.Concat([]byte{1}, a[:], b[:])
}

func wantNode(a, b api.Id) api.Id {
	return sha256.Sum256(wantText(a, b))
}

// wantRows are a tree's sums, row by row from the leaves up: each two neighbours make one of the row above, and one that
// is left over goes up as it is. That is another way to the same as a cut at the greatest power of two.
func wantRows(node joiner, l []api.Id) [][]api.Id {
	rows := [][]api.Id{l}
	for row := l; len(row) > 1; {
		var above []api.Id
		for i := 0; i < len(row); i += 2 {
			if i+1 < len(row) {
				above = append(above, node(row[i], row[i+1]))
			} else {
				above = append(above, row[i])
			}
		}
		rows = append(rows, above)
		row = above
	}
	return rows
}

func wantRoot(node joiner, l []api.Id) api.Id {
	if len(l) == 0 {
		return sha256.Sum256([]byte{2})
	}
	rows := wantRows(node, l)
	return rows[len(rows)-1][0]
}

func wantPath(node joiner, l []api.Id, i int) []api.Id {
	var path []api.Id
	for _, row := range wantRows(node, l) {
		if i^1 < len(row) {
			path = append(path, row[i^1])
		}
		i /= 2
	}
	return path
}

// wantSteps are the pairs, and what comes of each, from a leaf on up along a path that is as long as it has to be.
func wantSteps(node joiner, n, i int, leaf api.Id, path []api.Id) []step {
	var steps []step
	for k := 0; n > 1; n, i = (n+1)/2, i/2 {
		if i^1 >= n {
			continue
		}
		sides := [2]api.Id{leaf, path[k]}
		if i%2 == 1 {
			sides = [2]api.Id{path[k], leaf}
		}
		leaf = node(sides[0], sides[1])
		steps = append(steps, step{sides, leaf})
		k++
	}
	return steps
}

func mustPath(t *testing.T, l []api.Id, i int) []api.Id {
	t.Helper()
	path, is := Path(l, i)
	if !is {
		t.Fatalf("no path of %d in %d", i, len(l))
	}
	return path
}

func allPaths(t *testing.T, l []api.Id) [][]api.Id {
	t.Helper()
	paths := make([][]api.Id, len(l))
	for i := range l {
		paths[i] = mustPath(t, l, i)
	}
	return paths
}

func noClash(t *testing.T, l []api.Id, i int, leaf api.Id, path []api.Id) {
	t.Helper()
	if a, b, is := Clash(l, i, leaf, path); is || len(a) != 0 || len(b) != 0 {
		t.Errorf("clash at %d of %d: %v, %v, %v", i, len(l), a, b, is)
	}
}

// The chapter's examples

func TestExamples(t *testing.T) {
	l := someIds(3)
	a, b, c := l[0], l[1], l[2]
	if Root(l) != Node(Node(a, b), c) {
		t.Error("root")
	}
	if path, is := Path(l, 2); !is || !slices.Equal(path, []api.Id{Node(a, b)}) {
		t.Error(path, is)
	}
}

// P5.1

func TestSumsOfKnownBytes(t *testing.T) {
	if Leaf(nil) != idOf(t, "6e340b9cffb37a989ca544e6bb780a2c78901d3fb33738768511a30617afa01d") {
		t.Error("leaf of nothing")
	}
	if Leaf([]byte("a")) != idOf(t, "022a6979e6dab7aa5ae4c3e5e45f7e977112a7e63593820dbec1ec738a24f93c") {
		t.Error("leaf")
	}
	if Root(nil) != idOf(t, "dbc1b4c900ffe48d575b5da5c638040125f65db0fe3e24494b76ea986457d986") {
		t.Error("root of nothing")
	}
}

func TestLeaf(t *testing.T) {
	for _, size := range []int{0, 1, 2, 31, 32, 33, 54, 55, 56, 63, 64, 65, 176, 1000} {
		b := bytes.Repeat([]byte{1, 0, 2, 9}, size)[:size]
		if Leaf(b) != sha256.Sum256(append([]byte{0}, b...)) {
			t.Errorf("%d bytes", size)
		}
	}
	if Leaf(nil) != Leaf([]byte{}) {
		t.Error("nothing is not nothing")
	}
}

func TestNode(t *testing.T) {
	l := append(someIds(4), api.Id{}, api.Id{31: 1}, api.Id{1})
	for _, a := range l {
		for _, b := range l {
			if Node(a, b) != wantNode(a, b) {
				t.Errorf("%x, %x", a, b)
			}
			if a != b && Node(a, b) == Node(b, a) {
				t.Errorf("%x, %x: sides do not matter", a, b)
			}
		}
	}
}

func TestKindsOfSumsAreApart(t *testing.T) {
	a, b := api.Id{1}, api.Id{2}
	text := slices.Concat(a[:], b[:])
	if Leaf(text) == Node(a, b) || Leaf(nil) == Root(nil) || Root([]api.Id{a}) == Leaf(a[:]) {
		t.Error("one sum of two kinds")
	}
}

func TestRootsByHand(t *testing.T) {
	l := someIds(9)
	n := wantNode
	ab, cd, ef, gh := n(l[0], l[1]), n(l[2], l[3]), n(l[4], l[5]), n(l[6], l[7])
	for size, want := range map[int]api.Id{
		1: l[0],
		2: ab,
		3: n(ab, l[2]),
		4: n(ab, cd),
		5: n(n(ab, cd), l[4]),
		6: n(n(ab, cd), ef),
		7: n(n(ab, cd), n(ef, l[6])),
		8: n(n(ab, cd), n(ef, gh)),
		9: n(n(n(ab, cd), n(ef, gh)), l[8]),
	} {
		if Root(l[:size]) != want {
			t.Errorf("%d leaves", size)
		}
	}
}

func TestRootsOfAllSizes(t *testing.T) {
	for n := range 140 {
		for _, l := range [][]api.Id{someIds(n), sameIds(n)} {
			if Root(l) != wantRoot(wantNode, l) {
				t.Errorf("%d leaves", n)
			}
		}
	}
	if Root([]api.Id{}) != Root(nil) {
		t.Error("nothing is not nothing")
	}
}

// A tree's root is the Node of both sides' roots, wherever the greatest power of two below it is.
func TestRootIsNodeOfItsSides(t *testing.T) {
	for n, at := range map[int]int{2: 1, 3: 2, 4: 2, 5: 4, 8: 4, 9: 8, 33: 32, 63: 32, 64: 32, 65: 64, 128: 64, 129: 128} {
		l := someIds(n)
		if Root(l) != Node(Root(l[:at]), Root(l[at:])) {
			t.Errorf("%d leaves", n)
		}
	}
}

func TestRootHangsOnEachLeaf(t *testing.T) {
	for _, n := range sizes {
		l := someIds(n)
		root := Root(l)
		for i := range l {
			l[i][31] ^= 1
			if Root(l) == root {
				t.Errorf("leaf %d of %d does not matter", i, n)
			}
			l[i][31] ^= 1
		}
	}
}

// P5.2

func TestPathsByHand(t *testing.T) {
	l := someIds(7)
	n := wantNode
	ab, cd, ef := n(l[0], l[1]), n(l[2], l[3]), n(l[4], l[5])
	for _, x := range []struct {
		size, i int
		want    []api.Id
	}{
		{1, 0, nil},
		{2, 0, []api.Id{l[1]}},
		{2, 1, []api.Id{l[0]}},
		{3, 0, []api.Id{l[1], l[2]}},
		{3, 1, []api.Id{l[0], l[2]}},
		{3, 2, []api.Id{ab}},
		{4, 2, []api.Id{l[3], ab}},
		{5, 1, []api.Id{l[0], cd, l[4]}},
		{5, 4, []api.Id{n(ab, cd)}},
		{7, 3, []api.Id{l[2], ab, n(ef, l[6])}},
		{7, 5, []api.Id{l[4], l[6], n(ab, cd)}},
		{7, 6, []api.Id{ef, n(ab, cd)}},
	} {
		if path, is := Path(l[:x.size], x.i); !is || !slices.Equal(path, x.want) {
			t.Errorf("%d of %d: %x, %v", x.i, x.size, path, is)
		}
	}
}

func TestPathsOfAllPlaces(t *testing.T) {
	for _, n := range sizes {
		for _, l := range [][]api.Id{someIds(n), sameIds(n)} {
			for i := range n {
				if path, is := Path(l, i); !is || !slices.Equal(path, wantPath(wantNode, l, i)) {
					t.Errorf("%d of %d: %x, %v", i, n, path, is)
				}
			}
		}
	}
}

// With a Node that costs nothing all sizes can be gone through.
func TestPathsOfAllSizes(t *testing.T) {
	mixed := func(a, b api.Id) api.Id { return api.Id{a[0]*3 + b[0]*5 + 1, a[1] ^ b[0], b[1] - a[0]} }
	for n := 1; n <= 64; n++ {
		l := someIds(n)
		for i := range n {
			path, is := pathBy(mixed, l, i)
			if !is || !slices.Equal(path, wantPath(mixed, l, i)) || !checkBy(mixed, wantRoot(mixed, l), n, i, l[i], path) {
				t.Errorf("%d of %d: %x, %v", i, n, path, is)
			}
		}
	}
}

func TestNoPathOfNoPlace(t *testing.T) {
	for n := range 65 {
		l := someIds(n)
		for _, i := range append([]int{n, n + 1, -n - 1}, farPlaces...) {
			if path, is := Path(l, i); is || len(path) != 0 {
				t.Errorf("%d of %d: %x", i, n, path)
			}
		}
	}
	if path, is := Path(nil, 0); is || len(path) != 0 {
		t.Error(path, is)
	}
}

func TestNoPathOfTooManyLeaves(t *testing.T) {
	for _, n := range []int{65, 66, 100, 128, 1000} {
		l := someIds(n)
		for _, i := range []int{0, 1, 63, 64, n - 1, n, -1, math.MaxInt, math.MinInt} {
			if path, is := Path(l, i); is || len(path) != 0 {
				t.Errorf("%d of %d: %x", i, n, path)
			}
		}
	}
}

// P5.3

func TestCheckByHand(t *testing.T) {
	l := someIds(3)
	a, b, c := l[0], l[1], l[2]
	ab := wantNode(a, b)
	root := wantNode(ab, c)
	for _, x := range []struct {
		n, i int
		leaf api.Id
		path []api.Id
		want bool
	}{
		{3, 0, a, []api.Id{b, c}, true},
		{3, 1, b, []api.Id{a, c}, true},
		{3, 2, c, []api.Id{ab}, true},
		{3, 1, a, []api.Id{b, c}, false},
		{3, 0, b, []api.Id{a, c}, false},
		{3, 0, a, []api.Id{c, b}, false},
		{3, 2, ab, []api.Id{c}, false},
		{3, 0, a, []api.Id{b}, false},
		{3, 3, c, []api.Id{ab}, false},
		// By the words a tree of two leaves, of which one is a Node, has the same root.
		{2, 0, ab, []api.Id{c}, true},
		{2, 1, c, []api.Id{ab}, true},
		{2, 0, c, []api.Id{ab}, false},
		{1, 0, root, nil, true},
		{1, 0, root, []api.Id{}, true},
		{1, 0, root, []api.Id{c}, false},
		{1, 1, root, nil, false},
		{1, -1, root, nil, false},
		{1, 0, ab, nil, false},
		{0, 0, root, nil, false},
		{0, -1, root, nil, false},
		// Paths of a and b are as long in a tree of four.
		{4, 0, a, []api.Id{b, c}, true},
		{4, 1, b, []api.Id{a, c}, true},
		{4, 2, a, []api.Id{b, c}, false},
		{4, 2, c, []api.Id{ab}, false},
	} {
		if Check(root, x.n, x.i, x.leaf, x.path) != x.want {
			t.Errorf("%d of %d, %d ids: not %v", x.i, x.n, len(x.path), x.want)
		}
	}
}

func TestCheckOfBadCounts(t *testing.T) {
	l := someIds(129)
	for _, n := range badCounts {
		for _, i := range append([]int{0, 1, 63}, farPlaces...) {
			for _, size := range []int{0, 1, 6, 7, 64} {
				if Check(l[0], n, i, l[0], l[1:1+size]) {
					t.Errorf("%d of %d, %d ids", i, n, size)
				}
			}
		}
	}
	// These would lead to the roots, but for how many leaves there are.
	for n, path := range map[int][]api.Id{65: {Root(l[:64])}, 129: {Root(l[:128])}} {
		if Check(Root(l[:n]), n, n-1, l[n-1], path) {
			t.Errorf("the last one of %d", n)
		}
	}
	if Check(Root(l[:65]), 65, 0, l[0], append(mustPath(t, l[:64], 0), l[64])) {
		t.Error("the first one of 65")
	}
	if Check(Root(nil), 0, 0, Root(nil), nil) {
		t.Error("a leaf of nothing")
	}
}

func TestCheckOfNoPlace(t *testing.T) {
	for _, n := range sizes[1:] {
		l := someIds(n)
		root, last := Root(l), mustPath(t, l, n-1)
		for _, i := range append([]int{n, n + 1, -n, -n - 1, 2*n - 1}, farPlaces...) {
			if i < 0 || i >= n {
				if Check(root, n, i, l[n-1], last) || Check(root, n, i, root, nil) {
					t.Errorf("%d of %d", i, n)
				}
			}
		}
	}
}

func TestCheckOfPathsTooShortOrTooLong(t *testing.T) {
	for _, n := range sizes[1:] {
		l := someIds(n)
		root := Root(l)
		for i := range n {
			path := mustPath(t, l, i)
			longer := append(slices.Clone(path), l[0])
			ahead := append([]api.Id{l[0]}, path...)
			if Check(root, n, i, l[i], longer) || Check(root, n, i, l[i], ahead) {
				t.Errorf("%d of %d: longer", i, n)
			}
			if n == 1 {
				continue
			}
			if Check(root, n, i, l[i], path[:len(path)-1]) || Check(root, n, i, l[i], path[1:]) {
				t.Errorf("%d of %d: shorter", i, n)
			}
			if Check(root, n, i, root, nil) || Check(root, n, i, root, []api.Id{}) || Check(root, n, i, l[i], nil) {
				t.Errorf("%d of %d: none", i, n)
			}
		}
	}
}

// A path that is too short, or too long, does not check with the root either to which it leads.
func TestCheckOfAnotherLengthAndItsRoot(t *testing.T) {
	for _, n := range sizes[1:] {
		for i := range n {
			for more := range 2 {
				l, sides := someIds(8), append(wantSides(n, i), more)
				sum := l[7]
				for size, side := range sides {
					if size < len(sides)-1 && Check(sum, n, i, l[7], l[:size]) {
						t.Errorf("%d of %d, %d ids", i, n, size)
					}
					pair := [2]api.Id{sum, l[size]}
					sum = wantNode(pair[side], pair[1-side])
				}
				if Check(sum, n, i, l[7], l[:len(sides)]) {
					t.Errorf("%d of %d, one more", i, n)
				}
			}
		}
	}
}

func TestCheckOfAnythingThatIsAnotherOne(t *testing.T) {
	for _, n := range sizes[1:] {
		l := someIds(n)
		root := Root(l)
		for i := range n {
			path, leaf := mustPath(t, l, i), l[i]
			for _, at := range []int{0, 15, 31} {
				other, fake := root, leaf
				other[at] ^= 128
				fake[at] ^= 1
				if Check(other, n, i, leaf, path) || Check(root, n, i, fake, path) || Check(api.Id{}, n, i, leaf, path) {
					t.Errorf("%d of %d: another root, or leaf", i, n)
				}
				for k := range path {
					path[k][at] ^= 2
					if Check(root, n, i, leaf, path) {
						t.Errorf("%d of %d: another id at %d", i, n, k)
					}
					path[k][at] ^= 2
				}
			}
			if !Check(root, n, i, leaf, path) {
				t.Errorf("%d of %d", i, n)
			}
		}
	}
}

func TestCheckOfAnotherPlace(t *testing.T) {
	for _, n := range []int{2, 3, 4, 5, 7, 8, 9, 33, 63, 64} {
		l := someIds(n)
		root, paths := Root(l), allPaths(t, l)
		for i := range n {
			for j := range n {
				if Check(root, n, j, l[i], paths[i]) != (i == j) {
					t.Errorf("%d of %d, at %d", i, n, j)
				}
				if i != j && Check(root, n, i, l[j], paths[i]) {
					t.Errorf("%d of %d, with leaf %d", i, n, j)
				}
			}
		}
	}
}

// Where all leaves are the same, and as many as a power of two, each path is one of each place.
func TestCheckOfTheSameLeaves(t *testing.T) {
	for _, n := range []int{1, 2, 4, 8, 16, 32, 64} {
		l := sameIds(n)
		root, paths := Root(l), allPaths(t, l)
		for i := range n {
			for _, j := range []int{0, 1, n / 2, n - 1} {
				if j < n && !Check(root, n, j, l[i], paths[i]) {
					t.Errorf("%d of %d, at %d", i, n, j)
				}
			}
		}
	}
}

// A path alone tells no count: it is one of more leaves, or fewer, too, if the leaf stands on the same sides there.
func TestCheckOfAnotherCount(t *testing.T) {
	l := someIds(64)
	for _, n := range sizes[1:] {
		root := Root(l[:n])
		for i := range n {
			path := mustPath(t, l[:n], i)
			for _, m := range sizes[1:] {
				want := i < m && slices.Equal(wantSides(n, i), wantSides(m, i))
				if Check(root, m, i, l[i], path) != want {
					t.Errorf("%d of %d, as of %d: not %v", i, n, m, want)
				}
			}
		}
	}
}

// wantSides are on which sides leaf i of n stands, from the least tree on: 0 left, 1 right.
func wantSides(n, i int) []int {
	var sides []int
	for ; n > 1; n, i = (n+1)/2, i/2 {
		if i^1 < n {
			sides = append(sides, i%2)
		}
	}
	return sides
}

// P5.4

// weakNodes are joiners of few sums, such that many texts have one, of all kinds: some that hang on both sides, on one
// alone, and on none.
func weakNodes() []joiner {
	return []joiner{
		func(a, b api.Id) api.Id { return api.Id{(a[0]*2 + b[0]*3 + 1) % 4} },
		func(a, b api.Id) api.Id { return api.Id{(a[0]*b[0] + a[0]) % 4} },
		func(a, b api.Id) api.Id { return api.Id{max(a[0], b[0])} },
		func(a, b api.Id) api.Id { return api.Id{a[0] / 2} },
		func(a, b api.Id) api.Id { return api.Id{3 - b[0]/2} },
		func(a, b api.Id) api.Id { return api.Id{2} },
	}
}

// eachRow calls f with each row of n ids of first bytes below most.
func eachRow(n, most int, f func([]api.Id)) {
	row := make([]api.Id, n)
	var fill func(at int)
	fill = func(at int) {
		if at == n {
			f(row)
			return
		}
		for x := range most {
			row[at] = api.Id{byte(x)}
			fill(at + 1)
		}
	}
	fill(0)
}

// wantClash is the chapter's words on Clash, of a place and a path that is as long as it has to be.
func wantClash(node joiner, l []api.Id, i int, leaf api.Id, path []api.Id) ([]byte, []byte, bool) {
	told := wantSteps(node, len(l), i, leaf, path)
	own := wantSteps(node, len(l), i, l[i], wantPath(node, l, i))
	if leaf == l[i] || len(told) == 0 || told[len(told)-1].sum != own[len(own)-1].sum {
		return nil, nil, false
	}
	for k := range told {
		if told[k].sum == own[k].sum {
			a, b := told[k].sides, own[k].sides
			return wantText(a[0], a[1]), wantText(b[0], b[1]), true
		}
	}
	return nil, nil, false
}

func TestClashOfWeakSums(t *testing.T) {
	for kind, node := range weakNodes() {
		found := 0
		for n := 1; n <= 6; n++ {
			for seed := range 3 {
				l := make([]api.Id, n)
				for i := range l {
					l[i] = api.Id{byte(i*(seed+1)+seed) % 4}
				}
				for i := range n {
					found += clashesAt(t, node, l, i)
				}
			}
		}
		if found == 0 {
			t.Errorf("kind %d: no clash at all", kind)
		}
	}
}

// clashesAt holds what is answered of each leaf and path of few ids against what the chapter says, and tells how many
// texts there were.
func clashesAt(t *testing.T, node joiner, l []api.Id, i int) int {
	t.Helper()
	found, size := 0, len(wantPath(node, l, i))
	eachRow(size+1, 4, func(row []api.Id) {
		leaf, path := row[0], row[1:]
		a, b, is := clashBy(node, l, i, leaf, path)
		wantA, wantB, want := wantClash(node, l, i, leaf, path)
		if is != want || !bytes.Equal(a, wantA) || !bytes.Equal(b, wantB) {
			t.Fatalf("%v at %d of %v, along %v: %v, %v, %v", leaf[0], i, l, path, a, b, is)
		}
		if is {
			found++
		}
	})
	return found
}

// With the higher one for Node, the leaves 3, 1, 0, 2 have the root 3. In the first four rows both first steps come to
// the same, and the texts are told of these, though the ones above are of one sum, too; in the next three just the
// second steps do.
func TestClashByHand(t *testing.T) {
	highest := func(a, b api.Id) api.Id { return api.Id{max(a[0], b[0])} }
	l := []api.Id{{3}, {1}, {0}, {2}}
	for _, x := range []struct {
		i        int
		leaf     byte
		path     []api.Id
		told, in [2]byte
		is       bool
	}{
		{1, 0, []api.Id{{3}, {2}}, [2]byte{3, 0}, [2]byte{3, 1}, true},
		{1, 0, []api.Id{{3}, {1}}, [2]byte{3, 0}, [2]byte{3, 1}, true},
		{1, 3, []api.Id{{3}, {0}}, [2]byte{3, 3}, [2]byte{3, 1}, true},
		{2, 1, []api.Id{{2}, {3}}, [2]byte{1, 2}, [2]byte{0, 2}, true},
		{1, 2, []api.Id{{1}, {3}}, [2]byte{2, 3}, [2]byte{3, 2}, true},
		{2, 1, []api.Id{{0}, {3}}, [2]byte{3, 1}, [2]byte{3, 2}, true},
		{3, 1, []api.Id{{3}, {1}}, [2]byte{1, 3}, [2]byte{3, 2}, true},
		{1, 1, []api.Id{{3}, {1}}, [2]byte{}, [2]byte{}, false},
		{1, 0, []api.Id{{2}, {2}}, [2]byte{}, [2]byte{}, false},
		{1, 0, []api.Id{{3}}, [2]byte{}, [2]byte{}, false},
		{1, 0, []api.Id{{3}, {2}, {1}}, [2]byte{}, [2]byte{}, false},
		{4, 0, []api.Id{{3}, {2}}, [2]byte{}, [2]byte{}, false},
		{-1, 0, []api.Id{{3}, {2}}, [2]byte{}, [2]byte{}, false},
	} {
		var want [2][]byte
		if x.is {
			want[0] = wantText(api.Id{x.told[0]}, api.Id{x.told[1]})
			want[1] = wantText(api.Id{x.in[0]}, api.Id{x.in[1]})
		}
		a, b, is := clashBy(highest, l, x.i, api.Id{x.leaf}, x.path)
		if is != x.is || !bytes.Equal(a, want[0]) || !bytes.Equal(b, want[1]) {
			t.Errorf("%d at %d, along %v: %v, %v, %v", x.leaf, x.i, x.path, a, b, is)
		}
	}
}

func TestNoClashOfTrueLeaves(t *testing.T) {
	for _, n := range sizes {
		for _, l := range [][]api.Id{someIds(n), sameIds(n)} {
			for i := range n {
				noClash(t, l, i, l[i], mustPath(t, l, i))
			}
		}
	}
}

// A true leaf comes with no texts, even if another path than its own leads from it to the root.
func TestNoClashOfTrueLeavesOfWeakSums(t *testing.T) {
	for _, node := range weakNodes() {
		l := []api.Id{{3}, {1}, {0}, {2}, {1}}
		for i := range l {
			eachRow(len(wantPath(node, l, i)), 4, func(path []api.Id) {
				if a, b, is := clashBy(node, l, i, l[i], path); is || len(a) != 0 || len(b) != 0 {
					t.Fatalf("%d, along %v: %v, %v", i, path, a, b)
				}
			})
		}
	}
}

func TestNoClashOfWhatDoesNotCheck(t *testing.T) {
	for _, n := range []int{1, 2, 3, 4, 5, 7, 8, 9, 33} {
		l := someIds(n)
		for i := range n {
			path := mustPath(t, l, i)
			other := l[i]
			other[7] ^= 1
			noClash(t, l, i, other, path)
			noClash(t, l, i, l[(i+1)%n], path)
			noClash(t, l, (i+1)%n, l[i], path)
			noClash(t, l, i, other, nil)
			noClash(t, l, i, other, append(slices.Clone(path), other))
			if n > 1 {
				noClash(t, l, i, Root(l), nil)
				noClash(t, l, i, other, path[1:])
				noClash(t, l, i, other, path[:len(path)-1])
				path[0][0] ^= 1
				noClash(t, l, i, l[i], path)
			}
		}
	}
}

func TestNoClashOfNoPlace(t *testing.T) {
	for _, n := range append([]int{65, 66, 128}, sizes...) {
		l := someIds(n)
		for _, i := range append([]int{n}, farPlaces...) {
			if i < 0 || i >= n {
				noClash(t, l, i, Root(l), nil)
				noClash(t, l, i, api.Id{}, someIds(6))
			}
		}
	}
}

// Of 65 leaves all sums are one here: but for how many leaves there are, each path of seven ids would lead to the root.
func TestNoClashOfTooManyLeaves(t *testing.T) {
	one := func(a, b api.Id) api.Id { return api.Id{2} }
	l := someIds(65)
	for _, i := range []int{0, 1, 63, 64} {
		for size := range 9 {
			if a, b, is := clashBy(one, l, i, api.Id{9}, l[:size]); is || len(a) != 0 || len(b) != 0 {
				t.Errorf("%d, along %d ids", i, size)
			}
		}
	}
	if _, _, is := clashBy(one, l[:64], 0, api.Id{9}, l[:6]); !is {
		t.Error("64 leaves")
	}
}

// P5.5

func TestEachPathChecks(t *testing.T) {
	for n := 1; n <= 64; n++ {
		for _, l := range [][]api.Id{someIds(n), sameIds(n)} {
			root := Root(l)
			for i := 0; i < n; i += 1 + n/16 {
				if !Check(root, n, i, l[i], mustPath(t, l, i)) || !Check(root, n, n-1-i, l[n-1-i], mustPath(t, l, n-1-i)) {
					t.Errorf("%d of %d", i, n)
				}
			}
		}
	}
}

func TestEachPathOfWeakSumsChecks(t *testing.T) {
	for _, node := range weakNodes() {
		for n := 1; n <= 64; n++ {
			l := someIds(n)
			root := rootBy(node, l)
			for i := range n {
				path, is := pathBy(node, l, i)
				if !is || !checkBy(node, root, n, i, l[i], path) {
					t.Errorf("%d of %d", i, n)
				}
			}
		}
	}
}

func TestAnotherLeafThatChecksComesWithTwoTexts(t *testing.T) {
	for _, node := range weakNodes() {
		for n := 1; n <= 7; n++ {
			l := make([]api.Id, n)
			for i := range l {
				l[i] = api.Id{byte(i*i+n) % 4}
			}
			for i := range n {
				textsAt(t, node, l, i)
			}
		}
	}
}

func textsAt(t *testing.T, node joiner, l []api.Id, i int) {
	t.Helper()
	eachRow(len(wantPath(node, l, i))+1, 4, func(row []api.Id) {
		leaf, path := row[0], row[1:]
		checks := checkBy(node, rootBy(node, l), len(l), i, leaf, path)
		a, b, is := clashBy(node, l, i, leaf, path)
		if is != (checks && leaf != l[i]) {
			t.Fatalf("%v at %d of %v, along %v: %v", leaf[0], i, l, path, is)
		}
		if is && (bytes.Equal(a, b) || sumOf(t, node, a) != sumOf(t, node, b)) {
			t.Fatalf("%v at %d of %v, along %v: %v, %v", leaf[0], i, l, path, a, b)
		}
	})
}

// sumOf is what a joiner makes of a text of 65 bytes.
func sumOf(t *testing.T, node joiner, text []byte) api.Id {
	t.Helper()
	if len(text) != 65 || text[0] != 1 {
		t.Fatalf("no text: %v", text)
	}
	return node(api.Id(text[1:33]), api.Id(text[33:]))
}

// R3

func TestHandedInStaysAsItWas(t *testing.T) {
	for _, n := range []int{0, 1, 2, 3, 5, 8, 33, 64, 65} {
		l, path := someIds(n), someIds(6)
		for _, i := range []int{-1, 0, 1, n / 2, n - 1, n} {
			root := Root(l)
			Check(root, n, i, api.Id{1}, path)
			Clash(l, i, api.Id{1}, path)
			own, is := Path(l, i)
			if !is {
				continue
			}
			kept := slices.Clone(own)
			Check(root, n, i, l[i], own)
			Clash(l, i, api.Id{1}, own)
			if !slices.Equal(own, kept) {
				t.Errorf("%d of %d: the path is another one", i, n)
			}
		}
		if !slices.Equal(l, someIds(n)) || !slices.Equal(path, someIds(6)) {
			t.Errorf("%d: not as it was", n)
		}
	}
	b := []byte("abc")
	Leaf(b[:2])
	if string(b) != "abc" {
		t.Errorf("%q", b)
	}
}

// What stands behind a list in the caller's memory is not written to either.
func TestNothingBehindIsWritten(t *testing.T) {
	all := someIds(80)
	l, path := all[:5], all[40:42]
	Path(l, 3)
	Check(all[0], 5, 3, l[3], path)
	Clash(l, 3, all[9], path)
	Root(l)
	if !slices.Equal(all, someIds(80)) {
		t.Error("written")
	}
	b := []byte("abcdefgh")
	Leaf(b[2:4])
	if string(b) != "abcdefgh" {
		t.Errorf("%q", b)
	}
}

func TestPathIsTheCallersOwn(t *testing.T) {
	for _, n := range []int{1, 2, 3, 4, 5, 7, 8, 9, 33, 64} {
		for _, i := range []int{0, n / 2, n - 1} {
			l := someIds(n)
			want := wantPath(wantNode, l, i)
			path, again := mustPath(t, l, i), mustPath(t, l, i)
			for k := range path {
				path[k] = api.Id{201}
			}
			_ = append(path, api.Id{202})
			if !slices.Equal(l, someIds(n)) || !slices.Equal(again, want) {
				t.Errorf("%d of %d: changes what was handed in, or answered", i, n)
			}
			for k := range l {
				l[k] = api.Id{200}
			}
			if !slices.Equal(again, want) {
				t.Errorf("%d of %d: changed by the leaves", i, n)
			}
		}
	}
}

func TestTextsAreTheCallersOwn(t *testing.T) {
	one := func(a, b api.Id) api.Id { return api.Id{2} }
	l, path := someIds(4), someIds(6)[4:]
	a, b, _ := clashBy(one, l, 1, api.Id{9}, path)
	wantA, wantB := wantText(path[0], api.Id{9}), wantText(l[0], l[1])
	if !bytes.Equal(a, wantA) || !bytes.Equal(b, wantB) {
		t.Fatal(a, b)
	}
	l[0], l[1], path[0] = api.Id{200}, api.Id{201}, api.Id{202}
	if !bytes.Equal(a, wantA) || !bytes.Equal(b, wantB) {
		t.Error("changed by what was handed in")
	}
	l, path = someIds(4), someIds(6)[4:]
	a, b, _ = clashBy(one, l, 1, api.Id{9}, path)
	for k := range a {
		a[k] = 77
	}
	_ = append(a, 78)
	if !bytes.Equal(b, wantB) || !slices.Equal(l, someIds(4)) || !slices.Equal(path, someIds(6)[4:]) {
		t.Error("changes the other text, or what was handed in")
	}
	for k := range b {
		b[k] = 79
	}
	if c, d, _ := clashBy(one, l, 1, api.Id{9}, path); !bytes.Equal(c, wantA) || !bytes.Equal(d, wantB) {
		t.Error("changes a later answer")
	}
}

// R5

func TestAnswersHangOnNothingElse(t *testing.T) {
	l := someIds(9)
	root, path := Root(l), mustPath(t, l, 4)
	Root(someIds(64))
	Path(someIds(64), 63)
	Clash(l, 4, api.Id{}, path)
	if Root(l) != root || !slices.Equal(mustPath(t, l, 4), path) || !Check(root, 9, 4, l[4], path) {
		t.Error("another answer")
	}
}
