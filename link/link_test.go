package link

import (
	"crypto/sha256"
	"encoding/hex"
	"math"
	"slices"
	"testing"

	"stepladder/api"
	"stepladder/tree"
)

// sizes are how many links there are here, most of them next to a power of two, or to how many there may be.
var sizes = []int{0, 1, 2, 3, 4, 5, 7, 8, 15, 16, 17, 30, 31, 32, 33, 34, 63, 64, 65, 66, 100, 1000}

// someLevels are levels, and numbers that are none.
var someLevels = []int{
	-1, 0, 1, 2, 3, 4, 15, 16, 29, 30, 31, 32, 33, 34, 63, 64, 65, 99, 255, 256,
	-2, -31, -32, -33, math.MinInt32, -1 << 32, -1 << 62, math.MinInt, math.MinInt + 1,
	math.MaxInt32, 1 << 31, 1 << 32, 1<<32 + 1, 1 << 62, math.MaxInt - 1, math.MaxInt,
}

// farPlaces are places of no link at all.
var farPlaces = []int{-1, -2, -64, math.MinInt, math.MinInt + 1, math.MinInt32, 1 << 31, 1 << 32, 1 << 62, math.MaxInt - 1, math.MaxInt}

// someIds are n ids, no two the same.
func someIds(n int) []api.Id {
	l := make([]api.Id, n)
	for i := range l {
		l[i] = sha256.Sum256([]byte{byte(i), byte(i >> 8), 88})
	}
	return l
}

func sameIds(n int) []api.Id {
	return slices.Repeat([]api.Id{{5, 6, 7}}, n)
}

// newId is none of someIds.
var newId = api.Id{9, 31: 9}

func idOf(t *testing.T, text string) api.Id {
	t.Helper()
	b, err := hex.DecodeString(text)
	if err != nil || len(b) != 32 {
		t.Fatalf("no id: %s", text)
	}
	return api.Id(b)
}

// wantNext goes by the words from the answer's end: of each number, whose link it is.
func wantNext(l []api.Id, id api.Id, level int) []api.Id {
	if len(l) > 32 {
		return nil
	}
	if len(l) == 0 {
		return []api.Id{id}
	}
	if level > 31 {
		level = 31
	}
	var next []api.Id
	for n := 0; n < len(l) || n <= level; n++ {
		if n >= 1 && n <= level {
			next = append(next, id)
		} else {
			next = append(next, l[n])
		}
	}
	return next
}

func wantLeaf(id api.Id) api.Id {
	return sha256.Sum256(slices.Concat([]byte{0}, id[:]))
}

func wantNode(a, b api.Id) api.Id {
	return sha256.Sum256(slices.Concat([]byte{1}, a[:], b[:]))
}

// wantRows are the sums of links, row by row from the leaves up: each two neighbours make one of the row above, and one
// that is left over goes up as it is.
func wantRows(l []api.Id) [][]api.Id {
	var row []api.Id
	for _, id := range l {
		row = append(row, wantLeaf(id))
	}
	rows := [][]api.Id{row}
	for len(row) > 1 {
		var above []api.Id
		for pair := range slices.Chunk(row, 2) {
			if len(pair) == 2 {
				above = append(above, wantNode(pair[0], pair[1]))
			} else {
				above = append(above, pair[0])
			}
		}
		rows = append(rows, above)
		row = above
	}
	return rows
}

func wantRoot(l []api.Id) api.Id {
	if len(l) == 0 {
		return sha256.Sum256([]byte{2})
	}
	rows := wantRows(l)
	return rows[len(rows)-1][0]
}

// wantPath is what leads up, also of more links than a path is answered of.
func wantPath(l []api.Id, i int) []api.Id {
	var path []api.Id
	for _, row := range wantRows(l) {
		if i^1 < len(row) {
			path = append(path, row[i^1])
		}
		i /= 2
	}
	return path
}

// wantSides are on which sides link i of n stands, from the least tree on: 0 left, 1 right.
func wantSides(n, i int) []int {
	var sides []int
	for ; n > 1; n, i = (n+1)/2, i/2 {
		if i^1 < n {
			sides = append(sides, i%2)
		}
	}
	return sides
}

// wantTop is what comes of an id along a path, on the sides of link i of n.
func wantTop(n, i int, id api.Id, path []api.Id) api.Id {
	sum := wantLeaf(id)
	for k, side := range wantSides(n, i) {
		pair := [2]api.Id{sum, path[k]}
		sum = wantNode(pair[side], pair[1-side])
	}
	return sum
}

func mustPath(t *testing.T, l []api.Id, i int) []api.Id {
	t.Helper()
	path, is := Path(l, i)
	if !is {
		t.Fatalf("no path of %d in %d", i, len(l))
	}
	return path
}

// treeSizes are those of sizes of which there are paths.
func treeSizes() []int {
	return slices.DeleteFunc(slices.Clone(sizes), func(n int) bool { return n < 1 || n > 64 })
}

// The chapter's examples

func TestExamples(t *testing.T) {
	first, b := api.Id{1}, api.Id{2}
	if l := Next(nil, first, 31); !slices.Equal(l, []api.Id{first}) {
		t.Errorf("behind the first block: %v", l)
	}
	if l := Next([]api.Id{first}, b, 2); !slices.Equal(l, []api.Id{first, b, b}) {
		t.Errorf("behind a block of level 2: %v", l)
	}
}

// P7.1

func TestNextByHand(t *testing.T) {
	g, a, b, c, x := api.Id{1}, api.Id{2}, api.Id{3}, api.Id{4}, api.Id{5}
	for i, y := range []struct {
		l     []api.Id
		level int
		want  []api.Id
	}{
		{[]api.Id{g}, -1, []api.Id{g}},
		{[]api.Id{g}, 0, []api.Id{g}},
		{[]api.Id{g}, 1, []api.Id{g, x}},
		{[]api.Id{g}, 2, []api.Id{g, x, x}},
		{[]api.Id{g}, 3, []api.Id{g, x, x, x}},
		{[]api.Id{g, a}, 0, []api.Id{g, a}},
		{[]api.Id{g, a}, 1, []api.Id{g, x}},
		{[]api.Id{g, a}, 2, []api.Id{g, x, x}},
		{[]api.Id{g, a, b}, 1, []api.Id{g, x, b}},
		{[]api.Id{g, a, b}, 2, []api.Id{g, x, x}},
		{[]api.Id{g, a, b}, 3, []api.Id{g, x, x, x}},
		{[]api.Id{g, a, b, c}, math.MinInt, []api.Id{g, a, b, c}},
		{[]api.Id{g, a, b, c}, 0, []api.Id{g, a, b, c}},
		{[]api.Id{g, a, b, c}, 1, []api.Id{g, x, b, c}},
		{[]api.Id{g, a, b, c}, 2, []api.Id{g, x, x, c}},
		{[]api.Id{g, a, b, c}, 3, []api.Id{g, x, x, x}},
		{[]api.Id{g, a, b, c}, 4, []api.Id{g, x, x, x, x}},
	} {
		if l := Next(y.l, x, y.level); !slices.Equal(l, y.want) {
			t.Errorf("%d: %v", i, l)
		}
	}
}

func TestNextOfAllSizesAndLevels(t *testing.T) {
	for n := range 40 {
		l := someIds(n)
		for level := -3; level < 40; level++ {
			if next := Next(l, newId, level); !slices.Equal(next, wantNext(l, newId, level)) {
				t.Errorf("%d links, level %d: %d", n, level, len(next))
			}
		}
	}
	for _, n := range sizes {
		l := someIds(n)
		for _, level := range someLevels {
			if next := Next(l, newId, level); !slices.Equal(next, wantNext(l, newId, level)) {
				t.Errorf("%d links, level %d: %d", n, level, len(next))
			}
		}
	}
}

func TestNextOfTheFirstBlock(t *testing.T) {
	for _, level := range someLevels {
		for _, id := range []api.Id{{}, {1}, newId} {
			for _, l := range [][]api.Id{nil, {}, someIds(3)[:0]} {
				if next := Next(l, id, level); !slices.Equal(next, []api.Id{id}) {
					t.Errorf("level %d: %v", level, next)
				}
			}
		}
	}
}

func TestNextAboveTheHighestLevel(t *testing.T) {
	for _, n := range []int{1, 2, 3, 31, 32} {
		l := someIds(n)
		want := append([]api.Id{l[0]}, slices.Repeat([]api.Id{newId}, 31)...)
		for _, level := range []int{31, 32, 33, 64, 1 << 31, 1 << 32, 1<<32 + 1, math.MaxInt - 1, math.MaxInt} {
			if next := Next(l, newId, level); !slices.Equal(next, want) {
				t.Errorf("%d links, level %d: %d", n, level, len(next))
			}
		}
	}
}

func TestNextBelowTheFirstLevel(t *testing.T) {
	for _, n := range []int{1, 2, 3, 31, 32} {
		l := someIds(n)
		for _, level := range []int{0, -1, -31, -32, math.MinInt32, -1 << 32, math.MinInt, math.MinInt + 1} {
			if next := Next(l, newId, level); !slices.Equal(next, l) {
				t.Errorf("%d links, level %d: %d", n, level, len(next))
			}
		}
	}
}

// 32 links are not too many, though a level may take all but the first one of them; of 33 there are none, even if the
// level takes none of them.
func TestNextOfTooManyLinks(t *testing.T) {
	for _, level := range someLevels {
		if next := Next(someIds(32), newId, level); len(next) != 32 {
			t.Errorf("32 links, level %d: %d", level, len(next))
		}
		for _, n := range []int{33, 34, 64, 65, 1000, 1 << 16} {
			if next := Next(someIds(n), newId, level); len(next) != 0 {
				t.Errorf("%d links, level %d: %d", n, level, len(next))
			}
		}
	}
}

func TestNextOfTheSameIds(t *testing.T) {
	for _, n := range []int{1, 2, 3, 31, 32, 33} {
		for _, l := range [][]api.Id{sameIds(n), make([]api.Id, n)} {
			for _, level := range someLevels {
				for _, id := range []api.Id{l[0], {}, newId} {
					if next := Next(l, id, level); !slices.Equal(next, wantNext(l, id, level)) {
						t.Errorf("%d links, level %d: %v", n, level, next)
					}
				}
			}
		}
	}
}

// P7.2

func TestKnownRoots(t *testing.T) {
	l := make([]api.Id, 3)
	for i := range l {
		l[i] = api.Id(slices.Repeat([]byte{byte(i + 1)}, 32))
	}
	for _, x := range []struct {
		l    []api.Id
		root string
	}{
		{nil, "dbc1b4c900ffe48d575b5da5c638040125f65db0fe3e24494b76ea986457d986"},
		{[]api.Id{}, "dbc1b4c900ffe48d575b5da5c638040125f65db0fe3e24494b76ea986457d986"},
		{l[:1], "dcffe786ded16d283c663846ad0c4ff26558fccde36ca9d30b2ea19eade9fc0e"},
		{l[:2], "3a066e0f40c6a1981ebfa60d2411625d0517ae22c2fc8c7c1784ff8a75c78565"},
		{l, "df896896c799531f1fd1e556cea26a6989ab06853bcbfdd3e4f5097a611f658f"},
		{[]api.Id{l[0], l[1], l[1]}, "b4915bfc337d6443290ae8c80933bb608a81ea91db8ac793d84c3674c7102e4b"},
	} {
		if root := Root(x.l); root != idOf(t, x.root) {
			t.Errorf("%d links: %x", len(x.l), root)
		}
	}
}

func TestRootOfAllSizes(t *testing.T) {
	for _, n := range sizes {
		for _, l := range [][]api.Id{someIds(n), sameIds(n), make([]api.Id, n)} {
			if Root(l) != wantRoot(l) {
				t.Errorf("%d links", n)
			}
		}
	}
}

// Links are leaves by their sums, not as they are, nor by their place.
func TestLinksAreLeavesByTheirSums(t *testing.T) {
	a, b := api.Id{1}, api.Id{2}
	if Root([]api.Id{a}) != tree.Leaf(a[:]) || Root([]api.Id{a}) == a {
		t.Error("one link")
	}
	if Root([]api.Id{a, b}) != tree.Node(tree.Leaf(a[:]), tree.Leaf(b[:])) || Root([]api.Id{a, b}) == Root([]api.Id{b, a}) {
		t.Error("two links")
	}
	if path := mustPath(t, []api.Id{a, b}, 0); !slices.Equal(path, []api.Id{tree.Leaf(b[:])}) {
		t.Errorf("path of the first: %v", path)
	}
	if path := mustPath(t, []api.Id{a, b}, 1); !slices.Equal(path, []api.Id{tree.Leaf(a[:])}) {
		t.Errorf("path of the second: %v", path)
	}
}

func TestPathOfEachPlace(t *testing.T) {
	for _, n := range treeSizes() {
		for _, l := range [][]api.Id{someIds(n), sameIds(n)} {
			for i := range n {
				path, is := Path(l, i)
				if !is || !slices.Equal(path, wantPath(l, i)) {
					t.Errorf("%d of %d: %v, %d ids", i, n, is, len(path))
				}
			}
		}
	}
}

func TestNoPathOfNoPlace(t *testing.T) {
	for _, n := range sizes {
		l := someIds(n)
		for _, i := range append([]int{n, n + 1, 64, 65}, farPlaces...) {
			if n <= 64 && 0 <= i && i < n {
				continue
			}
			if path, is := Path(l, i); is || len(path) != 0 {
				t.Errorf("%d of %d: %v, %d ids", i, n, is, len(path))
			}
		}
	}
	if path, is := Path(nil, 0); is || len(path) != 0 {
		t.Error("of nil")
	}
}

func TestNoPathOfTooManyLinks(t *testing.T) {
	for _, n := range []int{65, 66, 100, 128, 1000} {
		l := someIds(n)
		for _, i := range []int{0, 1, 31, 32, 63, 64, n - 1, n} {
			if path, is := Path(l, i); is || len(path) != 0 {
				t.Errorf("%d of %d: %v, %d ids", i, n, is, len(path))
			}
		}
	}
}

func TestCheckOfEachPlace(t *testing.T) {
	for _, n := range treeSizes() {
		for _, l := range [][]api.Id{someIds(n), sameIds(n), make([]api.Id, n)} {
			root := wantRoot(l)
			for i := range n {
				if !Check(root, n, i, l[i], wantPath(l, i)) || !Check(root, n, i, l[i], mustPath(t, l, i)) {
					t.Errorf("%d of %d", i, n)
				}
			}
		}
	}
	if one := someIds(1); !Check(Root(one), 1, 0, one[0], nil) || !Check(Root(one), 1, 0, one[0], []api.Id{}) {
		t.Error("a path without ids")
	}
}

func TestCheckOfNoPlace(t *testing.T) {
	for _, n := range treeSizes() {
		l := someIds(n)
		root := Root(l)
		for _, i := range append([]int{n, n + 1, 2 * n, 64, 65}, farPlaces...) {
			if 0 <= i && i < n {
				continue
			}
			if Check(root, n, i, l[0], wantPath(l, 0)) || Check(root, n, i, l[n-1], wantPath(l, n-1)) || Check(wantLeaf(l[0]), n, i, l[0], nil) {
				t.Errorf("%d of %d", i, n)
			}
		}
	}
}

func TestCheckOfNoCount(t *testing.T) {
	id := newId
	for _, n := range []int{0, -1, -2, -64, math.MinInt, math.MinInt + 1, math.MinInt32, 65, 66, 128, 1 << 31, 1 << 32, 1<<32 + 1, math.MaxInt - 1, math.MaxInt} {
		for _, i := range append([]int{0, 1, 63, 64, 65, n - 1, n}, farPlaces...) {
			for _, root := range []api.Id{{}, id, wantLeaf(id), wantRoot(nil)} {
				if Check(root, n, i, id, nil) || Check(root, n, i, id, someIds(6)) {
					t.Errorf("%d of %d", i, n)
				}
			}
		}
	}
}

// Nothing but how many they are is wrong with these links, and the paths that lead from them.
func TestCheckOfTooManyLinks(t *testing.T) {
	for _, n := range []int{65, 66, 128, 1000} {
		l := someIds(n)
		root := Root(l)
		for _, i := range []int{0, 1, 63, 64, n - 1} {
			path := wantPath(l, i)
			if wantTop(n, i, l[i], path) != root {
				t.Fatalf("%d of %d: no path", i, n)
			}
			if Check(root, n, i, l[i], path) {
				t.Errorf("%d of %d", i, n)
			}
		}
	}
}

func TestCheckOfAnotherPlace(t *testing.T) {
	for _, n := range []int{2, 3, 4, 5, 31, 32, 33, 64} {
		l := someIds(n)
		root := Root(l)
		for i := range n {
			path := mustPath(t, l, i)
			for j := range n {
				if Check(root, n, j, l[i], path) != (i == j) || Check(root, n, i, l[j], path) != (i == j) {
					t.Errorf("%d of %d, and %d", i, n, j)
				}
			}
		}
	}
}

// A path alone tells no number of links: it is one of more, or fewer, too, if the link stands on the same sides there.
func TestCheckOfAnotherCount(t *testing.T) {
	for _, n := range treeSizes() {
		l := someIds(n)
		root := Root(l)
		for i := range n {
			path := mustPath(t, l, i)
			for m := -1; m <= 66; m++ {
				want := i < m && m <= 64 && slices.Equal(wantSides(n, i), wantSides(m, i))
				if Check(root, m, i, l[i], path) != want {
					t.Errorf("%d of %d, as of %d: not %v", i, n, m, want)
				}
			}
		}
	}
}

func TestCheckOfPathsOfAnotherLength(t *testing.T) {
	for _, n := range treeSizes() {
		l := someIds(n)
		root := Root(l)
		for i := range n {
			path := mustPath(t, l, i)
			behind := append(slices.Clone(path), newId)
			ahead := append([]api.Id{newId}, path...)
			if Check(root, n, i, l[i], behind) || Check(root, n, i, l[i], ahead) {
				t.Errorf("%d of %d: one more", i, n)
			}
			if n == 1 {
				continue
			}
			if Check(root, n, i, l[i], path[1:]) || Check(root, n, i, l[i], path[:len(path)-1]) {
				t.Errorf("%d of %d: one less", i, n)
			}
			if Check(root, n, i, l[i], nil) || Check(root, n, i, l[i], []api.Id{}) || Check(wantLeaf(l[i]), n, i, l[i], nil) {
				t.Errorf("%d of %d: none", i, n)
			}
		}
	}
}

func TestCheckOfAnythingThatIsAnotherOne(t *testing.T) {
	for _, n := range treeSizes() {
		l := someIds(n)
		root := Root(l)
		for i := range n {
			path := mustPath(t, l, i)
			for _, at := range []int{0, 15, 31} {
				otherRoot, otherId := root, l[i]
				otherRoot[at] ^= 128
				otherId[at] ^= 1
				if Check(otherRoot, n, i, l[i], path) || Check(root, n, i, otherId, path) {
					t.Errorf("%d of %d: another root, or id", i, n)
				}
				for k := range path {
					other := slices.Clone(path)
					other[k][at] ^= 2
					if Check(root, n, i, l[i], other) {
						t.Errorf("%d of %d: another id at %d of the path", i, n, k)
					}
				}
			}
			if Check(api.Id{}, n, i, l[i], path) || Check(root, n, i, api.Id{}, path) || Check(root, n, i, newId, path) {
				t.Errorf("%d of %d: no root, or id", i, n)
			}
		}
	}
}

// The id is handed in as it is, not as the leaf that is made of it.
func TestCheckMakesTheLeafItself(t *testing.T) {
	for _, n := range treeSizes() {
		l := someIds(n)
		for i := range n {
			if Check(Root(l), n, i, wantLeaf(l[i]), mustPath(t, l, i)) {
				t.Errorf("%d of %d: a leaf", i, n)
			}
		}
	}
	if Check(newId, 1, 0, newId, nil) {
		t.Error("an id as its own root")
	}
}

// P7.3

func TestLeadsByPrevAlone(t *testing.T) {
	for _, n := range sizes {
		if l := someIds(n); !Leads(l, newId, newId) {
			t.Errorf("%d links", n)
		}
	}
	for _, l := range [][]api.Id{nil, {}, someIds(3)[:0]} {
		if !Leads(l, newId, newId) || !Leads(l, api.Id{}, api.Id{}) {
			t.Error("without links")
		}
	}
}

func TestLeadsByEachLink(t *testing.T) {
	for _, n := range sizes {
		l := someIds(n)
		for i, id := range l {
			if !Leads(l, newId, id) || !Leads(l, api.Id{}, id) || !Leads(l, id, id) {
				t.Errorf("%d of %d", i, n)
			}
		}
	}
	if !Leads(sameIds(5), newId, sameIds(1)[0]) || !Leads(make([]api.Id, 2), newId, api.Id{}) {
		t.Error("links that are the same")
	}
}

func TestLeadsByNeither(t *testing.T) {
	for _, n := range sizes {
		l := someIds(n)
		if Leads(l, api.Id{7}, newId) || Leads(l, newId, api.Id{}) || Leads(l, api.Id{}, newId) {
			t.Errorf("%d links", n)
		}
		for i := range l {
			if Leads(l[:i], newId, l[i]) || Leads(l[i+1:], newId, l[i]) {
				t.Errorf("%d of %d", i, n)
			}
		}
	}
	for _, l := range [][]api.Id{nil, {}, someIds(3)[:0]} {
		if Leads(l, api.Id{}, newId) || Leads(l, newId, api.Id{}) {
			t.Error("without links")
		}
	}
}

// Ids are the same by all their bytes, and by these alone.
func TestLeadsToNothingNextToIt(t *testing.T) {
	l := someIds(3)
	for at := range 32 {
		for _, id := range append(slices.Clone(l), newId) {
			other := id
			other[at] ^= 1
			if Leads(l, newId, other) {
				t.Errorf("byte %d: %x", at, other)
			}
		}
	}
	if Leads(l, newId, wantLeaf(l[0])) || Leads(l, newId, Root(l)) {
		t.Error("a leaf, or the root")
	}
}

// P7.4

func TestTheFirstLinkStays(t *testing.T) {
	for n := 1; n <= 32; n++ {
		l := someIds(n)
		for _, level := range someLevels {
			if next := Next(l, newId, level); next[0] != l[0] {
				t.Errorf("%d links, level %d", n, level)
			}
		}
	}
}

func TestLinksAreNeverFewer(t *testing.T) {
	for n := 0; n <= 32; n++ {
		for _, level := range someLevels {
			if next := Next(someIds(n), newId, level); len(next) < n || len(next) > 32 {
				t.Errorf("%d links, level %d: %d", n, level, len(next))
			}
		}
	}
}

func TestTheNextOneLeadsToItByEachNumber(t *testing.T) {
	for n := 1; n <= 32; n++ {
		for level := range 32 {
			next := Next(someIds(n), newId, level)
			for number := 1; number <= level; number++ {
				if next[number] != newId {
					t.Errorf("%d links, level %d: number %d", n, level, number)
				}
			}
			if !Leads(next, newId, newId) || level > 0 && !Leads(next, api.Id{}, newId) {
				t.Errorf("%d links, level %d: it does not lead there", n, level)
			}
		}
	}
}

// someChain is levels, of which most are low, from the first block on.
func someChain(seed, n int) []int {
	levels := make([]int, n)
	x := uint32(seed)*2654435761 + 1
	for i := range levels {
		for ; x>>16&1 == 1; x = x*1664525 + 1013904223 {
			levels[i]++
		}
		x = x*1664525 + 1013904223
	}
	return levels
}

// wantLinks is the chapter's section Words: the first block of all, and, of each number that there is one of, the last
// block ahead, behind the first, of that level at least.
func wantLinks(ids []api.Id, levels []int) []api.Id {
	links := ids[:1:1]
	for n := 1; ; n++ {
		at := len(ids) - 1
		for at > 0 && levels[at] < n {
			at--
		}
		if at <= 0 {
			return links
		}
		links = append(links, ids[at])
	}
}

func TestLinksOfChains(t *testing.T) {
	chains := [][]int{
		{31, 0, 1, 0, 0, 2, 0}, {0}, {31, 31, 0, 31}, {0, 1, 2, 3, 4, 5}, {0, 5, 4, 3, 2, 1}, {3, 0, 0, 0}, {2, -1, 1},
	}
	for seed := range 20 {
		chains = append(chains, someChain(seed, 60))
	}
	for k, levels := range chains {
		ids := someIds(len(levels))
		var l []api.Id
		for i, level := range levels {
			l = Next(l, ids[i], level)
			if want := wantLinks(ids[:i+1], levels[:i+1]); !slices.Equal(l, want) {
				t.Fatalf("chain %d, behind block %d: %d links, not %d", k, i, len(l), len(want))
			}
			if i > 0 && level > 0 && !slices.Equal(l[1:level+1], slices.Repeat([]api.Id{ids[i]}, level)) {
				t.Errorf("chain %d, behind block %d", k, i)
			}
		}
	}
}

// R3 and R5: what is handed in stays, what is answered is the caller's own, and what was asked before changes nothing.

func TestHandedInStaysAsItWas(t *testing.T) {
	for _, n := range sizes {
		l, path := someIds(n), someIds(6)
		for _, k := range []int{-1, 0, 1, 2, 31, 32, n / 2, n - 1, n, math.MaxInt} {
			Next(l, newId, k)
			Path(l, k)
			Check(newId, n, k, newId, path)
			Check(newId, n, k, newId, l)
		}
		Root(l)
		Leads(l, newId, newId)
		if !slices.Equal(l, someIds(n)) || !slices.Equal(path, someIds(6)) {
			t.Errorf("%d links: not as it was", n)
		}
	}
}

// Behind what is handed in the caller may have more, and there is room for what comes.
func TestNothingBehindIsWritten(t *testing.T) {
	for _, n := range []int{0, 1, 2, 3, 31, 32, 33} {
		for _, level := range someLevels {
			room := someIds(80)
			Next(room[:n], newId, level)
			Path(room[:n], level)
			Check(newId, n, level, newId, room[40:46])
			Root(room[:n])
			if !slices.Equal(room, someIds(80)) {
				t.Errorf("%d links, level %d", n, level)
			}
		}
	}
}

func TestNextIsTheCallersOwn(t *testing.T) {
	for _, n := range []int{0, 1, 2, 3, 31, 32} {
		for _, level := range someLevels {
			l := append(make([]api.Id, 0, 80), someIds(n)...)
			want := wantNext(l, newId, level)
			first, second := Next(l, newId, level), Next(l, newId, level)
			clear(first[:cap(first)])
			if !slices.Equal(l, someIds(n)) || !slices.Equal(second, want) {
				t.Errorf("%d links, level %d: what was handed in, or came again, changed with what came", n, level)
			}
			clear(l[:cap(l)])
			if !slices.Equal(second, want) {
				t.Errorf("%d links, level %d: what came changed with what was handed in", n, level)
			}
		}
	}
}

// Two blocks that stand behind the same one do not know of one another.
func TestTwoWaysOnFromTheSameLinks(t *testing.T) {
	l := Next(Next(nil, api.Id{1}, 0), api.Id{2}, 2)
	for range 3 {
		a, b := Next(l, api.Id{3}, 5), Next(l, api.Id{4}, 4)
		if !slices.Equal(a, wantNext(l, api.Id{3}, 5)) || !slices.Equal(b, wantNext(l, api.Id{4}, 4)) {
			t.Fatal(a, b)
		}
		l = Next(l, api.Id{5}, len(l))
	}
}

func TestPathIsTheCallersOwn(t *testing.T) {
	for _, n := range []int{1, 2, 3, 31, 32, 33, 64} {
		l := someIds(n)
		for i := range n {
			want := wantPath(l, i)
			first, second := mustPath(t, l, i), mustPath(t, l, i)
			clear(first[:cap(first)])
			if !slices.Equal(l, someIds(n)) || !slices.Equal(second, want) {
				t.Errorf("%d of %d: what was handed in, or came again, changed with what came", i, n)
			}
			clear(l)
			if !slices.Equal(second, want) {
				t.Errorf("%d of %d: what came changed with what was handed in", i, n)
			}
			copy(l, someIds(n))
		}
	}
}

func TestAnswersHangOnNothingElse(t *testing.T) {
	l := someIds(13)
	ask := func() []api.Id {
		path := mustPath(t, l, 7)
		if !Check(Root(l), 13, 7, l[7], path) {
			t.Error("no path")
		}
		return slices.Concat(path, Next(l, newId, 5), []api.Id{Root(l), Root(nil)})
	}
	first := ask()
	for _, n := range sizes {
		Next(someIds(n), newId, n)
		Root(someIds(n))
		Path(someIds(n), 0)
		Check(newId, n, 0, newId, someIds(6))
		Leads(someIds(n), newId, newId)
	}
	if !slices.Equal(ask(), first) {
		t.Error("asked again, another answer")
	}
}
