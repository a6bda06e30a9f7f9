package super

import (
	"fmt"
	"math"
	"math/bits"
	"math/rand"
	"slices"
	"testing"
)

// numbers are such as any argument may be: places, counts and levels, about each edge, and such as are none.
var numbers = []int{
	math.MinInt, math.MinInt + 1, math.MinInt + 31, math.MinInt32, -1 << 32, -201, -200, -33, -32, -31, -13, -12, -2, -1,
	0, 1, 2, 3, 4, 5, 6, 11, 12, 13, 29, 30, 31, 32, 33, 64, 199, 200, 201, 255, 256,
	math.MaxInt32, 1 << 32, 1<<32 + 1, math.MaxInt - 31, math.MaxInt - 1, math.MaxInt,
}

// badLevels are no levels.
var badLevels = []int{-1, -2, -31, -32, 32, 33, 63, 64, 255, math.MinInt, math.MinInt32, math.MaxInt32, math.MaxInt}

// The chapter's words once more; each goes another way round.

func wantMay(v []int) bool {
	if len(v) == 0 || len(v) >= 201 {
		return false
	}
	for i, level := range v {
		switch {
		case i == 0 && level != 31:
			return false
		case level <= -1 || level >= 32:
			return false
		}
	}
	return true
}

func wantUp(v []int, from, to, n int) []int {
	var l []int
	for i, level := range v {
		if !(i < from || i >= to || level < n) {
			l = append(l, i)
		}
	}
	return l
}

func wantNone(v []int, m, k int) bool {
	return !wantMay(v) || m < 1 || k < 1 || k >= len(v)
}

func wantFrom(v []int, m, k, n int) int {
	if wantNone(v, m, k) {
		return -1
	}
	var above []int
	for i, level := range v[:len(v)-k] {
		if level > n {
			above = append(above, i)
		}
	}
	if m > len(above) {
		return 0
	}
	slices.Reverse(above)
	return above[m-1]
}

func wantPrefix(v []int, m, k int) ([]int, bool) {
	if wantNone(v, m, k) {
		return nil, false
	}
	var l []int
	for i := 0; i < len(v)-k; i++ {
		if i >= wantFrom(v, m, k, v[i]) {
			l = append(l, i)
		}
	}
	return l, true
}

// fewBehind are the places behind which, in the part ahead, there are fewer than m of a level above their own.
func fewBehind(v []int, m, k int) []int {
	var l []int
	part := v[:len(v)-k]
	for i := range part {
		higher := 0
		for _, level := range part[i:] {
			if level > part[i] {
				higher++
			}
		}
		if higher < m {
			l = append(l, i)
		}
	}
	return l
}

// levelByLevel is what comes of the levels from the highest one on.
func levelByLevel(v []int, m, k int) []int {
	taken := make([]bool, len(v))
	from := 0
	for n := 31; n >= 0; n-- {
		var l []int
		for i := from; i < len(v)-k; i++ {
			if v[i] >= n {
				taken[i] = true
				l = append(l, i)
			}
		}
		if len(l) > m {
			from = l[len(l)-m]
		}
	}
	var l []int
	for i, is := range taken {
		if is {
			l = append(l, i)
		}
	}
	return l
}

// Levels to ask of

// first is the first block's level, and others behind.
func first(others ...int) []int {
	return slices.Concat([]int{31}, others)
}

// alike are n levels, all of them the same but the first one.
func alike(n, level int) []int {
	return first(slices.Repeat([]int{level}, n-1)...)
}

// rising are 31, and n levels from one on.
func rising(from, n int) []int {
	v := first()
	for i := range n {
		v = append(v, from+i)
	}
	return v
}

// falling are 31, and n levels from one down.
func falling(from, n int) []int {
	v := first()
	for i := range n {
		v = append(v, from-i)
	}
	return v
}

// ruled are n levels, each half as frequent as the one below: how often each place can be halved.
func ruled(n int) []int {
	v := first()
	for i := 1; i < n; i++ {
		v = append(v, bits.TrailingZeros(uint(i)))
	}
	return v
}

// thrown are n levels as chance throws them, up to a highest one: flat, or each half as frequent as the one below.
func thrown(r *rand.Rand, n, highest int, flat bool) []int {
	v := first()
	for len(v) < n {
		level := r.Intn(highest + 1)
		if !flat {
			level = min(bits.TrailingZeros32(r.Uint32()|1<<31), highest)
		}
		v = append(v, level)
	}
	return v
}

// places are those from one on, and below another one.
func places(from, to int) []int {
	var l []int
	for i := from; i < to; i++ {
		l = append(l, i)
	}
	return l
}

// some are levels whose answers are written out below.
var some = []int{31, 2, 0, 1, 0, 3, 0, 0, 1, 2, 0, 0}

// goodLevels may be, of each kind, and of lengths from the least one to the greatest one.
func goodLevels() [][]int {
	l := [][]int{
		first(), first(0), first(31), first(1, 0), first(0, 1), first(0, 0, 5, 5), first(3, 3, 3, 0, 0, 0), first(0, 1, 0, 0, 2, 0),
		rising(0, 31), rising(0, 32), rising(20, 12), falling(31, 32), falling(30, 31), falling(5, 6),
		slices.Concat(falling(9, 10), rising(0, 10)[1:], falling(9, 10)[1:]), some,
		append(alike(30, 0), 7, 7, 7), append(alike(30, 7), 0, 0, 0),
	}
	for _, n := range []int{2, 3, 12, 33, 199, 200} {
		l = append(l, alike(n, 0), alike(n, 1), alike(n, 30), alike(n, 31), ruled(n))
		l = append(l, thrown(rand.New(rand.NewSource(int64(n))), n, 31, false), thrown(rand.New(rand.NewSource(int64(n))), n, 31, true))
	}
	return l
}

// oddLevels may not be, each for one reason alone, as far as there is such a one.
func oddLevels() [][]int {
	l := [][]int{nil, {}, some[1:], {0}, {30}, {32}, {-1}, {0, 31}, {30, 0, 0}, {32, 0, 0}, {-1, 0, 0}, alike(201, 0), alike(201, 31), alike(202, 0), ruled(201), alike(1000, 1)}
	for _, bad := range badLevels {
		l = append(l, first(bad), first(bad, 0, 0), first(0, bad, 0), first(0, 0, bad))
		long := ruled(200)
		long[199] = bad
		l = append(l, long)
	}
	return l
}

// Asking

// question is what is handed in: levels, and numbers.
type question struct {
	v       []int
	a, b, c int
}

// answer is what comes of it.
type answer struct {
	l  []int
	i  int
	is bool
}

func (a answer) same(b answer) bool {
	return slices.Equal(a.l, b.l) && a.i == b.i && a.is == b.is
}

// room is what stands behind the levels that are handed in, where nothing is to be read, or written.
var room = []int{7, 7, 7, 7, 7}

// roomy is a copy of levels with room behind, of which no call is to know.
func roomy(v []int) []int {
	return slices.Concat(v, room)[:len(v)]
}

func spoil(l []int) {
	l = l[:cap(l)]
	for i := range l {
		l[i] = 77777
	}
}

// asked is what comes of a question; it holds that what was handed in stays as it was, that it is asked by value alone, and
// that neither later changes to it nor to an answer change anything of another one.
func asked(t *testing.T, q question, ask func(q question) answer) answer {
	t.Helper()
	in := q
	in.v = roomy(q.v)
	got := ask(in)
	kept := answer{slices.Clone(got.l), got.i, got.is}
	again := ask(in)
	if !again.same(kept) {
		t.Errorf("%v: asked again, another answer: %v, and %v", q, kept, again)
	}
	spoil(again.l)
	if !slices.Equal(in.v[:cap(in.v)][:len(q.v)+len(room)], slices.Concat(q.v, room)) {
		t.Errorf("%v: what was handed in is not as it was", q)
	}
	spoil(in.v)
	if !got.same(kept) {
		t.Errorf("%v: what was answered changed with what was handed in, or with another answer", q)
	}
	tight := q
	tight.v = slices.Clip(slices.Clone(q.v))
	if !ask(tight).same(kept) {
		t.Errorf("%v: another answer without room behind", q)
	}
	return kept
}

// Each call's answer, held against the chapter's words, and against what a test says of it.

func mayIs(t *testing.T, name string, v []int, want bool) {
	t.Helper()
	got := asked(t, question{v: v}, func(q question) answer { return answer{is: May(q.v)} })
	if got.is != want || got.is != wantMay(v) {
		t.Errorf("%s: %d levels: %v", name, len(v), got.is)
	}
}

// upOf is what Up answers.
func upOf(t *testing.T, v []int, from, to, n int) []int {
	t.Helper()
	got := asked(t, question{v, from, to, n}, func(q question) answer { return answer{l: Up(q.v, q.a, q.b, q.c)} })
	if !slices.Equal(got.l, wantUp(v, from, to, n)) {
		t.Errorf("%v: from %d to %d, level %d: %v", v, from, to, n, got.l)
	}
	return got.l
}

func upIs(t *testing.T, v []int, from, to, n int, want ...int) {
	t.Helper()
	if got := upOf(t, v, from, to, n); !slices.Equal(got, want) {
		t.Errorf("%v: from %d to %d, level %d: %v, not %v", v, from, to, n, got, want)
	}
}

// fromOf is what From answers.
func fromOf(t *testing.T, v []int, m, k, n int) int {
	t.Helper()
	got := asked(t, question{v, m, k, n}, func(q question) answer { return answer{i: From(q.v, q.a, q.b, q.c)} })
	if got.i != wantFrom(v, m, k, n) {
		t.Errorf("%v: m %d, k %d, level %d: from %d", v, m, k, n, got.i)
	}
	return got.i
}

func fromIs(t *testing.T, v []int, m, k, n, want int) {
	t.Helper()
	if got := fromOf(t, v, m, k, n); got != want {
		t.Errorf("%v: m %d, k %d, level %d: from %d, not %d", v, m, k, n, got, want)
	}
}

// prefixOf is what Prefix answers.
func prefixOf(t *testing.T, v []int, m, k int) ([]int, bool) {
	t.Helper()
	got := asked(t, question{v: v, a: m, b: k}, func(q question) answer {
		l, is := Prefix(q.v, q.a, q.b)
		return answer{l: l, is: is}
	})
	want, is := wantPrefix(v, m, k)
	if got.is != is || !slices.Equal(got.l, want) {
		t.Errorf("%v: m %d, k %d: %v, and %v", v, m, k, got.l, got.is)
	}
	return got.l, got.is
}

func prefixIs(t *testing.T, v []int, m, k int, want ...int) {
	t.Helper()
	if got, is := prefixOf(t, v, m, k); !is || !slices.Equal(got, want) {
		t.Errorf("%v: m %d, k %d: %v, and %v, not %v", v, m, k, got, is, want)
	}
}

// noneIs holds that there is nothing to take.
func noneIs(t *testing.T, v []int, m, k int) {
	t.Helper()
	if got, is := prefixOf(t, v, m, k); is || len(got) != 0 {
		t.Errorf("%v: m %d, k %d: %v, and %v, not nothing", v, m, k, got, is)
	}
	for _, n := range []int{math.MinInt, -1, 0, 1, 30, 31, 32, math.MaxInt} {
		fromIs(t, v, m, k, n, -1)
	}
}

// The chapter's example

func TestExample(t *testing.T) {
	v := []int{31, 0, 1, 0, 0, 2, 0}
	if l, is := Prefix(v, 1, 1); !is || !slices.Equal(l, []int{0, 5}) {
		t.Error(l, is)
	}
	prefixIs(t, v, 1, 1, 0, 5)
}

// P14.1: May

func TestMayOfNoLevels(t *testing.T) {
	if May(nil) || May([]int{}) || May(some[:0]) {
		t.Error("no levels may be")
	}
	mayIs(t, "none", nil, false)
}

func TestMayOfEachLength(t *testing.T) {
	for n := 1; n <= 260; n++ {
		for _, level := range []int{0, 1, 31} {
			mayIs(t, "alike", alike(n, level), n <= 200)
		}
		mayIs(t, "ruled", ruled(n), n <= 200)
	}
	for _, n := range []int{1000, 1 << 16, 1 << 20} {
		mayIs(t, "far too many", alike(n, 0), false)
	}
}

func TestMayOfEachFirstLevel(t *testing.T) {
	for _, others := range [][]int{nil, {0}, {31}, make([]int, 198), make([]int, 199)} {
		for _, level := range append(places(-40, 80), numbers...) {
			mayIs(t, fmt.Sprint("first ", level), slices.Concat([]int{level}, others), level == 31)
		}
	}
}

func TestMayOfEachLaterLevel(t *testing.T) {
	for _, n := range []int{2, 3, 40, 199, 200} {
		for _, at := range []int{1, n / 2, n - 2, n - 1} {
			for _, level := range append(places(-40, 80), numbers...) {
				if at < 1 {
					continue
				}
				v := alike(n, 3)
				v[at] = level
				mayIs(t, fmt.Sprint(level, " at ", at), v, level >= 0 && level <= 31)
			}
		}
	}
}

func TestMayOfEachPlace(t *testing.T) {
	for at := range 200 {
		for _, level := range []int{-1, 0, 30, 31, 32} {
			v := ruled(200)
			v[at] = level
			mayIs(t, fmt.Sprint(level, " at ", at), v, level == 31 || at > 0 && (level == 0 || level == 30))
		}
	}
}

func TestMayOfMoreThanOneReason(t *testing.T) {
	mayIs(t, "two", first(-1, 32), false)
	mayIs(t, "first and last", []int{30, 0, 32}, false)
	mayIs(t, "one for another", first(-1, 1), false)
	mayIs(t, "too many, and none", append(alike(201, 0), -1), false)
	for _, v := range goodLevels() {
		mayIs(t, "good", v, true)
	}
	for _, v := range oddLevels() {
		mayIs(t, "odd", v, false)
	}
}

// P14.1: Up

func TestUpByHand(t *testing.T) {
	upIs(t, some, 0, 12, 0, places(0, 12)...)
	upIs(t, some, 0, 12, 1, 0, 1, 3, 5, 8, 9)
	upIs(t, some, 0, 12, 2, 0, 1, 5, 9)
	upIs(t, some, 0, 12, 3, 0, 5)
	upIs(t, some, 0, 12, 4, 0)
	upIs(t, some, 0, 12, 31, 0)
	upIs(t, some, 0, 12, 32)
	upIs(t, some, 1, 12, 4)
	upIs(t, some, 1, 9, 1, 1, 3, 5, 8)
	upIs(t, some, 1, 8, 1, 1, 3, 5)
	upIs(t, some, 2, 10, 1, 3, 5, 8, 9)
	upIs(t, some, 3, 10, 1, 3, 5, 8, 9)
	upIs(t, some, 5, 6, 3, 5)
	upIs(t, some, 5, 6, 4)
	upIs(t, some, 11, 12, 0, 11)
}

func TestUpOfEachPlace(t *testing.T) {
	for from := -3; from < 16; from++ {
		for to := -3; to < 16; to++ {
			upIs(t, some, from, to, 0, places(max(from, 0), min(to, 12))...)
			for _, n := range []int{-1, 1, 2, 3, 4, 31, 32} {
				upOf(t, some, from, to, n)
			}
		}
	}
}

func TestUpFromAtAndAboveTo(t *testing.T) {
	for _, at := range numbers {
		for _, more := range []int{0, 1, 2, 100, 1 << 40} {
			if from := at + more; from >= at {
				upIs(t, some, from, at, math.MinInt)
			}
		}
		upIs(t, some, math.MaxInt, at, math.MinInt)
		upIs(t, some, at, math.MinInt, math.MinInt)
	}
}

func TestUpAtAndPastTheEnd(t *testing.T) {
	for _, to := range []int{12, 13, 100, 1 << 40, math.MaxInt} {
		upIs(t, some, 10, to, 0, 10, 11)
		upIs(t, some, 11, to, 0, 11)
		upIs(t, some, 12, to, 0)
		upIs(t, some, 13, to, 0)
		upIs(t, some, -1, to, 2, 0, 1, 5, 9)
		upIs(t, some, math.MinInt, to, 2, 0, 1, 5, 9)
	}
	for _, from := range []int{0, -1, -100, math.MinInt} {
		upIs(t, some, from, 0, 0)
		upIs(t, some, from, 1, 0, 0)
		upIs(t, some, from, -1, 0)
	}
}

func TestUpOfEachNumber(t *testing.T) {
	v := falling(31, 32)
	for n := -40; n < 80; n++ {
		var want []int
		if n <= 31 {
			want = places(0, 33-max(n, 0))
		}
		upIs(t, v, 0, len(v), n, want...)
	}
	for _, n := range numbers {
		switch {
		case n <= 0:
			upIs(t, v, 1, 33, n, places(1, 33)...)
		case n >= 32:
			upIs(t, v, 1, 33, n)
		}
	}
}

func TestUpOfAnyNumbers(t *testing.T) {
	for _, v := range [][]int{some, falling(31, 32), alike(200, 5), nil, {}, {7}, first(math.MinInt, math.MaxInt, 0)} {
		for _, from := range numbers {
			for _, to := range numbers {
				for _, n := range numbers {
					if got := Up(v, from, to, n); !slices.Equal(got, wantUp(v, from, to, n)) {
						t.Errorf("%v: from %d to %d, level %d: %v", v, from, to, n, got)
					}
				}
			}
		}
	}
}

// Up asks not whether the levels may be.
func TestUpOfLevelsThatMayNotBe(t *testing.T) {
	v := []int{-5, math.MaxInt, 32, math.MinInt, 0, -1, 100}
	upIs(t, v, 0, 7, math.MinInt, places(0, 7)...)
	upIs(t, v, 0, 7, math.MinInt+1, 0, 1, 2, 4, 5, 6)
	upIs(t, v, 0, 7, -5, 0, 1, 2, 4, 5, 6)
	upIs(t, v, 0, 7, -4, 1, 2, 4, 5, 6)
	upIs(t, v, 0, 7, 0, 1, 2, 4, 6)
	upIs(t, v, 0, 7, 32, 1, 2, 6)
	upIs(t, v, 0, 7, 33, 1, 6)
	upIs(t, v, 0, 7, math.MaxInt, 1)
	upIs(t, v, 2, 6, 0, 2, 4)
	for _, v := range oddLevels() {
		n := len(v)
		for _, level := range []int{math.MinInt, -1, 0, 1, 31, 32, math.MaxInt} {
			upOf(t, v, 0, n, level)
			upOf(t, v, n-2, n+2, level)
			upOf(t, v, -1, n-1, level)
		}
	}
	upIs(t, alike(1000, 1), 0, 1000, 1, places(0, 1000)...)
	upIs(t, alike(1000, 1), 199, 203, 1, 199, 200, 201, 202)
	upIs(t, nil, 0, 1, 0)
	upIs(t, []int{}, -1, 1, math.MinInt)
}

// P14.2

func TestFromByHand(t *testing.T) {
	for _, x := range []struct {
		m     int
		froms []int // of levels 0 to 4, with k 2
	}{
		{1, []int{9, 9, 5, 0, 0}},
		{2, []int{8, 5, 0, 0, 0}},
		{3, []int{5, 1, 0, 0, 0}},
		{4, []int{3, 0, 0, 0, 0}},
		{5, []int{1, 0, 0, 0, 0}},
		{6, []int{0, 0, 0, 0, 0}},
		{7, []int{0, 0, 0, 0, 0}},
	} {
		for n, want := range x.froms {
			fromIs(t, some, x.m, 2, n, want)
		}
	}
	fromIs(t, some, 1, 1, 0, 9)
	fromIs(t, some, 1, 3, 0, 8)
	fromIs(t, some, 1, 3, 1, 5)
	fromIs(t, some, 1, 4, 0, 5)
	fromIs(t, some, 1, 7, 0, 3)
	fromIs(t, some, 1, 9, 0, 1)
	fromIs(t, some, 1, 10, 0, 1)
	fromIs(t, some, 1, 11, 0, 0)
}

func TestFromOfLevelsThatMayNotBe(t *testing.T) {
	for _, v := range oddLevels() {
		for _, m := range []int{1, 2, 20} {
			for _, k := range []int{1, 2, 20, 199, 200} {
				noneIs(t, v, m, k)
			}
		}
	}
}

func TestFromWithoutMOrK(t *testing.T) {
	for _, bad := range []int{0, -1, -2, -12, -1 << 32, math.MinInt + 1, math.MinInt} {
		for _, v := range goodLevels() {
			noneIs(t, v, bad, 1)
			noneIs(t, v, 1, bad)
			noneIs(t, v, bad, bad)
			noneIs(t, v, bad, math.MaxInt)
			noneIs(t, v, math.MaxInt, bad)
		}
	}
}

func TestFromOfAsManyLevelsAsK(t *testing.T) {
	for _, v := range goodLevels() {
		n := len(v)
		for _, m := range []int{1, 2, n, math.MaxInt} {
			for _, k := range []int{n, n + 1, n + 100, 1 << 32, math.MaxInt - 1, math.MaxInt} {
				noneIs(t, v, m, k)
			}
			if n == 1 {
				continue
			}
			prefixIs(t, v, m, n-1, 0)
			fromIs(t, v, m, n-1, 0, 0)
			fromIs(t, v, m, n-1, 30, 0)
		}
	}
}

func TestFromOfEachNumber(t *testing.T) {
	v := append(falling(31, 32), 0)
	for n := -40; n < 80; n++ {
		last := 0
		if n <= 30 {
			last = min(32, 31-n)
		}
		fromIs(t, v, 1, 1, n, last)
		fromIs(t, v, 2, 1, n, max(0, last-1))
		fromIs(t, v, 20, 1, n, max(0, last-19))
	}
	for _, n := range numbers {
		switch {
		case n < 0:
			fromIs(t, v, 1, 1, n, 32)
			fromIs(t, v, 1, 2, n, 31)
		case n > 30:
			fromIs(t, v, 1, 1, n, 0)
		}
	}
	fromIs(t, alike(200, 31), 1, 1, 30, 198)
	fromIs(t, alike(200, 31), 1, 1, 31, 0)
	fromIs(t, alike(200, 31), 198, 1, 30, 1)
	fromIs(t, alike(200, 31), 199, 1, 30, 0)
	fromIs(t, alike(200, 31), 200, 1, 30, 0)
}

// The first block is above each level but its own, so that with just as many as m the place may be its own one.
func TestFromOfFewerJustAsManyAndMore(t *testing.T) {
	v := first(0, 4, 0, 4, 0, 4, 0, 0)
	for _, n := range []int{0, 1, 2, 3} {
		for m, want := range map[int]int{1: 6, 2: 4, 3: 2, 4: 0, 5: 0, 6: 0, 20: 0, math.MaxInt: 0} {
			fromIs(t, v, m, 1, n, want)
			fromIs(t, v, m, 2, n, want)
		}
	}
	for n := 4; n < 31; n++ {
		for _, m := range []int{1, 2, 3, math.MaxInt} {
			fromIs(t, v, m, 1, n, 0)
		}
	}
	for m := 1; m < 12; m++ {
		fromIs(t, v, m, 1, -1, max(0, 8-m))
	}
}

func TestFromOfLevelsAboveAmongTheLastKAlone(t *testing.T) {
	v := first(0, 0, 5, 5, 9)
	for k, want := range map[int][]int{1: {4, 3}, 2: {3, 0}, 3: {0, 0}, 4: {0, 0}, 5: {0, 0}} {
		fromIs(t, v, 1, k, 0, want[0])
		fromIs(t, v, 2, k, 0, want[1])
		fromIs(t, v, 1, k, 4, want[0])
		fromIs(t, v, 1, k, 5, 0)
		fromIs(t, v, 1, k, 8, 0)
	}
	for n := range 31 {
		fromIs(t, append(alike(20, n), 31, 31, 31), 1, 3, n, 0)
		fromIs(t, append(alike(20, n), n+1, 31, 31), 1, 2, n, 20)
	}
}

func TestFromOfAnyNumbers(t *testing.T) {
	for _, v := range [][]int{some, alike(200, 5), ruled(33), nil, {31}, {30, 0}, first(math.MaxInt, 0)} {
		for _, m := range numbers {
			for _, k := range numbers {
				for _, n := range numbers {
					if got := From(v, m, k, n); got != wantFrom(v, m, k, n) {
						t.Errorf("%v: m %d, k %d, level %d: from %d", v, m, k, n, got)
					}
				}
			}
		}
	}
}

// P14.3

func TestPrefixByHand(t *testing.T) {
	prefixIs(t, some, 1, 2, 0, 5, 9)
	prefixIs(t, some, 2, 2, 0, 1, 5, 8, 9)
	prefixIs(t, some, 3, 2, 0, 1, 3, 5, 6, 7, 8, 9)
	prefixIs(t, some, 4, 2, 0, 1, 3, 4, 5, 6, 7, 8, 9)
	prefixIs(t, some, 5, 2, places(0, 10)...)
	prefixIs(t, some, 1, 1, 0, 5, 9, 10)
	prefixIs(t, some, 1, 4, 0, 5, 6, 7)
	prefixIs(t, some, 2, 4, 0, 1, 3, 4, 5, 6, 7)
	prefixIs(t, some, 1, 7, 0, 1, 3, 4)
	prefixIs(t, first(0, 1), 1, 1, 0, 1)
	prefixIs(t, first(1, 0), 1, 1, 0, 1)
	prefixIs(t, first(0, 1, 0), 1, 1, 0, 2)
	prefixIs(t, first(0, 1, 0), 2, 1, 0, 1, 2)
	prefixIs(t, first(1, 0, 0), 1, 1, 0, 1, 2)
	prefixIs(t, first(31, 0, 31, 0, 31), 1, 1, 0, 1, 3, 4)
}

func TestPrefixOfOneLevel(t *testing.T) {
	for _, m := range numbers {
		for _, k := range numbers {
			if l, is := Prefix([]int{31}, m, k); is || len(l) != 0 {
				t.Errorf("m %d, k %d: %v", m, k, l)
			}
		}
	}
	noneIs(t, []int{31}, 1, 1)
	for level := range 32 {
		prefixIs(t, first(level), 1, 1, 0)
		noneIs(t, first(level), 1, 2)
	}
}

func TestPrefixWithAnMOfAsManyAsThereAre(t *testing.T) {
	for _, v := range goodLevels() {
		for _, k := range []int{1, 2, 20} {
			n := len(v) - k
			if n < 1 {
				noneIs(t, v, 1, k)
				continue
			}
			for _, m := range []int{n - 1, n, n + 1, 200, 201, math.MaxInt - 1, math.MaxInt} {
				if m >= 1 {
					prefixIs(t, v, m, k, places(0, n)...)
				}
			}
		}
	}
	// With one fewer than all that are higher, and stand behind, the second place is left out.
	v := first(0, 1, 1, 1, 0)
	prefixIs(t, v, 3, 1, 0, 2, 3, 4)
	prefixIs(t, v, 4, 1, 0, 1, 2, 3, 4)
}

func TestPrefixOfLevelsAlike(t *testing.T) {
	for level := range 32 {
		for _, n := range []int{2, 3, 50, 200} {
			for _, m := range []int{1, 2, 3, 20, n} {
				for _, k := range []int{1, n / 2, n - 1} {
					prefixIs(t, alike(n, level), m, k, places(0, n-k)...)
				}
			}
		}
	}
}

func TestPrefixOfLevelsThatRise(t *testing.T) {
	v := rising(0, 31)
	for m := 1; m < 40; m++ {
		for _, k := range []int{1, 2, 10, 30} {
			n := len(v) - k
			prefixIs(t, v, m, k, slices.Concat([]int{0}, places(max(1, n-m), n))...)
		}
	}
	// The last one as high as the first one, and ahead of it.
	prefixIs(t, append(rising(0, 32), 0), 1, 1, 0, 32)
	prefixIs(t, append(rising(0, 32), 0), 2, 1, 0, 31, 32)
	// Two of each level.
	pairs := first(0, 0, 1, 1, 2, 2, 3, 3, 0)
	prefixIs(t, pairs, 1, 1, 0, 7, 8)
	prefixIs(t, pairs, 2, 1, 0, 7, 8)
	prefixIs(t, pairs, 3, 1, 0, 5, 6, 7, 8)
	prefixIs(t, pairs, 4, 1, 0, 5, 6, 7, 8)
	prefixIs(t, pairs, 5, 1, 0, 3, 4, 5, 6, 7, 8)
}

func TestPrefixOfLevelsThatFall(t *testing.T) {
	for _, v := range [][]int{falling(31, 32), falling(30, 31), falling(5, 6), first(3, 3, 2, 2, 1, 1, 0, 0)} {
		for m := 1; m < 40; m++ {
			for k := 1; k < len(v); k++ {
				prefixIs(t, v, m, k, places(0, len(v)-k)...)
			}
		}
	}
}

func TestPrefixOfAnyNumbers(t *testing.T) {
	for _, v := range append(goodLevels(), oddLevels()...) {
		for _, m := range numbers {
			for _, k := range numbers {
				l, is := Prefix(v, m, k)
				if want, may := wantPrefix(v, m, k); is != may || !slices.Equal(l, want) || is == (len(l) == 0) {
					t.Errorf("%v: m %d, k %d: %v, and %v", v, m, k, l, is)
				}
			}
		}
	}
}

// From and Prefix, of all levels of some lengths

// allLevels goes through all that are n levels, each one of these but the first one.
func allLevels(n int, levels []int, each func(v []int)) {
	v := alike(n, levels[0])
	var turn func(at int)
	turn = func(at int) {
		if at == n {
			each(v)
			return
		}
		for _, level := range levels {
			v[at] = level
			turn(at + 1)
		}
	}
	turn(1)
}

func TestAllShortLevels(t *testing.T) {
	for n := 1; n <= 7; n++ {
		allLevels(n, []int{0, 1, 2, 31}, func(v []int) {
			for m := 1; m <= n; m++ {
				for k := 1; k <= n; k++ {
					l, is := Prefix(v, m, k)
					if want, may := wantPrefix(v, m, k); is != may || !slices.Equal(l, want) {
						t.Errorf("%v: m %d, k %d: %v, and %v", v, m, k, l, is)
					}
					for _, level := range []int{-1, 0, 1, 2, 30, 31} {
						if from := From(v, m, k, level); from != wantFrom(v, m, k, level) {
							t.Errorf("%v: m %d, k %d, level %d: from %d", v, m, k, level, from)
						}
					}
				}
			}
		})
	}
}

// What is taken are the places that are From of their own level, or behind it, by the package's own From.
func TestPrefixGoesByFrom(t *testing.T) {
	for _, v := range goodLevels() {
		for _, m := range []int{1, 2, 3, 20} {
			for _, k := range []int{1, 2, 20} {
				l, is := Prefix(v, m, k)
				if is != (From(v, m, k, 0) >= 0) {
					t.Errorf("%v: m %d, k %d: %v", v, m, k, is)
				}
				for i := 0; is && i < len(v); i++ {
					want := i < len(v)-k && i >= From(v, m, k, v[i])
					if slices.Contains(l, i) != want {
						t.Errorf("%v: m %d, k %d: place %d", v, m, k, i)
					}
				}
			}
		}
	}
}

// P14.4

// taken holds all that the chapter says follows of what is taken.
func taken(t *testing.T, v []int, m, k int) {
	t.Helper()
	l, is := Prefix(v, m, k)
	if !is || len(l) == 0 || l[0] != 0 {
		t.Fatalf("%v: m %d, k %d: %v, and %v", v, m, k, l, is)
	}
	for n := range 32 {
		high := wantUp(v, 0, len(v)-k, n)
		for _, place := range high[max(0, len(high)-m):] {
			if !slices.Contains(l, place) {
				t.Errorf("%v: m %d, k %d: %d is not taken, one of the last of level %d", v, m, k, place, n)
			}
		}
	}
	if !slices.Equal(l, levelByLevel(v, m, k)) || !slices.Equal(l, fewBehind(v, m, k)) {
		t.Errorf("%v: m %d, k %d: %v", v, m, k, l)
	}
	if more, _ := Prefix(v, m+1, k); slices.ContainsFunc(l, func(place int) bool { return !slices.Contains(more, place) }) {
		t.Errorf("%v: m %d, k %d: %v, with one m more %v", v, m, k, l, more)
	}
}

func TestWhatIsTaken(t *testing.T) {
	for _, v := range goodLevels() {
		for _, m := range []int{1, 2, 3, 4, 5, 19, 20, 21, 198, 199, 200, 1 << 40} {
			for _, k := range []int{1, 2, 3, 4, 5, 19, 20, 21, 198, 199} {
				if k < len(v) {
					taken(t, v, m, k)
				}
			}
		}
	}
	allLevels(6, []int{0, 1, 2, 31}, func(v []int) {
		for m := 1; m < 6; m++ {
			for k := 1; k < 6; k++ {
				taken(t, v, m, k)
			}
		}
	})
}

func TestWhatIsTakenOfThrownLevels(t *testing.T) {
	r := rand.New(rand.NewSource(14))
	for range 3000 {
		v := thrown(r, 2+r.Intn(199), r.Intn(32), r.Intn(3) == 0)
		m, k := 1+r.Intn(20), 1+r.Intn(min(20, len(v)-1))
		taken(t, v, m, k)
		prefixOf(t, v, m, k)
		fromOf(t, v, m, k, r.Intn(34)-1)
	}
}

// Levels that are as frequent as they should be: of each the last ones.
func TestWhatIsTakenOfRuledLevels(t *testing.T) {
	prefixIs(t, ruled(65), 1, 1, 0, 32, 48, 56, 60, 62, 63)
	prefixIs(t, ruled(65), 2, 1, 0, 16, 32, 40, 48, 52, 56, 58, 60, 61, 62, 63)
	prefixIs(t, ruled(66), 1, 1, 0, 64)
	prefixIs(t, ruled(200), 1, 1, 0, 128, 192, 196, 198)
}

// The last k

func TestTheLastKChangeNothing(t *testing.T) {
	r := rand.New(rand.NewSource(41))
	for _, v := range goodLevels() {
		for _, k := range []int{1, 2, 5, 20, 199} {
			if k >= len(v) {
				continue
			}
			for level := range 32 {
				turned := slices.Clone(v)
				for i := len(v) - k; i < len(v); i++ {
					turned[i] = level
				}
				sameAhead(t, v, turned, k, k)
				turned[len(v)-k] = r.Intn(32)
				turned[len(v)-1] = r.Intn(32)
				sameAhead(t, v, turned, k, k)
			}
			part := v[:len(v)-k]
			for more := 1; len(part)+more <= 200; more += 1 + more/2 {
				sameAhead(t, v, append(slices.Clone(part), slices.Repeat([]int{more % 32}, more)...), k, more)
			}
		}
	}
}

// sameAhead holds that of two with the same part ahead the same comes.
func sameAhead(t *testing.T, a, b []int, ka, kb int) {
	t.Helper()
	for _, m := range []int{1, 2, 20} {
		one, is := Prefix(a, m, ka)
		other, too := Prefix(b, m, kb)
		if !is || !too || !slices.Equal(one, other) {
			t.Errorf("%v and %v: m %d, k %d and %d: %v and %v", a, b, m, ka, kb, one, other)
		}
		for _, n := range []int{-1, 0, 1, 2, 5, 30, 31} {
			if i, j := From(a, m, ka, n), From(b, m, kb, n); i != j {
				t.Errorf("%v and %v: m %d, k %d and %d: from %d and %d", a, b, m, ka, kb, i, j)
			}
		}
	}
}

// But what is no level may not be, there as well.
func TestTheLastKMustBeLevels(t *testing.T) {
	for _, bad := range badLevels {
		for at := 1; at < len(some); at++ {
			v := slices.Clone(some)
			v[at] = bad
			noneIs(t, v, 1, 2)
			noneIs(t, v, 3, 11)
		}
	}
}

// R3

func TestLaterChangesChangeNothing(t *testing.T) {
	v := roomy(some)
	up := Up(v, 0, 12, 1)
	all := Up(v, 0, 12, 0)
	l, _ := Prefix(v, 1, 2)
	more, _ := Prefix(v, 5, 2)
	if !slices.Equal(v[:cap(v)][:17], slices.Concat(some, room)) {
		t.Errorf("%v is not as it was", v[:cap(v)])
	}
	spoil(v)
	if !slices.Equal(up, []int{0, 1, 3, 5, 8, 9}) || !slices.Equal(l, []int{0, 5, 9}) || !slices.Equal(all, places(0, 12)) || !slices.Equal(more, places(0, 10)) {
		t.Error("what was answered changed with what was handed in", up, all, l, more)
	}
	v = slices.Clone(some)
	spoil(up)
	spoil(l)
	if !slices.Equal(v, some) || !slices.Equal(all, places(0, 12)) || !slices.Equal(more, places(0, 10)) {
		t.Error("what was handed in, or another answer, changed with what was answered", v, all, more)
	}
	prefixIs(t, v, 1, 2, 0, 5, 9)
	upIs(t, v, 0, 12, 1, 0, 1, 3, 5, 8, 9)
}

// R5

func TestAnswersHangOnNothingElse(t *testing.T) {
	v := ruled(200)
	ask := func() string {
		l, is := Prefix(v, 3, 4)
		none, not := Prefix(v, 0, 4)
		return fmt.Sprint(May(v), May(v[1:]), Up(v, 5, 90, 2), From(v, 2, 9, 1), From(v, 2, 200, 1), l, is, none, not)
	}
	want := ask()
	for _, other := range append(goodLevels(), oddLevels()...) {
		May(other)
		Up(other, 1, 50, 1)
		From(other, 1, 1, 1)
		Prefix(other, 1, 1)
		if ask() != want {
			t.Error("asked again, another answer")
		}
	}
}
