package bin

import (
	"bytes"
	"encoding/binary"
	"math"
	"slices"
	"testing"
)

// badSizes are what no size may be.
var badSizes = []int{-1, -2, -8, 9, 10, 16, 64, 256, math.MaxInt, math.MinInt, math.MinInt + 8}

// farPlaces are no places of any bytes here; with a size added, some of them go round.
var farPlaces = []int{-1, -2, -8, -9, math.MinInt, math.MinInt + 1, 1 << 31, 1 << 62, math.MaxInt - 8, math.MaxInt - 2, math.MaxInt - 1, math.MaxInt}

// sampleBytes makes n bytes of which neighbours differ, so that a byte at a wrong place is seen.
func sampleBytes(n int) []byte {
	b := make([]byte, n)
	for i := range b {
		b[i] = byte(i*167 + i/256*31 + 13)
	}
	return b
}

// numbers are each power of 2 with its neighbours, and one of which all bytes differ.
func numbers() []uint64 {
	l := []uint64{0, 258, 0x0102030405060708, 0xfffefdfcfbfaf9f8, math.MaxUint64, math.MaxUint64 - 1}
	for i := range 64 {
		n := uint64(1) << i
		l = append(l, n-1, n, n+1)
	}
	return l
}

// lowest is what is left of n in size bytes.
func lowest(n uint64, size int) uint64 {
	if size == 8 {
		return n
	}
	return n % (1 << (8 * size))
}

// blobOf and rowsOf are the chapter's words on blobs and rows, where there are some.
func blobOf(b []byte) []byte {
	return append(binary.BigEndian.AppendUint16(nil, uint16(len(b))), b...)
}

func rowsOf(l [][]byte) []byte {
	out := []byte{byte(len(l))}
	for _, row := range l {
		out = append(out, blobOf(row)...)
	}
	return out
}

func sameRows(a, b [][]byte) bool {
	return slices.EqualFunc(a, b, bytes.Equal)
}

func mustRows(t *testing.T, l [][]byte) []byte {
	t.Helper()
	b, is := Rows(l)
	if !is {
		t.Fatalf("no bytes of %d rows", len(l))
	}
	return b
}

// sampleLists are lists of rows with edges of how many there are, and how long.
func sampleLists() [][][]byte {
	many := make([][]byte, 255)
	for i := range many {
		many[i] = sampleBytes(i % 7)
	}
	return [][][]byte{
		nil,
		{},
		{nil},
		{{}},
		{{0}},
		{{255}},
		{nil, nil},
		{nil, {1}, nil},
		{{1}, nil, {2, 3}},
		{{0, 0}, {0, 1}, {1, 0, 7}},
		{sampleBytes(254), sampleBytes(255), sampleBytes(256), sampleBytes(257)},
		{sampleBytes(65534), sampleBytes(65535), nil},
		many[:254],
		many,
		make([][]byte, 255),
	}
}

// The chapter's examples

func TestExamples(t *testing.T) {
	if b := Put(258, 2); !bytes.Equal(b, []byte{1, 2}) {
		t.Error(b)
	}
	if b, is := Rows(nil); !is || !bytes.Equal(b, []byte{0}) {
		t.Error(b, is)
	}
	if b, is := Rows([][]byte{}); !is || !bytes.Equal(b, []byte{0}) {
		t.Error(b, is)
	}
}

// P4.1

func TestPutOfKnownNumbers(t *testing.T) {
	for _, x := range []struct {
		n    uint64
		size int
		want []byte
	}{
		{0, 0, nil},
		{1, 0, nil},
		{math.MaxUint64, 0, nil},
		{0, 1, []byte{0}},
		{255, 1, []byte{255}},
		{256, 1, []byte{0}},
		{257, 1, []byte{1}},
		{255, 2, []byte{0, 255}},
		{65535, 2, []byte{255, 255}},
		{65536, 2, []byte{0, 0}},
		{65537, 2, []byte{0, 1}},
		{0x01020304, 3, []byte{2, 3, 4}},
		{0x01020304, 4, []byte{1, 2, 3, 4}},
		{0x01020304, 5, []byte{0, 1, 2, 3, 4}},
		{0x0102030405060708, 6, []byte{3, 4, 5, 6, 7, 8}},
		{0x0102030405060708, 7, []byte{2, 3, 4, 5, 6, 7, 8}},
		{0x0102030405060708, 8, []byte{1, 2, 3, 4, 5, 6, 7, 8}},
		{1, 8, []byte{0, 0, 0, 0, 0, 0, 0, 1}},
		{1 << 63, 8, []byte{128, 0, 0, 0, 0, 0, 0, 0}},
		{math.MaxUint64, 8, []byte{255, 255, 255, 255, 255, 255, 255, 255}},
	} {
		if b := Put(x.n, x.size); !bytes.Equal(b, x.want) {
			t.Errorf("%d in %d: %v", x.n, x.size, b)
		}
	}
}

func TestPutIsTheLowestBytes(t *testing.T) {
	for _, n := range numbers() {
		all := binary.BigEndian.AppendUint64(nil, n)
		for size := range 9 {
			if b := Put(n, size); !bytes.Equal(b, all[8-size:]) {
				t.Errorf("%d in %d: %v", n, size, b)
			}
		}
	}
}

func TestPutOfBadSizes(t *testing.T) {
	for _, size := range badSizes {
		for _, n := range []uint64{0, 7, math.MaxUint64} {
			if b := Put(n, size); len(b) != 0 {
				t.Errorf("%d in %d: %v", n, size, b)
			}
		}
	}
}

func TestGetOfKnownBytes(t *testing.T) {
	b := []byte{1, 2, 3, 4, 5, 6, 7, 8, 255}
	for _, x := range []struct {
		at, size int
		n        uint64
		is       bool
	}{
		{0, 0, 0, true},
		{0, 1, 1, true},
		{0, 2, 258, true},
		{0, 8, 0x0102030405060708, true},
		{1, 8, 0x02030405060708ff, true},
		{2, 8, 0, false},
		{2, 7, 0x030405060708ff, true},
		{8, 1, 255, true},
		{8, 2, 0, false},
		{8, 0, 0, true},
		{9, 0, 0, true},
		{9, 1, 0, false},
		{10, 0, 0, false},
		{10, 1, 0, false},
		{-1, 0, 0, false},
		{-1, 1, 0, false},
		{-1, 8, 0, false},
		{0, -1, 0, false},
		{1, -1, 0, false},
		{0, 9, 0, false},
	} {
		if n, is := Get(b, x.at, x.size); n != x.n || is != x.is {
			t.Errorf("%d from %d on: %d, %v", x.size, x.at, n, is)
		}
	}
}

func TestGetOfAllPlaces(t *testing.T) {
	for length := range 20 {
		b := sampleBytes(length)
		for at := -3; at < length+4; at++ {
			for size := -2; size < 12; size++ {
				want, fits := uint64(0), 0 <= size && size <= 8 && 0 <= at && at+size <= length
				if fits {
					var all [8]byte
					copy(all[8-size:], b[at:])
					want = binary.BigEndian.Uint64(all[:])
				}
				if n, is := Get(b, at, size); n != want || is != fits {
					t.Errorf("%d from %d on, of %d: %d, %v", size, at, length, n, is)
				}
			}
		}
	}
}

func TestGetOfFarPlacesAndBadSizes(t *testing.T) {
	for _, b := range [][]byte{nil, {}, {7}, sampleBytes(40)} {
		for _, at := range farPlaces {
			for size := range 9 {
				if n, is := Get(b, at, size); n != 0 || is {
					t.Errorf("%d from %d on, of %d: %d", size, at, len(b), n)
				}
			}
		}
		for _, size := range badSizes {
			for _, at := range append([]int{0, 1, len(b)}, farPlaces...) {
				if n, is := Get(b, at, size); n != 0 || is {
					t.Errorf("%d from %d on, of %d: %d", size, at, len(b), n)
				}
			}
		}
	}
}

func TestGetOfNothing(t *testing.T) {
	for _, b := range [][]byte{nil, {}} {
		if n, is := Get(b, 0, 0); n != 0 || !is {
			t.Error(n, is)
		}
		if n, is := Get(b, 0, 1); n != 0 || is {
			t.Error(n, is)
		}
		if n, is := Get(b, 1, 0); n != 0 || is {
			t.Error(n, is)
		}
	}
}

// What a slice has room for behind its end is none of its bytes.
func TestGetEndsWhereTheBytesEnd(t *testing.T) {
	b := sampleBytes(20)[:5]
	if n, is := Get(b, 4, 2); n != 0 || is {
		t.Error(n, is)
	}
	if n, is := Get(b, 6, 0); n != 0 || is {
		t.Error(n, is)
	}
}

// P4.2

func TestBlobOfKnownBytes(t *testing.T) {
	for _, x := range []struct{ b, want []byte }{
		{nil, []byte{0, 0}},
		{[]byte{}, []byte{0, 0}},
		{[]byte{0}, []byte{0, 1, 0}},
		{[]byte("ab"), []byte{0, 2, 'a', 'b'}},
	} {
		if b, is := Blob(x.b); !is || !bytes.Equal(b, x.want) {
			t.Errorf("%v: %v, %v", x.b, b, is)
		}
	}
}

func TestBlobOfEachLength(t *testing.T) {
	for _, n := range []int{0, 1, 2, 127, 128, 254, 255, 256, 257, 511, 512, 32767, 32768, 65279, 65280, 65534, 65535} {
		b := sampleBytes(n)
		x, is := Blob(b)
		if !is || len(x) != n+2 || x[0] != byte(n/256) || x[1] != byte(n%256) || !bytes.Equal(x[2:], b) {
			t.Errorf("%d: %d bytes, %v", n, len(x), is)
		}
	}
	for _, n := range []int{65536, 65537, 65538, 131071, 131072, 1 << 20} {
		if x, is := Blob(sampleBytes(n)); is || len(x) != 0 {
			t.Errorf("%d: %d bytes, %v", n, len(x), is)
		}
	}
}

func TestCutOfKnownBytes(t *testing.T) {
	b := []byte{9, 0, 1, 7, 0, 0, 0, 2, 8, 6}
	for _, x := range []struct {
		at   int
		want []byte
		end  int
		is   bool
	}{
		{-1, nil, 0, false},
		{0, nil, 0, false}, // 9 * 256 bytes
		{1, []byte{7}, 4, true},
		{2, nil, 0, false}, // 1 * 256 + 7 bytes
		{3, nil, 0, false},
		{4, nil, 6, true},
		{5, nil, 7, true},
		{6, []byte{8, 6}, 10, true},
		{7, nil, 0, false},
		{8, nil, 0, false},
		{9, nil, 0, false},  // half of a length
		{10, nil, 0, false}, // the end
		{11, nil, 0, false}, // one beyond it
	} {
		if got, end, is := Cut(b, x.at); !bytes.Equal(got, x.want) || end != x.end || is != x.is {
			t.Errorf("from %d on: %v, %d, %v", x.at, got, end, is)
		}
	}
}

func TestCutOfFarPlaces(t *testing.T) {
	for _, b := range [][]byte{nil, {}, {0}, {0, 0}, blobOf(sampleBytes(30))} {
		for _, at := range append([]int{len(b), len(b) + 1, len(b) + 2}, farPlaces...) {
			if got, end, is := Cut(b, at); is || end != 0 || len(got) != 0 {
				t.Errorf("from %d on, of %d: %v, %d", at, len(b), got, end)
			}
		}
	}
}

func TestCutOfBytesThatEndSomewhere(t *testing.T) {
	for _, n := range []int{0, 1, 2, 255, 256, 300, 65534, 65535} {
		row := sampleBytes(n)
		whole := blobOf(row)
		for _, size := range []int{0, 1, 2, 3, n / 2, n, n + 1, n + 2} {
			if size > len(whole) {
				continue
			}
			got, end, is := Cut(whole[:size], 0)
			if size == n+2 {
				if !is || end != size || !bytes.Equal(got, row) {
					t.Errorf("all of %d: %d bytes, %d, %v", n, len(got), end, is)
				}
			} else if is || end != 0 || len(got) != 0 {
				t.Errorf("%d bytes of a blob of %d: %d bytes, %d", size, n, len(got), end)
			}
		}
		if got, end, is := Cut(append(whole, 0), 0); !is || end != n+2 || !bytes.Equal(got, row) {
			t.Errorf("%d and one more: %d bytes, %d, %v", n, len(got), end, is)
		}
	}
}

// P4.3

func TestRowsOfKnownLists(t *testing.T) {
	for _, x := range []struct {
		l    [][]byte
		want []byte
	}{
		{nil, []byte{0}},
		{[][]byte{nil}, []byte{1, 0, 0}},
		{[][]byte{{}}, []byte{1, 0, 0}},
		{[][]byte{{0}}, []byte{1, 0, 1, 0}},
		{[][]byte{{1}, nil, {2, 3}}, []byte{3, 0, 1, 1, 0, 0, 0, 2, 2, 3}},
		{[][]byte{{2, 3}, nil, {1}}, []byte{3, 0, 2, 2, 3, 0, 0, 0, 1, 1}},
	} {
		if b, is := Rows(x.l); !is || !bytes.Equal(b, x.want) {
			t.Errorf("%v: %v, %v", x.l, b, is)
		}
		if l, is := Split(x.want); !is || !sameRows(l, x.l) {
			t.Errorf("%v: %v, %v", x.want, l, is)
		}
	}
}

func TestRowsIsCountAndBlobs(t *testing.T) {
	for i, l := range sampleLists() {
		if b, is := Rows(l); !is || !bytes.Equal(b, rowsOf(l)) {
			t.Errorf("%d: %d bytes, %v", i, len(b), is)
		}
	}
}

func TestRowsThatAreTooMany(t *testing.T) {
	for _, n := range []int{256, 257, 511, 512, 1000} {
		if b, is := Rows(make([][]byte, n)); is || len(b) != 0 {
			t.Errorf("%d: %d bytes, %v", n, len(b), is)
		}
	}
}

func TestRowsWithOneThatIsTooLong(t *testing.T) {
	long := make([]byte, 65536)
	for i, l := range [][][]byte{
		{long},
		{long, nil},
		{nil, long},
		{{1}, long, {2}},
		append(make([][]byte, 254), long),
		append(make([][]byte, 256), long),
	} {
		if b, is := Rows(l); is || len(b) != 0 {
			t.Errorf("%d: %d bytes, %v", i, len(b), is)
		}
	}
}

func TestSplitIsTheRows(t *testing.T) {
	for i, want := range sampleLists() {
		if l, is := Split(rowsOf(want)); !is || !sameRows(l, want) {
			t.Errorf("%d: %d rows, %v", i, len(l), is)
		}
	}
}

func TestSplitOfWrongBytes(t *testing.T) {
	for i, b := range [][]byte{
		nil,
		{},
		{1},
		{255},
		{0, 0},
		{0, 0, 0},
		{1, 0},
		{1, 0, 1},
		{1, 0, 0, 0},
		{1, 0, 0, 0, 0},
		{1, 1, 0, 7},
		{1, 255, 255},
		{2, 0, 0},
		{2, 0, 0, 0},
		{2, 0, 0, 0, 1},
		{2, 0, 1, 7, 0, 2, 8},
		{3, 0, 0, 0, 0},
		make([]byte, 511),
		append([]byte{255}, make([]byte, 2*254)...),
		append([]byte{255}, make([]byte, 2*256)...),
		append([]byte{254}, make([]byte, 2*255)...),
	} {
		if l, is := Split(b); is || len(l) != 0 {
			t.Errorf("%d: %v", i, l)
		}
	}
}

// P4.4

func TestWhatIsPutIsGot(t *testing.T) {
	for _, n := range numbers() {
		for size := range 9 {
			b := Put(n, size)
			want := lowest(n, size)
			if got, is := Get(b, 0, size); !is || got != want {
				t.Errorf("%d in %d: %d, %v", n, size, got, is)
			}
			between := slices.Concat([]byte{255, 254}, b, []byte{253})
			if got, is := Get(between, 2, size); !is || got != want {
				t.Errorf("%d in %d, in between: %d, %v", n, size, got, is)
			}
			if size > 0 {
				if got, is := Get(b, 1, size); is || got != 0 {
					t.Errorf("%d in %d, one too few: %d", n, size, got)
				}
			}
		}
	}
}

func TestWhatIsGotIsPut(t *testing.T) {
	b := sampleBytes(30)
	for size := range 9 {
		for at := range len(b) - size + 1 {
			n, is := Get(b, at, size)
			if !is || !bytes.Equal(Put(n, size), b[at:at+size]) || lowest(n, size) != n {
				t.Errorf("%d from %d on: %d, %v", size, at, n, is)
			}
		}
	}
}

func TestWhatIsCutOffWasPut(t *testing.T) {
	var all []byte
	var ends []int
	lengths := []int{0, 1, 0, 2, 255, 256, 0, 257, 65535, 3}
	for _, n := range lengths {
		blob, is := Blob(sampleBytes(n))
		if !is {
			t.Fatal(n)
		}
		all = append(all, blob...)
		ends = append(ends, len(all))
	}
	at := 0
	for i, n := range lengths {
		row, end, is := Cut(all, at)
		if !is || end != ends[i] || !bytes.Equal(row, sampleBytes(n)) {
			t.Fatalf("blob %d of %d: %d bytes, %d, %v", i, n, len(row), end, is)
		}
		blob, _ := Blob(row)
		if !bytes.Equal(blob, all[at:end]) {
			t.Errorf("blob %d of %d is another one", i, n)
		}
		at = end
	}
	if row, end, is := Cut(all, at); is || end != 0 || len(row) != 0 {
		t.Error(row, end)
	}
}

func TestWhatIsSplitIsTheRows(t *testing.T) {
	for i, want := range sampleLists() {
		l, is := Split(mustRows(t, want))
		if !is || !sameRows(l, want) {
			t.Errorf("%d: %d rows, %v", i, len(l), is)
		}
	}
}

func TestOnlyAllOfTheRowsAreSome(t *testing.T) {
	for i, list := range sampleLists() {
		b := mustRows(t, list)
		step := 1 + len(b)/2000 // the long ones not at each byte
		for size := 0; size < len(b); size += step {
			if l, is := Split(b[:size]); is || len(l) != 0 {
				t.Errorf("list %d, the first %d of %d bytes: %d rows", i, size, len(b), len(l))
			}
		}
		if l, is := Split(b[:len(b)-1]); is || len(l) != 0 {
			t.Errorf("list %d, one too few: %d rows", i, len(l))
		}
		for _, more := range [][]byte{{0}, {1}, {0, 0}, {0, 1, 7}, b} {
			if l, is := Split(slices.Concat(b, more)); is || len(l) != 0 {
				t.Errorf("list %d and %d more bytes: %d rows", i, len(more), len(l))
			}
		}
	}
}

// allTexts are all texts of up to n bytes, each below 4.
func allTexts(n int) [][]byte {
	l := [][]byte{nil}
	for from := 0; n > 0; n-- {
		to := len(l)
		for _, b := range l[from:to] {
			for x := range byte(4) {
				l = append(l, append(slices.Clone(b), x))
			}
		}
		from = to
	}
	return l
}

// Of all short texts just those are split that are the Rows of a list, and into that list.
func TestAllShortTexts(t *testing.T) {
	const longest = 8
	want := map[string][][]byte{}
	var fill func(l [][]byte, size int)
	rows := allTexts(3) // the length of a longer one is no byte of these texts
	fill = func(l [][]byte, size int) {
		want[string(rowsOf(l))] = slices.Clone(l)
		for _, row := range rows {
			if size+2+len(row) <= longest {
				fill(append(l, row), size+2+len(row))
			}
		}
	}
	fill(nil, 1)
	some := 0
	for _, b := range allTexts(longest) {
		l, is := Split(b)
		list, there := want[string(b)]
		if is != there || !sameRows(l, list) {
			t.Fatalf("%v: %v, %v", b, l, is)
		}
		if is {
			some++
		}
	}
	if some != len(want) {
		t.Errorf("%d of %d lists", some, len(want))
	}
}

// R3: what is handed in stays, also what the caller has behind it; what is answered is the caller's own.

// spoil changes all that can be reached by b, also behind its end.
func spoil(b []byte) {
	b = b[:cap(b)]
	for i := range b {
		b[i] ^= 255
	}
}

func TestWhatIsHandedInStays(t *testing.T) {
	text := rowsOf([][]byte{{1}, nil, {2, 3}})
	back := slices.Concat(text, sampleBytes(40))
	want := bytes.Clone(back)
	rows := [][]byte{back[3:4], nil, back[8:10]}
	Get(back[:5], 1, 4)
	Blob(back[:5])
	Cut(back[:5], 1)
	Rows(rows)
	Rows(slices.Repeat([][]byte{back[:5]}, 300))
	Split(back[:len(text)])
	Split(back)
	if !bytes.Equal(back, want) {
		t.Error("the bytes changed")
	}
	if len(rows) != 3 || !sameRows(rows, [][]byte{{1}, nil, {2, 3}}) || rows[1] != nil {
		t.Error("the list changed")
	}
}

func TestWhatPutAnswersIsItsOwn(t *testing.T) {
	for size := range 9 {
		spoil(Put(0x0102030405060708, size))
		if b := Put(0x0102030405060708, size); !bytes.Equal(b, []byte{1, 2, 3, 4, 5, 6, 7, 8}[8-size:]) {
			t.Errorf("%d: %v", size, b)
		}
	}
}

func TestWhatBlobAnswersIsItsOwn(t *testing.T) {
	for _, n := range []int{0, 1, 5, 300} {
		back := sampleBytes(n + 20)
		x, _ := Blob(back[:n])
		y, _ := Blob(back[:n])
		spoil(x)
		if !bytes.Equal(back, sampleBytes(n+20)) || !bytes.Equal(y, blobOf(sampleBytes(n))) {
			t.Errorf("%d: a change of one answer is seen elsewhere", n)
		}
		spoil(back)
		if !bytes.Equal(y, blobOf(sampleBytes(n))) {
			t.Errorf("%d: a change of what was handed in is seen in the answer", n)
		}
	}
}

func TestWhatIsCutOffIsItsOwn(t *testing.T) {
	for _, n := range []int{0, 1, 5, 300} {
		back := slices.Concat(blobOf(sampleBytes(n)), sampleBytes(20))
		want := bytes.Clone(back)
		x, _, _ := Cut(back, 0)
		y, _, _ := Cut(back, 0)
		spoil(append(x, 9))
		spoil(x)
		if !bytes.Equal(back, want) || !bytes.Equal(y, sampleBytes(n)) {
			t.Errorf("%d: a change of one answer is seen elsewhere", n)
		}
		spoil(back)
		if !bytes.Equal(y, sampleBytes(n)) {
			t.Errorf("%d: a change of what was handed in is seen in the answer", n)
		}
	}
}

func TestWhatRowsAnswersIsItsOwn(t *testing.T) {
	rows := [][]byte{{1}, nil, {2, 3}}
	want := rowsOf(rows)
	x, _ := Rows(rows)
	y, _ := Rows(rows)
	spoil(x)
	if !sameRows(rows, [][]byte{{1}, nil, {2, 3}}) || !bytes.Equal(y, want) {
		t.Error("a change of one answer is seen elsewhere")
	}
	rows[0][0], rows[1] = 9, []byte{8}
	if !bytes.Equal(y, want) {
		t.Error("a change of what was handed in is seen in the answer")
	}
}

func TestWhatIsSplitIsItsOwn(t *testing.T) {
	rows := [][]byte{{1}, nil, {2, 3}, sampleBytes(300), {}}
	back := append(rowsOf(rows), sampleBytes(20)...)
	text := back[:len(back)-20]
	want := bytes.Clone(back)
	for i := range rows {
		x, _ := Split(text)
		y, _ := Split(text)
		spoil(append(x[i], 9))
		spoil(x[i])
		for j, row := range x {
			if i != j && !bytes.Equal(row, rows[j]) {
				t.Errorf("a change of row %d is seen in row %d", i, j)
			}
		}
		x[i] = nil
		if !bytes.Equal(back, want) || !sameRows(y, rows) {
			t.Errorf("a change of row %d is seen elsewhere", i)
		}
	}
	y, _ := Split(text)
	spoil(back)
	if !sameRows(y, rows) {
		t.Error("a change of what was handed in is seen in the answer")
	}
}

// What the body of a range gets must not reach, by being made longer, what stands behind it.
func TestPartsHaveNoRoom(t *testing.T) {
	b := rowsOf([][]byte{{1}, nil, {2, 3}})
	want := bytes.Clone(b)
	count := 0
	for part := range parts(b, 1, 3) {
		if cap(part) != len(part) {
			t.Errorf("%d bytes have room for %d", len(part), cap(part))
		}
		spoil(append(part, 9)[len(part):])
		count++
	}
	if count != 3 || !bytes.Equal(b, want) {
		t.Error(count, b)
	}
}

func TestPartsAreNoMoreThanCount(t *testing.T) {
	b := rowsOf([][]byte{{1}, {2}, {3}})
	for count := range 6 {
		n := 0
		for range parts(b, 1, count) {
			n++
		}
		if n != min(count, 3) {
			t.Errorf("%d: %d", count, n)
		}
	}
}

func TestPartsEndWhereTheyAreLeft(t *testing.T) {
	b := rowsOf([][]byte{{1}, {2}, {3}})
	var got []byte
	for part := range parts(b, 1, 3) {
		got = append(got, part...)
		if len(got) == 2 {
			break
		}
	}
	if !bytes.Equal(got, []byte{1, 2}) {
		t.Error(got)
	}
}

// R5: what was asked before changes nothing.

func TestAskedAgain(t *testing.T) {
	rows := [][]byte{{1}, nil, {2, 3}}
	first := mustRows(t, rows)
	for _, l := range sampleLists() {
		b, _ := Rows(l)
		Split(b)
		Split(append(b, 0))
	}
	l, is := Split(first)
	if again := mustRows(t, rows); !bytes.Equal(again, first) || !is || !sameRows(l, rows) {
		t.Error("another answer the second time")
	}
}
