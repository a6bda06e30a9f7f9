package head

import (
	"bytes"
	"crypto/sha256"
	"encoding/binary"
	"encoding/hex"
	"math"
	"math/big"
	"slices"
	"testing"

	"stepladder/api"
	"stepladder/wide"
)

const last = math.MaxUint64 // the last nonce of all, behind which 0 comes

// Heights that may be, most of them at an edge, and such as may not be, among them some whose lowest bytes could be.
var (
	goodHeights = []int{0, 1, 2, 255, 256, 258, 65535, 65536, 1<<20 - 1, 1 << 20}
	badHeights  = []int{
		-1, -2, -256, -1 << 20, -1 << 31, -1 << 32, math.MinInt, math.MinInt + 1,
		1<<20 + 1, 1<<20 + 2, 1 << 21, 1 << 24, 1<<31 - 1, 1 << 31, 1<<32 - 1, 1 << 32, 1<<32 + 1, 1 << 40, math.MaxInt,
	}
)

// Bits that are a compact number, from the least one to the greatest one, and such as are none.
var (
	goodBits = []uint32{
		0x03008000, 0x03008001, 0x037fffff, 0x04008000, 0x0400ffff, 0x10123456, 0x1d00ffff, 0x1f7fffff,
		0x20008000, 0x20028f5c, 0x2000ffff, 0x20400000, 0x207ffffe, 0x207fffff,
	}
	badBits = []uint32{
		0, 1, 7, 0x7fff, 0x8000, 0x7fffff, 0xffffff, 0x01008000, 0x02008000, 0x027fffff,
		0x03000000, 0x03007fff, 0x03800000, 0x03ffffff, 0x1d000000, 0x1d007fff, 0x1d800000,
		0x20000000, 0x20007fff, 0x20800000, 0x20ffffff, 0x21008000, 0x217fffff, 0x7f7fffff,
		0x80008000, 0x83008000, 0xa07fffff, 0xff008000, 0xff7fffff, 0xffffffff,
	}
)

// Tries, most of them next to how many there are at most, or no number of tries at all.
var someTries = []int{
	-1, 0, 1, 2, 3, 99, 100, 198, 199, 200, 201, 202, 256, 1000,
	-2, -199, -200, -201, -1 << 32, math.MinInt, math.MinInt + 1, 1 << 32, 1<<32 + 1, 1 << 62, math.MaxInt - 1, math.MaxInt,
}

// Nonces at both ends, around which mining goes.
var edgeNonces = []uint64{
	0, 1, 255, 256, 1<<32 - 1, 1 << 32, 1<<63 - 1, 1 << 63,
	last, last - 1, last - 2, last - 50, last - 98, last - 99, last - 100, last - 198, last - 199, last - 200, last - 201,
}

// wantPut is the chapter's words on bytes, by Go's own library.
func wantPut(h api.Head) []byte {
	b := binary.BigEndian.AppendUint32(nil, uint32(h.Height))
	for _, id := range []api.Id{h.Prev, h.Links, h.Txs, h.Past} {
		b = append(b, id[:]...)
	}
	for _, part := range []int{3, 2, 1, 0} {
		b = binary.BigEndian.AppendUint64(b, h.Work[part])
	}
	b = binary.BigEndian.AppendUint32(b, h.Bits)
	return binary.BigEndian.AppendUint64(b, h.Nonce)
}

func wantId(h api.Head) api.Id {
	return sha256.Sum256(append([]byte{5}, wantPut(h)...))
}

func wantMayHeight(n int) bool {
	return n >= 0 && n <= 1048576
}

// wantTarget is what bits stand for; nil, if they are no compact number.
func wantTarget(bits uint32) *big.Int {
	e, m := uint(bits>>24), int64(bits&0xffffff)
	if e < 3 || e > 32 || m < 32768 || m > 8388607 {
		return nil
	}
	return new(big.Int).Lsh(big.NewInt(m), 8*(e-3))
}

func wantLevel(h api.Head) int {
	most := wantTarget(h.Bits)
	if most == nil || !wantMayHeight(h.Height) {
		return -1
	}
	if h.Height == 0 {
		return 31
	}
	id := wantId(h)
	sum, level := new(big.Int).SetBytes(id[:]), -1
	for level < 31 && sum.Cmp(new(big.Int).Rsh(most, uint(level+1))) <= 0 {
		level++
	}
	return level
}

func wantWork(bits uint32) api.Wide {
	most := wantTarget(bits)
	if most == nil {
		return api.Wide{}
	}
	all := new(big.Int).Lsh(big.NewInt(1), 256)
	var b api.Id
	all.Div(all, most.Add(most, big.NewInt(1))).FillBytes(b[:])
	return wide.Of32(b)
}

// wantMine counts the tries down, and goes from nonce to nonce.
func wantMine(h api.Head, tries int) (api.Head, bool) {
	next := h
	for left := min(tries, 200); left > 0; left-- {
		if wantLevel(next) >= 0 {
			return next, true
		}
		next.Nonce++
	}
	return h, false
}

// someHead is a head of which each part is another one for another seed.
func someHead(seed int) api.Head {
	part := func(k int) api.Id {
		return sha256.Sum256([]byte{byte(seed), byte(seed >> 8), byte(seed >> 16), byte(k), 77})
	}
	more := part(5)
	return api.Head{
		Height: 1 + int(binary.BigEndian.Uint32(more[:])>>12)%(1<<20),
		Prev:   part(0),
		Links:  part(1),
		Txs:    part(2),
		Past:   part(3),
		Work:   wide.Of32(part(4)),
		Bits:   api.Easy,
		Nonce:  binary.BigEndian.Uint64(more[8:]),
	}
}

func someHeads(n int) []api.Head {
	l := make([]api.Head, n)
	for i := range l {
		l[i] = someHead(i)
	}
	return l
}

// fullId has the bytes from first on, each one more than the one ahead.
func fullId(first byte) api.Id {
	var id api.Id
	for i := range id {
		id[i] = first + byte(i)
	}
	return id
}

// fullHead has no two bytes that are the same, but of the height and the bits.
func fullHead() api.Head {
	return api.Head{
		Height: 0x0a0b0c, Prev: fullId(0x10), Links: fullId(0x30), Txs: fullId(0x50), Past: fullId(0x70),
		Work: wide.Of32(fullId(0x90)), Bits: 0x1d00ffff, Nonce: 0xb0b1b2b3b4b5b6b7,
	}
}

const fullBytes = "000a0b0c" +
	"101112131415161718191a1b1c1d1e1f202122232425262728292a2b2c2d2e2f" +
	"303132333435363738393a3b3c3d3e3f404142434445464748494a4b4c4d4e4f" +
	"505152535455565758595a5b5c5d5e5f606162636465666768696a6b6c6d6e6f" +
	"707172737475767778797a7b7c7d7e7f808182838485868788898a8b8c8d8e8f" +
	"909192939495969798999a9b9c9d9e9fa0a1a2a3a4a5a6a7a8a9aaabacadaeaf" +
	"1d00ffff" + "b0b1b2b3b4b5b6b7"

func unhex(t *testing.T, text string) []byte {
	t.Helper()
	b, err := hex.DecodeString(text)
	if err != nil {
		t.Fatal(err)
	}
	return b
}

func mustPut(t *testing.T, h api.Head) []byte {
	t.Helper()
	b, is := Put(h)
	if !is {
		t.Fatalf("no bytes of %+v", h)
	}
	return b
}

// fields are where each part of a head stands in its bytes, and how one bit of it is turned over.
var fields = []struct {
	name     string
	at, size int
	turn     func(h *api.Head, i int, bit byte)
}{
	{"Height", 0, 4, func(h *api.Head, i int, bit byte) { h.Height ^= int(bit) << (8 * (3 - i)) }},
	{"Prev", 4, 32, func(h *api.Head, i int, bit byte) { h.Prev[i] ^= bit }},
	{"Links", 36, 32, func(h *api.Head, i int, bit byte) { h.Links[i] ^= bit }},
	{"Txs", 68, 32, func(h *api.Head, i int, bit byte) { h.Txs[i] ^= bit }},
	{"Past", 100, 32, func(h *api.Head, i int, bit byte) { h.Past[i] ^= bit }},
	{"Work", 132, 32, func(h *api.Head, i int, bit byte) { h.Work[3-i/8] ^= uint64(bit) << (8 * (7 - i%8)) }},
	{"Bits", 164, 4, func(h *api.Head, i int, bit byte) { h.Bits ^= uint32(bit) << (8 * (3 - i)) }},
	{"Nonce", 168, 8, func(h *api.Head, i int, bit byte) { h.Nonce ^= uint64(bit) << (8 * (7 - i)) }},
}

// eachTurn goes through each bit of a head, by where it stands, and the head that is left when it is turned over.
func eachTurn(h api.Head, told func(name string, at int, bit byte, other api.Head)) {
	for _, f := range fields {
		for i := range f.size {
			for bit := byte(1); bit != 0; bit <<= 1 {
				other := h
				f.turn(&other, i, bit)
				told(f.name, f.at+i, bit, other)
			}
		}
	}
}

// The chapter's example

func TestExample(t *testing.T) {
	easy, above := wantTarget(api.Easy), 0
	for _, h := range someHeads(200) {
		h.Height = 0
		if id := wantId(h); new(big.Int).SetBytes(id[:]).Cmp(easy) > 0 {
			above++
		}
		if !May(h) || Level(h) != 31 {
			t.Errorf("%+v: level %d", h, Level(h))
		}
	}
	if above < 50 {
		t.Errorf("only %d of the sums are above what Easy stands for", above)
	}
	if h := (api.Head{Bits: 545259519}); !May(h) {
		t.Error("the first one")
	}
}

// P8.1

func TestPutByHand(t *testing.T) {
	if b, is := Put(fullHead()); !is || hex.EncodeToString(b) != fullBytes {
		t.Errorf("%x, %v", b, is)
	}
	if b, is := Put(api.Head{}); !is || !bytes.Equal(b, make([]byte, 176)) {
		t.Errorf("of a zero one: %x, %v", b, is)
	}
	most := api.Head{Height: 1 << 20, Work: api.Wide{last, last, last, last}, Bits: math.MaxUint32, Nonce: last}
	for i := range 32 {
		most.Prev[i], most.Links[i], most.Txs[i], most.Past[i] = 255, 255, 255, 255
	}
	want := append([]byte{0, 16, 0, 0}, bytes.Repeat([]byte{255}, 172)...)
	if b, is := Put(most); !is || !bytes.Equal(b, want) {
		t.Errorf("of the most: %x, %v", b, is)
	}
}

func TestPutOfEachHeight(t *testing.T) {
	for _, h := range append(someHeads(5), api.Head{}) {
		for _, h.Height = range goodHeights {
			if b, is := Put(h); !is || !bytes.Equal(b, wantPut(h)) || len(b) != api.HeadSize {
				t.Errorf("height %d: %x, %v", h.Height, b, is)
			}
		}
		for _, h.Height = range badHeights {
			if b, is := Put(h); is || len(b) != 0 {
				t.Errorf("height %d: %x, %v", h.Height, b, is)
			}
		}
	}
}

func TestPutOfAnyHead(t *testing.T) {
	for _, h := range someHeads(500) {
		for _, h.Bits = range slices.Concat(goodBits[:3], badBits[:3], []uint32{h.Bits, math.MaxUint32}) {
			if b, is := Put(h); !is || !bytes.Equal(b, wantPut(h)) {
				t.Fatalf("%+v: %x, %v", h, b, is)
			}
		}
	}
	h := fullHead()
	for _, h.Nonce = range edgeNonces {
		if b := mustPut(t, h); !bytes.Equal(b, wantPut(h)) {
			t.Errorf("nonce %d: %x", h.Nonce, b)
		}
	}
}

// Each bit of a head is one of its bytes, in its own place, and nothing else of these is.
func TestEachFieldHasItsOwnBytes(t *testing.T) {
	for _, h := range []api.Head{{}, fullHead(), someHead(1), someHead(2)} {
		b, bits := mustPut(t, h), 0
		eachTurn(h, func(name string, at int, bit byte, other api.Head) {
			bits++
			want := slices.Clone(b)
			want[at] ^= bit
			got, is := Put(other)
			read, reads := Read(want)
			if !wantMayHeight(other.Height) {
				if is || len(got) != 0 || reads || read != (api.Head{}) {
					t.Errorf("%s, byte %d, bit %d: a height of %d is taken", name, at, bit, other.Height)
				}
				return
			}
			if !is || !bytes.Equal(got, want) {
				t.Errorf("%s, byte %d, bit %d: put as %x", name, at, bit, got)
			}
			if !reads || read != other {
				t.Errorf("%s, byte %d, bit %d: read as %+v", name, at, bit, read)
			}
		})
		if bits != 8*176 {
			t.Fatalf("only %d bits", bits)
		}
	}
}

func TestReadByHand(t *testing.T) {
	if h, is := Read(unhex(t, fullBytes)); !is || h != fullHead() {
		t.Errorf("%+v, %v", h, is)
	}
	if h, is := Read(make([]byte, 176)); !is || h != (api.Head{}) {
		t.Errorf("of noughts: %+v, %v", h, is)
	}
}

func TestReadOfEachPut(t *testing.T) {
	bits := slices.Concat(goodBits, badBits)
	for i, h := range someHeads(500) {
		h.Height = append(goodHeights, h.Height)[i%(len(goodHeights)+1)]
		h.Bits = bits[i%len(bits)]
		h.Nonce = append(edgeNonces, h.Nonce)[i%(len(edgeNonces)+1)]
		if got, is := Read(wantPut(h)); !is || got != h {
			t.Errorf("%+v: %+v, %v", h, got, is)
		}
	}
}

func TestReadOfAnotherLength(t *testing.T) {
	for _, b := range [][]byte{nil, {}, make([]byte, 0, 176)} {
		if h, is := Read(b); is || h != (api.Head{}) {
			t.Errorf("of nothing: %+v", h)
		}
	}
	for _, head := range []api.Head{{}, {Bits: api.Easy}, fullHead(), someHead(1)} {
		b := wantPut(head)
		long := slices.Concat(b, b, b)
		for n := range long {
			if h, is := Read(long[:n]); is != (n == 176) || !is && h != (api.Head{}) {
				t.Errorf("%d bytes: %+v, %v", n, h, is)
			}
		}
		for more := range 256 {
			behind, ahead := append(slices.Clone(b), byte(more)), append([]byte{byte(more)}, b...)
			for _, other := range [][]byte{behind, ahead, b[1:], b[:175]} {
				if h, is := Read(other); is || h != (api.Head{}) {
					t.Errorf("%d bytes, with %d: %+v", len(other), more, h)
				}
			}
		}
	}
}

func TestReadOfAHeightThatMayNotBe(t *testing.T) {
	for _, head := range []api.Head{{}, fullHead(), someHead(1)} {
		b := wantPut(head)
		for _, n := range []uint32{
			1<<20 + 1, 1<<20 + 2, 1<<20 + 256, 1 << 21, 1<<24 - 1, 1 << 24, 1<<24 + 1, 1<<31 - 1, 1 << 31, 1<<31 + 1,
			math.MaxUint32 - 1, math.MaxUint32,
		} {
			binary.BigEndian.PutUint32(b, n)
			if h, is := Read(b); is || h != (api.Head{}) {
				t.Errorf("height %d: %+v", n, h)
			}
		}
		for _, n := range goodHeights {
			binary.BigEndian.PutUint32(b, uint32(n))
			if h, is := Read(b); !is || h.Height != n {
				t.Errorf("height %d: %+v, %v", n, h, is)
			}
		}
	}
}

// P8.2

func TestKnownIds(t *testing.T) {
	for _, c := range []struct {
		h    api.Head
		want string
	}{
		{api.Head{}, "3fc3be9434061a917c18ffccff1cf1cee0ee50393e93374b44559b4234ffc698"},
		{api.Head{Bits: api.Easy}, "12e5a4ae3493cb8aa5523d81da0bf9330e402f57330b8617ea50a4ad1056310f"},
		{api.Head{Height: 1, Bits: api.Easy}, "0933a753cd7da32f700ebcc5d8359deb05c937799dc50630e7e37ac57079547e"},
		{fullHead(), "0049ad863b7687b405718c896c45c1a057bf6633f9b3826dfb556b02a90e4156"},
	} {
		if id := Id(c.h); hex.EncodeToString(id[:]) != c.want {
			t.Errorf("%+v: %x", c.h, id)
		}
	}
}

// An id asks for bytes alone: the bits may stand for nothing.
func TestIdOfAnyHead(t *testing.T) {
	for i, h := range someHeads(300) {
		h.Height = append(goodHeights, h.Height)[i%(len(goodHeights)+1)]
		for _, h.Bits = range []uint32{h.Bits, goodBits[i%len(goodBits)], badBits[i%len(badBits)]} {
			if id := Id(h); id != wantId(h) {
				t.Fatalf("%+v: %x", h, id)
			}
		}
		for _, h.Height = range badHeights {
			if id := Id(h); id != (api.Id{}) {
				t.Fatalf("height %d: %x", h.Height, id)
			}
		}
	}
}

// Each of these is the first nonce by which the head behind the first one has that level.
func TestKnownLevels(t *testing.T) {
	for nonce, want := range map[uint64]int{
		0: 3, 1: -1, 2: 0, 5: 1, 6: 2, 164: 4, 262: 5, 90: 6, 237: 7, 324: 8, 4922: 9, 6858: 10, 6788: 11,
		20424: 12, 27254: 13, 12844: 14, 140049: 16, 126262: 17, 14563: 18,
	} {
		h := api.Head{Height: 1, Bits: api.Easy, Nonce: nonce}
		if n := Level(h); n != want {
			t.Errorf("nonce %d: level %d, not %d", nonce, n, want)
		}
		if May(h) != (want >= 0) {
			t.Errorf("nonce %d: may it be: %v", nonce, May(h))
		}
	}
}

func TestLevelsOfManyHeads(t *testing.T) {
	count := map[int]int{}
	for i := range 3000 {
		h := someHead(i / 10)
		h.Nonce += uint64(i)
		n := Level(h)
		if n != wantLevel(h) {
			t.Fatalf("%+v: level %d", h, n)
		}
		count[n]++
	}
	for n := -1; n <= 5; n++ {
		if count[n] == 0 {
			t.Errorf("no head of level %d", n)
		}
	}
}

// A level goes by what the head's own bits stand for.
func TestLevelsOfOtherBits(t *testing.T) {
	for i, h := range someHeads(300) {
		for _, h.Bits = range goodBits {
			h.Height = append(goodHeights, h.Height)[i%(len(goodHeights)+1)]
			if n := Level(h); n != wantLevel(h) || May(h) != (n >= 0) {
				t.Fatalf("%+v: level %d", h, n)
			}
		}
	}
}

// Of the first block nothing is asked but bits that stand for something.
func TestLevelOfTheFirstHeight(t *testing.T) {
	for _, h := range append(someHeads(20), api.Head{}) {
		h.Height = 0
		for _, h.Bits = range goodBits {
			if n := Level(h); n != 31 || !May(h) {
				t.Errorf("bits %x: level %d", h.Bits, n)
			}
		}
		for _, h.Bits = range badBits {
			if n := Level(h); n != -1 || May(h) {
				t.Errorf("bits %x: level %d", h.Bits, n)
			}
		}
	}
}

func TestNoLevelOfWhatMayNotBe(t *testing.T) {
	for _, h := range append(someHeads(20), api.Head{}) {
		for _, h.Height = range badHeights {
			for _, h.Bits = range slices.Concat(goodBits, badBits) {
				if n := Level(h); n != -1 || May(h) {
					t.Errorf("height %d, bits %x: level %d", h.Height, h.Bits, n)
				}
			}
		}
		for _, h.Height = range goodHeights {
			for _, h.Bits = range badBits {
				if n := Level(h); n != -1 || May(h) {
					t.Errorf("height %d, bits %x: level %d", h.Height, h.Bits, n)
				}
			}
		}
	}
}

func TestKnownWork(t *testing.T) {
	for _, c := range []struct {
		bits uint32
		want api.Wide
	}{
		{0x207fffff, wide.Of(2)}, {0x20400000, wide.Of(3)}, {0x2000ffff, wide.Of(256)}, {0x20008000, wide.Of(511)},
		{0x1d00ffff, wide.Of(0x100010001)},
		{0x03008000, api.Wide{0x1fffc0007fff0001, 0x01fffc0007fff000, 0x001fffc0007fff00, 0x0001fffc0007fff0}},
		{0, api.Wide{}}, {7, api.Wide{}}, {0x20800000, api.Wide{}}, {math.MaxUint32, api.Wide{}},
	} {
		if w := Work(api.Head{Height: 1, Bits: c.bits}); w != c.want {
			t.Errorf("bits %x: %x, not %x", c.bits, w, c.want)
		}
	}
}

// Work goes by the bits alone, whether there is a Put or not.
func TestWorkOfAnyHead(t *testing.T) {
	for i, h := range append(someHeads(20), api.Head{}) {
		for _, h.Bits = range slices.Concat(goodBits, badBits) {
			for _, h.Height = range []int{h.Height, 0, goodHeights[i%len(goodHeights)], badHeights[i%len(badHeights)]} {
				if w := Work(h); w != wantWork(h.Bits) {
					t.Errorf("height %d, bits %x: %x", h.Height, h.Bits, w)
				}
			}
		}
	}
	for _, bits := range badBits {
		if w := Work(api.Head{Height: 1, Work: wide.Of(9), Bits: bits}); w != (api.Wide{}) {
			t.Errorf("bits %x: %x", bits, w)
		}
	}
}

// P8.3

func TestMayIsALevel(t *testing.T) {
	may := 0
	for _, h := range someHeads(1000) {
		if May(h) != (wantLevel(h) >= 0) {
			t.Fatalf("%+v: %v", h, May(h))
		}
		if May(h) {
			may++
		}
	}
	if may < 400 || may > 600 {
		t.Errorf("%d of 1000 may be", may)
	}
}

// nonceBehindGap is a nonce by which a head may be, of whose sums one in 512 or so is low enough, and ahead of which, by
// gap at least, is none.
func nonceBehindGap(t *testing.T, h api.Head, gap uint64) uint64 {
	t.Helper()
	h.Bits = 0x20008000
	before := uint64(0)
	for h.Nonce = 1; h.Nonce < 100000; h.Nonce++ {
		if wantLevel(h) < 0 {
			continue
		}
		if h.Nonce-before > gap {
			return h.Nonce
		}
		before = h.Nonce
	}
	t.Fatal("no such nonce")
	return 0
}

func TestMineTriesAsManyNonces(t *testing.T) {
	for seed := range 3 {
		h := someHead(seed)
		h.Bits = 0x20008000
		found := nonceBehindGap(t, h, 300)
		for _, far := range []uint64{0, 1, 2, 3, 98, 99, 100, 197, 198, 199, 200, 201, 202, 255, 256} {
			h.Nonce = found - far
			want := h
			want.Nonce = found
			for _, tries := range append(someTries, int(far), int(far)+1, int(far)+2) {
				m, is := Mine(h, tries)
				if far < 200 && int(far) < tries {
					if !is || m != want {
						t.Errorf("%d tries, %d ahead of it: %d, %v", tries, far, m.Nonce, is)
					}
				} else if is || m != h {
					t.Errorf("%d tries, %d ahead of it: %d, %v", tries, far, m.Nonce, is)
				}
			}
		}
	}
}

func TestMineOfAnyHead(t *testing.T) {
	for i, h := range someHeads(40) {
		h.Bits = goodBits[i%len(goodBits)]
		for _, tries := range someTries {
			want, may := wantMine(h, tries)
			if m, is := Mine(h, tries); is != may || m != want {
				t.Fatalf("%+v, %d tries: %d, %v", h, tries, m.Nonce, is)
			}
		}
	}
}

func TestMineGoesRound(t *testing.T) {
	round, straight := 0, 0
	for seed := range 12 {
		h := someHead(seed)
		h.Bits = []uint32{api.Easy, 0x20028f5c, 0x2000ffff}[seed%3]
		for _, h.Nonce = range edgeNonces {
			want, may := wantMine(h, 200)
			m, is := Mine(h, 200)
			if is != may || m != want {
				t.Errorf("seed %d, from %d on: %d, %v", seed, h.Nonce, m.Nonce, is)
			}
			switch {
			case is && m.Nonce < h.Nonce:
				round++
			case is:
				straight++
			}
		}
	}
	if round < 20 || straight < 20 {
		t.Errorf("%d went round, %d did not", round, straight)
	}
}

// The tries are counted on from the last nonce to the first one.
func TestMineCountsTriesRound(t *testing.T) {
	h := someHead(0)
	h.Bits = 0x2000ffff
	for _, start := range []uint64{last, last - 1, last - 49} {
		for seed, seen := 0, 0; seen < 3; seed++ {
			h = someHead(seed)
			h.Bits, h.Nonce = 0x2000ffff, start
			want, may := wantMine(h, 200)
			if !may || want.Nonce >= start {
				continue
			}
			seen++
			needs := int(want.Nonce-start) + 1
			if m, is := Mine(h, needs); !is || m != want {
				t.Errorf("from %d on, %d tries: %d, %v", start, needs, m.Nonce, is)
			}
			if m, is := Mine(h, needs-1); is || m != h {
				t.Errorf("from %d on, %d tries: %d, %v", start, needs-1, m.Nonce, is)
			}
		}
	}
}

// A head that may be at once is found by its own nonce, and is found again.
func TestMineOfWhatMayBe(t *testing.T) {
	for _, h := range someHeads(50) {
		m, is := Mine(h, 200)
		if !is || !May(m) {
			t.Fatalf("%+v: %v", h, is)
		}
		for _, tries := range someTries {
			if again, is := Mine(m, tries); is != (tries > 0) || again != m {
				t.Errorf("%+v, %d tries: %+v, %v", m, tries, again, is)
			}
		}
	}
}

func TestMineOfTheFirstHeight(t *testing.T) {
	for i, h := range someHeads(30) {
		h.Height, h.Nonce = 0, edgeNonces[i%len(edgeNonces)]
		for _, tries := range someTries {
			for _, h.Bits = range goodBits {
				if m, is := Mine(h, tries); is != (tries > 0) || m != h {
					t.Errorf("bits %x, %d tries: %+v, %v", h.Bits, tries, m, is)
				}
			}
			for _, h.Bits = range badBits {
				if m, is := Mine(h, tries); is || m != h {
					t.Errorf("bits %x, %d tries: %+v, %v", h.Bits, tries, m, is)
				}
			}
		}
	}
}

func TestMineOfWhatMayNeverBe(t *testing.T) {
	for i, h := range someHeads(10) {
		h.Nonce = edgeNonces[i%len(edgeNonces)]
		var never []api.Head
		for _, height := range badHeights {
			other := h
			other.Height = height
			never = append(never, other)
		}
		for _, bits := range append(badBits, 0x03008000, 0x1d00ffff) {
			other := h
			other.Bits = bits
			never = append(never, other)
		}
		for k, other := range never {
			for _, tries := range []int{someTries[k%len(someTries)], 200} {
				if m, is := Mine(other, tries); is || m != other {
					t.Errorf("%+v, %d tries: %+v, %v", other, tries, m, is)
				}
			}
		}
	}
}

func TestMineLeavesAllButTheNonce(t *testing.T) {
	moved := 0
	for _, h := range someHeads(100) {
		m, is := Mine(h, 200)
		if !is {
			t.Fatalf("%+v: not found", h)
		}
		if m.Nonce != h.Nonce {
			moved++
		}
		m.Nonce = h.Nonce
		if m != h {
			t.Errorf("%+v became %+v", h, m)
		}
	}
	if moved < 20 {
		t.Errorf("only %d of the nonces are others", moved)
	}
}

func TestNoncesAreHandedOnInOrder(t *testing.T) {
	for _, c := range []struct {
		first uint64
		count int
		want  []uint64
	}{
		{5, 3, []uint64{5, 6, 7}}, {0, 1, []uint64{0}}, {last - 1, 4, []uint64{last - 1, last, 0, 1}},
		{last, 1, []uint64{last}}, {9, 0, nil}, {9, -1, nil}, {9, math.MinInt, nil},
	} {
		handed := nonces(c.first, c.count)
		for range 2 {
			if got := slices.Collect(handed); !slices.Equal(got, c.want) {
				t.Errorf("%d from %d on: %d", c.count, c.first, got)
			}
		}
	}
}

func TestNoncesEndWhereTheyAreLeft(t *testing.T) {
	for leave := 1; leave <= 5; leave++ {
		var got []uint64
		for n := range nonces(7, 5) {
			if got = append(got, n); len(got) == leave {
				break
			}
		}
		if !slices.Equal(got, []uint64{7, 8, 9, 10, 11}[:leave]) {
			t.Error(leave, got)
		}
	}
}

// P8.4

func TestWhatIsReadIsPutAsTheSameBytes(t *testing.T) {
	for i := range 1000 {
		var b []byte
		for k := range 6 {
			sum := sha256.Sum256([]byte{byte(i), byte(i >> 8), byte(k), 99})
			b = append(b, sum[:]...)
		}
		b = b[:176]
		if i%3 != 0 {
			binary.BigEndian.PutUint32(b, uint32(i*1049)%(1<<20+1))
		}
		h, is := Read(b)
		if is != (binary.BigEndian.Uint32(b) <= 1<<20) {
			t.Fatalf("%x: %v", b, is)
		}
		if !is {
			continue
		}
		if again := mustPut(t, h); !bytes.Equal(again, b) {
			t.Fatalf("%x was read, %x is put", b, again)
		}
	}
	for _, fill := range []byte{0, 1, 127, 128, 255} {
		for _, n := range goodHeights {
			b := bytes.Repeat([]byte{fill}, 176)
			binary.BigEndian.PutUint32(b, uint32(n))
			h, is := Read(b)
			if again := mustPut(t, h); !is || !bytes.Equal(again, b) {
				t.Errorf("%x was read, %x is put", b, again)
			}
		}
	}
}

func TestWhatIsPutIsReadAsTheSameHead(t *testing.T) {
	for i, h := range someHeads(1000) {
		h.Height = append(goodHeights, h.Height)[i%(len(goodHeights)+1)]
		if got, is := Read(mustPut(t, h)); !is || got != h {
			t.Fatalf("%+v: %+v, %v", h, got, is)
		}
	}
}

// No two texts are known that have one sum: so all of these differ.
func TestWhatDiffersHasAnotherId(t *testing.T) {
	seen := map[api.Id]api.Head{}
	add := func(h api.Head) {
		id := Id(h)
		if other, is := seen[id]; is && other != h {
			t.Fatalf("%+v and %+v have one id", h, other)
		}
		seen[id] = h
	}
	heads := append(someHeads(300), api.Head{}, fullHead())
	for _, h := range heads {
		add(h)
	}
	turned := 0
	for _, h := range heads[len(heads)-3:] {
		eachTurn(h, func(_ string, _ int, _ byte, other api.Head) {
			if wantMayHeight(other.Height) {
				add(other)
				turned++
			}
		})
	}
	if len(seen) != len(heads)+turned {
		t.Errorf("%d ids of %d heads", len(seen), len(heads)+turned)
	}
	for _, h := range heads {
		swapped := h
		swapped.Prev, swapped.Links, swapped.Txs, swapped.Past = h.Past, h.Txs, h.Links, h.Prev
		if swapped != h && Id(swapped) == Id(h) {
			t.Errorf("%+v: as with its parts exchanged", h)
		}
	}
}

// R3 and R5: what is handed in stays, what is answered is the caller's own, and what was asked before changes nothing.

func TestWhatPutAnswersIsTheCallersOwn(t *testing.T) {
	for _, h := range append(someHeads(20), api.Head{}, fullHead()) {
		before, want := h, wantPut(h)
		first, second := mustPut(t, h), mustPut(t, h)
		clear(first[:cap(first)])
		if h != before || !bytes.Equal(second, want) || !bytes.Equal(mustPut(t, h), want) {
			t.Errorf("%+v: what was handed in, or came again, changed with what came", before)
		}
		h.Prev[0]++
		h.Work[0]++
		h.Nonce++
		if !bytes.Equal(second, want) {
			t.Errorf("%+v: what came changed with what was handed in", before)
		}
	}
}

// Behind the bytes that are handed in the caller may have more.
func TestWhatReadIsHandedStays(t *testing.T) {
	for _, h := range append(someHeads(20), api.Head{}, fullHead()) {
		room := slices.Concat(wantPut(h), bytes.Repeat([]byte{7}, 50))
		want := slices.Clone(room)
		got, is := Read(room[:176])
		for _, n := range []int{0, 1, 175, 177, len(room)} {
			Read(room[:n])
		}
		if !is || got != h || !bytes.Equal(room, want) {
			t.Errorf("%+v: not as it was", h)
		}
		clear(room)
		if got != h {
			t.Errorf("%+v: what was read changed with the bytes", h)
		}
		got.Prev[0], got.Links[0], got.Txs[0], got.Past[0] = 1, 2, 3, 4
		if !bytes.Equal(room, make([]byte, len(room))) {
			t.Errorf("%+v: the bytes changed with what was read", h)
		}
	}
}

func TestAnswersHangOnNothingElse(t *testing.T) {
	h := someHead(3)
	h.Bits = 0x20028f5c
	ask := func() []any {
		m, is := Mine(h, 200)
		read, reads := Read(mustPut(t, h))
		return []any{m, is, read, reads, Id(h), Level(m), Work(h), May(h), string(mustPut(t, m))}
	}
	first := ask()
	for _, other := range append(someHeads(50), api.Head{}, api.Head{Height: -1}) {
		b, _ := Put(other)
		Read(append(b, 1))
		Id(other)
		Level(other)
		Work(other)
		Mine(other, 3)
	}
	if !slices.Equal(ask(), first) {
		t.Error("asked again, another answer")
	}
}
