package sha

import (
	"bytes"
	"crypto/sha256"
	"encoding/binary"
	"encoding/hex"
	"math/big"
	"testing"

	"stepladder/api"
)

// The chapter's edges, and those of the second and third chunk.
var edges = []int{0, 1, 54, 55, 56, 57, 63, 64, 65, 118, 119, 120, 127, 128, 129, 200}

// sampleBytes makes n bytes of which neighbours differ, so that a byte at a wrong place is seen.
func sampleBytes(n int) []byte {
	b := make([]byte, n)
	for i := range b {
		b[i] = byte(i*167 + i/256*31 + 13)
	}
	return b
}

// P1.1

func TestPadIsBytesMarkZerosLength(t *testing.T) {
	for n := range 300 {
		b := sampleBytes(n)
		p := Pad(b)
		if len(p)%64 != 0 {
			t.Fatalf("%d: %d bytes are no multiple of 64", n, len(p))
		}
		zeros := len(p) - n - 1 - 8
		if zeros < 0 || zeros > 63 {
			t.Fatalf("%d: %d zeros", n, zeros)
		}
		want := append(bytes.Clone(b), 128)
		want = append(want, make([]byte, zeros)...)
		want = binary.BigEndian.AppendUint64(want, 8*uint64(n))
		if !bytes.Equal(p, want) {
			t.Fatalf("%d: got %v, want %v", n, p, want)
		}
	}
}

func TestPadSizesAtTheEdges(t *testing.T) {
	for _, x := range []struct{ n, size int }{
		{0, 64}, {1, 64}, {54, 64}, {55, 64}, {56, 128}, {63, 128}, {64, 128}, {65, 128},
		{119, 128}, {120, 192}, {127, 192}, {128, 192}, {183, 192}, {184, 256},
	} {
		if p := Pad(make([]byte, x.n)); len(p) != x.size {
			t.Errorf("%d bytes become %d, want %d", x.n, len(p), x.size)
		}
	}
}

func TestPadOfNil(t *testing.T) {
	want := make([]byte, 64)
	want[0] = 128
	if p := Pad(nil); !bytes.Equal(p, want) {
		t.Errorf("%v", p)
	}
}

func TestPadTellsLongLengths(t *testing.T) {
	for _, n := range []int{1 << 13, 1<<13 + 5, 1 << 21, 1<<21 + 77} {
		p := Pad(make([]byte, n))
		if got := binary.BigEndian.Uint64(p[len(p)-8:]); got != 8*uint64(n) {
			t.Errorf("%d bytes: %d bits", n, got)
		}
	}
}

// Lengths whose bits need more than 32 bits are asked here: the bytes themselves would take too much room.
func TestLengthBytesPast32Bits(t *testing.T) {
	for _, x := range []struct {
		n    int
		want [8]byte
	}{
		{0, [8]byte{}},
		{31, [8]byte{7: 248}},
		{32, [8]byte{6: 1}},
		{1<<29 - 1, [8]byte{4: 255, 5: 255, 6: 255, 7: 248}},
		{1 << 29, [8]byte{3: 1}},
		{1<<31 - 1, [8]byte{3: 3, 4: 255, 5: 255, 6: 255, 7: 248}},
	} {
		if got := lengthBytes(x.n); got != x.want {
			t.Errorf("%d: got %v, want %v", x.n, got, x.want)
		}
	}
}

// P1.2

func TestSumOfKnownTexts(t *testing.T) {
	for _, x := range []struct{ text, want string }{
		{"", "e3b0c44298fc1c149afbf4c8996fb92427ae41e4649b934ca495991b7852b855"},
		{"abc", "ba7816bf8f01cfea414140de5dae2223b00361a396177a9cb410ff61f20015ad"},
		{"abcdbcdecdefdefgefghfghighijhijkijkljklmklmnlmnomnopnopq", "248d6a61d20638b8e5c026930c3e6039a33ce45964ff2167f6ecedd419db06c1"},
		{"abcdefghbcdefghicdefghijdefghijkefghijklfghijklmghijklmnhijklmnoijklmnopjklmnopqklmnopqrlmnopqrsmnopqrstnopqrstu", "cf5b16a778af8380036ce59e7b0492370b249b11e8f07a51afac45037afee9d1"},
	} {
		if id := Sum([]byte(x.text)); hex.EncodeToString(id[:]) != x.want {
			t.Errorf("%q: %x", x.text, id)
		}
	}
}

func TestSumOfMillionBytes(t *testing.T) {
	id := Sum(bytes.Repeat([]byte("a"), 1000000))
	if hex.EncodeToString(id[:]) != "cdc76e5c9914fb9281a1c7e284d73e67f1809a48a497200e046d39ccc7112cd0" {
		t.Errorf("%x", id)
	}
}

func TestNumbersAreRootsOfPrimes(t *testing.T) {
	p := int64(1)
	for i, got := range roundNumbers {
		for p++; !big.NewInt(p).ProbablyPrime(0); p++ {
		}
		if want := rootBits(p, 3); got != want {
			t.Errorf("round %d, prime %d: got %d, want %d", i, p, got, want)
		}
		if i < len(firstWords) && firstWords[i] != rootBits(p, 2) {
			t.Errorf("first word %d, prime %d: got %d, want %d", i, p, firstWords[i], rootBits(p, 2))
		}
	}
	if roundNumbers[0] != 1116352408 || roundNumbers[63] != 3329325298 || p != 311 {
		t.Errorf("rounds from %d to %d, of %d", roundNumbers[0], roundNumbers[63], p)
	}
	if firstWords[0] != 1779033703 || firstWords[7] != 1541459225 {
		t.Errorf("first words from %d to %d", firstWords[0], firstWords[7])
	}
}

// rootBits finds bit by bit the greatest r with r^degree no greater than p * 2^(32*degree): its lowest 32 bits stand behind the point.
func rootBits(p int64, degree int64) uint32 {
	goal := new(big.Int).Lsh(big.NewInt(p), uint(32*degree))
	root := new(big.Int)
	for bit := 40; bit >= 0; bit-- {
		next := new(big.Int).SetBit(root, bit, 1)
		if new(big.Int).Exp(next, big.NewInt(degree), nil).Cmp(goal) <= 0 {
			root = next
		}
	}
	return uint32(root.Uint64())
}

// P1.3

func TestOfIsSumOfAllParts(t *testing.T) {
	b := sampleBytes(200)
	want := Sum(b)
	for _, i := range edges {
		if Of(b[:i]) != Sum(b[:i]) {
			t.Errorf("one part of %d", i)
		}
		if Of(b[:i], b[i:]) != want {
			t.Errorf("cut at %d", i)
		}
		if Of(nil, b[:i], []byte{}, nil, b[i:], []byte{}) != want {
			t.Errorf("cut at %d, with empty parts", i)
		}
		for _, j := range edges {
			if i <= j && Of(b[:i], b[i:j], b[j:]) != want {
				t.Errorf("cut at %d and %d", i, j)
			}
		}
	}
}

func TestOfByteByByte(t *testing.T) {
	b := sampleBytes(130)
	var l [][]byte
	for i := range b {
		l = append(l, b[i:i+1], nil)
	}
	if Of(l...) != Sum(b) {
		t.Error("byte by byte")
	}
}

func TestOfNothing(t *testing.T) {
	none := Sum(nil)
	if none != Sum([]byte{}) || Of() != none || Of(nil) != none || Of([]byte{}, nil) != none || Of(nil...) != none {
		t.Error("sums of no bytes differ")
	}
}

func TestOfKeepsTheOrder(t *testing.T) {
	a, b := []byte("one"), []byte("two")
	if Of(a, b) == Of(b, a) || Of(a, b) != Sum([]byte("onetwo")) || Of(b, a) != Sum([]byte("twoone")) {
		t.Error("the order of parts")
	}
}

func TestLessAtEachByte(t *testing.T) {
	for i := range 32 {
		var low, high api.Id
		for j := range 32 {
			low[j], high[j] = byte(7*j+1), byte(7*j+1)
		}
		low[i], high[i] = 127, 128 // a byte counts without a sign
		for j := i + 1; j < 32; j++ {
			low[j], high[j] = 255, 0 // what stands behind must not count
		}
		if !Less(low, high) || Less(high, low) {
			t.Errorf("byte %d", i)
		}
	}
}

func TestLessAtTheLastByte(t *testing.T) {
	a := Sum([]byte("abc"))
	for _, x := range [][2]byte{{0, 1}, {172, 173}, {0, 255}, {254, 255}} {
		low, high := a, a
		low[31], high[31] = x[0], x[1]
		if !Less(low, high) || Less(high, low) {
			t.Errorf("%v", x)
		}
	}
}

// P1.4

func TestSumIsSha256(t *testing.T) {
	long := sampleBytes(1000)
	for n := range 300 {
		if Sum(long[:n]) != api.Id(sha256.Sum256(long[:n])) {
			t.Errorf("%d bytes", n)
		}
	}
	for _, n := range []int{511, 512, 513, 575, 576, 1000} {
		if Sum(long[:n]) != api.Id(sha256.Sum256(long[:n])) {
			t.Errorf("%d bytes", n)
		}
	}
	for _, fill := range []byte{0, 1, 127, 128, 255} {
		for _, n := range edges {
			b := bytes.Repeat([]byte{fill}, n)
			if Sum(b) != api.Id(sha256.Sum256(b)) {
				t.Errorf("%d times %d", n, fill)
			}
		}
	}
}

func TestOneOfTwoIdsIsLess(t *testing.T) {
	ids := []api.Id{{}, {1}, {0, 1}, {31: 1}, {31: 255}, {255}, Sum(nil)}
	for i := range 20 {
		ids = append(ids, Sum(sampleBytes(i+1)))
	}
	for _, a := range ids {
		for _, b := range ids {
			less, greater := Less(a, b), Less(b, a)
			if less && greater || (less || greater) == (a == b) || less != (bytes.Compare(a[:], b[:]) < 0) {
				t.Errorf("%x and %x: %v, %v", a, b, less, greater)
			}
		}
	}
}

// R3: what is handed in stays, also what the caller has behind it; what is answered is new.

func TestWhatIsHandedInStays(t *testing.T) {
	for _, n := range edges {
		back := sampleBytes(n + 200)
		want := bytes.Clone(back)
		parts := [][]byte{back[:n/2], back[n/2 : n], nil}
		Pad(back[:n])
		Sum(back[:n])
		Of(back[:n], back[:n])
		Of(parts...)
		if !bytes.Equal(back, want) {
			t.Errorf("%d: the bytes changed", n)
		}
		if len(parts) != 3 || len(parts[0]) != n/2 || len(parts[1]) != n-n/2 || parts[2] != nil {
			t.Errorf("%d: the list changed", n)
		}
	}
}

func TestWhatPadAnswersIsItsOwn(t *testing.T) {
	for _, n := range edges {
		b := sampleBytes(n)
		p, q := Pad(b), Pad(b)
		want := bytes.Clone(q)
		for i := range p {
			p[i] ^= 255
		}
		if !bytes.Equal(b, sampleBytes(n)) || !bytes.Equal(q, want) {
			t.Errorf("%d: a change of one answer is seen elsewhere", n)
		}
		for i := range b {
			b[i] ^= 255
		}
		if !bytes.Equal(q, want) {
			t.Errorf("%d: a change of what was handed in is seen in the answer", n)
		}
	}
}

// R5: what was asked before changes nothing.

func TestAskedAgain(t *testing.T) {
	first := Sum([]byte("abc"))
	for _, n := range edges {
		Sum(sampleBytes(n))
	}
	if Sum([]byte("abc")) != first {
		t.Error("another sum the second time")
	}
}
