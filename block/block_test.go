package block

import (
	"crypto/sha256"
	"encoding/binary"
	"encoding/hex"
	"fmt"
	"math"
	"math/big"
	"math/rand"
	"slices"
	"strconv"
	"testing"

	"stepladder/api"
	"stepladder/purse"
)

const last = math.MaxUint64 // the last nonce of all, behind which 0 comes

const (
	easy = 0x207fffff // by which each second sum may be
	rare = 0x20028f5c // by which about each fiftieth one may be
)

// Bits that are a compact number, from the least one to the greatest one, and such as are none.
var (
	goodBits = []uint32{
		0x03008000, 0x03008001, 0x037fffff, 0x04008000, 0x0400ffff, 0x10123456, 0x1d00ffff, 0x1f7fffff,
		0x20008000, 0x20028f5c, 0x2000ffff, 0x20400000, 0x207ffffe, 0x207fffff,
	}
	badBits = []uint32{
		0, 1, 5, 0x7fff, 0x8000, 0x7fffff, 0xffffff, 0x01008000, 0x02008000, 0x027fffff,
		0x03000000, 0x03007fff, 0x03800000, 0x03ffffff, 0x1d000000, 0x1d007fff, 0x1d800000,
		0x20000000, 0x20007fff, 0x20800000, 0x20ffffff, 0x21008000, 0x217fffff, 0x7f7fffff,
		0x80008000, 0x83008000, 0xa07fffff, 0xff008000, 0xff7fffff, 0xffffffff,
	}
)

// Heights of tips: those at the edges of what a block may have, and of what a head may have, and far ones.
var someHeights = []int{
	-1, 0, 1, 2, 45, 46, 47, 48, 49, 255, 256, 1<<20 - 1, 1 << 20, 1<<20 + 1,
	-2, -3, -47, -48, -1 << 20, -1 << 32, 1<<32 - 1, 1 << 32, 1<<32 + 5, 1<<32 + 47, 1 << 62,
	math.MaxInt - 1, math.MaxInt, math.MinInt, math.MinInt + 1, math.MinInt + 47,
}

// Nonces at both ends, around which mining goes.
var edgeNonces = []uint64{
	0, 1, 255, 256, 1<<32 - 1, 1 << 32, 1<<63 - 1, 1 << 63,
	last, last - 1, last - 2, last - 50, last - 98, last - 99, last - 100, last - 198, last - 199, last - 200, last - 201,
}

// Tries, most of them next to how many there are at most, or no number of tries at all.
var someTries = []int{
	-1, 0, 1, 2, 3, 50, 99, 100, 198, 199, 200, 201, 202, 256, 1000,
	-2, -199, -200, -201, -1 << 32, math.MinInt, math.MinInt + 1, 1 << 32, 1<<32 + 1, 1 << 62, math.MaxInt - 1, math.MaxInt,
}

// The chapter's words once more, and those of the chapters that it names, by Go's own library; what transactions make of
// coins is purse's to tell.

func sum(mark byte, parts ...[]byte) api.Id {
	return sha256.Sum256(append([]byte{mark}, slices.Concat(parts...)...))
}

func workBytes(w api.Wide) []byte {
	var b []byte
	for _, part := range slices.Backward(w[:]) {
		b = binary.BigEndian.AppendUint64(b, part)
	}
	return b
}

// workOf is what is left of a number by 2^256.
func workOf(n *big.Int) api.Wide {
	var w api.Wide
	for i := range w {
		w[i] = new(big.Int).Rsh(n, uint(64*i)).Uint64()
	}
	return w
}

func wantId(h api.Head) api.Id {
	if h.Height < 0 || h.Height > 1048576 {
		return api.Id{}
	}
	return sum(5,
		binary.BigEndian.AppendUint32(nil, uint32(h.Height)), h.Prev[:], h.Links[:], h.Txs[:], h.Past[:], workBytes(h.Work),
		binary.BigEndian.AppendUint32(nil, h.Bits), binary.BigEndian.AppendUint64(nil, h.Nonce),
	)
}

// wantTarget is what bits stand for; nil, if they are no compact number.
func wantTarget(bits uint32) *big.Int {
	e, m := uint(bits>>24), int64(bits&0xffffff)
	if e < 3 || e > 32 || m < 32768 || m > 8388607 {
		return nil
	}
	return new(big.Int).Lsh(big.NewInt(m), 8*(e-3))
}

func wantLevel(h api.Head) int {
	most := wantTarget(h.Bits)
	if most == nil || h.Height < 0 || h.Height > 1048576 {
		return -1
	}
	if h.Height == 0 {
		return 31
	}
	id := wantId(h)
	n, level := new(big.Int).SetBytes(id[:]), -1
	for level < 31 && n.Cmp(new(big.Int).Rsh(most, uint(level+1))) <= 0 {
		level++
	}
	return level
}

func wantWork(h api.Head) api.Wide {
	most := wantTarget(h.Bits)
	if most == nil {
		return api.Wide{}
	}
	all := new(big.Int).Lsh(big.NewInt(1), 256)
	return workOf(all.Div(all, most.Add(most, big.NewInt(1))))
}

// wantTree goes row by row from the leaves up: each two neighbours make one of the row above.
func wantTree(row []api.Id) api.Id {
	if len(row) == 0 {
		return sum(2)
	}
	for len(row) > 1 {
		var above []api.Id
		for pair := range slices.Chunk(row, 2) {
			if len(pair) == 2 {
				above = append(above, sum(1, pair[0][:], pair[1][:]))
			} else {
				above = append(above, pair[0])
			}
		}
		row = above
	}
	return row[0]
}

func wantLinksRoot(l []api.Id) api.Id {
	var leaves []api.Id
	for _, id := range l {
		leaves = append(leaves, sum(0, id[:]))
	}
	return wantTree(leaves)
}

// wantLinks goes by the words from the answer's end: of each number, whose link it is.
func wantLinks(l []api.Id, id api.Id, level int) []api.Id {
	switch {
	case len(l) > 32:
		return nil
	case len(l) == 0:
		return []api.Id{id}
	}
	var next []api.Id
	for n := 0; n < len(l) || n <= level; n++ {
		if n >= 1 && n <= level {
			next = append(next, id)
		} else {
			next = append(next, l[n])
		}
	}
	return next
}

func mayTx(t api.Tx) bool {
	if len(t.In) > 3 || len(t.Out) < 1 || len(t.Out) > 3 {
		return false
	}
	for i, in := range t.In {
		if in.I < 0 || in.I > 2 || slices.Index(t.In, in) != i {
			return false
		}
	}
	for _, out := range t.Out {
		if out.V < 1 || out.V > 1099511627776 || out.To < 0 || out.To > 255 {
			return false
		}
	}
	return true
}

func wantTxId(t api.Tx) api.Id {
	if !mayTx(t) {
		return api.Id{}
	}
	b := []byte{byte(len(t.In))}
	for _, in := range t.In {
		b = append(append(b, in.Tx[:]...), byte(in.I))
	}
	b = append(b, byte(len(t.Out)))
	for _, out := range t.Out {
		b = append(append(b, binary.BigEndian.AppendUint64(nil, uint64(out.V))[2:]...), byte(out.To))
	}
	return sum(6, b)
}

func wantTxsRoot(l []api.Tx) api.Id {
	var ids []api.Id
	for _, t := range l {
		ids = append(ids, wantTxId(t))
	}
	return wantTree(ids)
}

func wantJoin(a, b api.Total) api.Total {
	var text []byte
	work := new(big.Int)
	for _, t := range []api.Total{a, b} {
		text = append(append(text, t.H[:]...), workBytes(t.W)...)
		text = binary.BigEndian.AppendUint32(text, uint32(t.N))
		work.Add(work, new(big.Int).SetBytes(workBytes(t.W)))
	}
	return api.Total{H: sum(3, text), W: workOf(work), N: a.N + b.N}
}

func wantPast(p []api.Total) api.Total {
	if len(p) == 0 {
		return api.Total{H: sum(4)}
	}
	all := p[len(p)-1]
	for i := len(p) - 2; i >= 0; i-- {
		all = wantJoin(p[i], all)
	}
	return all
}

func wantPeaks(p []api.Total, h api.Head) []api.Total {
	if len(p) == 0 {
		return []api.Total{{H: wantId(h), W: wantWork(h), N: 1}}
	}
	ahead, top := slices.Clone(p), api.Total{H: wantId(h), W: wantWork(h), N: 1}
	for len(ahead) > 0 && ahead[len(ahead)-1].N == top.N {
		top = wantJoin(ahead[len(ahead)-1], top)
		ahead = ahead[:len(ahead)-1]
	}
	return append(ahead, top)
}

func wantBehind(t api.Tip, l []api.Tx, nonce uint64) api.Block {
	h, past := t.B.H, wantPast(t.P)
	links := wantLinks(t.B.L, wantId(h), wantLevel(h))
	return api.Block{
		H: api.Head{
			Height: h.Height + 1, Prev: wantId(h), Links: wantLinksRoot(links), Txs: wantTxsRoot(l), Past: past.H, Work: past.W,
			Bits: h.Bits, Nonce: nonce,
		},
		L: links,
		T: l,
	}
}

func wantPush(t api.Tip, b api.Block) (api.Tip, api.Errno) {
	must := wantBehind(t, b.T, b.H.Nonce)
	switch {
	case b.H.Height >= 48:
		return t, api.ErrSize
	case b.H.Height != must.H.Height || b.H.Prev != must.H.Prev || b.H.Bits != must.H.Bits:
		return t, api.ErrPrev
	case !slices.Equal(b.L, must.L) || b.H.Links != must.H.Links:
		return t, api.ErrLink
	case b.H.Txs != must.H.Txs || b.H.Past != must.H.Past || b.H.Work != must.H.Work:
		return t, api.ErrRoot
	case wantLevel(b.H) < 0:
		return t, api.ErrWork
	}
	coins, err := purse.Apply(t.C, b.T)
	if err != api.OK {
		return t, err
	}
	return api.Tip{B: b, P: wantPeaks(t.P, b.H), C: coins}, api.OK
}

func wantMine(t api.Tip, l []api.Tx, nonce uint64, tries int) (api.Block, api.Errno) {
	b := wantBehind(t, l, nonce)
	if b.H.Height >= 48 {
		return api.Block{}, api.ErrSize
	}
	if _, err := purse.Apply(t.C, l); err != api.OK {
		return api.Block{}, err
	}
	for left := min(tries, 200); left > 0; left-- {
		if wantLevel(b.H) >= 0 {
			return b, api.OK
		}
		b.H.Nonce++
	}
	return api.Block{}, api.ErrWork
}

func sameTx(a, b api.Tx) bool {
	return slices.Equal(a.In, b.In) && slices.Equal(a.Out, b.Out)
}

func sameBlock(a, b api.Block) bool {
	return a.H == b.H && slices.Equal(a.L, b.L) && slices.EqualFunc(a.T, b.T, sameTx)
}

func sameTip(a, b api.Tip) bool {
	return sameBlock(a.B, b.B) && slices.Equal(a.P, b.P) && slices.Equal(a.C, b.C)
}

// Tips, blocks and transactions to ask of

// made is a transaction without Ins.
func made(v ...int) api.Tx {
	var t api.Tx
	for i, n := range v {
		t.Out = append(t.Out, api.Out{V: n, To: i})
	}
	return t
}

// paid is a transaction that spends these coins.
func paid(p []api.Coin, v ...int) api.Tx {
	t := made(v...)
	for _, c := range p {
		t.In = append(t.In, c.In)
	}
	return t
}

// someCoins are n that may be, if there are not too many, each worth 10.
func someCoins(n int) []api.Coin {
	var p []api.Coin
	for i := range n {
		p = append(p, api.Coin{In: api.In{Tx: api.Id{1, byte(i)}, I: i % 3}, Out: api.Out{V: 10, To: i % 256}})
	}
	return p
}

func someIds(n int) []api.Id {
	var l []api.Id
	for i := range n {
		l = append(l, sum(99, []byte{byte(i), byte(i >> 8)}))
	}
	return l
}

// someHead is a head of which each part is another one for another seed.
func someHead(seed int) api.Head {
	r := rand.New(rand.NewSource(int64(seed)))
	h := api.Head{Height: r.Intn(46), Bits: easy, Nonce: r.Uint64()}
	for _, id := range []*api.Id{&h.Prev, &h.Links, &h.Txs, &h.Past} {
		r.Read(id[:])
	}
	for i := range h.Work {
		h.Work[i] = r.Uint64()
	}
	return h
}

// findNonce is a head with the next nonce by which it may be, or may not be.
func findNonce(h api.Head, may bool) api.Head {
	for range 1 << 14 {
		if wantLevel(h) >= 0 == may {
			return h
		}
		h.Nonce++
	}
	panic("no such nonce")
}

// dug is the block behind a tip that may be, by the words alone.
func dug(t api.Tip, l []api.Tx, nonce uint64) api.Block {
	b := wantBehind(t, l, nonce)
	b.H = findNonce(b.H, true)
	return b
}

// someTxs are what the n-th block of a chain has, all of which may be behind these coins.
func someTxs(n int, p []api.Coin) []api.Tx {
	first := made(10, 20)
	first.Out[1].To = n
	switch {
	case n%4 == 1 || len(p) == 0:
		return []api.Tx{first}
	case n%4 == 2:
		return []api.Tx{first, paid(p[:1], 1)}
	case n%4 == 3:
		return []api.Tx{paid(p[:min(len(p), 2)], 1)}
	}
	return nil
}

// someTips are the tips of a chain, from its first block on.
func someTips(n int, bits uint32) []api.Tip {
	h := api.Head{Links: sum(2), Txs: sum(2), Past: sum(4), Bits: bits}
	l := []api.Tip{{B: api.Block{H: h}, P: wantPeaks(nil, h)}}
	for i := 1; i < n; i++ {
		t := l[i-1]
		next, err := wantPush(t, dug(t, someTxs(i, t.C), uint64(1000*i)))
		if err != api.OK {
			panic("block " + strconv.Itoa(i) + ": error " + strconv.Itoa(int(err)))
		}
		l = append(l, next)
	}
	return l
}

// someTip is of any parts: they may not be a chain's at all.
func someTip(r *rand.Rand) api.Tip {
	t := api.Tip{B: api.Block{H: someHead(r.Intn(1000)), L: someIds(r.Intn(5)), T: someTxs(r.Intn(4), someCoins(3))}}
	if r.Intn(3) == 0 {
		t.B.H.Bits = goodBits[r.Intn(len(goodBits))]
	}
	if r.Intn(4) == 0 {
		t.B.L = someIds(r.Intn(40))
	}
	if r.Intn(8) == 0 {
		t.B.H.Height = someHeights[r.Intn(len(someHeights))]
	}
	for range r.Intn(6) {
		h := someHead(r.Intn(1000))
		t.P = append(t.P, api.Total{H: h.Prev, W: h.Work, N: r.Intn(4) - 1})
	}
	t.C = someCoins(r.Intn(50))
	return t
}

// atHeight is a tip as it would be at another height.
func atHeight(t api.Tip, height int) api.Tip {
	t.B.H.Height = height
	return t
}

func withBits(t api.Tip, bits uint32) api.Tip {
	t.B.H.Bits = bits
	return t
}

func withCoins(t api.Tip, p []api.Coin) api.Tip {
	t.C = p
	return t
}

// oddTxs are lists of transactions that may not be a block's, by coins of someCoins(47), with the error of each.
func oddTxs() []struct {
	err api.Errno
	l   []api.Tx
} {
	p := someCoins(47)
	fine := paid(p[:1], 10)
	many := []api.Tx{made(1), fine, paid(p[1:2], 1), paid(p[2:3], 1), paid(p[3:4], 1)}
	return []struct {
		err api.Errno
		l   []api.Tx
	}{
		{api.ErrArg, []api.Tx{{}}},
		{api.ErrArg, []api.Tx{made(0)}},
		{api.ErrArg, []api.Tx{made(1), made(1)}},
		{api.ErrArg, []api.Tx{made(1, 1, 1, 1), fine}},
		{api.ErrArg, []api.Tx{fine, paid(p[1:5], 1)}},
		{api.ErrSize, many},
		{api.ErrSize, append(many[:4:4], slices.Repeat([]api.Tx{fine}, 96)...)},
		{api.ErrSpend, []api.Tx{made(51)}},
		{api.ErrSpend, []api.Tx{made(1), paid(p[:1], 11)}},
		{api.ErrSpend, []api.Tx{fine, fine}},
		{api.ErrSpend, []api.Tx{paid([]api.Coin{{In: api.In{Tx: api.Id{9}}}}, 1)}},
		{api.ErrFull, []api.Tx{made(1, 1)}},
		{api.ErrFull, []api.Tx{paid(p[:1], 1, 1, 1)}},
	}
}

func clone(t api.Tip) api.Tip {
	t.B = cloneBlock(t.B)
	t.P, t.C = append([]api.Total(nil), t.P...), append([]api.Coin(nil), t.C...)
	return t
}

func cloneBlock(b api.Block) api.Block {
	b.L = append([]api.Id(nil), b.L...)
	var l []api.Tx
	for _, t := range b.T {
		l = append(l, api.Tx{In: append([]api.In(nil), t.In...), Out: append([]api.Out(nil), t.Out...)})
	}
	b.T = l
	return b
}

// R3: each list that is handed in has more behind, which no call may touch.

func roomy[T any](l []T, behind T) []T {
	return append(append(make([]T, 0, len(l)+2), l...), behind, behind)[:len(l)]
}

func roomyTxs(l []api.Tx) []api.Tx {
	var txs []api.Tx
	for _, t := range l {
		txs = append(txs, api.Tx{In: roomy(t.In, api.In{I: 77}), Out: roomy(t.Out, api.Out{V: 77})})
	}
	return roomy(txs, made(77, 78))
}

func roomyTip(t api.Tip) api.Tip {
	t.B = roomyBlock(t.B)
	t.P, t.C = roomy(t.P, api.Total{N: 77}), roomy(t.C, api.Coin{In: api.In{I: 77}})
	return t
}

func roomyBlock(b api.Block) api.Block {
	b.L, b.T = roomy(b.L, api.Id{77}), roomyTxs(b.T)
	return b
}

// whole is a list with what stands behind it.
func whole[T any](l []T) []T {
	return l[:cap(l)]
}

func wholeTip(t api.Tip) api.Tip {
	t.B = wholeBlock(t.B)
	t.P, t.C = whole(t.P), whole(t.C)
	return t
}

func wholeBlock(b api.Block) api.Block {
	var l []api.Tx
	for _, t := range whole(b.T) {
		l = append(l, api.Tx{In: whole(t.In), Out: whole(t.Out)})
	}
	b.L, b.T = whole(b.L), l
	return b
}

func spoil(t api.Tip) {
	spoilBlock(t.B)
	for i := range whole(t.P) {
		whole(t.P)[i] = api.Total{N: 99}
	}
	for i := range whole(t.C) {
		whole(t.C)[i] = api.Coin{In: api.In{I: 99}}
	}
}

func spoilBlock(b api.Block) {
	for i := range whole(b.L) {
		whole(b.L)[i] = api.Id{99}
	}
	for k, t := range whole(b.T) {
		for i := range whole(t.In) {
			whole(t.In)[i] = api.In{I: 99}
		}
		for i := range whole(t.Out) {
			whole(t.Out)[i] = api.Out{V: 99}
		}
		whole(b.T)[k] = made(99)
	}
}

func tell(b api.Block) string {
	return fmt.Sprintf("height %d, bits %x, nonce %d, %d links, %d transactions", b.H.Height, b.H.Bits, b.H.Nonce, len(b.L), len(b.T))
}

// asked is what a call answers of a tip and a block, held against R3; what is no tip is told as one.
func asked(t *testing.T, tip api.Tip, b api.Block, call func(api.Tip, api.Block) api.Tip) api.Tip {
	t.Helper()
	inTip, inBlock := roomyTip(tip), roomyBlock(b)
	first, second := call(inTip, inBlock), call(inTip, inBlock)
	kept := clone(first)
	if !sameTip(second, kept) {
		t.Errorf("%s: asked again, another answer", tell(b))
	}
	spoil(second)
	if !sameTip(wholeTip(inTip), wholeTip(roomyTip(tip))) || !sameBlock(wholeBlock(inBlock), wholeBlock(roomyBlock(b))) {
		t.Errorf("%s: what was handed in is not as it was", tell(b))
	}
	spoil(inTip)
	spoilBlock(inBlock)
	if !sameTip(first, kept) {
		t.Errorf("%s: what was answered changed with what was handed in, or with another answer", tell(b))
	}
	return first
}

// next is what Next answers, held against the chapter's words.
func next(t *testing.T, tip api.Tip, l []api.Tx, nonce uint64) api.Head {
	t.Helper()
	h := asked(t, tip, api.Block{T: l}, func(tip api.Tip, b api.Block) api.Tip {
		return api.Tip{B: api.Block{H: Next(tip, b.T, nonce)}}
	}).B.H
	if want := wantBehind(tip, l, nonce).H; h != want {
		t.Errorf("behind %s: %+v, not %+v", tell(tip.B), h, want)
	}
	return h
}

// pushed is what Push answers, held against the chapter's words.
func pushed(t *testing.T, tip api.Tip, b api.Block) (api.Tip, api.Errno) {
	t.Helper()
	var err api.Errno
	got := asked(t, tip, b, func(tip api.Tip, b api.Block) api.Tip {
		var got api.Tip
		got, err = Push(tip, b)
		return got
	})
	want, wantErr := wantPush(tip, b)
	if err != wantErr || !sameTip(got, want) {
		t.Errorf("%s behind %s: %d, not %d, and %s", tell(b), tell(tip.B), err, wantErr, tell(got.B))
	}
	if err == api.OK {
		again, err := Mine(tip, b.T, b.H.Nonce, 1)
		if err != api.OK || !sameBlock(again, b) {
			t.Errorf("%s was pushed, but is not mined: %d", tell(b), err)
		}
	}
	return got, err
}

// mined is what Mine answers, held against the chapter's words.
func mined(t *testing.T, tip api.Tip, l []api.Tx, nonce uint64, tries int) (api.Block, api.Errno) {
	t.Helper()
	var err api.Errno
	got := asked(t, tip, api.Block{T: l}, func(tip api.Tip, b api.Block) api.Tip {
		var got api.Block
		got, err = Mine(tip, b.T, nonce, tries)
		return api.Tip{B: got}
	}).B
	want, wantErr := wantMine(tip, l, nonce, tries)
	if err != wantErr || !sameBlock(got, want) {
		t.Errorf("behind %s, from %d on, %d tries: %d, not %d, and %s", tell(tip.B), nonce, tries, err, wantErr, tell(got))
	}
	if err == api.OK {
		if _, err := Push(tip, got); err != api.OK {
			t.Errorf("%s was mined, but is not pushed: %d", tell(got), err)
		}
	}
	return got, err
}

func pushIs(t *testing.T, name string, tip api.Tip, b api.Block, want api.Errno) {
	t.Helper()
	if _, err := pushed(t, tip, b); err != want {
		t.Errorf("%s: %s: %d, not %d", name, tell(b), err, want)
	}
}

func mineIs(t *testing.T, tip api.Tip, l []api.Tx, tries int, want api.Errno) {
	t.Helper()
	if _, err := mined(t, tip, l, 0, tries); err != want {
		t.Errorf("behind %s, %d transactions, %d tries: %d, not %d", tell(tip.B), len(l), tries, err, want)
	}
}

func unhex(t *testing.T, text string) api.Id {
	t.Helper()
	b, err := hex.DecodeString(text)
	if err != nil || len(b) != 32 {
		t.Fatal(text, err)
	}
	return api.Id(b)
}

// The chapter's example, and others written out by hand

func TestExample(t *testing.T) {
	first, is := First(api.Easy)
	if !is {
		t.Fatal("no first one")
	}
	h := Next(first, nil, 0)
	b, err := Mine(first, nil, 0, 200)
	if h.Height != 1 || h.Work != (api.Wide{2}) || err != api.OK || b.H.Height != 1 || b.H.Work != (api.Wide{2}) {
		t.Error(h, b, err)
	}
	if len(b.L) != 1 || b.L[0] != wantId(first.B.H) {
		t.Errorf("links: %x", b.L)
	}
}

func TestKnownChain(t *testing.T) {
	noLeaf := unhex(t, "dbc1b4c900ffe48d575b5da5c638040125f65db0fe3e24494b76ea986457d986")
	g := unhex(t, "cc75649cd9230bad235dc7959f44e32d942714ae551b7adfbb840221adc710c3")
	one := unhex(t, "1c1a9c9af2a17905cc1f1f1154dd4168e7c36daef0eb69ff27a4c48b7db066f5")
	two := unhex(t, "46bdf359d9dffacd55e0eb0872ad100379a59541b1bbb46a298222a2a2e674dc")
	both := unhex(t, "1d8bbddf78b72777937deace3d1218abb350d52579488eb981ccf5770ffaad65")
	four := unhex(t, "eaa105782d62025eba446c23ec1b771c1544abc985055b9fd260393649dc5334")
	a := unhex(t, "e72ec01fa35ec13b72bee95ca8ec2f28d04dbc6668c715a0f2dc3dffe08f5618")
	spends := unhex(t, "2da11ccc5b4b0e98d414acd6ad542740e2c3e45d1bea2bd2f6138e43860b98f3")
	rich := unhex(t, "379a55455c9159ddd0e2d1cc7eefb1e2b539a2babbad44c86329638dc081a7cd")

	known := []struct {
		txs    []api.Tx
		from   uint64
		h      api.Head
		links  []api.Id
		peaks  []api.Total
		coins  []api.Coin
		behind api.Id // its own Id
	}{
		{
			txs:  []api.Tx{{Out: []api.Out{{V: 50, To: 7}}}},
			from: 100,
			h: api.Head{
				Height: 1, Prev: g, Links: unhex(t, "bf7acafb27afd503dc52f0c0d9016300f23cd19c987fb05e2e94430b6d10702f"), Txs: a, Past: g,
				Work: api.Wide{2}, Bits: 545259519, Nonce: 101,
			},
			links: []api.Id{g},
			peaks: []api.Total{{H: both, W: api.Wide{4}, N: 2}},
			coins: []api.Coin{{In: api.In{Tx: a}, Out: api.Out{V: 50, To: 7}}},
		},
		{
			txs:  []api.Tx{{Out: []api.Out{{V: 51, To: 7}}}, {In: []api.In{{Tx: a}}, Out: []api.Out{{V: 30, To: 8}, {V: 19, To: 255}}}},
			from: 0,
			h: api.Head{
				Height: 2, Prev: one, Links: unhex(t, "6fe46628fe3b0bc647daeb2c34bdfdbec2c6e8b93ba6a91e1811b19416639174"),
				Txs: unhex(t, "8907509b3e4a9734435490b56ec365ece17e1fa42ae268cf1165f9fe75d71649"), Past: both,
				Work: api.Wide{4}, Bits: 545259519, Nonce: 5,
			},
			links: []api.Id{g, one, one},
			peaks: []api.Total{{H: both, W: api.Wide{4}, N: 2}, {H: two, W: api.Wide{2}, N: 1}},
			coins: []api.Coin{
				{In: api.In{Tx: spends}, Out: api.Out{V: 30, To: 8}}, {In: api.In{Tx: spends, I: 1}, Out: api.Out{V: 19, To: 255}},
				{In: api.In{Tx: rich}, Out: api.Out{V: 51, To: 7}},
			},
		},
		{
			from: last,
			h: api.Head{
				Height: 3, Prev: two, Links: unhex(t, "6fe46628fe3b0bc647daeb2c34bdfdbec2c6e8b93ba6a91e1811b19416639174"), Txs: noLeaf,
				Past: unhex(t, "d4b137ca235b8151307dff4dd90059dc550e1bc85a4265847d4b019998446906"),
				Work: api.Wide{6}, Bits: 545259519, Nonce: last,
			},
			links: []api.Id{g, one, one},
			peaks: []api.Total{{H: four, W: api.Wide{8}, N: 4}},
			coins: []api.Coin{
				{In: api.In{Tx: spends}, Out: api.Out{V: 30, To: 8}}, {In: api.In{Tx: spends, I: 1}, Out: api.Out{V: 19, To: 255}},
				{In: api.In{Tx: rich}, Out: api.Out{V: 51, To: 7}},
			},
		},
	}
	tip, is := First(545259519)
	start := api.Head{
		Links: noLeaf, Txs: noLeaf, Past: unhex(t, "e52d9c508c502347344d8c07ad91cbd6068afc75ff6292f062a09ca381c89e71"), Bits: 545259519,
	}
	if !is || !sameTip(tip, api.Tip{B: api.Block{H: start}, P: []api.Total{{H: g, W: api.Wide{2}, N: 1}}}) {
		t.Fatal(tip, is)
	}
	for i, k := range known {
		if h := Next(tip, k.txs, k.h.Nonce); h != k.h {
			t.Errorf("%d: %+v", i, h)
		}
		b, err := Mine(tip, k.txs, k.from, 200)
		if err != api.OK || !sameBlock(b, api.Block{H: k.h, L: k.links, T: k.txs}) {
			t.Fatalf("%d: %+v, %d", i, b, err)
		}
		tip, err = Push(tip, b)
		if err != api.OK || !sameTip(tip, api.Tip{B: api.Block{H: k.h, L: k.links, T: k.txs}, P: k.peaks, C: k.coins}) {
			t.Fatalf("%d: %+v, %d", i, tip, err)
		}
	}
}

// P11.1

func firstIs(t *testing.T, bits uint32) bool {
	t.Helper()
	tip, is := First(bits)
	if want := wantTarget(bits) != nil; is != want {
		t.Fatalf("%x: %v", bits, is)
	}
	if !is {
		if !sameTip(tip, api.Tip{}) {
			t.Errorf("%x: %+v of none", bits, tip)
		}
		return false
	}
	h := tip.B.H
	if h.Height != 0 || h.Prev != (api.Id{}) || h.Work != (api.Wide{}) || h.Bits != bits || h.Nonce != 0 {
		t.Errorf("%x: %+v", bits, h)
	}
	if h.Links != sum(2) || h.Txs != sum(2) || h.Past != sum(4) {
		t.Errorf("%x: roots %x, %x, %x", bits, h.Links, h.Txs, h.Past)
	}
	if len(tip.B.L)+len(tip.B.T)+len(tip.C) != 0 {
		t.Errorf("%x: %d links, %d transactions, %d coins", bits, len(tip.B.L), len(tip.B.T), len(tip.C))
	}
	if !slices.Equal(tip.P, []api.Total{{H: wantId(h), W: wantWork(h), N: 1}}) {
		t.Errorf("%x: peaks %+v", bits, tip.P)
	}
	return true
}

func TestFirstOfCompactNumbers(t *testing.T) {
	for _, bits := range goodBits {
		if !firstIs(t, bits) {
			t.Errorf("%x: none", bits)
		}
	}
	for e := uint32(3); e <= 32; e++ {
		for _, m := range []uint32{0x8000, 0x8001, 0xffff, 0x123456, 0x7ffffe, 0x7fffff} {
			if !firstIs(t, e<<24|m) {
				t.Errorf("%x: none", e<<24|m)
			}
		}
	}
}

func TestFirstOfOtherNumbers(t *testing.T) {
	for _, bits := range badBits {
		if firstIs(t, bits) {
			t.Errorf("%x: there is one", bits)
		}
	}
	for e := range uint32(256) {
		for _, m := range []uint32{0, 1, 0x7fff, 0x800000, 0x800001, 0xffffff} {
			if firstIs(t, e<<24|m) {
				t.Errorf("%x: there is one", e<<24|m)
			}
		}
	}
}

func TestFirstOfAnyNumber(t *testing.T) {
	r := rand.New(rand.NewSource(1))
	is := 0
	for range 5000 {
		if firstIs(t, r.Uint32()>>(r.Intn(3)*2)) {
			is++
		}
	}
	if is < 100 || is > 4900 {
		t.Errorf("%d of them", is)
	}
}

func TestFirstIsTheCallersOwn(t *testing.T) {
	tip, _ := First(easy)
	kept := clone(tip)
	other, _ := First(easy)
	spoil(other)
	again, is := First(easy)
	if !sameTip(tip, kept) || !sameTip(again, kept) || !is {
		t.Error("one changed with another one")
	}
}

// turns are how each bit of a head's parts is turned over.
var turns = []struct {
	name string
	bits int
	turn func(h *api.Head, bit int)
}{
	{"Height", 63, func(h *api.Head, bit int) { h.Height ^= 1 << bit }},
	{"Prev", 256, func(h *api.Head, bit int) { h.Prev[bit/8] ^= 1 << (bit % 8) }},
	{"Links", 256, func(h *api.Head, bit int) { h.Links[bit/8] ^= 1 << (bit % 8) }},
	{"Txs", 256, func(h *api.Head, bit int) { h.Txs[bit/8] ^= 1 << (bit % 8) }},
	{"Past", 256, func(h *api.Head, bit int) { h.Past[bit/8] ^= 1 << (bit % 8) }},
	{"Work", 256, func(h *api.Head, bit int) { h.Work[bit/64] ^= 1 << (bit % 64) }},
	{"Bits", 32, func(h *api.Head, bit int) { h.Bits ^= 1 << bit }},
	{"Nonce", 64, func(h *api.Head, bit int) { h.Nonce ^= 1 << bit }},
}

// fullBlock has more than one of each part.
func fullBlock() api.Block {
	return api.Block{H: someHead(3), L: someIds(4), T: []api.Tx{made(1, 2, 3), paid(someCoins(3), 4, 5), paid(someCoins(1), 6)}}
}

func same(t *testing.T, name string, a, b api.Block, want bool) {
	t.Helper()
	for _, pair := range [][2]api.Block{{a, b}, {b, a}} {
		got := asked(t, api.Tip{B: pair[0]}, pair[1], func(tip api.Tip, b api.Block) api.Tip {
			var n uint64
			if Same(tip.B, b) {
				n = 1
			}
			return api.Tip{B: api.Block{H: api.Head{Nonce: n}}}
		}).B.H.Nonce == 1
		if got != want {
			t.Errorf("%s: %v", name, got)
		}
	}
}

func TestSameOfTheSame(t *testing.T) {
	for i, b := range []api.Block{{}, fullBlock(), {H: someHead(1)}, {L: someIds(100)}, {T: fullBlock().T}, {T: []api.Tx{{}, {}}}} {
		same(t, "itself "+strconv.Itoa(i), b, b, true)
		same(t, "a copy "+strconv.Itoa(i), b, cloneBlock(b), true)
		same(t, "another one "+strconv.Itoa(i), b, api.Block{H: someHead(2)}, false)
	}
	for _, tip := range someTips(6, easy) {
		same(t, "a chain's", tip.B, cloneBlock(tip.B), true)
	}
}

func TestSameOfNilAndEmpty(t *testing.T) {
	none := api.Block{T: []api.Tx{{}}}
	for which := range 16 {
		has := func(bit int) bool { return which>>bit&1 == 1 }
		b := api.Block{T: []api.Tx{{}}}
		if has(0) {
			b.L = []api.Id{}
		}
		if has(1) {
			b.T[0].In = []api.In{}
		}
		if has(2) {
			b.T[0].Out = []api.Out{}
		}
		same(t, "empty", none, b, true)
		if has(3) {
			b.T = []api.Tx{}
			same(t, "empty", api.Block{}, b, true)
			same(t, "one and none", none, b, false)
		}
	}
}

func TestSameOfHeadsThatDiffer(t *testing.T) {
	for _, b := range []api.Block{{}, fullBlock()} {
		for _, part := range turns {
			for bit := range part.bits {
				other := cloneBlock(b)
				part.turn(&other.H, bit)
				same(t, part.name+" "+strconv.Itoa(bit), b, other, false)
			}
		}
	}
}

func TestSameOfLinksThatDiffer(t *testing.T) {
	b := fullBlock()
	for i := range b.L {
		for bit := range 256 {
			other := cloneBlock(b)
			other.L[i][bit/8] ^= 1 << (bit % 8)
			same(t, "a bit of a link", b, other, false)
		}
		other := cloneBlock(b)
		other.L = slices.Delete(other.L, i, i+1)
		same(t, "one less", b, other, false)
		other.L = slices.Insert(other.L, (i+1)%4, b.L[i])
		same(t, "another order", b, other, false)
		other.L = slices.Insert(slices.Clone(b.L), i, api.Id{})
		same(t, "one more", b, other, false)
		other.L = b.L[:i]
		same(t, "the first ones alone", b, other, false)
	}
	same(t, "none and a zero one", api.Block{}, api.Block{L: []api.Id{{}}}, false)
	same(t, "zero ones", api.Block{L: make([]api.Id, 2)}, api.Block{L: make([]api.Id, 3)}, false)
}

func TestSameOfTransactionsThatDiffer(t *testing.T) {
	b := fullBlock()
	for i, what := range []func(b *api.Block){
		func(b *api.Block) { b.T = b.T[:2] },
		func(b *api.Block) { b.T = b.T[1:] },
		func(b *api.Block) { b.T = nil },
		func(b *api.Block) { b.T = append(b.T, api.Tx{}) },
		func(b *api.Block) { b.T = append(b.T, b.T[2]) },
		func(b *api.Block) { b.T[0], b.T[1] = b.T[1], b.T[0] },
		func(b *api.Block) { b.T[1], b.T[2] = b.T[2], b.T[1] },
		func(b *api.Block) { b.T[2] = api.Tx{} },
		func(b *api.Block) { b.T[0].Out[0].V++ },
		func(b *api.Block) { b.T[1].Out[1].V-- },
		func(b *api.Block) { b.T[2].Out[0].To++ },
		func(b *api.Block) { b.T[0].Out = b.T[0].Out[:2] },
		func(b *api.Block) { b.T[0].Out = append(b.T[0].Out, api.Out{}) },
		func(b *api.Block) { b.T[1].In[0].I++ },
		func(b *api.Block) { b.T[1].In[2].I -= 3 },
		func(b *api.Block) { b.T[2].In[0].Tx[31]++ },
		func(b *api.Block) { b.T[1].In[0], b.T[1].In[1] = b.T[1].In[1], b.T[1].In[0] },
		func(b *api.Block) { b.T[1].Out[0], b.T[1].Out[1] = b.T[1].Out[1], b.T[1].Out[0] },
		func(b *api.Block) { b.T[1].In = nil },
		func(b *api.Block) { b.T[0].In = b.T[1].In },
		func(b *api.Block) { b.T[0].Out, b.T[1].Out = b.T[1].Out, b.T[0].Out },
	} {
		other := cloneBlock(b)
		what(&other)
		same(t, "transactions "+strconv.Itoa(i), b, other, false)
	}
}

// P11.2

func TestNextOfAChain(t *testing.T) {
	tips := someTips(20, easy)
	for n, tip := range tips {
		for _, l := range [][]api.Tx{nil, {}, {made(1)}, someTxs(2, someCoins(4)), someTxs(3, someCoins(4))} {
			h := next(t, tip, l, uint64(n))
			if h.Height != n+1 || h.Prev != wantId(tip.B.H) || h.Work != (api.Wide{uint64(2*n + 2)}) || h.Bits != easy || h.Nonce != uint64(n) {
				t.Errorf("%d: %+v", n, h)
			}
		}
	}
}

func TestNextOfEachHeightAndBits(t *testing.T) {
	tip := someTips(4, easy)[3]
	for _, tip.B.H.Height = range someHeights {
		for _, tip.B.H.Bits = range slices.Concat(goodBits, badBits) {
			h := next(t, tip, someTxs(201, nil), 9)
			if h.Height != tip.B.H.Height+1 || h.Bits != tip.B.H.Bits {
				t.Errorf("%s: %d, %x", tell(tip.B), h.Height, h.Bits)
			}
		}
	}
}

// Behind a block of each level up to the greatest one that is found soon, and of Height 0, which has the greatest one of all.
func TestNextOfEachLevelAndLinks(t *testing.T) {
	tip := someTips(6, easy)[5]
	found := map[int]int{}
	for nonce := range uint64(1500) {
		tip.B.H.Nonce = nonce
		level := wantLevel(tip.B.H)
		found[level]++
		if found[level] > 3 {
			continue
		}
		for _, n := range []int{0, 1, 2, 3, 4, 5, 6, 7, 8, 9, 31, 32, 33, 34, 64, 65, 100} {
			tip.B.L = someIds(n)
			next(t, tip, nil, nonce)
		}
	}
	for level := -1; level <= 7; level++ {
		if found[level] == 0 {
			t.Errorf("none of level %d", level)
		}
	}
	tip = atHeight(tip, 0)
	for n := range 66 {
		tip.B.L = someIds(n)
		h := next(t, tip, nil, 0)
		switch {
		case n == 0 && h.Links != wantLinksRoot([]api.Id{h.Prev}):
			t.Error("not its Id alone")
		case n > 0 && n <= 32 && h.Links != wantLinksRoot(append([]api.Id{tip.B.L[0]}, slices.Repeat([]api.Id{h.Prev}, 31)...)):
			t.Errorf("of %d links, and the greatest level", n)
		case n > 32 && h.Links != sum(2):
			t.Errorf("%d links are not too many", n)
		}
	}
}

func TestNextOfPeaks(t *testing.T) {
	tip := someTips(3, easy)[2]
	r := rand.New(rand.NewSource(2))
	for n := range 70 {
		tip.P = nil
		for i := range n {
			h := someHead(r.Intn(1000))
			tip.P = append(tip.P, api.Total{H: h.Prev, W: h.Work, N: []int{1, 1 << (n - i), -3, r.Int(), math.MinInt}[r.Intn(5)]})
		}
		h := next(t, tip, nil, 0)
		if n == 0 && (h.Past != sum(4) || h.Work != (api.Wide{})) || n == 1 && (h.Past != tip.P[0].H || h.Work != tip.P[0].W) {
			t.Errorf("%d peaks: %x, %d", n, h.Past, h.Work)
		}
	}
}

func TestNextOfAnyTransactions(t *testing.T) {
	tip := withCoins(someTips(5, easy)[4], someCoins(47))
	for _, odd := range oddTxs() {
		next(t, tip, odd.l, 0)
	}
	for n := range 70 {
		var l []api.Tx
		for i := range n {
			l = append(l, made(i, i+1))
		}
		next(t, tip, l, 0)
		l = append(l, l...)
		next(t, tip, l, 0)
	}
	// Those that may not be have a zero Id, whatever they are.
	if next(t, tip, []api.Tx{{}, made(0)}, 0) != next(t, tip, []api.Tx{made(1<<40 + 1), made(1, 1, 1, 1)}, 0) {
		t.Error("those that may not be are told from one another")
	}
}

// Of the tip's own transactions and coins nothing is told.
func TestNextOfTheSameHeadLinksAndPeaks(t *testing.T) {
	tip := someTips(7, easy)[6]
	other := clone(tip)
	other.B.T, other.C = []api.Tx{made(7), {}}, nil
	for _, l := range [][]api.Tx{nil, {made(1)}} {
		if next(t, tip, l, 5) != next(t, other, l, 5) {
			t.Errorf("%d transactions: another one", len(l))
		}
	}
	if len(tip.C) == 0 || next(t, tip, nil, 5) == next(t, tip, []api.Tx{made(1)}, 5) {
		t.Error("nothing is told of those behind")
	}
}

func TestNextOfAnyNonce(t *testing.T) {
	tip := someTips(3, easy)[2]
	h := next(t, tip, nil, 0)
	for _, h.Nonce = range edgeNonces {
		if next(t, tip, nil, h.Nonce) != h {
			t.Errorf("nonce %d", h.Nonce)
		}
	}
}

func TestNextOfAnyTip(t *testing.T) {
	r := rand.New(rand.NewSource(3))
	next(t, api.Tip{}, nil, 0)
	for range 3000 {
		tip := someTip(r)
		next(t, tip, someTxs(r.Intn(4), tip.C), r.Uint64())
	}
}

// P11.3

func TestPushOntoAChain(t *testing.T) {
	for _, tip := range someTips(47, easy) {
		for _, l := range [][]api.Tx{nil, {}, {made(1)}, {made(50)}} {
			b := dug(tip, l, 77)
			got, err := pushed(t, tip, b)
			if err != api.OK || !sameBlock(got.B, b) || len(got.C) != len(tip.C)+len(l) || wantPast(got.P).N != b.H.Height+1 {
				t.Errorf("%s: %s, %d", tell(b), tell(got.B), err)
			}
		}
	}
}

func TestPushOfEachHeadThatDiffers(t *testing.T) {
	for _, n := range []int{0, 1, 5, 12} {
		tip := someTips(n+1, easy)[n]
		good := dug(tip, someTxs(202, tip.C), 0)
		pushIs(t, "as it must be", tip, good, api.OK)
		want := map[string]api.Errno{
			"Height": api.ErrPrev, "Prev": api.ErrPrev, "Bits": api.ErrPrev, "Links": api.ErrLink,
			"Txs": api.ErrRoot, "Past": api.ErrRoot, "Work": api.ErrRoot,
		}
		for _, part := range turns {
			for bit := range part.bits {
				b := cloneBlock(good)
				part.turn(&b.H, bit)
				err := want[part.name]
				switch {
				case b.H.Height > 47:
					err = api.ErrSize
				case part.name == "Nonce" && wantLevel(b.H) < 0:
					err = api.ErrWork
				}
				pushIs(t, part.name+" "+strconv.Itoa(bit), tip, b, err)
			}
		}
	}
}

func TestPushOfAnotherHeight(t *testing.T) {
	tip := someTips(6, easy)[5]
	good := dug(tip, nil, 0)
	for _, height := range slices.Concat(someHeights, []int{3, 4, 5, 6, 7, 8}) {
		b := cloneBlock(good)
		b.H.Height = height
		want := api.ErrPrev
		switch {
		case height == 6:
			want = api.OK
		case height >= 48:
			want = api.ErrSize
		}
		pushIs(t, "another height", tip, b, want)
	}
}

// What may not be of a tip's height and bits is told by the block behind it.
func TestPushOntoEachHeight(t *testing.T) {
	for _, height := range someHeights {
		tip := atHeight(someTips(6, easy)[5], height)
		b := wantBehind(tip, someTxs(201, nil), 0)
		want := api.OK
		switch {
		case b.H.Height >= 48:
			want = api.ErrSize
		case b.H.Height < 0:
			want = api.ErrWork
		default:
			b.H = findNonce(b.H, true)
		}
		pushIs(t, "onto "+strconv.Itoa(height), tip, b, want)
		b.H.Height = 48
		pushIs(t, "onto "+strconv.Itoa(height), tip, b, api.ErrSize)
		b.H.Height = 47
		if height == 46 {
			pushIs(t, "onto 46", tip, b, api.OK)
		} else {
			pushIs(t, "onto "+strconv.Itoa(height), tip, b, api.ErrPrev)
		}
	}
	// Behind the greatest number of all comes the least one, which is not above 47, but may not be.
	most := atHeight(someTips(2, easy)[1], math.MaxInt)
	if h := Next(most, nil, 0); h.Height != math.MinInt {
		t.Error(h.Height)
	}
	pushIs(t, "onto the greatest number", most, wantBehind(most, nil, 0), api.ErrWork)
}

func TestPushOntoEachBits(t *testing.T) {
	tip := someTips(4, easy)[3]
	for _, tip.B.H.Bits = range badBits {
		for nonce := range uint64(4) {
			pushIs(t, "no compact number", tip, wantBehind(tip, nil, nonce), api.ErrWork)
		}
	}
	for _, tip.B.H.Bits = range []uint32{0x207fffff, 0x207ffffe, 0x20400000, 0x20028f5c, 0x2000ffff} {
		b := dug(tip, nil, 0)
		got, err := pushed(t, tip, b)
		leaf := api.Total{H: wantId(b.H), W: wantWork(b.H), N: 1}
		if err != api.OK || !slices.Equal(got.P, append(slices.Clone(tip.P), leaf)) {
			t.Errorf("%x: %d", tip.B.H.Bits, err)
		}
		b.H = findNonce(b.H, false)
		pushIs(t, "above its target", tip, b, api.ErrWork)
	}
}

// oddLinks are others, each by one thing alone.
func oddLinks(l []api.Id) [][]api.Id {
	turned := slices.Clone(l)
	slices.Reverse(turned)
	odd := [][]api.Id{nil, {{}}, append(slices.Clone(l), api.Id{}), append([]api.Id{{}}, l...), append(slices.Clone(l), l...), someIds(len(l)), someIds(33)}
	if !slices.Equal(turned, l) {
		odd = append(odd, turned)
	}
	for i, id := range l {
		other := slices.Clone(l)
		other[i][i%32] ^= 1
		odd = append(odd, other, slices.Delete(slices.Clone(l), i, i+1), slices.Insert(slices.Clone(l), i, id))
		if i > 0 && l[i] != l[i-1] {
			swapped := slices.Clone(l)
			swapped[i], swapped[i-1] = l[i-1], l[i]
			odd = append(odd, swapped)
		}
	}
	return odd
}

func TestPushOfOtherLinks(t *testing.T) {
	tips := someTips(10, easy)
	tips = append(tips, atHeight(tips[9], 0))
	for n, tip := range tips {
		good := dug(tip, nil, 0)
		for _, l := range oddLinks(good.L) {
			b := cloneBlock(good)
			b.L = l
			pushIs(t, "other links", tip, b, api.ErrLink)
			// Even if the head tells them.
			b.H.Links = wantLinksRoot(l)
			b.H = findNonce(b.H, true)
			pushIs(t, "other links that are told", tip, b, api.ErrLink)
			b.L = good.L
			pushIs(t, "the root of other links "+strconv.Itoa(n), tip, b, api.ErrLink)
		}
	}
}

// Behind a block of too many links, which no chain has, there are none at all.
func TestPushOntoTooManyLinks(t *testing.T) {
	tip := someTips(4, easy)[3]
	for _, n := range []int{31, 32, 33, 34, 100} {
		tip.B.L = someIds(n)
		b := dug(tip, nil, 0)
		if n > 32 && len(b.L) != 0 || n <= 32 && len(b.L) != n {
			t.Fatalf("%d links behind %d", len(b.L), n)
		}
		pushIs(t, "behind many links", tip, b, api.OK)
		if n > 32 {
			b.L = []api.Id{}
			pushIs(t, "behind too many links", tip, b, api.OK)
		}
		b.L = someIds(n + 1)
		pushIs(t, "others behind many links", tip, b, api.ErrLink)
	}
}

func TestPushOfOtherTransactions(t *testing.T) {
	tip := withCoins(someTips(6, easy)[5], someCoins(12))
	l := []api.Tx{made(40), paid(tip.C[:2], 9, 9), paid(tip.C[5:6], 10)}
	good := dug(tip, l, 0)
	pushIs(t, "its own", tip, good, api.OK)
	for i, other := range [][]api.Tx{
		nil, {}, l[:1], l[:2], l[1:], {l[0], l[2], l[1]}, {l[1], l[2], l[0]}, append(slices.Clone(l), paid(tip.C[7:8], 10)),
		{made(41), l[1], l[2]}, {l[0], paid(tip.C[:2], 9, 8), l[2]}, {l[0], l[1], paid(tip.C[6:7], 10)}, {l[0], {}, l[2]},
		{l[0], l[1], {In: l[2].In, Out: []api.Out{{V: 10, To: 1}}}}, append(slices.Clone(l), l...), {made(51)}, {{}},
	} {
		b := cloneBlock(good)
		b.T = other
		pushIs(t, "not what the head tells "+strconv.Itoa(i), tip, b, api.ErrRoot)
	}
	// Transactions that may not be have the same Id: of these the head is right.
	b := dug(tip, []api.Tx{made(1), {}}, 0)
	pushIs(t, "one that may not be", tip, b, api.ErrArg)
	b.T = []api.Tx{made(1), made(0, 5, 7)}
	pushIs(t, "another one that may not be", tip, b, api.ErrArg)
}

// roots of what is near, but not what must be told.
func TestPushOfRootsOfOthers(t *testing.T) {
	tips := someTips(8, easy)
	for n := 1; n < len(tips); n++ {
		tip, ahead := tips[n], tips[n-1]
		l := []api.Tx{made(3)}
		for i, what := range []func(h *api.Head){
			func(h *api.Head) { h.Txs = tip.B.H.Txs },
			func(h *api.Head) { h.Txs = sum(2) },
			func(h *api.Head) { h.Past = tip.B.H.Past },
			func(h *api.Head) { h.Past = wantPast(ahead.P).H },
			func(h *api.Head) { h.Past = wantPast(wantPeaks(tip.P, *h)).H },
			func(h *api.Head) { h.Past = h.Prev },
			func(h *api.Head) { h.Work = tip.B.H.Work },
			func(h *api.Head) { h.Work = api.Wide{} },
			func(h *api.Head) { h.Work = wantPast(wantPeaks(tip.P, *h)).W },
			func(h *api.Head) { h.Past, h.Work = tip.B.H.Past, tip.B.H.Work },
		} {
			b := wantBehind(tip, l, 0)
			what(&b.H)
			b.H = findNonce(b.H, true)
			pushIs(t, fmt.Sprint("another root: ", n, i), tip, b, api.ErrRoot)
		}
	}
}

func TestPushOfWhatMayNotBe(t *testing.T) {
	for _, tip := range someTips(8, easy) {
		b := wantBehind(tip, someTxs(201, nil), 0)
		for range 8 {
			b.H = findNonce(b.H, false)
			pushIs(t, "above its target", tip, b, api.ErrWork)
			b.H.Nonce++
		}
	}
}

func TestPushOfTransactionsWithEachError(t *testing.T) {
	tip := withCoins(someTips(6, easy)[5], someCoins(47))
	for _, odd := range oddTxs() {
		pushIs(t, "of 47 coins", tip, dug(tip, odd.l, 0), odd.err)
		mineIs(t, tip, odd.l, 200, odd.err)
	}
	first := made(20, 5)
	there, err := purse.Apply(someCoins(3), []api.Tx{first})
	if err != api.OK {
		t.Fatal(err)
	}
	tip.C = there
	pushIs(t, "an Id that is there", tip, dug(tip, []api.Tx{first}, 0), api.ErrThere)
	mineIs(t, tip, []api.Tx{first}, 200, api.ErrThere)
	for _, p := range [][]api.Coin{someCoins(49), {{}}, slices.Repeat(someCoins(1), 2)} {
		tip.C = p
		for _, l := range [][]api.Tx{nil, {made(1)}, {made(51)}, {paid(someCoins(1), 1)}} {
			pushIs(t, "coins that may not be", tip, dug(tip, l, 0), api.ErrArg)
			mineIs(t, tip, l, 200, api.ErrArg)
		}
	}
}

func TestPushOntoEachNumberOfCoins(t *testing.T) {
	tip := someTips(6, easy)[5]
	for _, n := range []int{0, 1, 2, 44, 45, 46, 47, 48} {
		tip.C = someCoins(n)
		var lists [][]api.Tx
		for outs := 1; outs <= 3; outs++ {
			lists = append(lists, []api.Tx{made(slices.Repeat([]int{1}, outs)...)})
			if n > 1 {
				lists = append(lists, []api.Tx{paid(tip.C[:1], 1), paid(tip.C[1:2], slices.Repeat([]int{1}, outs)...)})
			}
		}
		for _, l := range lists {
			want := api.OK
			behind := n - 2 + 1 + len(l[len(l)-1].Out)
			if len(l) == 1 {
				behind = n + len(l[0].Out)
			}
			if behind > 48 {
				want = api.ErrFull
			}
			got, err := pushed(t, tip, dug(tip, l, 0))
			if err != want || err == api.OK && len(got.C) != behind {
				t.Errorf("%d coins, %d transactions: %d coins, %d", n, len(l), len(got.C), err)
			}
			mineIs(t, tip, l, 200, want)
		}
		pushIs(t, "no transactions", tip, dug(tip, nil, 0), api.OK)
	}
}

func TestPushOfTheSameBlockTwice(t *testing.T) {
	for _, tip := range someTips(10, easy) {
		b := dug(tip, []api.Tx{made(7)}, 5)
		once, err := pushed(t, tip, b)
		if err != api.OK {
			t.Fatal(err)
		}
		pushIs(t, "the same block twice", once, b, api.ErrPrev)
		pushIs(t, "once more behind the same tip", tip, b, api.OK)
		b.H.Height++
		pushIs(t, "at the next height", once, b, api.ErrPrev)
		// With all but the transactions as it must be, these are there, too.
		pushIs(t, "the same transactions twice", once, dug(once, b.T, 5), api.ErrThere)
	}
}

func TestPushOfTwoBlocksBehindOneTip(t *testing.T) {
	for _, tip := range someTips(10, easy) {
		one, other := dug(tip, []api.Tx{made(7)}, 0), dug(tip, []api.Tx{made(8)}, 0)
		first, err := pushed(t, tip, one)
		second, fault := pushed(t, tip, other)
		if err != api.OK || fault != api.OK || sameTip(first, second) || Same(first.B, second.B) {
			t.Fatal(err, fault)
		}
		pushIs(t, "behind the other one", first, other, api.ErrPrev)
		pushIs(t, "behind its own one", first, dug(first, nil, 0), api.OK)
		pushIs(t, "behind the other one's", second, dug(first, nil, 0), api.ErrPrev)
		// Of the same transactions, and another nonce.
		third := cloneBlock(one)
		third.H.Nonce++
		third.H = findNonce(third.H, true)
		pushIs(t, "another nonce", tip, third, api.OK)
		pushIs(t, "behind another nonce", first, dug(api.Tip{B: third, P: wantPeaks(tip.P, third.H), C: first.C}, nil, 0), api.ErrPrev)
	}
}

// All errors at once, in each choice of them, each by each part that has it: the first one counts.
func TestPushTellsTheFirstError(t *testing.T) {
	prevs := []func(b *api.Block){nil, func(b *api.Block) { b.H.Height++ }, func(b *api.Block) { b.H.Prev[7] ^= 1 }, func(b *api.Block) { b.H.Bits-- }}
	links := []func(b *api.Block){nil, func(b *api.Block) { b.L = append(slices.Clone(b.L), api.Id{}) }, func(b *api.Block) { b.H.Links[8] ^= 1 }}
	roots := []func(b *api.Block){
		nil, func(b *api.Block) { b.H.Txs[9] ^= 1 }, func(b *api.Block) { b.H.Past[9] ^= 1 }, func(b *api.Block) { b.H.Work[3] ^= 1 },
	}
	base := someTips(6, easy)[5]
	lists := append(oddTxs(), struct {
		err api.Errno
		l   []api.Tx
	}{api.OK, []api.Tx{made(30), paid(someCoins(1), 10)}})
	for _, height := range []int{45, 46, 47} {
		tip := withCoins(atHeight(base, height), someCoins(46))
		if height > 45 {
			tip.C = someCoins(47)
		}
		for i, odd := range lists {
			if odd.err == api.ErrFull && height == 45 {
				continue
			}
			for which := range 2 * len(prevs) * len(links) * len(roots) {
				work, p, l, r := which%2, which/2%len(prevs), which/2/len(prevs)%len(links), which/2/len(prevs)/len(links)
				b := wantBehind(tip, odd.l, uint64(i))
				for _, what := range []func(b *api.Block){prevs[p], links[l], roots[r]} {
					if what != nil {
						what(&b)
					}
				}
				b.H = findNonce(b.H, work == 0)
				want := odd.err
				switch {
				case b.H.Height > 47:
					want = api.ErrSize
				case p > 0:
					want = api.ErrPrev
				case l > 0:
					want = api.ErrLink
				case r > 0:
					want = api.ErrRoot
				case work > 0:
					want = api.ErrWork
				}
				pushIs(t, fmt.Sprint("errors ", height, i, which), tip, b, want)
			}
		}
	}
}

func TestPushOntoAnyTip(t *testing.T) {
	r := rand.New(rand.NewSource(4))
	errs := map[api.Errno]int{}
	for range 3000 {
		tip := someTip(r)
		b := wantBehind(tip, someTxs(r.Intn(4), tip.C), r.Uint64())
		for range 40 {
			if wantLevel(b.H) < 0 {
				b.H.Nonce++
			}
		}
		b = cloneBlock(b)
		switch r.Intn(12) {
		case 0:
			part := turns[r.Intn(len(turns))]
			part.turn(&b.H, r.Intn(part.bits))
		case 1:
			b.L = someIds(r.Intn(3))
		case 2:
			b.T = append(b.T, made(1))
		case 3:
			b = someTip(r).B
		}
		_, err := pushed(t, tip, b)
		errs[err]++
	}
	for _, err := range []api.Errno{api.OK, api.ErrArg, api.ErrSize, api.ErrPrev, api.ErrLink, api.ErrRoot, api.ErrWork} {
		if errs[err] < 20 {
			t.Errorf("only %d of error %d", errs[err], err)
		}
	}
}

func TestPushOfNoughts(t *testing.T) {
	// A zero head has the Height of a first one, but the bits of none.
	pushIs(t, "noughts behind noughts", api.Tip{}, api.Block{}, api.ErrPrev)
	pushIs(t, "behind noughts", api.Tip{}, wantBehind(api.Tip{}, nil, 0), api.ErrWork)
	pushIs(t, "noughts", someTips(1, easy)[0], api.Block{}, api.ErrPrev)
	// Height 0 behind -1: whatever its sum is, it may be.
	tip := atHeight(withBits(api.Tip{}, 0x03008000), -1)
	got, err := pushed(t, tip, wantBehind(tip, nil, 0))
	if err != api.OK || got.B.H.Prev != (api.Id{}) || !slices.Equal(got.B.L, []api.Id{{}}) {
		t.Error(got, err)
	}
}

// P11.4

func TestMineOfEachNumberOfTries(t *testing.T) {
	for _, tip := range []api.Tip{someTips(3, easy)[2], withBits(someTips(3, easy)[2], rare), withBits(someTips(1, easy)[0], 0x2000ffff)} {
		for _, tries := range someTries {
			for _, nonce := range []uint64{0, 1, 2, 3, last - 3, 1 << 40} {
				b, err := mined(t, tip, someTxs(201, nil), nonce, tries)
				if tries < 1 && err != api.ErrWork || err == api.OK && b.H.Nonce-nonce >= uint64(min(tries, 200)) {
					t.Errorf("%d tries: %d", tries, err)
				}
			}
		}
	}
}

// wayTo is how many nonces of a block behind a tip there are ahead of the first one that does.
func wayTo(tip api.Tip, nonce uint64) int {
	return int(findNonce(wantBehind(tip, nil, nonce).H, true).Nonce - nonce)
}

func TestMineWithJustAsManyTries(t *testing.T) {
	tip := withBits(someTips(3, easy)[2], 0x2000ffff)
	var near, far int
	for nonce := uint64(0); nonce < 20000; nonce += 500 {
		d := wayTo(tip, nonce)
		found := nonce + uint64(d)
		for _, start := range []struct {
			nonce uint64
			d     int
		}{{nonce, d}, {found, 0}, {found - 1, 1}, {found - 198, 198}, {found - 199, 199}, {found - 200, 200}} {
			if start.d > d {
				continue
			}
			want := api.OK
			if start.d >= 200 {
				want = api.ErrWork
				far++
			}
			near++
			for tries, is := range map[int]api.Errno{
				start.d: api.ErrWork, start.d + 1: want, 200: want, 201: want, 100000: want, math.MaxInt: want,
			} {
				b, err := mined(t, tip, nil, start.nonce, tries)
				if err != is || err == api.OK && b.H.Nonce != found {
					t.Errorf("from %d on, %d tries, %d off: %d, %d", start.nonce, tries, start.d, b.H.Nonce, err)
				}
			}
		}
	}
	if far < 5 || near < 50 {
		t.Errorf("only %d, and %d too far", near, far)
	}
}

func TestMineGoesRound(t *testing.T) {
	round := 0
	for _, bits := range []uint32{easy, rare} {
		for _, tip := range someTips(8, easy) {
			tip = withBits(tip, bits)
			for _, nonce := range edgeNonces {
				b, err := mined(t, tip, nil, nonce, 200)
				if err == api.OK && b.H.Nonce < nonce {
					round++
				}
			}
		}
	}
	if round < 20 {
		t.Errorf("only %d go round", round)
	}
}

func TestMineBehindEachHeight(t *testing.T) {
	for _, height := range someHeights {
		tip := atHeight(someTips(6, easy)[5], height)
		want := api.OK
		switch {
		case height+1 < 0:
			want = api.ErrWork
		case height+1 > 47:
			want = api.ErrSize
		}
		mineIs(t, tip, nil, 200, want)
		mineIs(t, tip, []api.Tx{made(1)}, 200, want)
	}
}

func TestMineOfEachBits(t *testing.T) {
	tip := someTips(4, easy)[3]
	for _, bits := range badBits {
		mineIs(t, withBits(tip, bits), nil, 200, api.ErrWork)
		mineIs(t, withBits(atHeight(tip, -1), bits), nil, 200, api.ErrWork)
	}
	for _, bits := range goodBits {
		mined(t, withBits(tip, bits), nil, 0, 200)
		mineIs(t, withBits(atHeight(tip, -1), bits), nil, 1, api.OK)
		mineIs(t, withBits(atHeight(tip, -1), bits), nil, 0, api.ErrWork)
	}
}

// All errors at once, in each choice of them: the first one counts.
func TestMineTellsTheFirstError(t *testing.T) {
	base := withCoins(someTips(6, easy)[5], someCoins(47))
	fine := []api.Tx{made(30)}
	for _, height := range []int{45, 46, 47, 48, -2, math.MaxInt} {
		tip := atHeight(base, height)
		size, work := height == 47 || height == 48, height < 0 || height == math.MaxInt
		for _, tries := range []int{200, 0, -1} {
			for _, bits := range []uint32{easy, 5} {
				is := api.OK
				switch {
				case size:
					is = api.ErrSize
				case work || tries < 1 || bits == 5:
					is = api.ErrWork
				}
				mineIs(t, withBits(tip, bits), fine, tries, is)
				for _, odd := range oddTxs() {
					is := odd.err
					if size {
						is = api.ErrSize
					}
					mineIs(t, withBits(tip, bits), odd.l, tries, is)
				}
			}
		}
	}
}

func TestMineBehindAnyTip(t *testing.T) {
	r := rand.New(rand.NewSource(5))
	errs := map[api.Errno]int{}
	for range 3000 {
		tip := someTip(r)
		l := someTxs(r.Intn(4), tip.C)
		if r.Intn(6) == 0 {
			l = oddTxs()[r.Intn(13)].l
		}
		_, err := mined(t, tip, l, r.Uint64(), r.Intn(230)-3)
		errs[err]++
	}
	for _, err := range []api.Errno{api.OK, api.ErrArg, api.ErrSize, api.ErrWork, api.ErrSpend, api.ErrFull} {
		if errs[err] < 20 {
			t.Errorf("only %d of error %d", errs[err], err)
		}
	}
}

// P11.5

// anyTxs are what could be a block's: most of them may be.
func anyTxs(r *rand.Rand, p []api.Coin) []api.Tx {
	var l []api.Tx
	pool, left := slices.Clone(p), 50
	for range r.Intn(4) {
		if len(pool) == 0 {
			break
		}
		at := r.Intn(len(pool))
		c := pool[at]
		x := paid([]api.Coin{c}, max(1, c.V/(1+r.Intn(2))))
		if len(pool) > 40 && at > 0 {
			x.In = append(x.In, pool[at-1].In)
			pool = slices.Delete(pool, at-1, at)
			at--
		}
		pool = slices.Delete(pool, at, at+1)
		left += c.V - x.Out[0].V
		l = append(l, x)
	}
	if len(l) < 4 && (r.Intn(4) > 0 || len(l) == 0) {
		l = append([]api.Tx{made(1+r.Intn(left), 1+r.Intn(3))}, l...)
	}
	return l
}

// Chains of blocks, each mined, and pushed, up to the greatest height of all.
func TestChainsUpToTheGreatestHeight(t *testing.T) {
	refused := 0
	for seed := range int64(12) {
		r := rand.New(rand.NewSource(seed))
		bits := []uint32{easy, 0x20400000, 0x201fffff}[seed%3]
		tip, is := First(bits)
		if !is {
			t.Fatal("no first one")
		}
		heads := []api.Head{tip.B.H}
		for tip.B.H.Height < 47 {
			b, err := mined(t, tip, anyTxs(r, tip.C), r.Uint64(), 200)
			if err != api.OK {
				refused++
				b, err = mined(t, tip, nil, r.Uint64(), 200)
			}
			if err != api.OK {
				t.Fatalf("seed %d: %s: %d", seed, tell(tip.B), err)
			}
			tip, err = pushed(t, tip, b)
			if err != api.OK || t.Failed() {
				t.Fatalf("seed %d: %s: %d", seed, tell(b), err)
			}
			heads = append(heads, b.H)
			chainIs(t, tip, heads)
		}
		mineIs(t, tip, nil, 200, api.ErrSize)
		pushIs(t, "a block too many", tip, dug(tip, nil, 0), api.ErrSize)
		if len(heads) != 48 {
			t.Errorf("%d blocks", len(heads))
		}
	}
	if refused > 200 {
		t.Errorf("%d blocks are refused", refused)
	}
}

// chainIs holds a tip against all heads of its chain.
func chainIs(t *testing.T, tip api.Tip, heads []api.Head) {
	t.Helper()
	var peaks []api.Total
	links := make([]api.Id, 0, 32)
	for i, h := range heads[:len(heads)-1] {
		peaks = wantPeaks(peaks, h)
		if i == 0 {
			links = append(links, wantId(h))
			continue
		}
		for n := 1; n <= wantLevel(h); n++ {
			if n == len(links) {
				links = append(links, api.Id{})
			}
			links[n] = wantId(h)
		}
	}
	h := heads[len(heads)-1]
	all := wantPast(peaks)
	if h.Past != all.H || h.Work != all.W || all.N != len(heads)-1 || !slices.Equal(tip.P, wantPeaks(peaks, h)) {
		t.Errorf("%d blocks: peaks", len(heads))
	}
	if !slices.Equal(tip.B.L, links) || h.Links != wantLinksRoot(links) {
		t.Errorf("%d blocks: links", len(heads))
	}
	if purse.Sum(tip.C) > 50*(len(heads)-1) || !purse.May(tip.C) {
		t.Errorf("%d blocks: coins of %d", len(heads), purse.Sum(tip.C))
	}
}

// What is answered has no two lists in one place, even if what is handed in has.
func TestNoTwoListsOfOneAnswerAreOne(t *testing.T) {
	coins := someCoins(6)
	tip := withCoins(someTips(4, easy)[3], coins)
	ins := paid(coins, 1).In
	outs := made(5, 5).Out
	l := []api.Tx{{In: ins[:1], Out: outs}, {In: ins[1:2], Out: outs}, {In: ins[2:], Out: outs[:1]}}
	l[2].In = l[2].In[:1]
	b, err := Mine(tip, l, 0, 200)
	if err != api.OK {
		t.Fatal(err)
	}
	apart(t, b)
	b.T = l
	pushed, err := Push(tip, b)
	if err != api.OK {
		t.Fatal(err)
	}
	apart(t, pushed.B)
	tip.B.T = []api.Tx{l[0], l[0], {In: ins, Out: outs}}
	stays, err := Push(tip, tip.B)
	if err != api.ErrPrev || !sameTip(stays, tip) {
		t.Fatal(err)
	}
	apart(t, stays.B)
}

// apart changes each list of a block's transactions, one by one, and looks at all others.
func apart(t *testing.T, b api.Block) {
	t.Helper()
	want := cloneBlock(b)
	for i := range b.T {
		for k := range whole(b.T[i].In) {
			whole(b.T[i].In)[k].I += 1000
		}
		for k := range want.T[i].In {
			want.T[i].In[k].I += 1000
		}
		for k := range whole(b.T[i].Out) {
			whole(b.T[i].Out)[k].V += 1000
		}
		for k := range want.T[i].Out {
			want.T[i].Out[k].V += 1000
		}
		if !sameBlock(b, want) {
			t.Errorf("transaction %d shares what is another one's", i)
		}
	}
}

// R5

func TestAnswersHangOnNothingElse(t *testing.T) {
	tip := withCoins(someTips(7, easy)[6], someCoins(20))
	l := []api.Tx{made(50), paid(tip.C[:2], 3)}
	good := dug(tip, l, 0)
	ask := func() string {
		first, is := First(easy)
		b, err := Mine(tip, l, 0, 200)
		none, fault := Mine(tip, l, 0, 0)
		behind, fine := Push(tip, good)
		stays, wrong := Push(tip, tip.B)
		return fmt.Sprint(first, is, b, err, none, fault, behind, fine, stays, wrong, Next(tip, l, 9), Same(b, good))
	}
	want := ask()
	r := rand.New(rand.NewSource(6))
	for range 200 {
		other := someTip(r)
		First(r.Uint32())
		Next(other, l, 1)
		Mine(other, l, 1, 10)
		Push(other, good)
		Push(tip, other.B)
	}
	if ask() != want {
		t.Error("asked again, another answer")
	}
}
