package chain

import (
	"encoding/hex"
	"fmt"
	"math"
	"math/rand"
	"slices"
	"testing"

	"stepladder/api"
	"stepladder/block"
	"stepladder/head"
	"stepladder/link"
	"stepladder/mmr"
)

const last = math.MaxUint64 // the last nonce of all, behind which 0 comes

// Bits that are compact numbers.
const (
	easy  = 0x207fffff // the greatest target: each second sum may be
	rare  = 0x2000ffff // about one sum of 256 may be
	least = 0x03008000 // the least target: no sum may be that is found by trying
)

// Bits that are a compact number, from the least one to the greatest one, and such as are none.
var (
	goodBits = []uint32{
		0x03008000, 0x03008001, 0x037fffff, 0x04008000, 0x0400ffff, 0x10123456, 0x1d00ffff, 0x1f7fffff,
		0x20008000, 0x20028f5c, 0x2000ffff, 0x20400000, 0x207ffffe, 0x207fffff,
	}
	badBits = []uint32{
		0, 1, 5, 0x7fff, 0x8000, 0x7fffff, 0xffffff, 0x01008000, 0x02008000, 0x027fffff,
		0x03000000, 0x03007fff, 0x03800000, 0x03ffffff, 0x1d000000, 0x1d007fff, 0x1d800000,
		0x20000000, 0x20007fff, 0x20800000, 0x20ffffff, 0x21008000, 0x217fffff, 0x7f7fffff,
		0x80008000, 0x83008000, 0xa07fffff, 0xff008000, 0xff7fffff, 0xffffffff,
	}
)

// The chapter's words once more, by the calls that they name; which of them are asked, and when, goes another way round.

func isCompact(bits uint32) bool {
	e, m := bits>>24, bits&0xffffff
	return e >= 3 && e <= 32 && m >= 0x8000 && m <= 0x7fffff
}

// wantCheck goes from the last block back to the first one.
func wantCheck(l []api.Block) (api.Tip, api.Errno) {
	n := len(l)
	if n == 0 {
		return api.Tip{}, api.ErrNone
	}
	var tip api.Tip
	var err api.Errno
	if n == 1 {
		if !isCompact(l[0].H.Bits) {
			return api.Tip{}, api.ErrOther
		}
		tip, _ = block.First(l[0].H.Bits)
		if !sameBlock(tip.B, l[0]) {
			err = api.ErrOther
		}
	} else {
		tip, err = wantCheck(l[:n-1])
		if err == api.OK {
			tip, err = block.Push(tip, l[n-1])
		}
	}
	if err != api.OK {
		return api.Tip{}, err
	}
	return tip, api.OK
}

func wantGrow(l []api.Block, txs []api.Tx, nonce uint64) ([]api.Block, api.Errno) {
	tip, err := wantCheck(l)
	if err != api.OK {
		return l, err
	}
	b, err := block.Mine(tip, txs, nonce, 200)
	if err != api.OK {
		return l, err
	}
	return slices.Concat(l, []api.Block{b}), api.OK
}

func wantFind(l []api.Block, id api.Id) int {
	place := -1
	for i := len(l) - 1; i >= 0; i-- {
		if head.Id(l[i].H) == id {
			place = i
		}
	}
	return place
}

// wantTotal is the total of a list that is cut as a tree's leaves are.
func wantTotal(l []api.Total) api.Total {
	switch len(l) {
	case 0:
		return mmr.Root(nil)
	case 1:
		return l[0]
	}
	at := 1
	for at*2 < len(l) {
		at *= 2
	}
	return mmr.Join(wantTotal(l[:at]), wantTotal(l[at:]))
}

func sameTx(a, b api.Tx) bool {
	return slices.Equal(a.In, b.In) && slices.Equal(a.Out, b.Out)
}

func sameBlock(a, b api.Block) bool {
	return a.H == b.H && slices.Equal(a.L, b.L) && slices.EqualFunc(a.T, b.T, sameTx)
}

func sameBlocks(a, b []api.Block) bool {
	return slices.EqualFunc(a, b, sameBlock)
}

func sameTip(a, b api.Tip) bool {
	return sameBlock(a.B, b.B) && slices.Equal(a.P, b.P) && slices.Equal(a.C, b.C)
}

// Blocks and transactions to ask of

// made is a transaction without Ins.
func made(v ...int) api.Tx {
	var t api.Tx
	for i, n := range v {
		t.Out = append(t.Out, api.Out{V: n, To: i})
	}
	return t
}

// paid is a transaction that spends these coins.
func paid(p []api.Coin, v ...int) api.Tx {
	t := made(v...)
	for _, c := range p {
		t.In = append(t.In, c.In)
	}
	return t
}

// owned is a transaction of which another one could not be taken for it.
func owned(to int, v ...int) api.Tx {
	t := made(v...)
	for i := range t.Out {
		t.Out[i].To = to
	}
	return t
}

func someIds(n int) []api.Id {
	var l []api.Id
	for i := range n {
		l = append(l, api.Id{99, byte(i), byte(i >> 8)})
	}
	return l
}

// someHead is a head of which each part is another one for another seed.
func someHead(seed int) api.Head {
	r := rand.New(rand.NewSource(int64(seed)))
	h := api.Head{Height: r.Intn(46), Bits: goodBits[r.Intn(len(goodBits))], Nonce: r.Uint64()}
	for _, id := range []*api.Id{&h.Prev, &h.Links, &h.Txs, &h.Past} {
		r.Read(id[:])
	}
	for i := range h.Work {
		h.Work[i] = r.Uint64()
	}
	return h
}

// behind is the block behind a tip, with these transactions and that nonce, whether or not it may be.
func behind(tip api.Tip, txs []api.Tx, nonce uint64) api.Block {
	links := link.Next(tip.B.L, head.Id(tip.B.H), head.Level(tip.B.H))
	return api.Block{H: block.Next(tip, txs, nonce), L: links, T: txs}
}

// found is a block with the next nonce by which it may be, or may not be.
func found(b api.Block, may bool) api.Block {
	for range 1 << 14 {
		if head.May(b.H) == may {
			return b
		}
		b.H.Nonce++
	}
	panic("no such nonce")
}

func dug(tip api.Tip, txs []api.Tx, nonce uint64) api.Block {
	return found(behind(tip, txs, nonce), true)
}

// chainOf are the blocks of a chain, and the tip up to each, by block's calls alone; txs tells what each one has.
func chainOf(n int, bits uint32, txs func(tip api.Tip, i int) []api.Tx) ([]api.Block, []api.Tip) {
	tip, _ := block.First(bits)
	l, tips := []api.Block{tip.B}, []api.Tip{tip}
	for i := 1; i < n; i++ {
		b := dug(tip, txs(tip, i), uint64(1000*i))
		next, err := block.Push(tip, b)
		if err != api.OK {
			panic(fmt.Sprint("block ", i, ": error ", err))
		}
		tip = next
		l, tips = append(l, b), append(tips, tip)
	}
	return l, tips
}

// someTxs spend, make, do both, or do nothing.
func someTxs(tip api.Tip, i int) []api.Tx {
	p, first := tip.C, owned(i, 10, 20)
	switch {
	case i%4 == 1 || len(p) == 0:
		return []api.Tx{first}
	case i%4 == 2:
		return []api.Tx{first, paid(p[:1], 1)}
	case i%4 == 3:
		return []api.Tx{paid(p[:min(len(p), 2)], 1)}
	}
	return nil
}

// coinsTxs make three coins each, till there is no room.
func coinsTxs(tip api.Tip, i int) []api.Tx {
	if len(tip.C) > api.MaxCoins-3 {
		return nil
	}
	return []api.Tx{owned(i, 1, 2, 3)}
}

func someChain(n int) []api.Block {
	l, _ := chainOf(n, easy, someTxs)
	return l
}

// oddBlocks are no chain, and most of them could be none's.
func oddBlocks() []api.Block {
	l := []api.Block{{}, {L: someIds(40)}, {T: []api.Tx{{}, made(7)}}}
	for i, height := range []int{-1, 0, 1, 47, 48, 1 << 20, 1<<20 + 1, math.MinInt, math.MaxInt, 1 << 32} {
		for k, bits := range []uint32{easy, rare, least, 5, 0x20800000} {
			h := someHead(10*i + k)
			h.Height, h.Bits = height, bits
			l = append(l, api.Block{H: h, L: someIds(i), T: slices.Repeat([]api.Tx{made(i, k)}, k)})
		}
	}
	return l
}

func cloneBlocks(l []api.Block) []api.Block {
	var m []api.Block
	for _, b := range l {
		m = append(m, cloneBlock(b))
	}
	return m
}

func cloneBlock(b api.Block) api.Block {
	b.L, b.T = append([]api.Id(nil), b.L...), cloneTxs(b.T)
	return b
}

func cloneTxs(l []api.Tx) []api.Tx {
	var m []api.Tx
	for _, t := range l {
		m = append(m, api.Tx{In: append([]api.In(nil), t.In...), Out: append([]api.Out(nil), t.Out...)})
	}
	return m
}

// changed are the blocks with another one in one place.
func changed(l []api.Block, at int, b api.Block) []api.Block {
	m := cloneBlocks(l)
	m[at] = b
	return m
}

// R3 and R5: each list that is handed in has more behind, which no call may touch.

// question is what a call is handed.
type question struct {
	l, m []api.Block
	txs  []api.Tx
}

// answer is what a call answers.
type answer struct {
	tip    api.Tip
	l      []api.Block
	levels []int
	leaves []api.Total
	n      int
	is     bool
	err    api.Errno
}

func roomy[T any](l []T, behind T) []T {
	return append(append(make([]T, 0, len(l)+2), l...), behind, behind)[:len(l)]
}

func roomyTxs(l []api.Tx) []api.Tx {
	var txs []api.Tx
	for _, t := range l {
		txs = append(txs, api.Tx{In: roomy(t.In, api.In{I: 77}), Out: roomy(t.Out, api.Out{V: 77})})
	}
	return roomy(txs, made(77, 78))
}

func roomyBlocks(l []api.Block) []api.Block {
	var m []api.Block
	for _, b := range l {
		m = append(m, api.Block{H: b.H, L: roomy(b.L, api.Id{77}), T: roomyTxs(b.T)})
	}
	return roomy(m, api.Block{H: api.Head{Height: 77}})
}

func (q question) roomy() question {
	return question{l: roomyBlocks(q.l), m: roomyBlocks(q.m), txs: roomyTxs(q.txs)}
}

// whole is a list with what stands behind it.
func whole[T any](l []T) []T {
	return l[:cap(l)]
}

func wholeTxs(l []api.Tx) []api.Tx {
	var txs []api.Tx
	for _, t := range whole(l) {
		txs = append(txs, api.Tx{In: whole(t.In), Out: whole(t.Out)})
	}
	return txs
}

func wholeBlocks(l []api.Block) []api.Block {
	var m []api.Block
	for _, b := range whole(l) {
		m = append(m, api.Block{H: b.H, L: whole(b.L), T: wholeTxs(b.T)})
	}
	return m
}

func (q question) sameWhole(other question) bool {
	return sameBlocks(wholeBlocks(q.l), wholeBlocks(other.l)) && sameBlocks(wholeBlocks(q.m), wholeBlocks(other.m)) &&
		slices.EqualFunc(wholeTxs(q.txs), wholeTxs(other.txs), sameTx)
}

func (a answer) same(b answer) bool {
	return sameTip(a.tip, b.tip) && sameBlocks(a.l, b.l) && slices.Equal(a.levels, b.levels) && slices.Equal(a.leaves, b.leaves) &&
		a.n == b.n && a.is == b.is && a.err == b.err
}

func (a answer) clone() answer {
	a.tip.B, a.l = cloneBlock(a.tip.B), cloneBlocks(a.l)
	a.tip.P, a.tip.C = append([]api.Total(nil), a.tip.P...), append([]api.Coin(nil), a.tip.C...)
	a.levels, a.leaves = append([]int(nil), a.levels...), append([]api.Total(nil), a.leaves...)
	return a
}

func fill[T any](l []T, with T) {
	for i := range whole(l) {
		whole(l)[i] = with
	}
}

func spoilTxs(l []api.Tx) {
	for _, t := range whole(l) {
		fill(t.In, api.In{I: 99})
		fill(t.Out, api.Out{V: 99})
	}
	fill(l, made(99))
}

func spoilBlocks(l []api.Block) {
	for _, b := range whole(l) {
		fill(b.L, api.Id{99})
		spoilTxs(b.T)
	}
	fill(l, api.Block{H: api.Head{Height: 99}})
}

func (q question) spoil() {
	spoilBlocks(q.l)
	spoilBlocks(q.m)
	spoilTxs(q.txs)
}

func (a answer) spoil() {
	spoilBlocks([]api.Block{a.tip.B})
	fill(a.tip.P, api.Total{N: 99})
	fill(a.tip.C, api.Coin{In: api.In{I: 99}})
	spoilBlocks(a.l)
	fill(a.levels, 99)
	fill(a.leaves, api.Total{N: 99})
}

func tell(l []api.Block) string {
	text := fmt.Sprint(len(l), " blocks, of heights")
	for _, b := range l {
		text += fmt.Sprint(" ", b.H.Height)
	}
	return text
}

// asked is what a call answers, held against R3 and R5.
func asked(t *testing.T, q question, call func(question) answer) answer {
	t.Helper()
	in := q.roomy()
	first, second := call(in), call(in)
	kept := first.clone()
	if !second.same(kept) {
		t.Errorf("%s: asked again, another answer", tell(q.l))
	}
	second.spoil()
	if !in.sameWhole(q.roomy()) {
		t.Errorf("%s: what was handed in is not as it was", tell(q.l))
	}
	in.spoil()
	if !first.same(kept) {
		t.Errorf("%s: what was answered changed with what was handed in, or with another answer", tell(q.l))
	}
	return first
}

// checked is what Check answers, held against the chapter's words.
func checked(t *testing.T, l []api.Block) (api.Tip, api.Errno) {
	t.Helper()
	got := asked(t, question{l: l}, func(q question) answer {
		tip, err := Check(q.l)
		return answer{tip: tip, err: err}
	})
	want, err := wantCheck(l)
	if got.err != err || !sameTip(got.tip, want) {
		t.Errorf("%s: %d, not %d, and %+v", tell(l), got.err, err, got.tip)
	}
	if got.err != api.OK && !sameTip(got.tip, api.Tip{}) {
		t.Errorf("%s: %d, and %+v", tell(l), got.err, got.tip)
	}
	return got.tip, got.err
}

func checkIs(t *testing.T, name string, l []api.Block, want api.Errno) {
	t.Helper()
	if _, err := checked(t, l); err != want {
		t.Errorf("%s: %s: %d, not %d", name, tell(l), err, want)
	}
}

// grown is what Grow answers, held against the chapter's words.
func grown(t *testing.T, l []api.Block, txs []api.Tx, nonce uint64) ([]api.Block, api.Errno) {
	t.Helper()
	got := asked(t, question{l: l, txs: txs}, func(q question) answer {
		m, err := Grow(q.l, q.txs, nonce)
		return answer{l: m, err: err}
	})
	want, err := wantGrow(l, txs, nonce)
	if got.err != err || !sameBlocks(got.l, want) {
		t.Errorf("%s, from %d on: %d, not %d, and %s", tell(l), nonce, got.err, err, tell(got.l))
	}
	if got.err != api.OK && !sameBlocks(got.l, l) {
		t.Errorf("%s: %d, and other blocks", tell(l), got.err)
	}
	return got.l, got.err
}

func growIs(t *testing.T, name string, l []api.Block, txs []api.Tx, want api.Errno) {
	t.Helper()
	if _, err := grown(t, l, txs, 0); err != want {
		t.Errorf("%s: %s: %d, not %d", name, tell(l), err, want)
	}
}

func findIs(t *testing.T, name string, l []api.Block, id api.Id, want int) {
	t.Helper()
	got := asked(t, question{l: l}, func(q question) answer { return answer{n: Find(q.l, id)} }).n
	if got != want || got != wantFind(l, id) {
		t.Errorf("%s: %s: %d, not %d", name, tell(l), got, want)
	}
}

func levelsOf(t *testing.T, l []api.Block) []int {
	t.Helper()
	got := asked(t, question{l: l}, func(q question) answer { return answer{levels: Levels(q.l)} }).levels
	if len(got) != len(l) {
		t.Fatalf("%s: %d levels", tell(l), len(got))
	}
	for i, b := range l {
		if got[i] != head.Level(b.H) {
			t.Errorf("%s: place %d: level %d, not %d", tell(l), i, got[i], head.Level(b.H))
		}
	}
	return got
}

func leavesOf(t *testing.T, l []api.Block) []api.Total {
	t.Helper()
	got := asked(t, question{l: l}, func(q question) answer { return answer{leaves: Leaves(q.l)} }).leaves
	if len(got) != len(l) {
		t.Fatalf("%s: %d leaves", tell(l), len(got))
	}
	for i, b := range l {
		want := api.Total{H: head.Id(b.H), W: head.Work(b.H), N: 1}
		if got[i] != want {
			t.Errorf("%s: place %d: %+v, not %+v", tell(l), i, got[i], want)
		}
	}
	return got
}

func same(t *testing.T, name string, a, b []api.Block, want bool) {
	t.Helper()
	for _, q := range []question{{l: a, m: b}, {l: b, m: a}} {
		got := asked(t, q, func(q question) answer { return answer{is: Same(q.l, q.m)} })
		if got.is != want {
			t.Errorf("%s: %s, and %s: %v", name, tell(q.l), tell(q.m), got.is)
		}
	}
}

func unhex(t *testing.T, text string) api.Id {
	t.Helper()
	b, err := hex.DecodeString(text)
	if err != nil || len(b) != 32 {
		t.Fatal(text, err)
	}
	return api.Id(b)
}

// The chapter's example, and a chain whose sums are written out

func TestExample(t *testing.T) {
	l, is := New(api.Easy)
	if levels := Levels(l); !is || len(l) != 1 || !slices.Equal(levels, []int{31}) {
		t.Error(l, is, levels)
	}
}

func TestKnownChain(t *testing.T) {
	first, second := made(50), owned(7, 51)
	first.Out[0].To = 7
	firstId := unhex(t, "e72ec01fa35ec13b72bee95ca8ec2f28d04dbc6668c715a0f2dc3dffe08f5618")
	secondId := unhex(t, "379a55455c9159ddd0e2d1cc7eefb1e2b539a2babbad44c86329638dc081a7cd")
	spends := api.Tx{In: []api.In{{Tx: firstId}}, Out: []api.Out{{V: 30, To: 8}, {V: 19, To: 255}}}
	moves := api.Tx{In: []api.In{{Tx: secondId}}, Out: []api.Out{{V: 51, To: 9}}}
	known := []struct {
		txs         []api.Tx
		from, nonce uint64
		id          string
		level       int
	}{
		{[]api.Tx{first}, 100, 101, "1c1a9c9af2a17905cc1f1f1154dd4168e7c36daef0eb69ff27a4c48b7db066f5", 2},
		{[]api.Tx{second, spends}, 0, 5, "46bdf359d9dffacd55e0eb0872ad100379a59541b1bbb46a298222a2a2e674dc", 0},
		{nil, last, last, "5d6b2e390c0a0d229f586a6a6dd75ec16c549c63048ab5d56e25fd85f685e9b8", 0},
		{[]api.Tx{moves}, last, 1, "44d9747a92d7ac9f47c835d466a3f94db66799cba8054e0b9a00198416e20c26", 0},
		{nil, 7, 8, "243c6e0f5247d552d1a224d8283edb561b26a2e511a0291813505de5d60ebdf4", 1},
		{nil, last - 1, last, "32286c215efc6cf40108a7d229409a8a094bfe44e34b757f9619dfdb9f41b98f", 1},
	}
	l, is := New(545259519)
	if !is {
		t.Fatal("no first one")
	}
	ids := []api.Id{unhex(t, "cc75649cd9230bad235dc7959f44e32d942714ae551b7adfbb840221adc710c3")}
	levels := []int{31}
	leaves := []api.Total{{H: ids[0], W: api.Wide{2}, N: 1}}
	for i, k := range known {
		var err api.Errno
		l, err = Grow(l, k.txs, k.from)
		if err != api.OK || len(l) != i+2 || l[i+1].H.Nonce != k.nonce {
			t.Fatal(i, err, tell(l))
		}
		id := unhex(t, k.id)
		ids, levels, leaves = append(ids, id), append(levels, k.level), append(leaves, api.Total{H: id, W: api.Wide{2}, N: 1})
		for place, id := range ids {
			if got := Find(l, id); got != place {
				t.Errorf("%d blocks: place %d is told as %d", len(l), place, got)
			}
		}
		if got := Levels(l); !slices.Equal(got, levels) {
			t.Error(got, levels)
		}
		if got := Leaves(l); !slices.Equal(got, leaves) {
			t.Error(got, leaves)
		}
	}
	tip, err := Check(l)
	all := api.Total{H: unhex(t, "69812e12bfd977f4036b346b2d88c2a91236bc8875dbc7b9fd8dce4459fb22d5"), W: api.Wide{14}, N: 7}
	if err != api.OK || !sameBlock(tip.B, l[6]) || len(tip.P) != 3 || mmr.Root(tip.P) != all {
		t.Error(tip, err)
	}
	if got := []api.Id{ids[0], ids[5], ids[1]}; !slices.Equal(l[6].L, got) {
		t.Error(l[6].L, got)
	}
	worth := 0
	for _, c := range tip.C {
		worth += c.V
	}
	if len(tip.C) != 3 || worth != 100 {
		t.Error(tip.C)
	}
}

// P12.1: Check

func TestCheckOfNoBlocks(t *testing.T) {
	checkIs(t, "nil", nil, api.ErrNone)
	checkIs(t, "empty", []api.Block{}, api.ErrNone)
	checkIs(t, "the first none of a chain's", someChain(3)[:0], api.ErrNone)
	// The call itself, as the lists above are handed on as others.
	for _, l := range [][]api.Block{nil, {}} {
		if tip, err := Check(l); err != api.ErrNone || !sameTip(tip, api.Tip{}) {
			t.Error(tip, err)
		}
	}
}

func TestCheckOfAChain(t *testing.T) {
	for _, bits := range []uint32{easy, 0x207ffffe, 0x20400000, 0x201fffff, 0x20028f5c} {
		l, tips := chainOf(13, bits, someTxs)
		for i, tip := range tips {
			got, err := checked(t, l[:i+1])
			if err != api.OK || !sameTip(got, tip) || !sameBlock(got.B, l[i]) {
				t.Errorf("%x, %d blocks: %d, %+v", bits, i+1, err, got)
			}
		}
	}
}

func TestCheckOfEachFirstBlock(t *testing.T) {
	for _, bits := range goodBits {
		tip, _ := block.First(bits)
		got, err := checked(t, []api.Block{tip.B})
		leaf := api.Total{H: head.Id(tip.B.H), W: head.Work(tip.B.H), N: 1}
		if err != api.OK || !sameBlock(got.B, tip.B) || !slices.Equal(got.P, []api.Total{leaf}) || len(got.C) != 0 {
			t.Errorf("%x: %d, %+v", bits, err, got)
		}
	}
}

// turns are how each bit of a head's parts is turned over.
var turns = []struct {
	name string
	bits int
	turn func(h *api.Head, bit int)
}{
	{"Height", 63, func(h *api.Head, bit int) { h.Height ^= 1 << bit }},
	{"Prev", 256, func(h *api.Head, bit int) { h.Prev[bit/8] ^= 1 << (bit % 8) }},
	{"Links", 256, func(h *api.Head, bit int) { h.Links[bit/8] ^= 1 << (bit % 8) }},
	{"Txs", 256, func(h *api.Head, bit int) { h.Txs[bit/8] ^= 1 << (bit % 8) }},
	{"Past", 256, func(h *api.Head, bit int) { h.Past[bit/8] ^= 1 << (bit % 8) }},
	{"Work", 256, func(h *api.Head, bit int) { h.Work[bit/64] ^= 1 << (bit % 64) }},
	{"Bits", 32, func(h *api.Head, bit int) { h.Bits ^= 1 << bit }},
	{"Nonce", 64, func(h *api.Head, bit int) { h.Nonce ^= 1 << bit }},
}

func TestCheckOfAFirstHeadThatDiffers(t *testing.T) {
	l := someChain(4)
	for _, n := range []int{1, 2, 4} {
		for _, part := range turns {
			for bit := range part.bits {
				m := cloneBlocks(l[:n])
				part.turn(&m[0].H, bit)
				want := api.ErrOther
				if part.name == "Bits" && isCompact(m[0].H.Bits) {
					// It is the first block of these bits, but those behind it have others.
					want = api.ErrPrev
					if n == 1 {
						want = api.OK
					}
				}
				checkIs(t, fmt.Sprint(part.name, " ", bit), m, want)
			}
		}
	}
}

func TestCheckOfAFirstBlockWithLinksOrTransactions(t *testing.T) {
	l, tips := chainOf(4, easy, someTxs)
	odd := []api.Block{
		{L: []api.Id{{}}}, {L: []api.Id{head.Id(l[0].H)}}, {L: someIds(33)},
		{T: []api.Tx{{}}}, {T: []api.Tx{made(1)}}, {T: []api.Tx{made(50), made(51)}},
		{L: []api.Id{{}}, T: []api.Tx{made(1)}},
	}
	for _, o := range odd {
		for _, n := range []int{1, 2, 4} {
			b := api.Block{H: l[0].H, L: o.L, T: o.T}
			checkIs(t, "what the head does not tell", changed(l[:n], 0, b), api.ErrOther)
			if len(b.L) > 0 {
				b.H.Links = link.Root(b.L)
			}
			if len(b.T) > 0 {
				b.H.Txs = block.Next(tips[0], b.T, 0).Txs
			}
			checkIs(t, "what the head tells", changed(l[:n], 0, b), api.ErrOther)
		}
	}
	empty := api.Block{H: l[0].H, L: []api.Id{}, T: []api.Tx{}}
	if _, err := Check(changed(l, 0, empty)); err != api.OK {
		t.Error("without links and transactions, but not nil:", err)
	}
}

func TestCheckOfAFirstBlockOfNoCompactNumber(t *testing.T) {
	l := someChain(3)
	for _, bits := range badBits {
		for _, n := range []int{1, 3} {
			m := cloneBlocks(l[:n])
			for i := range m {
				m[i].H.Bits = bits
			}
			checkIs(t, fmt.Sprintf("%x", bits), m, api.ErrOther)
		}
	}
	checkIs(t, "noughts", []api.Block{{}}, api.ErrOther)
	checkIs(t, "noughts", make([]api.Block, 3), api.ErrOther)
}

func TestCheckOfAFirstBlockFromFurtherOn(t *testing.T) {
	l := someChain(6)
	for i := 1; i < 6; i++ {
		checkIs(t, "without the first ones", l[i:], api.ErrOther)
		checkIs(t, "a later one alone", l[i:i+1], api.ErrOther)
		checkIs(t, "a later one first", changed(l, 0, l[i]), api.ErrOther)
		checkIs(t, "a later one ahead", slices.Concat(l[i:i+1], l), api.ErrOther)
	}
	for _, b := range oddBlocks() {
		checkIs(t, "an odd one", []api.Block{b}, api.ErrOther)
		checkIs(t, "an odd one ahead", slices.Concat([]api.Block{b}, l), api.ErrOther)
	}
}

// spoiling is a block that may not stand behind a tip, and why.
type spoiling struct {
	name string
	err  api.Errno
	b    api.Block
}

// spoilings are a good block, each spoiled by one thing alone; each error of Push is among them that is to be had there.
func spoilings(tip api.Tip, good api.Block) []spoiling {
	var l []spoiling
	turned := func(name string, err api.Errno, turn func(b *api.Block)) {
		b := cloneBlock(good)
		turn(&b)
		l = append(l, spoiling{name, err, found(b, true)})
	}
	turned("a height above all", api.ErrSize, func(b *api.Block) { b.H.Height = 48 })
	turned("another height", api.ErrPrev, func(b *api.Block) { b.H.Height-- })
	turned("another one ahead", api.ErrPrev, func(b *api.Block) { b.H.Prev[31] ^= 1 })
	turned("other bits", api.ErrPrev, func(b *api.Block) { b.H.Bits-- })
	turned("no links", api.ErrLink, func(b *api.Block) { b.L = nil })
	turned("a link more", api.ErrLink, func(b *api.Block) { b.L = append(b.L, api.Id{}) })
	turned("another link", api.ErrLink, func(b *api.Block) { b.L[len(b.L)-1][0] ^= 1 })
	turned("another root of links", api.ErrLink, func(b *api.Block) { b.H.Links[0] ^= 1 })
	turned("a transaction more", api.ErrRoot, func(b *api.Block) { b.T = append(b.T, made(1)) })
	turned("another root of transactions", api.ErrRoot, func(b *api.Block) { b.H.Txs[0] ^= 1 })
	turned("another past", api.ErrRoot, func(b *api.Block) { b.H.Past[0] ^= 1 })
	turned("other work", api.ErrRoot, func(b *api.Block) { b.H.Work[0]++ })
	l = append(l, spoiling{"a sum above the target", api.ErrWork, found(cloneBlock(good), false)})
	for _, odd := range oddTxs(tip) {
		l = append(l, spoiling{odd.name, odd.err, dug(tip, odd.b.T, 0)})
	}
	return l
}

// oddTxs are transactions that may not be a block's behind a tip, each error of Apply that is to be had there among them.
func oddTxs(tip api.Tip) []spoiling {
	missing := api.Coin{In: api.In{Tx: api.Id{9}}}
	l := []spoiling{
		{"no transaction", api.ErrArg, api.Block{T: []api.Tx{{}}}},
		{"one that makes none", api.ErrArg, api.Block{T: []api.Tx{made(1), made(2)}}},
		{"five transactions", api.ErrSize, api.Block{T: slices.Repeat([]api.Tx{made(1)}, 5)}},
		{"more than the reward", api.ErrSpend, api.Block{T: []api.Tx{made(51)}}},
		{"a coin that is not there", api.ErrSpend, api.Block{T: []api.Tx{paid([]api.Coin{missing}, 1)}}},
	}
	if len(tip.C) > 0 && len(tip.C) < 46 {
		l = append(l, spoiling{"coins that are there", api.ErrThere, api.Block{T: []api.Tx{owned(1, 1, 2, 3)}}})
	}
	if len(tip.C) > 45 {
		l = append(l, spoiling{"too many coins", api.ErrFull, api.Block{T: []api.Tx{owned(222, 1, 1, 1)}}})
	}
	return l
}

func TestCheckOfOneSpoiledBlock(t *testing.T) {
	l, tips := chainOf(22, easy, coinsTxs)
	errs := map[api.Errno]int{}
	for _, at := range []int{1, 2, 3, 8, 10, 16, 17, 20, 21} {
		for _, s := range spoilings(tips[at-1], l[at]) {
			name := fmt.Sprint(s.name, " at ", at)
			m := changed(l, at, s.b)
			checkIs(t, name, m, s.err)
			checkIs(t, name+", the last one", m[:at+1], s.err)
			checkIs(t, name+", but up to it", m[:at], api.OK)
			errs[s.err]++
		}
	}
	for _, err := range []api.Errno{
		api.ErrArg, api.ErrSize, api.ErrWork, api.ErrPrev, api.ErrLink, api.ErrRoot, api.ErrSpend, api.ErrThere, api.ErrFull,
	} {
		if errs[err] < 3 {
			t.Errorf("only %d of error %d", errs[err], err)
		}
	}
}

// Here the last block's error is the only one: nothing behind it tells of it, too.
func TestCheckOfALastBlockOfOneBitElse(t *testing.T) {
	l := someChain(6)
	want := map[string]api.Errno{
		"Height": api.ErrPrev, "Prev": api.ErrPrev, "Bits": api.ErrPrev, "Links": api.ErrLink,
		"Txs": api.ErrRoot, "Past": api.ErrRoot, "Work": api.ErrRoot, "Nonce": api.ErrWork,
	}
	for _, part := range turns {
		for bit := range part.bits {
			m := cloneBlocks(l)
			part.turn(&m[5].H, bit)
			err := want[part.name]
			switch {
			case m[5].H.Height > 47:
				err = api.ErrSize
			case part.name == "Nonce" && head.May(m[5].H):
				err = api.OK
			}
			checkIs(t, fmt.Sprint(part.name, " ", bit), m, err)
		}
	}
}

func TestCheckOfTwoSpoiledBlocks(t *testing.T) {
	l, tips := chainOf(20, easy, coinsTxs)
	for _, places := range [][2]int{{1, 2}, {1, 19}, {5, 12}, {18, 19}} {
		at, later := places[0], places[1]
		for _, s := range spoilings(tips[at-1], l[at]) {
			for _, other := range spoilings(tips[later-1], l[later]) {
				m := changed(changed(l, at, s.b), later, other.b)
				checkIs(t, fmt.Sprint(s.name, " at ", at, ", ", other.name, " at ", later), m, s.err)
			}
		}
	}
	for _, s := range spoilings(tips[8], l[9]) {
		m := changed(l, 9, s.b)
		m[0].H.Nonce++
		checkIs(t, s.name+", behind another first block", m, api.ErrOther)
	}
}

func TestCheckOfTheSameBlockTwice(t *testing.T) {
	l := someChain(8)
	for i := range l {
		checkIs(t, "twice", slices.Insert(slices.Clone(l), i, l[i]), api.ErrPrev)
		checkIs(t, "twice, at the end", slices.Insert(slices.Clone(l[:i+1]), i, l[i]), api.ErrPrev)
		checkIs(t, "once more, behind all", append(slices.Clone(l), l[i]), api.ErrPrev)
	}
	checkIs(t, "all twice", slices.Concat(l, l), api.ErrPrev)
}

func TestCheckOfAnotherOrder(t *testing.T) {
	l := someChain(8)
	for i := range l {
		for k := range i {
			m := slices.Clone(l)
			m[i], m[k] = m[k], m[i]
			want := api.ErrPrev
			if k == 0 {
				want = api.ErrOther
			}
			checkIs(t, "two in each other's place", m, want)
		}
	}
	turned := slices.Clone(l)
	slices.Reverse(turned)
	checkIs(t, "from the last one on", turned, api.ErrOther)
	checkIs(t, "all but the first one from the last one on", slices.Concat(l[:1], turned[:7]), api.ErrPrev)
	checkIs(t, "the last one first", slices.Concat(l[7:], l[:7]), api.ErrOther)
}

func TestCheckWithoutAMiddleBlock(t *testing.T) {
	l := someChain(9)
	for i := 1; i < 8; i++ {
		for n := 1; i+n < 9; n++ {
			checkIs(t, "without some", slices.Concat(l[:i], l[i+n:]), api.ErrPrev)
		}
	}
	checkIs(t, "without the first one", l[1:], api.ErrOther)
	checkIs(t, "without the last one", l[:8], api.OK)
}

// Two chains of the same beginning, and of other transactions or nonces behind it.
func TestCheckOfTwoChainsMixed(t *testing.T) {
	one, tips := chainOf(9, easy, someTxs)
	for _, fork := range []int{1, 4, 8} {
		tip, other := tips[fork-1], slices.Clone(one[:fork])
		for i := fork; i < 9; i++ {
			b := dug(tip, []api.Tx{owned(100+i, 5)}, 3)
			next, err := block.Push(tip, b)
			if err != api.OK {
				t.Fatal(err)
			}
			tip, other = next, append(other, b)
		}
		checkIs(t, "the other one", other, api.OK)
		for at := range 10 {
			want := api.ErrPrev
			if at <= fork || at == 9 {
				want = api.OK
			}
			checkIs(t, "the one's beginning, the other's end", slices.Concat(one[:at], other[at:]), want)
			checkIs(t, "the other's beginning, the one's end", slices.Concat(other[:at], one[at:]), want)
			if at < fork || at > 7 {
				continue
			}
			mixed := changed(one, at, other[at])
			checkIs(t, "one of the other's", mixed, api.ErrPrev)
		}
	}
	far, _ := chainOf(9, 0x20400000, someTxs)
	for at := 1; at < 9; at++ {
		checkIs(t, "of other bits", slices.Concat(one[:at], far[at:]), api.ErrPrev)
		checkIs(t, "of other bits", slices.Concat(far[:at], one[at:]), api.ErrPrev)
	}
}

func TestCheckUpToTheGreatestHeight(t *testing.T) {
	for _, txs := range []func(api.Tip, int) []api.Tx{someTxs, coinsTxs} {
		l, tips := chainOf(48, easy, txs)
		tip, err := checked(t, l)
		if err != api.OK || tip.B.H.Height != 47 || !sameTip(tip, tips[47]) {
			t.Fatal(err, tip.B.H.Height)
		}
		more := append(slices.Clone(l), dug(tips[47], nil, 0))
		checkIs(t, "one more", more, api.ErrSize)
		checkIs(t, "one more, and others", append(more, oddBlocks()...), api.ErrSize)
		checkIs(t, "the last one twice", append(slices.Clone(l), l[47]), api.ErrPrev)
		// Of more blocks than a chain can have, too, the first error counts.
		l[47] = found(l[47], false)
		l[47].H.Nonce++
		l[47] = found(l[47], false)
		checkIs(t, "the last one but one spoiled", append(slices.Clone(l), more[48]), api.ErrWork)
	}
}

func TestCheckOfAnyBlocks(t *testing.T) {
	r := rand.New(rand.NewSource(1))
	odd := oddBlocks()
	full, _ := chainOf(12, easy, coinsTxs)
	chains := [][]api.Block{someChain(12), full}
	errs := map[api.Errno]int{}
	for range 600 {
		l := slices.Clone(chains[r.Intn(2)][:1+r.Intn(12)])
		for range r.Intn(3) {
			at := r.Intn(len(l))
			switch r.Intn(4) {
			case 0:
				l[at] = odd[r.Intn(len(odd))]
			case 1:
				l[at] = chains[r.Intn(2)][r.Intn(12)]
			case 2:
				part := turns[r.Intn(len(turns))]
				part.turn(&l[at].H, r.Intn(part.bits))
			case 3:
				l[at].T = append(slices.Clone(l[at].T), made(1))
			}
		}
		_, err := checked(t, l)
		errs[err]++
	}
	for _, err := range []api.Errno{api.OK, api.ErrOther, api.ErrPrev, api.ErrRoot} {
		if errs[err] < 10 {
			t.Errorf("only %d of error %d", errs[err], err)
		}
	}
	for range 200 {
		var l []api.Block
		for range r.Intn(60) {
			l = append(l, odd[r.Intn(len(odd))])
		}
		checked(t, l)
	}
}

// P12.1: Same

func TestSameOfTheSame(t *testing.T) {
	for _, l := range [][]api.Block{someChain(1), someChain(2), someChain(9), oddBlocks(), make([]api.Block, 300)} {
		same(t, "itself", l, l, true)
		same(t, "a copy", l, cloneBlocks(l), true)
		if !Same(l, l) {
			t.Error("not itself", tell(l))
		}
	}
}

func TestSameOfNilAndEmpty(t *testing.T) {
	for _, a := range [][]api.Block{nil, {}, make([]api.Block, 0, 3)} {
		for _, b := range [][]api.Block{nil, {}, make([]api.Block, 0, 3)} {
			if !Same(a, b) {
				t.Error("none are not none")
			}
		}
		for _, l := range [][]api.Block{{{}}, make([]api.Block, 2), someChain(1), someChain(3)} {
			if Same(a, l) || Same(l, a) {
				t.Error("none are some")
			}
		}
	}
	bare := []api.Block{{T: []api.Tx{{}}}}
	empty := []api.Block{{L: []api.Id{}, T: []api.Tx{{In: []api.In{}, Out: []api.Out{}}}}}
	if !Same(bare, empty) || !Same(empty, bare) || !Same([]api.Block{{}}, []api.Block{{L: []api.Id{}, T: []api.Tx{}}}) {
		t.Error("nil ones in a block are not empty ones")
	}
}

func TestSameOfOtherLengths(t *testing.T) {
	l := someChain(9)
	for i := range 10 {
		for k := range 10 {
			same(t, "beginnings", l[:i], l[:k], i == k)
			same(t, "ends", l[i:], l[k:], i == k)
		}
	}
	same(t, "noughts", make([]api.Block, 2), make([]api.Block, 3), false)
	same(t, "one more", l, append(slices.Clone(l), api.Block{}), false)
	same(t, "one more ahead", l, slices.Insert(slices.Clone(l), 0, api.Block{}), false)
}

func TestSameOfAnotherOrder(t *testing.T) {
	l := someChain(6)
	for i := range l {
		for k := range i {
			m := slices.Clone(l)
			m[i], m[k] = m[k], m[i]
			same(t, "two in each other's place", l, m, false)
			m[k] = m[i]
			same(t, "one of them twice", l, m, false)
		}
	}
}

func TestSameOfBlocksOfWhichOneDiffers(t *testing.T) {
	l, tips := chainOf(9, easy, someTxs)
	full := api.Block{H: l[8].H, L: someIds(3), T: []api.Tx{made(1, 2), paid(tips[5].C[:2], 3, 4), {}}}
	l[4], l[8] = full, full
	others := []func(b *api.Block){
		func(b *api.Block) { b.L = b.L[:2] },
		func(b *api.Block) { b.L = b.L[1:] },
		func(b *api.Block) { b.L = nil },
		func(b *api.Block) { b.L = append(b.L, api.Id{}) },
		func(b *api.Block) { b.L[0][0]++ },
		func(b *api.Block) { b.L[2][31]++ },
		func(b *api.Block) { b.L[0], b.L[1] = b.L[1], b.L[0] },
		func(b *api.Block) { b.T = nil },
		func(b *api.Block) { b.T = b.T[:2] },
		func(b *api.Block) { b.T = append(b.T, api.Tx{}) },
		func(b *api.Block) { b.T[0], b.T[1] = b.T[1], b.T[0] },
		func(b *api.Block) { b.T[0].Out[1].V++ },
		func(b *api.Block) { b.T[0].Out[0].To++ },
		func(b *api.Block) { b.T[1].In[1].I++ },
		func(b *api.Block) { b.T[1].In[0].Tx[7]++ },
		func(b *api.Block) { b.T[1].In = b.T[1].In[:1] },
		func(b *api.Block) { b.T[1].Out = b.T[1].Out[:1] },
		func(b *api.Block) { b.T[2].Out = made(0).Out },
	}
	for _, at := range []int{4, 8} {
		for i, other := range others {
			m := cloneBlocks(l)
			other(&m[at])
			same(t, fmt.Sprint("links or transactions ", i, " at ", at), l, m, false)
		}
	}
	for at := range l {
		for _, part := range turns {
			for _, bit := range []int{0, 1, part.bits / 2, part.bits - 1} {
				m := cloneBlocks(l)
				part.turn(&m[at].H, bit)
				same(t, fmt.Sprint(part.name, " ", bit, " at ", at), l, m, false)
			}
		}
	}
}

// P12.2: New

func newIs(t *testing.T, bits uint32) bool {
	t.Helper()
	got := asked(t, question{}, func(question) answer {
		l, is := New(bits)
		return answer{l: l, is: is}
	})
	if got.is != isCompact(bits) {
		t.Fatalf("%x: %v", bits, got.is)
	}
	if !got.is {
		if len(got.l) != 0 {
			t.Errorf("%x: %s of none", bits, tell(got.l))
		}
		return false
	}
	none := mmr.Root(nil)
	noLeaf := link.Root(nil)
	first := api.Block{H: api.Head{Links: noLeaf, Txs: noLeaf, Past: none.H, Bits: bits}}
	tip, _ := block.First(bits)
	if !sameBlocks(got.l, []api.Block{first}) || !sameBlock(first, tip.B) {
		t.Errorf("%x: %+v", bits, got.l)
	}
	return true
}

func TestNewOfCompactNumbers(t *testing.T) {
	for _, bits := range goodBits {
		if !newIs(t, bits) {
			t.Errorf("%x: none", bits)
		}
	}
	for e := uint32(3); e <= 32; e++ {
		for _, m := range []uint32{0x8000, 0x8001, 0xffff, 0x123456, 0x7ffffe, 0x7fffff} {
			if !newIs(t, e<<24|m) {
				t.Errorf("%x: none", e<<24|m)
			}
		}
	}
}

func TestNewOfOtherNumbers(t *testing.T) {
	for _, bits := range badBits {
		if newIs(t, bits) {
			t.Errorf("%x: there is one", bits)
		}
	}
	for e := range uint32(256) {
		for _, m := range []uint32{0, 1, 0x7fff, 0x800000, 0xffffff} {
			if newIs(t, e<<24|m) {
				t.Errorf("%x: there is one", e<<24|m)
			}
		}
	}
}

// The greatest and the least number of all that are compact, and those next to them.
func TestNewAtTheEdges(t *testing.T) {
	for bits, want := range map[uint32]bool{
		0x207fffff: true, 0x20800000: false, 0x21008000: false, 0x03008000: true, 0x03007fff: false, 0x027fffff: false,
		0: false, math.MaxUint32: false,
	} {
		if newIs(t, bits) != want {
			t.Errorf("%x: not %v", bits, want)
		}
	}
	for _, bits := range []uint32{0x207fffff, 0x03008000} {
		l, _ := New(bits)
		checkIs(t, "a new one", l, api.OK)
		if levels := levelsOf(t, l); !slices.Equal(levels, []int{31}) {
			t.Errorf("%x: %v", bits, levels)
		}
	}
}

// P12.2: Grow

func TestGrowOfAChain(t *testing.T) {
	l, tips := chainOf(14, easy, someTxs)
	for i, tip := range tips {
		for _, txs := range [][]api.Tx{nil, {}, {made(1)}, {made(50)}, someTxs(tip, 101), someTxs(tip, 102), someTxs(tip, 103)} {
			for _, nonce := range []uint64{0, 1, 12345, 1 << 63} {
				m, err := grown(t, l[:i+1], txs, nonce)
				if err != api.OK || len(m) != i+2 || !sameBlocks(m[:i+1], l[:i+1]) {
					t.Fatalf("%d blocks: %d, %s", i+1, err, tell(m))
				}
				b := m[i+1]
				if b.H.Height != i+1 || b.H.Prev != head.Id(l[i].H) || !slices.EqualFunc(b.T, txs, sameTx) || b.H.Nonce-nonce >= 200 {
					t.Errorf("%d blocks: %+v", i+1, b)
				}
				checkIs(t, "what is grown", m, api.OK)
			}
		}
	}
}

func TestGrowOfNoBlocks(t *testing.T) {
	for _, txs := range [][]api.Tx{nil, {made(1)}, {made(51)}, slices.Repeat([]api.Tx{{}}, 5)} {
		growIs(t, "nil", nil, txs, api.ErrNone)
		for _, l := range [][]api.Block{nil, {}} {
			if m, err := Grow(l, txs, 0); err != api.ErrNone || len(m) != 0 {
				t.Error(m, err)
			}
		}
	}
}

// Whatever stands behind, of what is no chain Check's error is told.
func TestGrowOfWhatIsNoChain(t *testing.T) {
	l, tips := chainOf(20, easy, coinsTxs)
	lists := [][]api.Tx{nil, {made(51)}, slices.Repeat([]api.Tx{made(1)}, 5)}
	for _, at := range []int{1, 9, 18, 19} {
		for _, s := range spoilings(tips[at-1], l[at]) {
			for _, txs := range lists {
				growIs(t, fmt.Sprint(s.name, " at ", at), changed(l, at, s.b), txs, s.err)
			}
		}
	}
	for _, txs := range lists {
		growIs(t, "without the first one", l[1:], txs, api.ErrOther)
		growIs(t, "without a middle one", slices.Concat(l[:4], l[5:]), txs, api.ErrPrev)
		growIs(t, "odd ones", oddBlocks(), txs, api.ErrOther)
		growIs(t, "noughts", make([]api.Block, 60), txs, api.ErrOther)
	}
	for _, b := range oddBlocks() {
		growIs(t, "an odd one", []api.Block{b}, nil, api.ErrOther)
		want := api.ErrPrev
		if b.H.Height > 47 {
			want = api.ErrSize
		}
		growIs(t, "an odd one behind", append(slices.Clone(l), b), nil, want)
	}
}

func TestGrowByTransactionsOfEachError(t *testing.T) {
	l, tips := chainOf(20, easy, coinsTxs)
	errs := map[api.Errno]int{}
	for i, tip := range tips {
		for _, odd := range oddTxs(tip) {
			growIs(t, odd.name, l[:i+1], odd.b.T, odd.err)
			errs[odd.err]++
		}
	}
	for _, err := range []api.Errno{api.ErrArg, api.ErrSize, api.ErrSpend, api.ErrThere, api.ErrFull} {
		if errs[err] < 4 {
			t.Errorf("only %d of error %d", errs[err], err)
		}
	}
}

func TestGrowBehindTheGreatestHeight(t *testing.T) {
	l, tips := chainOf(48, easy, coinsTxs)
	m, err := grown(t, l[:47], nil, 0)
	if err != api.OK || len(m) != 48 || m[47].H.Height != 47 {
		t.Error(err, tell(m))
	}
	growIs(t, "behind that one", m, nil, api.ErrSize)
	growIs(t, "behind the greatest height", l, nil, api.ErrSize)
	for _, odd := range oddTxs(tips[47]) {
		growIs(t, odd.name, l, odd.b.T, api.ErrSize)
		growIs(t, odd.name, l[:47], odd.b.T, odd.err)
	}
	more := append(slices.Clone(l), dug(tips[47], nil, 0))
	growIs(t, "behind more than may be", more, nil, api.ErrSize)
}

func TestGrowWithATargetOfTooFewTries(t *testing.T) {
	for _, bits := range goodBits {
		tip, _ := block.First(bits)
		l := []api.Block{tip.B}
		for _, nonce := range []uint64{0, 1 << 40, last - 100, last} {
			grown(t, l, nil, nonce)
		}
		if bits < 0x1d000000 {
			growIs(t, "a target that is out of reach", l, nil, api.ErrWork)
			growIs(t, "a target that is out of reach", l, []api.Tx{made(50)}, api.ErrWork)
			growIs(t, "and more than the reward", l, []api.Tx{made(51)}, api.ErrSpend)
		}
	}
}

// mayNonces are the nonces from first on, as many as count, by which the block behind a tip may be.
func mayNonces(tip api.Tip, txs []api.Tx, first uint64, count int) []uint64 {
	h := block.Next(tip, txs, first)
	var l []uint64
	for range count {
		if head.May(h) {
			l = append(l, h.Nonce)
		}
		h.Nonce++
	}
	return l
}

func TestGrowWithJustAsManyTries(t *testing.T) {
	l, tips := chainOf(2, rare, someTxs)
	for i, tip := range tips {
		far := 0
		nonces := mayNonces(tip, nil, 0, 20000)
		for k := 1; k < len(nonces); k++ {
			does, free := nonces[k], nonces[k]-nonces[k-1]-1
			for _, back := range []uint64{0, 1, 2, 99, 198, 199, 200, 201} {
				if back > free {
					continue
				}
				m, err := grown(t, l[:i+1], nil, does-back)
				switch {
				case back >= 200:
					far++
					if err != api.ErrWork || len(m) != i+1 {
						t.Errorf("%d tries are not too many: %d", back+1, err)
					}
				case err != api.OK || m[i+1].H.Nonce != does:
					t.Errorf("%d tries are too many: %d", back+1, err)
				}
			}
		}
		if far < 10 {
			t.Errorf("only %d are out of reach", far)
		}
	}
}

// Behind the greatest nonce comes 0.
func TestGrowFromTheGreatestNonces(t *testing.T) {
	for _, bits := range []uint32{easy, rare} {
		l, tips := chainOf(2, bits, someTxs)
		round, near, none := 0, 0, 0
		for _, from := range []uint64{last, last - 1, last - 2, last - 50, last - 100, last - 198, last - 199, last - 200} {
			for i := range 20 {
				txs := []api.Tx{owned(i, 7)}
				may := mayNonces(tips[1], txs, from, 200)
				m, err := grown(t, l, txs, from)
				switch {
				case len(may) == 0:
					none++
					if err != api.ErrWork || len(m) != 2 {
						t.Errorf("from %d on: %d", from, err)
					}
					continue
				case err != api.OK || m[2].H.Nonce != may[0]:
					t.Fatalf("from %d on: %d, %s, not %d", from, err, tell(m), may[0])
				case may[0] < from:
					round++
				default:
					near++
				}
			}
		}
		if round < 10 || near < 10 || bits == rare && none < 10 {
			t.Errorf("%x: %d, %d, %d", bits, round, near, none)
		}
	}
}

// What is answered has no two lists in one place, even if what is handed in has.
func TestNoTwoListsOfOneAnswerAreOne(t *testing.T) {
	l, tips := chainOf(6, easy, coinsTxs)
	outs := made(1, 2, 3).Out
	twice := api.Block{H: l[3].H, L: l[3].L, T: []api.Tx{{In: paid(tips[4].C[:2], 1).In, Out: outs}, {Out: outs}}}
	for _, m := range [][]api.Block{l, {twice, twice, {L: twice.L}, {T: twice.T}}} {
		got, _ := Grow(m, nil, 0)
		want := cloneBlocks(got)
		for i := range got {
			for k := range got[i].T {
				fill(got[i].T[k].In, api.In{I: i*10 + k})
				fill(got[i].T[k].Out, api.Out{V: i*10 + k})
				fill(want[i].T[k].In, api.In{I: i*10 + k})
				fill(want[i].T[k].Out, api.Out{V: i*10 + k})
			}
			fill(got[i].L, api.Id{byte(i)})
			fill(want[i].L, api.Id{byte(i)})
			if !sameBlocks(got, want) {
				t.Fatalf("block %d shares what is another one's", i)
			}
		}
	}
}

// P12.3

func TestFindOfEachBlock(t *testing.T) {
	l := someChain(48)
	for i, b := range l {
		id := head.Id(b.H)
		findIs(t, "each one's", l, id, i)
		findIs(t, "the last one's", l[:i+1], id, i)
		findIs(t, "the first one's", l[i:], id, 0)
		findIs(t, "one that is not there yet", l[:i], id, -1)
		findIs(t, "one that is there no more", l[i+1:], id, -1)
		if i > 0 {
			findIs(t, "the one ahead", l, b.H.Prev, i-1)
		}
	}
}

func TestFindOfAnIdOfNone(t *testing.T) {
	l := someChain(9)
	for i, b := range l {
		for bit := range 256 {
			id := head.Id(b.H)
			id[bit/8] ^= 1 << (bit % 8)
			if got := Find(l, id); got != -1 {
				t.Errorf("place %d, bit %d: %d", i, bit, got)
			}
		}
		for _, id := range []api.Id{{}, {1}, b.H.Links, b.H.Txs, b.H.Past} {
			if i == 1 && id == b.H.Past {
				// All heads ahead of it are the first one alone.
				continue
			}
			findIs(t, "another sum", l, id, -1)
		}
	}
}

func TestFindOfNoBlocks(t *testing.T) {
	for _, id := range []api.Id{{}, {1}, head.Id(someChain(1)[0].H)} {
		findIs(t, "of none", nil, id, -1)
		for _, l := range [][]api.Block{nil, {}} {
			if got := Find(l, id); got != -1 {
				t.Error(got)
			}
		}
	}
}

func TestFindTellsTheFirstPlace(t *testing.T) {
	l := someChain(9)
	for i, b := range l {
		id := head.Id(b.H)
		findIs(t, "all twice", slices.Concat(l, l), id, i)
		findIs(t, "all once more, turned round", append(slices.Clone(l), l[8], l[7], l[6], l[5], l[4], l[3], l[2], l[1], l[0]), id, i)
		findIs(t, "one all over", slices.Repeat([]api.Block{b}, 100), id, 0)
		// Of links and transactions a sum does not tell by itself.
		other := api.Block{H: b.H, L: someIds(3), T: []api.Tx{made(9)}}
		findIs(t, "the same head ahead", slices.Concat([]api.Block{{}, other}, l), id, 1)
		findIs(t, "the same head behind", append(slices.Clone(l), other), id, i)
	}
}

// A head that has no bytes has a zero Id.
func TestFindOfHeadsWithoutBytes(t *testing.T) {
	l := someChain(3)
	for _, height := range []int{-1, 1<<20 + 1, math.MinInt, math.MaxInt} {
		none := api.Block{H: api.Head{Height: height, Bits: easy}}
		findIs(t, "one", []api.Block{none}, api.Id{}, 0)
		findIs(t, "two of them", slices.Concat(l, []api.Block{none, none}), api.Id{}, 3)
		findIs(t, "one ahead", slices.Concat([]api.Block{none}, l), head.Id(l[2].H), 3)
	}
}

func TestFindOfAnyBlocks(t *testing.T) {
	l := slices.Concat(oddBlocks(), oddBlocks(), someChain(5), oddBlocks())
	for _, b := range l {
		findIs(t, "odd ones", l, head.Id(b.H), wantFind(l, head.Id(b.H)))
	}
}

func TestLevelsAndLeavesOfNone(t *testing.T) {
	for _, l := range [][]api.Block{nil, {}} {
		if levels, leaves := Levels(l), Leaves(l); len(levels) != 0 || len(leaves) != 0 {
			t.Error(levels, leaves)
		}
	}
}

func TestLevelsAndLeavesOfOne(t *testing.T) {
	for _, bits := range goodBits {
		l, _ := New(bits)
		levels, leaves := levelsOf(t, l), leavesOf(t, l)
		if levels[0] != 31 || leaves[0] != mmr.Leaf(head.Id(l[0].H), head.Work(l[0].H)) {
			t.Errorf("%x: %v, %+v", bits, levels, leaves)
		}
	}
	// The work that a head takes, not that which it tells of all ahead of it.
	if leaves := leavesOf(t, someChain(2)[1:]); leaves[0].W != (api.Wide{2}) {
		t.Error(leaves)
	}
	if leaves := leavesOf(t, []api.Block{{H: api.Head{Bits: easy, Work: api.Wide{9}}}}); leaves[0].W != (api.Wide{2}) {
		t.Error(leaves)
	}
}

func TestLevelsAndLeavesOfMany(t *testing.T) {
	for _, bits := range []uint32{easy, 0x20400000, 0x20028f5c} {
		l, _ := chainOf(48, bits, someTxs)
		levels, leaves := levelsOf(t, l), leavesOf(t, l)
		most := 0
		for i, level := range levels[1:] {
			if level < 0 || level > 20 {
				t.Errorf("place %d: level %d", i+1, level)
			}
			most = max(most, level)
		}
		if levels[0] != 31 || most < 2 {
			t.Error(levels)
		}
		for i := range l {
			if !slices.Equal(levelsOf(t, l[i:]), levels[i:]) || !slices.Equal(leavesOf(t, l[:i]), leaves[:i]) {
				t.Errorf("%d blocks: a part has others", i)
			}
		}
	}
}

func TestLevelsAndLeavesOfWhatIsNoChain(t *testing.T) {
	l := oddBlocks()
	levels, leaves := levelsOf(t, l), leavesOf(t, l)
	for i, b := range l {
		may := b.H.Height >= 0 && b.H.Height <= 1<<20
		switch {
		case !isCompact(b.H.Bits) && (levels[i] != -1 || leaves[i].W != api.Wide{}):
			t.Errorf("place %d: level %d, work %d of no compact number", i, levels[i], leaves[i].W)
		case !may && (levels[i] != -1 || leaves[i].H != api.Id{}):
			t.Errorf("place %d: level %d, Id %x of no height", i, levels[i], leaves[i].H)
		case may && isCompact(b.H.Bits) && b.H.Height == 0 && levels[i] != 31:
			t.Errorf("place %d: level %d", i, levels[i])
		case isCompact(b.H.Bits) && leaves[i].W == api.Wide{}:
			t.Errorf("place %d: no work", i)
		}
	}
	long := slices.Repeat(l, 5)
	if len(long) < 250 || !slices.Equal(levelsOf(t, long), slices.Repeat(levels, 5)) || !slices.Equal(leavesOf(t, long), slices.Repeat(leaves, 5)) {
		t.Error(len(long))
	}
	turned := slices.Clone(l)
	slices.Reverse(turned)
	slices.Reverse(levels)
	slices.Reverse(leaves)
	if !slices.Equal(levelsOf(t, turned), levels) || !slices.Equal(leavesOf(t, turned), leaves) {
		t.Error("turned round, but not so")
	}
}

// P12.4

// anyTxs are what could be a block's: most of them may be.
func anyTxs(r *rand.Rand, p []api.Coin) []api.Tx {
	var l []api.Tx
	if r.Intn(4) > 0 {
		l = append(l, owned(r.Intn(256), 1+r.Intn(20), 1+r.Intn(20)))
	}
	for _, at := range r.Perm(len(p))[:min(len(p), r.Intn(4))] {
		l = append(l, paid(p[at:at+1], 1+r.Intn(p[at].V)))
	}
	return l
}

func TestWhatIsGrownIsAChain(t *testing.T) {
	refused := 0
	for seed := range int64(3) {
		r := rand.New(rand.NewSource(seed))
		bits := []uint32{easy, 0x20400000, 0x201fffff}[seed%3]
		l, is := New(bits)
		if !is {
			t.Fatal("no first one")
		}
		for len(l) < 48 {
			tip, err := checked(t, l)
			if err != api.OK || !sameBlock(tip.B, l[len(l)-1]) {
				t.Fatalf("seed %d: %s: %d", seed, tell(l), err)
			}
			more, err := grown(t, l, anyTxs(r, tip.C), r.Uint64())
			if err != api.OK {
				refused++
				more, err = grown(t, l, nil, r.Uint64())
			}
			if err != api.OK || t.Failed() {
				t.Fatalf("seed %d: %s: %d", seed, tell(l), err)
			}
			l = more
		}
		checkIs(t, "up to the greatest height", l, api.OK)
		growIs(t, "no further", l, nil, api.ErrSize)
		beginningsAre(t, l)
		aheadIs(t, l)
	}
	if refused > 50 {
		t.Errorf("%d blocks are refused", refused)
	}
}

// beginningsAre holds each beginning of a chain against what it must be.
func beginningsAre(t *testing.T, l []api.Block) {
	t.Helper()
	for n := range len(l) + 1 {
		want := api.OK
		if n == 0 {
			want = api.ErrNone
		}
		tip, err := checked(t, l[:n])
		if err != want || n > 0 && (!sameBlock(tip.B, l[n-1]) || mmr.Root(tip.P).N != n) {
			t.Errorf("the first %d: %d", n, err)
		}
	}
}

// aheadIs holds each head of a chain against the leaves ahead of it.
func aheadIs(t *testing.T, l []api.Block) {
	t.Helper()
	leaves := leavesOf(t, l)
	for i, b := range l {
		all := wantTotal(leaves[:i])
		if all.H != b.H.Past || all.W != b.H.Work || all.N != i {
			t.Errorf("place %d: %+v, not %x, %d", i, all, b.H.Past, b.H.Work)
		}
	}
	tip, err := checked(t, l)
	if err != api.OK || mmr.Root(tip.P) != wantTotal(leaves) {
		t.Errorf("%s: %d", tell(l), err)
	}
}

func TestTheTotalAheadIsWhatTheHeadTells(t *testing.T) {
	for _, bits := range []uint32{easy, 0x207ffffe, 0x20400000, 0x20028f5c} {
		l, _ := chainOf(48, bits, coinsTxs)
		aheadIs(t, l)
		beginningsAre(t, l)
	}
	l, _ := New(least)
	aheadIs(t, l)
	none := unhex(t, "e52d9c508c502347344d8c07ad91cbd6068afc75ff6292f062a09ca381c89e71")
	if l[0].H.Past != none || l[0].H.Work != (api.Wide{}) {
		t.Error(l[0].H)
	}
}

// R5

func TestAnswersHangOnNothingElse(t *testing.T) {
	l := someChain(7)
	odd := oddBlocks()
	ask := func() string {
		first, is := New(easy)
		tip, err := Check(l)
		none, fault := Check(l[1:])
		more, fine := Grow(l, []api.Tx{made(50)}, 3)
		stays, wrong := Grow(l, []api.Tx{made(51)}, 3)
		return fmt.Sprint(first, is, tip, err, none, fault, more, fine, stays, wrong, Find(l, head.Id(l[4].H)), Levels(l), Leaves(l), Same(l, odd))
	}
	want := ask()
	for i := range odd {
		New(odd[i].H.Bits)
		Check(odd[i:])
		Grow(append(slices.Clone(l), odd[i]), nil, 9)
		Find(odd, api.Id{})
		Levels(odd)
		Leaves(odd)
		Same(odd, odd[i:])
	}
	if ask() != want {
		t.Error("asked again, another answer")
	}
}
