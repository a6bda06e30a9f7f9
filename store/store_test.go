package store

import (
	"encoding/hex"
	"fmt"
	"math"
	"math/big"
	"math/rand"
	"slices"
	"testing"

	"stepladder/api"
	"stepladder/block"
	"stepladder/chain"
	"stepladder/coin"
	"stepladder/head"
	"stepladder/link"
	"stepladder/wide"
)

// Bits that are compact numbers.
const (
	easy  = 0x207fffff // the greatest target: each second sum may be
	half  = 0x20400000
	rare  = 0x20028f5c // about one sum of 50 may be
	least = 0x03008000 // the least target: no sum may be that is found by trying
)

// Bits that are a compact number, from the least one to the greatest one, and such as are none.
var (
	goodBits = []uint32{
		0x03008000, 0x03008001, 0x037fffff, 0x04008000, 0x0400ffff, 0x10123456, 0x1d00ffff, 0x1f7fffff,
		0x20008000, 0x20028f5c, 0x2000ffff, 0x20400000, 0x207ffffe, 0x207fffff,
	}
	badBits = []uint32{
		0, 1, 5, 0x7fff, 0x8000, 0x7fffff, 0xffffff, 0x01008000, 0x02008000, 0x027fffff,
		0x03000000, 0x03007fff, 0x03800000, 0x03ffffff, 0x1d000000, 0x1d007fff, 0x1d800000,
		0x20000000, 0x20007fff, 0x20800000, 0x20ffffff, 0x21008000, 0x217fffff, 0x7f7fffff,
		0x80008000, 0x83008000, 0xa07fffff, 0xff008000, 0xff7fffff, 0xffffffff,
	}
)

// The chapter's words once more, by the calls that they name; each goes another way round.

func isCompact(bits uint32) bool {
	e, m := bits>>24, bits&0xffffff
	return e >= 3 && e <= 32 && m >= 0x8000 && m <= 0x7fffff
}

func wantChain(s api.Store, i int) []api.Block {
	if len(s.B) != len(s.Par) || i < 0 || i > len(s.B)-1 {
		return nil
	}
	if s.Par[i] < 0 || s.Par[i] > i-1 {
		return s.B[i : i+1]
	}
	return slices.Concat(wantChain(s, s.Par[i]), s.B[i:i+1])
}

// wantMay pushes each block on the tip up to the one behind which it stands.
func wantMay(s api.Store) bool {
	n := len(s.Par)
	if n == 0 || n > 40 || len(s.B) != n || s.Par[0] != -1 {
		return false
	}
	first, err := chain.Check(s.B[:1])
	if err != api.OK {
		return false
	}
	tips := []api.Tip{first}
	for i, par := range s.Par[1:] {
		if par < 0 || par > i {
			return false
		}
		tip, err := block.Push(tips[par], s.B[i+1])
		if err != api.OK {
			return false
		}
		for _, other := range tips {
			if head.Id(other.B.H) == head.Id(tip.B.H) {
				return false
			}
		}
		tips = append(tips, tip)
	}
	return true
}

func wantPut(s api.Store, b api.Block) (api.Store, api.Errno) {
	at := slices.IndexFunc(s.B, func(a api.Block) bool { return head.Id(a.H) == b.H.Prev })
	there := slices.IndexFunc(s.B, func(a api.Block) bool { return head.Id(a.H) == head.Id(b.H) })
	switch {
	case !wantMay(s):
		return s, api.ErrArg
	case there >= 0:
		return s, api.ErrThere
	case at < 0:
		return s, api.ErrNone
	case len(s.B) == 40:
		return s, api.ErrFull
	}
	if _, err := chain.Check(slices.Concat(wantChain(s, at), []api.Block{b})); err != api.OK {
		return s, err
	}
	return api.Store{B: slices.Concat(s.B, []api.Block{b}), Par: slices.Concat(s.Par, []int{at})}, api.OK
}

// weight is the work of all heads up to a block.
func weight(b api.Block) *big.Int {
	ahead, own := wide.Bytes(b.H.Work), wide.Bytes(head.Work(b.H))
	return new(big.Int).Add(new(big.Int).SetBytes(ahead[:]), new(big.Int).SetBytes(own[:]))
}

func wantTips(s api.Store) []int {
	if !wantMay(s) {
		return nil
	}
	ahead := map[int]int{}
	for _, par := range s.Par {
		ahead[par]++
	}
	var l []int
	for i := range s.B {
		if ahead[i] == 0 {
			l = append(l, i)
		}
	}
	slices.SortStableFunc(l, func(i, j int) int { return weight(s.B[j]).Cmp(weight(s.B[i])) })
	return l
}

func sameTx(a, b api.Tx) bool {
	return slices.Equal(a.In, b.In) && slices.Equal(a.Out, b.Out)
}

func sameBlock(a, b api.Block) bool {
	return a.H == b.H && slices.Equal(a.L, b.L) && slices.EqualFunc(a.T, b.T, sameTx)
}

func sameBlocks(a, b []api.Block) bool {
	return slices.EqualFunc(a, b, sameBlock)
}

func sameStore(a, b api.Store) bool {
	return sameBlocks(a.B, b.B) && slices.Equal(a.Par, b.Par)
}

// Blocks, transactions and stores to ask of

// owned is a transaction without Ins, of which another one could not be taken for it.
func owned(to int, v ...int) api.Tx {
	var t api.Tx
	for _, n := range v {
		t.Out = append(t.Out, api.Out{V: n, To: to})
	}
	return t
}

// paid is a transaction that spends these coins.
func paid(p []api.Coin, v ...int) api.Tx {
	t := owned(0, v...)
	for _, c := range p {
		t.In = append(t.In, c.In)
	}
	return t
}

func someIds(n int) []api.Id {
	var l []api.Id
	for i := range n {
		l = append(l, api.Id{99, byte(i), byte(i >> 8)})
	}
	return l
}

// behind is the block behind a tip, with these transactions and that nonce, whether or not it may be.
func behind(tip api.Tip, txs []api.Tx, nonce uint64) api.Block {
	links := link.Next(tip.B.L, head.Id(tip.B.H), head.Level(tip.B.H))
	return api.Block{H: block.Next(tip, txs, nonce), L: links, T: txs}
}

// found is a block with the next nonce by which it may be, or may not be.
func found(b api.Block, may bool) api.Block {
	for range 1 << 14 {
		if head.May(b.H) == may {
			return b
		}
		b.H.Nonce++
	}
	panic("no such nonce")
}

func dug(tip api.Tip, txs []api.Tx, nonce uint64) api.Block {
	return found(behind(tip, txs, nonce), true)
}

// someTxs spend, make, do both, or do nothing.
func someTxs(tip api.Tip, i int) []api.Tx {
	p, first := tip.C, owned(i, 10, 20)
	switch {
	case i%4 == 1 || len(p) == 0:
		return []api.Tx{first}
	case i%4 == 2:
		return []api.Tx{first, paid(p[:1], 1)}
	case i%4 == 3:
		return []api.Tx{paid(p[:min(len(p), 2)], 1)}
	}
	return nil
}

// coinsTxs make three coins each, till there is no room.
func coinsTxs(tip api.Tip, i int) []api.Tx {
	if len(tip.C) > api.MaxCoins-3 {
		return nil
	}
	return []api.Tx{owned(i, 1, 2, 3)}
}

// treeOf is a store of the first block, and one behind each of these places, by block's calls alone; and the tip up to each.
func treeOf(bits uint32, txs func(tip api.Tip, i int) []api.Tx, pars ...int) (api.Store, []api.Tip) {
	first, _ := block.First(bits)
	s, tips := api.Store{B: []api.Block{first.B}, Par: []int{-1}}, []api.Tip{first}
	for i, par := range pars {
		b := dug(tips[par], txs(tips[par], i+1), uint64(100000*(i+1)))
		tip, err := block.Push(tips[par], b)
		if err != api.OK {
			panic(fmt.Sprint("block ", i+1, ": error ", err))
		}
		s.B, s.Par, tips = append(s.B, b), append(s.Par, par), append(tips, tip)
	}
	return s, tips
}

func someTree(pars ...int) api.Store {
	s, _ := treeOf(easy, someTxs, pars...)
	return s
}

// places are those from one on, and ahead of another one.
func places(from, to int) []int {
	var l []int
	for i := from; i < to; i++ {
		l = append(l, i)
	}
	return l
}

// The places behind which blocks of some stores stand.

func line(n int) []int {
	return places(0, n-1)
}

// lines are lines of so many blocks each, all of them behind the first block.
func lines(lengths ...int) []int {
	var l []int
	for _, n := range lengths {
		l = append(l, 0)
		for range n - 1 {
			l = append(l, len(l))
		}
	}
	return l
}

func star(n int) []int {
	return make([]int, n-1)
}

// comb is a line of the even places, and an odd one behind each of it.
func comb(n int) []int {
	var l []int
	for i := 1; i < n; i++ {
		l = append(l, max(0, i-2+i%2))
	}
	return l
}

// pairs have two blocks behind each one, as far as they go.
func pairs(n int) []int {
	var l []int
	for i := 1; i < n; i++ {
		l = append(l, (i-1)/2)
	}
	return l
}

// forks are a tree whose chains and tips are written out below.
var forks = []int{0, 0, 1, 3, 1, 2, 0, 4, 5}

var forkChains = [][]int{
	{0}, {0, 1}, {0, 2}, {0, 1, 3}, {0, 1, 3, 4}, {0, 1, 5}, {0, 2, 6}, {0, 7}, {0, 1, 3, 4, 8}, {0, 1, 5, 9},
}

var forkTips = []int{8, 9, 6, 7}

func cloneTxs(l []api.Tx) []api.Tx {
	var m []api.Tx
	for _, t := range l {
		m = append(m, api.Tx{In: append([]api.In(nil), t.In...), Out: append([]api.Out(nil), t.Out...)})
	}
	return m
}

func cloneBlock(b api.Block) api.Block {
	b.L, b.T = append([]api.Id(nil), b.L...), cloneTxs(b.T)
	return b
}

func cloneBlocks(l []api.Block) []api.Block {
	var m []api.Block
	for _, b := range l {
		m = append(m, cloneBlock(b))
	}
	return m
}

func clone(s api.Store) api.Store {
	return api.Store{B: cloneBlocks(s.B), Par: append([]int(nil), s.Par...)}
}

// changed is a store with another block in one place.
func changed(s api.Store, at int, b api.Block) api.Store {
	c := clone(s)
	c.B[at] = b
	return c
}

// turned is a store with another number in one place.
func turned(s api.Store, at, par int) api.Store {
	c := clone(s)
	c.Par[at] = par
	return c
}

// with is a store with a block more.
func with(s api.Store, b api.Block, par int) api.Store {
	c := clone(s)
	return api.Store{B: append(c.B, b), Par: append(c.Par, par)}
}

// beginning is a store of the first n blocks alone.
func beginning(s api.Store, n int) api.Store {
	return api.Store{B: s.B[:n], Par: s.Par[:n]}
}

func blocksAt(s api.Store, places []int) []api.Block {
	var l []api.Block
	for _, i := range places {
		l = append(l, s.B[i])
	}
	return l
}

// turns are how each bit of a head's parts is turned over.
var turns = []struct {
	name string
	bits int
	turn func(h *api.Head, bit int)
}{
	{"Height", 63, func(h *api.Head, bit int) { h.Height ^= 1 << bit }},
	{"Prev", 256, func(h *api.Head, bit int) { h.Prev[bit/8] ^= 1 << (bit % 8) }},
	{"Links", 256, func(h *api.Head, bit int) { h.Links[bit/8] ^= 1 << (bit % 8) }},
	{"Txs", 256, func(h *api.Head, bit int) { h.Txs[bit/8] ^= 1 << (bit % 8) }},
	{"Past", 256, func(h *api.Head, bit int) { h.Past[bit/8] ^= 1 << (bit % 8) }},
	{"Work", 256, func(h *api.Head, bit int) { h.Work[bit/64] ^= 1 << (bit % 64) }},
	{"Bits", 32, func(h *api.Head, bit int) { h.Bits ^= 1 << bit }},
	{"Nonce", 64, func(h *api.Head, bit int) { h.Nonce ^= 1 << bit }},
}

// spoiling is a block that may not stand behind a tip, and why.
type spoiling struct {
	name string
	err  api.Errno
	b    api.Block
}

// spoilings are blocks behind a tip, each spoiled by one thing alone; each error of chain's Check is among them that is to
// be had there.
func spoilings(tip api.Tip, nonce uint64) []spoiling {
	good := dug(tip, []api.Tx{owned(200, 7)}, nonce)
	if len(tip.C) > api.MaxCoins-3 {
		good = dug(tip, nil, nonce)
	}
	var l []spoiling
	spoiled := func(name string, err api.Errno, turn func(b *api.Block)) {
		b := cloneBlock(good)
		turn(&b)
		l = append(l, spoiling{name, err, found(b, true)})
	}
	spoiled("a height above all", api.ErrSize, func(b *api.Block) { b.H.Height = 48 })
	spoiled("a greater height", api.ErrPrev, func(b *api.Block) { b.H.Height++ })
	spoiled("a lesser height", api.ErrPrev, func(b *api.Block) { b.H.Height-- })
	spoiled("other bits", api.ErrPrev, func(b *api.Block) { b.H.Bits-- })
	spoiled("no links", api.ErrLink, func(b *api.Block) { b.L = nil })
	spoiled("a link more", api.ErrLink, func(b *api.Block) { b.L = append(b.L, api.Id{}) })
	spoiled("another link", api.ErrLink, func(b *api.Block) { b.L[len(b.L)-1][0] ^= 1 })
	spoiled("another root of links", api.ErrLink, func(b *api.Block) { b.H.Links[0] ^= 1 })
	spoiled("a transaction more", api.ErrRoot, func(b *api.Block) { b.T = append(b.T, owned(1, 1)) })
	spoiled("another root of transactions", api.ErrRoot, func(b *api.Block) { b.H.Txs[0] ^= 1 })
	spoiled("another past", api.ErrRoot, func(b *api.Block) { b.H.Past[0] ^= 1 })
	spoiled("other work", api.ErrRoot, func(b *api.Block) { b.H.Work[0]++ })
	l = append(l, spoiling{"a sum above the target", api.ErrWork, found(cloneBlock(good), false)})
	for _, odd := range oddTxs(tip) {
		l = append(l, spoiling{odd.name, odd.err, dug(tip, odd.b.T, nonce)})
	}
	return l
}

// oddTxs are transactions that may not be a block's behind a tip, each error of purse's Apply that is to be had there
// among them.
func oddTxs(tip api.Tip) []spoiling {
	missing := api.Coin{In: api.In{Tx: api.Id{9}}}
	l := []spoiling{
		{"no transaction", api.ErrArg, api.Block{T: []api.Tx{{}}}},
		{"five transactions", api.ErrSize, api.Block{T: slices.Repeat([]api.Tx{owned(0, 1)}, 5)}},
		{"more than the reward", api.ErrSpend, api.Block{T: []api.Tx{owned(0, 51)}}},
		{"a coin that is not there", api.ErrSpend, api.Block{T: []api.Tx{paid([]api.Coin{missing}, 1)}}},
	}
	if tx, is := madeAhead(tip); is && len(tip.C) < 46 {
		l = append(l, spoiling{"coins that are there", api.ErrThere, api.Block{T: []api.Tx{tx}}})
	}
	if len(tip.C) > 45 {
		l = append(l, spoiling{"too many coins", api.ErrFull, api.Block{T: []api.Tx{owned(222, 1, 1, 1)}}})
	}
	return l
}

// madeAhead is a transaction of which a coin is there, if someTxs or coinsTxs made one.
func madeAhead(tip api.Tip) (api.Tx, bool) {
	for to := range 50 {
		for _, tx := range []api.Tx{owned(to, 1, 2, 3), owned(to, 10, 20)} {
			if slices.ContainsFunc(tip.C, func(c api.Coin) bool { return c.Tx == coin.Id(tx) }) {
				return tx, true
			}
		}
	}
	return api.Tx{}, false
}

// odd is a store that may not be.
type odd struct {
	name string
	s    api.Store
}

// oddStores are stores that may not be, each for one reason alone, as far as there is such a one.
func oddStores() []odd {
	s, tips := treeOf(easy, someTxs, forks...)
	n := len(s.B)
	l := []odd{
		{"none", api.Store{}},
		{"empty lists", api.Store{B: []api.Block{}, Par: []int{}}},
		{"numbers alone", api.Store{Par: []int{-1}}},
		{"a block alone", api.Store{B: s.B[:1]}},
		{"more numbers", api.Store{B: s.B, Par: append(slices.Clone(s.Par), 0)}},
		{"more numbers, the last one -1", api.Store{B: s.B, Par: append(slices.Clone(s.Par), -1)}},
		{"fewer numbers", api.Store{B: s.B, Par: s.Par[:n-1]}},
		{"fewer blocks", api.Store{B: s.B[:n-1], Par: s.Par}},
		{"no numbers", api.Store{B: s.B}},
		{"noughts", api.Store{B: make([]api.Block, 3), Par: []int{-1, 0, 0}}},
		{"41 blocks", someTree(pairs(41)...)},
		{"without the first block", api.Store{B: s.B[1:], Par: s.Par[1:]}},
		{"the first block alone, and 0", api.Store{B: s.B[:1], Par: []int{0}}},
		{"the first block alone, and -2", api.Store{B: s.B[:1], Par: []int{-2}}},
	}
	for _, par := range []int{-2, 0, 1, n, math.MinInt, math.MaxInt} {
		l = append(l, odd{fmt.Sprint("a first number of ", par), turned(s, 0, par)})
	}
	for _, at := range []int{1, 4, n - 1} {
		for _, par := range []int{-1, -2, at, at + 1, n, math.MinInt, math.MaxInt} {
			l = append(l, odd{fmt.Sprint("a number of ", par, " at ", at), turned(s, at, par)})
		}
		l = append(l, odd{fmt.Sprint("the block at ", at, " twice"), with(s, s.B[at], s.Par[at])})
		b := cloneBlock(s.B[at])
		b.L = append(b.L, api.Id{})
		l = append(l, odd{fmt.Sprint("a link more at ", at), changed(s, at, b)})
		l = append(l, odd{fmt.Sprint("no work at ", at), changed(s, at, found(s.B[at], false))})
	}
	l = append(l, odd{"behind a block that it does not name", turned(s, 8, 6)})
	for _, bad := range spoilings(tips[5], 7) {
		l = append(l, odd{bad.name + " on a fork", with(s, bad.b, 5)})
	}
	return append(l, twoFirst()...)
}

// twoFirst are stores of two first blocks, each a chain by itself.
func twoFirst() []odd {
	one, other := someTree(0, 1), firstOf(half)
	var l []odd
	for _, par := range []int{-1, -2, 1, 2, 3, math.MinInt, math.MaxInt} {
		l = append(l, odd{fmt.Sprint("two first blocks, and ", par), with(beginning(one, 1), other, par)})
		l = append(l, odd{fmt.Sprint("another first block behind, and ", par+2), with(one, other, par+2)})
	}
	l = append(l, odd{"two first blocks, the one behind the other", with(beginning(one, 1), other, 0)})
	second, _ := treeOf(half, someTxs, 0)
	mixed := with(with(with(beginning(one, 1), other, -1), one.B[1], 0), second.B[1], 1)
	return append(l, odd{"two first blocks, and one behind each", mixed})
}

func firstOf(bits uint32) api.Block {
	tip, _ := block.First(bits)
	return tip.B
}

// R3 and R5: each list that is handed in has more behind, which no call may touch.

// question is what a call is handed.
type question struct {
	s, r api.Store
	b    api.Block
}

// answer is what a call answers.
type answer struct {
	s      api.Store
	l      []api.Block
	places []int
	n      int
	is     bool
	err    api.Errno
}

func roomy[T any](l []T, behind T) []T {
	return append(append(make([]T, 0, len(l)+2), l...), behind, behind)[:len(l)]
}

func roomyBlock(b api.Block) api.Block {
	var txs []api.Tx
	for _, t := range b.T {
		txs = append(txs, api.Tx{In: roomy(t.In, api.In{I: 77}), Out: roomy(t.Out, api.Out{V: 77})})
	}
	return api.Block{H: b.H, L: roomy(b.L, api.Id{77}), T: roomy(txs, owned(77, 78))}
}

func roomyStore(s api.Store) api.Store {
	var l []api.Block
	for _, b := range s.B {
		l = append(l, roomyBlock(b))
	}
	return api.Store{B: roomy(l, api.Block{H: api.Head{Height: 77}}), Par: roomy(s.Par, 77)}
}

func (q question) roomy() question {
	return question{s: roomyStore(q.s), r: roomyStore(q.r), b: roomyBlock(q.b)}
}

// whole is a list with what stands behind it.
func whole[T any](l []T) []T {
	return l[:cap(l)]
}

func wholeBlock(b api.Block) api.Block {
	var txs []api.Tx
	for _, t := range whole(b.T) {
		txs = append(txs, api.Tx{In: whole(t.In), Out: whole(t.Out)})
	}
	return api.Block{H: b.H, L: whole(b.L), T: txs}
}

func wholeStore(s api.Store) api.Store {
	var l []api.Block
	for _, b := range whole(s.B) {
		l = append(l, wholeBlock(b))
	}
	return api.Store{B: l, Par: whole(s.Par)}
}

func (q question) sameWhole(other question) bool {
	return sameStore(wholeStore(q.s), wholeStore(other.s)) && sameStore(wholeStore(q.r), wholeStore(other.r)) &&
		sameBlock(wholeBlock(q.b), wholeBlock(other.b))
}

func (a answer) same(b answer) bool {
	return sameStore(a.s, b.s) && sameBlocks(a.l, b.l) && slices.Equal(a.places, b.places) &&
		a.n == b.n && a.is == b.is && a.err == b.err
}

func (a answer) clone() answer {
	a.s, a.l, a.places = clone(a.s), cloneBlocks(a.l), append([]int(nil), a.places...)
	return a
}

func fill[T any](l []T, with T) {
	for i := range whole(l) {
		whole(l)[i] = with
	}
}

func spoilBlock(b api.Block) {
	fill(b.L, api.Id{99})
	for _, t := range whole(b.T) {
		fill(t.In, api.In{I: 99})
		fill(t.Out, api.Out{V: 99})
	}
	fill(b.T, owned(99, 98))
}

func spoilBlocks(l []api.Block) {
	for _, b := range whole(l) {
		spoilBlock(b)
	}
	fill(l, api.Block{H: api.Head{Height: 99}})
}

func spoilStore(s api.Store) {
	spoilBlocks(s.B)
	fill(s.Par, 99)
}

func (q question) spoil() {
	spoilStore(q.s)
	spoilStore(q.r)
	spoilBlock(q.b)
}

func (a answer) spoil() {
	spoilStore(a.s)
	spoilBlocks(a.l)
	fill(a.places, 99)
}

func tell(s api.Store) string {
	text := fmt.Sprint(len(s.B), " blocks, of heights")
	for _, b := range s.B {
		text += fmt.Sprint(" ", b.H.Height)
	}
	return text + fmt.Sprint(", behind ", s.Par)
}

// asked is what a call answers, held against R3 and R5.
func asked(t *testing.T, q question, call func(question) answer) answer {
	t.Helper()
	in := q.roomy()
	first, second := call(in), call(in)
	kept := first.clone()
	if !second.same(kept) {
		t.Errorf("%s: asked again, another answer", tell(q.s))
	}
	second.spoil()
	if !in.sameWhole(q.roomy()) {
		t.Errorf("%s: what was handed in is not as it was", tell(q.s))
	}
	in.spoil()
	if !first.same(kept) {
		t.Errorf("%s: what was answered changed with what was handed in, or with another answer", tell(q.s))
	}
	return first
}

// Each call's answer, held against the chapter's words, and against what a test says of it.

func mayIs(t *testing.T, name string, s api.Store, want bool) {
	t.Helper()
	got := asked(t, question{s: s}, func(q question) answer { return answer{is: May(q.s)} })
	if got.is != want || got.is != wantMay(s) {
		t.Errorf("%s: %s: %v", name, tell(s), got.is)
	}
}

func sameIs(t *testing.T, name string, a, b api.Store, want bool) {
	t.Helper()
	for _, q := range []question{{s: a, r: b}, {s: b, r: a}} {
		got := asked(t, q, func(q question) answer { return answer{is: Same(q.s, q.r)} })
		if got.is != want {
			t.Errorf("%s: %s, and %s: %v", name, tell(q.s), tell(q.r), got.is)
		}
	}
}

// chainOf is what Chain answers.
func chainOf(t *testing.T, s api.Store, i int) []api.Block {
	t.Helper()
	got := asked(t, question{s: s}, func(q question) answer { return answer{l: Chain(q.s, i)} })
	if !sameBlocks(got.l, wantChain(s, i)) {
		t.Errorf("%s: of %d come %d blocks", tell(s), i, len(got.l))
	}
	return got.l
}

func chainIs(t *testing.T, name string, s api.Store, i int, want ...int) {
	t.Helper()
	if got := chainOf(t, s, i); !sameBlocks(got, blocksAt(s, want)) {
		t.Errorf("%s: %s: of %d come %d blocks, not those of %v", name, tell(s), i, len(got), want)
	}
}

// put is what Put answers.
func put(t *testing.T, s api.Store, b api.Block) (api.Store, api.Errno) {
	t.Helper()
	got := asked(t, question{s: s, b: b}, func(q question) answer {
		held, err := Put(q.s, q.b)
		return answer{s: held, err: err}
	})
	want, err := wantPut(s, b)
	if got.err != err || !sameStore(got.s, want) {
		t.Errorf("%s: %d, not %d, and %s", tell(s), got.err, err, tell(got.s))
	}
	if got.err != api.OK && !sameStore(got.s, s) {
		t.Errorf("%s: %d, and %s", tell(s), got.err, tell(got.s))
	}
	return got.s, got.err
}

func putIs(t *testing.T, name string, s api.Store, b api.Block, want api.Errno) {
	t.Helper()
	if _, err := put(t, s, b); err != want {
		t.Errorf("%s: %s: %d, not %d", name, tell(s), err, want)
	}
}

// puttable holds what comes of a block that may be put behind a place.
func puttable(t *testing.T, name string, s api.Store, b api.Block, par int) api.Store {
	t.Helper()
	got, err := put(t, s, b)
	if err != api.OK || !sameStore(got, with(s, b, par)) {
		t.Fatalf("%s: %s: %d, %s", name, tell(s), err, tell(got))
	}
	return got
}

func tipsAre(t *testing.T, name string, s api.Store, want ...int) {
	t.Helper()
	got := asked(t, question{s: s}, func(q question) answer { return answer{places: Tips(q.s), n: Best(q.s)} })
	if !slices.Equal(got.places, want) || !slices.Equal(got.places, wantTips(s)) {
		t.Errorf("%s: %s: tips %v, not %v", name, tell(s), got.places, want)
	}
	best := -1
	if len(want) > 0 {
		best = want[0]
	}
	if got.n != best {
		t.Errorf("%s: %s: best %d, not %d", name, tell(s), got.n, best)
	}
}

// bestIsBest holds the best tip's work against that of each block.
func bestIsBest(t *testing.T, s api.Store) {
	t.Helper()
	best := Best(s)
	if best < 0 || best >= len(s.B) || slices.Contains(s.Par, best) {
		t.Fatalf("%s: best %d", tell(s), best)
	}
	for i, b := range s.B {
		switch weight(b).Cmp(weight(s.B[best])) {
		case 1:
			t.Errorf("%s: there is more work up to %d than up to %d", tell(s), i, best)
		case 0:
			if i < best {
				t.Errorf("%s: %d is no worse than %d, and came first", tell(s), i, best)
			}
		}
	}
}

// The chapter's example, and a store that is written out

func TestExample(t *testing.T) {
	s, is := New(api.Easy)
	if !is || !May(s) || len(s.B) != 1 || !slices.Equal(Tips(s), []int{0}) || Best(s) != 0 {
		t.Error(s, is, Tips(s), Best(s))
	}
}

func TestKnownStore(t *testing.T) {
	known := []struct {
		from  int
		txs   []api.Tx
		nonce uint64
		id    string
		tips  []int
	}{
		{0, []api.Tx{owned(7, 50)}, 100, "1c1a9c9af2a17905cc1f1f1154dd4168e7c36daef0eb69ff27a4c48b7db066f5", []int{1}},
		{0, nil, 0, "", []int{1, 2}},
		{2, nil, 0, "", []int{3, 1}},
		{1, nil, 0, "", []int{3, 4}},
		{4, nil, 0, "", []int{5, 3}},
		{0, nil, 500, "", []int{5, 3, 6}},
	}
	s, is := New(545259519)
	first, err := hex.DecodeString("cc75649cd9230bad235dc7959f44e32d942714ae551b7adfbb840221adc710c3")
	if !is || err != nil || head.Id(s.B[0].H) != api.Id(first) || !slices.Equal(s.Par, []int{-1}) {
		t.Fatal(s, is, err)
	}
	for i, k := range known {
		l, err := chain.Grow(Chain(s, k.from), k.txs, k.nonce)
		if err != api.OK {
			t.Fatal(i, err)
		}
		next, err := Put(s, l[len(l)-1])
		if err != api.OK || len(next.B) != i+2 || next.Par[i+1] != k.from || !May(next) {
			t.Fatal(i, err, tell(next))
		}
		s = next
		id := head.Id(s.B[i+1].H)
		if k.id != "" && hex.EncodeToString(id[:]) != k.id {
			t.Errorf("block %d: %x", i+1, id)
		}
		if got := Tips(s); !slices.Equal(got, k.tips) || Best(s) != k.tips[0] {
			t.Errorf("block %d: %v, not %v", i+1, got, k.tips)
		}
	}
	if !slices.Equal(s.Par, []int{-1, 0, 0, 2, 1, 4, 0}) {
		t.Error(s.Par)
	}
}

// P13.1

func TestChainOfEachPlace(t *testing.T) {
	s := someTree(forks...)
	for i, want := range forkChains {
		chainIs(t, "forks", s, i, want...)
		chainIs(t, "forks, up to it alone", beginning(s, i+1), i, want...)
	}
	for _, pars := range [][]int{line(40), star(40), comb(40), pairs(40)} {
		s := someTree(pars...)
		for i := range s.B {
			l := chainOf(t, s, i)
			if len(l) != s.B[i].H.Height+1 || !sameBlock(l[0], s.B[0]) || !sameBlock(l[len(l)-1], s.B[i]) {
				t.Errorf("%s: %d: %d blocks", tell(s), i, len(l))
			}
			if _, err := chain.Check(l); err != api.OK {
				t.Errorf("%s: %d: %d", tell(s), i, err)
			}
		}
	}
	long := someTree(line(12)...)
	for i := range 12 {
		chainIs(t, "a line", long, i, places(0, i+1)...)
	}
}

func TestChainOfNoPlace(t *testing.T) {
	stores := []api.Store{{}, {B: []api.Block{}, Par: []int{}}, someTree(), someTree(0), someTree(forks...), someTree(line(40)...)}
	for _, s := range stores {
		n := len(s.B)
		for _, i := range []int{-1, -2, -n, math.MinInt, n, n + 1, n + 100, 1 << 40, math.MaxInt} {
			chainIs(t, "no place", s, i)
			if l := Chain(s, i); len(l) != 0 {
				t.Errorf("%s: %d: %d blocks", tell(s), i, len(l))
			}
		}
	}
}

func TestChainOfOtherCountsOfNumbers(t *testing.T) {
	s := someTree(forks...)
	n := len(s.B)
	for _, par := range [][]int{nil, {}, {-1}, s.Par[:1], s.Par[:n-1], s.Par[1:], append(slices.Clone(s.Par), 0), append(slices.Clone(s.Par), -1), slices.Repeat(s.Par, 3)} {
		for i := -2; i < 3*n+2; i++ {
			chainIs(t, "other numbers", api.Store{B: s.B, Par: par}, i)
		}
	}
	for i := -1; i < 4; i++ {
		chainIs(t, "numbers alone", api.Store{Par: []int{-1, 0, 1}}, i)
		chainIs(t, "a block more", api.Store{B: s.B[:3], Par: s.Par[:2]}, i)
		chainIs(t, "a number more", api.Store{B: s.B[:2], Par: s.Par[:3]}, i)
	}
}

func TestChainFromAParThatIsNoPlaceAhead(t *testing.T) {
	s := someTree(line(7)...)
	for at := range 7 {
		for _, par := range []int{at, at + 1, -2, -1, -at - 1, 7, 8, 100, math.MinInt, math.MaxInt} {
			odd := turned(s, at, par)
			for i := range 7 {
				from := 0
				if i >= at {
					from = at
				}
				chainIs(t, fmt.Sprint(par, " at ", at), odd, i, places(from, i+1)...)
			}
		}
	}
	// Round and round: the one's number is the other's place.
	for i, want := range [][]int{{0}, {0, 1}, {2}, {2, 3}, {2, 3, 4}} {
		chainIs(t, "a ring", api.Store{B: s.B[:5], Par: []int{1, 0, 3, 2, 3}}, i, want...)
	}
	// A lesser place is followed, whether or not it is the one that the block names.
	for i, want := range [][]int{{0}, {0, 1}, {0, 2}, {0, 1, 3}, {0, 4}, {0, 2, 5}, {0, 4, 6}} {
		chainIs(t, "other places", api.Store{B: s.B, Par: []int{-1, 0, 0, 1, 0, 2, 4}}, i, want...)
	}
}

func TestChainOfStoresThatMayNotBe(t *testing.T) {
	for _, o := range oddStores() {
		for i := -1; i < len(o.s.B)+2; i++ {
			chainOf(t, o.s, i)
		}
	}
	s := someTree(line(41)...)
	chainIs(t, "more than may be", s, 40, places(0, 41)...)
	many := api.Store{B: make([]api.Block, 300), Par: slices.Concat([]int{-1}, line(300))}
	for i := range 300 {
		many.B[i].H.Height = -i
		if l := Chain(many, i); len(l) != i+1 || l[i].H.Height != -i || l[0].H.Height != 0 {
			t.Errorf("%d: %d blocks", i, len(l))
		}
	}
	chainOf(t, many, 299)
	chainIs(t, "twice the same block", with(with(s, s.B[3], 3), s.B[3], 41), 42, 0, 1, 2, 3, 41, 42)
}

// P13.2: May

func TestMayOfNoBlocks(t *testing.T) {
	mayIs(t, "none", api.Store{}, false)
	for _, s := range []api.Store{{}, {B: []api.Block{}}, {Par: []int{}}, {B: []api.Block{}, Par: []int{}}, {Par: []int{-1}}, {B: []api.Block{}, Par: []int{-1}}} {
		if May(s) {
			t.Error("no blocks may be")
		}
	}
}

func TestMayOfTrees(t *testing.T) {
	for _, pars := range [][]int{{}, {0}, {0, 0}, {0, 1}, forks, line(9), star(9), comb(9), pairs(9)} {
		for _, bits := range []uint32{easy, half, rare} {
			s, _ := treeOf(bits, someTxs, pars...)
			for n := range len(s.B) {
				mayIs(t, fmt.Sprintf("%x", bits), beginning(s, n+1), true)
			}
		}
	}
	s := someTree(forks...)
	// Another order of the same blocks, of which none stands ahead of the one behind which it does.
	other := api.Store{B: blocksAt(s, []int{0, 7, 2, 6, 1, 5, 3, 9, 4, 8}), Par: []int{-1, 0, 0, 2, 0, 4, 4, 5, 6, 8}}
	mayIs(t, "another order", other, true)
	other.Par[9] = 7
	mayIs(t, "behind another one", other, false)
	mixed := api.Store{B: blocksAt(s, []int{0, 3, 1}), Par: []int{-1, 2, 0}}
	mayIs(t, "one ahead of that behind which it stands", mixed, false)
}

func TestMayOfEachFirstBlock(t *testing.T) {
	for _, bits := range goodBits {
		s := api.Store{B: []api.Block{firstOf(bits)}, Par: []int{-1}}
		mayIs(t, fmt.Sprintf("%x", bits), s, true)
		s.B[0].H.Nonce++
		mayIs(t, fmt.Sprintf("%x, another nonce", bits), s, false)
	}
	for _, bits := range badBits {
		first := firstOf(easy)
		first.H.Bits = bits
		mayIs(t, fmt.Sprintf("%x", bits), api.Store{B: []api.Block{first}, Par: []int{-1}}, false)
	}
}

func TestMayOf40And41Blocks(t *testing.T) {
	for _, pars := range []func(n int) []int{line, star, comb, pairs} {
		s := someTree(pars(42)...)
		for n, want := range map[int]bool{1: true, 39: true, 40: true, 41: false, 42: false} {
			mayIs(t, fmt.Sprint("the first ", n), beginning(s, n), want)
		}
	}
}

func TestMayOfOtherCountsOfNumbers(t *testing.T) {
	for _, s := range []api.Store{someTree(), someTree(0), someTree(forks...), someTree(line(39)...), someTree(star(40)...)} {
		n := len(s.B)
		for _, par := range []int{-1, 0, n - 1, n} {
			mayIs(t, "a number more", api.Store{B: s.B, Par: append(slices.Clone(s.Par), par)}, false)
		}
		for k := range n {
			mayIs(t, "fewer numbers", api.Store{B: s.B, Par: s.Par[:k]}, false)
			mayIs(t, "fewer blocks", api.Store{B: s.B[:k], Par: s.Par}, false)
		}
	}
}

func TestMayOfAnotherFirstNumber(t *testing.T) {
	for _, s := range []api.Store{someTree(), someTree(0), someTree(forks...), someTree(pairs(40)...)} {
		n := len(s.B)
		for _, par := range []int{-2, -3, 0, 1, n - 1, n, n + 1, math.MinInt, math.MaxInt} {
			mayIs(t, fmt.Sprint("a first number of ", par), turned(s, 0, par), false)
		}
		mayIs(t, "a first number of -1", turned(s, 0, -1), true)
	}
}

func TestMayOfALaterNumber(t *testing.T) {
	s := someTree(forks...)
	n := len(s.B)
	for at := 1; at < n; at++ {
		for _, par := range []int{-1, -2, -at, at, at + 1, n, n + 1, math.MinInt, math.MaxInt} {
			mayIs(t, fmt.Sprint(par, " at ", at), turned(s, at, par), false)
			mayIs(t, fmt.Sprint(par, " at ", at, ", the last one"), beginning(turned(s, at, par), at+1), false)
		}
		for par := range at {
			mayIs(t, fmt.Sprint(par, " at ", at), turned(s, at, par), par == s.Par[at])
		}
	}
}

func TestMayOfTwoFirstBlocks(t *testing.T) {
	for _, o := range twoFirst() {
		mayIs(t, o.name, o.s, false)
	}
	first := firstOf(easy)
	for _, par := range []int{-1, -2, 0, 1, 2} {
		mayIs(t, "the same one twice", api.Store{B: []api.Block{first, first}, Par: []int{-1, par}}, false)
	}
	// Each of the two is the first one of a store.
	mayIs(t, "the one", api.Store{B: []api.Block{first}, Par: []int{-1}}, true)
	mayIs(t, "the other", api.Store{B: []api.Block{firstOf(half)}, Par: []int{-1}}, true)
}

func TestMayOfTwoBlocksOfOneId(t *testing.T) {
	for _, s := range []api.Store{someTree(forks...), someTree(line(10)...), someTree(star(10)...)} {
		n := len(s.B)
		for i := 1; i < n; i++ {
			twice := with(s, s.B[i], s.Par[i])
			if _, err := chain.Check(wantChain(twice, n)); err != api.OK {
				t.Fatal(i, err)
			}
			mayIs(t, fmt.Sprint("twice ", i), twice, false)
			mayIs(t, fmt.Sprint("twice ", i, ", the last one"), with(beginning(s, i+1), s.B[i], s.Par[i]), false)
			// Right behind, and all others behind both.
			pars := slices.Clone(s.Par)
			for k := range pars {
				if pars[k] >= i+1 {
					pars[k]++
				}
			}
			next := api.Store{B: slices.Insert(cloneBlocks(s.B), i+1, s.B[i]), Par: slices.Insert(pars, i+1, s.Par[i])}
			mayIs(t, fmt.Sprint("twice ", i, ", right behind"), next, false)
		}
		mayIs(t, "the first one twice", with(s, s.B[0], 0), false)
		mayIs(t, "the first one twice", with(s, s.B[0], -1), false)
	}
	// A block behind each of the two.
	s := someTree(0, 1, 1)
	both := api.Store{B: blocksAt(s, []int{0, 1, 1, 2, 3}), Par: []int{-1, 0, 0, 1, 2}}
	mayIs(t, "both have one behind", both, false)
	both = api.Store{B: blocksAt(s, []int{0, 1, 2, 3}), Par: []int{-1, 0, 1, 1}}
	mayIs(t, "one alone", both, true)
}

func TestMayOfOneSpoiledBlock(t *testing.T) {
	s := someTree(forks...)
	for at := range s.B {
		// Of these no head tells, so that nothing behind it is wrong.
		b := cloneBlock(s.B[at])
		b.L = append(b.L, api.Id{})
		mayIs(t, fmt.Sprint("a link more at ", at), changed(s, at, b), false)
		b = cloneBlock(s.B[at])
		b.T = append(b.T, owned(1, 1))
		mayIs(t, fmt.Sprint("a transaction more at ", at), changed(s, at, b), false)
		for _, part := range turns {
			for _, bit := range []int{0, part.bits / 2, part.bits - 1} {
				c := clone(s)
				part.turn(&c.B[at].H, bit)
				want := part.name == "Nonce" && at > 5 && head.May(c.B[at].H)
				mayIs(t, fmt.Sprint(part.name, " ", bit, " at ", at), c, want)
			}
		}
	}
}

func TestMayOfASpoiledEnd(t *testing.T) {
	s, tips := treeOf(easy, coinsTxs, slices.Concat(line(20), []int{2, 20, 20})...)
	errs := map[api.Errno]int{}
	for _, at := range []int{0, 1, 7, 17, 19, 20, 22} {
		for _, bad := range spoilings(tips[at], 3) {
			mayIs(t, bad.name, with(s, bad.b, at), false)
			mayIs(t, bad.name+", and others behind", with(with(s, bad.b, at), dug(tips[at], nil, 900), at), false)
			errs[bad.err]++
		}
		mayIs(t, "a good one", with(s, dug(tips[at], nil, 900), at), true)
	}
	for _, err := range []api.Errno{
		api.ErrArg, api.ErrSize, api.ErrWork, api.ErrPrev, api.ErrLink, api.ErrRoot, api.ErrSpend, api.ErrThere, api.ErrFull,
	} {
		if errs[err] < 2 {
			t.Errorf("only %d of error %d", errs[err], err)
		}
	}
}

func TestMayOfOddStores(t *testing.T) {
	for _, o := range oddStores() {
		mayIs(t, o.name, o.s, false)
	}
}

// P13.2: Same

func TestSameOfTheSame(t *testing.T) {
	stores := []api.Store{someTree(), someTree(forks...), someTree(line(40)...), {B: make([]api.Block, 100), Par: make([]int, 3)}}
	for _, o := range oddStores() {
		stores = append(stores, o.s)
	}
	for _, s := range stores {
		sameIs(t, "itself", s, s, true)
		sameIs(t, "a copy", s, clone(s), true)
		if !Same(s, s) {
			t.Error("not itself", tell(s))
		}
	}
}

func TestSameOfNilAndEmpty(t *testing.T) {
	bare := []api.Store{{}, {B: []api.Block{}}, {Par: []int{}}, {B: []api.Block{}, Par: []int{}}, {B: make([]api.Block, 0, 3), Par: make([]int, 0, 3)}}
	for _, a := range bare {
		for _, b := range bare {
			if !Same(a, b) {
				t.Error("none are not none")
			}
		}
		for _, s := range []api.Store{{B: make([]api.Block, 1)}, {Par: make([]int, 1)}, {B: make([]api.Block, 1), Par: make([]int, 1)}, someTree(), someTree(0)} {
			if Same(a, s) || Same(s, a) {
				t.Error("none are some")
			}
		}
	}
	a := api.Store{B: []api.Block{{T: []api.Tx{{}}}}, Par: []int{-1}}
	b := api.Store{B: []api.Block{{L: []api.Id{}, T: []api.Tx{{In: []api.In{}, Out: []api.Out{}}}}}, Par: []int{-1}}
	if !Same(a, b) || !Same(b, a) {
		t.Error("nil ones in a block are not empty ones")
	}
}

func TestSameOfOtherLengths(t *testing.T) {
	s := someTree(forks...)
	for i := range s.B {
		for k := range s.B {
			sameIs(t, "blocks", api.Store{B: s.B[:i], Par: s.Par}, api.Store{B: s.B[:k], Par: s.Par}, i == k)
			sameIs(t, "numbers", api.Store{B: s.B, Par: s.Par[:i]}, api.Store{B: s.B, Par: s.Par[:k]}, i == k)
			sameIs(t, "both", beginning(s, i), beginning(s, k), i == k)
			sameIs(t, "ends", api.Store{B: s.B[i:], Par: s.Par[i:]}, api.Store{B: s.B[k:], Par: s.Par[k:]}, i == k)
		}
	}
	sameIs(t, "noughts", api.Store{B: make([]api.Block, 2)}, api.Store{B: make([]api.Block, 3)}, false)
	sameIs(t, "noughts", api.Store{Par: make([]int, 2)}, api.Store{Par: make([]int, 3)}, false)
	sameIs(t, "one more", s, with(s, api.Block{}, 0), false)
}

func TestSameOfOneNumberElse(t *testing.T) {
	s := someTree(forks...)
	for at := range s.B {
		for _, less := range []int{1, -1, 2, 1 << 40, math.MinInt} {
			sameIs(t, fmt.Sprint("a number at ", at), s, turned(s, at, s.Par[at]-less), false)
		}
		for k := range at {
			c := clone(s)
			c.Par[at], c.Par[k] = c.Par[k], c.Par[at]
			sameIs(t, "two numbers in each other's place", s, c, s.Par[at] == s.Par[k])
			c = clone(s)
			c.B[at], c.B[k] = c.B[k], c.B[at]
			sameIs(t, "two blocks in each other's place", s, c, false)
		}
	}
}

func TestSameOfBlocksOfWhichOneDiffers(t *testing.T) {
	s, tips := treeOf(easy, someTxs, forks...)
	full := api.Block{H: s.B[8].H, L: someIds(3), T: []api.Tx{owned(1, 1, 2), paid(tips[6].C[:2], 3, 4), {}}}
	others := []func(b *api.Block){
		func(b *api.Block) { b.L = b.L[:2] },
		func(b *api.Block) { b.L = b.L[1:] },
		func(b *api.Block) { b.L = nil },
		func(b *api.Block) { b.L = append(b.L, api.Id{}) },
		func(b *api.Block) { b.L[0][0]++ },
		func(b *api.Block) { b.L[2][31]++ },
		func(b *api.Block) { b.L[0], b.L[1] = b.L[1], b.L[0] },
		func(b *api.Block) { b.T = nil },
		func(b *api.Block) { b.T = b.T[:2] },
		func(b *api.Block) { b.T = append(b.T, api.Tx{}) },
		func(b *api.Block) { b.T[0], b.T[1] = b.T[1], b.T[0] },
		func(b *api.Block) { b.T[0].Out[1].V++ },
		func(b *api.Block) { b.T[0].Out[0].To++ },
		func(b *api.Block) { b.T[1].In[1].I++ },
		func(b *api.Block) { b.T[1].In[0].Tx[7]++ },
		func(b *api.Block) { b.T[1].In = b.T[1].In[:1] },
		func(b *api.Block) { b.T[1].Out = b.T[1].Out[:1] },
		func(b *api.Block) { b.T[2].Out = owned(0, 0).Out },
	}
	for at := range s.B {
		a := changed(s, at, full)
		for i, other := range others {
			b := clone(a)
			other(&b.B[at])
			sameIs(t, fmt.Sprint("links or transactions ", i, " at ", at), a, b, false)
		}
		for _, part := range turns {
			for _, bit := range []int{0, 1, part.bits / 2, part.bits - 1} {
				b := clone(s)
				part.turn(&b.B[at].H, bit)
				sameIs(t, fmt.Sprint(part.name, " ", bit, " at ", at), s, b, false)
			}
		}
	}
}

// P13.2: New

func newIs(t *testing.T, bits uint32) bool {
	t.Helper()
	got := asked(t, question{}, func(question) answer {
		s, is := New(bits)
		return answer{s: s, is: is}
	})
	if got.is != isCompact(bits) {
		t.Fatalf("%x: %v", bits, got.is)
	}
	if !got.is {
		if len(got.s.B) != 0 || len(got.s.Par) != 0 {
			t.Errorf("%x: %s of none", bits, tell(got.s))
		}
		return false
	}
	l, _ := chain.New(bits)
	if !sameStore(got.s, api.Store{B: l, Par: []int{-1}}) || !sameBlock(got.s.B[0], firstOf(bits)) {
		t.Errorf("%x: %s", bits, tell(got.s))
	}
	mayIs(t, "a new one", got.s, true)
	tipsAre(t, "a new one", got.s, 0)
	chainIs(t, "a new one", got.s, 0, 0)
	return true
}

func TestNewOfCompactNumbers(t *testing.T) {
	for _, bits := range goodBits {
		if !newIs(t, bits) {
			t.Errorf("%x: none", bits)
		}
	}
	for e := uint32(3); e <= 32; e++ {
		for _, m := range []uint32{0x8000, 0x8001, 0xffff, 0x123456, 0x7ffffe, 0x7fffff} {
			if !newIs(t, e<<24|m) {
				t.Errorf("%x: none", e<<24|m)
			}
		}
	}
}

func TestNewOfOtherNumbers(t *testing.T) {
	for _, bits := range badBits {
		if newIs(t, bits) {
			t.Errorf("%x: there is one", bits)
		}
	}
	for e := range uint32(256) {
		for _, m := range []uint32{0, 1, 0x7fff, 0x800000, 0xffffff} {
			if newIs(t, e<<24|m) {
				t.Errorf("%x: there is one", e<<24|m)
			}
		}
	}
}

// P13.3

func TestPutBehindEachPlace(t *testing.T) {
	for _, bits := range []uint32{easy, half, rare} {
		s, tips := treeOf(bits, someTxs, forks...)
		for par, tip := range tips {
			for _, txs := range [][]api.Tx{nil, {owned(200, 50)}, someTxs(tip, 101), someTxs(tip, 102), someTxs(tip, 103)} {
				b := dug(tip, txs, 55)
				got := puttable(t, fmt.Sprint("behind ", par), s, b, par)
				mayIs(t, "what is put", got, true)
				chainIs(t, "what is put", got, 10, append(slices.Clone(forkChains[par]), 10)...)
				putIs(t, "once more", got, b, api.ErrThere)
			}
		}
	}
}

func TestPutFromTheFirstBlockOn(t *testing.T) {
	for _, pars := range [][]int{forks, line(40), star(40), comb(40), pairs(40)} {
		want := someTree(pars...)
		s, _ := New(easy)
		for i, b := range want.B[1:] {
			s = puttable(t, "one by one", s, b, pars[i])
			if !sameStore(s, beginning(want, i+2)) || !May(s) {
				t.Fatal(tell(s))
			}
		}
		if !Same(s, want) {
			t.Error(tell(s), tell(want))
		}
	}
}

func TestPutIntoAStoreThatMayNotBe(t *testing.T) {
	good, tips := treeOf(easy, someTxs, forks...)
	blocks := []api.Block{dug(tips[0], nil, 77), dug(tips[8], nil, 77), good.B[0], good.B[4], {}, {H: api.Head{Height: 48, Prev: good.B[1].H.Prev}}}
	for _, bad := range spoilings(tips[5], 40) {
		blocks = append(blocks, bad.b)
	}
	for _, o := range oddStores() {
		for _, b := range blocks {
			putIs(t, o.name, o.s, b, api.ErrArg)
		}
	}
	if s, err := Put(api.Store{}, api.Block{}); err != api.ErrArg || len(s.B) != 0 || len(s.Par) != 0 {
		t.Error(s, err)
	}
	putIs(t, "the first block, into none", api.Store{}, firstOf(easy), api.ErrArg)
}

func TestPutOfABlockThatIsThere(t *testing.T) {
	s := someTree(forks...)
	for i, b := range s.B {
		putIs(t, fmt.Sprint("the block at ", i), s, b, api.ErrThere)
		putIs(t, fmt.Sprint("the block at ", i, ", the last one"), beginning(s, i+1), b, api.ErrThere)
		// A sum tells of the head alone.
		putIs(t, "without links", s, api.Block{H: b.H, T: b.T}, api.ErrThere)
		putIs(t, "without transactions", s, api.Block{H: b.H, L: b.L}, api.ErrThere)
		putIs(t, "other ones", s, api.Block{H: b.H, L: someIds(40), T: slices.Repeat([]api.Tx{{}}, 5)}, api.ErrThere)
		if i > 0 {
			putIs(t, "one that is not there yet", beginning(s, i), b, api.OK)
		}
	}
}

func TestPutOfABlockBehindNone(t *testing.T) {
	s, tips := treeOf(easy, someTxs, forks...)
	for i, tip := range tips {
		b := dug(tip, nil, 66)
		for _, prev := range []api.Id{{}, {1}, b.H.Links, b.H.Txs, b.H.Past, head.Id(b.H)} {
			if prev == head.Id(s.B[0].H) {
				continue // of the first block alone this is Past
			}
			odd := cloneBlock(b)
			odd.H.Prev = prev
			putIs(t, fmt.Sprint("another one ahead, at ", i), s, odd, api.ErrNone)
			putIs(t, fmt.Sprint("another one ahead, at ", i), s, found(odd, true), api.ErrNone)
			putIs(t, fmt.Sprint("and above its target, at ", i), s, found(odd, false), api.ErrNone)
		}
		for bit := range 256 {
			odd := cloneBlock(b)
			odd.H.Prev[bit/8] ^= 1 << (bit % 8)
			if _, err := Put(s, odd); err != api.ErrNone {
				t.Errorf("bit %d: %d", bit, err)
			}
		}
		// Behind one that is not there itself.
		next, err := block.Push(tip, b)
		if err != api.OK {
			t.Fatal(err)
		}
		far := dug(next, nil, 0)
		putIs(t, "behind one that is not there", s, far, api.ErrNone)
		putIs(t, "behind one that now is there", puttable(t, "that one", s, b, i), far, api.OK)
	}
	putIs(t, "noughts", s, api.Block{}, api.ErrNone)
	putIs(t, "a height of none", s, api.Block{H: api.Head{Height: -1}}, api.ErrNone)
	putIs(t, "a height above all", s, api.Block{H: api.Head{Height: 48, Bits: easy}}, api.ErrNone)
	putIs(t, "another first one", s, firstOf(half), api.ErrNone)
	putIs(t, "one of other bits", s, someTreeOf(half, 0).B[1], api.ErrNone)
	putIs(t, "five transactions", s, api.Block{T: make([]api.Tx, 5)}, api.ErrNone)
}

func someTreeOf(bits uint32, pars ...int) api.Store {
	s, _ := treeOf(bits, someTxs, pars...)
	return s
}

// A head without bytes has a zero Id, of which there is no block.
func TestPutOfAHeadWithoutBytes(t *testing.T) {
	s := someTree(forks...)
	for _, height := range []int{-1, 1<<20 + 1, math.MinInt, math.MaxInt} {
		want := api.ErrPrev
		if height > 47 {
			want = api.ErrSize
		}
		for i, b := range s.B {
			odd := api.Block{H: api.Head{Height: height, Bits: easy, Prev: head.Id(b.H)}}
			putIs(t, fmt.Sprint("behind ", i), s, odd, want)
			odd.H.Prev = api.Id{}
			putIs(t, "behind none", s, odd, api.ErrNone)
		}
	}
}

func TestPutOfASpoiledBlock(t *testing.T) {
	coins, coinTips := treeOf(easy, coinsTxs, slices.Concat(line(20), []int{2, 20, 20})...)
	some, someTips := treeOf(easy, someTxs, forks...)
	errs := map[api.Errno]int{}
	for _, c := range []struct {
		s    api.Store
		tips []api.Tip
		at   []int
	}{{coins, coinTips, []int{0, 1, 7, 16, 17, 18, 19, 22}}, {some, someTips, places(0, 10)}} {
		for _, at := range c.at {
			for _, bad := range spoilings(c.tips[at], 3) {
				putIs(t, fmt.Sprint(bad.name, " behind ", at), c.s, bad.b, bad.err)
				errs[bad.err]++
			}
		}
	}
	for _, err := range []api.Errno{
		api.ErrArg, api.ErrSize, api.ErrWork, api.ErrPrev, api.ErrLink, api.ErrRoot, api.ErrSpend, api.ErrThere, api.ErrFull,
	} {
		if errs[err] < 4 {
			t.Errorf("only %d of error %d", errs[err], err)
		}
	}
}

// The chain behind which a block is put is that of the block which it names, and of no other one.
func TestPutOfABlockOfAnotherPlace(t *testing.T) {
	s, tips := treeOf(easy, someTxs, forks...)
	forked := map[api.Errno]int{}
	for i, tip := range tips {
		for k, other := range tips {
			if i == k {
				continue
			}
			b := dug(tip, nil, 31)
			b.H.Prev = head.Id(other.B.H)
			want := api.ErrPrev
			if tip.B.H.Height == other.B.H.Height {
				want = api.ErrRoot
				if !slices.Equal(b.L, behind(other, nil, 0).L) {
					want = api.ErrLink
				}
				forked[want]++
			}
			putIs(t, fmt.Sprint("of ", i, " behind ", k), s, found(b, true), want)
			putIs(t, fmt.Sprint("of ", i, " behind ", k), s, found(b, false), want)
		}
	}
	if forked[api.ErrLink] == 0 || forked[api.ErrRoot] == 0 {
		t.Error(forked)
	}
	// Coins that the one fork has, and the other one has not.
	mine := paid(tips[1].C[:1], 1)
	putIs(t, "spent where it is", s, dug(tips[1], []api.Tx{mine}, 0), api.OK)
	putIs(t, "spent where it is not", s, dug(tips[2], []api.Tx{mine}, 0), api.ErrSpend)
	made := []api.Tx{{Out: slices.Clone(s.B[1].T[0].Out)}}
	putIs(t, "made where it is", s, dug(tips[1], made, 0), api.ErrThere)
	putIs(t, "made where it is not", s, dug(tips[2], made, 0), api.OK)
}

func TestPutIntoAFullStore(t *testing.T) {
	for _, pars := range [][]int{line(41), star(41), comb(41), pairs(41), slices.Concat(forks, star(32))} {
		all, tips := treeOf(easy, coinsTxs, pars...)
		full, more := beginning(all, 40), all.B[40]
		almost := beginning(all, 39)
		next := puttable(t, "the last one", almost, all.B[39], all.Par[39])
		mayIs(t, "full", next, true)
		putIs(t, "one more", next, more, api.ErrFull)
		putIs(t, "behind one that is not there", almost, dug(tips[39], nil, 0), api.ErrNone)
		for _, at := range []int{0, 1, 20, 38, 39} {
			putIs(t, fmt.Sprint("one that might be, behind ", at), full, dug(tips[at], nil, 99), api.ErrFull)
			putIs(t, fmt.Sprint("one that is there, at ", at), full, full.B[at], api.ErrThere)
			putIs(t, "of its head alone", full, api.Block{H: full.B[at].H, L: someIds(50)}, api.ErrThere)
			odd := dug(tips[at], nil, 99)
			odd.H.Prev[0] ^= 1
			putIs(t, "behind none", full, odd, api.ErrNone)
		}
		putIs(t, "one that is there, into one of 41", all, all.B[40], api.ErrArg)
		putIs(t, "one behind none, into one of 41", all, api.Block{}, api.ErrArg)
	}
}

func TestPutOfASpoiledBlockIntoAFullStore(t *testing.T) {
	all, tips := treeOf(easy, coinsTxs, slices.Concat(line(20), places(0, 21))...)
	full, almost := beginning(all, 40), beginning(all, 39)
	for _, at := range []int{0, 18, 38} {
		for _, bad := range spoilings(tips[at], 3) {
			putIs(t, bad.name+", into an almost full one", almost, bad.b, bad.err)
			putIs(t, bad.name+", into a full one", full, bad.b, api.ErrFull)
			putIs(t, bad.name+", into one of 41", all, bad.b, api.ErrArg)
		}
	}
}

func TestPutWithATargetThatIsOutOfReach(t *testing.T) {
	s := api.Store{B: []api.Block{firstOf(least)}, Par: []int{-1}}
	tip, _ := block.First(least)
	putIs(t, "behind it", s, behind(tip, nil, 0), api.ErrWork)
	putIs(t, "itself", s, tip.B, api.ErrThere)
	tipsAre(t, "it", s, 0)
}

// What is answered has no two lists in one place, even if what is handed in has.
func TestNoTwoListsOfOneAnswerAreOne(t *testing.T) {
	good, tips := treeOf(easy, coinsTxs, forks...)
	outs := owned(3, 1, 2, 3).Out
	twice := api.Block{H: good.B[3].H, L: good.B[3].L, T: []api.Tx{{In: paid(tips[4].C[:2], 1).In, Out: outs}, {Out: outs}}}
	odd := api.Store{B: []api.Block{twice, twice, {L: twice.L}, {T: twice.T}}, Par: []int{-1, 0, 1, 2}}
	b := dug(tips[8], []api.Tx{owned(90, 5)}, 0)
	for _, s := range []api.Store{good, odd} {
		held, _ := Put(s, b)
		apart(t, held.B)
		apart(t, Chain(s, len(s.B)-1))
	}
}

func apart(t *testing.T, l []api.Block) {
	t.Helper()
	want := cloneBlocks(l)
	for i := range l {
		for k := range l[i].T {
			fill(l[i].T[k].In, api.In{I: i*10 + k})
			fill(l[i].T[k].Out, api.Out{V: i*10 + k})
			fill(want[i].T[k].In, api.In{I: i*10 + k})
			fill(want[i].T[k].Out, api.Out{V: i*10 + k})
		}
		fill(l[i].L, api.Id{byte(i)})
		fill(want[i].L, api.Id{byte(i)})
		if !sameBlocks(l, want) {
			t.Fatalf("block %d shares what is another one's", i)
		}
	}
}

// P13.4

func TestTipsOfTrees(t *testing.T) {
	for _, c := range []struct{ pars, tips []int }{
		{[]int{}, []int{0}},
		{[]int{0}, []int{1}},
		{[]int{0, 0}, []int{1, 2}},
		{[]int{0, 1}, []int{2}},
		{[]int{0, 1, 2, 3, 4, 5, 6}, []int{7}},
		{[]int{0, 0, 0}, []int{1, 2, 3}},
		{[]int{0, 0, 2}, []int{3, 1}},
		{[]int{0, 0, 1}, []int{3, 2}},
		{[]int{0, 0, 2, 1}, []int{3, 4}},
		{[]int{0, 0, 1, 2}, []int{3, 4}},
		{[]int{0, 1, 0}, []int{2, 3}},
		{[]int{0, 1, 2, 0, 4, 0}, []int{3, 5, 6}},
		{[]int{0, 0, 4 - 2, 3, 0, 5, 1}, []int{4, 6, 7}},
		{[]int{0, 0, 1, 2, 0, 0}, []int{3, 4, 5, 6}},
		{[]int{0, 0, 0, 3, 2, 1}, []int{4, 5, 6}},
		{[]int{0, 0, 0, 3, 4, 1}, []int{5, 6, 2}},
		{[]int{0, 0, 0, 0, 4, 3, 2, 1}, []int{5, 6, 7, 8}},
		{[]int{0, 0, 0, 0, 4, 5, 6, 7, 3, 9, 10, 2, 12}, []int{8, 11, 13, 1}},
		{forks, forkTips},
	} {
		for _, bits := range []uint32{easy, half, rare} {
			s, _ := treeOf(bits, someTxs, c.pars...)
			tipsAre(t, fmt.Sprintf("%x", bits), s, c.tips...)
		}
	}
}

func TestTipsAsAStoreGrows(t *testing.T) {
	s := someTree(forks...)
	for i, want := range [][]int{
		{0}, {1}, {1, 2}, {3, 2}, {4, 2}, {4, 5, 2}, {4, 5, 6}, {4, 5, 6, 7}, {8, 5, 6, 7}, {8, 9, 6, 7},
	} {
		tipsAre(t, "as it grows", beginning(s, i+1), want...)
	}
	other := api.Store{B: blocksAt(s, []int{0, 7, 2, 6, 1, 5, 3, 9, 4, 8}), Par: []int{-1, 0, 0, 2, 0, 4, 4, 5, 6, 8}}
	tipsAre(t, "in another order", other, 9, 7, 3, 1)
}

// Of tips of the same work the one that came first is first, in whichever order the blocks ahead of them came.
func TestTipsOfTheSameWork(t *testing.T) {
	for n := 2; n <= 12; n++ {
		r := rand.New(rand.NewSource(int64(n)))
		pars, want := star(n+1), []int{}
		for i, par := range r.Perm(n) {
			pars, want = append(pars, par+1), append(want, n+1+i)
		}
		tipsAre(t, "all alike", someTree(pars...), want...)
	}
}

func TestTipsOf40Blocks(t *testing.T) {
	tipsAre(t, "a line", someTree(line(40)...), 39)
	tipsAre(t, "a star", someTree(star(40)...), places(1, 40)...)
	var odd []int
	for i := 39; i > 0; i -= 2 {
		odd = append(odd, i)
	}
	tipsAre(t, "a comb", someTree(comb(40)...), odd...)
	tipsAre(t, "two behind each", someTree(pairs(40)...), slices.Concat(places(31, 40), places(20, 31))...)
	more := []int{37, 38, 39}
	longer := slices.Concat(lines(1, 2, 3, 4, 5, 6, 7, 8), make([]int, 3))
	tipsAre(t, "longer and longer", someTree(longer...), append([]int{36, 28, 21, 15, 10, 6, 3, 1}, more...)...)
	shorter := slices.Concat(lines(8, 7, 6, 5, 4, 3, 2, 1), make([]int, 3))
	tipsAre(t, "shorter and shorter", someTree(shorter...), append([]int{8, 15, 21, 26, 30, 33, 35, 36}, more...)...)
	tipsAre(t, "41", someTree(star(41)...))
}

func TestTipsOfStoresThatMayNotBe(t *testing.T) {
	for _, o := range oddStores() {
		tipsAre(t, o.name, o.s)
		if tips, best := Tips(o.s), Best(o.s); len(tips) != 0 || best != -1 {
			t.Errorf("%s: %v, %d", o.name, tips, best)
		}
	}
}

// P13.5

// anyTxs are what could be a block's: most of them may be.
func anyTxs(r *rand.Rand, p []api.Coin) []api.Tx {
	var l []api.Tx
	if r.Intn(4) > 0 {
		l = append(l, owned(r.Intn(256), 1+r.Intn(20), 1+r.Intn(20)))
	}
	for _, at := range r.Perm(len(p))[:min(len(p), r.Intn(4))] {
		l = append(l, paid(p[at:at+1], 1+r.Intn(p[at].V)))
	}
	return l
}

// aim is a place behind which a block is to stand: of some seeds rather late ones, of others any.
func aim(r *rand.Rand, seed int64, n int) int {
	if seed%2 == 0 {
		return r.Intn(n)
	}
	return max(r.Intn(n), r.Intn(n), r.Intn(n))
}

func TestWhatMayBeStaysSo(t *testing.T) {
	refused := 0
	for seed := range int64(4) {
		r := rand.New(rand.NewSource(seed))
		s, is := New([]uint32{easy, half, 0x201fffff, easy}[seed])
		if !is {
			t.Fatal("no first one")
		}
		for len(s.B) < 40 {
			par := aim(r, seed, len(s.B))
			l := chainOf(t, s, par)
			tip, err := chain.Check(l)
			if err != api.OK {
				t.Fatalf("seed %d: %s: %d: %d", seed, tell(s), par, err)
			}
			more, err := chain.Grow(l, anyTxs(r, tip.C), r.Uint64())
			if err != api.OK {
				refused++
				continue
			}
			s = puttable(t, fmt.Sprint("seed ", seed), s, more[len(more)-1], par)
			if !May(s) {
				t.Fatalf("seed %d: %s may not be", seed, tell(s))
			}
			bestIsBest(t, s)
		}
		mayIs(t, fmt.Sprint("seed ", seed), s, true)
		tipsAre(t, fmt.Sprint("seed ", seed), s, wantTips(s)...)
		more, err := chain.Grow(chainOf(t, s, 20), nil, 1<<50)
		if err != api.OK {
			t.Fatal(err)
		}
		putIs(t, "full", s, more[len(more)-1], api.ErrFull)
	}
	if refused > 200 {
		t.Errorf("%d blocks are refused", refused)
	}
}

func TestTheBestTipHasNoLessWork(t *testing.T) {
	for _, bits := range []uint32{easy, half, rare} {
		for _, pars := range [][]int{forks, line(30), star(40), comb(40), pairs(40), slices.Concat(star(10), line(25)), slices.Concat(line(25), star(10))} {
			s, _ := treeOf(bits, someTxs, pars...)
			for n := range s.B {
				bestIsBest(t, beginning(s, n+1))
			}
		}
	}
}

// R2 and P1: several things wrong at once

func TestAnyStores(t *testing.T) {
	r := rand.New(rand.NewSource(1))
	bases := []api.Store{someTree(forks...), someTree(line(8)...), someTree(star(8)...), someTreeOf(half, forks...), someTree(pairs(12)...)}
	var blocks []api.Block
	for _, s := range bases {
		blocks = append(blocks, s.B...)
	}
	_, tips := treeOf(easy, someTxs, forks...)
	for i := range tips {
		for _, bad := range spoilings(tips[i], uint64(i)) {
			blocks = append(blocks, bad.b)
		}
		blocks = append(blocks, dug(tips[i], nil, 5))
	}
	errs := map[api.Errno]int{}
	for range 700 {
		s := clone(bases[r.Intn(len(bases))])
		for range r.Intn(3) {
			muddle(r, &s, blocks)
		}
		mayIs(t, "any", s, wantMay(s))
		tipsAre(t, "any", s, wantTips(s)...)
		chainOf(t, s, r.Intn(len(s.B)+2)-1)
		_, err := put(t, s, blocks[r.Intn(len(blocks))])
		errs[err]++
		if t.Failed() {
			return
		}
	}
	for _, err := range []api.Errno{api.OK, api.ErrArg, api.ErrThere, api.ErrNone, api.ErrPrev, api.ErrRoot} {
		if errs[err] < 5 {
			t.Errorf("only %d of error %d", errs[err], err)
		}
	}
}

// muddle makes one thing of a store another one.
func muddle(r *rand.Rand, s *api.Store, blocks []api.Block) {
	if len(s.B) == 0 || len(s.Par) == 0 {
		return
	}
	at, par := r.Intn(len(s.B)), r.Intn(len(s.Par))
	switch r.Intn(8) {
	case 0:
		s.B[at] = blocks[r.Intn(len(blocks))]
	case 1:
		part := turns[r.Intn(len(turns))]
		part.turn(&s.B[at].H, r.Intn(part.bits))
	case 2:
		s.Par[par] = r.Intn(len(s.Par)+3) - 2
	case 3:
		s.Par = s.Par[:par]
	case 4:
		s.B = s.B[:at]
	case 5:
		s.B, s.Par = s.B[:min(at+1, len(s.Par))], s.Par[:min(at+1, len(s.Par))]
	case 6:
		s.B, s.Par = append(s.B, blocks[r.Intn(len(blocks))]), append(s.Par, par)
	case 7:
		s.B[at].T = append(s.B[at].T, owned(1, 1))
	}
}

// R5

func TestAnswersHangOnNothingElse(t *testing.T) {
	s, tips := treeOf(easy, someTxs, forks...)
	b := dug(tips[6], nil, 5)
	ask := func() string {
		first, is := New(easy)
		no, not := New(5)
		more, err := Put(s, b)
		stays, fault := Put(s, s.B[4])
		return fmt.Sprint(first, is, no, not, more, err, stays, fault, May(s), Same(s, more), Chain(s, 8), Tips(s), Best(s))
	}
	want := ask()
	for _, o := range oddStores() {
		May(o.s)
		Same(o.s, s)
		Put(o.s, b)
		Chain(o.s, 3)
		Tips(o.s)
		Best(o.s)
	}
	if ask() != want {
		t.Error("asked again, another answer")
	}
}
