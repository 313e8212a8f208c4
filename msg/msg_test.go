package msg_test

import (
	"math"
	"reflect"
	"slices"
	"strings"
	"testing"
	"unsafe"

	"hallmoot/api"
	"hallmoot/block"
	"hallmoot/cert"
	"hallmoot/msg"
	"hallmoot/tx"
)

// ends: numbers far off, which are something else when they are cut to 32 bits, too.
func ends() []int {
	return []int{math.MinInt, math.MinInt + 1, -1 << 32, -1<<32 + 1, -2, -1, 1 << 31, 1<<32 - 1, 1 << 32, 1<<32 + 1, 1<<32 + 2, 1<<62 - 1, 1 << 62, math.MaxInt - 1, math.MaxInt}
}

// noCerts: certificates that may be none.
func noCerts() []api.Cert {
	bare, signed, seen, low, high, far := regular(2, 4), regular(2, 4), regular(2, 4), chained(2, 4, 0, 3), chained(2, 4, 4, 3), chained(2, 4, 1, 10)
	bare.Signers, signed.Signers, seen.Coin = 0, 1<<10, 1
	coin, bookless, late := endorsed(1, 4, 1, 3), regular(2, 4), regular(2, 4)
	coin.Coin, bookless.Block, late.Round = 1<<10, 0, api.MaxRound+1
	return []api.Cert{bare, signed, seen, low, high, far, coin, bookless, late, {View: 2}, {Round: 4}, {Signers: 1}, {Kind: -1}, {Kind: 3}, {Kind: 1}, {Kind: 2},
		{Kind: 3, Block: 1, View: 2, Round: 4, Height: 3, Signers: 1}, {Kind: 1, Block: 1, View: -1, Round: 4, Signers: 1}, {Kind: 1, Block: 1, Round: 4, Signers: 1}, {Kind: 1, Block: 1, View: 2, Signers: 1},
		{Kind: 2, Block: 1, View: 2, Round: math.MaxInt, Height: 3, Author: 3, Signers: 1}, {Kind: 2, Block: 1, View: 2, Round: -1, Height: 3, Author: 3, Signers: 1}}
}

// TestP14_1_CheckOfRightOnes: of each kind, what they have at its ends.
func TestP14_1_CheckOfRightOnes(t *testing.T) {
	counts := map[int]int{}
	for _, m := range rights() {
		checked(t, m, api.OK)
		counts[m.Kind]++
	}
	for kind := 1; kind <= kinds; kind++ {
		if counts[kind] < 7 {
			t.Errorf("only %d are of kind %d", counts[kind], kind)
		}
	}
}

// edge: a number of a message, and from where to where it may be.
type edge struct {
	m           msg.Msg
	n           func(m *msg.Msg) *int
	least, most int
}

// edges: of each number that may be from here to there, whatever the rest is.
func edges() []edge {
	signer, view := func(m *msg.Msg) *int { return &m.Signer }, func(m *msg.Msg) *int { return &m.View }
	late := func(m *msg.Msg) *int { return &m.Timeout.View }
	block, ofCert := func(m *msg.Msg) *int { return &m.Cert.Block }, func(m *msg.Msg) *int { return &m.Cert.View }
	round, author := func(m *msg.Msg) *int { return &m.Cert.Round }, func(m *msg.Msg) *int { return &m.Cert.Author }
	height := func(m *msg.Msg) *int { return &m.Cert.Height }
	vote, chain := msg.Msg{Kind: 2, Cert: by(regular(2, 4), 2)}, msg.Msg{Kind: 2, Cert: by(chained(2, 4, 1, 3), 2)}
	done, high, low := msg.Msg{Kind: 5, Cert: chained(2, 4, 3, 3)}, msg.Msg{Kind: 10, Cert: endorsed(2, 4, 1, 3)}, msg.Msg{Kind: 10, Cert: regular(2, 4)}
	var l []edge
	for _, m := range []msg.Msg{{Kind: 6, View: 5}, {Kind: 12, View: 5}, {Kind: 8, N: 5}} {
		l = append(l, edge{m, signer, 0, 9})
	}
	for _, m := range []msg.Msg{{Kind: 6, Signer: 2}, {Kind: 12, Signer: 2}, {Kind: 7, Set: 6}} {
		l = append(l, edge{m, view, 1, 1048576})
	}
	for _, m := range []msg.Msg{vote, chain, done, high, low} {
		l = append(l, edge{m, block, 1, 2147483647}, edge{m, ofCert, 1, 1048576}, edge{m, round, 1, 1073741824})
	}
	for _, m := range []msg.Msg{chain, done, high} {
		l = append(l, edge{m, author, 0, 9})
	}
	return append(l,
		edge{msg.Msg{Kind: 8}, func(m *msg.Msg) *int { return &m.N }, 1, 2147483647},
		edge{msg.Msg{Kind: 3, Timeout: api.Timeout{View: 5}}, func(m *msg.Msg) *int { return &m.Timeout.Signer }, 0, 9},
		edge{msg.Msg{Kind: 3}, late, 1, 1048576},
		edge{msg.Msg{Kind: 3, Timeout: api.Timeout{High: regular(5, 4)}}, late, 5, 1048576},
		edge{msg.Msg{Kind: 3, Timeout: api.Timeout{High: endorsed(5, 4, 3, 3)}}, late, 6, 1048576},
		edge{chain, height, 1, 3}, edge{high, height, 1, 3}, edge{done, height, 3, 3},
		edge{vote, height, 0, 0}, edge{vote, author, 0, 0}, edge{low, height, 0, 0}, edge{low, author, 0, 0},
	)
}

// TestP14_1_CheckOfEdges: the least and the greatest of each number, and one below and one above.
func TestP14_1_CheckOfEdges(t *testing.T) {
	for _, x := range edges() {
		for _, n := range append(ends(), x.least-1, x.least, x.least+1, x.most-1, x.most, x.most+1, 0, 1, 2, 255, 256, 1<<30) {
			want := api.ErrMsg
			if n >= x.least && n <= x.most {
				want = api.OK
			}
			checked(t, with(x.m, func(m *msg.Msg) { *x.n(m) = n }), want)
		}
	}
}

// TestP14_1_CheckOfOtherKinds: there are twelve.
func TestP14_1_CheckOfOtherKinds(t *testing.T) {
	for _, kind := range append(ends(), 0, 13, 14, 16, 17, 127, 128, 255, 256, 257, 1<<16+1, 1<<31-1) {
		checked(t, msg.Msg{Kind: kind}, api.ErrMsg)
		for _, m := range rights() {
			checked(t, with(m, func(m *msg.Msg) { m.Kind = kind }), api.ErrMsg)
		}
	}
	checked(t, msg.Msg{}, api.ErrMsg)
	for kind := range kinds + 1 {
		checked(t, msg.Msg{Kind: kind}, api.ErrMsg)
	}
}

// TestP14_1_CheckOfAnotherKindsContents: but for those that have the same.
func TestP14_1_CheckOfAnotherKindsContents(t *testing.T) {
	also := map[int][]int{1: {1, 9}, 9: {1, 9}, 6: {6, 12}, 12: {6, 12}, 3: {3}, 4: {4}, 7: {7}, 8: {8}, 11: {11}, 2: {2, 10}, 5: {5}, 10: {10}}
	for _, m := range plain() {
		for kind := 1; kind <= kinds; kind++ {
			want := api.ErrMsg
			if slices.Contains(also[m.Kind], kind) {
				want = api.OK
			}
			checked(t, with(m, func(m *msg.Msg) { m.Kind = kind }), want)
		}
	}
	for _, m := range rights() {
		for kind := 1; kind <= kinds; kind++ {
			other := with(m, func(m *msg.Msg) { m.Kind = kind })
			checked(t, other, why(other))
		}
	}
}

// TestP14_1_CheckOfWhatItsKindDoesntName: each number, each text, and each list is zero.
func TestP14_1_CheckOfWhatItsKindDoesntName(t *testing.T) {
	for _, m := range rights() {
		count := 0
		for _, by := range []int64{1, -1, 7, 1 << 31, math.MinInt64} {
			for _, x := range changed(m, by) {
				if x.at == "Kind" || named(m.Kind, x.at) || same(x.m, m) {
					continue
				}
				count++
				checked(t, x.m, api.ErrMsg)
			}
		}
		if count < 100 {
			t.Errorf("of kind %d only %d were changed", m.Kind, count)
		}
	}
	for _, m := range plain() {
		for _, x := range []struct {
			at     string
			change func(m *msg.Msg)
		}{
			{"Proof", func(m *msg.Msg) { m.Proof = []api.Timeout{{}} }},
			{"Proof", func(m *msg.Msg) { m.Proof = timeouts(2, 0, 2, 3) }},
			{"Proof", func(m *msg.Msg) { m.Proof = make([]api.Timeout, 1<<16) }},
			{"Block", func(m *msg.Msg) { m.Block = blocks()[0] }},
			{"Block", func(m *msg.Msg) { m.Block.Proof = []api.Timeout{{}} }},
			{"Block", func(m *msg.Msg) { m.Block.Proof = timeouts(2, 0, 2, 3) }},
			{"Block", func(m *msg.Msg) { m.Block.Txs = []api.Tx{{}} }},
			{"Block", func(m *msg.Msg) { m.Block.Txs = []api.Tx{move(1)} }},
			{"Cert", func(m *msg.Msg) { m.Cert = by(regular(2, 4), 1) }},
			{"Timeout", func(m *msg.Msg) { m.Timeout = api.Timeout{View: 2} }},
			{"Timeout", func(m *msg.Msg) { m.Timeout.High = regular(2, 4) }},
			{"Tx", func(m *msg.Msg) { m.Tx = move(1) }},
			{"Signer", func(m *msg.Msg) { m.Signer = 3 }},
			{"View", func(m *msg.Msg) { m.View = 3 }},
			{"N", func(m *msg.Msg) { m.N = 3 }},
			{"Set", func(m *msg.Msg) { m.Set = 3 }},
			{"Set", func(m *msg.Msg) { m.Set = 1 << 31 }},
		} {
			if !named(m.Kind, x.at) {
				checked(t, with(m, x.change), api.ErrMsg)
			}
		}
	}
}

// TestP14_1_CheckOfNoItems: a list that its kind doesn't name may be nil or empty.
func TestP14_1_CheckOfNoItems(t *testing.T) {
	for _, m := range plain() {
		for _, lists := range []int{0, 1, 2, 3, 4, 5, 6, 7} {
			checked(t, with(m, func(m *msg.Msg) {
				if lists&1 != 0 && m.Kind != 4 {
					m.Proof = []api.Timeout{}
				}
				if lists&2 != 0 && len(m.Block.Proof) == 0 {
					m.Block.Proof = make([]api.Timeout, 0, 3)
				}
				if lists&4 != 0 && len(m.Block.Txs) == 0 {
					m.Block.Txs = []api.Tx{}
				}
			}), api.OK)
		}
	}
}

// certified: does Check of messages of these kinds with each certificate tell so?
func certified(t *testing.T, kind int, c api.Cert, may bool) {
	t.Helper()
	want := api.ErrMsg
	if may {
		want = api.OK
	}
	checked(t, msg.Msg{Kind: kind, Cert: c}, want)
}

// TestP14_1_CheckOfVote: Regular or Fallback, of one signer, and without a coin.
func TestP14_1_CheckOfVote(t *testing.T) {
	certified(t, 2, api.Cert{}, false)
	for height := range 5 {
		for author := -1; author <= 10; author++ {
			certified(t, 2, by(chained(2, 4, height, author), 4), height >= 1 && height <= 3 && author >= 0 && author <= 9)
			certified(t, 2, by(endorsed(2, 4, height, author), 4), false)
		}
	}
	for bit := range 32 {
		for _, c := range []api.Cert{regular(2, 4), chained(2, 4, 1, 3), chained(2, 4, 2, 3), chained(2, 4, 3, 3)} {
			certified(t, 2, by(c, 1<<bit), bit < 10)
			certified(t, 2, by(c, 1<<bit|1), bit == 0)
			certified(t, 2, by(c, 1<<bit|1<<9), bit == 9)
			certified(t, 2, by(c, 1<<bit|1<<10), false)
			c.Coin = 1 << bit
			certified(t, 2, by(c, 4), false)
		}
	}
	for _, signers := range []uint32{0, 3, 6, 7, 0x3ff, 0x7ff, math.MaxUint32} {
		certified(t, 2, by(regular(2, 4), signers), false)
		certified(t, 2, by(chained(2, 4, 2, 3), signers), false)
	}
	for _, c := range noCerts() {
		certified(t, 2, c, false)
		certified(t, 2, by(c, 1), cert.Check(by(c, 1)) == api.OK)
	}
	c := by(regular(2, 4), 4)
	for _, c.Kind = range []int{-1, 0, 3, 4} {
		certified(t, 2, c, false)
	}
}

// TestP14_1_CheckOfDone: Fallback, of MaxHeight, and without a coin, whoever signed it.
func TestP14_1_CheckOfDone(t *testing.T) {
	certified(t, 5, api.Cert{}, false)
	for _, signers := range []uint32{0, 1, 2, 3, 7, 1 << 9, 0x3ff, 0x400, 0x401, math.MaxUint32} {
		certified(t, 5, by(regular(2, 4), signers), false)
		for height := range 5 {
			certified(t, 5, by(chained(2, 4, height, 3), signers), height == 3 && signers-1 < 0x3ff)
			certified(t, 5, by(endorsed(2, 4, height, 3), signers), false)
		}
	}
	for bit := range 32 {
		c := chained(2, 4, 3, 3)
		c.Coin = 1 << bit
		certified(t, 5, c, false)
	}
	for _, c := range noCerts() {
		certified(t, 5, c, false)
		c.Height = 3
		certified(t, 5, c, cert.Check(c) == api.OK && c.Kind == 2 && c.Coin == 0)
	}
	c := chained(2, 4, 3, 3)
	for _, c.Kind = range []int{-1, 0, 1, 3} {
		certified(t, 5, c, false)
	}
}

// TestP14_1_CheckOfHigh: Regular, or Fallback and endorsed, whoever signed it.
func TestP14_1_CheckOfHigh(t *testing.T) {
	certified(t, 10, api.Cert{}, false)
	for _, signers := range []uint32{0, 1, 2, 3, 7, 1 << 9, 0x3ff, 0x400, 0x401, math.MaxUint32} {
		certified(t, 10, by(regular(2, 4), signers), signers-1 < 0x3ff)
		for height := range 5 {
			certified(t, 10, by(chained(2, 4, height, 3), signers), false)
			certified(t, 10, by(endorsed(2, 4, height, 3), signers), height >= 1 && height <= 3 && signers-1 < 0x3ff)
		}
	}
	for bit := range 32 {
		r, c := regular(2, 4), chained(2, 4, 2, 3)
		r.Coin, c.Coin = 1<<bit, 1<<bit
		certified(t, 10, r, false)
		certified(t, 10, c, bit < 10)
	}
	for _, c := range noCerts() {
		certified(t, 10, c, false)
	}
	c := endorsed(2, 4, 1, 3)
	for _, c.Kind = range []int{-1, 0, 1, 3} {
		certified(t, 10, c, false)
	}
}

// TestP14_1_CheckOfGiveUp: a timeout that may be one.
func TestP14_1_CheckOfGiveUp(t *testing.T) {
	for _, x := range []struct {
		of   api.Timeout
		want api.Errno
	}{
		{api.Timeout{}, 140}, {api.Timeout{View: 1}, 0}, {api.Timeout{Signer: 9, View: api.MaxView}, 0}, {api.Timeout{Signer: 10, View: 1}, 140}, {api.Timeout{Signer: -1, View: 1}, 140},
		{api.Timeout{View: 2, High: regular(1, 4)}, 0}, {api.Timeout{View: 2, High: regular(2, 4)}, 0}, {api.Timeout{View: 2, High: regular(3, 4)}, 140},
		{api.Timeout{View: 2, High: endorsed(1, 4, 3, 1)}, 0}, {api.Timeout{View: 2, High: endorsed(2, 4, 3, 1)}, 140}, {api.Timeout{View: 2, High: endorsed(3, 4, 3, 1)}, 140},
		{api.Timeout{View: 2, High: chained(1, 4, 3, 1)}, 140}, {api.Timeout{View: 2, High: chained(2, 4, 3, 1)}, 140},
	} {
		checked(t, msg.Msg{Kind: 3, Timeout: x.of}, x.want)
	}
	for _, c := range noCerts() {
		checked(t, msg.Msg{Kind: 3, Timeout: api.Timeout{Signer: 3, View: 2, High: c}}, api.ErrMsg)
		checked(t, msg.Msg{Kind: 3, Timeout: api.Timeout{Signer: 3, View: api.MaxView, High: c}}, api.ErrMsg)
	}
}

// TestP14_1_CheckOfProof: 1 to MaxN timeouts, their Signers rising.
func TestP14_1_CheckOfProof(t *testing.T) {
	for _, x := range []struct {
		signers []int
		want    api.Errno
	}{
		{nil, 140}, {[]int{}, 140}, {[]int{0}, 0}, {[]int{9}, 0}, {[]int{-1}, 140}, {[]int{10}, 140},
		{[]int{0, 1}, 0}, {[]int{0, 9}, 0}, {[]int{8, 9}, 0}, {[]int{1, 1}, 140}, {[]int{0, 0}, 140}, {[]int{1, 0}, 140}, {[]int{9, 0}, 140},
		{[]int{-1, 0}, 140}, {[]int{9, 10}, 140}, {[]int{0, 2, 3}, 0}, {[]int{0, 3, 2}, 140}, {[]int{0, 2, 2}, 140}, {[]int{0, 0, 2}, 140},
		{[]int{2, 0, 3}, 140}, {[]int{0, 2, 1}, 140}, {[]int{0, 2, 0}, 140}, {[]int{1, 2, 3, 4, 5, 6, 7, 8, 9}, 0}, {everybody(), 0},
		{append(everybody(), 9), 140}, {append(everybody(), 10), 140}, {append([]int{0}, everybody()...), 140}, {append([]int{-1}, everybody()...), 140},
		{make([]int, 10), 140}, {make([]int, 11), 140}, {make([]int, 1<<16), 140},
	} {
		for _, view := range []int{1, 2, api.MaxView} {
			checked(t, msg.Msg{Kind: 4, Proof: timeouts(view, x.signers...)}, x.want)
		}
	}
	for view, want := range map[int]api.Errno{-1: 140, 0: 140, 1: 0, api.MaxView: 0, api.MaxView + 1: 140} {
		checked(t, msg.Msg{Kind: 4, Proof: []api.Timeout{{Signer: 2, View: view}}}, want)
		checked(t, msg.Msg{Kind: 4, Proof: []api.Timeout{{Signer: 2, View: view}, {Signer: 3, View: view}}}, want)
	}
}

// TestP14_1_CheckOfProofsViews: all of one View, and each one that may be.
func TestP14_1_CheckOfProofsViews(t *testing.T) {
	for count := 2; count <= 10; count++ {
		for i := range count {
			for view := 1; view <= 9; view++ {
				p := timeouts(5, everybody()[:count]...)
				p[i] = api.Timeout{Signer: i, View: view}
				want := api.ErrMsg
				if view == 5 {
					want = api.OK
				}
				checked(t, msg.Msg{Kind: 4, Proof: p}, want)
			}
			for _, c := range append(noCerts(), regular(6, 4), chained(5, 4, 1, 3), chained(4, 4, 3, 3), endorsed(5, 4, 1, 3), endorsed(6, 4, 1, 3)) {
				p := timeouts(5, everybody()[:count]...)
				p[i].High = c
				checked(t, msg.Msg{Kind: 4, Proof: p}, api.ErrMsg)
			}
		}
	}
}

// TestP14_1_CheckOfElect: a set that isn't empty, of bits below MaxN.
func TestP14_1_CheckOfElect(t *testing.T) {
	for set := range uint32(0x1000) {
		want := api.ErrMsg
		if set >= 1 && set <= 0x3ff {
			want = api.OK
		}
		checked(t, msg.Msg{Kind: 7, View: 3, Set: set}, want)
	}
	for bit := 10; bit < 32; bit++ {
		for _, beside := range []uint32{0, 1, 6, 1 << 9, 0x3ff, 1 << 31} {
			checked(t, msg.Msg{Kind: 7, View: 3, Set: 1<<bit | beside}, api.ErrMsg)
		}
	}
	checked(t, msg.Msg{Kind: 7, View: 3, Set: math.MaxUint32}, api.ErrMsg)
}

// TestP14_1_CheckOfBlocks: of Propose and Give, with each number and text of a block another one.
func TestP14_1_CheckOfBlocks(t *testing.T) {
	counts := map[api.Errno]int{}
	for _, base := range blocks() {
		for _, kind := range []int{1, 9} {
			for _, by := range []int64{1, -1, 1 << 32} {
				for _, x := range changed(msg.Msg{Kind: kind, Block: base}, by) {
					if !named(kind, x.at) {
						continue
					}
					e := block.Check(x.m.Block)
					counts[e]++
					want := api.ErrMsg
					if e == api.OK {
						want = api.OK
					}
					checked(t, x.m, want)
				}
			}
			for _, change := range []func(b *api.Block){
				func(b *api.Block) { b.View = 0 }, func(b *api.Block) { b.View = api.MaxView + 1 }, func(b *api.Block) { b.Author = 10 }, func(b *api.Block) { b.Height = 4 },
				func(b *api.Block) { b.Round++ }, func(b *api.Block) { b.Parent = api.Cert{Kind: 3} }, func(b *api.Block) { b.Txs = slices.Repeat([]api.Tx{move(1)}, 9) },
				func(b *api.Block) { b.Txs = []api.Tx{{}} }, func(b *api.Block) { b.Proof = timeouts(2, 3, 2) }, func(b *api.Block) { b.Proof = []api.Timeout{{Signer: 10, View: b.View}} },
			} {
				checked(t, with(msg.Msg{Kind: kind, Block: base}, func(m *msg.Msg) { change(&m.Block) }), api.ErrMsg)
			}
		}
	}
	for _, e := range []api.Errno{api.OK, api.ErrBlock, api.ErrParent, api.ErrProof} {
		if counts[e] < 10 {
			t.Errorf("error %d was told %d times", e, counts[e])
		}
	}
}

// TestP14_1_CheckOfSubmit: a transaction that is right.
func TestP14_1_CheckOfSubmit(t *testing.T) {
	for _, x := range []api.Tx{
		{}, {Kind: 1}, {Kind: 2}, {Kind: 3, From: "a", To: "b", Amount: 1, Nonce: 1}, {Kind: -1, From: "a", To: "b", Amount: 1, Nonce: 1}, {Kind: 1, From: "A", To: "b", Amount: 1, Nonce: 1},
		{Kind: 1, From: "a", To: "", Amount: 1, Nonce: 1}, {Kind: 1, From: "a", To: "b", Nonce: 1}, {Kind: 1, From: "a", To: "b", Amount: 1}, {Kind: 1, From: "a", To: "b", Amount: 1, Nonce: api.MaxInt + 1},
		{Kind: 1, From: "a", To: "b", Amount: 1, Nonce: 1, Key: "k"}, {Kind: 1, From: "a", To: "b", Amount: 1, Nonce: 1, Val: "v"}, {Kind: 2, From: "a", Key: "b", Val: "\n", Nonce: 1},
		{Kind: 2, From: "a", To: "c", Key: "b", Nonce: 1}, {Kind: 2, From: "a", Key: "b", Amount: 1, Nonce: 1}, {Kind: 2, From: "a", Key: strings.Repeat("k", 33), Nonce: 1},
		{Kind: 2, From: "a", Key: "b", Val: strings.Repeat("v", 70000), Nonce: 1},
	} {
		checked(t, msg.Msg{Kind: 11, Tx: x}, api.ErrMsg)
	}
	for _, x := range []api.Tx{{Kind: 1, From: "a", To: "a", Amount: 1, Nonce: 1}, {Kind: 1, From: "a", To: "b", Amount: api.MaxInt, Nonce: api.MaxInt}, {Kind: 2, From: "a", Key: "a", Nonce: 1}} {
		checked(t, msg.Msg{Kind: 11, Tx: x}, api.OK)
	}
	for _, base := range []api.Tx{move(1), put(1)} {
		for _, by := range []int64{1, -1, math.MinInt64} {
			for _, x := range changed(msg.Msg{Kind: 11, Tx: base}, by) {
				if named(11, x.at) {
					checked(t, x.m, map[bool]api.Errno{true: 0, false: 140}[tx.Check(x.m.Tx) == api.OK])
				}
			}
		}
	}
}

// TestP14_1_CheckOfChangedOnes: each number and text of a message is another one, held against a second reckoning.
func TestP14_1_CheckOfChangedOnes(t *testing.T) {
	counts := map[api.Errno]int{}
	for _, base := range rights() {
		for _, by := range []int64{1, -1, 2, 1 << 32} {
			for _, x := range changed(base, by) {
				counts[why(x.m)]++
				if e := msg.Check(x.m); e != why(x.m) {
					t.Errorf("Check(%+v): error %d, not %d", x.m, e, why(x.m))
				}
			}
		}
	}
	if counts[api.OK] < 1000 || counts[api.ErrMsg] < 10000 || len(counts) != 2 {
		t.Errorf("told: %v", counts)
	}
}

// crowded: a message with something in each field, which may be none.
func crowded() msg.Msg {
	return msg.Msg{Kind: 4, Signer: 1, View: 2, N: 3, Set: 4, Cert: endorsed(5, 6, 7, 8), Timeout: api.Timeout{Signer: 9, View: 10, High: endorsed(11, 12, 13, 14)}, Proof: timeouts(15, 1, 2, 3), Block: blocks()[1], Tx: api.Tx{Kind: 1, From: "a", To: "b", Key: "c", Val: "d", Amount: 5, Nonce: 6}}
}

// TestP14_1_Same: messages that differ in one number or text aren't.
func TestP14_1_Same(t *testing.T) {
	places := map[string]bool{}
	for _, base := range append(plain(), msg.Msg{}, crowded(), msg.Msg{Kind: 1, Block: blocks()[6]}) {
		alikeTo(t, base, base, true)
		alikeTo(t, base, clone(base), true)
		for _, by := range []int64{1, -1, 256, 1 << 31, math.MinInt64} {
			l := changed(base, by)
			// A Msg has 5 numbers, a Cert 8, a Timeout 10, a Tx 7, a Block 4 and a Cert; a set is of 32 bits.
			if want := 5 + 8 + 10 + 12 + 7 + 10*(len(base.Proof)+len(base.Block.Proof)) + 7*len(base.Block.Txs); len(l) != want {
				t.Errorf("%d were changed, not %d", len(l), want)
			}
			for _, x := range l {
				places[x.at] = true
				alikeTo(t, base, x.m, same(base, x.m))
			}
		}
		again := changed(base, 1)
		for i, x := range changed(base, 1) {
			alikeTo(t, base, x.m, false)
			alikeTo(t, again[i].m, x.m, true)
		}
	}
	if len(places) != 5+8+10+10+12+10+7+7 {
		t.Errorf("only %d places were changed", len(places))
	}
}

// TestP14_1_SameOfAnyTwo: right ones are the same as themselves alone.
func TestP14_1_SameOfAnyTwo(t *testing.T) {
	l := rights()
	for i, a := range l {
		for _, b := range l[i:] {
			alikeTo(t, a, b, same(a, b))
		}
	}
}

// TestP14_1_SameOfLists: longer ones, shorter ones, in another order.
func TestP14_1_SameOfLists(t *testing.T) {
	base := with(crowded(), func(m *msg.Msg) { m.Block.Txs = []api.Tx{move(1), put(2), move(3)} })
	for _, change := range []func(m *msg.Msg){
		func(m *msg.Msg) { m.Proof = nil },
		func(m *msg.Msg) { m.Proof = []api.Timeout{} },
		func(m *msg.Msg) { m.Proof = m.Proof[:2] },
		func(m *msg.Msg) { m.Proof = m.Proof[1:] },
		func(m *msg.Msg) { m.Proof = append(m.Proof, api.Timeout{}) },
		func(m *msg.Msg) { m.Proof = append(m.Proof, m.Proof[2]) },
		func(m *msg.Msg) { m.Proof[0], m.Proof[1] = m.Proof[1], m.Proof[0] },
		func(m *msg.Msg) { m.Block.Proof = nil },
		func(m *msg.Msg) { m.Block.Proof = m.Block.Proof[:2] },
		func(m *msg.Msg) { m.Block.Proof[0], m.Block.Proof[1] = m.Block.Proof[1], m.Block.Proof[0] },
		func(m *msg.Msg) { m.Block.Txs = nil },
		func(m *msg.Msg) { m.Block.Txs = append(m.Block.Txs, api.Tx{}) },
		func(m *msg.Msg) { m.Block.Txs[0], m.Block.Txs[2] = m.Block.Txs[2], m.Block.Txs[0] },
	} {
		alikeTo(t, base, with(base, change), false)
	}
}

// TestP14_1_SameOfNoItems: nil and empty lists are alike.
func TestP14_1_SameOfNoItems(t *testing.T) {
	proofs := [][]api.Timeout{nil, {}, make([]api.Timeout, 0, 9), timeouts(2, 0, 2)[:0]}
	for _, base := range append(plain(), msg.Msg{}, crowded()) {
		for _, a := range proofs {
			for _, b := range proofs {
				alikeTo(t, with(base, func(m *msg.Msg) { m.Proof = a }), with(base, func(m *msg.Msg) { m.Proof = b }), true)
				alikeTo(t, with(base, func(m *msg.Msg) { m.Block.Proof = a }), with(base, func(m *msg.Msg) { m.Block.Proof = b }), true)
			}
		}
		alikeTo(t, with(base, func(m *msg.Msg) { m.Block.Txs = nil }), with(base, func(m *msg.Msg) { m.Block.Txs = []api.Tx{} }), true)
	}
}

// example: a message, and its bytes.
type example struct {
	m    msg.Msg
	want string
}

// examples: of each kind, written out.
func examples() []example {
	vote, fall := api.Cert{Kind: 1, Block: 300, View: 2, Round: 4, Signers: 8}, api.Cert{Kind: 2, Block: 5, View: 2, Round: 9, Height: 1, Author: 4, Signers: 128}
	done := api.Cert{Kind: 2, Block: 5, View: 2, Round: 9, Height: 3, Author: 4, Signers: 11}
	high := done
	high.Height, high.Coin = 2, 512
	return []example{
		{msg.Msg{Kind: 1, Block: api.Block{View: 1, Round: 1}}, "\x01" + "\x01\x01\x00\x00\x00\x00\x00"},
		{msg.Msg{Kind: 1, Block: api.Block{View: 2, Round: 5, Author: 1, Parent: by(vote, 7), Txs: []api.Tx{move(1)}}}, "\x01" + "\x02\x05\x00\x01" + "\x01\xac\x02\x02\x04\x07" + "\x00" + "\x01" + "\x01\x01\x05alice\x03bob\xac\x02"},
		{msg.Msg{Kind: 2, Cert: vote}, "\x02" + "\x01\xac\x02\x02\x04\x08"},
		{msg.Msg{Kind: 2, Cert: fall}, "\x02" + "\x02\x05\x02\x09\x80\x01\x01\x04\x00"},
		{msg.Msg{Kind: 3, Timeout: api.Timeout{Signer: 1, View: 2}}, "\x03" + "\x01\x02\x00"},
		{msg.Msg{Kind: 3, Timeout: api.Timeout{Signer: 9, View: 300, High: high}}, "\x03" + "\x09\xac\x02" + "\x02\x05\x02\x09\x0b\x02\x04\x80\x04"},
		{msg.Msg{Kind: 4, Proof: []api.Timeout{{Signer: 3, View: 7}}}, "\x04" + "\x07\x01" + "\x03\x00"},
		{msg.Msg{Kind: 4, Proof: []api.Timeout{{Signer: 0, View: 128}, {Signer: 2, View: 128, High: by(vote, 7)}, {Signer: 3, View: 128, High: high}}},
			"\x04" + "\x80\x01\x03" + "\x00\x00" + "\x02\x01\xac\x02\x02\x04\x07" + "\x03\x02\x05\x02\x09\x0b\x02\x04\x80\x04"},
		{msg.Msg{Kind: 5, Cert: done}, "\x05" + "\x02\x05\x02\x09\x0b\x03\x04\x00"},
		{msg.Msg{Kind: 6, Signer: 2, View: 5}, "\x06\x02\x05"},
		{msg.Msg{Kind: 6, Signer: 0, View: 1 << 20}, "\x06\x00\x80\x80\x40"},
		{msg.Msg{Kind: 7, View: 3, Set: 6}, "\x07\x03\x06"},
		{msg.Msg{Kind: 7, View: 1, Set: 0x3ff}, "\x07\x01\xff\x07"},
		{msg.Msg{Kind: 8, Signer: 1, N: 300}, "\x08\x01\xac\x02"},
		{msg.Msg{Kind: 8, Signer: 9, N: 1<<31 - 1}, "\x08\x09\xff\xff\xff\xff\x07"},
		{msg.Msg{Kind: 9, Block: api.Block{View: 2, Round: 10, Height: 2, Author: 4, Parent: fall}}, "\x09" + "\x02\x0a\x02\x04" + "\x02\x05\x02\x09\x80\x01\x01\x04\x00" + "\x00\x00"},
		{msg.Msg{Kind: 10, Cert: by(vote, 7)}, "\x0a" + "\x01\xac\x02\x02\x04\x07"},
		{msg.Msg{Kind: 10, Cert: high}, "\x0a" + "\x02\x05\x02\x09\x0b\x02\x04\x80\x04"},
		{msg.Msg{Kind: 11, Tx: move(1)}, "\x0b" + "\x01\x01\x05alice\x03bob\xac\x02"},
		{msg.Msg{Kind: 11, Tx: put(128)}, "\x0b" + "\x02\x80\x01\x03bob\x01a\x03b c"},
		{msg.Msg{Kind: 12, Signer: 9, View: 1}, "\x0c\x09\x01"},
	}
}

// TestP14_2_BytesOfExamples: written out.
func TestP14_2_BytesOfExamples(t *testing.T) {
	seen := map[int]bool{}
	for _, x := range examples() {
		if s, e := msg.Bytes(x.m); s != x.want || e != api.OK {
			t.Errorf("Bytes(%+v): % x, error %d, not % x", x.m, s, e, x.want)
		}
		if bytesOf(x.m) != x.want {
			t.Errorf("%+v is % x by the second reckoning, not % x", x.m, bytesOf(x.m), x.want)
		}
		parsed(t, x.want, x.m, api.OK)
		seen[x.m.Kind] = true
	}
	if len(seen) != kinds {
		t.Errorf("only %d kinds", len(seen))
	}
}

// TestP14_2_BytesOfWhatMayBeNone: Check's error, and nothing. (So, too, wherever Check is held against a second reckoning.)
func TestP14_2_BytesOfWhatMayBeNone(t *testing.T) {
	for _, m := range []msg.Msg{
		{}, {Kind: 13}, {Kind: -1}, {Kind: 1}, {Kind: 2}, {Kind: 3}, {Kind: 4}, {Kind: 6}, {Kind: 7, View: 1}, {Kind: 8}, {Kind: 11}, crowded(),
		{Kind: 1, Block: api.Block{View: 1, Round: 2}}, {Kind: 9, Block: api.Block{View: 1, Round: 1, Txs: []api.Tx{{}}}},
		{Kind: 11, Tx: api.Tx{Kind: 2, From: "a", Key: "k", Val: strings.Repeat("x", 65537), Nonce: 1}},
		{Kind: 4, Proof: make([]api.Timeout, 1<<16)},
	} {
		if s, e := msg.Bytes(m); s != "" || e != api.ErrMsg {
			t.Errorf("Bytes(%+v): % x, error %d", m, s, e)
		}
	}
}

// TestP14_2_TheLongest: no message that may be has more than MaxMsg bytes, so that Bytes never tells ErrLong.
func TestP14_2_TheLongest(t *testing.T) {
	longest := len(bytesOf(msg.Msg{Kind: 1, Block: blocks()[6]}))
	if longest > api.MaxMsg {
		t.Errorf("a message may have %d bytes", longest)
	}
	for _, m := range rights() {
		if s, e := msg.Bytes(m); len(s) > longest || e != api.OK {
			t.Errorf("Bytes(%+v): %d bytes, error %d", m, len(s), e)
		}
	}
}

// TestP14_2_ParseOfBytesThatEnd: at every place.
func TestP14_2_ParseOfBytesThatEnd(t *testing.T) {
	refused(t, "", api.ErrCut)
	for _, m := range rights() {
		s := bytesOf(m)
		for i := range s {
			refused(t, s[:i], api.ErrCut)
		}
	}
}

// TestP14_2_ParseWithMoreBehind: ErrTail, whatever stands there.
func TestP14_2_ParseWithMoreBehind(t *testing.T) {
	for _, m := range rights() {
		for _, behind := range []string{"\x00", "\x01", "\x80", "\xff\xff", strings.Repeat("\x80", 12), "\x06\x02\x05", bytesOf(m)} {
			refused(t, bytesOf(m)+behind, api.ErrTail)
		}
	}
}

// TestP14_2_ParseOfTurnedBytes: each place has each other byte.
func TestP14_2_ParseOfTurnedBytes(t *testing.T) {
	counts := map[api.Errno]int{}
	l := append(plain(), msg.Msg{Kind: 2, Cert: by(chained(2, 4, 2, 3), 4)}, msg.Msg{Kind: 10, Cert: regular(2, 4)}, msg.Msg{Kind: 11, Tx: move(1)}, msg.Msg{Kind: 9, Block: blocks()[2]})
	for _, m := range l {
		for _, behind := range []string{"", "\x05", "\x03\x01"} {
			s := bytesOf(m) + behind
			for i := range bytesOf(m) {
				for turned := range 256 {
					counts[alike(t, s[:i]+string([]byte{byte(turned)})+s[i+1:])]++
				}
			}
		}
	}
	for _, e := range []api.Errno{api.OK, api.ErrCut, api.ErrCode, api.ErrTail, api.ErrMany, api.ErrMsg, api.ErrCert, api.ErrTx, api.ErrBlock, api.ErrParent, api.ErrProof} {
		if counts[e] < 100 {
			t.Errorf("error %d was told %d times", e, counts[e])
		}
	}
}

// TestP14_2_ParseOfAnotherKind: ErrMsg at once, whatever stands behind it, or nothing.
func TestP14_2_ParseOfAnotherKind(t *testing.T) {
	for _, kind := range []uint64{0, 13, 14, 16, 17, 127, 128, 1<<8 + 6, 1<<16 + 6, 1<<31 - 1, 1 << 31, 1<<31 + 6, 1<<32 - 1, 1 << 32, 1<<32 + 1, 1<<32 + 6, 1<<32 + 12, 1<<62 - 1, 1 << 62} {
		for _, behind := range []string{"", "\x00", "\x02", "\x02\x05", "\x02\x05\x07", "\x80", "\x80\x00", "\x03", strings.Repeat("\xff", 12), strings.Repeat("\x00", 60000)} {
			refused(t, numbers(kind)+behind, api.ErrMsg)
		}
		for _, m := range plain() {
			refused(t, numbers(kind)+bytesOf(m), api.ErrMsg)
			refused(t, numbers(kind)+bytesOf(m)[1:], api.ErrMsg)
		}
	}
}

// codes: numbers in forms that nobody writes: a last byte 0, more than nine bytes, above 2^62.
func codes() []string {
	return []string{"\x85\x00", "\x80\x00", "\x86\x80\x00", strings.Repeat("\xff", 8) + "\x00", strings.Repeat("\x80", 9) + "\x01", strings.Repeat("\xff", 9) + "\x00", strings.Repeat("\xff", 10), strings.Repeat("\x80", 10), "\x81\x80\x80\x80\x80\x80\x80\x80\x40", strings.Repeat("\xff", 8) + "\x7f"}
}

// TestP14_2_ParseOfWhatWireRefuses: each number in a form that nobody writes, the kind too.
func TestP14_2_ParseOfWhatWireRefuses(t *testing.T) {
	for _, m := range rights() {
		all, count := cut(m), 0
		for i, p := range all {
			if !p.number {
				continue
			}
			count++
			for _, s := range codes() {
				refused(t, all[:i].join()+s+all[i+1:].join(), api.ErrCode)
				refused(t, all[:i].join()+s, api.ErrCode)
			}
			refused(t, all[:i].join()+strings.Repeat("\x80", 9), api.ErrCut)
		}
		if count < 3 {
			t.Errorf("only %d numbers", count)
		}
	}
}

// TestP14_2_ParseOfGreatNumbers: each number is so great that it would be the right one, if it were cut.
func TestP14_2_ParseOfGreatNumbers(t *testing.T) {
	for _, m := range rights() {
		all := cut(m)
		for i, p := range all {
			if !p.number {
				continue
			}
			n := uint64(0)
			for at := range len(p.s) {
				n |= uint64(p.s[at]&127) << (7 * at)
			}
			for _, more := range []uint64{1 << 31, 1 << 32, 1 << 33, 1<<32 + 1<<31, 1<<62 - 1<<32} {
				s := all[:i].join() + numbers(n+more) + all[i+1:].join()
				if e := alike(t, s); e == api.OK && !p.great {
					t.Errorf("Parse of % x: no error", s)
				}
			}
		}
	}
	for s, want := range map[string]api.Errno{
		"\x07\x03" + numbers(1<<32+6):              api.ErrMsg,
		"\x07\x03" + numbers(1<<33+6):              api.ErrMsg,
		"\x07\x03" + numbers(1<<62):                api.ErrMsg,
		"\x07\x03" + numbers(1<<31+6):              api.ErrMsg,
		"\x07\x03" + numbers(1<<32):                api.ErrMsg,
		"\x07\x03" + numbers(1<<32-1):              api.ErrMsg,
		"\x07" + numbers(1<<32+3) + "\x06":         api.ErrMsg,
		"\x06" + numbers(1<<32+2) + "\x05":         api.ErrMsg,
		"\x06\x02" + numbers(1<<32+5):              api.ErrMsg,
		"\x0c" + numbers(1<<32) + "\x05":           api.ErrMsg,
		"\x0c\x02" + numbers(1<<62):                api.ErrMsg,
		"\x08" + numbers(1<<32+1) + "\xac\x02":     api.ErrMsg,
		"\x08\x01" + numbers(1<<31):                api.ErrMsg,
		"\x08\x01" + numbers(1<<32+300):            api.ErrMsg,
		"\x03" + numbers(1<<32+1) + "\x02\x00":     api.ErrMsg,
		"\x03\x01" + numbers(1<<32+2) + "\x00":     api.ErrMsg,
		"\x04" + numbers(1<<32+7) + "\x01\x03\x00": api.ErrMsg,
		"\x04\x07\x01" + numbers(1<<32+3) + "\x00": api.ErrMsg,
		"\x04\x07" + numbers(1<<32+1) + "\x03\x00": api.ErrMany,
	} {
		refused(t, s, want)
		alike(t, s)
	}
}

// TestP14_2_ParseOfAProofsCount: none is none, above MaxN is more than may be, at once, whatever stands behind it, or nothing.
func TestP14_2_ParseOfAProofsCount(t *testing.T) {
	refused(t, "\x04\x07\x00", api.ErrMsg)
	refused(t, "\x04\x00\x00", api.ErrMsg)
	refused(t, "\x04\x07\x00\x00", api.ErrTail)
	one := "\x00\x00"
	all := "\x00\x00\x01\x00\x02\x00\x03\x00\x04\x00\x05\x00\x06\x00\x07\x00\x08\x00\x09\x00"
	for count := 1; count <= 10; count++ {
		want := msg.Msg{Kind: 4}
		for k := range count {
			want.Proof = append(want.Proof, api.Timeout{Signer: k, View: 7})
		}
		s := "\x04\x07" + numbers(uint64(count)) + all[:2*count]
		parsed(t, s, want, api.OK)
		refused(t, s+one, api.ErrTail)
		refused(t, s[:len(s)-1], api.ErrCut)
		refused(t, s[:len(s)-2], api.ErrCut)
	}
	for _, n := range []uint64{11, 12, 127, 128, 1 << 31, 1 << 32, 1<<32 + 1, 1<<32 + 10, 1<<62 - 1, 1 << 62} {
		for _, behind := range []string{"", "\x00", "\x80", "\x80\x00", "\x03", all + "\x0a\x00", all + "\x09\x00", strings.Repeat(one, 12), strings.Repeat(one, 1<<14)} {
			refused(t, "\x04\x07"+numbers(n)+behind, api.ErrMany)
			refused(t, "\x04\x00"+numbers(n)+behind, api.ErrMany)
		}
	}
}

// TestP14_2_ParseOfTooMany: ErrLong of more than MaxMsg bytes, whatever they are; of just so many what they are.
func TestP14_2_ParseOfTooMany(t *testing.T) {
	for _, s := range []string{"\x06\x02\x05", "\x0d", "", "\x80\x00", "\x02\x03", "\x04\x07\x0b", bytesOf(msg.Msg{Kind: 1, Block: blocks()[6]})} {
		for _, fill := range []string{"\x00", "\x01", "\x80", "\xff"} {
			full := s + strings.Repeat(fill, api.MaxMsg-len(s))
			for _, more := range []string{"\x00", "\x80", strings.Repeat("\x00", 1<<16), strings.Repeat("\x01", 1<<20)} {
				refused(t, full+more, api.ErrLong)
			}
			if e := alike(t, full); e == api.ErrLong || e == api.OK {
				t.Errorf("Parse of just MaxMsg bytes: error %d", e)
			}
		}
	}
	refused(t, "\x06\x02\x05"+strings.Repeat("\x00", api.MaxMsg-3), api.ErrTail)
	refused(t, "\x0d"+strings.Repeat("\x00", api.MaxMsg-1), api.ErrMsg)
	// A text is as long as may be alone, but not in a message.
	refused(t, "\x0b\x02\x01"+numbers(65536)+strings.Repeat("a", 65536), api.ErrLong)
	refused(t, "\x0b\x02\x01"+numbers(65537)+strings.Repeat("a", 65500), api.ErrMany)
	refused(t, "\x0b\x02\x01"+numbers(65536)+strings.Repeat("a", 65500), api.ErrCut)
	refused(t, "\x0b\x02\x01"+numbers(65500)+strings.Repeat("a", 65500)+"\x01a\x00", api.ErrTx)
}

// TestP14_2_ParseOfWhatMayBeNone: ErrMsg, or the error that the layers below have failed the reader with.
func TestP14_2_ParseOfWhatMayBeNone(t *testing.T) {
	for _, x := range []struct {
		m    msg.Msg
		want api.Errno
	}{
		{msg.Msg{Kind: 6, Signer: 10, View: 1}, 140}, {msg.Msg{Kind: 6, Signer: 1}, 140}, {msg.Msg{Kind: 6, Signer: 1, View: api.MaxView + 1}, 140},
		{msg.Msg{Kind: 12, Signer: 10, View: 1}, 140}, {msg.Msg{Kind: 12, Signer: 1}, 140}, {msg.Msg{Kind: 8, Signer: 10, N: 1}, 140}, {msg.Msg{Kind: 8, Signer: 1}, 140},
		{msg.Msg{Kind: 7, View: 1}, 140}, {msg.Msg{Kind: 7, View: 0, Set: 1}, 140}, {msg.Msg{Kind: 7, View: 1, Set: 0x400}, 140}, {msg.Msg{Kind: 7, View: 1, Set: 0x401}, 140},
		{msg.Msg{Kind: 2}, 140}, {msg.Msg{Kind: 5}, 140}, {msg.Msg{Kind: 10}, 140},
		{msg.Msg{Kind: 2, Cert: regular(2, 4)}, 140}, {msg.Msg{Kind: 2, Cert: by(endorsed(2, 4, 1, 3), 1)}, 140}, {msg.Msg{Kind: 2, Cert: by(regular(2, 4), 0)}, 110}, {msg.Msg{Kind: 2, Cert: by(regular(2, 4), 0x400)}, 110},
		{msg.Msg{Kind: 5, Cert: regular(2, 4)}, 140}, {msg.Msg{Kind: 5, Cert: chained(2, 4, 2, 3)}, 140}, {msg.Msg{Kind: 5, Cert: endorsed(2, 4, 3, 3)}, 140}, {msg.Msg{Kind: 5, Cert: chained(2, 4, 4, 3)}, 110},
		{msg.Msg{Kind: 10, Cert: chained(2, 4, 3, 3)}, 140}, {msg.Msg{Kind: 10, Cert: api.Cert{Kind: 3}}, 110}, {msg.Msg{Kind: 10, Cert: api.Cert{Kind: 1, Block: 1, Round: 1, Signers: 1}}, 110},
		{msg.Msg{Kind: 3, Timeout: api.Timeout{Signer: 10, View: 2}}, 140}, {msg.Msg{Kind: 3, Timeout: api.Timeout{Signer: 1}}, 140}, {msg.Msg{Kind: 3, Timeout: api.Timeout{View: 2, High: regular(3, 4)}}, 140},
		{msg.Msg{Kind: 3, Timeout: api.Timeout{View: 2, High: endorsed(2, 4, 1, 3)}}, 140}, {msg.Msg{Kind: 3, Timeout: api.Timeout{View: 2, High: chained(1, 4, 1, 3)}}, 140}, {msg.Msg{Kind: 3, Timeout: api.Timeout{High: api.Cert{Kind: 3}}}, 110},
		{msg.Msg{Kind: 4}, 140}, {msg.Msg{Kind: 4, Proof: timeouts(2, 1, 1)}, 140}, {msg.Msg{Kind: 4, Proof: timeouts(2, 2, 1)}, 140}, {msg.Msg{Kind: 4, Proof: timeouts(2, 2, 10)}, 140}, {msg.Msg{Kind: 4, Proof: []api.Timeout{{}}}, 140},
		{msg.Msg{Kind: 4, Proof: []api.Timeout{{View: 2}, {Signer: 1, View: 2, High: regular(3, 4)}}}, 140}, {msg.Msg{Kind: 4, Proof: []api.Timeout{{View: 2, High: api.Cert{Kind: 3}}}}, 110}, {msg.Msg{Kind: 4, Proof: timeouts(2, append(everybody(), 10)...)}, 33},
		{msg.Msg{Kind: 1}, 120}, {msg.Msg{Kind: 9, Block: api.Block{View: 1}}, 122}, {msg.Msg{Kind: 1, Block: api.Block{View: 1, Round: 1, Height: 1}}, 121}, {msg.Msg{Kind: 9, Block: api.Block{View: 1, Round: 1, Author: 10}}, 120},
		{msg.Msg{Kind: 1, Block: api.Block{View: 1, Round: 1, Txs: []api.Tx{{Kind: 1}}}}, 80}, {msg.Msg{Kind: 9, Block: api.Block{View: 1, Round: 1, Parent: api.Cert{Kind: 1}}}, 110}, {msg.Msg{Kind: 9, Block: api.Block{View: 1, Round: 1, Txs: make([]api.Tx, 9)}}, 33},
		{msg.Msg{Kind: 11}, 80}, {msg.Msg{Kind: 11, Tx: api.Tx{Kind: 3}}, 80}, {msg.Msg{Kind: 11, Tx: api.Tx{Kind: 1, From: "A", To: "b", Amount: 1, Nonce: 1}}, 80}, {msg.Msg{Kind: 11, Tx: api.Tx{Kind: 2, From: "a", Key: "k", Val: "\n", Nonce: 1}}, 80},
	} {
		refused(t, bytesOf(x.m), x.want)
		alike(t, bytesOf(x.m))
		// What the layers below refuse is the reader's error; ErrMsg is told behind that of bytes that are left.
		tail := x.want
		if x.want == api.ErrMsg {
			tail = api.ErrTail
		}
		for _, behind := range []string{"\x00", "\x80", "\x06\x02\x05"} {
			refused(t, bytesOf(x.m)+behind, tail)
		}
	}
}

// TestP14_2_WhichErrorFirst: ErrLong, the reader's error (of another kind ErrMsg, at once), and ErrMsg behind it.
func TestP14_2_WhichErrorFirst(t *testing.T) {
	long := strings.Repeat("\x00", api.MaxMsg)
	for s, want := range map[string]api.Errno{
		// More than may be, and: the bytes of a message with some behind, another kind, no number, what may be none.
		"\x06\x02\x05" + long: 2, "\x0d" + long: 2, "\x80\x00" + long: 2, "\x06\x0a\x05" + long: 2, "\x02\x03" + long: 2, "\x04\x07\x0b" + long: 2,
		// Another kind, and: bytes that end, no number, bytes that are left.
		"\x00": 140, "\x0d": 140, "\x0d\x80": 140, "\x0d\x80\x00": 140, "\x0d\x00\x00": 140, "\x00\x03\x03": 140,
		// A kind that is no number, and all else.
		"\x8d\x00": 31, "\x8d": 30, "\x86\x00\x0a\x00": 31,
		// What may be none, and: bytes that end, no number, bytes that are left.
		"\x06\x0a": 30, "\x06\x0a\x80": 30, "\x06\x0a\x80\x00": 31, "\x06\x0a\x00\x00": 32, "\x06\x02\x00\x00": 32, "\x06\x0a\x00": 140,
		"\x0c\x0a": 30, "\x0c\x0a\x80\x00": 31, "\x0c\x0a\x01\x00": 32, "\x08\x0a": 30, "\x08\x0a\x80\x00": 31, "\x08\x01\x00\x00": 32,
		"\x07\x00": 30, "\x07\x00\x80\x00": 31, "\x07\x00\x00\x00": 32, "\x07\x00\x00": 140,
		"\x02\x00": 140, "\x02\x00\x00": 32, "\x05\x00\x00": 32, "\x0a\x00\x00": 32, "\x02\x01\x05\x02\x04\x06\x00": 32, "\x02\x01\x05\x02\x04\x06": 140,
		"\x03\x0a": 30, "\x03\x0a\x00": 30, "\x03\x0a\x00\x03": 110, "\x03\x0a\x00\x00": 140, "\x03\x0a\x00\x00\x00": 32, "\x03\x0a\x80\x00": 31,
		"\x04\x00": 30, "\x04\x00\x01": 30, "\x04\x00\x0b": 33, "\x04\x00\x01\x0a\x03": 110, "\x04\x00\x01\x0a\x00": 140, "\x04\x00\x01\x0a\x00\x00": 32, "\x04\x00\x00\x00": 32,
		"\x04\x07\x02\x03\x00\x03\x03": 110, "\x04\x07\x02\x03\x00\x02": 30, "\x04\x07\x02\x03\x00\x02\x00\x00": 32, "\x04\x07\x02\x03\x03\x80\x00": 110,
		// No certificate, no transaction, no block, and: bytes that end or no number ahead of it, bytes that are left.
		"\x02\x03": 110, "\x02\x03\x00": 110, "\x02\x03\x80\x00": 110, "\x02\x01\x00\x00": 30, "\x02\x01\x00\x00\x00\x00": 110, "\x02\x01\x00\x00\x00\x00\x00": 110,
		"\x0b\x03": 80, "\x0b\x03\x80": 80, "\x0b\x01\x00": 30, "\x0b\x02\x00\x00\x00\x00": 80, "\x0b\x02\x00\x00\x00\x00\x00": 80, "\x0b\x02\x00\x80\x00": 31,
		"\x01\x00\x00\x00\x00\x00\x00\x00": 120, "\x09\x00\x00\x00\x00\x00\x00\x00\x00": 120, "\x01\x00\x00\x00\x00\x00\x00": 30, "\x09\x00\x00\x00\x00\x03": 110, "\x01\x00\x00\x00\x00\x00\x0b": 33,
		"\x01\x01\x00\x01\x00\x00\x00\x00\x00": 122, "\x01\x01\x01\x01\x00\x00\x00\x00\x00": 121, "\x09\x00\x00\x01\x00\x00\x00\x01\x03": 80,
	} {
		refused(t, s, want)
		alike(t, s)
	}
}

// TestP14_2_ShortBytes: all strings of a few bytes, held against a second reckoning.
func TestP14_2_ShortBytes(t *testing.T) {
	l, came := []string{""}, 0
	for from, round := 0, 0; round < 5; round++ {
		to := len(l)
		for _, s := range l[from:to] {
			for _, c := range []string{"\x00", "\x01", "\x02", "\x03", "\x0a", "\x80", "\xff"} {
				l = append(l, s+c)
			}
		}
		from = to
	}
	for _, s := range l {
		for kind := range kinds + 2 {
			if alike(t, numbers(uint64(kind))+s) == api.OK {
				came++
			}
		}
		for _, ahead := range []string{"\x01\x01\x01\x00\x00", "\x02\x01\x05\x02", "\x05\x02\x01\x01\x02\x03", "\x0a\x02\x01\x01\x02\x03", "\x0b\x02\x01\x01a\x01"} {
			if alike(t, ahead+s) == api.OK {
				came++
			}
		}
	}
	if came < 500 {
		t.Errorf("only %d came of short bytes", came)
	}
}

// TestP14_3_ParseOfBytes: it is the message, field by field.
func TestP14_3_ParseOfBytes(t *testing.T) {
	for _, m := range rights() {
		s, e := msg.Bytes(m)
		if e != api.OK {
			t.Errorf("Bytes(%+v): error %d", m, e)
		}
		if n, e := msg.Parse(s); e != api.OK || !same(n, m) || !msg.Same(n, m) || msg.Check(n) != api.OK {
			t.Errorf("Parse of Bytes(%+v): %+v, error %d", m, n, e)
		}
	}
}

// TestP14_3_UnlikeOnes: no two unlike messages have the same bytes.
func TestP14_3_UnlikeOnes(t *testing.T) {
	seen := map[string]msg.Msg{}
	for _, m := range rights() {
		s, _ := msg.Bytes(m)
		if other, is := seen[s]; is && !same(m, other) {
			t.Errorf("%+v and %+v have the same bytes", m, other)
		}
		seen[s] = m
	}
}

// TestP14_3_WhatIsParsedIsWrittenSo: there are no other bytes of which a message is parsed.
func TestP14_3_WhatIsParsedIsWrittenSo(t *testing.T) {
	d := drawn(143)
	count, came := 0, 0
	for range 30000 {
		m := d.msg()
		turned := d.turn(bytesOf(m))
		n, e := msg.Parse(turned)
		if e != api.OK {
			continue
		}
		count++
		if turned != bytesOf(m) {
			came++
		}
		if s, e := msg.Bytes(n); s != turned || e != api.OK {
			t.Errorf("% x is parsed as %+v, which is written % x", turned, n, s)
		}
	}
	if count < 8000 || came < 500 {
		t.Errorf("only %d were parsed, %d of turned bytes", count, came)
	}
}

// TestP14_ByASecondReckoning: a long row of messages and bytes.
func TestP14_ByASecondReckoning(t *testing.T) {
	d := drawn(14)
	counts, parsed, last := map[api.Errno]int{}, map[api.Errno]int{}, plain()[0]
	for range 10000 {
		m := d.msg()
		if d.odd(3) {
			m = d.spoil(m)
		}
		if d.odd(9) {
			m.Kind = d.below(kinds + 2)
		}
		counts[why(m)]++
		checked(t, m, why(m))
		alikeTo(t, m, last, same(m, last))
		parsed[alike(t, d.turn(bytesOf(d.msg())))]++
		parsed[alike(t, d.turn(bytesOf(d.msg()))+d.turn(bytesOf(last)))]++
		last = m
	}
	if counts[api.OK] < 4000 || counts[api.ErrMsg] < 2000 || len(counts) != 2 {
		t.Errorf("told: %v", counts)
	}
	for _, e := range []api.Errno{api.OK, api.ErrCut, api.ErrCode, api.ErrTail, api.ErrMsg, api.ErrCert, api.ErrTx, api.ErrParent, api.ErrProof} {
		if parsed[e] < 20 {
			t.Errorf("error %d was told %d times", e, parsed[e])
		}
	}
}

// extreme: a message all of whose numbers are this one, with lists that may not be.
func extreme(n int) msg.Msg {
	c := api.Cert{Kind: n, Block: n, View: n, Round: n, Height: n, Author: n, Signers: uint32(n), Coin: uint32(n)}
	x := api.Timeout{Signer: n, View: n, High: c}
	y := api.Tx{Kind: n, From: "\xff", To: "\x00", Key: "", Val: strings.Repeat("\n", 70000), Amount: int64(n), Nonce: int64(n)}
	b := api.Block{View: n, Round: n, Height: n, Author: n, Parent: c, Proof: []api.Timeout{x, x}, Txs: []api.Tx{y, y}}
	return msg.Msg{Signer: n, View: n, N: n, Set: uint32(n), Cert: c, Timeout: x, Proof: []api.Timeout{x, x}, Block: b, Tx: y}
}

// TestR1_OfAnything: nothing panics, and what may be none is refused.
func TestR1_OfAnything(t *testing.T) {
	for _, n := range append(ends(), 0, 1, 2, 3) {
		for _, kind := range append(ends(), 0, 1, 2, 3, 4, 5, 6, 7, 8, 9, 10, 11, 12, 13) {
			m := extreme(n)
			m.Kind = kind
			checked(t, m, api.ErrMsg)
			alikeTo(t, m, clone(m), true)
			alikeTo(t, m, msg.Msg{}, false)
			if kind < 1 || kind > kinds {
				continue
			}
			alone := msg.Msg{Kind: kind}
			for _, field := range fields[kind] {
				reflect.ValueOf(&alone).Elem().FieldByName(field).Set(reflect.ValueOf(m).FieldByName(field))
			}
			checked(t, alone, why(alone))
		}
	}
	for _, c := range []string{"\xff", "\x00", "\x01", "\x04", "\x06", "\x0b", "\x80"} {
		for _, count := range []int{1, 9, 10, 100, 65535, 65536, 65537, 1 << 20} {
			alike(t, strings.Repeat(c, count))
		}
	}
}

// TestR2_ZeroBesideAnError: what is told beside an error is a zero one, with no lists of its own either.
func TestR2_ZeroBesideAnError(t *testing.T) {
	d := drawn(22)
	count := 0
	for range 20000 {
		s := d.turn(bytesOf(d.msg()))
		m, e := msg.Parse(s)
		if e == api.OK {
			continue
		}
		count++
		if len(m.Proof)+len(m.Block.Proof)+len(m.Block.Txs) != 0 || !same(m, msg.Msg{}) {
			t.Errorf("Parse of % x: %+v beside error %d", s, m, e)
		}
	}
	if count < 5000 {
		t.Errorf("only %d were refused", count)
	}
}

// TestR4_WhatIsHandedInStays: lists, too.
func TestR4_WhatIsHandedInStays(t *testing.T) {
	wrong := with(crowded(), func(m *msg.Msg) {
		m.Proof, m.Block.Proof, m.Block.Txs = timeouts(2, 3, 1, 1), timeouts(2, 3, 1, 1), []api.Tx{put(2), {}, move(1)}
	})
	for _, m := range append(rights(), wrong, crowded()) {
		kept := clone(m)
		msg.Check(m)
		msg.Bytes(m)
		msg.Same(m, m)
		msg.Same(m, crowded())
		if !reflect.DeepEqual(m, kept) {
			t.Errorf("%+v was changed to %+v", kept, m)
		}
	}
	// Room behind a list's end is the caller's, too.
	room := timeouts(2, 0, 2, 3, 5)
	kept := slices.Clone(room)
	m := msg.Msg{Kind: 4, Proof: room[:2]}
	msg.Check(m)
	msg.Bytes(m)
	msg.Same(m, m)
	if !slices.Equal(room, kept) {
		t.Errorf("behind the end of a Proof %+v was written", room)
	}
}

// TestR4_BytesAreTheCallers: what is done with a message later changes none of its bytes.
func TestR4_BytesAreTheCallers(t *testing.T) {
	for _, m := range rights() {
		m = clone(m)
		kept, want := clone(m), bytesOf(m)
		s, _ := msg.Bytes(m)
		clear(m.Proof)
		clear(m.Block.Proof)
		clear(m.Block.Txs)
		if s != want {
			t.Errorf("Bytes(%+v): its lists lie in them", kept)
		}
		if again, e := msg.Bytes(kept); again != want || e != api.OK {
			t.Errorf("Bytes(%+v) behind a change: % x, error %d", kept, again, e)
		}
	}
}

// scribble: changes all that a message's lists hold, also behind their ends.
func scribble(m msg.Msg) {
	for _, l := range [][]api.Timeout{m.Proof, m.Block.Proof} {
		for i := range l[:cap(l)] {
			l[:cap(l)][i] = api.Timeout{Signer: -7}
		}
	}
	for i := range m.Block.Txs[:cap(m.Block.Txs)] {
		m.Block.Txs[:cap(m.Block.Txs)][i] = api.Tx{Kind: -7}
	}
}

// TestR4_MessagesAreTheCallers: two that are parsed share no lists, whatever is written to one of them.
func TestR4_MessagesAreTheCallers(t *testing.T) {
	for _, m := range rights() {
		s := bytesOf(m)
		a, _ := msg.Parse(s)
		b, _ := msg.Parse(s)
		scribble(a)
		c, e := msg.Parse(s)
		if !same(b, m) || !same(c, m) || e != api.OK {
			t.Errorf("behind a change: %+v, %+v, error %d", b, c, e)
		}
	}
}

// inside: does a text lie in the memory of another one?
func inside(s, whole string) bool {
	at, from := uintptr(unsafe.Pointer(unsafe.StringData(s))), uintptr(unsafe.Pointer(unsafe.StringData(whole)))
	return len(s) > 0 && at >= from && at < from+uintptr(len(whole))
}

// TestR4_ParsedTextsAreNew: they lie neither in the bytes, nor in one another.
func TestR4_ParsedTextsAreNew(t *testing.T) {
	long := api.Tx{Kind: api.TxPut, From: "carol", Key: "carol", Val: "carol", Nonce: 1}
	for _, m := range []msg.Msg{{Kind: 11, Tx: long}, {Kind: 11, Tx: move(7)}, {Kind: 1, Block: api.Block{View: 1, Round: 1, Txs: []api.Tx{long, long, move(7)}}}} {
		s := strings.Clone(bytesOf(m))
		n, e := msg.Parse(s)
		if e != api.OK {
			t.Fatalf("Parse: %+v, error %d", n, e)
		}
		var l []string
		for _, x := range append(slices.Clone(n.Block.Txs), n.Tx) {
			l = append(l, x.From, x.To, x.Key, x.Val)
		}
		for i, text := range l {
			if inside(text, s) {
				t.Errorf("%q lies in the bytes", text)
			}
			for _, other := range l[:i] {
				if inside(text, other) {
					t.Errorf("%q lies in another text", text)
				}
			}
		}
	}
}

// TestR6_NothingIsKept: calls in between, refused ones too, change no answer.
func TestR6_NothingIsKept(t *testing.T) {
	for _, m := range rights() {
		for _, x := range changed(m, 1) {
			msg.Check(x.m)
			msg.Bytes(x.m)
		}
		msg.Parse("\x02\x03")
		msg.Parse(bytesOf(m) + "\x00")
	}
	for _, m := range rights() {
		checked(t, m, api.OK)
	}
}
