package block_test

import (
	"math"
	"reflect"
	"slices"
	"strings"
	"testing"
	"unsafe"

	"hallmoot/api"
	"hallmoot/block"
	"hallmoot/cert"
	"hallmoot/wire"
)

// with: a block, changed.
func with(b api.Block, change func(b *api.Block)) api.Block {
	b = clone(b)
	change(&b)
	return b
}

// ends: numbers far off, which are something else when they are cut to 32 bits, too.
func ends() []int {
	return []int{math.MinInt, math.MinInt + 1, -1 << 32, -2, -1, 1<<31 - 1, 1 << 31, 1<<32 - 1, 1 << 32, 1<<32 + 1, 1<<32 + 2, 1<<62 - 1, 1 << 62, math.MaxInt - 1, math.MaxInt}
}

// noCerts: certificates that may be none, of view 2 and of others.
func noCerts() []api.Cert {
	bare, signed, seen, low, high, far := regular(2, 4), regular(2, 4), regular(2, 4), chained(2, 4, 0, 3), chained(2, 4, 4, 3), chained(2, 4, 1, 10)
	bare.Signers, signed.Signers, seen.Coin = 0, 1<<10, 1
	coin, bookless, late := endorsed(1, 4, 1, 3), regular(2, 4), regular(2, 4)
	coin.Coin, bookless.Block, late.Round = 1<<10, 0, api.MaxRound+1
	return []api.Cert{bare, signed, seen, low, high, far, coin, bookless, late, {View: 2}, {Round: 4}, {Signers: 7}, {Kind: -1}, {Kind: 3}, {Kind: 1}, {Kind: 2},
		{Kind: 3, Block: 1, View: 2, Round: 4, Signers: 7}, {Kind: 1, Block: 1, View: -1, Round: 4, Signers: 7}, {Kind: 1, Block: 1, View: 0, Round: 4, Signers: 7}, {Kind: 1, Block: 1, View: 2, Round: 0, Signers: 7},
		{Kind: 1, Block: 1, View: 2, Round: math.MaxInt, Signers: 7}, {Kind: 2, Block: 1, View: 2, Round: math.MaxInt, Height: 1, Author: 3, Signers: 7}, {Kind: 2, Block: 1, View: 2, Round: -1, Height: 2, Author: 3, Signers: 7}}
}

// TestP12_1_CheckOfRightOnes: of each Height, with each kind of Parent, with and without Txs.
func TestP12_1_CheckOfRightOnes(t *testing.T) {
	l := append(rights(), greatest())
	for _, b := range l {
		checked(t, b, api.OK)
	}
	if len(l) < 1000 {
		t.Errorf("only %d may be", len(l))
	}
}

// TestP12_1_CheckOfView: from 1 to MaxView.
func TestP12_1_CheckOfView(t *testing.T) {
	for n, want := range map[int]api.Errno{-1: 120, 0: 120, 1: 0, 2: 0, 1048575: 0, 1048576: 0, 1048577: 120} {
		checked(t, api.Block{View: n, Round: 1}, want)
		checked(t, api.Block{View: n, Round: 1, Height: 1, Proof: []api.Timeout{{View: n}}}, want)
		checked(t, api.Block{View: n, Round: 9, Height: 2, Parent: chained(n, 8, 1, 0)}, want)
	}
	for _, n := range ends() {
		for _, b := range each() {
			checked(t, with(b, func(b *api.Block) { b.View = n }), api.ErrBlock)
		}
	}
}

// TestP12_1_CheckOfAuthor: from 0 to MaxN less 1.
func TestP12_1_CheckOfAuthor(t *testing.T) {
	for n, want := range map[int]api.Errno{-1: 120, 0: 0, 1: 0, 8: 0, 9: 0, 10: 120} {
		for _, b := range each() {
			b.Author = n
			if b.Height > 1 {
				b.Parent.Author = n
			}
			checked(t, b, want)
		}
	}
	for _, n := range ends() {
		for _, b := range each() {
			checked(t, with(b, func(b *api.Block) { b.Author = n }), api.ErrBlock)
		}
	}
}

// TestP12_1_CheckOfHeight: from 0 to MaxHeight.
func TestP12_1_CheckOfHeight(t *testing.T) {
	for _, n := range append(ends(), -1, 4, 5, 255, 256) {
		for _, b := range each() {
			checked(t, with(b, func(b *api.Block) { b.Height = n }), api.ErrBlock)
			b.Parent.Height = n - 1
			checked(t, with(b, func(b *api.Block) { b.Height = n }), api.ErrBlock)
		}
	}
	// Of each Height, but with what another one has.
	for _, c := range []struct {
		b      api.Block
		height int
		want   api.Errno
	}{
		{steady(), 0, api.OK}, {steady(), 1, api.ErrProof}, {steady(), 2, api.ErrParent}, {steady(), 3, api.ErrParent},
		{first(), 0, api.ErrProof}, {first(), 1, api.OK}, {first(), 2, api.ErrParent}, {first(), 3, api.ErrParent},
		{next(2), 0, api.ErrParent}, {next(2), 1, api.ErrParent}, {next(2), 2, api.OK}, {next(2), 3, api.ErrParent},
		{next(3), 0, api.ErrParent}, {next(3), 1, api.ErrParent}, {next(3), 2, api.ErrParent}, {next(3), 3, api.OK},
	} {
		c.b.Height = c.height
		checked(t, c.b, c.want)
	}
}

// TestP12_1_CheckOfTxs: 0 to MaxTxs, all right.
func TestP12_1_CheckOfTxs(t *testing.T) {
	for _, b := range each() {
		for count, want := range []api.Errno{0, 0, 0, 0, 0, 0, 0, 0, 0, 120, 120} {
			checked(t, with(b, func(b *api.Block) { b.Txs = txs(count) }), want)
		}
		checked(t, with(b, func(b *api.Block) { b.Txs = make([]api.Tx, 1<<16) }), api.ErrBlock)
		same := []api.Tx{move(1), move(1), put(1), put(1), move(1), move(1), move(1), put(9)}
		checked(t, with(b, func(b *api.Block) { b.Txs = same }), api.OK)
		// One that tx.Check refuses, at each place of 1 to 8.
		for _, wrong := range []api.Tx{{}, {Kind: 1}, {Kind: 3, From: "a", To: "b", Amount: 1, Nonce: 1}, {Kind: 1, From: "A", To: "b", Amount: 1, Nonce: 1}, {Kind: 1, From: "a", To: "b", Nonce: 1},
			{Kind: 1, From: "a", To: "b", Amount: 1}, {Kind: 2, From: "a", Key: "b", Val: "\n", Nonce: 1}, {Kind: 2, From: "a", To: "c", Key: "b", Nonce: 1}} {
			for count := 1; count <= 8; count++ {
				for i := range count {
					l := txs(count)
					l[i] = wrong
					checked(t, with(b, func(b *api.Block) { b.Txs = l }), api.ErrBlock)
				}
			}
		}
	}
}

// TestP12_1_CheckOfParent: each kind of certificate ahead of a block of view 5 and author 3, at each Height.
func TestP12_1_CheckOfParent(t *testing.T) {
	cases := []struct {
		parent  api.Cert
		heights []int
	}{
		{api.Cert{}, []int{0, 1}},
		{regular(1, 7), []int{0, 1}}, {regular(4, 7), []int{0, 1}}, {regular(5, 7), []int{0, 1}}, {regular(6, 7), nil}, {regular(api.MaxView, 7), nil},
		{chained(5, 7, 1, 3), []int{2}}, {chained(5, 7, 2, 3), []int{3}}, {chained(5, 7, 3, 3), nil},
		{chained(5, 7, 1, 2), nil}, {chained(5, 7, 2, 4), nil}, {chained(5, 7, 1, 0), nil}, {chained(5, 7, 2, 9), nil},
		{chained(4, 7, 1, 3), nil}, {chained(4, 7, 2, 3), nil}, {chained(4, 7, 3, 3), nil}, {chained(1, 7, 1, 3), nil},
		{chained(6, 7, 1, 3), nil}, {chained(6, 7, 2, 3), nil}, {chained(6, 7, 3, 3), nil},
	}
	for height := 1; height <= 3; height++ {
		for _, author := range []int{0, 3, 9} {
			for view, heights := range map[int][]int{1: {0, 1}, 4: {0, 1}, 5: nil, 6: nil, api.MaxView: nil} {
				cases = append(cases, struct {
					parent  api.Cert
					heights []int
				}{endorsed(view, 7, height, author), heights})
			}
		}
	}
	for _, c := range cases {
		for height := range 4 {
			b := api.Block{View: 5, Round: c.parent.Round + 1, Height: height, Author: 3, Parent: c.parent}
			if height == 1 {
				b.Proof = timeouts(5, 1, 2, 4)
			}
			want := api.ErrParent
			if slices.Contains(c.heights, height) {
				want = api.OK
			}
			checked(t, b, want)
		}
	}
}

// TestP12_1_CheckOfNoParent: a certificate that may be none stands nowhere.
func TestP12_1_CheckOfNoParent(t *testing.T) {
	for _, c := range noCerts() {
		if cert.Check(c) == api.OK {
			t.Errorf("%+v may be one", c)
		}
		for _, b := range each() {
			for _, round := range []int{1, 5, c.Round, c.Round + 1} {
				checked(t, with(b, func(b *api.Block) { b.Parent, b.Round = c, round }), api.ErrParent)
			}
		}
	}
}

// TestP12_1_CheckOfRound: the Parent's and one, at most MaxRound.
func TestP12_1_CheckOfRound(t *testing.T) {
	for _, b := range append(each(), rights()...) {
		for _, n := range append(ends(), 0, b.Parent.Round-1, b.Parent.Round, b.Parent.Round+2, b.Parent.Round+1<<32) {
			checked(t, with(b, func(b *api.Block) { b.Round = n }), api.ErrParent)
		}
	}
	for _, b := range each() {
		for _, round := range []int{1, 2, 1 << 20, 1<<30 - 2, 1<<30 - 1} {
			b.Parent.Round, b.Round = round, round+1
			checked(t, b, api.OK)
		}
		b.Parent.Round = 1 << 30
		for _, round := range append(ends(), 0, 1, 1<<30-1, 1<<30, 1<<30+1, 1<<30+2) {
			b.Round = round
			checked(t, b, api.ErrParent)
		}
	}
}

// TestP12_1_CheckOfProof: at Height 1 of 1 to MaxN timeouts, their Signers rising, their View the block's.
func TestP12_1_CheckOfProof(t *testing.T) {
	for _, c := range []struct {
		signers []int
		want    api.Errno
	}{
		{nil, api.ErrProof}, {[]int{}, api.ErrProof}, {[]int{0}, api.OK}, {[]int{9}, api.OK}, {[]int{-1}, api.ErrProof}, {[]int{10}, api.ErrProof},
		{[]int{0, 1}, api.OK}, {[]int{0, 9}, api.OK}, {[]int{8, 9}, api.OK}, {[]int{1, 1}, api.ErrProof}, {[]int{1, 0}, api.ErrProof}, {[]int{9, 0}, api.ErrProof},
		{[]int{-1, 0}, api.ErrProof}, {[]int{9, 10}, api.ErrProof}, {[]int{0, 2, 3}, api.OK}, {[]int{0, 3, 2}, api.ErrProof}, {[]int{0, 2, 2}, api.ErrProof}, {[]int{0, 0, 2}, api.ErrProof},
		{[]int{2, 0, 3}, api.ErrProof}, {[]int{0, 2, 1}, api.ErrProof}, {[]int{0, 2, 0}, api.ErrProof}, {[]int{1, 2, 3, 4, 5, 6, 7, 8, 9}, api.OK}, {everybody(), api.OK},
		{append(everybody(), 9), api.ErrProof}, {append(everybody(), 10), api.ErrProof}, {append([]int{0}, everybody()...), api.ErrProof}, {append([]int{-1}, everybody()...), api.ErrProof},
		{make([]int, 11), api.ErrProof}, {make([]int, 1<<16), api.ErrProof},
	} {
		checked(t, with(first(), func(b *api.Block) { b.Proof = timeouts(2, c.signers...) }), c.want)
	}
	for view := range 5 {
		for i := range 3 {
			b := with(first(), func(b *api.Block) { b.Proof[i] = api.Timeout{Signer: b.Proof[i].Signer, View: view} })
			if view == b.View {
				checked(t, b, api.OK)
			} else {
				checked(t, b, api.ErrProof)
			}
		}
		all := with(first(), func(b *api.Block) { b.Proof = []api.Timeout{{Signer: 1, View: view}, {Signer: 2, View: view}} })
		if view != 2 {
			checked(t, all, api.ErrProof)
		}
	}
}

// TestP12_1_CheckOfProofAtOtherHeights: there is none.
func TestP12_1_CheckOfProofAtOtherHeights(t *testing.T) {
	for _, b := range each() {
		if b.Height == 1 {
			continue
		}
		checked(t, with(b, func(b *api.Block) { b.Proof = []api.Timeout{} }), api.OK)
		for _, proof := range [][]api.Timeout{timeouts(2, 0), timeouts(2, 0, 2, 3), timeouts(2, everybody()...), timeouts(2, 3, 2), {{}}, {{Signer: -1}}, make([]api.Timeout, 11)} {
			checked(t, with(b, func(b *api.Block) { b.Proof = proof }), api.ErrProof)
		}
	}
}

// TestP12_1_CheckOfATimeoutThatMayBeNone: at each place of a Proof.
func TestP12_1_CheckOfATimeoutThatMayBeNone(t *testing.T) {
	for _, c := range append(noCerts(), regular(3, 4), chained(2, 4, 1, 3), chained(1, 4, 3, 3), endorsed(2, 4, 1, 3), endorsed(3, 4, 1, 3)) {
		for i := range 3 {
			checked(t, with(first(), func(b *api.Block) { b.Proof[i].High = c }), api.ErrProof)
		}
	}
	for _, c := range highs(2) {
		for i := range 3 {
			checked(t, with(first(), func(b *api.Block) { b.Proof[i].High = c }), api.OK)
		}
	}
}

// TestP12_1_CheckOrder: where several errors would do, the first one is told: ErrBlock, ErrParent, ErrProof.
func TestP12_1_CheckOrder(t *testing.T) {
	faults := []struct {
		e     api.Errno
		spoil func(b *api.Block)
	}{
		{api.ErrBlock, func(b *api.Block) { b.View = 0 }},
		{api.ErrBlock, func(b *api.Block) { b.View = api.MaxView + 1 }},
		{api.ErrBlock, func(b *api.Block) { b.Author = 10 }},
		{api.ErrBlock, func(b *api.Block) { b.Height = 4 }},
		{api.ErrBlock, func(b *api.Block) { b.Height = -1 }},
		{api.ErrBlock, func(b *api.Block) { b.Txs = txs(9) }},
		{api.ErrBlock, func(b *api.Block) { b.Txs = []api.Tx{move(1), {}} }},
		{api.ErrParent, func(b *api.Block) { b.Parent = api.Cert{Kind: 3} }},
		{api.ErrParent, func(b *api.Block) { b.Parent = regular(3, b.Round-1) }},
		{api.ErrParent, func(b *api.Block) { b.Round = 0 }},
		{api.ErrParent, func(b *api.Block) { b.Round = math.MaxInt }},
		{api.ErrProof, func(b *api.Block) { b.Proof = timeouts(2, 3, 2) }},
		{api.ErrProof, func(b *api.Block) { b.Proof = timeouts(1, 0, 2) }},
		{api.ErrProof, func(b *api.Block) { b.Proof = append(b.Proof, api.Timeout{Signer: -1, View: 2}) }},
	}
	// The errors' numbers don't rise in that order.
	order := []api.Errno{api.ErrBlock, api.ErrParent, api.ErrProof}
	for _, base := range each() {
		for i, x := range faults {
			for j, y := range faults {
				for k, z := range faults {
					if i > j || j > k {
						continue
					}
					b := clone(base)
					x.spoil(&b)
					y.spoil(&b)
					z.spoil(&b)
					at := min(slices.Index(order, x.e), slices.Index(order, y.e), slices.Index(order, z.e))
					checked(t, b, order[at])
				}
			}
		}
	}
}

// TestP12_1_CheckOfChangedOnes: each number and text of a block is another one, held against a second reckoning.
func TestP12_1_CheckOfChangedOnes(t *testing.T) {
	counts := map[api.Errno]int{}
	for _, base := range append(each(), rights()...) {
		for _, by := range []int64{1, -1, 2, 1 << 32} {
			for _, b := range changed(base, by) {
				counts[why(b)]++
				if e := block.Check(b); e != why(b) {
					t.Errorf("Check(%+v): error %d, not %d", b, e, why(b))
				}
			}
		}
	}
	for _, e := range []api.Errno{api.OK, api.ErrBlock, api.ErrParent, api.ErrProof} {
		if counts[e] < 1000 {
			t.Errorf("error %d was told %d times", e, counts[e])
		}
	}
}

// timed: does Timeout tell this, and the second reckoning, too?
func timed(t *testing.T, x api.Timeout, want api.Errno) {
	t.Helper()
	if e := block.Timeout(x); e != want {
		t.Errorf("Timeout(%+v): error %d, not %d", x, e, want)
	}
	if timely(x) != (want == api.OK) {
		t.Errorf("%+v: %t by the second reckoning", x, timely(x))
	}
}

// TestP12_1_TimeoutOfSigner: from 0 to MaxN less 1.
func TestP12_1_TimeoutOfSigner(t *testing.T) {
	for n, want := range map[int]api.Errno{-1: 121, 0: 0, 1: 0, 8: 0, 9: 0, 10: 121, 31: 121, 32: 121} {
		for _, c := range highs(2) {
			timed(t, api.Timeout{Signer: n, View: 2, High: c}, want)
		}
	}
	for _, n := range ends() {
		timed(t, api.Timeout{Signer: n, View: 2}, api.ErrProof)
	}
}

// TestP12_1_TimeoutOfView: from 1 to MaxView.
func TestP12_1_TimeoutOfView(t *testing.T) {
	for n, want := range map[int]api.Errno{-1: 121, 0: 121, 1: 0, 2: 0, 1048575: 0, 1048576: 0, 1048577: 121} {
		timed(t, api.Timeout{Signer: 3, View: n}, want)
	}
	for _, n := range ends() {
		timed(t, api.Timeout{Signer: 3, View: n}, api.ErrProof)
		timed(t, api.Timeout{Signer: 3, View: n, High: regular(1, 4)}, api.ErrProof)
		timed(t, api.Timeout{Signer: 3, View: n, High: endorsed(1, 4, 1, 3)}, api.ErrProof)
	}
	timed(t, api.Timeout{}, api.ErrProof)
}

// TestP12_1_TimeoutOfHigh: each kind of certificate, of views below, the same, above.
func TestP12_1_TimeoutOfHigh(t *testing.T) {
	for _, view := range []int{2, 5, api.MaxView - 1} {
		timed(t, api.Timeout{Signer: 3, View: view}, api.OK)
		for _, c := range []struct {
			high api.Cert
			want api.Errno
		}{
			{regular(view-1, 7), api.OK}, {regular(1, 7), api.OK}, {regular(view, 7), api.OK}, {regular(view+1, 7), api.ErrProof}, {regular(api.MaxView, 7), api.ErrProof},
		} {
			timed(t, api.Timeout{Signer: 3, View: view, High: c.high}, c.want)
		}
		for height := 1; height <= 3; height++ {
			for author := range 10 {
				timed(t, api.Timeout{Signer: 3, View: view, High: endorsed(view-1, 7, height, author)}, api.OK)
				timed(t, api.Timeout{Signer: 3, View: view, High: endorsed(1, 7, height, author)}, api.OK)
				timed(t, api.Timeout{Signer: 3, View: view, High: endorsed(view, 7, height, author)}, api.ErrProof)
				timed(t, api.Timeout{Signer: 3, View: view, High: endorsed(view+1, 7, height, author)}, api.ErrProof)
				for _, of := range []int{1, view - 1, view, view + 1} {
					timed(t, api.Timeout{Signer: 3, View: view, High: chained(of, 7, height, author)}, api.ErrProof)
				}
			}
		}
	}
	timed(t, api.Timeout{View: 1, High: endorsed(1, 7, 1, 3)}, api.ErrProof)
	timed(t, api.Timeout{View: api.MaxView, High: regular(api.MaxView, api.MaxRound)}, api.OK)
	timed(t, api.Timeout{View: api.MaxView, High: endorsed(api.MaxView, 7, 1, 3)}, api.ErrProof)
	for _, c := range noCerts() {
		timed(t, api.Timeout{Signer: 3, View: 2, High: c}, api.ErrProof)
		timed(t, api.Timeout{Signer: 3, View: api.MaxView, High: c}, api.ErrProof)
	}
}

// TestP12_1_TimeoutOfAnyRound: a timeout's High may be of any Round, the last one too.
func TestP12_1_TimeoutOfAnyRound(t *testing.T) {
	for _, round := range []int{1, 2, api.MaxRound - 1, api.MaxRound} {
		timed(t, api.Timeout{View: 3, High: regular(3, round)}, api.OK)
		timed(t, api.Timeout{View: 3, High: endorsed(2, round, 3, 0)}, api.OK)
	}
}

// TestP12_1_Signed: with each kind of High, and of what may be no timeout.
func TestP12_1_Signed(t *testing.T) {
	for _, c := range []struct {
		of   api.Timeout
		want api.Stmt
	}{
		{api.Timeout{}, api.Stmt{Kind: 3}},
		{api.Timeout{Signer: 2, View: 2}, api.Stmt{Kind: 3, View: 2}},
		{api.Timeout{Signer: 0, View: 2, High: api.Cert{Kind: 1, Block: 1, View: 2, Round: 4, Signers: 7}}, api.Stmt{Kind: 3, View: 2, HKind: 1, HBlock: 1, HView: 2, HRound: 4}},
		{api.Timeout{Signer: 9, View: 6, High: api.Cert{Kind: 2, Block: 8, View: 5, Round: 9, Height: 3, Author: 4, Signers: 7, Coin: 3}}, api.Stmt{Kind: 3, View: 6, HKind: 2, HBlock: 8, HView: 5, HRound: 9}},
		{api.Timeout{Signer: 9, View: -6, High: api.Cert{Kind: -7, Block: -8, View: -5, Round: -9, Height: -3, Author: -4, Signers: 7, Coin: 3}}, api.Stmt{Kind: 3, View: -6, HKind: -7, HBlock: -8, HView: -5, HRound: -9}},
		{api.Timeout{Signer: math.MaxInt, View: math.MaxInt, High: api.Cert{Kind: math.MaxInt, Block: math.MinInt, View: math.MaxInt, Round: math.MinInt}}, api.Stmt{Kind: 3, View: math.MaxInt, HKind: math.MaxInt, HBlock: math.MinInt, HView: math.MaxInt, HRound: math.MinInt}},
	} {
		if s := block.Signed(c.of); s != c.want {
			t.Errorf("Signed(%+v): %+v, not %+v", c.of, s, c.want)
		}
	}
	for _, high := range append(highs(2), noCerts()...) {
		want := api.Stmt{Kind: api.STimeout, View: 7, HKind: high.Kind, HBlock: high.Block, HView: high.View, HRound: high.Round}
		for signer := range 10 {
			if s := block.Signed(api.Timeout{Signer: signer, View: 7, High: high}); s != want {
				t.Errorf("Signed with %+v: %+v", high, s)
			}
		}
	}
}

// TestP12_1_Proposal: of any n and any block.
func TestP12_1_Proposal(t *testing.T) {
	if s := block.Proposal(7, next(2)); s != (api.Stmt{Kind: 1, Block: 7, View: 2, Round: 9, Height: 2, Author: 3}) {
		t.Errorf("Proposal: %+v", s)
	}
	if s := block.Proposal(0, api.Block{}); s != (api.Stmt{Kind: 1}) {
		t.Errorf("Proposal of a zero one: %+v", s)
	}
	for _, n := range append(ends(), 0, 1, 300) {
		for _, m := range append(ends(), 0, 1, 300) {
			b := first()
			b.View, b.Round, b.Height, b.Author = m, n, m^1, n^1
			if s := block.Proposal(n^2, b); s != (api.Stmt{Kind: api.SPropose, Block: n ^ 2, View: m, Round: n, Height: m ^ 1, Author: n ^ 1}) {
				t.Errorf("Proposal(%d) of view %d, round %d: %+v", n^2, m, n, s)
			}
		}
	}
}

// alikeTo: does Same tell so of two, whichever comes first?
func alikeTo(t *testing.T, a, b api.Block, want bool) {
	t.Helper()
	if block.Same(a, b) != want || block.Same(b, a) != want || same(a, b) != want {
		t.Errorf("Same(%+v, %+v): %t, turned round %t, not %t", a, b, block.Same(a, b), block.Same(b, a), want)
	}
}

// TestP12_1_Same: blocks that differ in one field, in one of a timeout or of a Tx, aren't.
func TestP12_1_Same(t *testing.T) {
	for _, base := range append(each(), api.Block{}, greatest(), with(steady(), func(b *api.Block) { b.Proof = timeouts(5, 9, 9, -1) })) {
		alikeTo(t, base, base, true)
		alikeTo(t, base, clone(base), true)
		for _, by := range []int64{1, -1, 256, 1 << 31, math.MinInt64} {
			l := changed(base, by)
			// A Block has 4 numbers and a Parent's 8, a Timeout 10, a Tx 7; a set is of 32 bits.
			if want := 12 + 10*len(base.Proof) + 7*len(base.Txs); len(l) != want {
				t.Errorf("%d were changed, not %d", len(l), want)
			}
			for _, b := range l {
				alikeTo(t, base, b, same(base, b))
			}
		}
		for i, b := range changed(base, 1) {
			alikeTo(t, base, b, false)
			alikeTo(t, b, changed(base, 1)[i], true)
		}
	}
}

// TestP12_1_SameOfLists: longer ones, shorter ones, in another order.
func TestP12_1_SameOfLists(t *testing.T) {
	base := with(first(), func(b *api.Block) { b.Proof, b.Txs = timeouts(2, 0, 1, 2), txs(3) })
	for _, change := range []func(b *api.Block){
		func(b *api.Block) { b.Proof = nil },
		func(b *api.Block) { b.Proof = []api.Timeout{} },
		func(b *api.Block) { b.Proof = b.Proof[:2] },
		func(b *api.Block) { b.Proof = b.Proof[1:] },
		func(b *api.Block) { b.Proof = append(b.Proof, api.Timeout{}) },
		func(b *api.Block) { b.Proof = append(b.Proof, b.Proof[2]) },
		func(b *api.Block) { b.Proof[0], b.Proof[1] = b.Proof[1], b.Proof[0] },
		func(b *api.Block) { b.Txs = nil },
		func(b *api.Block) { b.Txs = []api.Tx{} },
		func(b *api.Block) { b.Txs = b.Txs[:2] },
		func(b *api.Block) { b.Txs = b.Txs[1:] },
		func(b *api.Block) { b.Txs = append(b.Txs, api.Tx{}) },
		func(b *api.Block) { b.Txs = append(b.Txs, b.Txs[2]) },
		func(b *api.Block) { b.Txs[0], b.Txs[2] = b.Txs[2], b.Txs[0] },
	} {
		alikeTo(t, base, with(base, change), false)
	}
}

// TestP12_1_SameOfNoItems: nil and empty lists are alike.
func TestP12_1_SameOfNoItems(t *testing.T) {
	proofs, few := [][]api.Timeout{nil, {}, make([]api.Timeout, 0, 9), timeouts(2, 0, 2)[:0]}, [][]api.Tx{nil, {}, make([]api.Tx, 0, 9), txs(3)[:0]}
	for _, base := range append(each(), api.Block{}) {
		for _, a := range proofs {
			for _, b := range proofs {
				alikeTo(t, with(base, func(x *api.Block) { x.Proof = a }), with(base, func(x *api.Block) { x.Proof = b }), true)
			}
		}
		for _, a := range few {
			for _, b := range few {
				alikeTo(t, with(base, func(x *api.Block) { x.Txs = a }), with(base, func(x *api.Block) { x.Txs = b }), true)
			}
		}
	}
}

// TestP12_2_BytesOfExamples: written out.
func TestP12_2_BytesOfExamples(t *testing.T) {
	for _, c := range []struct {
		b    api.Block
		want string
	}{
		{api.Block{View: 1, Round: 1}, "\x01\x01\x00\x00\x00\x00\x00"},
		{api.Block{View: 300, Round: 1, Author: 9}, "\xac\x02\x01\x00\x09\x00\x00\x00"},
		{api.Block{View: 2, Round: 5, Author: 1, Parent: api.Cert{Kind: 1, Block: 300, View: 2, Round: 4, Signers: 7}, Txs: []api.Tx{move(1), put(2)}},
			"\x02\x05\x00\x01" + "\x01\xac\x02\x02\x04\x07" + "\x00" + "\x02" + "\x01\x01\x05alice\x03bob\xac\x02" + "\x02\x02\x03bob\x01a\x03b c"},
		{api.Block{View: 3, Round: 2, Height: 1, Author: 3, Parent: api.Cert{Kind: 2, Block: 8, View: 2, Round: 1, Height: 3, Author: 4, Signers: 0xb, Coin: 3},
			Proof: []api.Timeout{{Signer: 0, View: 3}, {Signer: 6, View: 3, High: api.Cert{Kind: 1, Block: 5, View: 3, Round: 9, Signers: 14}}}},
			"\x03\x02\x01\x03" + "\x02\x08\x02\x01\x0b\x03\x04\x03" + "\x02" + "\x00\x00" + "\x06\x01\x05\x03\x09\x0e" + "\x00"},
		{api.Block{View: 3, Round: 2, Height: 2, Author: 4, Parent: api.Cert{Kind: 2, Block: 8, View: 3, Round: 1, Height: 1, Author: 4, Signers: 0xb}},
			"\x03\x02\x02\x04" + "\x02\x08\x03\x01\x0b\x01\x04\x00" + "\x00" + "\x00"},
	} {
		if s, e := block.Bytes(c.b); string(s) != c.want || e != api.OK {
			t.Errorf("Bytes(%+v): % x, error %d, not % x", c.b, s, e, c.want)
		}
		taken(t, wire.New([]byte(c.want)), c.b, 0, api.OK)
		parsed(t, c.want, c.b, api.OK)
	}
}

// TestP12_2_BytesOfWhatMayBeNone: Check's error, and nothing. (Those of right ones, and of more wrong ones, are held against a second reckoning wherever Check is.)
func TestP12_2_BytesOfWhatMayBeNone(t *testing.T) {
	for _, c := range []struct {
		b    api.Block
		want api.Errno
	}{
		{api.Block{}, api.ErrBlock},
		{api.Block{View: 1}, api.ErrParent},
		{api.Block{View: 1, Round: 1, Height: 1}, api.ErrProof},
		{api.Block{View: 1, Round: 1, Height: 2}, api.ErrParent},
		{api.Block{View: 1, Round: 1, Txs: []api.Tx{{}}}, api.ErrBlock},
		{api.Block{View: 1, Round: 1, Txs: []api.Tx{{Kind: 2, From: "a", Key: "k", Val: strings.Repeat("x", 65537), Nonce: 1}}}, api.ErrBlock},
		{api.Block{View: 1, Round: 1, Parent: api.Cert{Kind: 3}}, api.ErrParent},
	} {
		if s, e := block.Bytes(c.b); len(s) != 0 || e != c.want {
			t.Errorf("Bytes(%+v): % x, error %d, not %d", c.b, s, e, c.want)
		}
	}
}

// TestP12_2_TheLongest: no block that may be has more than MaxMsg bytes, so that ErrLong is never told.
func TestP12_2_TheLongest(t *testing.T) {
	longest := len(bytesOf(greatest()))
	if longest > api.MaxMsg {
		t.Errorf("a block may have %d bytes", longest)
	}
	for _, b := range append(rights(), greatest()) {
		if s, e := block.Bytes(b); len(s) > longest || e != api.OK {
			t.Errorf("Bytes(%+v): %d bytes, error %d", b, len(s), e)
		}
	}
}

// TestP12_2_TakeOneBehindTheOther: blocks are taken in their order, what is left is told, and then none is left.
func TestP12_2_TakeOneBehindTheOther(t *testing.T) {
	list, all := append(rights(), greatest()), ""
	for _, b := range list {
		all += bytesOf(b)
	}
	r := wire.New([]byte(all))
	for i, b := range list {
		all = all[len(bytesOf(b)):]
		done := api.ErrTail
		if i == len(list)-1 {
			done = api.OK
		}
		taken(t, r, b, len(all), done)
	}
	taken(t, r, api.Block{}, 0, api.ErrCut)
	taken(t, r, api.Block{}, 0, api.ErrCut)
}

// TestP12_2_TakeWithMoreBehind: it is left, whatever it is; Parse tells ErrTail.
func TestP12_2_TakeWithMoreBehind(t *testing.T) {
	for _, b := range rights() {
		parsed(t, bytesOf(b), b, api.OK)
		for _, behind := range []string{"\x00", "\x80", "\xff\xff", strings.Repeat("\x80", 12), "\x07\x02ab"} {
			s := bytesOf(b) + behind
			taken(t, wire.New([]byte(s)), b, len(behind), api.ErrTail)
			parsed(t, s, b, api.ErrTail)
		}
	}
	r := wire.New([]byte(bytesOf(first()) + "\x07\x02ab"))
	taken(t, r, first(), 4, api.ErrTail)
	if n, s := r.Num(), r.Text(); n != 7 || s != "ab" || r.Done() != api.OK {
		t.Errorf("behind a block: %d, %q, error %d", n, s, r.Done())
	}
	parsed(t, bytesOf(first())+strings.Repeat("\x00", 70000), api.Block{}, api.ErrTail)
}

// TestP12_2_TakeOfBytesThatEnd: at every place.
func TestP12_2_TakeOfBytesThatEnd(t *testing.T) {
	for _, b := range append(rights(), greatest()) {
		s := bytesOf(b)
		// All places of a short one; of a long one all within its first and last bytes, and some between.
		for i := 0; i < len(s); i++ {
			if i > 60 && i < len(s)-20 {
				i = min(i+12, len(s)-20)
			}
			refused(t, s[:i], api.ErrCut)
		}
	}
	for _, b := range append(each(), greatest()) {
		for i := range bytesOf(b) {
			refused(t, bytesOf(b)[:i], api.ErrCut)
			alike(t, bytesOf(steady())+bytesOf(b)[:i])
		}
	}
}

// TestP12_2_TakeOfTurnedBytes: each place has each other byte.
func TestP12_2_TakeOfTurnedBytes(t *testing.T) {
	count := 0
	for _, b := range append(each(), api.Block{View: 1, Round: 1}, with(first(), func(b *api.Block) { b.Parent = endorsed(1, 4, 3, 9) })) {
		for _, behind := range []string{"", "\x05", bytesOf(next(3))} {
			s := bytesOf(b) + behind
			for i := range len(bytesOf(b)) {
				for turned := range 256 {
					count += alike(t, s[:i]+string([]byte{byte(turned)})+s[i+1:])
				}
			}
		}
	}
	if count < 10000 {
		t.Errorf("only %d came of turned bytes", count)
	}
}

// TestP12_2_TakeOfWhatWireRefuses: each number in a form that nobody writes.
func TestP12_2_TakeOfWhatWireRefuses(t *testing.T) {
	codes := []string{"\x85\x00", "\x80\x00", "\x81\x80\x80\x80\x80\x80\x80\x80\x40", strings.Repeat("\xff", 8) + "\x7f", strings.Repeat("\x80", 9) + "\x01", strings.Repeat("\xff", 10)}
	for _, b := range append(each(), greatest()) {
		all, count := cut(b), 0
		for i, p := range all {
			if !p.number {
				continue
			}
			count++
			for _, s := range codes {
				refused(t, all[:i].join()+s+all[i+1:].join(), api.ErrCode)
			}
		}
		if count < 10 {
			t.Errorf("only %d numbers", count)
		}
	}
}

// ahead: a block's bytes as far as ahead of how many Txs there are.
func ahead(b api.Block) string {
	none := bytesOf(with(b, func(b *api.Block) { b.Txs = nil }))
	return none[:len(none)-1]
}

// TestP12_2_TakeOfTooMany: ErrMany at once, whatever stands behind it, or nothing; as many as may be are taken.
func TestP12_2_TakeOfTooMany(t *testing.T) {
	timeout, one := "\x00\x00", written(1, 1)+"\x01a\x01b\x01"
	for _, n := range []uint64{9, 10, 11, 12, 127, 128, 1 << 31, 1 << 32, 1<<32 + 1, 1<<62 - 1, 1 << 62} {
		for _, behind := range []string{"", "\x00", "\x80", "\x80\x00", strings.Repeat(timeout, 12), strings.Repeat(one, 12)} {
			if n > 10 {
				refused(t, "\x01\x01\x01\x00\x00"+written(n)+behind, api.ErrMany)
				refused(t, "\x01\x01\x00\x00\x00"+written(n)+behind, api.ErrMany)
			}
			for _, b := range each() {
				refused(t, ahead(b)+written(n)+behind, api.ErrMany)
			}
		}
	}
	b := with(first(), func(b *api.Block) { b.Proof, b.Txs = timeouts(2, everybody()...), txs(8) })
	taken(t, wire.New([]byte(bytesOf(b))), b, 0, api.OK)
	b.Proof = timeouts(2, append(everybody(), 9)...)
	refused(t, bytesOf(b), api.ErrMany)
	refused(t, bytesOf(with(steady(), func(b *api.Block) { b.Txs = txs(9) })), api.ErrMany)
	// A text of more than MaxMsg bytes.
	refused(t, ahead(steady())+"\x01\x01\x01"+written(65537)+strings.Repeat("a", 65537), api.ErrMany)
	refused(t, ahead(steady())+"\x01\x01\x01"+written(65536)+strings.Repeat("a", 65535), api.ErrCut)
}

// TestP12_2_TakeOfWhatMayBeNone: Check's error, or that of cert.Take or tx.Take, which is the reader's own.
func TestP12_2_TakeOfWhatMayBeNone(t *testing.T) {
	for _, c := range []struct {
		b    api.Block
		want api.Errno
	}{
		{api.Block{}, api.ErrBlock},
		{api.Block{View: 0, Round: 1}, api.ErrBlock},
		{api.Block{View: api.MaxView + 1, Round: 1}, api.ErrBlock},
		{api.Block{View: 1, Round: 1, Author: 10}, api.ErrBlock},
		{api.Block{View: 1, Round: 1, Height: 4}, api.ErrBlock},
		{api.Block{View: 1<<32 + 1, Round: 1}, api.ErrBlock},
		{api.Block{View: 1, Round: 1, Author: 1 << 32}, api.ErrBlock},
		{api.Block{View: 1, Round: 1, Height: 1 << 32}, api.ErrBlock},
		{api.Block{View: 1<<62 - 1<<32 + 1, Round: 1}, api.ErrBlock},
		{api.Block{View: 1}, api.ErrParent},
		{api.Block{View: 1, Round: 2}, api.ErrParent},
		{api.Block{View: 1, Round: 1<<32 + 1}, api.ErrParent},
		{api.Block{View: 1, Round: 1, Height: 2}, api.ErrParent},
		{api.Block{View: 1, Round: 5, Parent: regular(2, 4)}, api.ErrParent},
		{api.Block{View: 2, Round: 1<<30 + 1, Parent: regular(2, 1<<30)}, api.ErrParent},
		{api.Block{View: 1, Round: 1, Height: 1}, api.ErrProof},
		{api.Block{View: 1, Round: 1, Proof: timeouts(1, 0)}, api.ErrProof},
		{api.Block{View: 1, Round: 1, Height: 1, Proof: timeouts(1, 3, 2)}, api.ErrProof},
		{api.Block{View: 1, Round: 1, Height: 1, Proof: timeouts(1, 10)}, api.ErrProof},
		{api.Block{View: 1, Round: 1, Height: 1, Proof: timeouts(1, 1<<32)}, api.ErrProof},
		{api.Block{View: 1, Round: 1, Height: 1, Proof: []api.Timeout{{High: regular(2, 4)}}}, api.ErrProof},
		{api.Block{View: 0, Round: 7, Height: 1}, api.ErrBlock},
		{api.Block{View: 1, Round: 7, Height: 1}, api.ErrParent},
		{api.Block{View: 1, Round: 5, Parent: api.Cert{Kind: 3}}, api.ErrCert},
		{api.Block{View: 0, Round: 7, Height: 9, Parent: api.Cert{Kind: 1, Round: 4}}, api.ErrCert},
		{api.Block{View: 0, Round: 7, Height: 1, Proof: []api.Timeout{{High: api.Cert{Kind: 3}}}}, api.ErrCert},
		{api.Block{View: 0, Round: 7, Height: 1, Txs: []api.Tx{{Kind: 1}}}, api.ErrTx},
		{api.Block{View: 1, Round: 1, Txs: []api.Tx{move(1), {Kind: 2, From: "A", Key: "k", Nonce: 1}}}, api.ErrTx},
	} {
		for _, behind := range []string{"", "\x00", "\x80", bytesOf(steady())} {
			refused(t, bytesOf(c.b)+behind, c.want)
			r := wire.New([]byte(bytesOf(steady()) + bytesOf(c.b) + behind))
			taken(t, r, steady(), len(bytesOf(c.b)+behind), api.ErrTail)
			taken(t, r, api.Block{}, 0, c.want)
			taken(t, r, api.Block{}, 0, c.want)
		}
	}
}

// TestP12_2_TheReadersErrorFirst: a block that may be none tells nothing, where the bytes behind are wrong.
func TestP12_2_TheReadersErrorFirst(t *testing.T) {
	for s, want := range map[string]api.Errno{
		"":                                     api.ErrCut,
		"\x00":                                 api.ErrCut,
		"\x00\x00\x09\x0a":                     api.ErrCut,
		"\x00\x00\x09\x0a\x00":                 api.ErrCut,
		"\x00\x00\x09\x0a\x00\x00":             api.ErrCut,
		"\x00\x00\x09\x0a\x00\x00\x01":         api.ErrCut,
		"\x00\x00\x09\x0a\x00\x0b":             api.ErrMany,
		"\x00\x00\x09\x0a\x00\x00\x09":         api.ErrMany,
		"\x00\x00\x09\x0a\x03":                 api.ErrCert,
		"\x00\x00\x09\x0a\x00\x01\x0a\x03":     api.ErrCert,
		"\x00\x00\x09\x0a\x00\x00\x01\x03":     api.ErrTx,
		"\x00\x00\x09\x0a\x00\x00\x80\x00":     api.ErrCode,
		"\x00\x00\x09\x0a\x00\x00\x00":         api.ErrBlock,
		"\x01\x00\x00\x00\x00\x0a":             api.ErrCut,
		"\x01\x00\x00\x00\x00\x00\x08":         api.ErrCut,
		"\x01\x01\x00\x00\x00\x02\x00\x00\x00": api.ErrCut,
	} {
		refused(t, s, want)
		alike(t, s)
	}
}

// TestP12_2_TakeOfAReaderWithAnError: its error stays, whatever it is, and nothing is taken.
func TestP12_2_TakeOfAReaderWithAnError(t *testing.T) {
	for _, e := range []api.Errno{api.ErrArg, api.ErrNil, api.ErrCut, api.ErrCode, api.ErrTail, api.ErrMany, api.ErrCert, api.ErrBlock, -1, math.MaxInt, math.MinInt} {
		for _, s := range []string{"", bytesOf(steady()), bytesOf(first()) + "\x00", "\x03"} {
			r := wire.New([]byte(s))
			r.Fail(e)
			taken(t, r, api.Block{}, 0, e)
			taken(t, r, api.Block{}, 0, e)
		}
	}
	r := wire.New([]byte(bytesOf(steady()) + bytesOf(first())))
	taken(t, r, steady(), len(bytesOf(first())), api.ErrTail)
	r.Fail(api.ErrRank)
	taken(t, r, api.Block{}, 0, api.ErrRank)
}

// TestP12_2_TakeFails: behind an error of Take the reader answers zeros, and keeps that error.
func TestP12_2_TakeFails(t *testing.T) {
	for s, want := range map[string]api.Errno{"\x00\x01\x00\x00\x00\x00\x00": api.ErrBlock, "\x01\x02\x00\x00\x00\x00\x00": api.ErrParent, "\x01\x01\x01\x00\x00\x00\x00": api.ErrProof, "\x01\x01\x00\x00\x03": api.ErrCert} {
		r := wire.New([]byte(s + "\x07\x01a"))
		taken(t, r, api.Block{}, 0, want)
		if r.Num() != 0 || r.Text() != "" || r.Most(9) != 0 {
			t.Errorf("behind error %d a reader goes on", want)
		}
		r.Fail(api.ErrRank)
		if r.Done() != want {
			t.Errorf("behind error %d: %d", want, r.Done())
		}
	}
}

// TestP12_2_TakeOfNil: nothing, and no panic; of no bytes the reader's error.
func TestP12_2_TakeOfNil(t *testing.T) {
	taken(t, nil, api.Block{}, 0, api.ErrNil)
	taken(t, wire.New(nil), api.Block{}, 0, api.ErrCut)
	parsed(t, "", api.Block{}, api.ErrCut)
}

// TestP12_2_ShortBytes: all strings of a few bytes, held against a second reckoning.
func TestP12_2_ShortBytes(t *testing.T) {
	l, came := []string{""}, 0
	pieces := []string{"\x00", "\x01", "\x02", "\x03", "\x0a", "\x80", "\xff"}
	for from, round := 0, 0; round < 5; round++ {
		to := len(l)
		for _, s := range l[from:to] {
			for _, c := range pieces {
				l = append(l, s+c)
			}
		}
		from = to
	}
	for _, s := range l {
		// Whole, or behind a beginning, so that a few bytes end it.
		for _, ahead := range []string{"", "\x01\x01", "\x01\x01\x01\x00\x00", "\x02\x03\x02\x01\x02\x01\x02\x02\x01"} {
			came += alike(t, ahead+s)
		}
	}
	if came < 20 {
		t.Errorf("only %d came of short bytes", came)
	}
}

// TestP12_3_ParseOfBytes: it is the block, field by field.
func TestP12_3_ParseOfBytes(t *testing.T) {
	for _, b := range append(rights(), greatest()) {
		s, e := block.Bytes(b)
		if e != api.OK {
			t.Errorf("Bytes(%+v): error %d", b, e)
		}
		if c, e := block.Parse(string(s)); e != api.OK || !same(c, b) || !block.Same(c, b) {
			t.Errorf("Parse of Bytes(%+v): %+v, error %d", b, c, e)
		}
	}
}

// TestP12_3_WhatIsParsedIsWrittenSo: there are no other bytes of which a block is parsed.
func TestP12_3_WhatIsParsedIsWrittenSo(t *testing.T) {
	d := drawn(123)
	count, came := 0, 0
	for range 20000 {
		b := d.block()
		turned := d.turn(bytesOf(b))
		c, e := block.Parse(turned)
		if e != api.OK {
			continue
		}
		count++
		if turned != bytesOf(b) {
			came++
		}
		if s, e := block.Bytes(c); string(s) != turned || e != api.OK {
			t.Errorf("% x is parsed as %+v, which is written % x", turned, c, s)
		}
	}
	if count < 5000 || came < 100 {
		t.Errorf("only %d were parsed, %d of turned bytes", count, came)
	}
}

// TestP12_ByASecondReckoning: a long row of blocks and bytes.
func TestP12_ByASecondReckoning(t *testing.T) {
	d := drawn(12)
	counts, came, last := map[api.Errno]int{}, 0, steady()
	for range 10000 {
		b := d.block()
		if d.odd(3) {
			b = d.spoil(b)
		}
		counts[why(b)]++
		checked(t, b, why(b))
		if block.Same(b, last) != same(b, last) {
			t.Errorf("Same(%+v, %+v): %t", b, last, block.Same(b, last))
		}
		came += alike(t, d.turn(bytesOf(b))+d.turn(bytesOf(last))+bytesOf(d.block()))
		last = b
	}
	for _, e := range []api.Errno{api.OK, api.ErrBlock, api.ErrParent, api.ErrProof} {
		if counts[e] < 200 {
			t.Errorf("error %d was told %d times", e, counts[e])
		}
	}
	if came < 4000 {
		t.Errorf("only %d came of turned bytes", came)
	}
}

// extreme: a block all of whose numbers are this one, with lists that may not be.
func extreme(n int) api.Block {
	c := api.Cert{Kind: n, Block: n, View: n, Round: n, Height: n, Author: n, Signers: uint32(n), Coin: uint32(n)}
	x := api.Timeout{Signer: n, View: n, High: c}
	y := api.Tx{Kind: n, From: "\xff", To: "\x00", Key: "", Val: strings.Repeat("\n", 70000), Amount: int64(n), Nonce: int64(n)}
	return api.Block{View: n, Round: n, Height: n, Author: n, Parent: c, Proof: []api.Timeout{x, x}, Txs: []api.Tx{y, y}}
}

// TestR1_OfAnything: nothing panics, and what may be none is refused.
func TestR1_OfAnything(t *testing.T) {
	for _, n := range append(ends(), 0, 1, 2, 3) {
		b := extreme(n)
		checked(t, b, api.ErrBlock)
		timed(t, b.Proof[0], api.ErrProof)
		alikeTo(t, b, clone(b), true)
		alikeTo(t, b, api.Block{}, false)
		for _, kind := range []int{0, 1, 2} {
			b := with(steady(), func(b *api.Block) { b.Parent = extreme(n).Parent; b.Parent.Kind, b.Round = kind, n })
			checked(t, b, why(b))
		}
	}
	for _, s := range []string{strings.Repeat("\xff", 70000), strings.Repeat("\x00", 70000), strings.Repeat("\x01", 70000), strings.Repeat("\x80", 70000)} {
		alike(t, s)
	}
}

// TestR4_WhatIsHandedInStays: lists, too.
func TestR4_WhatIsHandedInStays(t *testing.T) {
	wrong := with(first(), func(b *api.Block) { b.Proof, b.Txs = timeouts(2, 3, 1, 1), []api.Tx{put(2), {}, move(1)} })
	for _, b := range append(each(), wrong, greatest()) {
		kept := clone(b)
		block.Check(b)
		block.Bytes(b)
		block.Proposal(1, b)
		block.Same(b, b)
		block.Same(b, steady())
		for _, x := range b.Proof {
			block.Timeout(x)
			block.Signed(x)
		}
		if !reflect.DeepEqual(b, kept) {
			t.Errorf("%+v was changed to %+v", kept, b)
		}
	}
	s := []byte(bytesOf(first()) + bytesOf(steady()))
	kept := string(s)
	r := wire.New(s)
	block.Take(r)
	block.Take(r)
	if string(s) != kept {
		t.Errorf("Take changed the bytes: % x", s)
	}
}

// TestR4_BytesAreTheCallers: two answers share nothing, nor does room behind their ends lie in the other; they aren't the block's either.
func TestR4_BytesAreTheCallers(t *testing.T) {
	for _, b := range each() {
		kept, want := clone(b), bytesOf(b)
		x, _ := block.Bytes(b)
		y, _ := block.Bytes(b)
		for i := range x[:cap(x)] {
			x[:cap(x)][i] = 0xee
		}
		if string(y) != want {
			t.Errorf("Bytes(%+v): two answers are of the same memory", b)
		}
		clear(b.Proof)
		clear(b.Txs)
		if string(y) != want {
			t.Errorf("Bytes(%+v): the block's lists lie in them", kept)
		}
		if z, e := block.Bytes(kept); string(z) != want || e != api.OK {
			t.Errorf("Bytes(%+v) behind a change: % x, error %d", kept, z, e)
		}
	}
}

// scribble: changes all that a block's lists hold, also behind their ends.
func scribble(b api.Block) {
	for i := range b.Proof[:cap(b.Proof)] {
		b.Proof[:cap(b.Proof)][i] = api.Timeout{Signer: -7}
	}
	for i := range b.Txs[:cap(b.Txs)] {
		b.Txs[:cap(b.Txs)][i] = api.Tx{Kind: -7}
	}
}

// TestR4_BlocksAreTheCallers: two that are taken or parsed share no lists, whatever is written to one of them or to the bytes.
func TestR4_BlocksAreTheCallers(t *testing.T) {
	one, other := with(first(), func(b *api.Block) { b.Txs = txs(3) }), greatest()
	s := []byte(bytesOf(one) + bytesOf(one) + bytesOf(other))
	r := wire.New(s)
	a, b := block.Take(r), block.Take(r)
	clear(s)
	scribble(a)
	c := block.Take(r)
	scribble(a)
	if !same(b, one) || !same(c, other) || r.Done() != api.OK {
		t.Errorf("behind a change: %+v, %+v, error %d", b, c, r.Done())
	}
	a, _ = block.Parse(bytesOf(one))
	b, _ = block.Parse(bytesOf(one))
	scribble(a)
	if c, e := block.Parse(bytesOf(one)); !same(b, one) || !same(c, one) || e != api.OK {
		t.Errorf("behind a change: %+v, %+v, error %d", b, c, e)
	}
}

// inside: does a text lie in the memory of another one?
func inside(s, whole string) bool {
	at, from := uintptr(unsafe.Pointer(unsafe.StringData(s))), uintptr(unsafe.Pointer(unsafe.StringData(whole)))
	return len(s) > 0 && at >= from && at < from+uintptr(len(whole))
}

// TestR4_ParsedTextsAreNew: they lie neither in the bytes, nor in one another.
func TestR4_ParsedTextsAreNew(t *testing.T) {
	long := api.Tx{Kind: api.TxPut, From: "carol", Key: "carol", Val: "carol", Nonce: 1}
	s := strings.Clone(bytesOf(with(steady(), func(b *api.Block) { b.Txs = []api.Tx{long, long, move(7)} })))
	b, e := block.Parse(s)
	if e != api.OK || len(b.Txs) != 3 {
		t.Fatalf("Parse: %+v, error %d", b, e)
	}
	var l []string
	for _, x := range b.Txs {
		l = append(l, x.From, x.To, x.Key, x.Val)
	}
	for i, text := range l {
		if inside(text, s) {
			t.Errorf("%q lies in the bytes", text)
		}
		for _, other := range l[:i] {
			if inside(text, other) {
				t.Errorf("%q lies in another text", text)
			}
		}
	}
}

// TestR6_NothingIsKept: calls in between, refused ones too, change no answer.
func TestR6_NothingIsKept(t *testing.T) {
	for _, b := range append(changed(first(), 1), changed(next(3), -1)...) {
		block.Check(b)
		block.Bytes(b)
		block.Parse(bytesOf(b))
		block.Take(wire.New([]byte("\x01\x01\x00\x00\x03")))
	}
	for _, b := range each() {
		checked(t, b, api.OK)
		taken(t, wire.New([]byte(bytesOf(b))), b, 0, api.OK)
	}
}
