package valid_test

import (
	"math"
	"slices"
	"strings"
	"testing"

	"hallmoot/api"
	"hallmoot/block"
	"hallmoot/coin"
	"hallmoot/sign"
	"hallmoot/valid"
)

// ends: numbers far off, which are something else when they are cut to 32 bits, too.
func ends() []int {
	return []int{math.MinInt, math.MinInt + 1, -1 << 32, -2, -1, 1<<31 - 1, 1 << 31, 1<<32 - 1, 1 << 32, 1<<32 + 1, 1<<32 + 2, 1<<62 - 1, 1 << 62, math.MaxInt - 1, math.MaxInt}
}

// regular: a certificate that may be one.
func regular(view, round int) api.Cert {
	return api.Cert{Kind: api.Regular, Block: 300, View: view, Round: round, Signers: 7}
}

// chained: one of the fallback, not endorsed.
func chained(view, round, height, author int) api.Cert {
	return api.Cert{Kind: api.Fallback, Block: 301, View: view, Round: round, Height: height, Author: author, Signers: 7}
}

// noCerts: certificates that may be none, each with one thing wrong.
func noCerts() []api.Cert {
	var l []api.Cert
	for _, change := range []func(c *api.Cert){
		func(c *api.Cert) { c.Kind = 3 }, func(c *api.Cert) { c.Kind = -1 }, func(c *api.Cert) { c.Kind = 0 },
		func(c *api.Cert) { c.Block = 0 }, func(c *api.Cert) { c.Block = -1 }, func(c *api.Cert) { c.Block = 1 << 31 },
		func(c *api.Cert) { c.View = 0 }, func(c *api.Cert) { c.View = api.MaxView + 1 },
		func(c *api.Cert) { c.Round = 0 }, func(c *api.Cert) { c.Round = api.MaxRound + 1 },
		func(c *api.Cert) { c.Height = -1 }, func(c *api.Cert) { c.Height = 4 },
		func(c *api.Cert) { c.Author = -1 }, func(c *api.Cert) { c.Author = 10 },
		func(c *api.Cert) { c.Signers = 0 }, func(c *api.Cert) { c.Signers |= 1 << 10 }, func(c *api.Cert) { c.Signers |= 1 << 31 },
		func(c *api.Cert) { c.Coin = 1 << 10 },
	} {
		for _, c := range []api.Cert{regular(2, 5), chained(2, 5, 2, 1)} {
			change(&c)
			l = append(l, c)
		}
	}
	flat, tall, owned, seen := chained(2, 5, 2, 1), regular(2, 5), regular(2, 5), regular(2, 5)
	flat.Height, tall.Height, owned.Author, seen.Coin = 0, 1, 1, 3
	return append(l, flat, tall, owned, seen, api.Cert{View: 2}, api.Cert{Round: 5}, api.Cert{Block: 1}, api.Cert{Height: 1}, api.Cert{Author: 1}, api.Cert{Signers: 7}, api.Cert{Coin: 3})
}

// noBlocks: blocks that may be none, and of which number the error is.
func noBlocks() map[api.Errno][]api.Block {
	flat := api.Block{View: 1, Round: 1}
	late, early, far, high, wrong, many := flat, flat, flat, flat, flat, flat
	late.View, early.View, far.Author, high.Height = api.MaxView+1, 0, 10, 4
	wrong.Txs, many.Txs = []api.Tx{move(1), {}}, slices.Repeat([]api.Tx{move(1)}, 9)
	unrounded, unlike, proven, bare, twice := flat, flat, flat, flat, flat
	unrounded.Round, unlike.Parent = 2, chained(1, 1, 1, 0)
	proven.Proof, bare.Height = []api.Timeout{{View: 1}}, 1
	twice.Height, twice.Proof = 1, []api.Timeout{{View: 1}, {View: 1}}
	return map[api.Errno][]api.Block{
		api.ErrBlock:  {{}, late, early, far, high, wrong, many},
		api.ErrParent: {unrounded, unlike, {View: 1, Round: 6, Parent: regular(2, 5)}, {View: 2, Round: 1 + api.MaxRound, Parent: regular(2, api.MaxRound)}},
		api.ErrProof:  {proven, bare, twice},
	}
}

// either: the one error if it holds, else the other one.
func either(holds bool, one, other api.Errno) api.Errno {
	if holds {
		return one
	}
	return other
}

// chainBlock: a block of Height 2 or 3, behind one that nobody knows.
func chainBlock(view, round, height, author int) api.Block {
	return api.Block{View: view, Round: round, Height: height, Author: author, Parent: chained(view, round-1, height-1, author)}
}

func TestP13_1_ContentOfARun(t *testing.T) {
	for _, r := range runs(t) {
		if len(r.blocks) < 3*r.all() {
			t.Fatalf("%d blocks", len(r.blocks))
		}
		for i, n := range r.numbers {
			r.contentIs(t, n, r.blocks[i], api.OK)
			r.with(hasBook).contentIs(t, n, r.blocks[i], api.OK)
		}
		for _, n := range append(ends(), 0, len(r.contents)+1, len(r.contents)+2) {
			r.contentIs(t, n, api.Block{}, api.ErrBook)
		}
		r.enter(t, "one more")
		r.contentIs(t, len(r.contents), api.Block{}, api.ErrBlock)
		r.contentIs(t, len(r.contents)+1, api.Block{}, api.ErrBook)
	}
}

func TestP13_1_ContentOfABlockThatNobodySigned(t *testing.T) {
	w := empty(t, 1, 0)
	for height, b := range []api.Block{{View: 1, Round: 6, Author: 9, Parent: regular(1, 5)}, {View: 2, Round: 1, Height: 1, Proof: []api.Timeout{{Signer: 7, View: 2, High: regular(1, 4)}}}, chainBlock(3, 9, 2, 8), chainBlock(api.MaxView, api.MaxRound, 3, 5)} {
		if b.Height != height {
			t.Fatalf("%+v isn't of Height %d", b, height)
		}
		w.contentIs(t, w.write(t, b), b, api.OK)
	}
}

func TestP13_1_ContentOfNoBlock(t *testing.T) {
	w := empty(t, 1, 0)
	good := "\x01\x01\x00\x00\x00\x00\x00"
	first := w.enter(t, good)
	for _, s := range []string{"", "x", good[:6], good + "\x00", "\x00\x01\x00\x00\x00\x00\x00", "\x01\x02\x00\x00\x00\x00\x00", "\x01\x01\x01\x00\x00\x00\x00", "\x01\x01\x00\x00\x03\x00\x00",
		"\x01\x01\x00\x00\x00\x0b", "\x01\x01\x00\x00\x00\x00\x09", "\x01\x01\x00\x00\x00\x00\x01\x03", "\x81\x00\x01\x00\x00\x00\x00\x00", "\xff\xff\xff\xff\xff\xff\xff\xff\xff\xff", strings.Repeat("\x00", api.MaxMsg), strings.Repeat("\xff", api.MaxMsg)} {
		n := w.enter(t, s)
		if b, e := block.Parse(s); e == api.OK {
			t.Fatalf("%q is %+v", s, b)
		}
		w.contentIs(t, n, api.Block{}, api.ErrBlock)
		// Shares make no block of it.
		c := regular(1, 1)
		c.Block = n
		w.vote(t, c)
		w.certIs(t, c, api.ErrBlock)
	}
	w.contentIs(t, first, api.Block{View: 1, Round: 1}, api.OK)
}

func TestP13_1_ContentWithoutABook(t *testing.T) {
	r := ran(t, 1, 8)
	for parts := range hasAll + 1 {
		w := r.with(parts)
		for _, n := range append(ends(), 0, 1, 2, len(r.contents), len(r.contents)+1) {
			_, e := w.content(n)
			if parts&hasBook == 0 {
				e = api.ErrNil
			}
			want, _ := w.content(n)
			w.contentIs(t, n, want, e)
		}
	}
	if b, e := (valid.Law{}).Content(1); !block.Same(b, api.Block{}) || e != api.ErrNil {
		t.Errorf("Content of no registers: %+v, %d", b, e)
	}
}

func TestP13_1_Number(t *testing.T) {
	for _, r := range runs(t) {
		for i, b := range r.blocks {
			r.numberIs(t, b, r.numbers[i], api.OK)
			r.with(hasBook).numberIs(t, b, r.numbers[i], api.OK)
			// One that differs a bit isn't there, and isn't entered by asking.
			b.Txs = append(slices.Clone(b.Txs), move(999))
			r.numberIs(t, b, 0, api.ErrBook)
			b.Txs = nil
			r.numberIs(t, b, 0, api.ErrBook)
			r.numberIs(t, b, 0, api.ErrBook)
			n := r.write(t, b)
			r.numberIs(t, b, n, api.OK)
		}
	}
}

func TestP13_1_NumberOfNoItems(t *testing.T) {
	w := empty(t, 2, 0)
	n := w.write(t, api.Block{View: 1, Round: 1})
	w.numberIs(t, api.Block{View: 1, Round: 1, Proof: []api.Timeout{}, Txs: []api.Tx{}}, n, api.OK)
}

func TestP13_1_NumberOfWhatMayBeNone(t *testing.T) {
	r := ran(t, 1, 0)
	for want, l := range noBlocks() {
		for _, b := range l {
			for parts := range hasAll + 1 {
				r.with(parts).numberIs(t, b, 0, want)
				r.with(parts).blockIs(t, b, 0, want)
			}
		}
	}
	// What may be none isn't found by its bytes either: nobody writes them.
	r.enter(t, "\x00\x01\x00\x00\x00\x00\x00")
	r.numberIs(t, api.Block{Round: 1}, 0, api.ErrBlock)
}

func TestP13_1_NumberWithoutABook(t *testing.T) {
	r := ran(t, 1, 0)
	for parts := range hasAll + 1 {
		w := r.with(parts)
		for i, b := range r.blocks {
			want, e := r.numbers[i], api.OK
			if parts&hasBook == 0 {
				want, e = 0, api.ErrNil
			}
			w.numberIs(t, b, want, e)
		}
	}
}

func TestP13_1_NumberOfContent(t *testing.T) {
	for _, r := range runs(t) {
		r.enter(t, "no block")
		for n := range r.contents {
			if b, e := r.law.Content(n + 1); e == api.OK {
				r.numberIs(t, b, n+1, api.OK)
			} else if n+1 != len(r.contents) {
				t.Errorf("Content(%d): %d", n+1, e)
			}
		}
	}
}

// highestIs: is it this one?
func highestIs(t *testing.T, p []api.Timeout, want api.Cert) {
	t.Helper()
	before := slices.Clone(p)
	if c := valid.Highest(p); c != want {
		t.Errorf("Highest(%+v): %+v, not %+v", p, c, want)
	}
	if !slices.Equal(p, before) {
		t.Errorf("Highest(%+v): was %+v", p, before)
	}
	if c := highest(p); c != want {
		t.Errorf("Highest(%+v): a second reckoning tells %+v, not %+v", p, c, want)
	}
}

// highs: timeouts with these certificates.
func highs(l ...api.Cert) []api.Timeout {
	var p []api.Timeout
	for k, c := range l {
		p = append(p, api.Timeout{Signer: k, View: 9, High: c})
	}
	return p
}

func TestP13_1_Highest(t *testing.T) {
	none := api.Cert{}
	highestIs(t, nil, none)
	highestIs(t, []api.Timeout{}, none)
	low, mid, high, top := regular(2, 20), chained(2, 3, 1, 0), regular(3, 4), chained(3, 1, 3, 2)
	ranked := []api.Cert{none, low, mid, high, top}
	for i, a := range ranked {
		highestIs(t, highs(a), a)
		for j, b := range ranked {
			highestIs(t, highs(a, b), ranked[max(i, j)])
			for k, c := range ranked {
				highestIs(t, highs(a, b, c), ranked[max(i, j, k)])
			}
		}
	}
	highestIs(t, highs(top, high, mid, low, none), top)
	highestIs(t, highs(none, low, top, mid, high), top)
	highestIs(t, highs(none, low, mid, high, top), top)
}

func TestP13_1_HighestAtOneRank(t *testing.T) {
	a, b, c := regular(3, 4), regular(3, 4), regular(3, 4)
	a.Block, b.Signers, c.Signers = 7, 11, 13
	low := regular(3, 3)
	// Of those of one rank it is the first one.
	highestIs(t, highs(a, b, c), a)
	highestIs(t, highs(b, a, c), b)
	highestIs(t, highs(low, c, b, a, low), c)
	x, y := chained(3, 4, 1, 0), chained(3, 4, 3, 2)
	highestIs(t, highs(low, x, a, y), x)
	highestIs(t, highs(y, a, x), y)
}

func TestP13_1_HighestOfAny(t *testing.T) {
	// Certificates that may be none have a rank, too, and may stand below a zero one.
	below, lower, zero := api.Cert{View: -1, Round: 7}, api.Cert{Kind: api.Regular, View: -5, Round: 9}, api.Cert{Kind: api.Regular}
	highestIs(t, highs(below), below)
	highestIs(t, highs(lower, below), below)
	highestIs(t, highs(below, lower), below)
	highestIs(t, highs(zero, api.Cert{}), zero)
	highestIs(t, highs(api.Cert{}, zero), api.Cert{})
	highestIs(t, highs(api.Cert{View: math.MinInt}, api.Cert{View: math.MaxInt}), api.Cert{View: math.MaxInt})
	highestIs(t, highs(api.Cert{Kind: 7, View: 3, Round: 2}, api.Cert{Kind: -7, View: 3, Round: 3}), api.Cert{Kind: -7, View: 3, Round: 3})
	// Views and signers of the timeouts are nothing to it.
	highestIs(t, []api.Timeout{{Signer: 9, View: 900, High: regular(1, 1)}, {Signer: -1, View: -1, High: regular(2, 1)}, {Signer: 9, View: 5}}, regular(2, 1))
}

func TestP13_2_CertOfGenesis(t *testing.T) {
	for _, r := range runs(t) {
		for parts := range hasAll + 1 {
			r.with(parts).certIs(t, api.Cert{}, api.OK)
		}
	}
	if e := (valid.Law{}).Cert(api.Cert{}); e != api.OK {
		t.Errorf("Cert of the genesis, of no registers: %d", e)
	}
}

func TestP13_2_CertsOfARun(t *testing.T) {
	for _, r := range runs(t) {
		kinds := [4]int{}
		for _, c := range r.certs {
			r.certIs(t, c, api.OK)
			r.certIs(t, c, api.OK)
			kinds[c.Kind]++
			if c.Coin != 0 {
				kinds[3]++
			}
		}
		if kinds[1] < 5 || kinds[2] < 3*r.all() || kinds[3] < 3 {
			t.Errorf("certificates of the kinds: %v", kinds)
		}
	}
}

func TestP13_2_CertThatMayBeNone(t *testing.T) {
	for f := 1; f <= 3; f++ {
		w := empty(t, f, 0)
		for range 302 {
			w.enter(t, strings.Repeat("x", len(w.contents)))
		}
		for _, c := range noCerts() {
			w.vote(t, c)
			for parts := range hasAll + 1 {
				w.with(parts).certIs(t, c, api.ErrCert)
			}
		}
	}
}

func TestP13_2_CertOfNoBlock(t *testing.T) {
	for f := 1; f <= 3; f++ {
		w := empty(t, f, 0)
		for _, c := range []api.Cert{certOf(w.write(t, w.next(1, regular(1, 4))), w.next(1, regular(1, 4)), w.full()), certOf(w.write(t, chainBlock(2, 5, 3, 1)), chainBlock(2, 5, 3, 1), w.full())} {
			w.vote(t, c)
			w.certIs(t, c, api.OK)
			for _, n := range []int{3, 4, 1000, 1<<31 - 2, 1<<31 - 1} {
				c.Block = n
				w.vote(t, c)
				w.certIs(t, c, api.ErrBook)
			}
		}
	}
}

func TestP13_2_CertThatDoesntFitItsBlock(t *testing.T) {
	for _, r := range runs(t) {
		for _, good := range r.certs {
			for _, by := range []int{-1, 1, 2} {
				for _, c := range [4]api.Cert{
					{View: by}, {Round: by}, {Height: by}, {Author: by},
				} {
					wrong := good
					wrong.View += c.View
					wrong.Round += c.Round
					wrong.Height += c.Height
					wrong.Author += c.Author
					// All of them sign just that, and its coin: it isn't their shares that are wrong.
					r.issue(t, stmtOf(wrong), r.full())
					r.toss(t, wrong.View, r.full())
					r.certIs(t, wrong, api.ErrCert)
				}
			}
			r.certIs(t, good, api.OK)
		}
	}
}

func TestP13_2_CertOfAnotherKindThanItsBlock(t *testing.T) {
	for f := 1; f <= 3; f++ {
		w := empty(t, f, 0)
		for height := range 4 {
			for author := range w.all() {
				b := api.Block{View: 3, Round: 9, Height: height, Author: author, Parent: regular(3, 8)}
				if height == 1 {
					b.Proof = []api.Timeout{{View: 3}}
				}
				if height > 1 {
					b.Parent = chained(3, 8, height-1, author)
				}
				n := w.write(t, b)
				c := api.Cert{Kind: api.Regular, Block: n, View: 3, Round: 9, Signers: w.full()}
				w.vote(t, c)
				// Of one of the fast path nobody asks whose block it is, and whether it is valid.
				w.certIs(t, c, either(height == 0, api.OK, api.ErrCert))
				c.Kind = api.Fallback
				for c.Height = 1; c.Height <= 3; c.Height++ {
					for c.Author = range w.all() {
						w.vote(t, c)
						w.certIs(t, c, either(height == c.Height && author == c.Author, api.OK, api.ErrCert))
					}
				}
			}
		}
	}
}

// signedBy: what is told of signers of whom these count, where so many are asked for.
func (w *world) signedBy(signers, count uint32, least int) api.Errno {
	switch {
	case signers>>10 != 0:
		return api.ErrCert
	case signers >= 1<<w.all():
		return api.ErrSigner
	case signers&^count != 0:
		return api.ErrForged
	case size(signers) < least:
		return api.ErrFew
	}
	return api.OK
}

func TestP13_2_CertOfAllSigners(t *testing.T) {
	for f, bad := range []uint32{0, 4, 0x41, 0x202} {
		if f == 0 {
			continue
		}
		for _, b := range []api.Block{{View: 2, Round: 7, Author: 0, Parent: regular(2, 6)}, chainBlock(2, 7, 2, 3)} {
			for _, bad := range []uint32{0, bad} {
				for leave := range f + 2 {
					w := empty(t, f, bad)
					n := w.write(t, b)
					count := w.ring(1, w.all()-leave)
					w.issue(t, stmtOf(certOf(n, b, 0)), count)
					for signers := uint32(1); signers < 1<<11; signers++ {
						w.certIs(t, certOf(n, b, signers), w.signedBy(signers, count|bad, 2*f+1))
					}
				}
			}
		}
	}
}

func TestP13_2_CertOfAQuorum(t *testing.T) {
	for f := 1; f <= 3; f++ {
		w := empty(t, f, 0)
		for _, b := range []api.Block{{View: 2, Round: 7, Parent: regular(2, 6)}, chainBlock(2, 7, 3, 1)} {
			c := w.behind(t, b, w.full())
			for count := 1; count <= w.all(); count++ {
				for from := range w.all() {
					c.Signers = w.ring(from, count)
					w.certIs(t, c, either(count > 2*f, api.OK, api.ErrFew))
				}
			}
		}
	}
}

// unlike: statements that differ in one thing from one.
func unlike(s api.Stmt) []api.Stmt {
	var l []api.Stmt
	for _, by := range []int{-1, 1} {
		for _, change := range []func(s *api.Stmt){
			func(s *api.Stmt) { s.Kind += by }, func(s *api.Stmt) { s.Block += by }, func(s *api.Stmt) { s.View += by }, func(s *api.Stmt) { s.Round += by }, func(s *api.Stmt) { s.Height += by }, func(s *api.Stmt) { s.Author += by },
			func(s *api.Stmt) { s.HKind += by }, func(s *api.Stmt) { s.HBlock += by }, func(s *api.Stmt) { s.HView += by }, func(s *api.Stmt) { s.HRound += by },
		} {
			other := s
			change(&other)
			l = append(l, other)
		}
	}
	return l
}

func TestP13_2_CertOfSharesOfAnotherStatement(t *testing.T) {
	for f := 1; f <= 3; f++ {
		w := empty(t, f, 1)
		for _, b := range []api.Block{{View: 2, Round: 7, Author: 2, Parent: regular(2, 6)}, chainBlock(2, 7, 1+f%2+1, 1)} {
			c := certOf(w.propose(t, b), b, w.ring(0, 2*f+1))
			for _, s := range unlike(stmtOf(c)) {
				w.issue(t, s, w.full())
			}
			// What was signed for it as one of the other way.
			w.issue(t, api.Stmt{Kind: api.SVote, Block: c.Block, View: 2, Round: 7, Height: c.Height + 1}, w.full())
			w.certIs(t, c, api.ErrForged)
			for _, k := range members(c.Signers) {
				if k > 0 {
					w.certIs(t, c, api.ErrForged)
				}
				w.issue(t, stmtOf(c), 1<<k)
			}
			w.certIs(t, c, api.OK)
		}
	}
}

func TestP13_2_CertOfSharesOfAnotherKind(t *testing.T) {
	w := empty(t, 1, 0)
	b, low := chainBlock(2, 7, 2, 1), api.Block{View: 2, Round: 7, Author: 3, Parent: regular(2, 6)}
	c, d := certOf(w.write(t, b), b, 7), certOf(w.write(t, low), low, 7)
	w.issue(t, api.Stmt{Kind: api.SVote, Block: c.Block, View: 2, Round: 7}, 15)
	w.issue(t, api.Stmt{Kind: api.SFall, Block: d.Block, View: 2, Round: 7, Author: 3}, 15)
	w.issue(t, proposalOf(c.Block, b), 15)
	w.issue(t, proposalOf(d.Block, low), 15)
	w.certIs(t, c, api.ErrForged)
	w.certIs(t, d, api.ErrForged)
}

func TestP13_2_CertOfBadSigners(t *testing.T) {
	for f := 1; f <= 3; f++ {
		w := empty(t, f, 1<<f-1)
		b := chainBlock(2, 7, 2, 1)
		c := certOf(w.write(t, b), b, 1<<f-1)
		// Bad ones sign anything, but aren't enough; F + 1 of the others must have signed.
		w.certIs(t, c, api.ErrFew)
		for k := f; k < w.quorum(); k++ {
			c.Signers |= 1 << k
			w.certIs(t, c, api.ErrForged)
			w.issue(t, stmtOf(c), 1<<k)
			w.certIs(t, c, either(k == 2*f, api.OK, api.ErrFew))
		}
	}
}

// fallen: a certificate of the fallback that a quorum signed, of a view and an author.
func (w *world) fallen(t *testing.T, view, height, author int) api.Cert {
	t.Helper()
	b := api.Block{View: view, Round: 9, Height: height, Author: author, Parent: chained(view, 8, height-1, author)}
	if height == 1 {
		b.Parent, b.Proof = api.Cert{}, []api.Timeout{{View: view}}
		b.Round = 1
	}
	return w.behind(t, b, w.ring(author, 2*w.f+1))
}

func TestP13_2_CertNotEndorsed(t *testing.T) {
	for f := 1; f <= 3; f++ {
		w := empty(t, f, 0)
		for author := range 10 {
			for height := 1; height <= 3; height++ {
				// Its coin is asked for nothing, and its author needn't be a replica.
				c := w.fallen(t, 2, height, author)
				w.certIs(t, c, api.OK)
				w.with(hasBook|hasSign).certIs(t, c, api.OK)
			}
		}
		if w.law.Coin.Seen(2) {
			t.Error("the coin was seen")
		}
	}
}

func TestP13_2_CertOfAllCoins(t *testing.T) {
	for f, bad := range []uint32{0, 2, 0x18, 0x300} {
		if f == 0 {
			continue
		}
		for _, bad := range []uint32{0, bad} {
			for some := range 3*f + 2 {
				w := empty(t, f, bad)
				view := w.all() + 2
				c := w.fallen(t, view, 1+some%3, 2)
				count := w.ring(3, some)
				w.toss(t, view, count)
				for c.Coin = 1; c.Coin < 1<<11; c.Coin++ {
					w.certIs(t, c, w.signedBy(c.Coin, count|bad, f+1))
				}
				c.Coin = 0
				w.certIs(t, c, api.OK)
			}
		}
	}
}

func TestP13_2_CertOfTheElected(t *testing.T) {
	for f := 1; f <= 3; f++ {
		for _, view := range []int{1, 2, 3, 5, 10, 12, api.MaxView - 1, api.MaxView} {
			for chosen := -1; chosen < 3*f+1; chosen++ {
				w := empty(t, f, 0)
				who := view % w.all()
				if chosen >= 0 {
					w.choose(t, view, chosen)
					who = chosen
				}
				w.toss(t, view, w.ring(view, f+1))
				for author := range 10 {
					c := w.fallen(t, view, 1+author%3, author)
					c.Coin = w.ring(view, f+1)
					w.certIs(t, c, either(author == who, api.OK, api.ErrCoin))
				}
			}
		}
	}
}

func TestP13_2_CertOfAnotherCoin(t *testing.T) {
	for f := 1; f <= 3; f++ {
		w := empty(t, f, 0)
		c := w.fallen(t, 2, 3, 2)
		c.Coin = w.full()
		// Shares of other views' coins, and of other statements, aren't shares of this one.
		w.toss(t, 1, w.full())
		w.toss(t, 3, w.full())
		for _, s := range unlike(api.Stmt{Kind: api.SCoin, View: 2}) {
			w.issue(t, s, w.full())
		}
		w.certIs(t, c, api.ErrForged)
		w.toss(t, 2, w.full())
		w.certIs(t, c, api.OK)
	}
}

func TestP13_2_CertOfACoinThatWasSeen(t *testing.T) {
	for f := 1; f <= 3; f++ {
		w := empty(t, f, 0)
		w.choose(t, 2, 3)
		right, wrong := w.fallen(t, 2, 3, 3), w.fallen(t, 2, 3, 2)
		w.toss(t, 2, w.full())
		if who, e := w.law.Coin.See(w.law.Sign, 2, w.full()); who != 3 || e != api.OK {
			t.Fatalf("See: %d, %d", who, e)
		}
		w.seen[2]++
		right.Coin, wrong.Coin = w.ring(1, f+1), w.ring(2, f+1)
		w.certIs(t, right, api.OK)
		w.certIs(t, wrong, api.ErrCoin)
		// That it was seen spares nobody the shares.
		right.Coin = w.ring(0, f)
		w.certIs(t, right, api.ErrFew)
	}
}

func TestP13_2_CertOfCoinsOfAnotherF(t *testing.T) {
	for f := 1; f <= 3; f++ {
		for other := 1; other <= 3; other++ {
			w := empty(t, f, 0)
			c := w.fallen(t, 2, 3, 2)
			w.toss(t, 2, w.full())
			w.law.Coin, _ = coin.New(other)
			w.coinF = other
			w.certIs(t, c, api.OK)
			c.Coin = w.full()
			w.certIs(t, c, either(f == other, api.OK, api.ErrArg))
		}
	}
}

// The coin is seen where all that is asked ahead of it is right, since coin.See is asked then, and nowhere else.
func TestP13_2_CertSeesNoCoinButItsOwn(t *testing.T) {
	w := empty(t, 1, 0)
	b := chainBlock(3, 7, 2, 3)
	c := certOf(w.propose(t, b), b, 7)
	c.Coin = 3
	w.toss(t, 3, 15)
	w.certIs(t, c, api.ErrForged)
	w.issue(t, stmtOf(c), 3)
	few := c
	few.Signers = 3
	w.certIs(t, few, api.ErrFew)
	if w.law.Coin.Seen(3) {
		t.Error("the coin was seen ahead of the shares")
	}
	w.vote(t, c)
	unfit, plain := c, c
	unfit.Round, plain.Coin = 8, 0
	w.vote(t, unfit)
	w.certIs(t, unfit, api.ErrCert)
	w.certIs(t, plain, api.OK)
	if w.law.Coin.Seen(3) {
		t.Error("the coin was seen, but not asked for")
	}
	w.certIs(t, c, api.OK)
	if !w.law.Coin.Seen(3) || w.law.Coin.Seen(2) || w.law.Coin.Seen(4) {
		t.Error("the coin wasn't seen, or another one was")
	}
}

// What is wrong with a certificate, in the order in which it is told.
const (
	wrongForm = 1 << iota
	noBook
	notEntered
	noBlock
	unfit
	noSign
	strangeSigner
	forgedSigner
	fewSigners
	noCoin
	otherCoins
	strangeToss
	forgedToss
	fewTosses
	electsOther
	beyondCert
)

// ofCert: what is told of each.
func ofCert() []api.Errno {
	return []api.Errno{api.ErrCert, api.ErrNil, api.ErrBook, api.ErrBlock, api.ErrCert, api.ErrNil, api.ErrSigner, api.ErrForged, api.ErrFew, api.ErrNil, api.ErrArg, api.ErrSigner, api.ErrForged, api.ErrFew, api.ErrCoin}
}

// toldOf: the error of the first one of these faults.
func toldOf(l []api.Errno, faults int) api.Errno {
	for i, e := range l {
		if faults>>i&1 == 1 {
			return e
		}
	}
	return api.OK
}

// upTo: all sets of faults ahead of one that have at most so many.
func upTo(beyond, count int) []int {
	var l []int
	for faults := range beyond {
		if size(uint32(faults)) <= count {
			l = append(l, faults)
		}
	}
	return l
}

// partsOf: the registers that are there with these faults.
func partsOf(faults int) int {
	parts := hasAll
	if faults&noBook != 0 {
		parts &^= hasBook
	}
	if faults&noSign != 0 {
		parts &^= hasSign
	}
	if faults&noCoin != 0 {
		parts &^= hasCoin
	}
	return parts
}

// flawed: an endorsed certificate with these faults.
func flawed(t *testing.T, f, faults int) (*world, api.Cert) {
	t.Helper()
	w := empty(t, f, 0)
	b := chainBlock(3, 8, 2, 3)
	n := 0
	if faults&noBlock != 0 {
		n = w.enter(t, "no block")
	} else {
		n = w.write(t, b)
	}
	c := certOf(n, b, w.ring(1, w.quorum()))
	if faults&fewSigners != 0 {
		c.Signers = w.ring(1, w.quorum()-1)
	}
	if faults&unfit != 0 {
		c.Round++
	}
	if faults&notEntered != 0 {
		c.Block++
	}
	w.issue(t, stmtOf(c), c.Signers)
	if faults&forgedSigner != 0 {
		c.Signers |= 1
	}
	if faults&strangeSigner != 0 {
		c.Signers |= 1 << w.all()
	}
	w.tossFor(t, &c, faults)
	if faults&wrongForm != 0 {
		c.Coin |= 1 << 10
	}
	return w.with(partsOf(faults)), c
}

// tossFor: a certificate's coin, with these faults.
func (w *world) tossFor(t *testing.T, c *api.Cert, faults int) {
	t.Helper()
	c.Coin = w.ring(1, w.f+1)
	if faults&fewTosses != 0 {
		c.Coin = w.ring(1, w.f)
		if faults&forgedToss != 0 {
			c.Coin = w.ring(1, w.f-1)
		}
	}
	w.toss(t, c.View, c.Coin)
	if faults&forgedToss != 0 {
		c.Coin |= 1
	}
	if faults&strangeToss != 0 {
		c.Coin |= 1 << w.all()
	}
	if faults&electsOther != 0 {
		w.choose(t, c.View, 0)
	}
	if faults&otherCoins != 0 {
		w.coinF = w.f%3 + 1
		w.law.Coin, _ = coin.New(w.coinF)
	}
}

func TestP13_2_CertOrder(t *testing.T) {
	for f := 1; f <= 3; f++ {
		for _, faults := range upTo(beyondCert, 3) {
			if f == 3 && faults&(strangeSigner|strangeToss) != 0 {
				// Of the greatest F such a certificate may be none.
				continue
			}
			w, c := flawed(t, f, faults)
			w.certIs(t, c, toldOf(ofCert(), faults))
			if seen := faults&^electsOther == 0; w.law.Coin.Seen(3) != seen {
				t.Errorf("faults %b: seen %t", faults, !seen)
			}
		}
	}
}

func TestP13_2_CertWithoutRegisters(t *testing.T) {
	for _, r := range []*run{ran(t, 1, 8), ranToTheEnd(t, 3, 1)} {
		for parts := range hasAll + 1 {
			w := r.with(parts)
			for _, c := range r.certs {
				lacks := c.Kind != api.Genesis && parts&(hasBook|hasSign) != hasBook|hasSign || c.Coin != 0 && parts&hasCoin == 0
				w.certIs(t, c, either(lacks, api.ErrNil, api.OK))
			}
		}
	}
}

func TestP13_3_TimeoutsOfARun(t *testing.T) {
	for _, r := range runs(t) {
		if len(r.timeouts) < r.all() {
			t.Fatalf("%d timeouts", len(r.timeouts))
		}
		for _, x := range r.timeouts {
			r.timeoutIs(t, x, api.OK)
			x.View++
			if x.View <= api.MaxView {
				r.timeoutIs(t, x, either(r.bad>>x.Signer&1 == 1, api.OK, api.ErrForged))
			}
		}
	}
}

func TestP13_3_TimeoutOfEachHigh(t *testing.T) {
	for _, r := range runs(t) {
		for _, c := range r.certs {
			for signer := range 11 {
				for _, view := range []int{0, 1, 2, 3, 4, 5, api.MaxView - 1, api.MaxView, api.MaxView + 1} {
					x := api.Timeout{Signer: signer, View: view, High: c}
					may := view >= 1 && view <= api.MaxView && (c.Kind != api.Fallback && c.View <= view || c.Coin != 0 && c.View < view)
					want := api.OK
					switch {
					case !may || signer == 10:
						want = api.ErrProof
					case signer >= r.all():
						want = api.ErrSigner
					default:
						r.quit(t, x)
					}
					r.timeoutIs(t, x, want)
				}
			}
		}
	}
}

func TestP13_3_TimeoutThatMayBeNone(t *testing.T) {
	r := ran(t, 1, 0)
	for parts := range hasAll + 1 {
		w := r.with(parts)
		for _, n := range append(ends(), 10) {
			w.timeoutIs(t, api.Timeout{Signer: n, View: 1}, api.ErrProof)
		}
		for _, n := range append(ends(), 0, api.MaxView+1) {
			w.timeoutIs(t, api.Timeout{View: n}, api.ErrProof)
		}
		for _, c := range noCerts() {
			w.timeoutIs(t, api.Timeout{Signer: 1, View: 3, High: c}, api.ErrProof)
		}
		w.timeoutIs(t, api.Timeout{View: 2, High: regular(3, 1)}, api.ErrProof)
		w.timeoutIs(t, api.Timeout{View: 3, High: chained(2, 5, 1, 1)}, api.ErrProof)
	}
}

func TestP13_3_TimeoutOfSharesOfAnotherStatement(t *testing.T) {
	for f := 1; f <= 3; f++ {
		w := empty(t, f, 2)
		b := api.Block{View: 2, Round: 7, Author: 1, Parent: regular(2, 6)}
		x := api.Timeout{View: 3, High: w.behind(t, b, w.ring(0, 2*f+1))}
		for _, s := range append(unlike(signedOf(x)), api.Stmt{Kind: api.STimeout, View: 3}) {
			w.issue(t, s, w.full())
		}
		w.timeoutIs(t, x, api.ErrForged)
		// Of a bad one anything counts, but what it has must be valid.
		x.Signer = 1
		w.timeoutIs(t, x, api.OK)
		wrong := x
		wrong.High.Block = 2
		w.timeoutIs(t, wrong, api.ErrBook)
		x.Signer = 2
		w.quit(t, api.Timeout{Signer: 3, View: 3, High: x.High})
		w.timeoutIs(t, x, api.ErrForged)
		w.quit(t, x)
		w.timeoutIs(t, x, api.OK)
		// What was signed doesn't name who signed the certificate.
		w.vote(t, certOf(1, b, w.full()))
		x.High.Signers = w.ring(1, 2*f+1)
		w.timeoutIs(t, x, api.OK)
		x.High.Signers = w.ring(1, 2*f)
		w.timeoutIs(t, x, api.ErrFew)
	}
}

func TestP13_3_TimeoutOrder(t *testing.T) {
	const (
		form = beyondCert << iota
		strange
		forged
		beyond
	)
	for f := 1; f <= 3; f++ {
		for _, faults := range upTo(beyond, 3) {
			if f == 3 && faults&(strangeSigner|strangeToss|strange) != 0 {
				continue
			}
			w, c := flawed(t, f, faults)
			x := api.Timeout{Signer: w.all() - 1, View: 4, High: c}
			if faults&strange != 0 {
				x.Signer = w.all()
			}
			if faults&forged == 0 && w.law.Sign != nil {
				w.quit(t, x)
			}
			if faults&form != 0 {
				x.View = 3
			}
			want := toldOf(ofCert(), faults)
			switch {
			case faults&(form|wrongForm) != 0:
				want = api.ErrProof
			case faults&noSign != 0:
				want = api.ErrNil
			case faults&strange != 0:
				want = api.ErrSigner
			case faults&forged != 0:
				want = api.ErrForged
			}
			w.timeoutIs(t, x, want)
		}
	}
}

func TestP13_3_TimeoutWithoutRegisters(t *testing.T) {
	r := ran(t, 1, 0)
	for parts := range hasAll + 1 {
		w := r.with(parts)
		for _, x := range r.timeouts {
			lacks := parts&hasSign == 0 || x.High.Kind != api.Genesis && parts&hasBook == 0 || x.High.Coin != 0 && parts&hasCoin == 0
			w.timeoutIs(t, x, either(lacks, api.ErrNil, api.OK))
		}
		x := api.Timeout{Signer: 2, View: 9}
		r.quit(t, x)
		w.timeoutIs(t, x, either(parts&hasSign == 0, api.ErrNil, api.OK))
	}
}

func TestP13_3_ProofsOfARun(t *testing.T) {
	for _, r := range runs(t) {
		for _, p := range r.proofs {
			view := p[0].View
			r.proofIs(t, view, p, api.OK)
			for _, other := range append(ends(), view-1, view+1, 0, -view, view+1<<32) {
				r.proofIs(t, other, p, api.ErrProof)
			}
		}
	}
}

// quitters: timeouts of a view by all, with the genesis and with certificates of the fast path in turn.
func (w *world) quitters(t *testing.T, view int) []api.Timeout {
	t.Helper()
	high := w.behind(t, api.Block{View: view, Round: 7, Parent: regular(view, 6)}, w.ring(1, w.quorum()))
	var l []api.Timeout
	for k := range w.all() {
		x := api.Timeout{Signer: k, View: view}
		if k%2 == 0 {
			x.High = high
		}
		w.quit(t, x)
		l = append(l, x)
	}
	return l
}

func TestP13_3_ProofOfAllSets(t *testing.T) {
	for f, bad := range []uint32{0, 8, 0x21, 0x380} {
		if f == 0 {
			continue
		}
		for _, bad := range []uint32{0, bad} {
			w := empty(t, f, bad)
			all := w.quitters(t, 2)
			for set := range w.full() + 1 {
				want := api.ErrFew
				if size(set) > 2*f {
					want = api.OK
				}
				w.proofIs(t, 2, chosen(all, set), want)
			}
		}
	}
}

func TestP13_3_ProofOfAQuorum(t *testing.T) {
	for f := 1; f <= 3; f++ {
		w := empty(t, f, 0)
		all := w.quitters(t, api.MaxView)
		w.proofIs(t, api.MaxView, nil, api.ErrFew)
		w.proofIs(t, api.MaxView, []api.Timeout{}, api.ErrFew)
		// Of no timeouts no View can be another one.
		w.proofIs(t, -5, nil, api.ErrFew)
		for count := 1; count <= w.all(); count++ {
			want := api.ErrFew
			if count > 2*f {
				want = api.OK
			}
			w.proofIs(t, api.MaxView, all[:count], want)
			w.proofIs(t, api.MaxView, all[w.all()-count:], want)
		}
	}
}

func TestP13_3_ProofOfSignersThatDontRise(t *testing.T) {
	for f := 1; f <= 3; f++ {
		w := empty(t, f, 0)
		all := w.quitters(t, 3)
		for i := range all {
			// Twice the same, beside it and further on.
			w.proofIs(t, 3, slices.Insert(slices.Clone(all), i, all[i]), api.ErrProof)
			w.proofIs(t, 3, append(slices.Clone(all), all[i]), api.ErrProof)
			if i > 0 {
				turned := slices.Clone(all)
				turned[i-1], turned[i] = turned[i], turned[i-1]
				w.proofIs(t, 3, turned, api.ErrProof)
				// Alike signers with unlike certificates.
				alike := slices.Clone(all)
				alike[i].Signer = i - 1
				w.quit(t, alike[i])
				w.timeoutIs(t, alike[i], api.OK)
				w.proofIs(t, 3, alike, api.ErrProof)
			}
			// One that is left out is none that doesn't rise.
			w.proofIs(t, 3, slices.Delete(slices.Clone(all), i, i+1), api.OK)
		}
		falling := slices.Clone(all)
		slices.Reverse(falling)
		w.proofIs(t, 3, falling, api.ErrProof)
		w.proofIs(t, 3, []api.Timeout{all[0], all[0]}, api.ErrProof)
		w.proofIs(t, 3, slices.Repeat(all[:1], 1<<16), api.ErrProof)
	}
}

func TestP13_3_ProofOfViewsThatDiffer(t *testing.T) {
	for f := 1; f <= 3; f++ {
		w := empty(t, f, 0)
		all := w.quitters(t, 3)
		for i := range all {
			for _, view := range []int{2, 4} {
				p := slices.Clone(all)
				p[i] = api.Timeout{Signer: i, View: view}
				w.quit(t, p[i])
				w.timeoutIs(t, p[i], api.OK)
				w.proofIs(t, 3, p, api.ErrProof)
				w.proofIs(t, view, p, api.ErrProof)
			}
		}
		w.proofIs(t, 3, all, api.OK)
	}
}

func TestP13_3_ProofWithAWrongTimeout(t *testing.T) {
	for f := 1; f <= 3; f++ {
		w := empty(t, f, 0)
		all := w.quitters(t, 3)
		few := certOf(1, api.Block{View: 3, Round: 7}, w.ring(1, 2*f))
		unsigned := certOf(1, api.Block{View: 3, Round: 7}, w.ring(0, 2*f+1))
		gone, unfit := unsigned, unsigned
		gone.Block, unfit.Round = 2, 8
		for i := range all {
			for _, x := range []struct {
				c    api.Cert
				want api.Errno
			}{{few, api.ErrFew}, {unsigned, api.ErrForged}, {gone, api.ErrBook}, {unfit, api.ErrCert}, {chained(2, 5, 1, 1), api.ErrProof}, {regular(4, 1), api.ErrProof}} {
				p, want := slices.Clone(all), x.want
				p[i].High = x.c
				if want != api.ErrProof && w.counts(i, signedOf(p[i])) != api.OK {
					w.proofIs(t, 3, p, api.ErrForged)
				}
				w.quit(t, p[i])
				w.proofIs(t, 3, p, want)
				// More than a quorum of right ones don't make up for it.
				w.proofIs(t, 3, p[:i+1], want)
			}
			p := slices.Clone(all)
			w.proofIs(t, 3, append(p, api.Timeout{Signer: 10, View: 3}), api.ErrProof)
			if f < 3 {
				w.proofIs(t, 3, append(p, api.Timeout{Signer: w.all(), View: 3}), api.ErrSigner)
			}
			w.proofIs(t, 3, append([]api.Timeout{{Signer: -1, View: 3}}, p...), api.ErrProof)
		}
	}
}

func TestP13_3_ProofOrder(t *testing.T) {
	for f := 1; f <= 3; f++ {
		w := empty(t, f, 0)
		all := w.quitters(t, 3)
		// The first two are wrong in two ways each, in turn: it is the first one's error that is told, ahead of that they are few.
		gone := api.Timeout{Signer: 0, View: 3, High: regular(3, 2)}
		w.quit(t, gone)
		forged := api.Timeout{Signer: 1, View: 3, High: regular(3, 2)}
		none := api.Timeout{Signer: 2, View: 3, High: regular(4, 2)}
		w.proofIs(t, 3, []api.Timeout{gone, forged, none}, api.ErrBook)
		w.proofIs(t, 3, []api.Timeout{gone}, api.ErrBook)
		w.proofIs(t, 3, []api.Timeout{forged, none}, api.ErrForged)
		w.proofIs(t, 3, []api.Timeout{all[0], forged, none}, api.ErrForged)
		w.proofIs(t, 3, []api.Timeout{all[0], all[1], none}, api.ErrProof)
		w.proofIs(t, 3, append(slices.Clone(all[:w.all()-1]), api.Timeout{Signer: w.all() - 1, View: 3, High: regular(3, 2)}), api.ErrForged)
		// That Views are others, or signers don't rise, is told ahead of all, wherever it is.
		last := all[len(all)-1]
		w.proofIs(t, 3, []api.Timeout{gone, forged, last, last}, api.ErrProof)
		other := last
		other.View = 4
		w.proofIs(t, 3, []api.Timeout{gone, forged, other}, api.ErrProof)
		w.proofIs(t, 4, []api.Timeout{gone, forged, other}, api.ErrProof)
		w.with(0).proofIs(t, 3, []api.Timeout{all[0], last, last}, api.ErrProof)
		w.with(0).proofIs(t, 2, all, api.ErrProof)
		w.with(0).proofIs(t, 3, []api.Timeout{none}, api.ErrProof)
	}
}

func TestP13_3_ProofWithoutRegisters(t *testing.T) {
	r := ran(t, 2, 0x41)
	for parts := range hasAll + 1 {
		w := r.with(parts)
		for _, p := range r.proofs {
			lacks := parts&hasSign == 0
			for _, x := range p {
				lacks = lacks || x.High.Kind != api.Genesis && parts&hasBook == 0 || x.High.Coin != 0 && parts&hasCoin == 0
			}
			w.proofIs(t, p[0].View, p, either(lacks, api.ErrNil, api.OK))
		}
		// How many are a quorum is asked of the register of shares, also where no timeout is.
		w.proofIs(t, 1, nil, either(parts&hasSign == 0, api.ErrNil, api.ErrFew))
	}
}

func TestP13_4_BlocksOfARun(t *testing.T) {
	for _, r := range runs(t) {
		heights := [4]int{}
		for i, b := range r.blocks {
			r.blockIs(t, b, r.numbers[i], api.OK)
			heights[b.Height]++
		}
		if heights[0] < 4 || min(heights[1], heights[2], heights[3]) < r.all() {
			t.Errorf("blocks of the Heights: %v", heights)
		}
	}
}

// TestP13_4_TheLongestBlock: with as many timeouts and Txs as may be, the last view, the last round, and the longest texts.
func TestP13_4_TheLongestBlock(t *testing.T) {
	w := empty(t, 3, 0)
	high := w.behind(t, api.Block{View: api.MaxView, Round: api.MaxRound - 1, Author: 9, Parent: regular(1, api.MaxRound-2)}, w.full())
	b := api.Block{View: api.MaxView, Round: api.MaxRound, Height: 1, Author: 9, Parent: high}
	for k := range api.MaxN {
		x := api.Timeout{Signer: k, View: api.MaxView, High: high}
		w.quit(t, x)
		b.Proof = append(b.Proof, x)
	}
	for range api.MaxTxs {
		b.Txs = append(b.Txs, api.Tx{Kind: api.TxPut, From: strings.Repeat("ω", 32), Key: strings.Repeat("é", 32), Val: strings.Repeat("\U0001F600", 32), Nonce: api.MaxInt})
	}
	n := w.propose(t, b)
	w.contentIs(t, n, b, api.OK)
	w.proofIs(t, api.MaxView, b.Proof, api.OK)
	w.blockIs(t, b, n, api.OK)
	w.certIs(t, w.behind(t, b, w.full()), api.OK)
	b.Proof[9].High = regular(1, 1)
	w.propose(t, b)
	w.blockIs(t, b, 0, api.ErrForged)
}

func TestP13_4_BlockThatIsntInTheBook(t *testing.T) {
	for _, r := range runs(t) {
		for i, b := range r.blocks {
			other := clone(b)
			other.Txs = nil
			// Its author signed it as the one that is there, and as the next one that comes.
			r.issue(t, proposalOf(r.numbers[i], other), 1<<b.Author)
			r.issue(t, proposalOf(len(r.contents)+1, other), 1<<b.Author)
			r.blockIs(t, other, 0, api.ErrBook)
			r.blockIs(t, other, 0, api.ErrBook)
		}
		for i, b := range r.blocks {
			b.Txs = nil
			if n := r.write(t, b); i == 0 {
				r.blockIs(t, b, n, api.OK)
			}
		}
	}
}

func TestP13_4_BlockOfTheLeader(t *testing.T) {
	for f := 1; f <= 3; f++ {
		w := empty(t, f, 0)
		for _, round := range []int{2, 3, 4, 5, 6, 7, 8, 9, 10, 11, 12, 1 << 20, api.MaxRound - 1, api.MaxRound} {
			base := api.Block{View: 2, Round: round - 1, Parent: regular(2, round-2)}
			if round == 2 {
				base.Parent = api.Cert{}
			}
			parent := w.behind(t, base, w.ring(round, 2*f+1))
			for author := range 10 {
				b := api.Block{View: 2, Round: round, Author: author, Parent: parent}
				n := w.propose(t, b)
				if author != round%(3*f+1) {
					w.blockIs(t, b, 0, api.ErrSigner)
				} else {
					w.blockIs(t, b, n, api.OK)
				}
			}
		}
	}
}

func TestP13_4_BlockOfTheFallbackByAnyone(t *testing.T) {
	for f := 1; f <= 3; f++ {
		w := empty(t, f, 0)
		all := w.quitters(t, 2)
		high := all[0].High
		for author := range 10 {
			parent := high
			for height := 1; height <= 3; height++ {
				b := api.Block{View: 2, Round: parent.Round + 1, Height: height, Author: author, Parent: parent}
				if height == 1 {
					b.Proof = all
				}
				n := w.propose(t, b)
				if author < w.all() {
					w.blockIs(t, b, n, api.OK)
				} else {
					w.blockIs(t, b, 0, api.ErrSigner)
				}
				parent = certOf(n, b, w.full())
				w.vote(t, parent)
			}
		}
	}
}

// eachHeight: a block of each Height, whose author and parents are right, but that nobody proposed yet; the author isn't bad.
func (w *world) eachHeight(t *testing.T) []api.Block {
	t.Helper()
	all := w.quitters(t, 2)
	high := all[0].High
	l := []api.Block{w.next(2, high), {View: 2, Round: 8, Height: 1, Author: 1, Parent: high, Proof: all[:w.quorum()]}}
	for height := 1; height <= 2; height++ {
		parent := chainBlock(2, 20, height, 1)
		if height == 1 {
			parent = api.Block{View: 2, Round: 8, Height: 1, Author: 1, Parent: high, Proof: all}
		}
		c := w.behind(t, parent, w.ring(height, w.quorum()))
		l = append(l, api.Block{View: 2, Round: c.Round + 1, Height: height + 1, Author: 1, Parent: c, Txs: []api.Tx{put(3)}})
	}
	return l
}

func TestP13_4_BlockOfSharesOfAnotherStatement(t *testing.T) {
	for f := 1; f <= 3; f++ {
		w := empty(t, f, 0)
		for height, b := range w.eachHeight(t) {
			if b.Height != height {
				t.Fatalf("%+v isn't of Height %d", b, height)
			}
			n := w.write(t, b)
			s := proposalOf(n, b)
			for _, other := range unlike(s) {
				w.issue(t, other, w.full())
			}
			w.issue(t, s, w.full()&^(1<<b.Author))
			w.issue(t, stmtOf(certOf(n, b, 0)), w.full())
			w.blockIs(t, b, 0, api.ErrForged)
			w.issue(t, s, 1<<b.Author)
			w.blockIs(t, b, n, api.OK)
		}
	}
}

func TestP13_4_BlockOfABadOne(t *testing.T) {
	for f := 1; f <= 3; f++ {
		for _, bad := range []uint32{0, 1, 2} {
			w := empty(t, f, bad)
			for _, b := range w.eachHeight(t) {
				n := w.write(t, b)
				if bad>>b.Author&1 == 1 {
					w.blockIs(t, b, n, api.OK)
				} else {
					w.blockIs(t, b, 0, api.ErrForged)
				}
			}
		}
	}
}

func TestP13_4_BlockOfAParentThatIsntValid(t *testing.T) {
	for f := 1; f <= 3; f++ {
		w := empty(t, f, 0)
		for _, b := range w.eachHeight(t) {
			for _, change := range []struct {
				want   api.Errno
				change func(c *api.Cert)
			}{
				{api.OK, func(*api.Cert) {}},
				{api.ErrBook, func(c *api.Cert) { c.Block = 999 }},
				{api.ErrBlock, func(c *api.Cert) { c.Block = w.enter(t, "no block") }},
				{api.ErrCert, func(c *api.Cert) { c.Block = c.Block%2 + 1 }},
				{api.ErrSigner, func(c *api.Cert) { c.Signers |= 1 << w.all() }},
				{api.ErrForged, func(c *api.Cert) { c.Signers = w.full() }},
				{api.ErrFew, func(c *api.Cert) { c.Signers &= c.Signers - 1 }},
			} {
				other := clone(b)
				change.change(&other.Parent)
				if f == 3 && change.want == api.ErrSigner {
					w.blockIs(t, other, 0, api.ErrParent)
					continue
				}
				if change.want == api.ErrCert {
					// Another one's block, which the certificate doesn't fit.
					other.Parent.Block = w.write(t, api.Block{View: 2, Round: 30, Parent: regular(2, 29)})
				}
				n := w.propose(t, other)
				if change.want != api.OK {
					n = 0
				}
				w.blockIs(t, other, n, change.want)
			}
		}
	}
}

func TestP13_4_BlockOfAnEndorsedParent(t *testing.T) {
	for f := 1; f <= 3; f++ {
		for height := 1; height <= 3; height++ {
			w := empty(t, f, 0)
			parent := w.fallen(t, 2, height, 2)
			parent.Coin = w.ring(3, f+1)
			b := w.next(5, parent)
			n := w.propose(t, b)
			w.blockIs(t, b, 0, api.ErrForged)
			w.toss(t, 2, w.full())
			w.blockIs(t, b, n, api.OK)
			if !w.law.Coin.Seen(2) {
				t.Error("the coin wasn't seen")
			}
			other := w.fallen(t, 2, height, 1)
			other.Coin = w.ring(3, f+1)
			b = w.next(3, other)
			w.propose(t, b)
			w.blockIs(t, b, 0, api.ErrCoin)
			few := parent
			few.Coin = w.ring(3, f)
			b = w.next(3, few)
			w.propose(t, b)
			w.blockIs(t, b, 0, api.ErrFew)
		}
	}
}

func TestP13_4_BlockOfAProofThatIsntValid(t *testing.T) {
	for f := 1; f <= 3; f++ {
		w := empty(t, f, 0)
		all := w.quitters(t, 2)
		high := all[0].High
		propose := func(p []api.Timeout, want api.Errno) {
			t.Helper()
			b := api.Block{View: 2, Round: 8, Height: 1, Author: 1, Parent: high, Proof: p}
			n := w.propose(t, b)
			if want != api.OK {
				n = 0
			}
			w.blockIs(t, b, n, want)
		}
		for count := 1; count <= w.all(); count++ {
			want := api.ErrFew
			if count > 2*f {
				want = api.OK
			}
			propose(all[:count], want)
			propose(all[w.all()-count:], want)
		}
		for i := range all {
			forged := slices.Clone(all)
			forged[i].High = regular(1, 1)
			propose(forged, api.ErrForged)
			w.quit(t, forged[i])
			propose(forged, api.ErrBook)
		}
		if f < 3 {
			propose(append(slices.Clone(all), api.Timeout{Signer: w.all(), View: 2}), api.ErrSigner)
			propose(append(slices.Clone(all[:1]), api.Timeout{Signer: w.all(), View: 2}), api.ErrSigner)
		}
		// Signers that don't rise, and Views that differ, make no block.
		for _, p := range [][]api.Timeout{nil, {all[1], all[0], all[2]}, {all[0], all[0], all[1]}, {{Signer: 0, View: 1}, all[1], all[2]}} {
			w.blockIs(t, api.Block{View: 2, Round: 8, Height: 1, Author: 1, Parent: high, Proof: p}, 0, api.ErrProof)
		}
	}
}

// ranked: valid certificates of which each is above the one before, or level with it.
func (w *world) ranked(t *testing.T) (l []api.Cert, level []int) {
	t.Helper()
	regular2 := func(view, round, author int) api.Cert {
		return w.behind(t, api.Block{View: view, Round: round, Author: author, Parent: regular(view, round-1)}, w.full())
	}
	endorsed := func(view, round, height int) api.Cert {
		c := w.behind(t, chainBlock(view, round, height, view%w.all()), w.full())
		w.toss(t, view, w.full())
		c.Coin = w.full()
		return c
	}
	l = []api.Cert{{}, regular2(1, 5, 0), regular2(1, 5, 1), regular2(1, 9, 0), endorsed(1, 3, 2), endorsed(1, 4, 3), endorsed(1, 4, 2), regular2(2, 2, 0), regular2(2, 2, 3), regular2(2, 30, 0)}
	return l, []int{0, 1, 1, 2, 3, 4, 4, 5, 5, 6}
}

func TestP13_4_BlockBelowTheHighest(t *testing.T) {
	for f := 1; f <= 3; f++ {
		w := empty(t, f, 0)
		l, level := w.ranked(t)
		for i, parent := range l {
			for j, high := range l {
				for at := range 3 {
					// The high one is the first, the last, or one between; the others know less.
					var p []api.Timeout
					for k := range w.quorum() {
						x := api.Timeout{Signer: k, View: 2}
						if k == at*f {
							x.High = high
						}
						w.quit(t, x)
						p = append(p, x)
					}
					b := api.Block{View: 2, Round: parent.Round + 1, Height: 1, Author: 0, Parent: parent, Proof: p}
					n := w.propose(t, b)
					if level[i] < level[j] {
						w.blockIs(t, b, 0, api.ErrRank)
					} else {
						w.blockIs(t, b, n, api.OK)
					}
				}
			}
		}
	}
}

func TestP13_4_BlockOfARankThatNobodyAsks(t *testing.T) {
	w := empty(t, 1, 0)
	l, _ := w.ranked(t)
	// On the fast path a Parent may be as low as it wants: who votes for it asks that.
	for _, parent := range l {
		b := w.next(2, parent)
		w.blockIs(t, b, w.propose(t, b), api.OK)
	}
}

func TestP13_4_BlockOrder(t *testing.T) {
	const (
		form = 1 << iota
		nilBook
		notThere
		nilSign
		strange
		forged
		parentForged
		nilCoin
		parentOther
		timeoutForged
		timeoutHigh
		few
		rank
		beyond
	)
	told := []api.Errno{api.ErrParent, api.ErrNil, api.ErrBook, api.ErrNil, api.ErrSigner, api.ErrForged, api.ErrForged, api.ErrNil, api.ErrCoin, api.ErrForged, api.ErrBook, api.ErrFew, api.ErrRank}
	for f := 1; f <= 2; f++ {
		for _, faults := range upTo(beyond, 3) {
			w := empty(t, f, 0)
			has := func(fault int) bool { return faults&fault != 0 }
			parent := w.behind(t, chainBlock(2, 8, 3, 2), w.ring(1, w.quorum()))
			w.toss(t, 2, w.full())
			parent.Coin = w.ring(0, f+1)
			if has(parentForged) {
				parent.Signers = w.full()
			}
			if has(parentOther) {
				w.choose(t, 2, 3)
			}
			high := w.behind(t, api.Block{View: 3, Round: 30, Parent: regular(3, 29)}, w.full())
			var p []api.Timeout
			for k := range w.quorum() {
				x := api.Timeout{Signer: k, View: 3}
				switch {
				case k == 0 && has(rank):
					x.High = high
				case k == 1 && has(timeoutHigh):
					x.High = regular(1, 3)
					x.High.Block = 99
				}
				if k > 0 || !has(timeoutForged) {
					w.quit(t, x)
				}
				p = append(p, x)
			}
			if has(few) {
				p = p[:w.quorum()-1]
			}
			b := api.Block{View: 3, Round: 9, Height: 1, Author: 1, Parent: parent, Proof: p}
			if has(strange) {
				b.Author = w.all()
			}
			if !has(notThere) {
				n := w.write(t, b)
				if !has(forged) {
					w.issue(t, proposalOf(n, b), 1<<b.Author)
				}
			}
			if has(form) {
				b.Round++
			}
			parts := hasAll
			for fault, part := range map[int]int{nilBook: hasBook, nilSign: hasSign, nilCoin: hasCoin} {
				if has(fault) {
					parts &^= part
				}
			}
			want, n := toldOf(told, faults), len(w.contents)
			if want != api.OK {
				n = 0
			}
			w.with(parts).blockIs(t, b, n, want)
		}
	}
}

func TestP13_4_BlockOrderOnTheFastPath(t *testing.T) {
	for f := 1; f <= 3; f++ {
		for faults := range 1 << 5 {
			has := func(k int) bool { return faults>>k&1 == 1 }
			w := empty(t, f, 0)
			parent := w.behind(t, api.Block{View: 2, Round: 7, Parent: regular(2, 6)}, w.ring(1, w.quorum()))
			if has(4) {
				parent.Signers = w.full()
			}
			b := w.next(2, parent)
			if has(2) {
				b.Author = (b.Author + 1) % w.all()
			}
			if !has(1) {
				n := w.write(t, b)
				if !has(3) {
					w.issue(t, proposalOf(n, b), 1<<b.Author)
				}
			}
			if has(0) {
				b.Height = 2
			}
			want, n := toldOf([]api.Errno{api.ErrParent, api.ErrBook, api.ErrSigner, api.ErrForged, api.ErrForged}, faults), len(w.contents)
			if want != api.OK {
				n = 0
			}
			w.blockIs(t, b, n, want)
		}
	}
}

func TestP13_4_BlockWithoutRegisters(t *testing.T) {
	for _, r := range []*run{ran(t, 1, 8), ranToTheEnd(t, 2, 0x21)} {
		for parts := range hasAll + 1 {
			w := r.with(parts)
			for i, b := range r.blocks {
				lacks := parts&(hasBook|hasSign) != hasBook|hasSign || b.Parent.Coin != 0 && parts&hasCoin == 0
				for _, x := range b.Proof {
					lacks = lacks || x.High.Coin != 0 && parts&hasCoin == 0
				}
				if lacks {
					w.blockIs(t, b, 0, api.ErrNil)
				} else {
					w.blockIs(t, b, r.numbers[i], api.OK)
				}
			}
		}
	}
	// Who is a replica, and who leads, is asked of the register of shares: without it not even a wrong author is told.
	w := empty(t, 1, 0)
	for _, b := range []api.Block{{View: 1, Round: 1, Author: 1}, {View: 1, Round: 1, Author: 2}, {View: 1, Round: 1, Author: 9}} {
		w.propose(t, b)
		w.with(hasBook|hasCoin).blockIs(t, b, 0, api.ErrNil)
		w.with(hasSign|hasCoin).blockIs(t, b, 0, api.ErrNil)
	}
	w.blockIs(t, api.Block{View: 1, Round: 1, Author: 1}, 1, api.OK)
	w.with(hasBook|hasSign).blockIs(t, api.Block{View: 1, Round: 1, Author: 1}, 1, api.OK)
}

// register: of an F, in which all good ones have issued what they are told.
func register(t *testing.T, f int, bad uint32, votes map[api.Stmt]uint32) *sign.Sign {
	t.Helper()
	s, e := sign.New(f, bad)
	if e != api.OK {
		t.Fatalf("New: %d", e)
	}
	for stmt, set := range votes {
		for _, k := range members(set &^ bad) {
			if e := s.Issue(api.Share{Signer: k, Stmt: stmt}); e != api.OK {
				t.Fatalf("Issue: %d", e)
			}
		}
	}
	return s
}

// certain: is there a set of signers with which a certificate is valid? All such sets must have the shares of F + 1 who aren't bad, which were issued.
func certain(t *testing.T, l valid.Law, c api.Cert, issued uint32) []uint32 {
	t.Helper()
	f, bad := l.Sign.F(), l.Sign.Bad()
	var sets []uint32
	for c.Signers = 1; c.Signers < 1<<(3*f+1); c.Signers++ {
		if l.Cert(c) != api.OK {
			continue
		}
		sets = append(sets, c.Signers)
		if size(c.Signers&issued&^bad) < f+1 {
			t.Errorf("F %d, bad %#x, issued %#x: %+v is valid", f, bad, issued, c)
		}
	}
	return sets
}

// rivals: two blocks of one place.
func rivals() [][2]api.Block {
	regular, chain := api.Block{View: 2, Round: 7, Parent: regular(2, 6)}, chainBlock(2, 7, 2, 1)
	other, second := regular, chain
	other.Txs, second.Txs = []api.Tx{move(1)}, []api.Tx{move(1)}
	// On the fast path rivals may be of two authors, too.
	third := regular
	third.Author = 2
	return [][2]api.Block{{regular, other}, {chain, second}, {regular, third}}
}

// together: of two rivals that these sets signed, is one who isn't bad behind both, wherever both are valid?
func together(t *testing.T, f int, bad uint32, pair [2]api.Block, first, second uint32) int {
	t.Helper()
	w := empty(t, f, bad)
	a, b := w.write(t, pair[0]), w.write(t, pair[1])
	c, d := certOf(a, pair[0], 0), certOf(b, pair[1], 0)
	w.law.Sign = register(t, f, bad, map[api.Stmt]uint32{stmtOf(c): first, stmtOf(d): second})
	both := 0
	seconds := certain(t, w.law, d, second)
	for _, x := range certain(t, w.law, c, first) {
		for _, y := range seconds {
			both++
			if x&y&first&second&^bad == 0 {
				t.Fatalf("F %d, bad %#x: %#x signed one, %#x the other, of %#x and %#x", f, bad, x, y, first, second)
			}
		}
	}
	return both
}

func TestP13_5_TwoOfOnePlace(t *testing.T) {
	both := 0
	for _, pair := range rivals() {
		for _, bad := range []uint32{0, 1, 2, 8} {
			for first := range uint32(16) {
				for second := range uint32(16) {
					both += together(t, 1, bad, pair, first, second)
				}
			}
		}
	}
	if both < 100 {
		t.Errorf("only %d pairs are both valid", both)
	}
}

func TestP13_5_TwoOfOnePlaceOfMore(t *testing.T) {
	both := 0
	d := drawn(5)
	for _, pair := range rivals() {
		for f := 2; f <= 3; f++ {
			for range 12 {
				bad := uint32(0)
				for size(bad) < f && !d.odd(4) {
					bad |= 1 << d.below(3*f+1)
				}
				// Of the ones who aren't bad most sign one alone.
				first := uint32(d.below(1 << (3*f + 1)))
				second := ^first & (1<<(3*f+1) - 1)
				for d.odd(2) {
					first |= 1 << d.below(3*f+1)
					second |= 1 << d.below(3*f+1)
				}
				both += together(t, f, bad, pair, first, second)
			}
			both += together(t, f, 1, pair, 1<<(3*f+1)-1, 1<<(2*f+1)-1)
		}
	}
	if both < 100 {
		t.Errorf("only %d pairs are both valid", both)
	}
}

// things: what can be valid or not.
type things struct {
	certs    []api.Cert
	timeouts []api.Timeout
	proofs   [][]api.Timeout
	blocks   []api.Block
}

// valid: which of them are; of blocks the number.
func (x things) valid(l valid.Law) []int {
	var is []int
	put := func(e api.Errno, n int) {
		if e != api.OK {
			n = -1
		}
		is = append(is, n)
	}
	for _, c := range x.certs {
		put(l.Cert(c), 0)
	}
	for _, one := range x.timeouts {
		put(l.Timeout(one), 0)
	}
	for _, p := range x.proofs {
		put(l.Proof(p[0].View, p), 0)
	}
	for _, b := range x.blocks {
		n, e := l.Block(b)
		put(e, n)
	}
	return is
}

// grown: the registers of a run, made anew, step by step; behind each the things are asked for, and what was valid must stay so.
func grown(t *testing.T, r *run, x things, seed uint64) (first, last int) {
	t.Helper()
	w := empty(t, r.f, r.bad)
	d := drawn(seed)
	shares := r.law.Sign.Shares()
	contents := r.contents
	was := x.valid(w.law)
	for _, n := range was {
		if n >= 0 {
			first++
		}
	}
	for len(shares)+len(contents) > 0 {
		for range 1 + d.below(20) {
			if n := d.below(len(shares) + len(contents) + 1); n < len(contents) {
				w.enter(t, contents[0])
				contents = contents[1:]
			} else if len(shares) > 0 {
				w.issue(t, shares[0].Stmt, 1<<shares[0].Signer)
				shares = shares[1:]
			}
		}
		// Whom a coin elects can be chosen till somebody saw it.
		w.law.Coin.Choose(1+d.below(4), d.below(r.all()))
		is := x.valid(w.law)
		for i, n := range was {
			if n >= 0 && is[i] != n {
				t.Fatalf("what was valid, and %d, is %d: the %d-th", n, is[i], i)
			}
			if is[i] >= 0 && n < 0 {
				first++
			}
		}
		was = is
	}
	for _, n := range was {
		if n >= 0 {
			last++
		}
	}
	return first, last
}

func TestP13_5_WhatIsValidStaysSo(t *testing.T) {
	for i, r := range []*run{ran(t, 1, 0), ran(t, 1, 4), ran(t, 2, 0x11), ranToTheEnd(t, 3, 0x49)} {
		x := things{certs: slices.Clone(r.certs), timeouts: r.timeouts, proofs: r.proofs, blocks: r.blocks}
		// Also those that a coin endorses if it elects another one.
		for _, c := range r.certs {
			if c.Kind == api.Fallback {
				c.Coin = r.ring(0, r.f+1)
				x.certs = append(x.certs, c)
			}
		}
		first, last := grown(t, r, x, uint64(i))
		if first != last || last < len(r.certs)/2 {
			t.Errorf("%d came to be valid, %d are at last, of %d", first, last, len(x.certs)+len(x.timeouts)+len(x.proofs)+len(x.blocks))
		}
	}
}

// What was found to be endorsed can't be taken back by choosing another one.
func TestP13_5_ACoinThatWasAskedStays(t *testing.T) {
	for f := 1; f <= 3; f++ {
		w := empty(t, f, 0)
		c, other := w.fallen(t, 2, 3, 2), w.fallen(t, 2, 3, 1)
		c.Coin, other.Coin = w.ring(0, f+1), w.ring(0, f+1)
		w.toss(t, 2, w.full())
		w.certIs(t, c, api.OK)
		if e := w.law.Coin.Choose(2, 1); e != api.ErrThere {
			t.Errorf("Choose: %d", e)
		}
		w.certIs(t, c, api.OK)
		w.certIs(t, other, api.ErrCoin)
	}
}

// TestR1_OfAnything: numbers at their ends in each place, and registers that are nil.
func TestR1_OfAnything(t *testing.T) {
	r := ran(t, 1, 8)
	for parts := range hasAll + 1 {
		w := r.with(parts)
		for _, n := range append(ends(), 0, 1, 2, 3, 4, 9, 10) {
			c := api.Cert{Kind: n, Block: n, View: n, Round: n, Height: n, Author: n, Signers: uint32(n), Coin: uint32(n)}
			for _, c.Kind = range []int{n, 0, 1, 2, 3} {
				w.certIs(t, c, w.cert(c))
				x := api.Timeout{Signer: n, View: n, High: c}
				w.timeoutIs(t, x, w.timeout(x))
				w.proofIs(t, n, []api.Timeout{x, x}, w.proof(n, []api.Timeout{x, x}))
				highestIs(t, []api.Timeout{x, {}, x}, highest([]api.Timeout{x, {}, x}))
				for height := -1; height <= 4; height++ {
					b := api.Block{View: n, Round: n, Height: height, Author: n, Parent: c, Proof: []api.Timeout{x}, Txs: make([]api.Tx, 3)}
					_, e := w.number(b)
					w.numberIs(t, b, 0, e)
					w.blockIs(t, b, 0, e)
				}
			}
		}
	}
	long := make([]api.Timeout, 1<<18)
	for i := range long {
		long[i] = api.Timeout{Signer: i, View: 1}
	}
	if e := r.law.Proof(1, long); e == api.OK || valid.Highest(long) != (api.Cert{}) {
		t.Errorf("Proof of many: %d", e)
	}
	if n, e := r.law.Block(api.Block{View: 1, Round: 1, Height: 1, Proof: long}); n != 0 || e != api.ErrProof {
		t.Errorf("Block of many: %d, %d", n, e)
	}
	if n, e := r.law.Block(api.Block{View: 1, Round: 1, Txs: make([]api.Tx, 1<<18)}); n != 0 || e != api.ErrBlock {
		t.Errorf("Block of many: %d, %d", n, e)
	}
}

// TestR4_ContentIsTheCallers: what is done with a block that was told changes neither the book nor another one that was told.
func TestR4_ContentIsTheCallers(t *testing.T) {
	r := ran(t, 1, 0)
	for i, n := range r.numbers {
		b, e := r.law.Content(n)
		other, e2 := r.law.Content(n)
		if e != api.OK || e2 != api.OK {
			t.Fatalf("Content(%d): %d, %d", n, e, e2)
		}
		for k := range b.Proof {
			b.Proof[k] = api.Timeout{Signer: -1}
		}
		for k := range b.Txs {
			b.Txs[k] = api.Tx{Kind: -1}
		}
		b.Txs, b.Proof = append(b.Txs, api.Tx{}), append(b.Proof, api.Timeout{})
		if !block.Same(other, r.blocks[i]) {
			t.Errorf("Content(%d) lies in another one", n)
		}
		r.contentIs(t, n, r.blocks[i], api.OK)
		r.blockIs(t, r.blocks[i], n, api.OK)
	}
}

// TestR4_WhatIsHandedInIsntKept: what is done with it later changes nothing, and room behind its end stays as it is.
func TestR4_WhatIsHandedInIsntKept(t *testing.T) {
	r := ran(t, 2, 0)
	for i, b := range r.blocks {
		handed := clone(b)
		handed.Proof = append(append(make([]api.Timeout, 0, len(b.Proof)+2), b.Proof...), api.Timeout{Signer: -7})[:len(b.Proof)]
		handed.Txs = append(append(make([]api.Tx, 0, len(b.Txs)+2), b.Txs...), api.Tx{Kind: -7})[:len(b.Txs)]
		r.numberIs(t, handed, r.numbers[i], api.OK)
		r.blockIs(t, handed, r.numbers[i], api.OK)
		if len(b.Proof) > 0 {
			r.proofIs(t, b.View, handed.Proof, api.OK)
			highestIs(t, handed.Proof, highest(b.Proof))
		}
		if handed.Proof[:len(b.Proof)+1][len(b.Proof)].Signer != -7 || handed.Txs[:len(b.Txs)+1][len(b.Txs)].Kind != -7 {
			t.Errorf("room behind the lists of %+v was written to", b)
		}
		for k := range handed.Proof {
			handed.Proof[k] = api.Timeout{}
		}
		for k := range handed.Txs {
			handed.Txs[k] = api.Tx{}
		}
		r.contentIs(t, r.numbers[i], b, api.OK)
		r.blockIs(t, b, r.numbers[i], api.OK)
	}
}

// TestR6_NothingIsKept: a Law is its registers, whoever holds it, and what they have now.
func TestR6_NothingIsKept(t *testing.T) {
	w := empty(t, 1, 0)
	one, other := w.law, w.law
	b := w.next(1, api.Cert{})
	if n, e := one.Block(b); n != 0 || e != api.ErrBook {
		t.Errorf("Block: %d, %d", n, e)
	}
	n := w.write(t, b)
	for _, l := range []valid.Law{one, other, w.law} {
		if k, e := l.Block(b); k != 0 || e != api.ErrForged {
			t.Errorf("Block: %d, %d", k, e)
		}
	}
	w.propose(t, b)
	for _, l := range []valid.Law{one, other, w.law} {
		if k, e := l.Block(b); k != n || e != api.OK {
			t.Errorf("Block: %d, %d", k, e)
		}
	}
	// Other registers know nothing of it.
	if k, e := empty(t, 1, 0).law.Block(b); k != 0 || e != api.ErrBook {
		t.Errorf("Block: %d, %d", k, e)
	}
}

// TestP13_ByASecondReckoning: what runs have, with things changed, held against a second reckoning.
func TestP13_ByASecondReckoning(t *testing.T) {
	told := map[api.Errno]int{}
	for i, r := range runs(t) {
		d := drawn(uint64(i) + 100)
		r.enter(t, "no block")
		for range 800 {
			c, x, p, b := d.cert(t, r), d.timeout(t, r), d.proof(t, r), d.block(t, r)
			w := r.world
			if d.odd(10) {
				w = w.with(d.below(hasAll))
			}
			e := w.cert(c)
			w.certIs(t, c, e)
			told[e]++
			e = w.timeout(x)
			w.timeoutIs(t, x, e)
			told[e]++
			e = w.proof(p[0].View, p)
			w.proofIs(t, p[0].View, p, e)
			told[e]++
			highestIs(t, p, highest(p))
			n, e := w.number(b)
			w.numberIs(t, b, n, e)
			n, e = w.block(b)
			w.blockIs(t, b, n, e)
			told[e]++
		}
	}
	for _, e := range []api.Errno{api.OK, api.ErrNil, api.ErrSigner, api.ErrBook, api.ErrForged, api.ErrFew, api.ErrCoin, api.ErrCert, api.ErrBlock, api.ErrProof, api.ErrParent, api.ErrRank} {
		if told[e] < 20 {
			t.Errorf("error %d was told %d times", e, told[e])
		}
	}
}
