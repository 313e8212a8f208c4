package safe_test

import (
	"math"
	"slices"
	"strings"
	"sync"
	"testing"
	"unsafe"

	"hallmoot/api"
	"hallmoot/block"
	"hallmoot/cert"
	"hallmoot/safe"
)

const (
	ok      = api.OK
	arg     = api.ErrArg
	there   = api.ErrThere
	noCert  = api.ErrCert
	none    = api.ErrBlock
	old     = api.ErrOld
	notSafe = api.ErrSafe
	view    = api.ErrView
	round   = api.ErrRound
	low     = api.ErrRank
	mod     = api.ErrMode
	height  = api.ErrHeight
	halt    = api.ErrHalt
)

// fresh: the state of view 1.
func fresh(t *testing.T, last int) safe.Safe {
	t.Helper()
	s, e := safe.New(last)
	if e != ok {
		t.Fatalf("New(%d): error %d", last, e)
	}
	return s
}

// do: does Do tell this error, beside it nothing, and leave the state as it is? The new state; with an error the one ahead.
func do(t *testing.T, s safe.Safe, r safe.Rec, want api.Errno) safe.Safe {
	t.Helper()
	ahead := copied(s)
	n, e := s.Do(r)
	if e != want || e != ok && !same(n, safe.Safe{}) {
		t.Errorf("Do(%+v) of %+v: %+v, error %d, not %d", r, ahead, n, e, want)
	}
	if !same(s, ahead) {
		t.Errorf("Do(%+v) of %+v: it is %+v now", r, ahead, s)
	}
	if e != ok {
		return s
	}
	return n
}

// all: the state behind records that all may be done.
func all(t *testing.T, s safe.Safe, l ...safe.Rec) safe.Safe {
	t.Helper()
	for _, r := range l {
		s = do(t, s, r, ok)
	}
	return s
}

// turns: does a record turn a state into one that is changed so, and in nothing else?
func turns(t *testing.T, s safe.Safe, r safe.Rec, change func(s *safe.Safe)) safe.Safe {
	t.Helper()
	want := copied(s)
	change(&want)
	n := do(t, s, r, ok)
	if !same(n, want) {
		t.Errorf("Do(%+v) of %+v: %+v, not %+v", r, s, n, want)
	}
	return n
}

// toFull: records of two views, behind which a state has all that it may have, of view 3.
func toFull() []safe.Rec {
	return []safe.Rec{
		aKeep(text(1, 1, 0, 0)), aVote(1, 1, 1, api.Cert{}), aVote(2, 1, 2, regular(1, 1, 1)), aCommit(1, 1), anExit(5, 0), aKeep(text(2, 3, 0, 1)), a(3), anExit(1023, 9),
		anOwn(text(3, 4, 0, 1)), aVote(8, 3, 4, regular(7, 2, 3)), a(2), aHigh(endorsed(6, 2, 5, 2, 3)), aCommit(4, 7), a(3),
		anOwn(text(3, 6, 1, 1)), aFall(20, 3, 7, 2, 1, chained(19, 3, 6, 1, 1)), anOwn(text(3, 7, 2, 1)), aFall(30, 3, 8, 3, 4, chained(29, 3, 7, 2, 4)),
		aFall(40, 3, 6, 1, 0, endorsed(6, 2, 5, 2, 3)), anOwn(text(3, 8, 3, 1)), a(6), aKeep(text(3, 6, 1, 1)),
	}
}

// full: the state behind these.
func full(t *testing.T) safe.Safe {
	t.Helper()
	return all(t, fresh(t, 5), toFull()...)
}

// fullByHand: that state, written out.
func fullByHand() safe.Safe {
	return safe.Safe{
		Last: 5, View: 3, Mode: 2, Round: 4, Block: 8,
		High: endorsed(6, 2, 5, 2, 3), GaveHigh: regular(7, 2, 3),
		Falls:  []api.Cert{signed(chained(40, 3, 6, 1, 0), 0), signed(chained(20, 3, 7, 2, 1), 0), signed(chained(30, 3, 8, 3, 4), 0)},
		Heads:  []api.Cert{chained(19, 3, 6, 1, 1), chained(29, 3, 7, 2, 4)},
		Shared: true, Own: [4]string{text(3, 4, 0, 1), text(3, 6, 1, 1), text(3, 7, 2, 1), text(3, 8, 3, 1)},
		Past: []uint32{5, 1023}, Count: 4, Tip: 7, Blocks: []string{text(1, 1, 0, 0), text(2, 3, 0, 1), text(3, 6, 1, 1)},
	}
}

// inMode: a state of view 2 of 3, of a mode; what it voted for, and High, are those that are handed in.
func inMode(t *testing.T, mode int, l ...safe.Rec) safe.Safe {
	t.Helper()
	s := all(t, fresh(t, 3), anExit(3, 0))
	s = all(t, s, l...)
	return all(t, s, [][]safe.Rec{nil, {a(2)}, {a(3)}}[mode]...)
}

// rights: records of each kind that may be some.
func rights() []safe.Rec {
	return []safe.Rec{
		aVote(1, 1, 1, api.Cert{}), aVote(300, 2, 5, regular(7, 1, 4)), aVote(1<<31-1, api.MaxView, api.MaxRound, endorsed(9, 4, api.MaxRound-1, 3, 9)), aVote(2, 9, 3, chained(5, 9, 2, 3, 0)),
		{Kind: 1, Cert: signed(regular(1, 1, 1), 1023), Parent: regular(1<<31-1, api.MaxView, api.MaxRound)},
		a(2), a(3), aFall(1, 1, 1, 1, 0, api.Cert{}), aFall(300, 2, 5, 2, 9, chained(7, 2, 4, 1, 9)), aFall(1<<31-1, api.MaxView, api.MaxRound, 3, 9, endorsed(5, 2, 2, 1, 0)), aFall(6, 3, 3, 1, 4, regular(5, 3, 2)),
		aHigh(regular(1, 1, 1)), aHigh(endorsed(300, 2, 5, 3, 9)), aHigh(coined(signed(chained(1<<31-1, api.MaxView, api.MaxRound, 1, 0), 1023), 1023)), a(6),
		anExit(1, 0), anExit(1023, 9), anExit(300, 3), aCommit(1, 1), aCommit(300, 200), aCommit(1<<31-1, 1<<31-1), aCommit(1, 1<<31-1), aCommit(1<<31-1, 1),
		anOwn(text(1, 1, 0, 0)), anOwn(text(300, 128, 1, 9)), anOwn(text(api.MaxView, 7, 2, 4)), anOwn(longText(5)), anOwn(text(4, 9, 3, 4)),
		aKeep(text(1, 1, 0, 0)), aKeep(text(300, 128, 1, 9)), aKeep(text(api.MaxView, 7, 2, 4)), aKeep(longText(5)), aKeep(text(4, 9, 3, 4)),
	}
}

// refused: do Do, in each of some states, and Bytes tell this of a record, and wrong, too?
func refused(t *testing.T, r safe.Rec, want api.Errno) {
	t.Helper()
	if e := wrong(r); e != want {
		t.Errorf("%+v: error %d by the second reckoning, not %d", r, e, want)
	}
	if b, e := safe.Bytes(r); e != want || len(b) > 0 {
		t.Errorf("Bytes(%+v): % x, error %d, not %d", r, b, e, want)
	}
	for _, s := range []safe.Safe{fresh(t, 1), full(t)} {
		do(t, s, r, want)
	}
}

// TestP19_1_New: of a Last from 1 to MaxView the state of view 1, all else zero; of no other.
func TestP19_1_New(t *testing.T) {
	for _, last := range []int{1, 2, 3, 127, 128, 1<<20 - 1, 1 << 20} {
		if s, e := safe.New(last); e != ok || !same(s, safe.Safe{Last: last, View: 1}) {
			t.Errorf("New(%d): %+v, error %d", last, s, e)
		}
	}
	for _, last := range append(ends(), 0, 1<<20+1, 1<<20+2, 1<<21, 1<<30) {
		if s, e := safe.New(last); e != arg || !same(s, safe.Safe{}) {
			t.Errorf("New(%d): %+v, error %d", last, s, e)
		}
	}
}

// TestP19_Example: that of the chapter.
func TestP19_Example(t *testing.T) {
	s := do(t, fresh(t, 1), aVote(1, 1, 1, api.Cert{}), ok)
	do(t, s, aVote(2, 1, 1, api.Cert{}), round)
}

// TestP19_1_Full: all that a state has, behind a long row.
func TestP19_1_Full(t *testing.T) {
	if s := full(t); !same(s, fullByHand()) {
		t.Errorf("%+v, not %+v", s, fullByHand())
	}
}

// TestP19_1_NoKinds: ErrSafe, whatever else the record has.
func TestP19_1_NoKinds(t *testing.T) {
	for _, kind := range append(ends(), 0, 11, 12, 13, 127, 128, 255, 256, 257, 258, 266) {
		refused(t, a(kind), notSafe)
		for _, r := range rights() {
			r.Kind = kind
			refused(t, r, notSafe)
		}
	}
}

// strange: records with each thing that their kind doesn't name, as small as may be, and greater.
func strange(r safe.Rec) []safe.Rec {
	var l []safe.Rec
	add := func(name rune, change func(r *safe.Rec)) {
		if !strings.ContainsRune(names(r.Kind), name) {
			x := r
			change(&x)
			l = append(l, x)
		}
	}
	for _, c := range []api.Cert{regular(1, 1, 1), endorsed(2, 1, 2, 1, 0), {Kind: 3}, {Kind: -1}, {Block: 1}, {View: 1}, {Round: -1}, {Height: 1}, {Author: 1}, {Signers: 1}, {Coin: 1 << 31}} {
		add('C', func(r *safe.Rec) { r.Cert = c })
		add('P', func(r *safe.Rec) { r.Parent = c })
	}
	for _, n := range append(ends(), 1, 2, 9) {
		add('A', func(r *safe.Rec) { r.Author = n })
		add('N', func(r *safe.Rec) { r.Count = n })
		add('B', func(r *safe.Rec) { r.Block = n })
	}
	for k := range 32 {
		add('S', func(r *safe.Rec) { r.Set = 1 << k })
	}
	for _, s := range []string{"\x00", "a", text(1, 1, 0, 0)} {
		add('T', func(r *safe.Rec) { r.Text = s })
	}
	return l
}

// TestP19_1_WhatAKindDoesNotName: ErrSafe, if it isn't zero; ahead of all else that is wrong.
func TestP19_1_WhatAKindDoesNotName(t *testing.T) {
	for _, r := range rights() {
		for _, x := range strange(r) {
			refused(t, x, notSafe)
			for _, name := range names(r.Kind) {
				// What is named is wrong, too: zero (a wrong one, but of Author and Parent).
				refused(t, without(x, name), notSafe)
			}
		}
	}
}

// noCerts: what is no certificate.
func noCerts() []api.Cert {
	l := []api.Cert{{Kind: 3}, {Kind: -1}, {Kind: 1<<32 + 1}, {Block: 1}, {View: 2}, {Signers: 1}}
	for _, c := range []api.Cert{regular(5, 1, 2), chained(5, 1, 2, 1, 3), endorsed(5, 1, 2, 1, 3)} {
		for _, change := range []func(c *api.Cert){
			func(c *api.Cert) { c.Block = 0 }, func(c *api.Cert) { c.Block = 1 << 31 }, func(c *api.Cert) { c.View = 0 }, func(c *api.Cert) { c.View = 1<<20 + 1 }, func(c *api.Cert) { c.Round = 0 },
			func(c *api.Cert) { c.Round = 1<<30 + 1 }, func(c *api.Cert) { c.Height = 4 }, func(c *api.Cert) { c.Height = -1 }, func(c *api.Cert) { c.Author = 10 }, func(c *api.Cert) { c.Author = -1 },
			func(c *api.Cert) { c.Signers = 0 }, func(c *api.Cert) { c.Signers = 1 << 10 }, func(c *api.Cert) { c.Coin = 1 << 10 }, func(c *api.Cert) { c.Kind = 0 }, func(c *api.Cert) { c.Kind = 4 },
		} {
			x := c
			change(&x)
			l = append(l, x)
		}
	}
	return append(l, coined(regular(5, 1, 2), 1), api.Cert{Kind: 1}, api.Cert{Kind: 2})
}

// TestP19_1_Certs: of the kind told, and right, of any signers; else ErrCert.
func TestP19_1_Certs(t *testing.T) {
	for _, c := range noCerts() {
		if cert.Check(c) == ok {
			t.Fatalf("%+v is one", c)
		}
		refused(t, safe.Rec{Kind: 1, Cert: c}, noCert)
		refused(t, safe.Rec{Kind: 4, Cert: c}, noCert)
		refused(t, safe.Rec{Kind: 5, Cert: c}, noCert)
		refused(t, safe.Rec{Kind: 1, Cert: regular(1, 1, 1), Parent: c}, noCert)
		refused(t, safe.Rec{Kind: 4, Cert: chained(1, 1, 1, 1, 0), Parent: c}, noCert)
	}
	for _, c := range []api.Cert{{}, chained(5, 1, 2, 1, 3), endorsed(5, 1, 2, 1, 3)} {
		refused(t, safe.Rec{Kind: 1, Cert: c}, noCert)
	}
	for _, c := range []api.Cert{{}, regular(5, 1, 2), endorsed(5, 1, 2, 1, 3)} {
		refused(t, safe.Rec{Kind: 4, Cert: c}, noCert)
	}
	for _, c := range []api.Cert{{}, chained(5, 1, 2, 1, 3)} {
		refused(t, aHigh(c), noCert)
	}
	for _, r := range rights() {
		if _, e := safe.Bytes(r); e != ok || wrong(r) != ok {
			t.Errorf("Bytes(%+v): error %d", r, e)
		}
	}
}

// TestP19_1_CertsOfAllSigners: one or more of those that there may be.
func TestP19_1_CertsOfAllSigners(t *testing.T) {
	for _, set := range []uint32{1, 2, 1 << 9, 3, 7, 1022, 1023} {
		turns(t, fresh(t, 1), safe.Rec{Kind: 1, Cert: signed(regular(6, 1, 1), set)}, func(s *safe.Safe) { s.Round, s.Block = 1, 6 })
		turns(t, all(t, fresh(t, 1), a(3)), safe.Rec{Kind: 4, Cert: signed(chained(6, 1, 1, 1, 0), set)}, func(s *safe.Safe) { s.Falls = []api.Cert{signed(chained(6, 1, 1, 1, 0), 0)} })
		turns(t, fresh(t, 1), aHigh(signed(regular(6, 1, 1), set)), func(s *safe.Safe) { s.High = signed(regular(6, 1, 1), set) })
		turns(t, fresh(t, 1), aHigh(coined(chained(6, 1, 1, 3, 0), set)), func(s *safe.Safe) { s.High = coined(chained(6, 1, 1, 3, 0), set) })
	}
}

// TestP19_1_ExitsNumbers: ErrArg of a Set that is none, and of an Author that is nobody.
func TestP19_1_ExitsNumbers(t *testing.T) {
	for author := range 10 {
		for k := range 10 {
			turns(t, fresh(t, 2), anExit(1<<k, author), func(s *safe.Safe) { s.View, s.Past = 2, []uint32{1 << k} })
		}
		refused(t, anExit(0, author), arg)
		for k := 10; k < 32; k++ {
			refused(t, anExit(1<<k, author), arg)
			refused(t, anExit(1<<k|1, author), arg)
		}
		refused(t, anExit(math.MaxUint32, author), arg)
		refused(t, anExit(1024+1023, author), arg)
	}
	for _, author := range append(ends(), 10, 11, 31, 32) {
		refused(t, anExit(3, author), arg)
		refused(t, anExit(0, author), arg)
	}
}

// TestP19_1_CommitsNumbers: ErrArg of a Count or a Block that isn't from 1 to 2^31 - 1.
func TestP19_1_CommitsNumbers(t *testing.T) {
	for _, n := range []int{1, 2, 300, 1<<31 - 2, 1<<31 - 1} {
		turns(t, fresh(t, 1), aCommit(n, 9), func(s *safe.Safe) { s.Count, s.Tip = n, 9 })
		turns(t, fresh(t, 1), aCommit(9, n), func(s *safe.Safe) { s.Count, s.Tip = 9, n })
	}
	for _, n := range append(ends(), 0) {
		if n == 1<<31-1 {
			continue
		}
		refused(t, aCommit(n, 9), arg)
		refused(t, aCommit(9, n), arg)
		refused(t, aCommit(n, n), arg)
	}
}

// TestP19_1_NoTexts: ErrBlock of bytes of no block.
func TestP19_1_NoTexts(t *testing.T) {
	for _, s := range noTexts() {
		refused(t, anOwn(s), none)
		refused(t, aKeep(s), none)
	}
}

// TestP19_1_RecordAheadOfState: what is wrong with a record is told ahead of what it may not do.
func TestP19_1_RecordAheadOfState(t *testing.T) {
	s := all(t, fresh(t, 1), aVote(1, 1, 1, api.Cert{}), a(3), a(6), aCommit(5, 1), aKeep(text(1, 1, 0, 0)))
	for _, r := range rights() {
		if e := why(s, r); e == ok {
			continue
		}
		for _, x := range strange(r) {
			do(t, s, x, notSafe)
		}
	}
	do(t, s, safe.Rec{Kind: 1, Cert: regular(2, 2, 1), Parent: coined(regular(3, 1, 1), 1)}, noCert)
	do(t, s, safe.Rec{Kind: 4, Cert: endorsed(2, 2, 1, 1, 1)}, noCert)
	do(t, s, anExit(0, 0), arg)
	do(t, s, aCommit(4, 0), arg)
	do(t, s, anOwn(text(2, 1, 0, 0)+"x"), none)
}

// TestP19_1_Votes: each mode, View, Round and Parent: the first that is in the way is told.
func TestP19_1_Votes(t *testing.T) {
	told := map[api.Errno]int{}
	parents := []api.Cert{{}, regular(5, 1, 2), regular(5, 1, 6), regular(5, 2, 1), regular(5, 2, 2), regular(6, 2, 3), regular(6, 2, 4), regular(5, 3, 2), regular(5, 3, 3), endorsed(5, 1, 3, 1, 1), chained(5, 2, 3, 1, 0), endorsed(5, 2, 1, 3, 9)}
	for mode := range 3 {
		s := inMode(t, mode, aVote(9, 2, 4, regular(6, 2, 3)))
		for _, p := range parents {
			for v := 1; v <= 4; v++ {
				for n := 1; n <= 8; n++ {
					want := ok
					switch {
					case mode > 0:
						want = mod
					case v != 2:
						want = view
					case n < 5 || n != p.Round+1:
						want = round
					case p.View < 2:
						want = low
					}
					told[want]++
					if want != ok {
						do(t, s, aVote(7, v, n, p), want)
						continue
					}
					turns(t, s, aVote(7, v, n, p), func(s *safe.Safe) {
						s.Round, s.Block = n, 7
						if p.Kind == 2 || p.View == 3 || p.Round == 4 {
							s.High = p
						}
					})
				}
			}
		}
	}
	for _, e := range []api.Errno{ok, mod, view, round, low} {
		if told[e] == 0 {
			t.Errorf("error %d never came", e)
		}
	}
}

// TestP19_1_VotesByHand: each thing in the way alone, and two at once.
func TestP19_1_VotesByHand(t *testing.T) {
	s := inMode(t, 0, aVote(9, 2, 4, regular(6, 2, 3)), aHigh(regular(7, 2, 5)))
	do(t, s, aVote(1, 2, 6, regular(7, 2, 5)), ok)
	do(t, s, aVote(1, 2, 7, regular(7, 2, 5)), round)
	do(t, s, aVote(1, 2, 5, regular(7, 2, 5)), round)
	do(t, s, aVote(1, 2, 5, regular(7, 2, 4)), low)
	do(t, s, aVote(1, 2, 4, regular(7, 3, 3)), round)
	do(t, s, aVote(9, 2, 4, regular(6, 2, 3)), round)
	do(t, s, aVote(1, 2, 3, regular(7, 3, 2)), round)
	do(t, s, aVote(1, 1, 6, regular(7, 2, 5)), view)
	do(t, s, aVote(1, 3, 6, regular(7, 2, 5)), view)
	do(t, s, aVote(1, 1, 4, regular(7, 2, 5)), view)
	do(t, s, aVote(1, 3, 5, regular(7, 2, 4)), view)
	do(t, s, aVote(1, 2, 4, regular(7, 2, 4)), round)
	do(t, s, aVote(1, 2, 6, regular(7, 2, 4)), round)
	gave := do(t, s, a(2), ok)
	do(t, gave, aVote(1, 2, 6, regular(7, 2, 5)), mod)
	do(t, gave, aVote(1, 1, 6, regular(7, 2, 5)), mod)
	do(t, gave, aVote(1, 2, 4, regular(7, 2, 4)), mod)
	do(t, all(t, gave, a(3)), aVote(1, 2, 6, regular(7, 2, 5)), mod)
}

// TestP19_1_VoteOfALaterView: a Round that was voted for in the view ahead may be voted for again, but not ahead of High.
func TestP19_1_VoteOfALaterView(t *testing.T) {
	s := all(t, fresh(t, 2), aVote(1, 1, 1, api.Cert{}), aVote(2, 1, 2, regular(1, 1, 1)), anExit(3, 0))
	do(t, s, aVote(3, 2, 1, api.Cert{}), low)
	do(t, s, aVote(3, 1, 3, regular(2, 1, 2)), view)
	turns(t, s, aVote(3, 2, 2, signed(regular(1, 1, 1), 13)), func(s *safe.Safe) { s.Round, s.Block = 2, 3 })
	turns(t, s, aVote(3, 2, 3, regular(2, 1, 2)), func(s *safe.Safe) { s.Round, s.Block, s.High = 3, 3, regular(2, 1, 2) })
	turns(t, s, aVote(3, 2, api.MaxRound, regular(2, 1, api.MaxRound-1)), func(s *safe.Safe) { s.Round, s.Block, s.High = 1<<30, 3, regular(2, 1, 1<<30-1) })
}

// TestP19_1_VoteKeepsHigh: a Parent of High's rank isn't put in its place.
func TestP19_1_VoteKeepsHigh(t *testing.T) {
	s := all(t, fresh(t, 2), aHigh(regular(1, 1, 1)))
	turns(t, s, aVote(3, 1, 2, signed(regular(2, 1, 1), 1023)), func(s *safe.Safe) { s.Round, s.Block = 2, 3 })
	s = all(t, fresh(t, 2), aHigh(endorsed(1, 1, 1, 2, 3)))
	turns(t, s, aVote(3, 1, 2, chained(2, 1, 1, 1, 4)), func(s *safe.Safe) { s.Round, s.Block = 2, 3 })
}

// TestP19_1_GiveUp: of a steady one alone.
func TestP19_1_GiveUp(t *testing.T) {
	for _, l := range [][]safe.Rec{nil, {aHigh(regular(5, 1, 9))}, {aVote(9, 2, 4, regular(6, 2, 3)), anOwn(text(2, 5, 0, 1))}} {
		s := inMode(t, 0, l...)
		n := turns(t, s, a(2), func(s *safe.Safe) { s.Mode, s.GaveHigh = 1, s.High })
		do(t, n, a(2), mod)
		do(t, inMode(t, 2, l...), a(2), mod)
		// What High was then stays, whatever is seen.
		turns(t, n, aHigh(regular(8, 3, 1)), func(s *safe.Safe) { s.High = regular(8, 3, 1) })
	}
}

// TestP19_1_Enter: in the fallback no more; GaveHigh is High, if it wasn't given up ahead.
func TestP19_1_Enter(t *testing.T) {
	for _, c := range []api.Cert{regular(5, 1, 9), regular(5, 2, 2), endorsed(5, 1, 1, 1, 1)} {
		s := inMode(t, 0, aHigh(c))
		n := turns(t, s, a(3), func(s *safe.Safe) { s.Mode, s.GaveHigh = 2, c })
		do(t, n, a(3), mod)
		gave := all(t, s, a(2), aHigh(regular(8, 3, 1)))
		n = turns(t, gave, a(3), func(s *safe.Safe) { s.Mode = 2 })
		if n.GaveHigh != c {
			t.Errorf("GaveHigh: %+v, not %+v", n.GaveHigh, c)
		}
		do(t, n, a(3), mod)
		do(t, n, a(2), mod)
	}
	turns(t, fresh(t, 1), a(3), func(s *safe.Safe) { s.Mode = 2 })
	turns(t, all(t, fresh(t, 1), a(2), aHigh(regular(8, 3, 1))), a(3), func(s *safe.Safe) { s.Mode = 2 })
}

// TestP19_1_Falls: each mode, View, and Height behind another one: the first that is in the way is told.
func TestP19_1_Falls(t *testing.T) {
	for mode := range 3 {
		for fell := range 4 {
			s := inMode(t, mode)
			if mode == 2 && fell > 0 {
				s = all(t, s, aFall(9, 2, 2, fell, 1, api.Cert{}))
			}
			for v := 1; v <= 3; v++ {
				for h := 1; h <= 3; h++ {
					want := ok
					switch {
					case mode < 2:
						want = mod
					case v != 2:
						want = view
					case h <= fell:
						want = height
					}
					if want != ok {
						do(t, s, aFall(7, v, 1, h, 1, api.Cert{}), want)
						continue
					}
					turns(t, s, aFall(7, v, 1, h, 1, api.Cert{}), func(s *safe.Safe) { s.Falls = []api.Cert{signed(chained(7, 2, 1, h, 1), 0)} })
				}
			}
		}
	}
}

// TestP19_1_FallsOfOthers: one author's Height is nothing to another's.
func TestP19_1_FallsOfOthers(t *testing.T) {
	s := inMode(t, 2)
	for author := range 10 {
		s = do(t, s, aFall(50+author, 2, 9, 3, author, api.Cert{}), ok)
		for other := range 10 {
			want := ok
			if other <= author {
				want = height
			}
			do(t, s, aFall(70, 2, 1, 1, other, api.Cert{}), want)
			do(t, s, aFall(70, 2, 30, 3, other, api.Cert{}), want)
		}
	}
}

// TestP19_1_WhatAFallShows: Heads has a Parent of the fallback, not endorsed, of the same View and Author, if it is higher than the one there.
func TestP19_1_WhatAFallShows(t *testing.T) {
	s := inMode(t, 2)
	// Of another kind, endorsed, of another View, of another Author: Falls alone is changed.
	for _, p := range []api.Cert{{}, regular(5, 2, 3), endorsed(5, 2, 3, 1, 6), endorsed(5, 1, 3, 1, 6), chained(5, 1, 3, 1, 6), chained(5, 3, 3, 1, 6), chained(5, 2, 3, 1, 5), chained(5, 2, 3, 1, 7), chained(5, 2, 3, 1, 0)} {
		turns(t, s, aFall(9, 2, 4, 2, 6, p), func(s *safe.Safe) { s.Falls = []api.Cert{signed(chained(9, 2, 4, 2, 6), 0)} })
	}
	// The Height of what is voted for, and both Rounds, are nothing to it.
	for h := 1; h <= 3; h++ {
		for p := 1; p <= 3; p++ {
			turns(t, s, aFall(9, 2, 2, h, 6, chained(5, 2, 3, p, 6)), func(s *safe.Safe) {
				s.Falls, s.Heads = []api.Cert{signed(chained(9, 2, 2, h, 6), 0)}, []api.Cert{chained(5, 2, 3, p, 6)}
			})
		}
	}
	for first := 1; first <= 3; first++ {
		n := do(t, s, aFall(9, 2, 2, 1, 6, chained(5, 2, 30, first, 6)), ok)
		for p := 1; p <= 3; p++ {
			turns(t, n, aFall(8, 2, 3, 2, 6, chained(4, 2, 20, p, 6)), func(s *safe.Safe) {
				s.Falls = []api.Cert{signed(chained(8, 2, 3, 2, 6), 0)}
				if p > first {
					s.Heads = []api.Cert{chained(4, 2, 20, p, 6)}
				}
			})
		}
		// What isn't of this chain doesn't take it away, though its Height is greater.
		for _, p := range []api.Cert{endorsed(5, 2, 40, 3, 6), chained(5, 1, 40, 3, 6), chained(5, 2, 40, 3, 5), regular(5, 2, 40)} {
			turns(t, n, aFall(8, 2, 3, 2, 6, p), func(s *safe.Safe) { s.Falls = []api.Cert{signed(chained(8, 2, 3, 2, 6), 0)} })
		}
	}
}

// orders: all orders of some numbers.
func orders(l []int) [][]int {
	if len(l) == 0 {
		return [][]int{nil}
	}
	var made [][]int
	for i, n := range l {
		for _, rest := range orders(slices.Delete(slices.Clone(l), i, i+1)) {
			made = append(made, append([]int{n}, rest...))
		}
	}
	return made
}

// TestP19_1_ListsRise: Falls and Heads rise by their Author, in whatever order they come; Fell and Head tell each.
func TestP19_1_ListsRise(t *testing.T) {
	for _, order := range orders([]int{0, 1, 4, 8, 9}) {
		s := inMode(t, 2)
		for _, author := range order {
			s = do(t, s, aFall(20+author, 2, 3, 2, author, chained(30+author, 2, 2, 1, author)), ok)
		}
		for _, author := range order[:2] {
			s = do(t, s, aFall(40+author, 2, 4, 3, author, chained(50+author, 2, 3, 2, author)), ok)
		}
		var falls, heads []api.Cert
		for _, author := range []int{0, 1, 4, 8, 9} {
			f, h := signed(chained(20+author, 2, 3, 2, author), 0), chained(30+author, 2, 2, 1, author)
			if author == order[0] || author == order[1] {
				f, h = signed(chained(40+author, 2, 4, 3, author), 0), chained(50+author, 2, 3, 2, author)
			}
			falls, heads = append(falls, f), append(heads, h)
			if s.Fell(author) != f || s.Head(author) != h {
				t.Errorf("of %d: %+v, %+v", author, s.Fell(author), s.Head(author))
			}
		}
		if !slices.Equal(s.Falls, falls) || !slices.Equal(s.Heads, heads) {
			t.Errorf("%v: %+v, %+v", order, s.Falls, s.Heads)
		}
		for _, author := range append(ends(), -1, 2, 3, 5, 6, 7, 10) {
			if s.Fell(author) != (api.Cert{}) || s.Head(author) != (api.Cert{}) {
				t.Errorf("of %d: %+v, %+v", author, s.Fell(author), s.Head(author))
			}
		}
	}
}

// TestP19_1_FellAndHeadOfNothing: a zero one.
func TestP19_1_FellAndHeadOfNothing(t *testing.T) {
	for _, s := range []safe.Safe{fresh(t, 3), inMode(t, 2), inMode(t, 2, a(2)), do(t, full(t), anExit(3, 1), ok)} {
		for _, author := range append(ends(), 0, 1, 2, 9, 10) {
			if s.Fell(author) != (api.Cert{}) || s.Head(author) != (api.Cert{}) {
				t.Errorf("of %d: %+v, %+v", author, s.Fell(author), s.Head(author))
			}
		}
	}
	s := do(t, inMode(t, 2), aFall(9, 2, 2, 1, 6, regular(4, 1, 1)), ok)
	if s.Fell(6) != signed(chained(9, 2, 2, 1, 6), 0) || s.Head(6) != (api.Cert{}) || s.Fell(5) != (api.Cert{}) {
		t.Errorf("%+v, %+v, %+v", s.Fell(6), s.Head(6), s.Fell(5))
	}
}

// TestP19_1_High: what is above High, in each mode.
func TestP19_1_High(t *testing.T) {
	rising := []api.Cert{regular(4, 1, 1), regular(3, 1, 2), regular(3, 1, 1<<30), endorsed(5, 1, 1, 3, 9), endorsed(5, 1, 2, 1, 0), regular(1, 2, 1), regular(1, 2, 9), endorsed(2, 2, 1, 1, 1), regular(9, api.MaxView, 1), endorsed(8, api.MaxView, api.MaxRound, 2, 2)}
	for mode := range 3 {
		for i, c := range rising {
			s := turns(t, inMode(t, mode), aHigh(c), func(s *safe.Safe) { s.High = c })
			for k, other := range rising {
				if k <= i {
					do(t, s, aHigh(other), low)
					continue
				}
				turns(t, s, aHigh(other), func(s *safe.Safe) { s.High = other })
			}
			// Of one rank: not above.
			c.Block, c.Signers = c.Block+1, 1
			do(t, s, aHigh(c), low)
		}
	}
}

// TestP19_1_Share: in the fallback, once a view.
func TestP19_1_Share(t *testing.T) {
	do(t, inMode(t, 0), a(6), mod)
	do(t, inMode(t, 1), a(6), mod)
	s := turns(t, inMode(t, 2), a(6), func(s *safe.Safe) { s.Shared = true })
	do(t, s, a(6), there)
	s = all(t, s, anExit(3, 0))
	do(t, s, a(6), mod)
	turns(t, all(t, s, a(3)), a(6), func(s *safe.Safe) { s.Shared = true })
}

// TestP19_1_ExitOfAll: the next view has nothing of what was this one's.
func TestP19_1_ExitOfAll(t *testing.T) {
	s := full(t)
	for _, x := range []struct {
		author int
		high   api.Cert
	}{{0, s.High}, {1, coined(chained(19, 3, 6, 1, 1), 300)}, {2, s.High}, {3, s.High}, {4, coined(chained(29, 3, 7, 2, 4), 300)}, {5, s.High}, {9, s.High}} {
		want := safe.Safe{Last: 5, View: 4, High: x.high, Past: []uint32{5, 1023, 300}, Count: 4, Tip: 7, Blocks: s.Blocks}
		if n := do(t, s, anExit(300, x.author), ok); !same(n, want) {
			t.Errorf("Exit of %d: %+v, not %+v", x.author, n, want)
		}
	}
}

// TestP19_1_ExitInEachMode: whether or not it was given up, and shared.
func TestP19_1_ExitInEachMode(t *testing.T) {
	for mode := range 3 {
		s := inMode(t, mode, aHigh(regular(5, 1, 9)), anOwn(text(2, 2, 0, 1)), aVote(7, 2, 10, regular(5, 1, 9)))
		want := safe.Safe{Last: 3, View: 3, High: regular(5, 1, 9), Past: []uint32{3, 7}}
		n := do(t, s, anExit(7, 0), ok)
		if !same(n, want) {
			t.Errorf("of mode %d: %+v, not %+v", mode, n, want)
		}
		do(t, n, anExit(7, 0), halt)
	}
}

// TestP19_1_ExitHalts: at the last view, in each mode, with a head, too.
func TestP19_1_ExitHalts(t *testing.T) {
	for _, last := range []int{1, 2, 3, 9} {
		s := fresh(t, last)
		for v := 1; v < last; v++ {
			s = do(t, s, anExit(uint32(v), 0), ok)
		}
		for _, l := range [][]safe.Rec{nil, {a(2)}, {a(3), aFall(9, last, 3, 2, 1, chained(8, last, 2, 1, 1)), a(6)}} {
			n := all(t, s, l...)
			do(t, n, anExit(3, 1), halt)
			do(t, n, anExit(1023, 9), halt)
		}
	}
}

// TestP19_1_ExitHigh: High is the higher one of it and the elected one's head; of one rank High stays.
func TestP19_1_ExitHigh(t *testing.T) {
	for _, x := range []struct {
		high   api.Cert
		raises bool
	}{
		{regular(5, 1, 9), true}, {endorsed(5, 1, 90, 1, 1), true}, {regular(5, 2, 1), true}, {regular(5, 2, 90), true}, {endorsed(5, 2, 1, 3, 2), true}, {endorsed(5, 2, 2, 3, 2), false},
		{endorsed(5, 2, 3, 3, 2), false}, {regular(5, 3, 1), false}, {endorsed(5, 3, 1, 1, 1), false},
	} {
		s := inMode(t, 2, aHigh(x.high))
		s = do(t, s, aFall(9, 2, 3, 2, 6, chained(8, 2, 2, 1, 6)), ok)
		high := x.high
		if x.raises {
			high = coined(chained(8, 2, 2, 1, 6), 513)
		}
		if n := do(t, s, anExit(513, 6), ok); n.High != high {
			t.Errorf("behind %+v: %+v, not %+v", x.high, n.High, high)
		}
		if n := do(t, s, anExit(513, 5), ok); n.High != x.high {
			t.Errorf("behind %+v of another one: %+v", x.high, n.High)
		}
	}
	s := all(t, fresh(t, 2), a(3), aFall(9, 1, 3, 2, 6, chained(8, 1, 2, 1, 6)))
	if n := do(t, s, anExit(1, 6), ok); n.High != coined(chained(8, 1, 2, 1, 6), 1) {
		t.Errorf("behind the genesis: %+v", n.High)
	}
}

// TestP19_1_Commit: a Count that is above the one there, in each mode.
func TestP19_1_Commit(t *testing.T) {
	for mode := range 3 {
		s := inMode(t, mode)
		for _, count := range []int{1, 2, 5, 300, 1<<31 - 1} {
			do(t, s, aCommit(count, 1<<31-1), ok)
			s = turns(t, s, aCommit(count, 1+count%7), func(s *safe.Safe) { s.Count, s.Tip = count, 1+count%7 })
			do(t, s, aCommit(count, 1+count%7), old)
			do(t, s, aCommit(count, 99), old)
			do(t, s, aCommit(1, 99), old)
		}
	}
}

// TestP19_1_Block: kept once, in the order in which they come, of whatever view and author, in each mode.
func TestP19_1_Block(t *testing.T) {
	texts := []string{text(2, 5, 0, 1), text(1, 1, 0, 0), text(9, 3, 2, 9), text(1, 2, 0, 0), longText(3), text(1, 1, 1, 0)}
	for mode := range 3 {
		s := inMode(t, mode)
		for i, one := range texts {
			s = turns(t, s, aKeep(one), func(s *safe.Safe) { s.Blocks = append(s.Blocks, one) })
			for _, other := range texts[:i+1] {
				do(t, s, aKeep(other), there)
			}
		}
		if !slices.Equal(s.Blocks, texts) {
			t.Errorf("Blocks: %q", s.Blocks)
		}
		if mode == 2 {
			do(t, all(t, s, anExit(3, 0)), aKeep(texts[0]), there)
		}
	}
}

// TestP19_1_Own: of this view, each Height above 0 once, of Height 0 rising Rounds, in each mode.
func TestP19_1_Own(t *testing.T) {
	for mode := range 3 {
		for h := range 4 {
			for v := 1; v <= 3; v++ {
				for r := 2; r <= 6; r++ {
					s := inMode(t, mode)
					if v != 2 {
						do(t, s, anOwn(text(v, r, h, 1)), view)
						do(t, all(t, s, anOwn(text(2, 4, h, 1))), anOwn(text(v, r, h, 1)), view)
						continue
					}
					turns(t, s, anOwn(text(v, r, h, 1)), func(s *safe.Safe) { s.Own[h] = text(v, r, h, 1) })
					for other := range 4 {
						ownBehind(t, all(t, s, anOwn(text(2, 4, other, 1))), other, r, h)
					}
				}
			}
		}
	}
}

// ownBehind: a block of its own of this Round and Height, behind one of Round 4 and another Height.
func ownBehind(t *testing.T, s safe.Safe, other, r, h int) {
	t.Helper()
	x := anOwn(text(2, r, h, 1))
	switch {
	case h > 0 && h == other:
		do(t, s, x, height)
	case h == 0 && other == 0 && r <= 4:
		do(t, s, x, round)
	default:
		turns(t, s, x, func(s *safe.Safe) { s.Own[h] = text(2, r, h, 1) })
	}
}

// TestP19_1_OwnOfARound: another block of the same Round, of Height 0.
func TestP19_1_OwnOfARound(t *testing.T) {
	s := inMode(t, 0, anOwn(text(2, 1, 0, 1)))
	do(t, s, anOwn(text(2, 1, 0, 2)), round)
	do(t, s, anOwn(longText(2)), round)
	s = turns(t, s, anOwn(text(2, 2, 0, 2)), func(s *safe.Safe) { s.Own[0] = text(2, 2, 0, 2) })
	do(t, s, anOwn(text(2, 1, 0, 1)), round)
	s = all(t, s, anExit(3, 0))
	turns(t, s, anOwn(text(3, 1, 0, 1)), func(s *safe.Safe) { s.Own[0] = text(3, 1, 0, 1) })
}

// TestP19_1_WhatEachChanges: of a state that has all that it may have, field by field.
func TestP19_1_WhatEachChanges(t *testing.T) {
	s := full(t)
	turns(t, s, aFall(60, 3, 9, 3, 1, chained(61, 3, 8, 2, 1)), func(s *safe.Safe) {
		s.Falls[1], s.Heads[0] = signed(chained(60, 3, 9, 3, 1), 0), chained(61, 3, 8, 2, 1)
	})
	turns(t, s, aFall(60, 3, 9, 3, 2, chained(61, 3, 8, 2, 2)), func(s *safe.Safe) {
		s.Falls = slices.Insert(s.Falls, 2, signed(chained(60, 3, 9, 3, 2), 0))
		s.Heads = slices.Insert(s.Heads, 1, chained(61, 3, 8, 2, 2))
	})
	turns(t, s, aHigh(regular(9, 4, 1)), func(s *safe.Safe) { s.High = regular(9, 4, 1) })
	turns(t, s, aCommit(5, 70), func(s *safe.Safe) { s.Count, s.Tip = 5, 70 })
	turns(t, s, anOwn(text(3, 5, 0, 7)), func(s *safe.Safe) { s.Own[0] = text(3, 5, 0, 7) })
	turns(t, s, aKeep(text(3, 5, 0, 7)), func(s *safe.Safe) { s.Blocks = append(s.Blocks, text(3, 5, 0, 7)) })
	l := toFull()
	n := all(t, fresh(t, 5), l[:10]...)
	turns(t, n, aVote(9, 3, 6, regular(9, 3, 5)), func(s *safe.Safe) { s.Round, s.Block, s.High = 6, 9, regular(9, 3, 5) })
	turns(t, n, a(2), func(s *safe.Safe) { s.Mode, s.GaveHigh = 1, regular(7, 2, 3) })
	turns(t, n, a(3), func(s *safe.Safe) { s.Mode, s.GaveHigh = 2, regular(7, 2, 3) })
	n = all(t, n, l[10:20]...)
	turns(t, n, a(6), func(s *safe.Safe) { s.Shared = true })
}

// thereAndBack: are these the bytes of a record, and it that of the bytes?
func thereAndBack(t *testing.T, r safe.Rec, want string) {
	t.Helper()
	if b, e := safe.Bytes(r); string(b) != want || e != ok {
		t.Errorf("Bytes(%+v): % x, error %d, not % x", r, b, e, want)
	}
	if x, e := safe.Parse([]byte(want)); x != r || e != ok {
		t.Errorf("Parse of % x: %+v, error %d, not %+v", want, x, e, r)
	}
}

// TestP19_2_ByHand: of each kind.
func TestP19_2_ByHand(t *testing.T) {
	own := "\x01\x01\x00\x00\x00\x00\x00"
	for _, x := range []struct {
		r    safe.Rec
		want string
	}{
		{aVote(1, 1, 1, api.Cert{}), "\x01\x01\x01\x01\x01\x01\x00"}, {aVote(300, 2, 5, regular(7, 1, 4)), "\x01\x01\xac\x02\x02\x05\x01\x01\x07\x01\x04\x07"},
		{aVote(2, 9, 3, chained(5, 9, 2, 3, 0)), "\x01\x01\x02\x09\x03\x01\x02\x05\x09\x02\x0b\x03\x00\x00"}, {a(2), "\x02"}, {a(3), "\x03"},
		{aFall(6, 2, 5, 2, 9, chained(7, 2, 4, 1, 9)), "\x04\x02\x06\x02\x05\x02\x02\x09\x00\x02\x07\x02\x04\x0b\x01\x09\x00"}, {aHigh(regular(7, 2, 4)), "\x05\x01\x07\x02\x04\x07"},
		{aHigh(endorsed(7, 2, 4, 3, 8)), "\x05\x02\x07\x02\x04\x0b\x03\x08\x03"}, {a(6), "\x06"}, {anExit(3, 9), "\x07\x03\x09"}, {anExit(1023, 0), "\x07\xff\x07\x00"},
		{aCommit(300, 2), "\x08\xac\x02\x02"}, {aCommit(1, 1<<31-1), "\x08\x01\xff\xff\xff\xff\x07"}, {anOwn(own), "\x09\x07" + own}, {aKeep(own), "\x0a\x07" + own},
	} {
		thereAndBack(t, x.r, x.want)
	}
}

// TestP19_2_ThereAndBack: of each record that may be one.
func TestP19_2_ThereAndBack(t *testing.T) {
	for _, r := range rights() {
		thereAndBack(t, r, bytesOf(r))
	}
}

// TestP19_2_BytesErrors: which comes first.
func TestP19_2_BytesErrors(t *testing.T) {
	for _, x := range []struct {
		r safe.Rec
		e api.Errno
	}{
		{safe.Rec{}, notSafe}, {a(11), notSafe}, {safe.Rec{Kind: 1, Set: 1}, notSafe}, {a(1), noCert}, {a(4), noCert}, {a(5), noCert}, {a(7), arg}, {a(8), arg}, {a(9), none}, {a(10), none},
		{safe.Rec{Kind: 7, Text: "x"}, notSafe}, {safe.Rec{Kind: 9, Author: 1}, notSafe}, {safe.Rec{Kind: 8, Count: 1, Set: 1}, notSafe}, {safe.Rec{Kind: 5, Parent: regular(1, 1, 1)}, notSafe},
	} {
		refused(t, x.r, x.e)
	}
}

// parses: does Parse tell a record whose bytes these are, or an error and nothing else? The error.
func parses(t *testing.T, s string) api.Errno {
	t.Helper()
	b := []byte(s)
	r, e := safe.Parse(b)
	if string(b) != s {
		t.Errorf("Parse of % x changed them", s)
	}
	if e != ok {
		if r != (safe.Rec{}) {
			t.Errorf("Parse of % x: %+v, error %d", s, r, e)
		}
		return e
	}
	if c, e := safe.Bytes(r); string(c) != s || e != ok || bytesOf(r) != s || wrong(r) != ok {
		t.Errorf("Parse of % x: %+v, whose bytes are % x, error %d", s, r, c, e)
	}
	return ok
}

// notParsed: is this the error?
func notParsed(t *testing.T, s string, want api.Errno) {
	t.Helper()
	if e := parses(t, s); e != want {
		t.Errorf("Parse of % .60x: error %d, not %d", s, e, want)
	}
}

// TestP19_2_ParseOfTurnedBytes: cut at each place, with one more behind, with each byte changed.
func TestP19_2_ParseOfTurnedBytes(t *testing.T) {
	notParsed(t, "", api.ErrCut)
	for _, r := range rights() {
		s := bytesOf(r)
		for i := range len(s) {
			notParsed(t, s[:i], api.ErrCut)
			if i > 200 {
				continue
			}
			for c := range 256 {
				parses(t, s[:i]+string([]byte{byte(c)})+s[i+1:])
			}
			parses(t, s[:i]+s[i+1:])
			parses(t, s[:i]+s[i:i+1]+s[i:])
		}
		for c := range 256 {
			notParsed(t, s+string([]byte{byte(c)}), api.ErrTail)
		}
	}
}

// TestP19_2_ParseOfNoKind: ErrSafe, if nothing stands behind it.
func TestP19_2_ParseOfNoKind(t *testing.T) {
	for _, kind := range []int{0, 11, 12, 127, 128, 255, 256, 257, 266, 1<<31 - 1, 1 << 31, 1<<32 + 1, 1<<32 + 2, 1<<32 + 6, 1<<33 + 3, 1 << 62} {
		notParsed(t, written(kind), notSafe)
		for _, r := range rights() {
			if e := parses(t, written(kind)+bytesOf(r)[1:]); e == ok {
				t.Errorf("Kind %d is one", kind)
			}
		}
	}
}

// TestP19_2_ParseOfOtherForms: numbers have one form.
func TestP19_2_ParseOfOtherForms(t *testing.T) {
	for _, s := range []string{"\x82\x00", "\x86\x00", "\x07\x83\x00\x09", "\x07\x03\x89\x00", "\x08\x81\x80\x00\x02", "\x05\x81\x00\x07\x02\x04\x07", "\x05\x01\x87\x00\x02\x04\x07", "\x09\x87\x00\x01\x01\x00\x00\x00\x00\x00",
		"\x08\x01\xff\xff\xff\xff\xff\xff\xff\xff\xff\x01"} {
		notParsed(t, s, api.ErrCode)
	}
}

// TestP19_2_ParseOfNoRecord: what a kind can't have; a number that would be another one, if it were cut.
func TestP19_2_ParseOfNoRecord(t *testing.T) {
	for _, l := range [][]int{{7, 0, 0}, {7, 1024, 0}, {7, 3, 10}, {7, 1<<32 + 3, 0}, {7, 1 << 32, 0}, {7, 1 << 31, 0}, {7, 1<<62 - 1, 0}, {7, 3, 1 << 32}, {7, 3, 1<<32 + 2}, {7, 3, 1 << 62},
		{8, 0, 1}, {8, 1, 0}, {8, 1 << 31, 1}, {8, 1, 1 << 31}, {8, 1<<32 + 1, 1}, {8, 1, 1<<32 + 1}, {8, 1 << 62, 1 << 62}} {
		notParsed(t, written(l...), notSafe)
	}
	for _, s := range noTexts() {
		for _, kind := range []int{9, 10} {
			want := notSafe
			if len(s) > 1<<16 {
				want = api.ErrMany
			}
			notParsed(t, written(kind)+writtenText(s), want)
		}
	}
	for _, s := range []string{"\x01" + writtenCert(chained(5, 2, 3, 1, 1)) + "\x00", "\x01\x00\x00", "\x04" + writtenCert(regular(5, 2, 3)) + "\x00", "\x04" + writtenCert(endorsed(5, 2, 3, 1, 1)) + "\x00", "\x04\x00\x00",
		"\x05\x00", "\x05" + writtenCert(chained(5, 2, 3, 1, 1))} {
		notParsed(t, s, notSafe)
	}
}

// TestP19_2_ParseOfNoCerts: the reader's error, ahead of what is behind.
func TestP19_2_ParseOfNoCerts(t *testing.T) {
	for _, c := range []api.Cert{signed(regular(5, 2, 3), 0), regular(0, 2, 3), regular(5, 0, 3), regular(5, 2, 0), signed(regular(5, 2, 3), 1024), chained(5, 2, 3, 4, 1), chained(5, 2, 3, 1, 10), coined(chained(5, 2, 3, 1, 1), 1024)} {
		for _, s := range []string{"\x01" + writtenCert(c) + "\x00", "\x01" + writtenCert(regular(1, 1, 1)) + writtenCert(c), "\x04" + writtenCert(c) + "\x00", "\x04" + writtenCert(chained(1, 1, 1, 1, 1)) + writtenCert(c), "\x05" + writtenCert(c)} {
			notParsed(t, s, noCert)
			notParsed(t, s+"\x00", noCert)
		}
	}
	notParsed(t, "\x05\x03", noCert)
	notParsed(t, "\x01\x03\x80", noCert)
}

// TestP19_2_ParsesErrors: which comes first: the reader's.
func TestP19_2_ParsesErrors(t *testing.T) {
	notParsed(t, "\x07\x00\x0a\x00", api.ErrTail)
	notParsed(t, "\x07\x00", api.ErrCut)
	notParsed(t, "\x07\x00\x80\x00", api.ErrCode)
	notParsed(t, "\x08\x00\x00\x00", api.ErrTail)
	notParsed(t, "\x09\x00\x00", api.ErrTail)
	notParsed(t, "\x0a\x02\x00", api.ErrCut)
	notParsed(t, "\x02\x00", api.ErrTail)
	notParsed(t, "\x03\x03", api.ErrTail)
	notParsed(t, "\x06\x80", api.ErrTail)
	notParsed(t, "\x80", api.ErrCut)
}

// snapshots: is this the snapshot of a state, and is it restored?
func snapshots(t *testing.T, s safe.Safe, want string) {
	t.Helper()
	ahead := copied(s)
	if b := s.Snapshot(); string(b) != want || snapshotOf(s) != want {
		t.Errorf("Snapshot of %+v: % x, not % x", s, b, want)
	}
	if !same(s, ahead) {
		t.Errorf("Snapshot of %+v: it is %+v now", ahead, s)
	}
	n, e := safe.Restore([]byte(want))
	if e != ok || !same(n, s) || !safe.Same(n, s) {
		t.Errorf("Restore of % x: %+v, error %d, not %+v", want, n, e, s)
	}
}

// TestP19_3_ByHand: of a state that has nothing, and of one that has a little of each.
func TestP19_3_ByHand(t *testing.T) {
	snapshots(t, fresh(t, 300), "\xac\x02\x01\x00\x00\x00\x00\x00\x00\x00\x00\x00\x00\x00\x00\x00\x00\x00\x00")
	own := "\x01\x01\x00\x00\x00\x00\x00"
	s := all(t, fresh(t, 2), anOwn(own), aKeep(own), aVote(5, 1, 1, api.Cert{}), aVote(6, 1, 2, regular(5, 1, 1)), a(2), aHigh(regular(6, 1, 2)), a(3), aFall(7, 1, 3, 2, 1, chained(8, 1, 2, 1, 1)), a(6), aCommit(1, 5))
	snapshots(t, s, "\x02\x01\x02\x02\x06"+"\x01\x06\x01\x02\x07"+"\x01\x05\x01\x01\x07"+"\x01\x02\x07\x01\x03\x01\x02\x01\x00"+"\x01\x02\x08\x01\x02\x0b\x01\x01\x00"+"\x01"+"\x07"+own+"\x00\x00\x00"+"\x00"+"\x01\x05"+"\x01\x07"+own)
	s = all(t, s, anExit(258, 1))
	snapshots(t, s, "\x02\x02\x00\x00\x00"+"\x02\x08\x01\x02\x0b\x01\x01\x82\x02"+"\x00"+"\x00"+"\x00"+"\x00"+"\x00\x00\x00\x00"+"\x01\x82\x02"+"\x01\x05"+"\x01\x07"+own)
}

// states: of all sorts.
func states(t *testing.T) []safe.Safe {
	t.Helper()
	l := []safe.Safe{fresh(t, 1), fresh(t, 300), fresh(t, api.MaxView)}
	s := fresh(t, 5)
	for _, r := range toFull() {
		s = do(t, s, r, ok)
		l = append(l, s)
	}
	l = append(l, do(t, s, anExit(3, 4), ok), do(t, s, anExit(3, 0), ok), all(t, s, anExit(9, 1), anExit(8, 1)))
	for mode := range 3 {
		l = append(l, inMode(t, mode, aVote(9, 2, 1<<30, chained(1<<31-1, 2, 1<<30-1, 3, 9)), aHigh(endorsed(1<<31-1, 1<<20, 1<<30, 3, 9)), anOwn(longText(2)), aKeep(longText(2)), aCommit(1<<31-1, 1<<31-1)))
	}
	for author := range 10 {
		s = do(t, s, aFall(90+author, 3, 1<<30, 3, 9-author, chained(80+author, 3, 5, 3, 9-author)), []api.Errno{ok, ok, ok, ok, ok, height, ok, ok, ok, ok}[author])
	}
	return append(l, s)
}

// TestP19_3_ThereAndBack: states of all sorts.
func TestP19_3_ThereAndBack(t *testing.T) {
	for _, s := range states(t) {
		snapshots(t, s, snapshotOf(s))
	}
}

// TestP19_3_ThereAndBackOfManyViews: a Past as long as it may be, and Blocks.
func TestP19_3_ThereAndBackOfManyViews(t *testing.T) {
	s := fullByHand()
	s.Last, s.View, s.Mode, s.GaveHigh, s.Falls, s.Heads, s.Shared, s.Own = api.MaxView, api.MaxView, 0, api.Cert{}, nil, nil, false, [4]string{}
	s.Past = make([]uint32, api.MaxView-1)
	for i := range s.Past {
		s.Past[i] = 1 + uint32(i%1023)
	}
	s.Blocks = nil
	for n := range 3000 {
		s.Blocks = append(s.Blocks, text(1+n, 2+n%50, 0, n%10))
	}
	n, e := safe.Restore([]byte(snapshotOf(s)))
	if e != ok || !same(n, s) {
		t.Fatalf("Restore: error %d", e)
	}
	if string(n.Snapshot()) != snapshotOf(s) {
		t.Errorf("another Snapshot")
	}
	do(t, n, anExit(3, 0), halt)
}

// restores: does Restore tell a state whose Snapshot these bytes are, or an error and nothing else? The error.
func restores(t *testing.T, s string) api.Errno {
	t.Helper()
	b := []byte(s)
	n, e := safe.Restore(b)
	if string(b) != s {
		t.Errorf("Restore of % x changed them", s)
	}
	if e != ok {
		if !same(n, safe.Safe{}) {
			t.Errorf("Restore of % x: %+v, error %d", s, n, e)
		}
		return e
	}
	if string(n.Snapshot()) != s || snapshotOf(n) != s {
		t.Errorf("Restore of % x: %+v, whose Snapshot is % x", s, n, n.Snapshot())
	}
	return ok
}

// notRestored: is this the error?
func notRestored(t *testing.T, what, s string, want api.Errno) {
	t.Helper()
	if e := restores(t, s); e != want {
		t.Errorf("%s: Restore of % .100x: error %d, not %d", what, s, e, want)
	}
}

// TestP19_3_RestoreOfTurnedBytes: cut at each place, with one more behind, with each byte changed.
func TestP19_3_RestoreOfTurnedBytes(t *testing.T) {
	notRestored(t, "nothing", "", api.ErrCut)
	for _, s := range []safe.Safe{fresh(t, 300), all(t, fresh(t, 5), toFull()[:8]...), full(t)} {
		b := snapshotOf(s)
		for i := range len(b) {
			notRestored(t, "cut", b[:i], api.ErrCut)
			for c := range 256 {
				restores(t, b[:i]+string([]byte{byte(c)})+b[i+1:])
			}
			restores(t, b[:i]+b[i+1:])
			restores(t, b[:i]+b[i:i+1]+b[i:])
		}
		for c := range 256 {
			notRestored(t, "longer", b+string([]byte{byte(c)}), api.ErrTail)
		}
	}
}

// TestP19_3_RestoreOfDrawnBytes: with some bytes changed.
func TestP19_3_RestoreOfDrawnBytes(t *testing.T) {
	d := &dice{7}
	right := 0
	for _, s := range states(t) {
		for range 1500 {
			b := []byte(snapshotOf(s))
			for range 1 + d.below(2) {
				b[d.below(len(b))] = byte(d.below(12))
			}
			if restores(t, string(b)) == ok {
				right++
			}
		}
	}
	if right < 1000 {
		t.Errorf("only %d were right", right)
	}
}

// TestP19_3_RestoreOfNoNumber: each number of a state that can't be there.
func TestP19_3_RestoreOfNoNumber(t *testing.T) {
	s := full(t)
	great := []int{1<<31 - 1, 1 << 31, 1 << 32, 1<<32 + 1, 1<<32 + 2, 1<<32 + 3, 1<<32 + 4, 1<<32 + 5, 1<<33 + 3, 1 << 62}
	for _, x := range []struct {
		name string
		l    []int
	}{
		{"Last", []int{0, 1, 2, 1<<20 + 1}}, {"View", []int{0, 1, 2, 4, 5, 6}}, {"Mode", []int{0, 1, 3, 4, 256}}, {"Round", []int{0, 1<<30 + 1}}, {"Block", []int{0}},
		{"Shared", []int{2, 3, 127, 256, 257}}, {"Set", []int{0, 1024, 1025}}, {"Count", []int{0}}, {"Tip", []int{0}},
	} {
		for _, n := range append(x.l, great...) {
			if n == 1<<31-1 && strings.Contains("Block Count Tip", x.name) {
				continue
			}
			notRestored(t, x.name, replaced(s, x.name, written(n)), notSafe)
		}
	}
	for _, x := range []struct {
		name string
		l    []int
	}{
		{"Last", []int{3, 4, 6, 1 << 20}}, {"Round", []int{1, 2, 3, 5, 1 << 30}}, {"Block", []int{1, 7, 9, 1<<31 - 1}}, {"Shared", []int{0}}, {"Set", []int{1, 2, 6, 1023}}, {"Count", []int{1, 1<<31 - 1}}, {"Tip", []int{1, 1<<31 - 1}},
	} {
		for _, n := range x.l {
			if e := restores(t, replaced(s, x.name, written(n))); e != ok && x.name != "Round" {
				t.Errorf("%s %d: error %d", x.name, n, e)
			}
		}
	}
}

// TestP19_3_RestoreOfOtherCounts: of lists, that announce more or fewer than there are.
func TestP19_3_RestoreOfOtherCounts(t *testing.T) {
	s := full(t)
	for _, name := range []string{"Falls", "Heads", "Past", "Blocks"} {
		for _, n := range []int{0, 1, 2, 3, 4, 5, 9, 10, 11, 127, 128, 1 << 20, 1<<31 - 1, 1 << 31, 1 << 32, 1<<32 + 2, 1<<32 + 3, 1<<62 - 1, 1 << 62} {
			if b := replaced(s, name, written(n)); b != snapshotOf(s) && restores(t, b) == ok {
				t.Errorf("%s: %d of them", name, n)
			}
		}
		notRestored(t, name, replaced(s, name, written(1<<62)+strings.Repeat("\x00", 100)), map[string]api.Errno{"Falls": noCert, "Heads": noCert, "Past": api.ErrCut, "Blocks": api.ErrCut}[name])
	}
	// Nothing stands behind the last one: the bytes end too early.
	notRestored(t, "Blocks", replaced(s, "Blocks", written(4)), api.ErrCut)
	notRestored(t, "Blocks", replaced(s, "Blocks", written(1<<62)), api.ErrCut)
	notRestored(t, "Blocks", replaced(s, "Blocks", written(2)), api.ErrTail)
}

// TestP19_3_RestoreOfOtherLists: of lists, that don't rise, or have what they can't have.
func TestP19_3_RestoreOfOtherLists(t *testing.T) {
	s := full(t)
	one, two := chained(20, 3, 7, 2, 1), chained(30, 3, 8, 3, 4)
	list := func(l ...api.Cert) string {
		b := written(len(l))
		for _, c := range l {
			b += writtenCert(c)
		}
		return b
	}
	with := func(falls, heads string) string {
		b := snapshotOf(s)
		l := cut(s)
		ahead, behind := len(join(l[:7])), join(l[slices.IndexFunc(l, func(x piece) bool { return x.name == "Shared" }):])
		return b[:ahead] + falls + heads + behind
	}
	first, second := signed(one, 1), signed(two, 1)
	for _, heads := range []string{list(), list(one), list(two), list(one, two), list(signed(one, 1), signed(two, 1023))} {
		for _, falls := range []string{list(first, second), list(signed(chained(9, 3, 1, 1, 0), 1), first, second, signed(chained(9, 3, 1, 1, 9), 1))} {
			notRestored(t, "right ones", with(falls, heads), ok)
		}
		for _, falls := range []string{
			list(second, first), list(first, first), list(first, second, second), list(second, second, first), list(first, second, first),
			list(signed(one, 2), second), list(first, signed(two, 3)), list(signed(one, 1023), second), list(coined(first, 1), second), list(first, coined(second, 3)),
			list(signed(chained(20, 2, 7, 2, 1), 1), second), list(first, signed(chained(20, 4, 7, 2, 4), 1)), list(signed(regular(20, 3, 7), 1), second), list(api.Cert{}), list(first, api.Cert{}), list(signed(regular(20, 3, 7), 1)),
		} {
			notRestored(t, "Falls", with(falls, heads), notSafe)
		}
	}
	for _, heads := range []string{
		list(two, one), list(one, one), list(one, two, two), list(two, two, one), list(coined(one, 1)), list(one, coined(two, 1)), list(chained(19, 2, 6, 1, 1)), list(one, chained(19, 4, 6, 1, 4)), list(regular(20, 3, 7)), list(api.Cert{}),
	} {
		notRestored(t, "Heads", with(list(first, second), heads), notSafe)
	}
	for _, c := range []api.Cert{signed(one, 0), signed(one, 1024), chained(0, 3, 7, 2, 1), chained(20, 3, 7, 4, 1), chained(20, 3, 7, 0, 1), chained(20, 3, 7, 1, 10)} {
		notRestored(t, "Falls", with(list(c, second), list()), noCert)
		notRestored(t, "Heads", with(list(first, second), list(c)), noCert)
	}
}

// TestP19_3_RestoreOfHighs: High and GaveHigh.
func TestP19_3_RestoreOfHighs(t *testing.T) {
	s := full(t)
	for _, name := range []string{"High", "GaveHigh"} {
		for _, c := range []api.Cert{signed(regular(5, 2, 3), 0), regular(0, 2, 3), chained(5, 2, 3, 4, 1), coined(chained(5, 2, 3, 1, 1), 1024), regular(5, 1<<20+1, 3)} {
			notRestored(t, name, replaced(s, name, writtenCert(c)), noCert)
		}
		notRestored(t, name, replaced(s, name, "\x03"), noCert)
	}
	// What was highest when the view was given up isn't above what is highest now.
	for _, c := range []api.Cert{regular(9, 3, 1), endorsed(9, 2, 6, 1, 1)} {
		notRestored(t, "GaveHigh", replaced(s, "GaveHigh", writtenCert(c)), notSafe)
	}
	for _, c := range []api.Cert{regular(5, 2, 2), regular(9, 1, 900), {}} {
		notRestored(t, "High", replaced(s, "High", writtenCert(c)), notSafe)
	}
	for _, c := range []api.Cert{regular(5, 2, 3), regular(9, 2, 900), endorsed(9, 2, 4, 1, 1), regular(1, 9, 9)} {
		notRestored(t, "High", replaced(s, "High", writtenCert(c)), ok)
	}
	// There is none, where it wasn't given up.
	for _, n := range []safe.Safe{fresh(t, 1), inMode(t, 0, aHigh(regular(5, 3, 3)))} {
		for _, c := range []api.Cert{regular(5, 1, 1), endorsed(5, 1, 1, 1, 1)} {
			notRestored(t, "GaveHigh", replaced(n, "GaveHigh", writtenCert(c)), notSafe)
		}
	}
}

// TestP19_3_RestoreOfModes: what there is in the fallback alone.
func TestP19_3_RestoreOfModes(t *testing.T) {
	for mode := range 3 {
		s := inMode(t, mode, aHigh(regular(5, 2, 9)))
		for name, b := range map[string]string{"Falls": "\x01" + writtenCert(signed(chained(5, 2, 3, 1, 1), 1)), "Heads": "\x01" + writtenCert(chained(5, 2, 3, 1, 1)), "Shared": "\x01"} {
			want := notSafe
			if mode == 2 {
				want = ok
			}
			notRestored(t, name, replaced(s, name, b), want)
		}
		for other := range 6 {
			want := ok
			if mode > 0 && other == 0 || other > 2 {
				want = notSafe
			}
			notRestored(t, "Mode", replaced(s, "Mode", written(other)), want)
		}
	}
}

// TestP19_3_RestoreOfNoVote: a Round without a Block, and the other way round; a Count without a Tip likewise.
func TestP19_3_RestoreOfNoVote(t *testing.T) {
	s := fresh(t, 3)
	for _, name := range []string{"Round", "Block", "Count", "Tip"} {
		for _, n := range []int{1, 2, 1 << 30} {
			notRestored(t, name, replaced(s, name, written(n)), notSafe)
		}
	}
}

// TestP19_3_RestoreOfTexts: that are no blocks, or not those that stand there; a text too long is the reader's error.
func TestP19_3_RestoreOfTexts(t *testing.T) {
	s := full(t)
	for _, name := range []string{"Own0", "Own1", "Own2", "Own3", "Kept"} {
		for _, wrong := range noTexts() {
			want := notSafe
			switch {
			case len(wrong) > 1<<16:
				want = api.ErrMany
			case wrong == "" && name != "Kept":
				want = ok
			}
			notRestored(t, name, replaced(s, name, writtenText(wrong)), want)
		}
		for v := 2; v <= 4; v++ {
			for h := range 4 {
				want := notSafe
				if name == "Kept" || v == 3 && name == "Own"+string(rune('0'+h)) {
					want = ok
				}
				notRestored(t, name, replaced(s, name, writtenText(text(v, 9, h, 7))), want)
			}
		}
	}
	for _, twice := range s.Blocks[1:] {
		notRestored(t, "Blocks", replaced(s, "Kept", writtenText(twice)), notSafe)
	}
	notRestored(t, "Blocks", replaced(s, "Blocks", "\x04"+writtenText(s.Blocks[2])), notSafe)
}

// TestP19_3_RestoreOfPasts: as many sets as there are views behind it.
func TestP19_3_RestoreOfPasts(t *testing.T) {
	for v := 1; v <= 4; v++ {
		for n := range 5 {
			s := safe.Safe{Last: 4, View: v, Past: []uint32{1, 2, 3, 4}[:n]}
			want := notSafe
			if n == v-1 {
				want = ok
			}
			notRestored(t, "Past", snapshotOf(s), want)
		}
	}
}

// TestP19_3_RestoresErrors: which comes first: the reader's.
func TestP19_3_RestoresErrors(t *testing.T) {
	s := full(t)
	for name, b := range map[string]string{"Last": "\x00", "View": "\x09", "Mode": "\x03", "Shared": "\x02", "Kept": "\x01a"} {
		wrong := replaced(s, name, b)
		notRestored(t, name, wrong, notSafe)
		notRestored(t, name, wrong+"\x00", api.ErrTail)
		notRestored(t, name, wrong[:len(wrong)-1], api.ErrCut)
	}
	notRestored(t, "Last", replaced(s, "Last", "\x85\x00"), api.ErrCode)
	notRestored(t, "Set", replaced(s, "Set", "\x85\x00"), api.ErrCode)
	notRestored(t, "High", replaced(s, "High", "\x03")+"\x00", noCert)
}

// bytesOfAll: those of records.
func bytesOfAll(l []safe.Rec) [][]byte {
	var made [][]byte
	for _, r := range l {
		made = append(made, []byte(bytesOf(r)))
	}
	return made
}

// replays: does Replay tell this state, and no error?
func replays(t *testing.T, last int, snapshot string, l []safe.Rec, want safe.Safe) {
	t.Helper()
	s, e := safe.Replay(last, []byte(snapshot), bytesOfAll(l))
	if e != ok || !same(s, want) || !safe.Same(s, want) {
		t.Errorf("Replay of %d records behind % x: %+v, error %d, not %+v", len(l), snapshot, s, e, want)
	}
}

// notReplayed: is this the error, and nothing beside it?
func notReplayed(t *testing.T, last int, snapshot []byte, records [][]byte, want api.Errno) {
	t.Helper()
	if s, e := safe.Replay(last, snapshot, records); e != want || !same(s, safe.Safe{}) {
		t.Errorf("Replay(%d, % x, % x): %+v, error %d, not %d", last, snapshot, records, s, e, want)
	}
}

// TestP19_3_Replay: from the beginning, and from a snapshot at each place in the midst.
func TestP19_3_Replay(t *testing.T) {
	l := append(toFull(), anExit(3, 4), aHigh(regular(8, 4, 8)), anExit(1, 0))
	s := fresh(t, 5)
	replays(t, 5, "", nil, s)
	for i, r := range l {
		replays(t, 5, snapshotOf(s), nil, s)
		s = do(t, s, r, ok)
		replays(t, 5, "", l[:i+1], s)
		for from := range i + 1 {
			mid := all(t, fresh(t, 5), l[:from]...)
			replays(t, 5, snapshotOf(mid), l[from:i+1], s)
		}
	}
	if n, e := safe.Replay(5, nil, bytesOfAll(l)); e != ok || !same(n, s) {
		t.Errorf("Replay: error %d", e)
	}
	if n, e := safe.Replay(5, []byte{}, bytesOfAll(l)); e != ok || !same(n, s) {
		t.Errorf("Replay: error %d", e)
	}
}

// TestP19_3_ReplaysErrors: each, and which comes first.
func TestP19_3_ReplaysErrors(t *testing.T) {
	s := full(t)
	right, other := s.Snapshot(), replaced(s, "Last", "\x06")
	exit, share := []byte(bytesOf(anExit(3, 0))), []byte(bytesOf(a(6)))
	for _, last := range append(ends(), 0, 1<<20+1) {
		notReplayed(t, last, nil, nil, arg)
		notReplayed(t, last, right, [][]byte{exit}, arg)
		notReplayed(t, last, []byte("\x80"), [][]byte{{11}}, arg)
	}
	notReplayed(t, 5, []byte("\x80"), nil, api.ErrCut)
	notReplayed(t, 5, right[:9], [][]byte{{11}}, api.ErrCut)
	notReplayed(t, 5, append(slices.Clone(right), 0), nil, api.ErrTail)
	notReplayed(t, 5, []byte(replaced(s, "Mode", "\x03")), [][]byte{{}}, notSafe)
	for _, last := range []int{1, 2, 3, 4, 6, 7, 1 << 20} {
		notReplayed(t, last, right, nil, notSafe)
		notReplayed(t, last, right, [][]byte{{}}, notSafe)
	}
	notReplayed(t, 5, []byte(other), nil, notSafe)
	replays(t, 6, other, []safe.Rec{anExit(3, 0)}, do(t, func() safe.Safe { n := copied(s); n.Last = 6; return n }(), anExit(3, 0), ok))
	notReplayed(t, 5, right, [][]byte{{}}, api.ErrCut)
	notReplayed(t, 5, right, [][]byte{nil}, api.ErrCut)
	notReplayed(t, 5, right, [][]byte{share}, there)
	notReplayed(t, 5, nil, [][]byte{share}, mod)
	notReplayed(t, 5, right, [][]byte{exit, {11}}, notSafe)
	notReplayed(t, 5, right, [][]byte{exit, append(slices.Clone(exit), 9)}, api.ErrTail)
	// Record by record: what the first may not do is told ahead of what the second isn't.
	notReplayed(t, 5, right, [][]byte{share, {}}, there)
	notReplayed(t, 5, right, [][]byte{{}, share}, api.ErrCut)
	notReplayed(t, 5, right, [][]byte{exit, exit, exit}, halt)
	notReplayed(t, 5, right, [][]byte{exit, share, exit}, mod)
}

// TestP19_3_Same: of states that differ in each single field.
func TestP19_3_Same(t *testing.T) {
	s := full(t)
	changes := []func(s *safe.Safe){
		func(s *safe.Safe) {}, func(s *safe.Safe) { s.Last++ }, func(s *safe.Safe) { s.View++ }, func(s *safe.Safe) { s.Mode-- }, func(s *safe.Safe) { s.Round++ }, func(s *safe.Safe) { s.Block++ },
		func(s *safe.Safe) { s.High.Signers++ }, func(s *safe.Safe) { s.High.Coin++ }, func(s *safe.Safe) { s.High = regular(7, 2, 3) }, func(s *safe.Safe) { s.GaveHigh.Block++ }, func(s *safe.Safe) { s.GaveHigh = api.Cert{} },
		func(s *safe.Safe) { s.Falls = s.Falls[1:] }, func(s *safe.Safe) { s.Falls[1].Block++ }, func(s *safe.Safe) { s.Falls[2].Author++ }, func(s *safe.Safe) { s.Falls[0].Height++ },
		func(s *safe.Safe) { s.Heads = s.Heads[1:] }, func(s *safe.Safe) { s.Heads[1].Round++ }, func(s *safe.Safe) { s.Heads[0].Signers++ }, func(s *safe.Safe) { s.Shared = false },
		func(s *safe.Safe) { s.Own[0] = "" }, func(s *safe.Safe) { s.Own[1] = "" }, func(s *safe.Safe) { s.Own[2] = "" }, func(s *safe.Safe) { s.Own[3] = "" }, func(s *safe.Safe) { s.Own[0], s.Own[1] = s.Own[1], s.Own[0] },
		func(s *safe.Safe) { s.Past[0]++ }, func(s *safe.Safe) { s.Past[1]-- }, func(s *safe.Safe) { s.Past = s.Past[1:] }, func(s *safe.Safe) { s.Past = append(s.Past, 1) }, func(s *safe.Safe) { s.Count++ }, func(s *safe.Safe) { s.Tip++ },
		func(s *safe.Safe) { s.Blocks = s.Blocks[1:] }, func(s *safe.Safe) { s.Blocks = s.Blocks[:2] }, func(s *safe.Safe) { s.Blocks[0], s.Blocks[1] = s.Blocks[1], s.Blocks[0] }, func(s *safe.Safe) { s.Blocks[1] = text(2, 3, 0, 2) },
	}
	for i, change := range changes {
		for k, other := range changes {
			a, b := copied(s), copied(s)
			change(&a)
			other(&b)
			if safe.Same(a, b) != (i == k) {
				t.Errorf("Same of change %d and %d: %v", i, k, i != k)
			}
		}
	}
	for i, a := range states(t) {
		for k, b := range states(t) {
			if safe.Same(a, b) != same(a, b) {
				t.Errorf("Same of state %d and %d: %v", i, k, !same(a, b))
			}
		}
	}
}

// run is a state that steps lead to, with all that was done, and votes that are counted.
type run struct {
	s      safe.Safe
	h      history
	rounds map[[2]int]int
	falls  map[[3]int]int
	told   map[api.Errno]int
}

// started: at the beginning.
func started(t *testing.T, last int) *run {
	t.Helper()
	return &run{fresh(t, last), history{last, nil}, map[[2]int]int{}, map[[3]int]int{}, map[api.Errno]int{}}
}

// step: a record, done or refused as by the second reckoning; no vote is cast twice, and nothing goes down.
func (x *run) step(t *testing.T, r safe.Rec) {
	t.Helper()
	want := why(x.h.state(), r)
	x.told[want]++
	ahead := x.s
	x.s = do(t, x.s, r, want)
	if want == ok {
		x.h.done = append(x.h.done[:len(x.h.done):len(x.h.done)], r)
	}
	if now := x.h.state(); !same(x.s, now) {
		t.Fatalf("behind %+v: %+v, not %+v", r, x.s, now)
	}
	if x.s.View < ahead.View || rank(x.s.High) < rank(ahead.High) || x.s.Count < ahead.Count {
		t.Errorf("behind %+v: %+v is below %+v", r, x.s, ahead)
	}
	if want == ok {
		x.count(t, r, ahead.View)
	}
}

// count: the votes for each round of a view, and for each author's height of a view.
func (x *run) count(t *testing.T, r safe.Rec, view int) {
	t.Helper()
	switch r.Kind {
	case 1:
		x.rounds[[2]int{view, r.Cert.Round}]++
		if x.rounds[[2]int{view, r.Cert.Round}] > 1 {
			t.Errorf("in view %d two votes for round %d", view, r.Cert.Round)
		}
	case 4:
		x.falls[[3]int{view, r.Cert.Author, r.Cert.Height}]++
		if x.falls[[3]int{view, r.Cert.Author, r.Cert.Height}] > 1 {
			t.Errorf("in view %d two votes for height %d of %d", view, r.Cert.Height, r.Cert.Author)
		}
	}
}

// TestP19_4_DrawnRows: long rows of records, held against a second reckoning; made anew of its bytes, from the beginning and from the midst, each is the same.
func TestP19_4_DrawnRows(t *testing.T) {
	told := map[api.Errno]int{}
	for seed := range 120 {
		d, x := &dice{uint64(seed)}, started(t, 1+seed%9)
		for i := range 300 {
			x.step(t, d.rec(x.s))
			if i%25 > 0 {
				continue
			}
			snapshots(t, x.s, snapshotOf(x.s))
			replays(t, x.s.Last, "", x.h.done, x.s)
			from := d.below(len(x.h.done) + 1)
			mid := history{x.h.last, x.h.done[:from]}
			replays(t, x.s.Last, snapshotOf(mid.state()), x.h.done[from:], x.s)
		}
		for e, n := range x.told {
			told[e] += n
		}
	}
	for _, e := range []api.Errno{ok, arg, there, noCert, none, old, notSafe, view, round, low, mod, height, halt} {
		if told[e] < 5 {
			t.Errorf("error %d came only %d times", e, told[e])
		}
	}
	if told[ok] < 3000 {
		t.Errorf("only %d were done", told[ok])
	}
}

// TestP19_4_AllShortRows: all rows of a few records, from the beginning, and from the fallback of view 2 on.
func TestP19_4_AllShortRows(t *testing.T) {
	steps := func(v int) []safe.Rec {
		return []safe.Rec{
			aVote(1, v, 1, api.Cert{}), aVote(2, v, 2, regular(1, v, 1)), aVote(3, v, 2, regular(1, 1, 1)), a(2), a(3), aFall(4, v, 2, 1, 0, regular(1, v, 1)), aFall(5, v, 3, 2, 0, chained(4, v, 2, 1, 0)),
			aFall(6, v, 4, 3, 1, chained(7, v, 2, 1, 1)), aFall(8, v, 3, 2, 1, chained(9, v, 3, 2, 1)), aHigh(regular(1, v, 1)), aHigh(endorsed(9, v, 2, 2, 2)), a(6), anExit(3, 0), anExit(6, 1), aCommit(1, 1),
			anOwn(text(v, 2, 0, 1)), anOwn(text(v, 2, 1, 1)), aKeep(text(1, 1, 0, 0)),
		}
	}
	var walk func(x run, l []safe.Rec, left int)
	walk = func(x run, l []safe.Rec, left int) {
		for _, r := range l {
			next := x
			next.rounds, next.falls = map[[2]int]int{}, map[[3]int]int{}
			for k, n := range x.rounds {
				next.rounds[k] = n
			}
			for k, n := range x.falls {
				next.falls[k] = n
			}
			done := len(x.h.done)
			next.step(t, r)
			if left > 1 && len(next.h.done) > done {
				walk(next, l, left-1)
			}
		}
	}
	walk(*started(t, 2), steps(1), 5)
	x := started(t, 3)
	x.step(t, anExit(1, 0))
	walk(*x, steps(2), 3)
	x.step(t, a(3))
	walk(*x, steps(2), 4)
}

// TestP19_4_NoSecondVote: whatever records come between.
func TestP19_4_NoSecondVote(t *testing.T) {
	between := [][]safe.Rec{nil, {aHigh(regular(1, 1, 9))}, {aHigh(endorsed(1, 1, 9, 1, 1))}, {aCommit(9, 9)}, {anOwn(text(1, 9, 0, 1)), aKeep(text(1, 9, 0, 1))}, {aVote(9, 1, 9, regular(8, 1, 8))}, {a(2)}, {a(3)}, {a(2), a(3), a(6)}}
	for _, l := range between {
		s := all(t, fresh(t, 3), aVote(5, 1, 5, regular(4, 1, 4)))
		s = all(t, s, l...)
		for n := 1; n <= 5; n++ {
			for block := 1; block <= 6; block++ {
				for _, p := range []api.Cert{regular(9, 1, max(1, n-1)), regular(9, 3, max(1, n-1)), endorsed(9, 2, max(1, n-1), 3, 3)} {
					if _, e := s.Do(aVote(block, 1, n, p)); e == ok {
						t.Errorf("behind %+v a vote for round %d", l, n)
					}
				}
			}
		}
	}
	s := all(t, fresh(t, 3), a(3), aFall(5, 1, 5, 2, 4, api.Cert{}), aFall(7, 1, 6, 3, 3, chained(8, 1, 5, 2, 3)), a(6), aHigh(endorsed(1, 1, 9, 1, 1)), aFall(8, 1, 1, 1, 5, api.Cert{}))
	for h := 1; h <= 2; h++ {
		do(t, s, aFall(5, 1, 5, h, 4, api.Cert{}), height)
		do(t, s, aFall(6, 1, 50, h, 4, chained(4, 1, 49, 1, 4)), height)
	}
	n, e := safe.Replay(3, s.Snapshot(), bytesOfAll([]safe.Rec{aCommit(1, 1)}))
	if e != ok {
		t.Fatalf("Replay: error %d", e)
	}
	do(t, n, aFall(6, 1, 50, 2, 4, chained(4, 1, 49, 1, 4)), height)
}

// TestR1_AllCallsEnd: whatever numbers and texts they are given.
func TestR1_AllCallsEnd(t *testing.T) {
	l := append(ends(), 0, 1, 2, 3, 4, 5, 6, 7, 8, 9, 10, 11)
	d := &dice{3}
	some := func() int { return l[d.below(len(l))] }
	c := func() api.Cert {
		if d.odd(3) {
			return d.cert(3)
		}
		return api.Cert{Kind: some(), Block: some(), View: some(), Round: some(), Height: some(), Author: some(), Signers: uint32(some()), Coin: uint32(some())}
	}
	kept := full(t)
	for range 20000 {
		r := safe.Rec{Kind: some(), Cert: c(), Parent: c(), Set: uint32(some()), Author: some(), Count: some(), Block: some(), Text: noTexts()[d.below(6)]}
		for _, x := range []safe.Rec{r, {Kind: r.Kind, Cert: r.Cert, Parent: r.Parent}, {Kind: r.Kind, Cert: r.Cert}, {Kind: r.Kind, Set: r.Set, Author: r.Author}, {Kind: r.Kind, Count: r.Count, Block: r.Block}, {Kind: r.Kind, Text: r.Text}} {
			do(t, kept, x, why(kept, x))
			if b, e := safe.Bytes(x); e != wrong(x) || e == ok && string(b) != bytesOf(x) {
				t.Errorf("Bytes(%+v): % x, error %d", x, b, e)
			}
		}
		kept.Fell(some())
		kept.Head(some())
		s, e := safe.New(some())
		if e == ok {
			s.Do(r)
		}
	}
}

// TestR1_OfAnyState: of one that no call made, each call ends.
func TestR1_OfAnyState(t *testing.T) {
	d := &dice{5}
	l := append(ends(), 0, 1, 2, 3)
	some := func() int { return l[d.below(len(l))] }
	for range 3000 {
		s := safe.Safe{Last: some(), View: some(), Mode: some(), Round: some(), Block: some(), High: api.Cert{Kind: some(), View: some()}, GaveHigh: api.Cert{Kind: some()}, Count: some(), Tip: some()}
		for range d.below(3) {
			s.Falls, s.Heads = append(s.Falls, api.Cert{Author: some(), Height: some()}), append(s.Heads, api.Cert{Author: some(), Kind: some()})
			s.Past, s.Blocks = append(s.Past, uint32(some())), append(s.Blocks, noTexts()[d.below(11)])
			s.Own[d.below(4)] = noTexts()[d.below(11)]
		}
		for _, r := range rights() {
			s.Do(r)
		}
		s.Fell(some())
		s.Head(some())
		safe.Same(s, safe.Safe{})
		safe.Restore(s.Snapshot())
		safe.Replay(some(), s.Snapshot(), [][]byte{s.Snapshot()})
	}
}

// TestR1_OfAnyBytes: drawn ones.
func TestR1_OfAnyBytes(t *testing.T) {
	d := &dice{9}
	for range 30000 {
		b := make([]byte, d.below(60))
		for i := range b {
			b[i] = byte(d.below([]int{256, 4, 12}[i%3]))
		}
		parses(t, string(b))
		restores(t, string(b))
		safe.Replay(1+d.below(5), b[:d.below(len(b)+1)], [][]byte{b, nil})
	}
}

// TestR3_NilAndEmpty: lists without items are alike.
func TestR3_NilAndEmpty(t *testing.T) {
	s := fresh(t, 3)
	x := s
	x.Falls, x.Heads, x.Past, x.Blocks = []api.Cert{}, []api.Cert{}, []uint32{}, []string{}
	if !safe.Same(s, x) || string(s.Snapshot()) != string(x.Snapshot()) {
		t.Errorf("nil and empty lists differ")
	}
	for _, r := range rights() {
		n, e := s.Do(r)
		if m, f := x.Do(r); e != f || !same(n, m) {
			t.Errorf("Do(%+v): %+v, error %d, and %+v, error %d", r, n, e, m, f)
		}
	}
}

// scribble: changes all that a state's lists hold, also behind their ends.
func scribble(s safe.Safe) {
	for i := range s.Falls[:cap(s.Falls)] {
		s.Falls[:cap(s.Falls)][i] = api.Cert{Kind: -7}
	}
	for i := range s.Heads[:cap(s.Heads)] {
		s.Heads[:cap(s.Heads)][i] = api.Cert{Kind: -7}
	}
	for i := range s.Past[:cap(s.Past)] {
		s.Past[:cap(s.Past)][i] = 7777
	}
	for i := range s.Blocks[:cap(s.Blocks)] {
		s.Blocks[:cap(s.Blocks)][i] = "scribbled"
	}
}

// roomy: a state whose lists have room behind their ends.
func roomy(s safe.Safe) safe.Safe {
	s = copied(s)
	s.Falls, s.Heads, s.Past, s.Blocks = slices.Grow(s.Falls, 9), slices.Grow(s.Heads, 9), slices.Grow(s.Past, 9), slices.Grow(s.Blocks, 9)
	return s
}

// changers: records each of which may be done in the full state.
func changers() []safe.Rec {
	return []safe.Rec{aFall(60, 3, 9, 3, 1, chained(61, 3, 8, 2, 1)), aFall(60, 3, 9, 3, 2, chained(61, 3, 8, 2, 2)), aFall(60, 3, 9, 3, 9, api.Cert{}), aHigh(regular(9, 4, 1)), anExit(9, 1), anExit(9, 0), aCommit(5, 70), anOwn(text(3, 5, 0, 7)), aKeep(text(3, 5, 0, 7))}
}

// TestR4_StatesAreApart: what is written into one's lists, or behind their ends, is nothing to the other.
func TestR4_StatesAreApart(t *testing.T) {
	for _, r := range changers() {
		s := roomy(full(t))
		want := do(t, full(t), r, ok)
		n := do(t, s, r, ok)
		if scribble(n); !same(s, fullByHand()) {
			t.Errorf("Do(%+v): a change of the new state is one of the old", r)
		}
		n = do(t, s, r, ok)
		m := do(t, s, r, ok)
		if scribble(m); !same(n, want) {
			t.Errorf("Do(%+v): a change of one new state is one of another", r)
		}
		if scribble(s); !same(n, want) {
			t.Errorf("Do(%+v): a change of the old state is one of the new", r)
		}
	}
}

// TestR4_RoomBehindTheEnd: it stays as it is.
func TestR4_RoomBehindTheEnd(t *testing.T) {
	for _, r := range changers() {
		s := roomy(full(t))
		marked := s
		marked.Falls, marked.Heads = append(s.Falls, chained(99, 1, 1, 1, 1)), append(s.Heads, chained(98, 1, 1, 1, 1))
		marked.Past, marked.Blocks = append(s.Past, 97), append(s.Blocks, "96")
		kept := copied(marked)
		do(t, s, r, ok)
		s.Snapshot()
		if !same(marked, kept) {
			t.Errorf("Do(%+v): the room behind the lists' ends is written to", r)
		}
	}
}

// TestR4_ListsOfOneState: no two share memory, and Falls and Heads aren't one list.
func TestR4_ListsOfOneState(t *testing.T) {
	for _, s := range []safe.Safe{do(t, full(t), aFall(60, 3, 9, 3, 2, chained(61, 3, 8, 2, 2)), ok), full(t)} {
		n, e := safe.Restore(s.Snapshot())
		if e != ok {
			t.Fatalf("Restore: error %d", e)
		}
		for _, x := range []safe.Safe{s, n} {
			heads := slices.Clone(x.Heads)
			for i := range x.Falls[:cap(x.Falls)] {
				x.Falls[:cap(x.Falls)][i] = api.Cert{}
			}
			if !slices.Equal(x.Heads, heads) {
				t.Errorf("Falls and Heads share memory")
			}
		}
	}
}

// TestR4_BytesAreTheCallers: what is told and handed in may be changed.
func TestR4_BytesAreTheCallers(t *testing.T) {
	s := full(t)
	b := s.Snapshot()
	n, e := safe.Restore(b)
	m, f := safe.Replay(5, b, bytesOfAll(changers()[:1]))
	clear(b)
	if e != ok || f != ok || !same(n, s) || !same(m, do(t, s, changers()[0], ok)) || !same(s, fullByHand()) || string(s.Snapshot()) != snapshotOf(s) {
		t.Errorf("a change of the bytes is one of the state")
	}
	if scribble(n); !same(s, fullByHand()) {
		t.Errorf("a change of what is restored is one of the state")
	}
	for _, r := range rights() {
		b, _ := safe.Bytes(r)
		x, e := safe.Parse(b)
		clear(b[:cap(b)])
		if c, f := safe.Bytes(r); x != r || e != ok || string(c) != bytesOf(r) || f != ok {
			t.Errorf("behind a change of the bytes of %+v: %+v", r, x)
		}
	}
}

// TestR4_RecordsOfAReplay: they stay as they are, and may be changed behind it.
func TestR4_RecordsOfAReplay(t *testing.T) {
	records := bytesOfAll(toFull())
	s, e := safe.Replay(5, nil, records)
	for i, b := range records {
		if string(b) != bytesOf(toFull()[i]) {
			t.Errorf("record %d is changed", i)
		}
		clear(b)
	}
	if e != ok || !same(s, fullByHand()) {
		t.Errorf("behind a change of the records: %+v, error %d", s, e)
	}
}

// loose: a text whose bytes may be changed, by a call.
func loose(s string) (string, func()) {
	b := []byte(s)
	return unsafe.String(unsafe.SliceData(b), len(b)), func() { clear(b) }
}

// TestR4_TextsAreKeptApart: of a text that is handed in no memory is kept.
func TestR4_TextsAreKeptApart(t *testing.T) {
	s, change := loose(text(1, 1, 0, 0))
	n := all(t, fresh(t, 1), anOwn(s), aKeep(s))
	change()
	if n.Own[0] != text(1, 1, 0, 0) || n.Blocks[0] != text(1, 1, 0, 0) {
		t.Errorf("behind a change of the text: %q, %q", n.Own[0], n.Blocks[0])
	}
}

// texts: where all texts of a state lie.
func texts(s safe.Safe) []*byte {
	var l []*byte
	for _, x := range append(slices.Clone(s.Own[:]), s.Blocks...) {
		if x != "" {
			l = append(l, unsafe.StringData(x))
		}
	}
	return l
}

// TestR4_TextsOfStates: no memory of one state's texts lies in another's.
func TestR4_TextsOfStates(t *testing.T) {
	s := full(t)
	for _, r := range changers() {
		n := do(t, s, r, ok)
		seen := map[*byte]int{}
		for _, at := range append(texts(s), texts(n)...) {
			if seen[at]++; seen[at] > 1 {
				t.Errorf("Do(%+v): a text lies in both states, or twice in one", r)
			}
		}
	}
}

// TestR6_NothingIsKept: calls in between, refused ones too, change no answer.
func TestR6_NothingIsKept(t *testing.T) {
	want := fullByHand()
	for _, r := range append(rights(), changers()...) {
		full(t).Do(r)
		safe.Bytes(r)
		safe.Parse([]byte(bytesOf(r) + "x"))
		safe.Replay(5, []byte("x"), [][]byte{[]byte(bytesOf(r))})
		if s := full(t); !same(s, want) {
			t.Fatalf("behind %+v: %+v", r, s)
		}
	}
}

// TestR6_SideBySide: several at once, of one state.
func TestR6_SideBySide(t *testing.T) {
	s := full(t)
	var all sync.WaitGroup
	for seed := range 8 {
		all.Go(func() {
			d, h := &dice{uint64(seed)}, history{5, toFull()}
			n := s
			for range 40 {
				r := d.rec(n)
				want := why(h.state(), r)
				m, e := n.Do(r)
				if e != want {
					t.Errorf("Do(%+v): error %d, not %d", r, e, want)
				}
				if e == ok {
					n, h.done = m, append(h.done, r)
				}
				if !same(n, h.state()) || string(n.Snapshot()) != snapshotOf(n) {
					t.Errorf("behind %+v: %+v", r, n)
				}
			}
		})
	}
	all.Wait()
	if !same(s, fullByHand()) {
		t.Errorf("%+v", s)
	}
}

// TestP19_BlocksAreBlocks: the texts of which these tests are made are those that they should be.
func TestP19_BlocksAreBlocks(t *testing.T) {
	for v := 1; v <= 3; v++ {
		for r := 2; r <= 5; r++ {
			for h := range 4 {
				if b, e := block.Parse(text(v, r, h, 4)); e != ok || b.View != v || b.Round != r || b.Height != h || b.Author != 4 {
					t.Errorf("text(%d, %d, %d): %+v, error %d", v, r, h, b, e)
				}
			}
		}
	}
	for _, s := range noTexts() {
		if _, e := block.Parse(s); e == ok {
			t.Errorf("%q is a block", s)
		}
	}
}
