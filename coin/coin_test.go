package coin_test

import (
	"math"
	"slices"
	"testing"

	"hallmoot/api"
	"hallmoot/coin"
	"hallmoot/sign"
)

// all: how many replicas there are, reckoned without the layers below.
func all(f int) int { return 3*f + 1 }

// made: the set of these.
func made(l ...int) uint32 {
	set := uint32(0)
	for _, k := range l {
		set |= 1 << k
	}
	return set
}

// full: the set of all replicas.
func full(f int) uint32 { return 1<<all(f) - 1 }

// size: how many are in a set.
func size(set uint32) int {
	n := 0
	for k := range 32 {
		n += int(set >> k & 1)
	}
	return n
}

// badSets: all sets of bad replicas that may be.
func badSets(f int) []uint32 {
	var l []uint32
	for set := range full(f) + 1 {
		if size(set) <= f {
			l = append(l, set)
		}
	}
	return l
}

// views: some that have a coin, with both ends.
func views() []int {
	return []int{1, 2, 3, 4, 5, 6, 7, 9, 10, 11, 13, 100, 1 << 10, api.MaxView / 2, api.MaxView - 1, api.MaxView}
}

// noViews: some that have none.
func noViews() []int {
	return []int{0, -1, -2, -4, -api.MaxView, -1 << 32, 1 - 1<<32, math.MinInt, math.MinInt + 1,
		api.MaxView + 1, api.MaxView + 2, 2 * api.MaxView, 1 << 31, 1 << 32, 1<<32 + 1, 1 << 62, math.MaxInt, math.MaxInt - 1}
}

// noReplicas: numbers of none of the replicas of an F.
func noReplicas(f int) []int {
	return []int{all(f), all(f) + 1, 2 * all(f), 10, 31, 32, 33, 64, 1 << 31, 1 << 32, 1<<32 + 1,
		-1, -2, -all(f), -32, -1 << 32, math.MaxInt, math.MinInt, math.MinInt + 1}
}

// otherFs: numbers that are no F.
func otherFs() []int {
	return []int{0, 4, -1, -2, -3, 5, 10, 31, 32, 1 << 31, 1 << 32, 1<<32 + 1, math.MaxInt, math.MaxInt - 1, math.MinInt, math.MinInt + 1}
}

// modulo: whom the coin of a view elects that nobody chose.
func modulo(f, view int) int { return view % all(f) }

// coins: of an F that may be.
func coins(t *testing.T, f int) *coin.Coin {
	t.Helper()
	c, e := coin.New(f)
	if c == nil || e != api.OK {
		t.Fatalf("New(%d): error %d", f, e)
	}
	return c
}

// register: of shares.
func register(t *testing.T, f int, bad uint32) *sign.Sign {
	t.Helper()
	s, e := sign.New(f, bad)
	if s == nil || e != api.OK {
		t.Fatalf("sign.New(%d, %#x): error %d", f, bad, e)
	}
	return s
}

// stmt: a view's statement, made without the package.
func stmt(view int) api.Stmt { return api.Stmt{Kind: api.SCoin, View: view} }

// issue: the shares of a set of a view's coin.
func issue(t *testing.T, s *sign.Sign, view int, set uint32) {
	t.Helper()
	for k := range 32 {
		if set>>k&1 == 0 {
			continue
		}
		if e := s.Issue(api.Share{Signer: k, Stmt: stmt(view)}); e != api.OK {
			t.Fatalf("Issue by %d of view %d: %d", k, view, e)
		}
	}
}

// ready: coins of an F, and a register in which all have issued their shares of the views.
func ready(t *testing.T, f int, l ...int) (*coin.Coin, *sign.Sign) {
	t.Helper()
	c, s := coins(t, f), register(t, f, 0)
	for _, view := range l {
		issue(t, s, view, full(f))
	}
	return c, s
}

// choose: whom a coin elects, of which this error is expected.
func choose(t *testing.T, c *coin.Coin, view, who int, want api.Errno) {
	t.Helper()
	if e := c.Choose(view, who); e != want {
		t.Errorf("Choose(%d, %d): %d, not %d", view, who, e, want)
	}
}

// elects: is a coin seen, and does it elect this one?
func elects(t *testing.T, c *coin.Coin, s *sign.Sign, view int, set uint32, want int) {
	t.Helper()
	if who, e := c.See(s, view, set); who != want || e != api.OK {
		t.Errorf("See(%d, %#x): %d, error %d, not %d", view, set, who, e, want)
	}
	seen(t, c, view, true)
}

// unseen: is this error told, and 0 beside it?
func unseen(t *testing.T, c *coin.Coin, s *sign.Sign, view int, set uint32, want api.Errno) {
	t.Helper()
	if who, e := c.See(s, view, set); who != 0 || e != want {
		t.Errorf("See(%d, %#x): %d, error %d, not error %d", view, set, who, e, want)
	}
}

// seen: was it, as is expected?
func seen(t *testing.T, c *coin.Coin, view int, want bool) {
	t.Helper()
	if c.Seen(view) != want {
		t.Errorf("Seen(%d): %t", view, !want)
	}
}

func TestP7_1_Stmt(t *testing.T) {
	unlike := map[api.Stmt]int{}
	for _, view := range views() {
		got := coin.Stmt(view)
		if want := (api.Stmt{Kind: 5, View: view}); got != want {
			t.Errorf("Stmt(%d): %v, not %v", view, got, want)
		}
		unlike[got]++
	}
	if len(unlike) != len(views()) {
		t.Errorf("%d statements of %d views", len(unlike), len(views()))
	}
}

func TestP7_1_StmtOfNoView(t *testing.T) {
	for _, view := range noViews() {
		if got := coin.Stmt(view); got != stmt(view) {
			t.Errorf("Stmt(%d): %v", view, got)
		}
	}
}

func TestP7_1_New(t *testing.T) {
	for f := 1; f <= 3; f++ {
		c := coins(t, f)
		for _, view := range slices.Concat(views(), noViews()) {
			seen(t, c, view, false)
		}
		// None is chosen either: each may be.
		for _, view := range views() {
			choose(t, c, view, all(f)-1, api.OK)
		}
	}
}

func TestP7_1_NewOfAnotherF(t *testing.T) {
	for _, f := range otherFs() {
		if c, e := coin.New(f); c != nil || e != api.ErrArg {
			t.Errorf("New(%d): %v, %d", f, c, e)
		}
	}
}

func TestP7_1_Choose(t *testing.T) {
	for f := 1; f <= 3; f++ {
		c, s := ready(t, f, views()...)
		for n, view := range views() {
			// 3 has nothing in common with 4, 7 and 10: all come, out of order.
			choose(t, c, view, n*3%all(f), api.OK)
			seen(t, c, view, false)
		}
		for n, view := range views() {
			elects(t, c, s, view, full(f), n*3%all(f))
		}
	}
}

func TestP7_1_ChooseEachReplica(t *testing.T) {
	for f := 1; f <= 3; f++ {
		for who := range all(f) {
			c, s := ready(t, f, 1, 6, api.MaxView)
			for _, view := range []int{1, 6, api.MaxView} {
				choose(t, c, view, who, api.OK)
				elects(t, c, s, view, full(f), who)
			}
		}
	}
}

func TestP7_1_ChooseOfNoView(t *testing.T) {
	for f := 1; f <= 3; f++ {
		c, s := ready(t, f, 1, api.MaxView)
		for _, view := range noViews() {
			// The view is looked at first, whether or not it is a replica.
			for _, who := range append(noReplicas(f), 0, 1, all(f)-1) {
				choose(t, c, view, who, api.ErrCoin)
				choose(t, c, view, who, api.ErrCoin)
			}
			seen(t, c, view, false)
		}
		elects(t, c, s, 1, full(f), 1)
		elects(t, c, s, api.MaxView, full(f), modulo(f, api.MaxView))
	}
}

func TestP7_1_ChooseWhoIsNoReplica(t *testing.T) {
	for f := 1; f <= 3; f++ {
		c, s := ready(t, f, views()...)
		for _, view := range views() {
			for _, who := range noReplicas(f) {
				choose(t, c, view, who, api.ErrSigner)
				seen(t, c, view, false)
			}
		}
		// Whoever was refused wasn't chosen: half of them are chosen now, the others go by the view.
		for n, view := range views() {
			want := modulo(f, view)
			if n%2 == 0 {
				want = all(f) - 1
				choose(t, c, view, want, api.OK)
			}
			elects(t, c, s, view, full(f), want)
		}
	}
}

func TestP7_1_ChooseTheFirstAndTheLastReplica(t *testing.T) {
	for f := 1; f <= 3; f++ {
		c, s := ready(t, f, 2, 3)
		choose(t, c, 2, -1, api.ErrSigner)
		choose(t, c, 2, 0, api.OK)
		choose(t, c, 3, all(f), api.ErrSigner)
		choose(t, c, 3, all(f)-1, api.OK)
		elects(t, c, s, 2, full(f), 0)
		elects(t, c, s, 3, full(f), all(f)-1)
	}
}

func TestP7_1_ChooseAgain(t *testing.T) {
	for f := 1; f <= 3; f++ {
		c, s := ready(t, f, views()...)
		for _, view := range views() {
			choose(t, c, view, 2, api.OK)
			for who := range all(f) {
				choose(t, c, view, who, api.ErrThere)
			}
			// Who is no replica is told first.
			choose(t, c, view, -1, api.ErrSigner)
			choose(t, c, view, all(f), api.ErrSigner)
			seen(t, c, view, false)
			elects(t, c, s, view, full(f), 2)
			choose(t, c, view, 1, api.ErrThere)
			elects(t, c, s, view, full(f), 2)
		}
	}
}

func TestP7_1_ChooseWhatWasSeen(t *testing.T) {
	for f := 1; f <= 3; f++ {
		c, s := ready(t, f, views()...)
		for _, view := range views() {
			elects(t, c, s, view, full(f), modulo(f, view))
			for who := range all(f) {
				// Whom it elects anyhow, too.
				choose(t, c, view, who, api.ErrThere)
			}
			choose(t, c, view, all(f), api.ErrSigner)
			elects(t, c, s, view, full(f), modulo(f, view))
		}
	}
}

func TestP7_1_ChooseWhatWasSeenInVain(t *testing.T) {
	c, s := coins(t, 1), register(t, 1, made(3))
	unseen(t, c, s, 6, made(3), api.ErrFew)
	unseen(t, c, s, 6, made(0, 3), api.ErrForged)
	// Nobody saw it: it may still be chosen.
	choose(t, c, 6, 1, api.OK)
	issue(t, s, 6, made(0))
	elects(t, c, s, 6, made(0, 3), 1)
}

func TestP7_2_Examples(t *testing.T) {
	c, s := coins(t, 1), register(t, 1, 0)
	issue(t, s, 6, made(1, 3))
	elects(t, c, s, 6, made(1, 3), 2)
}

func TestP7_2_ByTheView(t *testing.T) {
	for f := 1; f <= 3; f++ {
		c, s := coins(t, f), register(t, f, 0)
		elected := uint32(0)
		for view := 1; view <= 2*all(f); view++ {
			issue(t, s, view, full(f))
			elects(t, c, s, view, full(f), modulo(f, view))
			elected |= made(modulo(f, view))
		}
		if elected != full(f) {
			t.Errorf("F %d: %b were elected", f, elected)
		}
	}
	// The greatest view, by hand: 1048576 modulo 4, 7, 10.
	for f, want := range map[int]int{1: 0, 2: 4, 3: 6} {
		c, s := ready(t, f, api.MaxView)
		elects(t, c, s, api.MaxView, full(f), want)
	}
}

func TestP7_2_SeeOfNoView(t *testing.T) {
	for f := 1; f <= 3; f++ {
		c, s := ready(t, f, noViews()...)
		for _, view := range noViews() {
			// Ahead of the register and of the set, whether or not they could be.
			for _, r := range []*sign.Sign{s, nil, register(t, f%3+1, 0)} {
				for _, set := range []uint32{0, made(0), full(f), math.MaxUint32} {
					unseen(t, c, r, view, set, api.ErrCoin)
				}
			}
			seen(t, c, view, false)
		}
	}
}

func TestP7_2_EachSet(t *testing.T) {
	for f := 1; f <= 3; f++ {
		last := all(f) - 1
		for _, bad := range []uint32{0, made(0), made(last)} {
			s := register(t, f, bad)
			// All but two, who may be bad, issue shares.
			good := full(f) &^ made(0, last)
			issue(t, s, 9, good)
			for set := range full(f) + 1 {
				c := coins(t, f)
				switch {
				case set&^(good|bad) != 0:
					unseen(t, c, s, 9, set, api.ErrForged)
					seen(t, c, 9, false)
				case size(set) <= f:
					unseen(t, c, s, 9, set, api.ErrFew)
					seen(t, c, 9, false)
				default:
					elects(t, c, s, 9, set, modulo(f, 9))
				}
			}
		}
	}
}

func TestP7_2_JustEnough(t *testing.T) {
	for _, x := range []struct {
		f         int
		few, some uint32
	}{{1, 1, 3}, {1, 8, 12}, {2, 3, 7}, {2, 0x60, 0x61}, {3, 7, 15}, {3, 0x380, 0x381}} {
		c, s := ready(t, x.f, 5)
		unseen(t, c, s, 5, 0, api.ErrFew)
		unseen(t, c, s, 5, x.few, api.ErrFew)
		seen(t, c, 5, false)
		elects(t, c, s, 5, x.some, modulo(x.f, 5))
		// What was seen by enough isn't seen by fewer, but stays seen.
		unseen(t, c, s, 5, x.few, api.ErrFew)
		seen(t, c, 5, true)
	}
}

func TestP7_2_ASetWithNoReplica(t *testing.T) {
	for f := 1; f <= 3; f++ {
		c, s := coins(t, f), register(t, f, made(1))
		issue(t, s, 4, full(f)&^made(0, 1))
		for k := all(f); k < 32; k++ {
			// Alone, beside too few, beside enough, beside what is forged, beside all.
			for _, set := range []uint32{made(k), made(1, k), full(f)&^made(0) | made(k), made(0, k), full(f) | made(k), math.MaxUint32} {
				unseen(t, c, s, 4, set, api.ErrSigner)
				seen(t, c, 4, false)
			}
		}
		elects(t, c, s, 4, full(f)&^made(0), modulo(f, 4))
	}
}

func TestP7_2_ForgedAheadOfFew(t *testing.T) {
	for f := 1; f <= 3; f++ {
		c, s := coins(t, f), register(t, f, made(1))
		issue(t, s, 4, made(2))
		unseen(t, c, s, 4, made(0), api.ErrForged)
		unseen(t, c, s, 4, full(f), api.ErrForged)
		unseen(t, c, s, 4, made(1), api.ErrFew)
		unseen(t, c, s, 4, 0, api.ErrFew)
		seen(t, c, 4, false)
	}
}

// TestP7_2_SharesOfOtherStatements: those of another view, and those of another kind of this one, don't help.
func TestP7_2_SharesOfOtherStatements(t *testing.T) {
	for f := 1; f <= 3; f++ {
		c, s := ready(t, f, 5, 7, 0, -6, 6+1<<32)
		for _, x := range []api.Stmt{
			{Kind: api.SVote, View: 6}, {Kind: api.STimeout, View: 6}, {Kind: api.SFall, View: 6}, {Kind: api.SPropose, View: 6}, {View: 6},
			{Kind: api.SCoin, View: 6, Round: 1}, {Kind: api.SCoin, View: 6, Author: 2}, {Kind: api.SCoin, View: 6, HView: 6},
		} {
			for k := range all(f) {
				s.Issue(api.Share{Signer: k, Stmt: x})
			}
		}
		for set := range full(f) + 1 {
			want := api.ErrForged
			if set == 0 {
				want = api.ErrFew
			}
			unseen(t, c, s, 6, set, want)
		}
		seen(t, c, 6, false)
		issue(t, s, 6, full(f))
		elects(t, c, s, 6, full(f), modulo(f, 6))
	}
}

func TestP7_2_SeenOneByOne(t *testing.T) {
	for f := 1; f <= 3; f++ {
		c, s := ready(t, f, views()...)
		for n, view := range views() {
			elects(t, c, s, view, full(f), modulo(f, view))
			for m, other := range views() {
				seen(t, c, other, m <= n)
			}
			for _, none := range noViews() {
				seen(t, c, none, false)
			}
		}
	}
}

func TestP7_2_NilRegister(t *testing.T) {
	for f := 1; f <= 3; f++ {
		c, s := ready(t, f, 2, 3)
		choose(t, c, 3, 0, api.OK)
		for _, view := range []int{1, 2, 3, api.MaxView} {
			for _, set := range []uint32{0, made(0), full(f), made(all(f)), math.MaxUint32} {
				unseen(t, c, nil, view, set, api.ErrNil)
				seen(t, c, view, false)
			}
		}
		elects(t, c, s, 2, full(f), modulo(f, 2))
		elects(t, c, s, 3, full(f), 0)
		// What was seen isn't told without a register either.
		unseen(t, c, nil, 3, full(f), api.ErrNil)
		seen(t, c, 3, true)
	}
}

func TestP7_2_ARegisterOfAnotherF(t *testing.T) {
	for f := 1; f <= 3; f++ {
		for g := 1; g <= 3; g++ {
			if f == g {
				continue
			}
			c, s := ready(t, f, 2)
			r := register(t, g, made(0))
			issue(t, r, 2, full(g)&^made(1))
			// Enough of either F, too few, forged, and of no replica of one F or both.
			for _, set := range []uint32{0xd, full(g) &^ made(1), full(f) &^ made(1), 0, made(0), made(0, 1), full(f), full(g), math.MaxUint32} {
				unseen(t, c, r, 2, set, api.ErrArg)
				seen(t, c, 2, false)
			}
			elects(t, c, s, 2, full(f), 2)
			unseen(t, c, r, 2, 0xd, api.ErrArg)
			seen(t, c, 2, true)
		}
	}
}

func TestP7_2_NilCoin(t *testing.T) {
	var c *coin.Coin
	_, s := ready(t, 1, views()...)
	for _, view := range slices.Concat(views(), noViews()) {
		for _, who := range append(noReplicas(1), 0, 1, 2, 3) {
			choose(t, c, view, who, api.ErrNil)
		}
		for _, set := range []uint32{0, 1, 3, full(1), 1 << 31, math.MaxUint32} {
			unseen(t, c, s, view, set, api.ErrNil)
			unseen(t, c, nil, view, set, api.ErrNil)
		}
		seen(t, c, view, false)
	}
}

// refuse: calls that are refused, all of them.
func refuse(t *testing.T, c *coin.Coin, s *sign.Sign, view int) {
	t.Helper()
	f := s.F()
	for _, none := range noViews() {
		choose(t, c, none, 1, api.ErrCoin)
		unseen(t, c, s, none, full(f), api.ErrCoin)
	}
	for _, who := range noReplicas(f) {
		choose(t, c, view, who, api.ErrSigner)
	}
	unseen(t, c, nil, view, full(f), api.ErrNil)
	unseen(t, c, register(t, f%3+1, 0), view, full(f), api.ErrArg)
	unseen(t, c, s, view, full(f)|made(all(f)), api.ErrSigner)
	unseen(t, c, s, view, full(f), api.ErrForged)
	unseen(t, c, s, view, made(1), api.ErrFew)
}

func TestP7_2_WhatIsRefusedChangesNothing(t *testing.T) {
	for f := 1; f <= 3; f++ {
		c, s := coins(t, f), register(t, f, made(1))
		// Replica 0 issues nothing.
		good := full(f) &^ made(0, 1)
		issue(t, s, 2, good)
		issue(t, s, 3, good)
		issue(t, s, 4, good)
		shares := s.Shares()
		choose(t, c, 3, all(f)-1, api.OK)
		elects(t, c, s, 4, good, modulo(f, 4))
		for view := 2; view <= 4; view++ {
			refuse(t, c, s, view)
			seen(t, c, 2, false)
			seen(t, c, 3, false)
			seen(t, c, 4, true)
		}
		choose(t, c, 3, 1, api.ErrThere)
		choose(t, c, 4, 1, api.ErrThere)
		choose(t, c, 2, 1, api.OK)
		elects(t, c, s, 2, good, 1)
		elects(t, c, s, 3, good, all(f)-1)
		elects(t, c, s, 4, good, modulo(f, 4))
		if !slices.Equal(s.Shares(), shares) || s.F() != f || s.Bad() != made(1) {
			t.Errorf("F %d: the register is another one: %v, not %v", f, s.Shares(), shares)
		}
	}
}

func TestP7_1_TwoCoins(t *testing.T) {
	a, s := ready(t, 1, 2, 3, 5)
	b := coins(t, 1)
	if a == b {
		t.Fatal("New twice: the same coins")
	}
	choose(t, a, 2, 3, api.OK)
	choose(t, b, 2, 1, api.OK)
	elects(t, a, s, 2, made(0, 1), 3)
	seen(t, b, 2, false)
	elects(t, b, s, 2, made(0, 1), 1)
	elects(t, a, s, 3, made(0, 1), 3)
	choose(t, b, 3, 0, api.OK)
	elects(t, b, s, 3, made(0, 1), 0)
	elects(t, a, s, 3, made(0, 1), 3)
	// Of another F: other replicas, other registers.
	c, r := ready(t, 3, 2, 5)
	choose(t, c, 2, 9, api.OK)
	choose(t, a, 5, 9, api.ErrSigner)
	elects(t, c, r, 2, full(3), 9)
	elects(t, c, r, 5, full(3), 5)
	elects(t, a, s, 5, full(1), 1)
	unseen(t, b, r, 5, full(1), api.ErrArg)
	seen(t, b, 5, false)
}

// TestP7_1_WhoHoldsIt: coins are an object (R4): who holds it sees what is done with it.
func TestP7_1_WhoHoldsIt(t *testing.T) {
	a, s := ready(t, 1, 2, 3)
	b := a
	choose(t, a, 2, 3, api.OK)
	choose(t, b, 2, 1, api.ErrThere)
	elects(t, b, s, 2, made(0, 1), 3)
	elects(t, b, s, 3, made(0, 1), 3)
	seen(t, a, 2, true)
	choose(t, a, 3, 0, api.ErrThere)
}

func TestP7_3_TheSameForAllWhoSeeIt(t *testing.T) {
	for f := 1; f <= 3; f++ {
		for _, view := range []int{1, 6, api.MaxView} {
			for who := -1; who < all(f); who++ {
				c, s := ready(t, f, view)
				want := modulo(f, view)
				if who >= 0 {
					want = who
					choose(t, c, view, who, api.OK)
				}
				for set := range full(f) + 1 {
					if size(set) > f {
						elects(t, c, s, view, set, want)
					}
				}
			}
		}
	}
}

// TestP7_3_Whenever: whatever else is chosen, seen, issued and refused in between.
func TestP7_3_Whenever(t *testing.T) {
	for f := 1; f <= 3; f++ {
		c, s := ready(t, f, 6, 7)
		choose(t, c, 7, 1, api.OK)
		for n := range 300 {
			view := 10 + n
			if n%3 > 0 {
				choose(t, c, view, n%all(f), api.OK)
			}
			c.Choose(6, n%all(f))
			c.Choose(7, n%all(f))
			if n == 0 {
				// 6 was chosen there, ahead of anybody seeing it.
				elects(t, c, s, 6, full(f), 0)
			}
			issue(t, s, view, full(f))
			c.See(s, view, full(f))
			c.See(s, 6, uint32(n))
			c.See(s, 7, uint32(n))
			elects(t, c, s, 6, made(0, 1, 2, 3), 0)
			elects(t, c, s, 7, made(0, 1, 2, 3), 1)
		}
		for n := range 300 {
			want := modulo(f, 10+n)
			if n%3 > 0 {
				want = n % all(f)
			}
			elects(t, c, s, 10+n, full(f), want)
		}
	}
}

func TestP7_3_OfTwoRegisters(t *testing.T) {
	for f := 1; f <= 3; f++ {
		c := coins(t, f)
		a, b := register(t, f, made(0)), register(t, f, made(all(f)-1))
		issue(t, a, 6, full(f)&^made(0, 1))
		issue(t, b, 6, full(f)&^made(2, all(f)-1))
		elects(t, c, a, 6, full(f)&^made(1), modulo(f, 6))
		elects(t, c, b, 6, full(f)&^made(2), modulo(f, 6))
		// What is forged in one isn't so in the other.
		unseen(t, c, a, 6, full(f)&^made(2), api.ErrForged)
		unseen(t, c, b, 6, full(f)&^made(1), api.ErrForged)
		choose(t, c, 6, 0, api.ErrThere)
		elects(t, c, a, 6, full(f)&^made(0, 1)|made(0), modulo(f, 6))
	}
}

func TestP7_3_BadOnesAloneSeeNothing(t *testing.T) {
	for f := 1; f <= 3; f++ {
		for _, bad := range badSets(f) {
			c, s := coins(t, f), register(t, f, bad)
			// What the others issue of other views helps nothing, nor what bad ones issue.
			issue(t, s, 5, full(f))
			issue(t, s, 6, bad)
			for set := range full(f) + 1 {
				want := api.ErrForged
				if set&^bad == 0 {
					want = api.ErrFew
				}
				unseen(t, c, s, 6, set, want)
			}
			seen(t, c, 6, false)
			choose(t, c, 6, 1, api.OK)
		}
	}
}

func TestP7_3_BadOnesAndOneOther(t *testing.T) {
	for f := 1; f <= 3; f++ {
		for _, bad := range badSets(f) {
			for k := range all(f) {
				if bad&made(k) != 0 {
					continue
				}
				c, s := coins(t, f), register(t, f, bad)
				unseen(t, c, s, 6, bad|made(k), api.ErrForged)
				issue(t, s, 6, made(k))
				if size(bad) < f {
					unseen(t, c, s, 6, bad|made(k), api.ErrFew)
					seen(t, c, 6, false)
					continue
				}
				elects(t, c, s, 6, bad|made(k), modulo(f, 6))
				unseen(t, c, s, 6, bad, api.ErrFew)
			}
		}
	}
}

// chosen is a view's coin in the second reckoning.
type chosen struct{ view, who int }

// model: a second reckoning of coins and their register, which goes through all that was done.
type model struct {
	f      int
	bad    uint32
	coins  []chosen
	seen   []int
	shares []api.Share
}

// whom: whom a view's coin elects; was it chosen?
func (m *model) whom(view int) (int, bool) {
	at := slices.IndexFunc(m.coins, func(x chosen) bool { return x.view == view })
	if at < 0 {
		return view % (3*m.f + 1), false
	}
	return m.coins[at].who, true
}

// choose: what is expected of choosing one.
func (m *model) choose(view, who int) api.Errno {
	_, there := m.whom(view)
	switch {
	case view <= 0 || view > 1048576:
		return api.ErrCoin
	case who < 0 || who > 3*m.f:
		return api.ErrSigner
	case there || slices.Contains(m.seen, view):
		return api.ErrThere
	}
	m.coins = append(m.coins, chosen{view, who})
	return api.OK
}

// shown: what is expected of a set.
func (m *model) shown(view int, set uint32) api.Errno {
	if set >= 1<<(3*m.f+1) {
		return api.ErrSigner
	}
	for k := range 3*m.f + 1 {
		in, bad := set>>k&1 == 1, m.bad>>k&1 == 1
		if in && !bad && !slices.Contains(m.shares, api.Share{Signer: k, Stmt: stmt(view)}) {
			return api.ErrForged
		}
	}
	if size(set) < m.f+1 {
		return api.ErrFew
	}
	return api.OK
}

// see: what is expected of seeing one.
func (m *model) see(s *sign.Sign, view int, set uint32) (int, api.Errno) {
	switch {
	case view <= 0 || view > 1048576:
		return 0, api.ErrCoin
	case s == nil:
		return 0, api.ErrNil
	case s.F() != m.f:
		return 0, api.ErrArg
	}
	if e := m.shown(view, set); e != api.OK {
		return 0, e
	}
	m.seen = append(m.seen, view)
	who, _ := m.whom(view)
	return who, api.OK
}

// dice: numbers that look drawn, the same each time.
type dice struct{ seed uint64 }

// below: a number from 0 to n less 1.
func (d *dice) below(n int) int {
	d.seed = d.seed*6364136223846793005 + 1442695040888963407
	return int(d.seed >> 33 % uint64(n))
}

// view: one of a few, most of which have a coin.
func (d *dice) view() int {
	if d.below(20) == 0 {
		return noViews()[d.below(len(noViews()))]
	}
	if d.below(10) == 0 {
		return api.MaxView - d.below(3)
	}
	return d.below(60)
}

// row: coins, their register, registers that may be handed in, and the second reckoning.
type row struct {
	c         *coin.Coin
	s         *sign.Sign
	registers []*sign.Sign
	m         *model
	d         *dice
}

// step: one call held against the model; what it answered.
func (r *row) step(t *testing.T) api.Errno {
	t.Helper()
	n, view := all(r.m.f), r.d.view()
	switch r.d.below(6) {
	case 0:
		who := r.d.below(n+4) - 2
		got, want := r.c.Choose(view, who), r.m.choose(view, who)
		if got != want {
			t.Fatalf("Choose(%d, %d): %d, not %d", view, who, got, want)
		}
		return got
	case 1, 2:
		x := api.Share{Signer: r.d.below(n), Stmt: stmt(view)}
		r.s.Issue(x)
		r.m.shares = append(r.m.shares, x)
		return api.OK
	}
	set, s := uint32(r.d.below(1<<n))&uint32(r.d.below(1<<n)), r.s
	switch r.d.below(12) {
	case 0:
		s = r.registers[r.d.below(len(r.registers))]
	case 1:
		set |= 1 << (n + r.d.below(32-n))
	}
	who, got := r.c.See(s, view, set)
	wanted, want := r.m.see(s, view, set)
	if who != wanted || got != want {
		t.Fatalf("See(%d, %#x): %d, error %d, not %d, %d", view, set, who, got, wanted, want)
	}
	return got
}

// same: is all that was seen as in the second reckoning?
func (r *row) same(t *testing.T) {
	t.Helper()
	for view := -2; view < 64; view++ {
		seen(t, r.c, view, slices.Contains(r.m.seen, view))
	}
	for _, view := range []int{api.MaxView - 3, api.MaxView - 2, api.MaxView - 1, api.MaxView, api.MaxView + 1} {
		seen(t, r.c, view, slices.Contains(r.m.seen, view))
	}
}

func TestP7_2_ByASecondReckoning(t *testing.T) {
	d := &dice{1}
	for f := 1; f <= 3; f++ {
		for _, bad := range []uint32{0, made(0), made(all(f) - 1), full(f) - full(f)>>f} {
			r := &row{c: coins(t, f), s: register(t, f, bad), m: &model{f: f, bad: bad}, d: d}
			r.registers = []*sign.Sign{nil, register(t, f%3+1, 0), register(t, (f+1)%3+1, made(0))}
			told := map[api.Errno]int{}
			for n := range 5000 {
				told[r.step(t)]++
				if n%50 == 0 {
					r.same(t)
				}
			}
			r.same(t)
			for _, e := range []api.Errno{api.OK, api.ErrArg, api.ErrNil, api.ErrSigner, api.ErrForged, api.ErrFew, api.ErrCoin, api.ErrThere} {
				if told[e] < 10 {
					t.Errorf("F %d, bad ones %b: the answer %d came %d times", f, bad, e, told[e])
				}
			}
		}
	}
}

func TestR6_NothingIsKeptBetweenCoins(t *testing.T) {
	for range 3 {
		c, s := ready(t, 1, 6, 7)
		seen(t, c, 6, false)
		choose(t, c, 6, 1, api.OK)
		elects(t, c, s, 6, made(0, 3), 1)
		elects(t, c, s, 7, made(0, 3), 3)
		other, r := ready(t, 1, 6)
		seen(t, other, 6, false)
		elects(t, other, r, 6, made(0, 3), 2)
	}
}
