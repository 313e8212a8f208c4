package sign_test

import (
	"math"
	"slices"
	"testing"

	"hallmoot/api"
	"hallmoot/sign"
)

// all: how many replicas there are, reckoned without the layer below.
func all(f int) int { return 3*f + 1 }

// made: the set of these.
func made(l ...int) uint32 {
	set := uint32(0)
	for _, k := range l {
		set |= 1 << k
	}
	return set
}

// full: the set of all replicas.
func full(f int) uint32 { return 1<<all(f) - 1 }

// members: the numbers in a set, rising.
func members(set uint32) []int {
	var l []int
	for k := range 32 {
		if set>>k&1 == 1 {
			l = append(l, k)
		}
	}
	return l
}

// noReplicas: numbers of none of the replicas of an F.
func noReplicas(f int) []int {
	return []int{all(f), all(f) + 1, 2 * all(f), 10, 31, 32, 33, 63, 64, 65, 1 << 31, 1 << 32, 1<<32 + 1, 1 << 62,
		-1, -2, -all(f), -32, -64, -1 << 31, -1 << 32, 1 - 1<<32, math.MaxInt, math.MaxInt - 1, math.MinInt, math.MinInt + 1}
}

// badSets: all sets of bad replicas that may be.
func badSets(f int) []uint32 {
	var l []uint32
	for set := range full(f) + 1 {
		if len(members(set)) <= f {
			l = append(l, set)
		}
	}
	return l
}

// vote: some statement.
var vote = api.Stmt{Kind: api.SVote, Block: 7, View: 1, Round: 2}

// near: statements that differ in one field alone from this one.
func near(s api.Stmt) []api.Stmt {
	var l []api.Stmt
	for field := range 10 {
		for _, by := range []int{1, -1, 1 << 32, math.MinInt} {
			n := s
			at := []*int{&n.Kind, &n.Block, &n.View, &n.Round, &n.Height, &n.Author, &n.HKind, &n.HBlock, &n.HView, &n.HRound}
			*at[field] += by
			l = append(l, n)
		}
	}
	return l
}

// statements: some that are all unlike, of each kind, of none, and with their numbers at their ends.
func statements() []api.Stmt {
	return slices.Concat([]api.Stmt{
		{}, vote,
		{Kind: api.SPropose, Block: 7, View: 1, Round: 2, Height: 0, Author: 3},
		{Kind: api.STimeout, View: 1, HKind: api.Regular, HBlock: 7, HView: 1, HRound: 2},
		{Kind: api.SFall, Block: 7, View: 1, Round: 2, Height: 3, Author: 3},
		{Kind: api.SCoin, View: 1},
		{Kind: -1}, {Kind: 6}, {Kind: math.MaxInt}, {Kind: math.MinInt},
		same(math.MaxInt), same(math.MinInt),
	}, near(vote))
}

// same: a statement with one number in each field.
func same(n int) api.Stmt {
	return api.Stmt{Kind: n, Block: n, View: n, Round: n, Height: n, Author: n, HKind: n, HBlock: n, HView: n, HRound: n}
}

// share: of a replica.
func share(k int, s api.Stmt) api.Share { return api.Share{Signer: k, Stmt: s} }

// register: one that must be made.
func register(t *testing.T, f int, bad uint32) *sign.Sign {
	t.Helper()
	s, e := sign.New(f, bad)
	if s == nil || e != api.OK {
		t.Fatalf("New(%d, %#x): error %d", f, bad, e)
	}
	return s
}

// issue: a share, of which this error is expected.
func issue(t *testing.T, s *sign.Sign, x api.Share, want api.Errno) {
	t.Helper()
	if e := s.Issue(x); e != want {
		t.Errorf("Issue(%v): %d, not %d", x, e, want)
	}
}

// counts: does a share, as is expected?
func counts(t *testing.T, s *sign.Sign, x api.Share, want api.Errno) {
	t.Helper()
	if e := s.Counts(x); e != want {
		t.Errorf("Counts(%v): %d, not %d", x, e, want)
	}
}

// together: do those of a set count, as is expected?
func together(t *testing.T, s *sign.Sign, stmt api.Stmt, set uint32, want api.Errno) {
	t.Helper()
	if e := s.All(stmt, set); e != want {
		t.Errorf("All(%v, %#x): %d, not %d", stmt, set, e, want)
	}
}

// enough: are they so many, as is expected?
func enough(t *testing.T, s *sign.Sign, stmt api.Stmt, set uint32, least int, want api.Errno) {
	t.Helper()
	if e := s.Enough(stmt, set, least); e != want {
		t.Errorf("Enough(%v, %#x, %d): %d, not %d", stmt, set, least, e, want)
	}
}

// holds: has a register these shares, in this order, and no others, and is it as it was made?
func holds(t *testing.T, s *sign.Sign, f int, bad uint32, l []api.Share) {
	t.Helper()
	if got := s.Shares(); !slices.Equal(got, l) {
		t.Errorf("Shares: %v, not %v", got, l)
	}
	if s.F() != f || s.Bad() != bad {
		t.Errorf("F, Bad: %d, %#x, not %d, %#x", s.F(), s.Bad(), f, bad)
	}
	for _, x := range l {
		counts(t, s, x, api.OK)
	}
}

func TestP6_1_New(t *testing.T) {
	for f := 1; f <= 3; f++ {
		for _, bad := range badSets(f) {
			holds(t, register(t, f, bad), f, bad, nil)
		}
	}
}

// refused: is no register made, for this reason?
func refused(t *testing.T, f int, bad uint32, want api.Errno) {
	t.Helper()
	if s, e := sign.New(f, bad); s != nil || e != want {
		t.Errorf("New(%d, %#x): %v, %d, not nil, %d", f, bad, s, e, want)
	}
}

func TestP6_1_NewOfAnotherF(t *testing.T) {
	for _, f := range []int{0, 4, -1, -2, -3, 5, 10, 31, 32, 1 << 31, 1 << 32, 1<<32 + 1, math.MaxInt, math.MaxInt - 1, math.MinInt, math.MinInt + 1} {
		// The F is looked at first, whether or not the set could be.
		for _, bad := range []uint32{0, 1, 0xf, 0x10, 0x3ff, 0x400, 1 << 31, math.MaxUint32} {
			refused(t, f, bad, api.ErrArg)
		}
	}
}

func TestP6_1_NewOfBadOnesThatAreNoReplicas(t *testing.T) {
	for f := 1; f <= 3; f++ {
		for k := all(f); k < 32; k++ {
			refused(t, f, made(k), api.ErrSigner)
			refused(t, f, made(0, k), api.ErrSigner)
			// Too many as well: who is no replica is told first.
			refused(t, f, made(0, 1, 2, 3, k), api.ErrSigner)
			refused(t, f, full(f)|made(k), api.ErrSigner)
		}
		refused(t, f, math.MaxUint32, api.ErrSigner)
	}
}

func TestP6_1_NewOfTooManyBadOnes(t *testing.T) {
	for f := 1; f <= 3; f++ {
		refusals := 0
		for bad := range full(f) + 1 {
			if len(members(bad)) > f {
				refused(t, f, bad, api.ErrArg)
				refusals++
			}
		}
		if refusals+len(badSets(f)) != 1<<all(f) {
			t.Errorf("F %d: %d were refused", f, refusals)
		}
	}
	// Just as many as F, and one more.
	for _, c := range []struct {
		f         int
		bad, more uint32
	}{{1, 8, 9}, {1, 1, 3}, {2, 0x60, 0x61}, {2, 3, 7}, {3, 0x380, 0x381}, {3, 7, 15}} {
		holds(t, register(t, c.f, c.bad), c.f, c.bad, nil)
		refused(t, c.f, c.more, api.ErrArg)
	}
}

func TestP6_1_Examples(t *testing.T) {
	s := register(t, 1, made(3))
	issue(t, s, share(0, vote), api.OK)
	together(t, s, vote, made(0, 3), api.OK)
	together(t, s, vote, made(0, 1), api.ErrForged)
}

func TestP6_1_Issue(t *testing.T) {
	for f := 1; f <= 3; f++ {
		s := register(t, f, 0)
		var l []api.Share
		for _, stmt := range statements() {
			// 3 has nothing in common with 4, 7 and 10: all replicas come, out of order.
			for i := range all(f) {
				x := share(i*3%all(f), stmt)
				counts(t, s, x, api.ErrForged)
				issue(t, s, x, api.OK)
				counts(t, s, x, api.OK)
				l = append(l, x)
			}
		}
		holds(t, s, f, 0, l)
	}
}

func TestP6_1_IssueAgain(t *testing.T) {
	for _, bad := range []uint32{0, made(2)} {
		s := register(t, 1, bad)
		l := []api.Share{share(2, vote), share(0, vote), share(3, api.Stmt{}), share(1, vote), share(0, api.Stmt{Kind: api.SCoin, View: 1})}
		for _, x := range l {
			issue(t, s, x, api.OK)
		}
		for _, at := range []int{0, 2, 4, 4, 0, 1, 3, 2, 0} {
			issue(t, s, l[at], api.OK)
			holds(t, s, 1, bad, l)
		}
		// The next new one stands behind them all the same.
		next := share(3, vote)
		issue(t, s, next, api.OK)
		issue(t, s, l[0], api.OK)
		issue(t, s, next, api.OK)
		holds(t, s, 1, bad, append(l, next))
	}
}

func TestP6_1_IssueOfTheFirstAndTheLastReplica(t *testing.T) {
	for f := 1; f <= 3; f++ {
		s := register(t, f, 0)
		l := []api.Share{share(all(f)-1, vote), share(0, vote)}
		for _, x := range l {
			counts(t, s, x, api.ErrForged)
			issue(t, s, x, api.OK)
			counts(t, s, x, api.OK)
		}
		issue(t, s, share(all(f), vote), api.ErrSigner)
		issue(t, s, share(-1, vote), api.ErrSigner)
		holds(t, s, f, 0, l)
	}
}

func TestP6_1_WhoIsNoReplica(t *testing.T) {
	for f := 1; f <= 3; f++ {
		for _, bad := range []uint32{0, 1, made(all(f) - 1)} {
			for _, l := range [][]api.Share{nil, {share(0, vote), share(1, vote)}} {
				s := register(t, f, bad)
				for _, x := range l {
					issue(t, s, x, api.OK)
				}
				for _, k := range noReplicas(f) {
					for _, stmt := range []api.Stmt{vote, {}, {Kind: math.MinInt}} {
						counts(t, s, share(k, stmt), api.ErrSigner)
						issue(t, s, share(k, stmt), api.ErrSigner)
						counts(t, s, share(k, stmt), api.ErrSigner)
					}
				}
				holds(t, s, f, bad, l)
				counts(t, s, share(2, vote), api.ErrForged)
			}
		}
	}
}

func TestP6_1_CountsWhatWasIssued(t *testing.T) {
	for f := 1; f <= 3; f++ {
		for signer := range all(f) {
			s := register(t, f, 0)
			counts(t, s, share(signer, vote), api.ErrForged)
			issue(t, s, share(signer, vote), api.OK)
			for k := range all(f) {
				want := api.ErrForged
				if k == signer {
					want = api.OK
				}
				counts(t, s, share(k, vote), want)
			}
			for _, stmt := range statements() {
				if stmt != vote {
					counts(t, s, share(signer, stmt), api.ErrForged)
				}
			}
			holds(t, s, f, 0, []api.Share{share(signer, vote)})
		}
	}
}

// TestP6_1_StatementsThatDifferInOneField: none of these is another one, whatever the field.
func TestP6_1_StatementsThatDifferInOneField(t *testing.T) {
	for _, base := range statements() {
		s := register(t, 2, 0)
		l := []api.Share{share(4, base)}
		issue(t, s, l[0], api.OK)
		for _, stmt := range near(base) {
			counts(t, s, share(4, stmt), api.ErrForged)
			together(t, s, stmt, made(4), api.ErrForged)
			if x := share(4, stmt); !slices.Contains(l, x) {
				l = append(l, x)
			}
			issue(t, s, share(4, stmt), api.OK)
			counts(t, s, share(4, stmt), api.OK)
			counts(t, s, share(3, stmt), api.ErrForged)
		}
		if len(l) != 41 {
			t.Errorf("of %v: %d shares", base, len(l))
		}
		holds(t, s, 2, 0, l)
	}
}

func TestP6_1_CountsWhatABadOneSays(t *testing.T) {
	for f := 1; f <= 3; f++ {
		for _, bad := range badSets(f) {
			s := register(t, f, bad)
			for k := range all(f) {
				want := api.ErrForged
				if slices.Contains(members(bad), k) {
					want = api.OK
				}
				for _, stmt := range statements()[:12] {
					counts(t, s, share(k, stmt), want)
				}
			}
			// Asking issues nothing.
			holds(t, s, f, bad, nil)
		}
	}
}

func TestP6_1_ABadOneMayIssueToo(t *testing.T) {
	s := register(t, 1, made(3))
	issue(t, s, share(3, vote), api.OK)
	issue(t, s, share(3, vote), api.OK)
	holds(t, s, 1, made(3), []api.Share{share(3, vote)})
	counts(t, s, share(3, api.Stmt{}), api.OK)
	counts(t, s, share(0, vote), api.ErrForged)
}

func TestP6_2_AllOfEachSet(t *testing.T) {
	for f := 1; f <= 3; f++ {
		last := all(f) - 1
		for _, bad := range []uint32{0, made(0), made(last), made(1, last)} {
			if len(members(bad)) > f {
				continue
			}
			s := register(t, f, bad)
			signed := []int{0, 2, last - 1}
			for _, k := range signed {
				issue(t, s, share(k, vote), api.OK)
			}
			good := made(signed...) | bad
			for set := range full(f) + 1 {
				want := api.OK
				if set&^good != 0 {
					want = api.ErrForged
				}
				together(t, s, vote, set, want)
			}
		}
	}
}

func TestP6_2_AllOfASetWithNoReplica(t *testing.T) {
	for f := 1; f <= 3; f++ {
		s := register(t, f, made(1))
		issue(t, s, share(0, vote), api.OK)
		for k := all(f); k < 32; k++ {
			// Alone, beside what counts, and beside what is forged, which stands ahead in the set.
			for _, set := range []uint32{made(k), made(0, 1, k), made(2, k), full(f) | made(k), math.MaxUint32} {
				together(t, s, vote, set, api.ErrSigner)
				for _, least := range []int{math.MinInt, -1, 0, 1, 2, 33, math.MaxInt} {
					enough(t, s, vote, set, least, api.ErrSigner)
				}
			}
		}
		holds(t, s, f, made(1), []api.Share{share(0, vote)})
	}
}

func TestP6_2_TheEmptySet(t *testing.T) {
	for f := 1; f <= 3; f++ {
		for _, bad := range []uint32{0, made(1)} {
			s := register(t, f, bad)
			for _, stmt := range statements() {
				together(t, s, stmt, 0, api.OK)
				for _, least := range []int{math.MinInt, -2, -1, 0} {
					enough(t, s, stmt, 0, least, api.OK)
				}
				for _, least := range []int{1, 2, f + 1, math.MaxInt} {
					enough(t, s, stmt, 0, least, api.ErrFew)
				}
			}
		}
	}
}

func TestP6_2_AllReplicas(t *testing.T) {
	for f := 1; f <= 3; f++ {
		// The bad one issues nothing.
		for _, bad := range []int{0, 1, all(f) - 1} {
			s := register(t, f, made(bad))
			for k := range all(f) {
				if k == bad {
					continue
				}
				together(t, s, vote, full(f), api.ErrForged)
				enough(t, s, vote, full(f), all(f), api.ErrForged)
				issue(t, s, share(k, vote), api.OK)
			}
			together(t, s, vote, full(f), api.OK)
			enough(t, s, vote, full(f), all(f), api.OK)
			enough(t, s, vote, full(f), all(f)+1, api.ErrFew)
			for _, stmt := range near(vote) {
				together(t, s, stmt, full(f), api.ErrForged)
			}
		}
	}
}

func TestP6_2_Enough(t *testing.T) {
	for f := 1; f <= 3; f++ {
		s := register(t, f, made(all(f)-1))
		for k := range all(f) - 2 {
			issue(t, s, share(k, vote), api.OK)
		}
		for set := range full(f) + 1 {
			size := len(members(set))
			forged := set&made(all(f)-2) != 0
			for _, least := range []int{math.MinInt, math.MinInt + 1, -1 << 32, -1, 0, 1, size - 1, size, size + 1, all(f), all(f) + 1, 32, 1 << 31, 1 << 32, math.MaxInt} {
				want := api.OK
				switch {
				case forged:
					want = api.ErrForged
				case size < least:
					want = api.ErrFew
				}
				enough(t, s, vote, set, least, want)
			}
		}
	}
}

func TestP6_2_ForgedAheadOfFew(t *testing.T) {
	s := register(t, 1, made(3))
	issue(t, s, share(0, vote), api.OK)
	enough(t, s, vote, made(0, 3), 3, api.ErrFew)
	enough(t, s, vote, made(0, 1), 3, api.ErrForged)
	enough(t, s, vote, made(0, 1), 2, api.ErrForged)
	enough(t, s, vote, made(0, 1), -1, api.ErrForged)
	enough(t, s, vote, made(0, 3), 2, api.OK)
}

func TestP6_2_ARegisterWithoutShares(t *testing.T) {
	for f := 1; f <= 3; f++ {
		for _, bad := range badSets(f) {
			s := register(t, f, bad)
			for k := range all(f) {
				want := api.ErrForged
				if bad>>k&1 == 1 {
					want = api.OK
				}
				together(t, s, vote, made(k), want)
				enough(t, s, vote, made(k), 1, want)
			}
			holds(t, s, f, bad, nil)
			if len(s.Shares()) != 0 {
				t.Errorf("F %d: shares that nobody issued", f)
			}
		}
	}
}

// TestP6_2_SharesAreTheCallers: R4: what is done with a list that was told isn't seen in the register, or in another one.
func TestP6_2_SharesAreTheCallers(t *testing.T) {
	s := register(t, 1, 0)
	var l []api.Share
	forged := share(2, api.Stmt{Kind: api.SCoin, View: 9})
	for n := range 40 {
		x := share(n%4, api.Stmt{Kind: api.SVote, View: n})
		issue(t, s, x, api.OK)
		l = append(l, x)
		one, other := s.Shares(), s.Shares()
		// The room behind the end is the caller's too.
		one = one[:cap(one)]
		for i := range one {
			one[i] = forged
		}
		if !slices.Equal(other, l) {
			t.Fatalf("another list was written to: %v, not %v", other, l)
		}
		_ = append(other[:0], forged)
		holds(t, s, 1, 0, l)
		counts(t, s, forged, api.ErrForged)
	}
}

// TestP6_2_SharesStayAsTold: R4: a list that was told doesn't change when the register does.
func TestP6_2_SharesStayAsTold(t *testing.T) {
	s := register(t, 1, 0)
	var told [][]api.Share
	var l []api.Share
	for n := range 40 {
		told = append(told, s.Shares())
		x := share(n%4, api.Stmt{Kind: api.SVote, View: n / 4})
		issue(t, s, x, api.OK)
		l = append(l, x)
	}
	for n, one := range told {
		if !slices.Equal(one, l[:n]) {
			t.Errorf("told ahead of %d: %v", n, one)
		}
	}
}

func TestP6_2_NilRegister(t *testing.T) {
	var s *sign.Sign
	signers := append(noReplicas(1), 0, 1, 2, 3, 9)
	for _, stmt := range statements() {
		for _, k := range signers {
			issue(t, s, share(k, stmt), api.ErrNil)
			counts(t, s, share(k, stmt), api.ErrNil)
		}
		for _, set := range []uint32{0, 1, 0xf, 0x10, 0x3ff, 1 << 31, math.MaxUint32} {
			together(t, s, stmt, set, api.ErrNil)
			for _, least := range []int{math.MinInt, -1, 0, 1, 4, math.MaxInt} {
				enough(t, s, stmt, set, least, api.ErrNil)
			}
		}
	}
	if l := s.Shares(); len(l) != 0 {
		t.Errorf("Shares of nil: %v", l)
	}
	if s.F() != 0 || s.Bad() != 0 {
		t.Errorf("F, Bad of nil: %d, %#x", s.F(), s.Bad())
	}
}

func TestP6_1_TwoRegisters(t *testing.T) {
	a, b := register(t, 1, made(3)), register(t, 1, made(3))
	if a == b {
		t.Fatal("New twice: one register")
	}
	issue(t, a, share(0, vote), api.OK)
	counts(t, b, share(0, vote), api.ErrForged)
	holds(t, b, 1, made(3), nil)
	issue(t, b, share(1, vote), api.OK)
	counts(t, a, share(1, vote), api.ErrForged)
	c := register(t, 3, made(0, 9))
	counts(t, c, share(3, vote), api.ErrForged)
	counts(t, a, share(0, api.Stmt{}), api.ErrForged)
	issue(t, c, share(8, vote), api.OK)
	issue(t, a, share(8, vote), api.ErrSigner)
	holds(t, a, 1, made(3), []api.Share{share(0, vote)})
	holds(t, b, 1, made(3), []api.Share{share(1, vote)})
	holds(t, c, 3, made(0, 9), []api.Share{share(8, vote)})
}

// TestP6_1_WhoHoldsIt: a register is an object (R4): who holds it sees what is done with it.
func TestP6_1_WhoHoldsIt(t *testing.T) {
	a := register(t, 1, 0)
	b := a
	issue(t, a, share(0, vote), api.OK)
	issue(t, b, share(1, vote), api.OK)
	holds(t, a, 1, 0, []api.Share{share(0, vote), share(1, vote)})
	holds(t, b, 1, 0, []api.Share{share(0, vote), share(1, vote)})
}

// model: a second reckoning of a register, which goes through all that was issued.
type model struct {
	f      int
	bad    []int
	shares []api.Share
}

// counts: what is expected of a share.
func (m *model) counts(x api.Share) api.Errno {
	switch {
	case x.Signer < 0 || x.Signer > 3*m.f:
		return api.ErrSigner
	case slices.Contains(m.bad, x.Signer) || slices.Contains(m.shares, x):
		return api.OK
	}
	return api.ErrForged
}

// issue: what is expected of issuing one.
func (m *model) issue(x api.Share) api.Errno {
	e := m.counts(x)
	if e == api.ErrSigner {
		return e
	}
	if !slices.Contains(m.shares, x) {
		m.shares = append(m.shares, x)
	}
	return api.OK
}

// all: what is expected of a set.
func (m *model) all(stmt api.Stmt, set uint32) api.Errno {
	worst := api.OK
	for _, k := range members(set) {
		switch m.counts(share(k, stmt)) {
		case api.ErrSigner:
			return api.ErrSigner
		case api.ErrForged:
			worst = api.ErrForged
		}
	}
	return worst
}

// enough: what is expected of a set that must have so many.
func (m *model) enough(stmt api.Stmt, set uint32, least int) api.Errno {
	e := m.all(stmt, set)
	if e == api.OK && least > len(members(set)) {
		e = api.ErrFew
	}
	return e
}

// dice: numbers that look drawn, the same each time.
type dice struct{ seed uint64 }

// below: a number from 0 to n less 1.
func (d *dice) below(n int) int {
	d.seed = d.seed*6364136223846793005 + 1442695040888963407
	return int(d.seed >> 33 % uint64(n))
}

// agree: one call held against the model; what it answered.
func agree(t *testing.T, s *sign.Sign, m *model, d *dice, l []api.Stmt) api.Errno {
	t.Helper()
	stmt, top := l[d.below(len(l))], all(m.f)
	x := share(d.below(top+4)-2, stmt)
	set := uint32(d.below(1 << (top + 1)))
	if d.below(2) == 0 {
		// Smaller sets, which have better chances to be enough.
		set &= uint32(d.below(1 << top))
	}
	least := d.below(top+4) - 2
	var got, want api.Errno
	switch d.below(4) {
	case 0:
		got, want = s.Issue(x), m.issue(x)
	case 1:
		got, want = s.Counts(x), m.counts(x)
	case 2:
		got, want = s.All(stmt, set), m.all(stmt, set)
	case 3:
		got, want = s.Enough(stmt, set, least), m.enough(stmt, set, least)
	}
	if got != want {
		t.Fatalf("of %v, set %#x, least %d: %d, not %d", x, set, least, got, want)
	}
	return got
}

func TestP6_2_ByASecondReckoning(t *testing.T) {
	d := &dice{1}
	for f := 1; f <= 3; f++ {
		for _, bad := range []uint32{0, made(0), made(all(f) - 1), full(f) - full(f)>>f} {
			s, m := register(t, f, bad), &model{f: f, bad: members(bad)}
			seen := map[api.Errno]int{}
			l := statements()[:12]
			for n := range 8000 {
				seen[agree(t, s, m, d, l)]++
				if n%100 == 0 && !slices.Equal(s.Shares(), m.shares) {
					t.Fatalf("Shares: %v, not %v", s.Shares(), m.shares)
				}
			}
			holds(t, s, f, bad, m.shares)
			for _, e := range []api.Errno{api.OK, api.ErrSigner, api.ErrForged, api.ErrFew} {
				if seen[e] < 20 {
					t.Errorf("F %d: the answer %d came %d times", f, e, seen[e])
				}
			}
		}
	}
}

func TestP6_3_WhatCountsGoesOnCounting(t *testing.T) {
	d := &dice{2}
	for f := 1; f <= 3; f++ {
		bad := made(f)
		s, l := register(t, f, bad), statements()[:12]
		var counted []api.Share
		for n := range 1500 {
			x := share(d.below(all(f)+2)-1, l[d.below(len(l))])
			if d.below(4) > 0 {
				x.Stmt.Round = n
			}
			s.Issue(x)
			if s.Counts(x) == api.OK {
				counted = append(counted, x)
			}
			// What a bad one says, and the first, middle and last, however many others came in between.
			counts(t, s, share(f, x.Stmt), api.OK)
			for _, at := range []int{0, len(counted) / 2, len(counted) - 1} {
				if at < 0 || at >= len(counted) {
					continue
				}
				x := counted[at]
				counts(t, s, x, api.OK)
				together(t, s, x.Stmt, made(x.Signer, f), api.OK)
			}
		}
		if len(counted) < 1000/f {
			t.Errorf("F %d: too few were issued: %d", f, len(counted))
		}
		for _, x := range counted {
			counts(t, s, x, api.OK)
			enough(t, s, x.Stmt, made(x.Signer), 1, api.OK)
		}
	}
}

// TestP6_3_ASetThatCountsGoesOnCounting: a set too, whatever else is issued and asked.
func TestP6_3_ASetThatCountsGoesOnCounting(t *testing.T) {
	s := register(t, 2, made(6))
	for _, k := range []int{0, 3, 4, 5} {
		issue(t, s, share(k, vote), api.OK)
	}
	set := made(0, 3, 4, 5, 6)
	for _, stmt := range near(vote) {
		for k := range 8 {
			s.Issue(share(k, stmt))
			s.Issue(share(k-1, vote))
			s.All(stmt, made(k))
			enough(t, s, vote, set, 5, api.OK)
		}
	}
}

func TestP6_3_BadOnesAloneAreNeverEnough(t *testing.T) {
	for f := 1; f <= 3; f++ {
		for _, bad := range badSets(f) {
			s := register(t, f, bad)
			for _, k := range members(bad) {
				issue(t, s, share(k, vote), api.OK)
			}
			// What the others issue of other statements helps nothing.
			for k := range all(f) {
				issue(t, s, share(k, near(vote)[k]), api.OK)
			}
			most := 0
			for set := range full(f) + 1 {
				size := len(members(set))
				e := s.Enough(vote, set, size)
				if size > f && (e != api.ErrForged || s.Enough(vote, set, 0) != api.ErrForged || s.All(vote, set) != api.ErrForged) {
					t.Fatalf("F %d, bad ones %b: %b is enough", f, bad, set)
				}
				if e == api.OK {
					most = max(most, size)
				}
			}
			if most != len(members(bad)) {
				t.Errorf("F %d, bad ones %b: %d are enough", f, bad, most)
			}
		}
	}
}

func TestR6_NothingIsKeptBetweenRegisters(t *testing.T) {
	for range 3 {
		s := register(t, 1, made(3))
		counts(t, s, share(0, vote), api.ErrForged)
		issue(t, s, share(0, vote), api.OK)
		holds(t, s, 1, made(3), []api.Share{share(0, vote)})
		other := register(t, 1, made(1))
		counts(t, other, share(3, vote), api.ErrForged)
		counts(t, other, share(1, vote), api.OK)
	}
}
