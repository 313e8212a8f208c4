package quorum_test

import (
	"math"
	"math/big"
	"slices"
	"testing"

	"hallmoot/api"
	"hallmoot/quorum"
)

// sizes: what the chapter's words make of each f, reckoned by hand.
var sizes = []struct {
	f, all, quorum, some int
	full                 uint32
}{
	{1, 4, 3, 2, 0xf},
	{2, 7, 5, 3, 0x7f},
	{3, 10, 7, 4, 0x3ff},
}

// others: no F, some of which go round when they are multiplied by 2 or 3.
func others() []int {
	l := []int{api.MinF - 1, api.MaxF + 1, 0, -1, -2, -3, 4, 5, 31, 32, 33, 1 << 31, 1 << 32, 1<<32 + 1, 1<<62 + 1, 1<<63 - 1}
	// An end's neighbour beyond it is the other end, which is no F either.
	for _, n := range []int{math.MaxInt, math.MinInt, math.MaxInt / 2, math.MinInt / 2, math.MaxInt / 3, math.MinInt / 3} {
		l = append(l, n-1, n, n+1)
	}
	return l
}

// outside: no bit of a set.
func outside() []int {
	return []int{-1, -2, -31, -32, -33, 32, 33, 63, 64, 65, 1 << 32, 1<<32 + 1, -1 << 32, math.MaxInt, math.MaxInt - 1, math.MinInt, math.MinInt + 1}
}

// sets: the empty one, that of all bits, each single bit, each but one, all of few low bits, and some more.
func sets() []uint32 {
	l := []uint32{0, math.MaxUint32, 0x55555555, 0xaaaaaaaa, 0xffff, 0xffff0000, 0x80000001, 0x7fffffff, 0x12345678, 0xdeadbeef}
	for k := range 32 {
		l = append(l, 1<<k, ^(uint32(1) << k), 1<<k-1, math.MaxUint32<<k)
	}
	for set := range uint32(1 << 11) {
		l = append(l, set, set<<21)
	}
	for n, set := 0, uint32(1); n < 500; n++ {
		set = set*1664525 + 1013904223
		l = append(l, set)
	}
	return l
}

// members: a second reckoning of a set: its numbers, by halving.
func members(set uint32) []int {
	var l []int
	for k := 0; k < 32; k++ {
		if set%2 == 1 {
			l = append(l, k)
		}
		set /= 2
	}
	return l
}

// made: a set of numbers, each of which stands in them once.
func made(l []int) uint32 {
	sum := uint32(0)
	for _, k := range l {
		power := uint32(1)
		for range k {
			power *= 2
		}
		sum += power
	}
	return sum
}

func TestP4_1_AllQuorumSomeFull(t *testing.T) {
	if api.MinF != sizes[0].f || api.MaxF != sizes[len(sizes)-1].f || api.MaxN != sizes[len(sizes)-1].all {
		t.Fatal("the sizes aren't those of package api")
	}
	for _, s := range sizes {
		if n := quorum.All(s.f); n != s.all {
			t.Errorf("All(%d): %d, not %d", s.f, n, s.all)
		}
		if n := quorum.Quorum(s.f); n != s.quorum {
			t.Errorf("Quorum(%d): %d, not %d", s.f, n, s.quorum)
		}
		if n := quorum.Some(s.f); n != s.some {
			t.Errorf("Some(%d): %d, not %d", s.f, n, s.some)
		}
		if set := quorum.Full(s.f); set != s.full {
			t.Errorf("Full(%d): %#x, not %#x", s.f, set, s.full)
		}
	}
}

func TestP4_1_AnotherF(t *testing.T) {
	for _, f := range others() {
		if all, most, some, full := quorum.All(f), quorum.Quorum(f), quorum.Some(f), quorum.Full(f); all != 0 || most != 0 || some != 0 || full != 0 {
			t.Errorf("All, Quorum, Some, Full of %d: %d, %d, %d, %#x", f, all, most, some, full)
		}
		// The F is looked at first: it tells ErrArg of sets too that have bits of no replica.
		for _, set := range []uint32{0, 1, 0xf, 0x10, 0x3ff, 0x400, 1 << 31, math.MaxUint32} {
			if e := quorum.Check(f, set); e != api.ErrArg {
				t.Errorf("Check(%d, %#x): %d", f, set, e)
			}
		}
	}
}

func TestP4_1_Check(t *testing.T) {
	for _, s := range sizes {
		for _, set := range sets() {
			want := api.OK
			if slices.ContainsFunc(members(set), func(k int) bool { return k >= s.all }) {
				want = api.ErrSigner
			}
			if e := quorum.Check(s.f, set); e != want {
				t.Errorf("Check(%d, %#x): %d, not %d", s.f, set, e, want)
			}
		}
	}
}

func TestP4_1_CheckABitOfNoReplica(t *testing.T) {
	for _, s := range sizes {
		for _, set := range []uint32{0, 1, s.full / 2, s.full} {
			if e := quorum.Check(s.f, set); e != api.OK {
				t.Errorf("Check(%d, %#x): %d", s.f, set, e)
			}
			for k := s.all; k < 32; k++ {
				if e := quorum.Check(s.f, set+made([]int{k})); e != api.ErrSigner {
					t.Errorf("Check(%d, %#x with bit %d): %d", s.f, set, k, e)
				}
			}
		}
		for k := range s.all {
			if e := quorum.Check(s.f, made([]int{k})); e != api.OK {
				t.Errorf("Check(%d, bit %d): %d", s.f, k, e)
			}
		}
	}
}

func TestP4_2_Has(t *testing.T) {
	for _, set := range sets() {
		l := members(set)
		for k := range 32 {
			if got := quorum.Has(set, k); got != slices.Contains(l, k) {
				t.Errorf("Has(%#x, %d): %t", set, k, got)
			}
		}
		for _, k := range outside() {
			if quorum.Has(set, k) {
				t.Errorf("Has(%#x, %d)", set, k)
			}
		}
	}
}

func TestP4_2_Put(t *testing.T) {
	for _, set := range sets() {
		l := members(set)
		for k := range 32 {
			want := set
			if !slices.Contains(l, k) {
				want = made(append(slices.Clone(l), k))
			}
			if got, e := quorum.Put(set, k); got != want || e != api.OK {
				t.Errorf("Put(%#x, %d): %#x, %d, not %#x", set, k, got, e, want)
			}
		}
		for _, k := range outside() {
			if got, e := quorum.Put(set, k); got != 0 || e != api.ErrSigner {
				t.Errorf("Put(%#x, %d): %#x, %d", set, k, got, e)
			}
		}
	}
}

func TestP4_2_PutOneByOne(t *testing.T) {
	set := uint32(0)
	for i := range 32 {
		// 13 has nothing in common with 32: all bits come, out of order.
		k := i * 13 % 32
		next, e := quorum.Put(set, k)
		if e != api.OK || quorum.Has(set, k) || !quorum.Has(next, k) || quorum.Count(next) != i+1 {
			t.Errorf("Put(%#x, %d): %#x, %d", set, k, next, e)
		}
		set = next
	}
	if set != math.MaxUint32 {
		t.Errorf("all bits: %#x", set)
	}
}

func TestP4_2_CountList(t *testing.T) {
	for _, set := range sets() {
		want := members(set)
		if n := quorum.Count(set); n != len(want) {
			t.Errorf("Count(%#x): %d, not %d", set, n, len(want))
		}
		if l := quorum.List(set); !slices.Equal(l, want) {
			t.Errorf("List(%#x): %d, not %d", set, l, want)
		}
	}
}

func TestP4_2_CountListExamples(t *testing.T) {
	cases := []struct {
		set  uint32
		want []int
	}{
		{0, nil},
		{1, []int{0}},
		{2, []int{1}},
		{13, []int{0, 2, 3}},
		{0x3ff, []int{0, 1, 2, 3, 4, 5, 6, 7, 8, 9}},
		{1 << 31, []int{31}},
		{1<<31 | 1, []int{0, 31}},
		{1<<31 | 1<<30 | 1<<16 | 1<<15, []int{15, 16, 30, 31}},
		{math.MaxUint32, []int{0, 1, 2, 3, 4, 5, 6, 7, 8, 9, 10, 11, 12, 13, 14, 15, 16, 17, 18, 19, 20, 21, 22, 23, 24, 25, 26, 27, 28, 29, 30, 31}},
	}
	for _, c := range cases {
		if l, n := quorum.List(c.set), quorum.Count(c.set); !slices.Equal(l, c.want) || n != len(c.want) {
			t.Errorf("List, Count of %#x: %d, %d", c.set, l, n)
		}
	}
}

func TestP4_2_ListsShareNoMemory(t *testing.T) {
	for _, set := range []uint32{0, 1, 13, 1 << 31, 0x3ff, math.MaxUint32} {
		want := members(set)
		one, other := quorum.List(set), quorum.List(set)
		// The room behind the end is the caller's too.
		one = one[:cap(one)]
		for i := range one {
			one[i] = -7
		}
		if !slices.Equal(other, want) {
			t.Errorf("List(%#x): another one was written to: %d", set, other)
		}
		other = append(other[:0], -8, -8, -8)
		if slices.Contains(one, -8) {
			t.Errorf("List(%#x): the first one was written to: %d", set, one)
		}
		if l := quorum.List(set); !slices.Equal(l, want) {
			t.Errorf("List(%#x) behind all that: %d", set, l)
		}
	}
}

func TestP4_2_Leader(t *testing.T) {
	for _, s := range sizes {
		rounds := []int{0, 1, -1, 2, -2, api.MaxRound, api.MaxRound - 1, api.MaxRound + 1, -api.MaxRound, api.MaxInt, -api.MaxInt, math.MaxInt, math.MinInt}
		for _, times := range []int{1, 2, 3, 1000, api.MaxRound / s.all, math.MaxInt/s.all - 1} {
			n := times * s.all
			rounds = append(rounds, n-1, n, n+1, -n-1, -n, 1-n)
		}
		for n := range s.all + 2 {
			rounds = append(rounds, math.MaxInt-n, math.MinInt+n)
		}
		for _, round := range rounds {
			// The library's Mod is from 0 on, whatever the sign.
			want := int(new(big.Int).Mod(big.NewInt(int64(round)), big.NewInt(int64(s.all))).Int64())
			if k := quorum.Leader(s.f, round); k != want {
				t.Errorf("Leader(%d, %d): %d, not %d", s.f, round, k, want)
			}
		}
	}
}

func TestP4_2_LeaderExamples(t *testing.T) {
	cases := []struct{ f, round, want int }{
		{1, 0, 0}, {1, 3, 3}, {1, 4, 0}, {1, 5, 1}, {1, 6, 2}, {1, -1, 3}, {1, -3, 1}, {1, -4, 0}, {1, -5, 3},
		{2, 0, 0}, {2, 6, 6}, {2, 7, 0}, {2, 8, 1}, {2, -1, 6}, {2, -7, 0}, {2, -8, 6},
		{3, 0, 0}, {3, 9, 9}, {3, 10, 0}, {3, 11, 1}, {3, -1, 9}, {3, -10, 0}, {3, -11, 9},
		{1, math.MaxInt, 3}, {2, math.MaxInt, 0}, {3, math.MaxInt, 7},
		{1, math.MinInt, 0}, {2, math.MinInt, 6}, {3, math.MinInt, 2},
	}
	for _, c := range cases {
		if k := quorum.Leader(c.f, c.round); k != c.want {
			t.Errorf("Leader(%d, %d): %d, not %d", c.f, c.round, k, c.want)
		}
	}
}

func TestP4_2_LeaderOfAnotherF(t *testing.T) {
	for _, f := range others() {
		for _, round := range []int{0, 1, 3, 7, -1, -3, math.MaxInt, math.MinInt} {
			if k := quorum.Leader(f, round); k != 0 {
				t.Errorf("Leader(%d, %d): %d", f, round, k)
			}
		}
	}
}

func TestP4_2_EachLeadsOnce(t *testing.T) {
	for _, s := range sizes {
		for _, from := range []int{0, 5, -3, -100, math.MinInt, math.MaxInt - s.all} {
			set := uint32(0)
			for i := range s.all {
				set, _ = quorum.Put(set, quorum.Leader(s.f, from+i))
			}
			if set != quorum.Full(s.f) {
				t.Errorf("F %d: leaders from round %d on: %b", s.f, from, set)
			}
		}
	}
}

// large: all sets of replicas that have at least so many.
func large(f, least int) []uint32 {
	var l []uint32
	for set := range quorum.Full(f) + 1 {
		if quorum.Count(set) >= least {
			l = append(l, set)
		}
	}
	return l
}

// common: how many are in both.
func common(a, b uint32) int {
	n := 0
	for _, k := range quorum.List(a) {
		if quorum.Has(b, k) {
			n++
		}
	}
	return n
}

func TestP4_3_TwoQuorumsHaveSomeInCommon(t *testing.T) {
	for _, s := range sizes {
		least := s.all
		l := large(s.f, quorum.Quorum(s.f))
		for _, a := range l {
			for _, b := range l {
				least = min(least, common(a, b))
			}
		}
		// Not more either: a quorum that asks for more than it must can't be had when F are silent.
		if least != s.f+1 || least != quorum.Some(s.f) {
			t.Errorf("F %d: two of %d quorums have %d in common", s.f, len(l), least)
		}
	}
}

func TestP4_3_OneIsNotBad(t *testing.T) {
	for _, s := range sizes {
		for bad := range quorum.Full(s.f) + 1 {
			if quorum.Count(bad) > s.f {
				continue
			}
			good := quorum.Full(s.f) &^ bad
			if quorum.Count(good) < quorum.Quorum(s.f) {
				t.Errorf("F %d: all but %b are no quorum", s.f, bad)
			}
			for _, set := range large(s.f, quorum.Quorum(s.f)) {
				if common(set, good) < quorum.Some(s.f) {
					t.Errorf("F %d: in the quorum %b, fewer than some aren't bad: %b", s.f, set, bad)
				}
			}
			for _, set := range large(s.f, quorum.Some(s.f)) {
				if common(set, good) == 0 {
					t.Errorf("F %d: all of %b are bad: %b", s.f, set, bad)
				}
			}
		}
	}
}

// told: what the calls tell of some numbers.
func told() []int {
	var l []int
	for f := -1; f < 6; f++ {
		l = append(l, quorum.All(f), quorum.Quorum(f), quorum.Some(f), int(quorum.Full(f)), int(quorum.Check(f, 0x1ff)), quorum.Leader(f, -5))
		set, e := quorum.Put(0x1ff, f)
		l = append(l, int(set), int(e), quorum.Count(set))
		l = append(l, quorum.List(set)...)
	}
	return l
}

func TestR6_NothingIsKeptBetweenCalls(t *testing.T) {
	first := told()
	for range 3 {
		if again := told(); !slices.Equal(again, first) {
			t.Errorf("told again: %d, not %d", again, first)
		}
	}
}
