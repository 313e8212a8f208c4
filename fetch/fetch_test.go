package fetch_test

import (
	"math"
	"slices"
	"strconv"
	"testing"

	"hallmoot/api"
	"hallmoot/fetch"
)

const (
	ok     = api.OK
	arg    = api.ErrArg
	none   = api.ErrNil
	signer = api.ErrSigner
	there  = api.ErrThere
	noRoom = api.ErrFull
	notAsk = api.ErrAsk
)

// ask: an Ask.
func ask(n, to, times int) fetch.Ask { return fetch.Ask{N: n, To: to, Times: times} }

// TestP16_1_New: of each F that may be each replica, each number that may be, and tries from 1 on.
func TestP16_1_New(t *testing.T) {
	for f := 1; f <= 3; f++ {
		for me := range 3*f + 1 {
			for most := 1; most <= 16; most++ {
				for _, tries := range append(aboves(), 1, 2, 3, 17) {
					x := made(t, f, me, most, tries)
					tick(t, x)
					got(t, x, 1, notAsk)
					got(t, x, 0, notAsk)
					want(t, x, 1, ok)
					wanted(t, x, 1)
				}
			}
		}
	}
}

// TestP16_1_NewOfAnotherF: one below, one above, and numbers far off.
func TestP16_1_NewOfAnotherF(t *testing.T) {
	for _, f := range append(ends(), 0, 4, 5) {
		for _, me := range []int{0, 1, 3} {
			refused(t, f, me, 1, 1, arg)
			refused(t, f, me, 16, 7, arg)
		}
	}
}

// TestP16_1_NewOfAnotherMost: 0, one more than may be, and numbers far off.
func TestP16_1_NewOfAnotherMost(t *testing.T) {
	for f := 1; f <= 3; f++ {
		for _, most := range append(ends(), 0, 17, 18) {
			refused(t, f, 0, most, 1, arg)
			refused(t, f, 3*f, most, 9, arg)
		}
	}
}

// TestP16_1_NewOfAnotherTries: 0, and numbers below it.
func TestP16_1_NewOfAnotherTries(t *testing.T) {
	for f := 1; f <= 3; f++ {
		for _, tries := range append(belows(), 0) {
			refused(t, f, 0, 1, tries, arg)
			refused(t, f, 3*f, 16, tries, arg)
		}
	}
}

// TestP16_1_NewOfNobody: below 0, one more than 3F, and numbers far off are no replicas.
func TestP16_1_NewOfNobody(t *testing.T) {
	for f := 1; f <= 3; f++ {
		for _, me := range append(ends(), 3*f+1, 3*f+2, 31, 32, 33, 64) {
			refused(t, f, me, 1, 1, signer)
			refused(t, f, me, 16, math.MaxInt, signer)
		}
		made(t, f, 0, 1, 1)
		made(t, f, 3*f, 1, 1)
	}
}

// TestP16_1_NewsFirstError: ErrArg of any number, ahead of ErrSigner.
func TestP16_1_NewsFirstError(t *testing.T) {
	for _, f := range []int{math.MinInt, -1, 0, 1, 2, 3, 4, math.MaxInt} {
		for _, me := range []int{math.MinInt, -1, 0, 3, 4, 9, 10, math.MaxInt} {
			for _, most := range []int{math.MinInt, -1, 0, 1, 16, 17, math.MaxInt} {
				for _, tries := range []int{math.MinInt, -1, 0, 1, math.MaxInt} {
					switch {
					case f < 1 || f > 3 || most < 1 || most > 16 || tries < 1:
						refused(t, f, me, most, tries, arg)
					case me < 0 || me > 3*f:
						refused(t, f, me, most, tries, signer)
					default:
						made(t, f, me, most, tries)
					}
				}
			}
		}
	}
}

// TestP16_1_WantOfEachOrder: in whatever order numbers come, they are wanted, and told rising.
func TestP16_1_WantOfEachOrder(t *testing.T) {
	for _, l := range orders([]int{1, 2, 7, 1 << 32, math.MaxInt}) {
		x := wanting(t)
		for i, n := range l {
			want(t, x, n, ok)
			wanted(t, x, slices.Sorted(slices.Values(l[:i+1]))...)
		}
	}
}

// TestP16_1_WantRisingFallingMixed: as many as may be.
func TestP16_1_WantRisingFallingMixed(t *testing.T) {
	rising := row(101, 116)
	falling := slices.Clone(rising)
	slices.Reverse(falling)
	d := &dice{1601}
	for _, l := range [][]int{rising, falling, mixed(d, rising), mixed(d, rising), mixed(d, rising)} {
		x := wanting(t, l...)
		wanted(t, x, rising...)
		var asks []fetch.Ask
		for _, n := range rising {
			asks = append(asks, ask(n, 1, 0))
		}
		tick(t, x, asks...)
	}
}

// TestP16_1_WantOfNoNumber: 0 and what is below it, in an empty table and in a full one.
func TestP16_1_WantOfNoNumber(t *testing.T) {
	for _, l := range [][]int{nil, {1}, {5}, {1, 5}} {
		x := made(t, 1, 0, 2, 5)
		wants(t, x, l...)
		for _, n := range append(belows(), 0) {
			want(t, x, n, arg)
		}
		wanted(t, x, l...)
	}
}

// TestP16_1_WantOfWhatIsWanted: the first, those in the middle, and the last one; how often it was asked for stays.
func TestP16_1_WantOfWhatIsWanted(t *testing.T) {
	for many := 1; many <= 6; many++ {
		x := wanting(t)
		for k := 1; k <= many; k++ {
			want(t, x, 10*k, ok)
			ticks(x, 1)
		}
		for range 2 {
			for k := 1; k <= many; k++ {
				want(t, x, 10*k, there)
			}
		}
		for i, a := range x.Tick() {
			// What was wanted first was asked for at each of the ticks.
			if a.N != 10*(i+1) || a.Times != many-i {
				t.Errorf("of %d: %+v", many, a)
			}
		}
	}
}

// TestP16_1_Room: as many as was said, and not one more.
func TestP16_1_Room(t *testing.T) {
	for most := 1; most <= 16; most++ {
		x := made(t, 2, 3, most, 5)
		for k := range most {
			want(t, x, 10*k+10, ok)
		}
		l := x.Wants()
		for _, n := range append(aboves(), 1, 9, 11, 10*most-1, 10*most+1, 10*most+10) {
			want(t, x, n, noRoom)
		}
		for _, n := range append(belows(), 0) {
			want(t, x, n, arg)
		}
		for _, n := range l {
			want(t, x, n, there)
		}
		wanted(t, x, l...)
		if len(l) != most || len(x.Tick()) != most {
			t.Errorf("most %d: %v", most, l)
		}
	}
}

// TestP16_1_RoomForOneMore: with each one that came, and none behind it.
func TestP16_1_RoomForOneMore(t *testing.T) {
	for k := range 5 {
		x := made(t, 1, 0, 5, 5)
		wants(t, x, 2, 4, 6, 8, 10)
		got(t, x, 2*k+2, ok)
		want(t, x, 7, ok)
		want(t, x, 9, noRoom)
		want(t, x, 7, there)
		want(t, x, 2*k+2, noRoom)
	}
}

// TestP16_1_WantBehindGot: it is wanted anew, from no times on.
func TestP16_1_WantBehindGot(t *testing.T) {
	x := wanting(t, 4, 8)
	tick(t, x, ask(4, 1, 0), ask(8, 1, 0))
	tick(t, x, ask(4, 2, 1), ask(8, 2, 1))
	got(t, x, 4, ok)
	want(t, x, 4, ok)
	want(t, x, 4, there)
	tick(t, x, ask(4, 1, 0), ask(8, 3, 2))
	got(t, x, 8, ok)
	want(t, x, 8, ok)
	tick(t, x, ask(4, 2, 1), ask(8, 1, 0))
}

// TestP16_1_Got: the first, one in the middle, the last, in each order; the others stay, with how often they were asked for.
func TestP16_1_Got(t *testing.T) {
	numbers := []int{1, 5, 9, 1 << 32, math.MaxInt}
	for _, l := range orders(numbers) {
		x := wanting(t, numbers...)
		stay := slices.Clone(numbers)
		for k, n := range l {
			got(t, x, n, ok)
			got(t, x, n, notAsk)
			stay = slices.DeleteFunc(stay, func(m int) bool { return m == n })
			wanted(t, x, stay...)
			var asks []fetch.Ask
			for _, m := range stay {
				asks = append(asks, ask(m, 1+k%3, k))
			}
			tick(t, x, asks...)
		}
		wanted(t, x)
	}
}

// TestP16_1_GotOfOthers: below, between and above those that are wanted, and no numbers; nothing changes.
func TestP16_1_GotOfOthers(t *testing.T) {
	for _, l := range [][]int{nil, {5}, {5, 9}, {5, 9, 13}, {5, 9, 13, 20}} {
		x := wanting(t, l...)
		for _, n := range append(ends(), 0, 1, 4, 6, 8, 10, 12, 14, 19, 21) {
			got(t, x, n, notAsk)
		}
		wanted(t, x, l...)
		var asks []fetch.Ask
		for _, n := range l {
			asks = append(asks, ask(n, 1, 0))
		}
		tick(t, x, asks...)
	}
}

// TestP16_1_FarNumbers: those that are alike when they are cut to 32 bits are unlike ones.
func TestP16_1_FarNumbers(t *testing.T) {
	x := wanting(t, 1<<32+1, 1, math.MaxInt, 1<<31, 1<<62, math.MaxInt-1, 1<<31-1)
	l := []int{1, 1<<31 - 1, 1 << 31, 1<<32 + 1, 1 << 62, math.MaxInt - 1, math.MaxInt}
	wanted(t, x, l...)
	got(t, x, 1, ok)
	got(t, x, 1<<33+1, notAsk)
	got(t, x, -1, notAsk)
	got(t, x, math.MinInt, notAsk)
	wanted(t, x, l[1:]...)
	want(t, x, math.MaxInt, there)
	want(t, x, 1<<32+1, there)
	for i, a := range x.Tick() {
		if a != ask(l[i+1], 1, 0) {
			t.Errorf("%+v", a)
		}
	}
}

// TestP16_Examples: those of the chapter.
func TestP16_Examples(t *testing.T) {
	x := made(t, 1, 2, 1, 4)
	want(t, x, 6, ok)
	for k, to := range []int{3, 0, 1, 3} {
		tick(t, x, ask(6, to, k))
	}
	tick(t, x)
}

// TestP16_2_Whom: of each F and each me, everybody else in turn, over and over.
func TestP16_2_Whom(t *testing.T) {
	for f := 1; f <= 3; f++ {
		for me := range 3*f + 1 {
			x := made(t, f, me, 3, 100)
			want(t, x, 7, ok)
			n := 3*f + 1
			for k := range 9*f + 4 {
				to := (me + 1 + k%(n-1)) % n
				if to != others(f, me)[k%(3*f)] {
					t.Fatalf("F %d, me %d, %d: %d", f, me, k, to)
				}
				tick(t, x, ask(7, to, k))
			}
		}
	}
}

// TestP16_2_WhomByHand: some rows, written out.
func TestP16_2_WhomByHand(t *testing.T) {
	for _, y := range []struct {
		f, me int
		to    []int
	}{
		{1, 0, []int{1, 2, 3, 1, 2, 3, 1}},
		{1, 1, []int{2, 3, 0, 2, 3, 0, 2}},
		{1, 2, []int{3, 0, 1, 3, 0, 1, 3}},
		{1, 3, []int{0, 1, 2, 0, 1, 2, 0}},
		{2, 0, []int{1, 2, 3, 4, 5, 6, 1, 2, 3, 4, 5, 6, 1}},
		{2, 4, []int{5, 6, 0, 1, 2, 3, 5, 6, 0, 1, 2, 3, 5}},
		{2, 6, []int{0, 1, 2, 3, 4, 5, 0, 1, 2, 3, 4, 5, 0}},
		{3, 0, []int{1, 2, 3, 4, 5, 6, 7, 8, 9, 1, 2}},
		{3, 7, []int{8, 9, 0, 1, 2, 3, 4, 5, 6, 8, 9}},
		{3, 9, []int{0, 1, 2, 3, 4, 5, 6, 7, 8, 0, 1}},
	} {
		x := made(t, y.f, y.me, 16, 50)
		want(t, x, 1, ok)
		for k, to := range y.to {
			tick(t, x, ask(1, to, k))
		}
	}
}

// TestP16_2_TickOfUnlikeTimes: numbers that were asked for unlike often, each at its own place, rising by the numbers.
func TestP16_2_TickOfUnlikeTimes(t *testing.T) {
	x := made(t, 2, 5, 4, 50)
	tick(t, x)
	want(t, x, 30, ok)
	tick(t, x, ask(30, 6, 0))
	want(t, x, 10, ok)
	tick(t, x, ask(10, 6, 0), ask(30, 0, 1))
	tick(t, x, ask(10, 0, 1), ask(30, 1, 2))
	want(t, x, 40, ok)
	want(t, x, 20, ok)
	tick(t, x, ask(10, 1, 2), ask(20, 6, 0), ask(30, 2, 3), ask(40, 6, 0))
	got(t, x, 10, ok)
	tick(t, x, ask(20, 0, 1), ask(30, 3, 4), ask(40, 0, 1))
	got(t, x, 30, ok)
	want(t, x, 30, ok)
	tick(t, x, ask(20, 1, 2), ask(30, 6, 0), ask(40, 1, 2))
	tick(t, x, ask(20, 2, 3), ask(30, 0, 1), ask(40, 2, 3))
}

// TestP16_2_LastTry: so many tries, at the last of which it is still wanted; at the next tick it is gone, and may come anew.
func TestP16_2_LastTry(t *testing.T) {
	for f := 1; f <= 3; f++ {
		for _, tries := range []int{1, 2, 3, 4, 7, 9, 10, 19} {
			x := made(t, f, 1, 1, tries)
			for range 3 {
				want(t, x, 5, ok)
				for k := range tries {
					tick(t, x, ask(5, others(f, 1)[k%(3*f)], k))
					wanted(t, x, 5)
					want(t, x, 5, there)
					want(t, x, 6, noRoom)
				}
				tick(t, x)
				wanted(t, x)
				got(t, x, 5, notAsk)
				tick(t, x)
			}
		}
	}
}

// TestP16_2_GoneByItself: it makes room, and those beside it are asked for.
func TestP16_2_GoneByItself(t *testing.T) {
	x := made(t, 1, 3, 3, 2)
	want(t, x, 5, ok)
	tick(t, x, ask(5, 0, 0))
	want(t, x, 9, ok)
	want(t, x, 2, ok)
	tick(t, x, ask(2, 0, 0), ask(5, 1, 1), ask(9, 0, 0))
	want(t, x, 7, noRoom)
	wanted(t, x, 2, 5, 9)
	tick(t, x, ask(2, 1, 1), ask(9, 1, 1))
	wanted(t, x, 2, 9)
	want(t, x, 5, ok)
	want(t, x, 7, noRoom)
	tick(t, x, ask(5, 0, 0))
	wanted(t, x, 5)
	want(t, x, 9, ok)
	want(t, x, 2, ok)
	tick(t, x, ask(2, 0, 0), ask(5, 1, 1), ask(9, 0, 0))
}

// TestP16_2_WhichGo: of five numbers each set was asked for as often as may be; those alone go.
func TestP16_2_WhichGo(t *testing.T) {
	for set := range 1 << 5 {
		x := made(t, 1, 0, 5, 3)
		var early, late []int
		var asks []fetch.Ask
		for k := range 5 {
			if set&(1<<k) != 0 {
				early = append(early, k+1)
			} else {
				late = append(late, k+1)
				asks = append(asks, ask(k+1, 3, 2))
			}
		}
		wants(t, x, early...)
		ticks(x, 1)
		wants(t, x, late...)
		ticks(x, 2)
		wanted(t, x, 1, 2, 3, 4, 5)
		tick(t, x, asks...)
		wanted(t, x, late...)
		tick(t, x)
		wanted(t, x)
	}
}

// TestP16_2_ManyTries: as long as they allow, and no number of them is too great.
func TestP16_2_ManyTries(t *testing.T) {
	const many = 100000
	for _, tries := range []int{many, many + 1, 1 << 31, 1 << 32, 1<<32 + 1, 1 << 62, math.MaxInt} {
		x := made(t, 3, 4, 1, tries)
		want(t, x, 8, ok)
		turn := others(3, 4)
		for k := range many {
			if l := x.Tick(); len(l) != 1 || l[0] != ask(8, turn[k%9], k) {
				t.Fatalf("tries %d, %d: %v", tries, k, l)
			}
		}
		if tries == many {
			tick(t, x)
			wanted(t, x)
			continue
		}
		tick(t, x, ask(8, turn[many%9], many))
		wanted(t, x, 8)
	}
}

// TestP16_2_Clear: none is wanted; what was may be wanted anew, from no times on, and as many as ever.
func TestP16_2_Clear(t *testing.T) {
	x := made(t, 1, 1, 3, 3)
	x.Clear()
	wanted(t, x)
	tick(t, x)
	for range 3 {
		wants(t, x, 6, 4, 5)
		want(t, x, 7, noRoom)
		tick(t, x, ask(4, 2, 0), ask(5, 2, 0), ask(6, 2, 0))
		tick(t, x, ask(4, 3, 1), ask(5, 3, 1), ask(6, 3, 1))
		x.Clear()
		wanted(t, x)
		tick(t, x)
		for _, n := range []int{4, 5, 6} {
			got(t, x, n, notAsk)
		}
		x.Clear()
		wanted(t, x)
	}
	want(t, x, 0, arg)
	want(t, x, 4, ok)
	want(t, x, 4, there)
	for k, to := range []int{2, 3, 0} {
		tick(t, x, ask(4, to, k))
	}
	tick(t, x)
}

// TestP16_2_Nil: of no table ErrNil, whatever the number is, and nothing.
func TestP16_2_Nil(t *testing.T) {
	var x *fetch.Fetch
	for _, n := range append(ends(), 0, 1, 2) {
		want(t, x, n, none)
		got(t, x, n, none)
	}
	x.Clear()
	tick(t, x)
	wanted(t, x)
}

// TestP16_3_Everybody: within 3F ticks everybody else was asked once, nobody itself, whichever replica it is.
func TestP16_3_Everybody(t *testing.T) {
	for f := 1; f <= 3; f++ {
		for me := range 3*f + 1 {
			for tries := 1; tries <= 3*f+2; tries++ {
				x := made(t, f, me, 16, tries)
				// The second one is wanted at each tick behind the first one's.
				for late := range 3 * f {
					asked := map[int]map[int]int{1: {}, 2: {}}
					want(t, x, 1, ok)
					for k := range 3*f + late {
						if k == late {
							want(t, x, 2, ok)
						}
						for _, a := range x.Tick() {
							asked[a.N][a.To]++
						}
					}
					heard(t, asked[2], f, me, min(tries, 3*f))
					heard(t, asked[1], f, me, min(tries, 3*f+late))
					x.Clear()
				}
			}
		}
	}
}

// heard: was everybody else asked, or as many as there were times, and nobody itself, and none more often than others but by one?
func heard(t *testing.T, asked map[int]int, f, me, times int) {
	t.Helper()
	sum := 0
	for who, k := range asked {
		sum += k
		if who < 0 || who > 3*f || who == me {
			t.Fatalf("F %d, me %d: %d is asked", f, me, who)
		}
		if k < times/(3*f) || k > (times+3*f-1)/(3*f) {
			t.Fatalf("F %d, me %d: %d is asked %d times of %d", f, me, who, k, times)
		}
	}
	if sum != times || len(asked) != min(times, 3*f) {
		t.Fatalf("F %d, me %d, %d times: %v", f, me, times, asked)
	}
}

// TestP16_3_NeverMore: in drawn steps there are never more than may be, and never asks of oneself or beyond the tries.
func TestP16_3_NeverMore(t *testing.T) {
	d := &dice{1603}
	for range 300 {
		f := 1 + d.below(3)
		me, most, tries := d.below(3*f+1), 1+d.below(16), 1+d.below(12)
		x := made(t, f, me, most, tries)
		for range 200 {
			switch d.below(8) {
			case 0:
				x.Got(d.below(24))
			case 1:
				for _, a := range x.Tick() {
					if a.To == me || a.To < 0 || a.To > 3*f || a.Times < 0 || a.Times >= tries {
						t.Fatalf("F %d, me %d, tries %d: %+v", f, me, tries, a)
					}
				}
			default:
				x.Want(d.below(24) - 1)
			}
			l := x.Wants()
			if len(l) > most || !slices.IsSorted(l) || len(slices.Compact(slices.Clone(l))) != len(l) {
				t.Fatalf("most %d: %v", most, l)
			}
		}
	}
}

// TestP16_AllShortRows: all rows of six steps, each one of seven, of a table with room for two and two tries, against the second reckoning.
func TestP16_AllShortRows(t *testing.T) {
	steps := []func(*both){
		func(x *both) { x.want(t, 1) },
		func(x *both) { x.want(t, 2) },
		func(x *both) { x.want(t, 3) },
		func(x *both) { x.got(t, 1) },
		func(x *both) { x.got(t, 2) },
		func(x *both) { x.tick(t) },
		func(x *both) { x.clear(t) },
	}
	const long = 6
	all := 1
	for range long {
		all *= len(steps)
	}
	for code := range all {
		x := twins(t, 1, 2, 2, 2)
		for range long {
			steps[code%len(steps)](x)
			code /= len(steps)
		}
		x.tick(t)
	}
}

// TestP16_DrawnRows: long rows of drawn steps, of each F and each me, against the second reckoning.
func TestP16_DrawnRows(t *testing.T) {
	d := &dice{16}
	for f := 1; f <= 3; f++ {
		for me := range 3*f + 1 {
			for range 20 {
				x := twins(t, f, me, 1+d.below(16), 1+d.below(30))
				span := 3 + d.below(30)
				for range 250 {
					n := d.below(span) - 1
					switch k := d.below(100); {
					case k < 45:
						x.want(t, n)
					case k < 65:
						x.got(t, n)
					case k < 99:
						x.tick(t)
					default:
						x.clear(t)
					}
				}
			}
		}
	}
}

// TestR1_AllCallsEnd: of all numbers at all calls.
func TestR1_AllCallsEnd(t *testing.T) {
	all := append(ends(), 0, 1, 2, 3, 4, 9, 10, 16, 17)
	for _, f := range all {
		for _, me := range all {
			for _, most := range all {
				for _, tries := range []int{math.MinInt, -1, 0, 1, 2, math.MaxInt} {
					x, e := fetch.New(f, me, most, tries)
					if (x == nil) != (e != ok) {
						t.Fatalf("New(%d, %d, %d, %d): %v, %d", f, me, most, tries, x, e)
					}
					for _, n := range []int{math.MaxInt, 1, math.MinInt, 0} {
						x.Want(n)
						x.Tick()
						x.Got(n)
						x.Wants()
					}
					x.Clear()
				}
			}
		}
	}
}

// TestR2_NothingChangesWithAnError: neither what is wanted, nor how often it was asked for.
func TestR2_NothingChangesWithAnError(t *testing.T) {
	x := made(t, 1, 0, 3, 4)
	wants(t, x, 10, 20)
	ticks(x, 1)
	want(t, x, 15, ok)
	wrong := func() {
		for _, n := range append(belows(), 0) {
			want(t, x, n, arg)
			got(t, x, n, notAsk)
		}
		for _, n := range []int{10, 15, 20} {
			want(t, x, n, there)
		}
		for _, n := range append(aboves(), 1, 9, 11, 14, 16, 19, 21) {
			want(t, x, n, noRoom)
			got(t, x, n, notAsk)
		}
		wanted(t, x, 10, 15, 20)
	}
	wrong()
	tick(t, x, ask(10, 2, 1), ask(15, 1, 0), ask(20, 2, 1))
	wrong()
	tick(t, x, ask(10, 3, 2), ask(15, 2, 1), ask(20, 3, 2))
	wrong()
	tick(t, x, ask(10, 1, 3), ask(15, 3, 2), ask(20, 1, 3))
	wrong()
	tick(t, x, ask(15, 1, 3))
	tick(t, x)
}

// TestR4_ToldIsTheCallers: what a caller does with what it was told, behind its end too, changes neither the table nor another answer.
func TestR4_ToldIsTheCallers(t *testing.T) {
	spoil := func(asks []fetch.Ask, numbers []int) {
		asks = asks[:cap(asks)]
		for i := range asks {
			asks[i] = ask(-9, -9, -9)
		}
		numbers = numbers[:cap(numbers)]
		for i := range numbers {
			numbers[i] = -9
		}
	}
	for many := 1; many <= 16; many++ {
		d := &dice{uint64(many)}
		x := made(t, 1, 0, 16, 4)
		for _, n := range mixed(d, row(1, many)) {
			want(t, x, n, ok)
		}
		for k := range 4 {
			first, second := x.Wants(), x.Wants()
			asks := x.Tick()
			spoil(nil, first)
			if !slices.Equal(second, row(1, many)) {
				t.Fatalf("of %d: %v", many, second)
			}
			kept := slices.Clone(asks)
			wanted(t, x, row(1, many)...)
			x.Wants()[0] = 77
			if !slices.Equal(kept, asks) || kept[many-1] != ask(many, 1+k%3, k) {
				t.Fatalf("of %d: %s, not %s", many, told(asks), told(kept))
			}
			spoil(asks, second)
			wanted(t, x, row(1, many)...)
		}
		spoil(x.Tick(), x.Wants())
		wanted(t, x)
	}
}

// TestR4_WhatWasToldStays: whatever is done with the table behind it.
func TestR4_WhatWasToldStays(t *testing.T) {
	x := wanting(t, 3, 6, 9)
	numbers, asks := x.Wants(), x.Tick()
	got(t, x, 3, ok)
	wants(t, x, 1, 7)
	later := x.Tick()
	x.Clear()
	wants(t, x, 50, 51, 52)
	ticks(x, 2)
	if !slices.Equal(numbers, []int{3, 6, 9}) {
		t.Errorf("Wants: %v", numbers)
	}
	if !slices.Equal(asks, []fetch.Ask{ask(3, 1, 0), ask(6, 1, 0), ask(9, 1, 0)}) {
		t.Errorf("Tick: %s", told(asks))
	}
	if !slices.Equal(later, []fetch.Ask{ask(1, 1, 0), ask(6, 2, 1), ask(7, 1, 0), ask(9, 2, 1)}) {
		t.Errorf("Tick: %s", told(later))
	}
}

// TestR6_SideBySide: two tables count for nothing with each other.
func TestR6_SideBySide(t *testing.T) {
	a, b := made(t, 1, 0, 1, 2), made(t, 3, 9, 2, 3)
	want(t, a, 5, ok)
	wanted(t, b)
	got(t, b, 5, notAsk)
	wants(t, b, 5, 4)
	want(t, a, 4, noRoom)
	tick(t, a, ask(5, 1, 0))
	tick(t, a, ask(5, 2, 1))
	tick(t, b, ask(4, 0, 0), ask(5, 0, 0))
	tick(t, a)
	wanted(t, b, 4, 5)
	a.Clear()
	tick(t, b, ask(4, 1, 1), ask(5, 1, 1))
	want(t, a, 4, ok)
	b.Clear()
	wanted(t, a, 4)
	tick(t, a, ask(4, 1, 0))
	got(t, a, 4, ok)
	got(t, b, 4, notAsk)
}

// TestR6_TheSameAgain: the same calls tell the same, whenever they are made.
func TestR6_TheSameAgain(t *testing.T) {
	first := ""
	for range 3 {
		d := &dice{166}
		x := made(t, 2, 3, 8, 5)
		s := ""
		for range 400 {
			switch n := 1 + d.below(12); d.below(3) {
			case 0:
				s += told(x.Tick())
			case 1:
				s += strconv.Itoa(int(x.Got(n)))
			default:
				s += strconv.Itoa(int(x.Want(n)))
			}
		}
		if first == "" {
			first = s
		}
		if s != first {
			t.Fatalf("%s, not %s", s, first)
		}
	}
}
