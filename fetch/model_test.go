package fetch_test

import (
	"math"
	"slices"
	"strconv"
	"testing"

	"hallmoot/api"
	"hallmoot/fetch"
)

// This file has tables of which the tests are made, and a second reckoning of what layer 16 tells.

// list: a second reckoning of a table, where numbers stand in the order in which they came, with all asks that were made for each.
type list struct {
	f, me, most, tries int
	numbers            []int
	asks               map[int][]int
}

// others: everybody else, in the order in which they are asked, by counting on from me.
func others(f, me int) []int {
	var l []int
	for k := me + 1; k <= 3*f; k++ {
		l = append(l, k)
	}
	for k := range me {
		l = append(l, k)
	}
	return l
}

// want: what Want tells, and does.
func (x *list) want(n int) api.Errno {
	switch {
	case n <= 0:
		return api.ErrArg
	case slices.Contains(x.numbers, n):
		return api.ErrThere
	case len(x.numbers) == x.most:
		return api.ErrFull
	}
	x.numbers = append(x.numbers, n)
	x.asks[n] = nil
	return api.OK
}

// got: what Got tells, and does.
func (x *list) got(n int) api.Errno {
	i := slices.Index(x.numbers, n)
	if i < 0 {
		return api.ErrAsk
	}
	x.numbers = append(x.numbers[:i:i], x.numbers[i+1:]...)
	return api.OK
}

// tick: what Tick tells, and does.
func (x *list) tick() []fetch.Ask {
	var l []fetch.Ask
	for _, n := range x.wants() {
		asked := x.asks[n]
		if len(asked) == x.tries {
			x.got(n)
			continue
		}
		// Whoever was asked longest ago is next.
		turn := others(x.f, x.me)
		to := turn[0]
		if len(asked) > 0 {
			last := slices.Index(turn, asked[len(asked)-1])
			to = append(turn, turn...)[last+1]
		}
		l = append(l, fetch.Ask{N: n, To: to, Times: len(asked)})
		x.asks[n] = append(asked, to)
	}
	return l
}

// wants: what Wants tells.
func (x *list) wants() []int {
	l := slices.Clone(x.numbers)
	slices.Sort(l)
	return l
}

// both: a table, and its second reckoning.
type both struct {
	table *fetch.Fetch
	list  *list
}

// twins: both, alike.
func twins(t *testing.T, f, me, most, tries int) *both {
	t.Helper()
	return &both{made(t, f, me, most, tries), &list{f, me, most, tries, nil, map[int][]int{}}}
}

// want: both, and whether they tell the same.
func (x *both) want(t *testing.T, n int) {
	t.Helper()
	want(t, x.table, n, x.list.want(n))
	wanted(t, x.table, x.list.wants()...)
}

// got: both, and whether they tell the same.
func (x *both) got(t *testing.T, n int) {
	t.Helper()
	got(t, x.table, n, x.list.got(n))
	wanted(t, x.table, x.list.wants()...)
}

// tick: both, and whether they tell the same.
func (x *both) tick(t *testing.T) {
	t.Helper()
	tick(t, x.table, x.list.tick()...)
	wanted(t, x.table, x.list.wants()...)
}

// clear: both, and whether they tell the same.
func (x *both) clear(t *testing.T) {
	t.Helper()
	x.table.Clear()
	x.list.numbers = nil
	wanted(t, x.table)
}

// made: a table without numbers.
func made(t *testing.T, f, me, most, tries int) *fetch.Fetch {
	t.Helper()
	x, e := fetch.New(f, me, most, tries)
	if e != api.OK || x == nil {
		t.Fatalf("New(%d, %d, %d, %d): %v, %d", f, me, most, tries, x, e)
	}
	wanted(t, x)
	return x
}

// refused: is this the error of New, and no table with it?
func refused(t *testing.T, f, me, most, tries int, want api.Errno) {
	t.Helper()
	if x, e := fetch.New(f, me, most, tries); x != nil || e != want {
		t.Errorf("New(%d, %d, %d, %d): %v, %d, not %d", f, me, most, tries, x, e, want)
	}
}

// wanting: a table with as much room as may be, and many tries, in which these are wanted.
func wanting(t *testing.T, numbers ...int) *fetch.Fetch {
	t.Helper()
	x := made(t, 1, 0, api.MaxAsks, math.MaxInt)
	wants(t, x, numbers...)
	return x
}

// want: is this what Want tells?
func want(t *testing.T, x *fetch.Fetch, n int, e api.Errno) {
	t.Helper()
	if f := x.Want(n); f != e {
		t.Fatalf("Want(%d): %d, not %d", n, f, e)
	}
}

// wants: is each of these wanted now, and was none ahead?
func wants(t *testing.T, x *fetch.Fetch, numbers ...int) {
	t.Helper()
	for _, n := range numbers {
		want(t, x, n, api.OK)
	}
}

// got: is this what Got tells?
func got(t *testing.T, x *fetch.Fetch, n int, e api.Errno) {
	t.Helper()
	if f := x.Got(n); f != e {
		t.Fatalf("Got(%d): %d, not %d", n, f, e)
	}
}

// tick: is this what Tick tells?
func tick(t *testing.T, x *fetch.Fetch, l ...fetch.Ask) {
	t.Helper()
	if m := x.Tick(); !slices.Equal(m, l) {
		t.Fatalf("Tick: %s, not %s", told(m), told(l))
	}
}

// ticks: so many of them, whatever they tell.
func ticks(x *fetch.Fetch, many int) {
	for range many {
		x.Tick()
	}
}

// wanted: is this what Wants tells, each time that it is asked?
func wanted(t *testing.T, x *fetch.Fetch, l ...int) {
	t.Helper()
	for range 2 {
		if m := x.Wants(); !slices.Equal(m, l) {
			t.Fatalf("Wants: %v, not %v", m, l)
		}
	}
}

// told: asks, as words.
func told(l []fetch.Ask) string {
	s := "asks"
	for _, a := range l {
		s += " " + strconv.Itoa(a.N) + ":" + strconv.Itoa(a.To) + ":" + strconv.Itoa(a.Times)
	}
	return s
}

// ends: numbers far off, some of which are something else when they are cut to 32 bits.
func ends() []int {
	return append(belows(), aboves()...)
}

// belows: those below 0.
func belows() []int {
	return []int{math.MinInt, math.MinInt + 1, -1 << 33, -1<<32 - 1, -1 << 32, -1<<32 + 1, -1 << 31, -256, -255, -17, -2, -1}
}

// aboves: those above whatever is small.
func aboves() []int {
	return []int{256, 257, 1 << 16, 1<<16 + 1, 1<<31 - 1, 1 << 31, 1<<32 - 1, 1 << 32, 1<<32 + 1, 1<<32 + 2, 1 << 62, math.MaxInt - 1, math.MaxInt}
}

// row: the numbers from one to another one.
func row(from, to int) []int {
	var l []int
	for n := from; n <= to; n++ {
		l = append(l, n)
	}
	return l
}

// orders: all orders of a list.
func orders[T any](l []T) [][]T {
	if len(l) == 0 {
		return [][]T{nil}
	}
	var all [][]T
	for _, o := range orders(l[1:]) {
		for i := range len(o) + 1 {
			all = append(all, slices.Insert(slices.Clone(o), i, l[0]))
		}
	}
	return all
}

// dice: numbers that look drawn, the same each time.
type dice struct{ seed uint64 }

// below: a number from 0 to n less 1.
func (d *dice) below(n int) int {
	d.seed = d.seed*6364136223846793005 + 1442695040888963407
	return int(d.seed >> 33 % uint64(n))
}

// mixed: the list in another order.
func mixed[T any](d *dice, l []T) []T {
	l = slices.Clone(l)
	for i := len(l) - 1; i > 0; i-- {
		k := d.below(i + 1)
		l[i], l[k] = l[k], l[i]
	}
	return l
}
