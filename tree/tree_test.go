package tree_test

import (
	"math"
	"reflect"
	"slices"
	"strconv"
	"testing"
	"unsafe"

	"hallmoot/api"
	"hallmoot/tree"
)

const (
	ok     = api.OK
	arg    = api.ErrArg
	there  = api.ErrThere
	old    = api.ErrOld
	noRoom = api.ErrFull
	orphan = api.ErrOrphan
	none   = api.ErrBook
)

// TestP15_1_New: of each number that may be, of those beside them, and of the ends.
func TestP15_1_New(t *testing.T) {
	for most := 1; most <= 256; most++ {
		x := made(t, most)
		root(t, x, 0, 0)
		size(t, x, 0, 0)
		missing(t, x)
		has(t, x, few(3), []int{0})
		path(t, x, 0, ok)
		path(t, x, 1, none)
		gets(t, x, 0, api.Block{}, false)
	}
	for _, most := range append(ends(), 0, 257, 258) {
		if x, e := tree.New(most); x != nil || e != arg {
			t.Errorf("New(%d): %v, %d", most, x, e)
		}
	}
}

// TestP15_1_NumbersBelow1: they are no block's, the genesis' neither, wherever the parent is.
func TestP15_1_NumbersBelow1(t *testing.T) {
	x := grown(t, put{1, 1, 0, ok}, put{5, 5, 4, orphan})
	before := answers(x, few(9))
	for _, n := range []int{0, -1, -2, -1 << 31, -1 << 32, -1<<32 + 2, math.MinInt, math.MinInt + 1} {
		for _, parent := range []int{0, 1, 4, 5, 7, n} {
			puts(t, x, n, at(9, parent), arg)
		}
	}
	if s := answers(x, few(9)); s != before {
		t.Errorf("%s, not %s", s, before)
	}
}

// TestP15_1_There: the root, one in the tree and an orphan can't be put again, with whatever block.
func TestP15_1_There(t *testing.T) {
	x := grown(t, put{3, 1, 0, ok}, put{4, 4, 3, ok}, put{6, 6, 5, orphan}, put{7, 7, 6, orphan})
	for range 2 {
		before := answers(x, few(9))
		for _, n := range []int{3, 4, 6, 7} {
			for _, parent := range []int{0, 3, 4, 5, 6, n, 9, -1} {
				for _, round := range []int{-1, 0, 1, 2, 4, 9} {
					puts(t, x, n, at(round, parent), there)
				}
			}
		}
		if s := answers(x, few(9)); s != before {
			t.Fatalf("%s, not %s", s, before)
		}
		// Behind it 3 is the root.
		prunes(t, x, 3, ok)
	}
}

// TestP15_1_WhatWentIsNotThere: the old root, and what went beside the new one, may be put anew.
func TestP15_1_WhatWentIsNotThere(t *testing.T) {
	x := grown(t, put{1, 1, 0, ok}, put{2, 2, 1, ok}, put{3, 9, 1, ok}, put{8, 2, 7, orphan})
	prunes(t, x, 2, ok)
	puts(t, x, 0, at(9, 2), arg)
	puts(t, x, 1, at(9, 2), ok)
	puts(t, x, 3, at(9, 1), ok)
	puts(t, x, 8, at(9, 7), orphan)
	path(t, x, 3, ok, 1, 3)
}

// TestP15_1_Rounds: below the root's, at it, and above it, wherever the parent is.
func TestP15_1_Rounds(t *testing.T) {
	for _, parent := range []int{1, 2, 3, 5, 6, 0, -1, 77} {
		for _, round := range []int{math.MinInt, -1 << 32, -1, 0, 1, 6, 7, 8, 9, 1 << 31, 1 << 32, math.MaxInt} {
			x := grown(t, put{1, 7, 0, ok}, put{2, 8, 1, ok}, put{3, 9, 2, ok}, put{6, 9, 5, orphan})
			prunes(t, x, 1, ok)
			want := orphan
			switch {
			case round <= 7:
				want = old
			case parent == 1 || parent == 2 || parent == 3:
				want = ok
			}
			puts(t, x, 4, at(round, parent), want)
			if _, e := x.Get(4); (e == ok) != (round > 7) {
				t.Errorf("Round %d, parent %d: Get: %d", round, parent, e)
			}
		}
	}
}

// TestP15_1_RoundsOfTheGenesis: 0 isn't above it, 1 is; a Round may be at its parent's, or below.
func TestP15_1_RoundsOfTheGenesis(t *testing.T) {
	x := grown(t, put{1, 0, 0, old}, put{1, -1, 0, old}, put{1, math.MinInt, 0, old}, put{1, 5, 0, ok}, put{2, 0, 1, old},
		put{2, 5, 1, ok}, put{3, 1, 2, ok}, put{4, 0, 9, old}, put{4, 1, 9, orphan}, put{5, 1, 4, orphan})
	path(t, x, 3, ok, 1, 2, 3)
	size(t, x, 3, 2)
}

// TestP15_1_Parents: it is an orphan, unless its parent is the root or in the tree.
func TestP15_1_Parents(t *testing.T) {
	begin := []put{{1, 1, 0, ok}, {2, 2, 1, ok}, {5, 5, 4, orphan}}
	for _, y := range []put{{7, 9, 0, ok}, {7, 9, 1, ok}, {7, 9, 2, ok}, {7, 9, 5, orphan}, {7, 9, 4, orphan}, {7, 9, 3, orphan}, {7, 9, 7, orphan}, {7, 9, -1, orphan}, {7, 9, math.MinInt, orphan}, {7, 9, math.MaxInt, orphan}, {7, 9, 1 << 32, orphan}, {7, 9, 1<<32 + 1, orphan}, {7, 9, -1<<32 + 1, orphan}} {
		x := grown(t, append(begin, y)...)
		if x.Has(7) != (y.e == ok) {
			t.Errorf("%v: Has(7): %t", y, x.Has(7))
		}
		gets(t, x, 7, at(9, y.parent), true)
		if y.e == ok {
			size(t, x, 3, 1)
		} else {
			size(t, x, 2, 2)
		}
	}
}

// TestP15_1_Room: as many orphans as was said, and not one more; a block whose parent is there needs no room, and makes some.
func TestP15_1_Room(t *testing.T) {
	for _, most := range []int{1, 2, 3, 17, 255, 256} {
		x := made(t, most)
		for k := range most {
			puts(t, x, 10+k, at(10+k, 9+k), orphan)
		}
		before := answers(x, []int{8, 9, 10, 10 + most})
		puts(t, x, 5000, at(9, 5001), noRoom)
		puts(t, x, 5000, at(9, 10), noRoom)
		puts(t, x, 10+most, at(10+most, 9+most), noRoom)
		puts(t, x, 8, at(8, 9), noRoom)
		if s := answers(x, []int{8, 9, 10, 10 + most}); s != before {
			t.Fatalf("%s, not %s", s, before)
		}
		size(t, x, 0, most)
		missing(t, x, 9)
		puts(t, x, 1, at(1, 0), ok)
		puts(t, x, 2, at(1, 1), ok)
		size(t, x, 2, most)
		puts(t, x, 5000, at(9, 5001), noRoom)
		puts(t, x, 9, at(9, 0), ok)
		size(t, x, 3+most, 0)
		for k := range most {
			puts(t, x, 5000+k, at(9, 4999), orphan)
		}
		puts(t, x, 4000, at(9, 4999), noRoom)
	}
}

// TestP15_1_RoomForOneMore: with one room an orphan goes, and none behind it.
func TestP15_1_RoomForOneMore(t *testing.T) {
	x := made(t, 3)
	puts(t, x, 5, at(5, 4), orphan)
	puts(t, x, 6, at(5, 4), orphan)
	puts(t, x, 7, at(5, 2), orphan)
	puts(t, x, 8, at(5, 4), noRoom)
	puts(t, x, 2, at(2, 0), ok)
	size(t, x, 2, 2)
	puts(t, x, 8, at(5, 4), orphan)
	puts(t, x, 9, at(5, 4), noRoom)
	missing(t, x, 4)
}

// TestP15_1_RoomAfterAPrune: of orphans that went nothing takes room.
func TestP15_1_RoomAfterAPrune(t *testing.T) {
	x := made(t, 2)
	puts(t, x, 1, at(4, 0), ok)
	puts(t, x, 5, at(4, 9), orphan)
	puts(t, x, 6, at(5, 9), orphan)
	puts(t, x, 7, at(6, 9), noRoom)
	prunes(t, x, 1, ok)
	puts(t, x, 7, at(6, 9), orphan)
	puts(t, x, 8, at(6, 9), noRoom)
	size(t, x, 0, 2)
}

// TestP15_1_OrphansComeIn: one, a chain, several at once, a chain from its far end, with those that stay orphans.
func TestP15_1_OrphansComeIn(t *testing.T) {
	for i, y := range []struct {
		l       []put
		in, out int
		missing []int
		last    int
		path    []int
	}{
		{[]put{{2, 2, 1, orphan}, {1, 1, 0, ok}}, 2, 0, nil, 2, []int{1, 2}},
		{[]put{{2, 2, 1, orphan}, {3, 3, 2, orphan}, {4, 4, 3, orphan}, {1, 1, 0, ok}}, 4, 0, nil, 4, []int{1, 2, 3, 4}},
		{[]put{{4, 4, 3, orphan}, {3, 3, 2, orphan}, {2, 2, 1, orphan}, {1, 1, 0, ok}}, 4, 0, nil, 4, []int{1, 2, 3, 4}},
		{[]put{{2, 4, 3, orphan}, {3, 3, 4, orphan}, {4, 2, 5, orphan}, {5, 1, 0, ok}}, 4, 0, nil, 2, []int{5, 4, 3, 2}},
		{[]put{{2, 2, 1, orphan}, {3, 2, 1, orphan}, {4, 2, 1, orphan}, {1, 1, 0, ok}}, 4, 0, nil, 4, []int{1, 4}},
		{[]put{{9, 2, 4, orphan}, {3, 2, 4, orphan}, {8, 2, 3, orphan}, {2, 2, 9, orphan}, {4, 1, 0, ok}}, 5, 0, nil, 2, []int{4, 9, 2}},
		{[]put{{2, 2, 1, orphan}, {7, 7, 6, orphan}, {8, 8, 7, orphan}, {3, 3, 2, orphan}, {1, 1, 0, ok}}, 3, 2, []int{6}, 3, []int{1, 2, 3}},
		{[]put{{2, 2, 1, orphan}, {3, 3, 3, orphan}, {4, 4, 5, orphan}, {5, 5, 4, orphan}, {1, 1, 0, ok}}, 2, 3, nil, 2, []int{1, 2}},
		{[]put{{1, 1, 0, ok}, {3, 3, 2, orphan}, {2, 2, 1, ok}}, 3, 0, nil, 3, []int{1, 2, 3}},
		{[]put{{1, 1, 0, ok}, {3, 3, 2, orphan}, {4, 2, 1, ok}}, 2, 1, []int{2}, 4, []int{1, 4}},
		{[]put{{5, 5, 4, orphan}, {3, 3, 2, orphan}, {4, 4, 3, orphan}, {2, 2, 1, orphan}, {1, 1, 0, ok}}, 5, 0, nil, 5, []int{1, 2, 3, 4, 5}},
		{[]put{{math.MaxInt, math.MaxInt, 7, orphan}, {7, 1, 0, ok}}, 2, 0, nil, math.MaxInt, []int{7, math.MaxInt}},
		{[]put{{1<<32 + 1, 2, 1 << 32, orphan}, {1 << 32, 1, 0, ok}}, 2, 0, nil, 1<<32 + 1, []int{1 << 32, 1<<32 + 1}},
	} {
		t.Run(strconv.Itoa(i), func(t *testing.T) {
			x := grown(t, y.l...)
			size(t, x, y.in, y.out)
			missing(t, x, y.missing...)
			path(t, x, y.last, ok, y.path...)
			root(t, x, 0, 0)
		})
	}
}

// TestP15_1_OrphansThatWaitInVain: some of those that hang at others that never come stay orphans, whatever comes beside them.
func TestP15_1_OrphansThatWaitInVain(t *testing.T) {
	x := grown(t, put{10, 5, 9, orphan}, put{11, 6, 10, orphan}, put{20, 5, 20, orphan}, put{21, 5, 20, orphan}, put{30, 5, 31, orphan}, put{31, 5, 30, orphan},
		put{2, 2, 1, orphan}, put{40, 5, -3, orphan}, put{1, 1, 0, ok}, put{3, 3, 2, ok})
	size(t, x, 3, 7)
	missing(t, x, -3, 9)
	for _, n := range []int{10, 11, 20, 21, 30, 31, 40} {
		path(t, x, n, orphan)
	}
	puts(t, x, 9, at(1, 3), ok)
	size(t, x, 6, 5)
	missing(t, x, -3)
	path(t, x, 11, ok, 1, 2, 3, 9, 10, 11)
}

// TestP15_1_LongChains: as many orphans as may ever be come in at once, whichever end came first.
func TestP15_1_LongChains(t *testing.T) {
	d := &dice{5}
	var rising []int
	for n := 2; n <= 257; n++ {
		rising = append(rising, n)
	}
	falling := slices.Clone(rising)
	slices.Reverse(falling)
	for _, l := range [][]int{rising, falling, mixed(d, rising), mixed(d, rising)} {
		x := made(t, api.MaxTree)
		for _, n := range l {
			puts(t, x, n, at(n, n-1), orphan)
		}
		missing(t, x, 1)
		puts(t, x, 1, at(1, 0), ok)
		size(t, x, 257, 0)
		path(t, x, 257, ok, append([]int{1}, rising...)...)
		missing(t, x)
	}
}

// TestP15_1_TheFirstError: where two or more would do, the one that the chapter names first.
func TestP15_1_TheFirstError(t *testing.T) {
	x := made(t, 1)
	puts(t, x, 1, at(5, 0), ok)
	puts(t, x, 2, at(6, 1), ok)
	prunes(t, x, 1, ok)
	puts(t, x, 9, at(6, 8), orphan)
	before := answers(x, few(12))
	for _, y := range []put{
		{0, 4, 8, arg}, {0, 6, 8, arg}, {0, 4, 1, arg}, {0, 6, 1, arg}, {-1, 6, 1, arg}, {-1, 5, 7, arg},
		{1, 4, 8, there}, {1, 6, 8, there}, {1, 4, 1, there}, {1, 6, 1, there}, {2, 4, 8, there}, {2, 6, 1, there}, {9, 4, 1, there}, {9, 6, 7, there}, {9, 6, 8, there}, {9, 5, 2, there},
		{3, 4, 8, old}, {3, 5, 7, old}, {3, 5, 1, old}, {3, 4, 2, old}, {3, 5, 9, old}, {3, math.MinInt, 3, old},
		{3, 6, 8, noRoom}, {3, 6, 9, noRoom}, {3, 6, 0, noRoom}, {3, math.MaxInt, 3, noRoom}, {8, 6, 7, noRoom},
	} {
		puts(t, x, y.n, at(y.round, y.parent), y.e)
	}
	if s := answers(x, few(12)); s != before {
		t.Errorf("%s, not %s", s, before)
	}
	puts(t, x, 3, at(6, 2), ok)
}

// TestP15_Examples: those of the chapter.
func TestP15_Examples(t *testing.T) {
	x := grown(t, put{2, 2, 1, orphan}, put{1, 1, 0, ok})
	has(t, x, few(3), []int{0, 1, 2})
}

// TestP15_2_Get: of one in the tree and of an orphan, with all that it has; not of the root, which has no block.
func TestP15_2_Get(t *testing.T) {
	x := made(t, 4)
	puts(t, x, 1, full(1, 0), ok)
	puts(t, x, 2, full(2, 1), ok)
	puts(t, x, 6, full(6, 5), orphan)
	for n, b := range map[int]api.Block{1: full(1, 0), 2: full(2, 1), 6: full(6, 5)} {
		gets(t, x, n, b, true)
		gets(t, x, n, b, true)
	}
	for _, n := range append(ends(), 0, 3, 5, 7) {
		gets(t, x, n, api.Block{}, false)
	}
	prunes(t, x, 1, ok)
	for _, n := range append(ends(), 0, 1, 3, 5, 7) {
		gets(t, x, n, api.Block{}, false)
	}
	gets(t, x, 2, full(2, 1), true)
	gets(t, x, 6, full(6, 5), true)
	prunes(t, x, 2, ok)
	for _, n := range append(ends(), 0, 1, 2, 3) {
		gets(t, x, n, api.Block{}, false)
	}
	gets(t, x, 6, full(6, 5), true)
	puts(t, x, 5, full(9, 2), ok)
	gets(t, x, 6, full(6, 5), true)
}

// TestP15_2_Has: the root, and what is in the tree.
func TestP15_2_Has(t *testing.T) {
	x := grown(t, put{1, 1, 0, ok}, put{2, 2, 1, ok}, put{3, 2, 1, ok}, put{6, 6, 5, orphan})
	all := append(ends(), few(8)...)
	has(t, x, all, []int{0, 1, 2, 3})
	prunes(t, x, 2, ok)
	has(t, x, all, []int{2})
	puts(t, x, 5, at(5, 2), ok)
	has(t, x, all, []int{2, 5, 6})
}

// TestP15_2_Path: from the one behind the root on, whichever the root is.
func TestP15_2_Path(t *testing.T) {
	x := grown(t, put{4, 1, 0, ok}, put{2, 2, 4, ok}, put{7, 2, 4, ok}, put{1, 3, 2, ok}, put{9, 4, 7, ok}, put{6, 6, 5, orphan}, put{8, 6, 6, orphan})
	path(t, x, 0, ok)
	path(t, x, 4, ok, 4)
	path(t, x, 2, ok, 4, 2)
	path(t, x, 7, ok, 4, 7)
	path(t, x, 1, ok, 4, 2, 1)
	path(t, x, 9, ok, 4, 7, 9)
	path(t, x, 6, orphan)
	path(t, x, 8, orphan)
	for _, n := range append(ends(), 3, 5, 10) {
		path(t, x, n, none)
	}
	prunes(t, x, 4, ok)
	path(t, x, 4, ok)
	path(t, x, 2, ok, 2)
	path(t, x, 1, ok, 2, 1)
	path(t, x, 9, ok, 7, 9)
	path(t, x, 8, orphan)
	path(t, x, 0, none)
	prunes(t, x, 2, ok)
	path(t, x, 2, ok)
	path(t, x, 1, ok, 1)
	for _, n := range append(ends(), 0, 3, 4, 5, 7, 9) {
		path(t, x, n, none)
	}
}

// TestP15_2_LongPath: a chain of many blocks, and what stays of it.
func TestP15_2_LongPath(t *testing.T) {
	const many = 50000
	x := made(t, 1)
	var l []int
	for n := 1; n <= many; n++ {
		puts(t, x, n, at(n, n-1), ok)
		l = append(l, n)
	}
	size(t, x, many, 0)
	path(t, x, many, ok, l...)
	path(t, x, many/2, ok, l[:many/2]...)
	prunes(t, x, many/2, ok)
	size(t, x, many-many/2, 0)
	path(t, x, many, ok, l[many/2:]...)
	path(t, x, many/2-1, none)
	prunes(t, x, many, ok)
	size(t, x, 0, 0)
	root(t, x, many, many)
}

// TestP15_2_Missing: parents of orphans that are no orphans, rising, each once.
func TestP15_2_Missing(t *testing.T) {
	x := made(t, 16)
	missing(t, x)
	for _, y := range []struct {
		p put
		l []int
	}{
		{put{1, 1, 0, ok}, nil},
		{put{20, 5, 12, orphan}, []int{12}},
		{put{21, 5, 12, orphan}, []int{12}},
		{put{22, 5, 7, orphan}, []int{7, 12}},
		{put{23, 5, 30, orphan}, []int{7, 12, 30}},
		{put{24, 5, 12, orphan}, []int{7, 12, 30}},
		{put{25, 5, 20, orphan}, []int{7, 12, 30}},
		{put{26, 5, -4, orphan}, []int{-4, 7, 12, 30}},
		{put{12, 5, 11, orphan}, []int{-4, 7, 11, 30}},
		{put{27, 5, math.MaxInt, orphan}, []int{-4, 7, 11, 30, math.MaxInt}},
		{put{28, 5, math.MinInt, orphan}, []int{math.MinInt, -4, 7, 11, 30, math.MaxInt}},
		{put{29, 5, 29, orphan}, []int{math.MinInt, -4, 7, 11, 30, math.MaxInt}},
		{put{7, 5, 1, ok}, []int{math.MinInt, -4, 11, 30, math.MaxInt}},
		{put{30, 5, 25, orphan}, []int{math.MinInt, -4, 11, math.MaxInt}},
		{put{11, 5, 22, ok}, []int{math.MinInt, -4, math.MaxInt}},
	} {
		puts(t, x, y.p.n, at(y.p.round, y.p.parent), y.p.e)
		missing(t, x, y.l...)
		missing(t, x, y.l...)
	}
	path(t, x, 23, ok, 1, 7, 22, 11, 12, 20, 25, 30, 23)
}

// TestP15_2_MissingInAnyOrder: parents that come out of order rise, whichever they are.
func TestP15_2_MissingInAnyOrder(t *testing.T) {
	for _, l := range orders([]int{-5, 2, 3, 1 << 32, 9}) {
		x := made(t, 5)
		for i, p := range l {
			puts(t, x, 100+i, at(1, p), orphan)
		}
		missing(t, x, -5, 2, 3, 9, 1<<32)
	}
}

// TestP15_2_LenAndRoot: after each step.
func TestP15_2_LenAndRoot(t *testing.T) {
	x := made(t, 2)
	for _, y := range []struct {
		p             put
		in, out, n, r int
	}{
		{put{2, 4, 1, orphan}, 0, 1, 0, 0},
		{put{1, 3, 0, ok}, 2, 0, 0, 0},
		{put{3, 4, 1, ok}, 3, 0, 0, 0},
		{put{0, 4, 1, arg}, 3, 0, 0, 0},
		{put{9, 4, 8, orphan}, 3, 1, 0, 0},
		{put{10, 4, 9, orphan}, 3, 2, 0, 0},
		{put{11, 4, 9, noRoom}, 3, 2, 0, 0},
		{put{8, 1, 0, ok}, 6, 0, 0, 0},
		{put{12, 4, 13, orphan}, 6, 1, 0, 0},
	} {
		puts(t, x, y.p.n, at(y.p.round, y.p.parent), y.p.e)
		size(t, x, y.in, y.out)
		root(t, x, y.n, y.r)
	}
	prunes(t, x, 1, ok)
	size(t, x, 2, 1)
	root(t, x, 1, 3)
	prunes(t, x, 3, ok)
	size(t, x, 0, 0)
	root(t, x, 3, 4)
}

// forest: a chain 1 to 6, beside it branches, and orphans of many Rounds.
func forest(t *testing.T) *tree.Tree {
	t.Helper()
	x := made(t, 16)
	for _, y := range []put{{1, 1, 0, ok}, {2, 2, 1, ok}, {3, 3, 2, ok}, {4, 4, 3, ok}, {5, 5, 4, ok}, {6, 6, 5, ok}, {10, 1, 0, ok}, {11, 2, 10, ok}, {20, 3, 2, ok}, {21, 9, 20, ok}, {30, 4, 3, ok}, {31, 5, 30, ok}, {32, 5, 4, ok},
		{40, 2, 80, orphan}, {41, 3, 80, orphan}, {42, 4, 80, orphan}, {43, 5, 81, orphan}, {44, 4, 40, orphan}, {45, 3, 44, orphan}} {
		puts(t, x, y.n, at(y.round, y.parent), y.e)
	}
	return x
}

// TestP15_3_Prune: of a block in the middle of a chain, with branches beside it, and orphans below, at and above its Round.
func TestP15_3_Prune(t *testing.T) {
	x := forest(t)
	prunes(t, x, 3, ok)
	root(t, x, 3, 3)
	has(t, x, few(50), []int{3, 4, 5, 6, 30, 31, 32})
	size(t, x, 6, 3)
	path(t, x, 6, ok, 4, 5, 6)
	path(t, x, 31, ok, 30, 31)
	path(t, x, 32, ok, 4, 32)
	missing(t, x, 40, 80, 81)
	for n, want := range map[int]api.Errno{0: none, 1: none, 2: none, 10: none, 11: none, 20: none, 21: none, 40: none, 41: none, 45: none, 42: orphan, 43: orphan, 44: orphan} {
		path(t, x, n, want)
	}
	for _, n := range few(50) {
		_, e := x.Get(n)
		if want := slices.Contains([]int{4, 5, 6, 30, 31, 32, 42, 43, 44}, n); want != (e == ok) {
			t.Errorf("Get(%d): %d", n, e)
		}
	}
}

// TestP15_3_PruneOfTheRoot: nothing changes, orphans stay too.
func TestP15_3_PruneOfTheRoot(t *testing.T) {
	x := forest(t)
	before := answers(x, few(90))
	prunes(t, x, 0, ok)
	if s := answers(x, few(90)); s != before {
		t.Errorf("%s, not %s", s, before)
	}
	prunes(t, x, 3, ok)
	before = answers(x, few(90))
	for range 3 {
		prunes(t, x, 3, ok)
	}
	if s := answers(x, few(90)); s != before {
		t.Errorf("%s, not %s", s, before)
	}
}

// TestP15_3_PruneOfOthers: an orphan and one that isn't there tell Path's error, and nothing changes.
func TestP15_3_PruneOfOthers(t *testing.T) {
	x := forest(t)
	for range 2 {
		before := answers(x, few(90))
		for _, n := range []int{42, 43, 44} {
			prunes(t, x, n, orphan)
		}
		for _, n := range append(ends(), 80, 81, 7, 50, -4, 1<<32+3) {
			prunes(t, x, n, none)
		}
		if s := answers(x, few(90)); s != before {
			t.Fatalf("%s, not %s", s, before)
		}
		prunes(t, x, 3, ok)
		prunes(t, x, 0, none)
		prunes(t, x, 2, none)
		prunes(t, x, 20, none)
	}
}

// TestP15_3_PruneOfALeaf: nothing hangs at it, so that the tree is bare.
func TestP15_3_PruneOfALeaf(t *testing.T) {
	for _, y := range []struct{ n, round, out int }{{6, 6, 0}, {11, 2, 5}, {21, 9, 0}, {31, 5, 0}, {32, 5, 0}} {
		x := forest(t)
		prunes(t, x, y.n, ok)
		root(t, x, y.n, y.round)
		size(t, x, 0, y.out)
		has(t, x, few(50), []int{y.n})
		path(t, x, y.n, ok)
		puts(t, x, 90, at(y.round, y.n), old)
		puts(t, x, 90, at(y.round+1, y.n), ok)
		path(t, x, 90, ok, 90)
	}
}

// TestP15_3_WhatHangsBelowStays: what hangs at the new root stays, though its Round isn't above; orphans of such a Round go.
func TestP15_3_WhatHangsBelowStays(t *testing.T) {
	x := grown(t, put{1, 7, 0, ok}, put{2, 3, 1, ok}, put{3, 7, 2, ok}, put{4, 8, 3, ok}, put{5, 7, 9, orphan}, put{6, 8, 5, orphan}, put{7, 1, 6, orphan})
	prunes(t, x, 1, ok)
	root(t, x, 1, 7)
	size(t, x, 3, 1)
	path(t, x, 4, ok, 2, 3, 4)
	missing(t, x, 5)
	prunes(t, x, 2, ok)
	root(t, x, 2, 3)
	size(t, x, 2, 1)
	puts(t, x, 5, at(4, 3), ok)
	path(t, x, 6, ok, 3, 5, 6)
}

// TestP15_3_PutsAfterIt: at the new root, at what stayed, and at blocks that went.
func TestP15_3_PutsAfterIt(t *testing.T) {
	x := forest(t)
	prunes(t, x, 3, ok)
	puts(t, x, 50, at(4, 3), ok)
	puts(t, x, 51, at(4, 31), ok)
	puts(t, x, 52, at(4, 2), orphan)
	puts(t, x, 53, at(4, 0), orphan)
	puts(t, x, 54, at(4, 20), orphan)
	puts(t, x, 55, at(4, 40), orphan)
	missing(t, x, 0, 2, 20, 40, 80, 81)
	puts(t, x, 20, at(3, 3), old)
	puts(t, x, 20, at(4, 2), orphan)
	missing(t, x, 0, 2, 40, 80, 81)
	puts(t, x, 2, at(9, 1), orphan)
	missing(t, x, 0, 1, 40, 80, 81)
	puts(t, x, 1, at(9, 6), ok)
	path(t, x, 54, ok, 4, 5, 6, 1, 2, 20, 54)
	path(t, x, 52, ok, 4, 5, 6, 1, 2, 52)
	missing(t, x, 0, 40, 80, 81)
	puts(t, x, 0, at(9, 6), arg)
	puts(t, x, 3, at(9, 6), there)
}

// TestP15_3_Again: a Prune behind a Prune, down a chain, with orphans that go one by one.
func TestP15_3_Again(t *testing.T) {
	x := forest(t)
	for _, y := range []struct{ n, round, in, out int }{{1, 1, 10, 6}, {2, 2, 9, 5}, {3, 3, 6, 3}, {4, 4, 3, 1}, {5, 5, 1, 0}, {6, 6, 0, 0}} {
		prunes(t, x, y.n, ok)
		root(t, x, y.n, y.round)
		size(t, x, y.in, y.out)
		prunes(t, x, y.n-1, none)
	}
	missing(t, x)
}

// TestP15_3_FarEnds: Rounds and numbers at the ends of int.
func TestP15_3_FarEnds(t *testing.T) {
	x := grown(t, put{math.MaxInt, math.MaxInt - 1, 0, ok}, put{1, math.MaxInt, math.MaxInt, ok}, put{7, math.MaxInt, 6, orphan}, put{8, math.MaxInt - 1, 6, orphan})
	prunes(t, x, math.MaxInt, ok)
	root(t, x, math.MaxInt, math.MaxInt-1)
	size(t, x, 1, 1)
	path(t, x, 7, orphan)
	path(t, x, 8, none)
	puts(t, x, math.MaxInt, at(math.MaxInt, 1), there)
	puts(t, x, 2, at(math.MinInt, 1), old)
	puts(t, x, 2, at(math.MaxInt-1, 1), old)
	puts(t, x, 2, at(math.MaxInt, math.MinInt), orphan)
	missing(t, x, math.MinInt, 6)
	prunes(t, x, 1, ok)
	root(t, x, 1, math.MaxInt)
	size(t, x, 0, 0)
	puts(t, x, 2, at(math.MaxInt, 1), old)
	prunes(t, x, math.MaxInt, none)
}

// TestP15_3_Nil: of nil each call tells that there is nothing.
func TestP15_3_Nil(t *testing.T) {
	var x *tree.Tree
	for _, n := range append(ends(), 0, 1, 2) {
		for _, b := range []api.Block{{}, at(1, 0), full(5, 3), at(math.MinInt, n)} {
			puts(t, x, n, b, api.ErrNil)
		}
		if b, e := x.Get(n); e != api.ErrNil || !reflect.DeepEqual(b, api.Block{}) {
			t.Errorf("Get(%d): %+v, %d", n, b, e)
		}
		if x.Has(n) {
			t.Errorf("Has(%d)", n)
		}
		path(t, x, n, api.ErrNil)
		prunes(t, x, n, api.ErrNil)
	}
	missing(t, x)
	root(t, x, 0, 0)
	size(t, x, 0, 0)
}

// shapes: blocks that hang together in this way and that, and some that don't.
func shapes() [][]put {
	return [][]put{
		{{n: 1, round: 1}, {n: 2, round: 2, parent: 1}, {n: 3, round: 3, parent: 2}, {n: 4, round: 4, parent: 3}, {n: 5, round: 5, parent: 4}},
		{{n: 5, round: 1}, {n: 4, round: 2, parent: 5}, {n: 3, round: 3, parent: 4}, {n: 2, round: 4, parent: 3}, {n: 1, round: 5, parent: 2}},
		{{n: 1, round: 1}, {n: 2, round: 1}, {n: 3, round: 1}, {n: 4, round: 1}, {n: 5, round: 1}},
		{{n: 3, round: 1}, {n: 1, round: 2, parent: 3}, {n: 2, round: 2, parent: 3}, {n: 5, round: 3, parent: 1}, {n: 4, round: 3, parent: 1}},
		{{n: 2, round: 1}, {n: 1, round: 2, parent: 2}, {n: 3, round: 9, parent: 8}, {n: 4, round: 8, parent: 3}, {n: 5, round: 3, parent: 9}},
		{{n: 2, round: 1, parent: 3}, {n: 3, round: 1, parent: 2}, {n: 4, round: 1, parent: 4}, {n: 5, round: 1, parent: -1}, {n: 1, round: 1}},
		{{n: 4, round: 1}, {n: 2, round: 1, parent: 4}, {n: 5, round: 1, parent: 2}, {n: 1, round: 1, parent: 5}, {n: 3, round: 1, parent: 6}},
	}
}

// TestP15_4_AllOrdersOfFive: the tree has the same at the end.
func TestP15_4_AllOrdersOfFive(t *testing.T) {
	for _, shape := range shapes() {
		want := ""
		for _, l := range orders(shape) {
			x := made(t, 5)
			for _, y := range l {
				if e := x.Put(y.n, at(y.round, y.parent)); e != ok && e != orphan {
					t.Fatalf("%v: Put %d: %d", l, y.n, e)
				}
			}
			s := answers(x, few(9))
			if want == "" {
				want = s
			}
			if s != want {
				t.Fatalf("%v: %s, not %s", l, s, want)
			}
		}
	}
}

// TestP15_4_OrdersOfMany: drawn blocks in drawn orders, held against those in the order of their numbers.
func TestP15_4_OrdersOfMany(t *testing.T) {
	d := &dice{1504}
	for range 60 {
		var l []put
		many := 10 + d.below(70)
		for n := 1; n <= many; n++ {
			l = append(l, put{n: n, round: 1 + d.below(9), parent: d.below(n)})
		}
		// Some never come.
		l = mixed(d, l)[d.below(3):]
		want := ""
		for range 6 {
			x := made(t, many)
			for _, y := range l {
				if e := x.Put(y.n, at(y.round, y.parent)); e != ok && e != orphan {
					t.Fatalf("%v: Put %d: %d", l, y.n, e)
				}
			}
			s := answers(x, few(many))
			if want != "" && s != want {
				t.Fatalf("%v: %s, not %s", l, s, want)
			}
			want, l = s, mixed(d, l)
			hang(t, x, few(many))
		}
	}
}

// hang: do the blocks of each path hang together, from the root on?
func hang(t *testing.T, x *tree.Tree, numbers []int) {
	t.Helper()
	for _, n := range numbers {
		l, e := x.Path(n)
		if e != ok {
			continue
		}
		last, _ := x.Root()
		for _, k := range l {
			b, e := x.Get(k)
			if e != ok || b.Parent.Block != last {
				t.Fatalf("Path(%d): %v: Get(%d): %d, parent %d", n, l, k, e, b.Parent.Block)
			}
			last = k
		}
		if last != n {
			t.Fatalf("Path(%d): %v", n, l)
		}
	}
}

// TestP15_ByASecondReckoning: drawn steps, each held against what climbing tells.
func TestP15_ByASecondReckoning(t *testing.T) {
	d := &dice{15}
	counts := map[api.Errno]int{}
	for range 700 {
		x := sown(t, 1+d.below(6))
		many := 4 + d.below(14)
		low := 0
		for range 40 {
			if d.below(9) == 0 {
				e := x.prune(t, d.below(many+2)-1)
				if e == ok {
					low += d.below(2)
				}
				counts[1000+e]++
			} else {
				b := full(low+d.below(7), d.below(many+3)-1)
				b.View = d.below(9)
				counts[x.put(t, d.below(many+2)-1, b)]++
			}
			x.same(t, few(many))
			hang(t, x.tree, few(many))
		}
	}
	for _, e := range []api.Errno{ok, arg, there, old, noRoom, orphan, 1000, 1000 + orphan, 1000 + none} {
		if counts[e] < 100 {
			t.Errorf("%d was told %d times alone", e, counts[e])
		}
	}
}

// TestR1_AnyArguments: numbers at their ends, in each place.
func TestR1_AnyArguments(t *testing.T) {
	numbers := append(ends(), 0, 1, 2)
	for _, most := range []int{1, 4} {
		x := sown(t, most)
		for _, n := range numbers {
			for _, parent := range numbers {
				for _, round := range numbers {
					x.put(t, n, at(round, parent))
				}
			}
		}
		x.same(t, numbers)
		for _, n := range numbers {
			x.prune(t, n)
			x.same(t, numbers)
		}
	}
}

// TestR1_BlocksThatMayBeNone: a tree asks nothing of them but the Round and the parent.
func TestR1_BlocksThatMayBeNone(t *testing.T) {
	wild := api.Block{View: math.MinInt, Round: math.MaxInt, Height: -7, Author: math.MaxInt, Parent: api.Cert{Kind: 99, Block: 1, View: -1, Round: math.MinInt, Height: 1 << 40, Author: -1, Signers: math.MaxUint32, Coin: math.MaxUint32},
		Proof: slices.Repeat([]api.Timeout{{Signer: -1, View: math.MinInt, High: api.Cert{Kind: -5}}}, 1000),
		Txs:   slices.Repeat([]api.Tx{{Kind: -1, From: "\xff\x00", To: "\xc3", Key: string(make([]byte, 1<<12)), Val: "\xed\xa0\x80", Amount: math.MinInt64, Nonce: math.MaxInt64}}, 1000)}
	x := made(t, 1)
	puts(t, x, 2, wild, orphan)
	gets(t, x, 2, wild, true)
	puts(t, x, 1, at(1, 0), ok)
	gets(t, x, 2, wild, true)
	path(t, x, 2, ok, 1, 2)
}

// TestR3_ListsWithoutItems: nil and empty ones are alike.
func TestR3_ListsWithoutItems(t *testing.T) {
	x := made(t, 1)
	empty := at(1, 0)
	empty.Proof, empty.Txs = []api.Timeout{}, []api.Tx{}
	puts(t, x, 1, empty, ok)
	puts(t, x, 2, at(2, 1), ok)
	for n := 1; n <= 2; n++ {
		b, e := x.Get(n)
		if e != ok || len(b.Proof) != 0 || len(b.Txs) != 0 || b.Round != n || b.Parent.Block != n-1 {
			t.Errorf("Get(%d): %+v, %d", n, b, e)
		}
	}
}

// lent: a text in memory of the caller's, and what changes that.
func lent(s string) (string, func()) {
	b := []byte(s)
	return unsafe.String(unsafe.SliceData(b), len(b)), func() {
		for i := range b {
			b[i] = '!'
		}
	}
}

// spoil: whoever holds these lists changes all of them, and the room behind.
func spoil(b api.Block) {
	for i := range b.Proof[:cap(b.Proof)] {
		b.Proof[:cap(b.Proof)][i] = api.Timeout{Signer: 77, View: 77, High: api.Cert{Block: 77}}
	}
	for i := range b.Txs[:cap(b.Txs)] {
		b.Txs[:cap(b.Txs)][i] = api.Tx{Kind: 77, From: "spoilt", To: "spoilt", Key: "spoilt", Val: "spoilt", Amount: 77, Nonce: 77}
	}
}

// TestR4_BlocksStay: what is handed in stays as it is, with the room behind it, and what is done with it later isn't seen.
func TestR4_BlocksStay(t *testing.T) {
	x := made(t, 2)
	for _, y := range []struct {
		n, parent int
		e         api.Errno
	}{{1, 0, ok}, {2, 1, ok}, {4, 3, orphan}, {5, 4, orphan}, {6, 4, noRoom}, {1, 0, there}, {0, 0, arg}} {
		b := full(9, y.parent)
		b.Proof, b.Txs = append(b.Proof, api.Timeout{Signer: 9})[:2], append(b.Txs, api.Tx{Kind: 9})[:2]
		puts(t, x, y.n, b, y.e)
		if want := full(9, y.parent); !reflect.DeepEqual(b, want) || b.Proof[:3][2].Signer != 9 || b.Txs[:3][2].Kind != 9 {
			t.Errorf("the block is %+v", b)
		}
		spoil(b)
	}
	before := answers(x, few(9))
	for n, parent := range map[int]int{1: 0, 2: 1, 4: 3, 5: 4} {
		gets(t, x, n, full(9, parent), true)
		for range 2 {
			b, _ := x.Get(n)
			spoil(b)
		}
		gets(t, x, n, full(9, parent), true)
	}
	puts(t, x, 3, full(9, 2), ok)
	prunes(t, x, 1, ok)
	for n, parent := range map[int]int{2: 1, 3: 2, 4: 3, 5: 4} {
		gets(t, x, n, full(9, parent), true)
		b, _ := x.Get(n)
		spoil(b)
		gets(t, x, n, full(9, parent), true)
	}
	if before == answers(x, few(9)) {
		t.Errorf("nothing came in")
	}
}

// TestR4_NoTextOfOthersIsKept: texts of transactions may lie in memory that the caller changes.
func TestR4_NoTextOfOthersIsKept(t *testing.T) {
	x := made(t, 2)
	for _, n := range []int{1, 3} {
		b := full(n, n-1)
		var turns []func()
		for i := range b.Txs {
			for _, s := range []*string{&b.Txs[i].From, &b.Txs[i].To, &b.Txs[i].Key, &b.Txs[i].Val} {
				text, turn := lent(*s)
				*s, turns = text, append(turns, turn)
			}
		}
		x.Put(n, b)
		for _, turn := range turns {
			turn()
		}
		gets(t, x, n, full(n, n-1), true)
	}
}

// places: where the lists and the texts of blocks lie.
func places(l ...api.Block) map[uintptr]int {
	m := map[uintptr]int{}
	for _, b := range l {
		m[uintptr(unsafe.Pointer(unsafe.SliceData(b.Proof)))]++
		m[uintptr(unsafe.Pointer(unsafe.SliceData(b.Txs)))]++
		for _, x := range b.Txs {
			for _, s := range []string{x.From, x.To, x.Key, x.Val} {
				if s != "" {
					m[uintptr(unsafe.Pointer(unsafe.StringData(s)))]++
				}
			}
		}
	}
	return m
}

// TestR4_WhatIsToldIsTheCallers: blocks lie neither in the tree, nor in another one that was told.
func TestR4_WhatIsToldIsTheCallers(t *testing.T) {
	x := made(t, 2)
	handed := []api.Block{full(1, 0), full(3, 2)}
	puts(t, x, 1, handed[0], ok)
	puts(t, x, 3, handed[1], orphan)
	var told []api.Block
	for range 3 {
		for _, n := range []int{1, 3} {
			b, e := x.Get(n)
			if e != ok {
				t.Fatalf("Get(%d): %d", n, e)
			}
			told = append(told, b)
		}
	}
	// Of each block two lists and five texts that aren't empty; those that are handed in share their constants.
	if m := places(told...); len(m) != 7*len(told) {
		t.Errorf("%d lists and texts lie in %d places", 7*len(told), len(m))
	}
	for place := range places(handed...) {
		if places(told...)[place] != 0 {
			t.Errorf("one that was told lies in one that was handed in")
		}
	}
}

// TestR4_ListsOfNumbers: paths and parents that were told may be changed, with the room behind them.
func TestR4_ListsOfNumbers(t *testing.T) {
	x := forest(t)
	before := answers(x, few(90))
	for range 3 {
		a, _ := x.Path(6)
		b, _ := x.Path(6)
		c, d := x.Missing(), x.Missing()
		for _, l := range [][]int{a, c} {
			for i := range l[:cap(l)] {
				l[:cap(l)][i] = -77
			}
		}
		if !slices.Equal(b, []int{1, 2, 3, 4, 5, 6}) || !slices.Equal(d, []int{80, 81}) {
			t.Errorf("%v, %v", b, d)
		}
		if s := answers(x, few(90)); s != before {
			t.Errorf("%s, not %s", s, before)
		}
	}
}

// TestR4_WhoHoldsIt: a tree is an object: who holds it sees what is done with it.
func TestR4_WhoHoldsIt(t *testing.T) {
	a := made(t, 1)
	b := a
	puts(t, a, 1, at(1, 0), ok)
	puts(t, b, 1, at(1, 0), there)
	puts(t, b, 2, at(2, 1), ok)
	prunes(t, a, 1, ok)
	root(t, b, 1, 1)
	path(t, a, 2, ok, 2)
}

// TestR2_AskingChangesNothing: whatever is asked, and however often.
func TestR2_AskingChangesNothing(t *testing.T) {
	x := forest(t)
	before := answers(x, few(90))
	for range 20 {
		if s := answers(x, few(90)); s != before {
			t.Fatalf("%s, not %s", s, before)
		}
	}
}

// TestR6_NothingIsKeptBetweenTrees: another one knows nothing of it.
func TestR6_NothingIsKeptBetweenTrees(t *testing.T) {
	for range 3 {
		x, y := made(t, 1), made(t, 2)
		puts(t, x, 1, at(1, 0), ok)
		puts(t, y, 2, at(2, 1), orphan)
		puts(t, x, 3, at(2, 2), orphan)
		puts(t, y, 3, at(2, 2), orphan)
		puts(t, x, 4, at(2, 2), noRoom)
		prunes(t, x, 1, ok)
		root(t, y, 0, 0)
		puts(t, y, 1, at(1, 0), ok)
		size(t, x, 0, 1)
		size(t, y, 3, 0)
	}
}
