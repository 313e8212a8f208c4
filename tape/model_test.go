package tape_test

import (
	"bytes"
	"math"
	"math/big"
	"strconv"
	"testing"

	"hallmoot/api"
	"hallmoot/tape"
)

// This file has tables of which the tests are made, and a second reckoning of what layer 17 tells.

// cell: a byte that was written and not taken back, whether it is fast, and whether it was let go.
type cell struct {
	c          byte
	fast, gone bool
}

// strip: a second reckoning of a tape, where each byte stays in its cell, whose index is its place; matches are the strokes that are left.
type strip struct {
	room    int
	cells   []cell
	dark    bool
	fused   bool
	matches []struct{}
}

// strips: one that holds nothing.
func strips(room int) *strip { return &strip{room: room} }

// places: First, Fast and End, by counting cells.
func (x *strip) places() (int, int, int) {
	first, fast := 0, 0
	for _, c := range x.cells {
		if c.gone {
			first++
		}
		if c.fast {
			fast++
		}
	}
	return first, fast, len(x.cells)
}

// holds: the bytes that weren't let go.
func (x *strip) holds() []byte {
	var b []byte
	for _, c := range x.cells {
		if !c.gone {
			b = append(b, c.c)
		}
	}
	return b
}

// burns: is there a match for one more stroke?
func (x *strip) burns() bool {
	if !x.fused {
		return true
	}
	if len(x.matches) == 0 {
		x.dark = true
		return false
	}
	x.matches = x.matches[1:]
	return true
}

// write: what Write tells, and does.
func (x *strip) write(b []byte) api.Errno {
	if x.dark {
		return api.ErrPower
	}
	if len(x.holds())+len(b) > x.room {
		return api.ErrRoom
	}
	for _, c := range b {
		if !x.burns() {
			return api.ErrPower
		}
		x.cells = append(x.cells, cell{c: c})
	}
	return api.OK
}

// hold: what Hold tells, and does.
func (x *strip) hold() api.Errno {
	if x.dark || !x.burns() {
		return api.ErrPower
	}
	x.fasten()
	return api.OK
}

// fasten: all cells are fast.
func (x *strip) fasten() {
	for i := range x.cells {
		x.cells[i].fast = true
	}
}

// shed: what Shed tells, and does.
func (x *strip) shed(place int) api.Errno {
	if x.dark {
		return api.ErrPower
	}
	first, fast, _ := x.places()
	if place < first || fast < place {
		return api.ErrPlace
	}
	if !x.burns() {
		return api.ErrPower
	}
	for i := range place {
		x.cells[i].gone = true
	}
	return api.OK
}

// back: what Back tells, and does.
func (x *strip) back(place int) api.Errno {
	if x.dark {
		return api.ErrPower
	}
	first, _, end := x.places()
	if place < first || end < place {
		return api.ErrPlace
	}
	if !x.burns() {
		return api.ErrPower
	}
	for len(x.cells) > place {
		x.cells = x.cells[:len(x.cells)-1]
	}
	return api.OK
}

// fuse: what Fuse tells, and does.
func (x *strip) fuse(strokes int) api.Errno {
	if strokes < 0 {
		return api.ErrArg
	}
	x.fused, x.matches = true, make([]struct{}, strokes)
	return api.OK
}

// crash: what Crash tells, and does.
func (x *strip) crash(keep int) api.Errno {
	_, fast, end := x.places()
	for len(x.cells) > fast+keeps(keep, end-fast) {
		x.cells = x.cells[:len(x.cells)-1]
	}
	x.fasten()
	x.dark, x.fused, x.matches = false, false, nil
	return api.OK
}

// keeps: how many of so many bytes stay; numbers below 0 stand for those from 2^63 on.
func keeps(keep, loose int) int {
	n := big.NewInt(int64(keep))
	if keep < 0 {
		n.Add(n, new(big.Int).Lsh(big.NewInt(1), 64))
	}
	return int(n.Mod(n, big.NewInt(int64(loose)+1)).Int64())
}

// both: a tape, and its second reckoning.
type both struct {
	tape  *tape.Tape
	strip *strip
}

// twins: both, alike.
func twins(t *testing.T, room int) *both {
	t.Helper()
	return &both{made(t, room), strips(room)}
}

// write: both, and whether they tell the same.
func (x *both) write(t *testing.T, s string) {
	t.Helper()
	write(t, x.tape, s, x.strip.write([]byte(s)))
	x.same(t)
}

// hold: both, and whether they tell the same.
func (x *both) hold(t *testing.T) {
	t.Helper()
	hold(t, x.tape, x.strip.hold())
	x.same(t)
}

// shed: both, and whether they tell the same.
func (x *both) shed(t *testing.T, place int) {
	t.Helper()
	shed(t, x.tape, place, x.strip.shed(place))
	x.same(t)
}

// back: both, and whether they tell the same.
func (x *both) back(t *testing.T, place int) {
	t.Helper()
	back(t, x.tape, place, x.strip.back(place))
	x.same(t)
}

// fuse: both, and whether they tell the same.
func (x *both) fuse(t *testing.T, strokes int) {
	t.Helper()
	fuse(t, x.tape, strokes, x.strip.fuse(strokes))
	x.same(t)
}

// crash: both, and whether they tell the same.
func (x *both) crash(t *testing.T, keep int) {
	t.Helper()
	crash(t, x.tape, keep, x.strip.crash(keep))
	x.same(t)
}

// same: do both hold the same?
func (x *both) same(t *testing.T) {
	t.Helper()
	first, fast, end := x.strip.places()
	if x.strip.dark {
		dark(t, x.tape, first, fast, end)
		return
	}
	holds(t, x.tape, first, fast, string(x.strip.holds()))
}

// made: a tape that holds nothing.
func made(t *testing.T, room int) *tape.Tape {
	t.Helper()
	x, e := tape.New(room)
	if e != api.OK || x == nil {
		t.Fatalf("New(%d): %v, %d", room, x, e)
	}
	holds(t, x, 0, 0, "")
	return x
}

// refused: is this the error of New, and no tape with it?
func refused(t *testing.T, room int, want api.Errno) {
	t.Helper()
	if x, e := tape.New(room); x != nil || e != want {
		t.Errorf("New(%d): %v, %d, not %d", room, x, e, want)
	}
}

// written: a tape with room for more, of these bytes the first of which are fast, and the first of which were let go.
func written(t *testing.T, s string, fast, first int) *tape.Tape {
	t.Helper()
	x := made(t, 1000)
	write(t, x, s[:fast], api.OK)
	hold(t, x, api.OK)
	write(t, x, s[fast:], api.OK)
	shed(t, x, first, api.OK)
	holds(t, x, first, fast, s[first:])
	return x
}

// write: is this what Write tells?
func write(t *testing.T, x *tape.Tape, s string, want api.Errno) {
	t.Helper()
	if e := x.Write([]byte(s)); e != want {
		t.Fatalf("Write(%.20q): %d, not %d", s, e, want)
	}
}

// hold: is this what Hold tells?
func hold(t *testing.T, x *tape.Tape, want api.Errno) {
	t.Helper()
	if e := x.Hold(); e != want {
		t.Fatalf("Hold: %d, not %d", e, want)
	}
}

// shed: is this what Shed tells?
func shed(t *testing.T, x *tape.Tape, place int, want api.Errno) {
	t.Helper()
	if e := x.Shed(place); e != want {
		t.Fatalf("Shed(%d): %d, not %d", place, e, want)
	}
}

// back: is this what Back tells?
func back(t *testing.T, x *tape.Tape, place int, want api.Errno) {
	t.Helper()
	if e := x.Back(place); e != want {
		t.Fatalf("Back(%d): %d, not %d", place, e, want)
	}
}

// fuse: is this what Fuse tells?
func fuse(t *testing.T, x *tape.Tape, strokes int, want api.Errno) {
	t.Helper()
	if e := x.Fuse(strokes); e != want {
		t.Fatalf("Fuse(%d): %d, not %d", strokes, e, want)
	}
}

// crash: is this what Crash tells?
func crash(t *testing.T, x *tape.Tape, keep int, want api.Errno) {
	t.Helper()
	if e := x.Crash(keep); e != want {
		t.Fatalf("Crash(%d): %d, not %d", keep, e, want)
	}
}

// holds: is the power on, and are these the places and the bytes, each time that they are asked for?
func holds(t *testing.T, x *tape.Tape, first, fast int, s string) {
	t.Helper()
	for range 2 {
		n, b, e := x.Read()
		if n != first || string(b) != s || e != api.OK {
			t.Fatalf("Read: %d, %.20q, %d, not %d, %.20q", n, b, e, first, s)
		}
		places(t, x, first, fast, first+len(s))
		if !x.On() {
			t.Fatalf("the power is off")
		}
	}
}

// dark: is the power off, with these places?
func dark(t *testing.T, x *tape.Tape, first, fast, end int) {
	t.Helper()
	for range 2 {
		if n, b, e := x.Read(); n != 0 || len(b) != 0 || e != api.ErrPower {
			t.Fatalf("Read: %d, %.20q, %d", n, b, e)
		}
		places(t, x, first, fast, end)
		if x.On() {
			t.Fatalf("the power is on")
		}
	}
}

// places: are these First, Fast and End?
func places(t *testing.T, x *tape.Tape, first, fast, end int) {
	t.Helper()
	if a, b, c := x.Places(); a != first || b != fast || c != end {
		t.Fatalf("Places: %d, %d, %d, not %d, %d, %d", a, b, c, first, fast, end)
	}
}

// lit: behind a crash that keeps so many, are these the places and the bytes, with the power on and no fuse?
func lit(t *testing.T, x *tape.Tape, keep, first, fast int, s string) {
	t.Helper()
	crash(t, x, keep, api.OK)
	holds(t, x, first, fast, s)
	for range 3 {
		hold(t, x, api.OK)
	}
}

// calls: what a tape tells of a row of calls, as words.
func calls(x *tape.Tape, d *dice, many int) string {
	var s bytes.Buffer
	tell := func(l ...int) {
		for _, n := range l {
			s.WriteString(strconv.Itoa(n) + " ")
		}
	}
	for range many {
		switch n := d.below(40); d.below(9) {
		case 0, 1, 2:
			tell(int(x.Write(letters(n, n/4))))
		case 3:
			tell(int(x.Hold()))
		case 4:
			tell(int(x.Shed(n)))
		case 5:
			tell(int(x.Back(n)))
		case 6:
			tell(int(x.Fuse(n)))
		default:
			tell(int(x.Crash(n)))
		}
		n, b, e := x.Read()
		first, fast, end := x.Places()
		tell(n, len(b), int(e), first, fast, end)
		s.Write(b)
	}
	return s.String()
}

// letters: so many of them, from one on and round again, so that neighbours are unlike.
func letters(from, many int) []byte {
	b := make([]byte, many)
	for i := range b {
		b[i] = 'a' + byte((from+i)%26)
	}
	return b
}

// ends: numbers far off, some of which are something else when they are cut to 32 bits.
func ends() []int {
	return append(belows(), aboves()...)
}

// belows: those below 0.
func belows() []int {
	return []int{math.MinInt, math.MinInt + 1, -1 << 33, -1<<32 - 1, -1 << 32, -1<<32 + 1, -1 << 31, -256, -255, -17, -3, -2, -1}
}

// aboves: those above whatever may be.
func aboves() []int {
	return []int{1<<24 + 1, 1<<24 + 2, 1 << 25, 1<<31 - 1, 1 << 31, 1<<32 - 1, 1 << 32, 1<<32 + 1, 1<<32 + 2, 1<<32 + 5, 1 << 62, math.MaxInt - 1, math.MaxInt}
}

// dice: numbers that look drawn, the same each time.
type dice struct{ seed uint64 }

// below: a number from 0 to n less 1.
func (d *dice) below(n int) int {
	d.seed = d.seed*6364136223846793005 + 1442695040888963407
	return int(d.seed >> 33 % uint64(n))
}
