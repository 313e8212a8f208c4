package roll_test

import (
	"bytes"
	"math"
	"strconv"
	"strings"
	"testing"

	"hallmoot/api"
	"hallmoot/roll"
	"hallmoot/tape"
)

// This file has tables of which the tests are made, and a second reckoning of what layer 18 tells.

// dressed: the dressed bytes, told by what stands in whose place.
func dressed(s string) string {
	return strings.NewReplacer("\x00", "\x01\x01", "\x01", "\x01\x02").Replace(s)
}

// stripped: the bytes of which these are the dressed ones, from sign to sign; are there any?
func stripped(s string) (string, bool) {
	bare := ""
	for {
		ahead, behind, there := strings.Cut(s, "\x01")
		if strings.Contains(ahead, "\x00") {
			return "", false
		}
		bare += ahead
		switch {
		case !there:
			return bare, true
		case strings.HasPrefix(behind, "\x01"):
			bare += "\x00"
		case strings.HasPrefix(behind, "\x02"):
			bare += "\x01"
		default:
			return "", false
		}
		s = behind[1:]
	}
}

// digits: a number's bytes.
func digits(n int64) string {
	if n < 128 {
		return string([]byte{byte(n)})
	}
	return string([]byte{byte(128 + n%128)}) + digits(n/128)
}

// number: that at the beginning of bytes, and what is behind it; is it there, in its one form?
func number(s string) (int64, string, bool) {
	n, power := int64(0), int64(1)
	for i := 0; i < len(s) && i < 9; i++ {
		n += int64(s[i]%128) * power
		if s[i] < 128 {
			return n, s[i+1:], n >= 0 && n <= api.MaxInt && digits(n) == s[:i+1]
		}
		power *= 128
	}
	return 0, "", false
}

// lined: the line of an entry.
func lined(n int64, kind int, s string) string {
	return dressed(digits(n)+digits(int64(kind))+s) + "\x00"
}

// unlined: the entry of a line; is it one?
func unlined(s string) (roll.Entry, bool) {
	if !strings.HasSuffix(s, "\x00") {
		return roll.Entry{}, false
	}
	bare, is := stripped(s[:len(s)-1])
	if !is {
		return roll.Entry{}, false
	}
	n, rest, is := number(bare)
	if !is || n == 0 {
		return roll.Entry{}, false
	}
	kind, rest, is := number(rest)
	if !is || kind != 1 && kind != 2 || len(rest) > 1<<22 {
		return roll.Entry{}, false
	}
	return roll.Entry{Number: n, Kind: int(kind), Bytes: rest}, true
}

// shelf: a second reckoning of a roll and its tape: bytes that are fast, those that aren't, strokes that are left (below 0: endless); all entries that the roll ever had or found.
type shelf struct {
	room, first int
	fast, loose string
	dark        bool
	left        int
	entries     []roll.Entry
	next        int64
	broken      bool
}

// counts: what counts of entries, from the last one back to a summary.
func counts(l []roll.Entry) (string, []string) {
	var records []string
	for i := len(l) - 1; i >= 0; i-- {
		if l[i].Kind == 2 {
			return l[i].Bytes, records
		}
		records = append([]string{l[i].Bytes}, records...)
	}
	return "", records
}

// burns: is there one more stroke?
func (x *shelf) burns() bool {
	switch {
	case x.left == 0:
		x.dark = true
		return false
	case x.left > 0:
		x.left--
	}
	return true
}

// put: what Add (1) or Sum (2) tells, and does.
func (x *shelf) put(kind int, s string) api.Errno {
	switch line := lined(x.next, kind, s); {
	case x.broken:
		return api.ErrPower
	case x.next > 1<<62:
		return api.ErrArg
	case len(s) > 1<<22:
		return api.ErrLong
	case x.dark:
		x.broken = true
		return api.ErrPower
	case len(x.fast+x.loose+line) > x.room:
		return api.ErrRoom
	default:
		ahead := len(x.fast + x.loose)
		if !x.stands(line) {
			x.broken = true
			return api.ErrPower
		}
		x.entries = append(x.entries, roll.Entry{Number: x.next, Kind: kind, Bytes: s})
		x.next++
		if kind == 1 {
			return api.OK
		}
		if !x.burns() {
			x.broken = true
			return api.ErrPower
		}
		x.first, x.fast = x.first+ahead, x.fast[ahead:]
		return api.OK
	}
}

// stands: a line is written, and held.
func (x *shelf) stands(line string) bool {
	if !x.writes(line) || !x.burns() {
		return false
	}
	x.fast, x.loose = x.fast+x.loose, ""
	return true
}

// writes: bytes at the end, as far as strokes go.
func (x *shelf) writes(s string) bool {
	for i := range len(s) {
		if !x.burns() {
			return false
		}
		x.loose += s[i : i+1]
	}
	return true
}

// crash: what a crash of the tape does.
func (x *shelf) crash(keep int) {
	n := int(uint64(keep) % uint64(len(x.loose)+1))
	x.fast, x.loose = x.fast+x.loose[:n], ""
	x.dark, x.left = false, -1
}

// open: what Open tells, and does; with an error the roll ahead of it stays.
func (x *shelf) open() api.Errno {
	if x.dark {
		return api.ErrPower
	}
	lines := strings.SplitAfter(x.fast+x.loose, "\x00")
	torn := len(lines[len(lines)-1])
	var l []roll.Entry
	for i, line := range lines[:len(lines)-1] {
		y, is := unlined(line)
		if !is || i > 0 && y.Number != l[i-1].Number+1 {
			return api.ErrLost
		}
		l = append(l, y)
	}
	if torn > 0 && !x.burns() {
		return api.ErrPower
	}
	all := (x.fast + x.loose)[:len(x.fast+x.loose)-torn]
	x.fast = x.fast[:min(len(x.fast), len(all))]
	x.loose = all[len(x.fast):]
	x.entries, x.next, x.broken = l, 1, false
	if len(l) > 0 {
		x.next = l[len(l)-1].Number + 1
	}
	return api.OK
}

// both: a roll with its tape, and their second reckoning.
type both struct {
	tape  *tape.Tape
	roll  *roll.Roll
	shelf *shelf
}

// twins: both, alike.
func twins(t *testing.T, room int) *both {
	t.Helper()
	x := made(t, room)
	return &both{x, opened(t, x), &shelf{room: room, left: -1, next: 1}}
}

// add: both, and whether they tell the same.
func (x *both) add(t *testing.T, s string) {
	t.Helper()
	add(t, x.roll, s, x.shelf.put(1, s))
	x.same(t)
}

// sum: both, and whether they tell the same.
func (x *both) sum(t *testing.T, s string) {
	t.Helper()
	sum(t, x.roll, s, x.shelf.put(2, s))
	x.same(t)
}

// fuse: both, and whether they hold the same.
func (x *both) fuse(t *testing.T, strokes int) {
	t.Helper()
	fuse(t, x.tape, strokes)
	x.shelf.left = strokes
	x.same(t)
}

// crash: both, and whether they hold the same.
func (x *both) crash(t *testing.T, keep int) {
	t.Helper()
	crash(t, x.tape, keep)
	x.shelf.crash(keep)
	x.same(t)
}

// open: both, and whether they tell the same.
func (x *both) open(t *testing.T) {
	t.Helper()
	r, e := roll.Open(x.tape)
	if want := x.shelf.open(); e != want || (r == nil) != (e != api.OK) {
		t.Fatalf("Open: %v, %d, not %d", r, e, want)
	}
	if r != nil {
		x.roll = r
	}
	x.same(t)
}

// same: do both tell and hold the same?
func (x *both) same(t *testing.T) {
	t.Helper()
	head, records := counts(x.shelf.entries)
	tells(t, x.roll, x.shelf.next, head, records...)
	fast := x.shelf.first + len(x.shelf.fast)
	places(t, x.tape, x.shelf.first, fast, fast+len(x.shelf.loose))
	if x.tape.On() == x.shelf.dark {
		t.Fatalf("the power: %t", x.tape.On())
	}
	if !x.shelf.dark {
		holds(t, x.tape, x.shelf.first, x.shelf.fast+x.shelf.loose)
	}
}

// made: a tape that holds nothing.
func made(t *testing.T, room int) *tape.Tape {
	t.Helper()
	x, e := tape.New(room)
	if e != api.OK {
		t.Fatalf("tape.New(%d): %d", room, e)
	}
	return x
}

// written: a tape with room for more that holds these bytes, fast.
func written(t *testing.T, s string) *tape.Tape {
	t.Helper()
	x := made(t, len(s)+1000)
	loose(t, x, s)
	hold(t, x)
	return x
}

// loose: bytes more on a tape, that aren't fast.
func loose(t *testing.T, x *tape.Tape, s string) {
	t.Helper()
	if e := x.Write([]byte(s)); e != api.OK {
		t.Fatalf("tape.Write(%.20q): %d", s, e)
	}
}

// hold: all that a tape holds is fast.
func hold(t *testing.T, x *tape.Tape) {
	t.Helper()
	if e := x.Hold(); e != api.OK {
		t.Fatalf("tape.Hold: %d", e)
	}
}

// fuse: a tape has so many strokes.
func fuse(t *testing.T, x *tape.Tape, strokes int) {
	t.Helper()
	if e := x.Fuse(strokes); e != api.OK {
		t.Fatalf("tape.Fuse(%d): %d", strokes, e)
	}
}

// crash: of a tape.
func crash(t *testing.T, x *tape.Tape, keep int) {
	t.Helper()
	if e := x.Crash(keep); e != api.OK {
		t.Fatalf("tape.Crash(%d): %d", keep, e)
	}
}

// out: the power of a tape goes, with nothing else.
func out(t *testing.T, x *tape.Tape) {
	t.Helper()
	fuse(t, x, 0)
	if e := x.Hold(); e != api.ErrPower || x.On() {
		t.Fatalf("tape.Hold without a stroke: %d", e)
	}
}

// opened: the roll of a tape.
func opened(t *testing.T, x *tape.Tape) *roll.Roll {
	t.Helper()
	r, e := roll.Open(x)
	if e != api.OK || r == nil {
		t.Fatalf("Open: %v, %d", r, e)
	}
	return r
}

// closed: is this the error of Open, and no roll with it?
func closed(t *testing.T, x *tape.Tape, want api.Errno) {
	t.Helper()
	if r, e := roll.Open(x); r != nil || e != want {
		t.Fatalf("Open: %v, %d, not %d", r, e, want)
	}
}

// lost: is what such a tape holds no roll, with and without a torn end, and is nothing taken back?
func lost(t *testing.T, s string) {
	t.Helper()
	for _, torn := range []string{"", "a", "\x05\x01\x02"} {
		x := written(t, s+torn)
		closed(t, x, api.ErrLost)
		holds(t, x, 0, s+torn)
		fuse(t, x, 0)
		closed(t, x, api.ErrLost)
		holds(t, x, 0, s+torn)
	}
}

// right: does such a tape hold a roll, of which this counts?
func right(t *testing.T, s string, next int64, head string, records ...string) {
	t.Helper()
	for _, torn := range []string{"", "a", "\x01", "\x05\x01\x02"} {
		x := written(t, s+torn)
		tells(t, opened(t, x), next, head, records...)
		holds(t, x, 0, s)
		tells(t, opened(t, x), next, head, records...)
	}
}

// add: is this what Add tells?
func add(t *testing.T, r *roll.Roll, s string, want api.Errno) {
	t.Helper()
	if e := r.Add([]byte(s)); e != want {
		t.Fatalf("Add(%.20q): %d, not %d", s, e, want)
	}
}

// sum: is this what Sum tells?
func sum(t *testing.T, r *roll.Roll, s string, want api.Errno) {
	t.Helper()
	if e := r.Sum([]byte(s)); e != want {
		t.Fatalf("Sum(%.20q): %d, not %d", s, e, want)
	}
}

// put: is this what Add (1) or Sum (2) tells?
func put(t *testing.T, r *roll.Roll, kind int, s string, want api.Errno) {
	t.Helper()
	if kind == 1 {
		add(t, r, s, want)
		return
	}
	sum(t, r, s, want)
}

// tells: are this the next Number, and what counts, each time that they are asked for?
func tells(t *testing.T, r *roll.Roll, next int64, head string, records ...string) {
	t.Helper()
	for range 2 {
		if n := r.Next(); n != next {
			t.Fatalf("Next: %d, not %d", n, next)
		}
		if b := r.Summary(); string(b) != head {
			t.Fatalf("Summary: %.20q, not %.20q", b, head)
		}
		l := r.Records()
		if len(l) != len(records) {
			t.Fatalf("Records: %.20q, not %.20q", l, records)
		}
		for i, b := range l {
			if string(b) != records[i] {
				t.Fatalf("Records, %d: %.20q, not %.20q", i, b, records[i])
			}
		}
	}
}

// holds: are these the first place and the bytes of a tape, with the power on?
func holds(t *testing.T, x *tape.Tape, first int, s string) {
	t.Helper()
	if n, b, e := x.Read(); n != first || string(b) != s || e != api.OK {
		t.Fatalf("tape.Read: %d, %.40q, %d, not %d, %.40q", n, b, e, first, s)
	}
}

// fast: as holds, and is all of it fast?
func fast(t *testing.T, x *tape.Tape, first int, s string) {
	t.Helper()
	holds(t, x, first, s)
	places(t, x, first, first+len(s), first+len(s))
}

// places: are these First, Fast and End of a tape?
func places(t *testing.T, x *tape.Tape, first, fast, end int) {
	t.Helper()
	if a, b, c := x.Places(); a != first || b != fast || c != end {
		t.Fatalf("tape.Places: %d, %d, %d, not %d, %d, %d", a, b, c, first, fast, end)
	}
}

// strips: is this what Strip tells, of bytes whose dressed bytes these are?
func strips(t *testing.T, s, want string) {
	t.Helper()
	if got, e := roll.Strip(s); got != want || e != api.OK {
		t.Fatalf("Strip(%.20q): %.20q, %d, not %.20q", s, got, e, want)
	}
}

// frameless: does Strip tell ErrFrame, and nothing else?
func frameless(t *testing.T, s string) {
	t.Helper()
	if got, e := roll.Strip(s); got != "" || e != api.ErrFrame {
		t.Fatalf("Strip(%.20q): %.20q, %d", s, got, e)
	}
}

// line: that of an entry, which is this one, and of which it is the entry.
func line(t *testing.T, n int64, kind int, s string) string {
	t.Helper()
	x := roll.Entry{Number: n, Kind: kind, Bytes: s}
	got, e := roll.Line(x)
	if got != lined(n, kind, s) || e != api.OK {
		t.Fatalf("Line(%d, %d, %.20q): %.40q, %d", n, kind, s, got, e)
	}
	if y, e := roll.Unline(got); y != x || e != api.OK {
		t.Fatalf("Unline(%.40q): %d, %d, %.20q, %d", got, y.Number, y.Kind, y.Bytes, e)
	}
	return got
}

// lineless: is this the error of Line, and nothing else?
func lineless(t *testing.T, n int64, kind int, s string, want api.Errno) {
	t.Helper()
	if got, e := roll.Line(roll.Entry{Number: n, Kind: kind, Bytes: s}); got != "" || e != want {
		t.Fatalf("Line(%d, %d, %.20q): %.40q, %d, not %d", n, kind, s, got, e, want)
	}
}

// unlines: is this the entry of the line?
func unlines(t *testing.T, s string, want roll.Entry) {
	t.Helper()
	if x, e := roll.Unline(s); x != want || e != api.OK {
		t.Fatalf("Unline(%.40q): %d, %d, %.20q, %d", s, x.Number, x.Kind, x.Bytes, e)
	}
}

// entryless: does Unline tell ErrFrame, and nothing else?
func entryless(t *testing.T, s string) {
	t.Helper()
	if x, e := roll.Unline(s); x != (roll.Entry{}) || e != api.ErrFrame {
		t.Fatalf("Unline(%.40q): %d, %d, %.20q, %d", s, x.Number, x.Kind, x.Bytes, e)
	}
}

// fitting: does Unline tell the entry whose Line is those bytes, where the second reckoning has one, and else ErrFrame? Is there one?
func fitting(t *testing.T, s string) bool {
	t.Helper()
	want, is := unlined(s)
	if !is {
		entryless(t, s)
		return false
	}
	unlines(t, s, want)
	if got, e := roll.Line(want); got != s || e != api.OK {
		t.Fatalf("Line of Unline(%.40q): %.40q, %d", s, got, e)
	}
	return true
}

// calls: what a roll and its tape tell of a row of calls, as words.
func calls(x *tape.Tape, d *dice, many int) string {
	var s bytes.Buffer
	tell := func(l ...int) {
		for _, n := range l {
			s.WriteString(strconv.Itoa(n) + " ")
		}
	}
	r, e := roll.Open(x)
	for range many {
		switch n := d.below(40); d.below(9) {
		case 0, 1, 2, 3:
			tell(int(r.Add(d.row(n / 4))))
		case 4:
			tell(int(r.Sum(d.row(n / 4))))
		case 5:
			tell(int(x.Fuse(n)))
		case 6:
			tell(int(x.Crash(n)))
		default:
			r, e = roll.Open(x)
		}
		first, fast, end := x.Places()
		tell(int(e), int(r.Next()), first, fast, end)
		s.Write(r.Summary())
		s.Write(bytes.Join(r.Records(), []byte(",")))
	}
	return s.String()
}

// rows: all rows of these letters with up to so many of them.
func rows(letters string, most int) []string {
	all := []string{""}
	for from := 0; most > 0; most-- {
		upto := len(all)
		for _, s := range all[from:upto] {
			for i := range len(letters) {
				all = append(all, s+letters[i:i+1])
			}
		}
		from = upto
	}
	return all
}

// each: each single byte.
func each() []string {
	var l []string
	for c := range 256 {
		l = append(l, string([]byte{byte(c)}))
	}
	return l
}

// numbers: of entries, whose bytes have 1s in them, or become longer there.
func numbers() []int64 {
	l := []int64{1, 2, 3, 9, 10, 126, 127, 128, 129, 130, 255, 256, 257, 1<<14 - 1, 1 << 14, 1<<14 + 1, 1<<21 - 1, 1 << 21, 1<<31 - 1, 1 << 31, 1<<32 - 1, 1 << 32, 1<<32 + 1, 1<<62 - 1, 1 << 62}
	for power := int64(128); power < 1<<56; power *= 128 {
		l = append(l, power-1, power, power+1, 2*power)
	}
	return l
}

// ends: numbers far off, some of which are something else when they are cut to 32 bits or fewer.
func ends() []int {
	return append(belows(), aboves()...)
}

// belows: those below 0.
func belows() []int {
	return []int{math.MinInt, math.MinInt + 1, math.MinInt + 2, -1 << 62, -1 << 33, -1<<32 - 1, -1 << 32, -1<<32 + 1, -1<<32 + 2, -1 << 31, -256, -255, -254, -3, -2, -1}
}

// aboves: those above the kinds of entries.
func aboves() []int {
	return []int{3, 4, 127, 128, 129, 130, 255, 256, 257, 258, 1<<16 + 1, 1<<16 + 2, 1<<31 - 1, 1 << 31, 1<<32 - 1, 1 << 32, 1<<32 + 1, 1<<32 + 2, 1 << 62, 1<<62 + 1, math.MaxInt - 1, math.MaxInt}
}

// dice: numbers that look drawn, the same each time.
type dice struct{ seed uint64 }

// below: a number from 0 to n less 1.
func (d *dice) below(n int) int {
	d.seed = d.seed*6364136223846793005 + 1442695040888963407
	return int(d.seed >> 33 % uint64(n))
}

// row: so many bytes, half of which are 0, 1 or 2.
func (d *dice) row(many int) []byte {
	b := make([]byte, many)
	for i := range b {
		b[i] = byte(d.below(256))
		if d.below(2) == 0 {
			b[i] = byte(d.below(3))
		}
	}
	return b
}
